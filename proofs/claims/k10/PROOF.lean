import PyProof.Rows.All
import Wide.All
import OpenK.AllK
import Wide.FinOn
import Lean
import PyProof.EqAt
import PyProof.EqKinds
import PyProof.TupleCall
import PyProof.SetNew
import PySem.Challenge.RW_leafhouse_k10_whole_shelves_alike
set_option Elab.async false
set_option linter.all false
set_option maxRecDepth 100000
set_option maxHeartbeats 8000000
set_option autoImplicit true
set_option relaxedAutoImplicit true
set_option genSizeOf false
set_option compiler.extract_closed false
set_option bootstrap.genMatcherCode false
set_option tactic.hygienic false
noncomputable section
open PySem renaming Str->o8,Obj->o7
local macro_rules|`(tactic|let $x:ident:=$e)=>`(tactic|have $x:ident:=$e)|`(tactic|let $x:ident $t:typeSpec:=$e)=>`(tactic|have $x:ident $t:typeSpec:=$e)
abbrev lg:=List
abbrev o9:=Option
def dg:=@of_decide_eq_true
def dh:=@decide_eq_true_eq
def di:=@if_pos
def dm:=@decide_eq_true
def dq:=@if_neg
def dw:=@decide_eq_false
local macro_rules|`(tactic|rfl')=>`(tactic|kernel_rfl)
def p8:Nat->Lean.Term->Array Lean.Term->Lean.MacroM Lean.Term
|0,_,_=>Lean.Macro.throwUnsupported
|n+1,s,a=>match s with
 |`($f[$x])=>p8 n f (#[x]++a)
 |_=>pure (Lean.Syntax.mkApp s a)
local macro_rules|`($f[$x])=>p8 99 f #[x]
open Unit renaming unit->u9
open Prod renaming mk->u6
def u5:Nat->Lean.Syntax->Lean.MacroM (Lean.TSyntax `rcasesPat)
|0,_=>Lean.Macro.throwUnsupported
|n+1,s=>match s with
 |`(($a,$b,*))=>do `(rcasesPat|⟨$[$(←(#[a]++b.getElems).mapM λx=>do `(Lean.Parser.Tactic.rcasesPatLo|$(←u5 n x):rcasesPat))],*⟩)
 |`(_)=>`(rcasesPat|_)
 |`($i:ident)=>`(rcasesPat|$i:ident)
 |_=>Lean.Macro.throwUnsupported
local macro_rules|`(tactic|let ($a,$b,*):=$e)=>do `(tactic|obtain $(←u5 9 (←`(($a,$b,*)))):rcasesPat :=$e)
local macro_rules|`(($a,$b,*))=>`(⟨$a,$b,*⟩)|`(())=>`(by first|decide +kernel|omega)
local macro_rules|`(def $i:declId $s:optDeclSig :=$v)=>Lean.MonadRef.withRef .missing do if v.raw.isOfKind ``Lean.Parser.Term.byTactic||v.raw.isOfKind ``Lean.Parser.Term.paren then `(theorem $i $(Lean.mkNode ``Lean.Parser.Command.declSig #[s.raw.getArg 0,(s.raw.getArg 1).getArg 0]) :=$v) else `(noncomputable def $i:declId $s:optDeclSig :=$v)
local macro_rules|`(def $i:declId $s:optDeclSig $v:declValEqns)=>Lean.MonadRef.withRef .missing `(noncomputable def $i:declId $s:optDeclSig $v:declValEqns)
open Option renaming some->sr,none->sy
open Bool renaming true->t8,false->tu
open PySem renaming wpAny_bind->aA,Value->aG,wpAny_pure->aJ,Addr->aL,Shared->aO,Program->cF,Expr->cM,Stmt->cQ,wpAny_callSpecial?_slot->cW,wpAny_call_entry->cZ,strKind->dD,World->dG,wpAny_field->dI,wpAny_newObj_type->dU,Heap->dY,wpAny_mono->eF,FuncData->eU,Around->fJ,wpAny_setField->fP,wpAny_holding->fW,wpAny_truthy_bool->gM,wpAny_seqItems->gO,wpAny_Call_Name_kw->gZ,codeAny_call_builtin->iD,codeAny_builtin->iG,mem_of_lookup->iH,Keyword->iQ,wpAny_setField_rec->iW,codeAny_mono->jH,wpAny_loadPart_at->jJ,wpAny_setState_of->jL,Scope->jR,wpAny_setEntries_of->jT,wpAny_askSetting->jY,PyData->kO,Builtin->kY,NameKind->lK,wpAny_isInstance->lW,wpAny_attempt->mO,wpAny_passesOwn->mR,wpAny_ite_split->mV,tupleKind_room_in1->mX,wpAny_pyIter_list->nA,wpAny_pyIter_enum->nM,wpAny_rule->oE,IsPair->oF,wpAny_standAt->oH,plainId_quiet->oJ,wpAny_updateSeq_pair->oM,wpAny_typeOf->pB,Paired->pL,wpAny_pyIter_tuple->pO,wpAny_fieldsOf->qC,wpAny_sequenceKey->qN,wpAny_of_eq->qO,fits_of_scanBound->qR,wpAny_onRaise->rB,ExceptHandler->rE,noFill_tuple_add->rJ,IsPart->sE,wpAny_call->sH,wpAny_execs_nil->sV,codeAny_of_tree->tE,weight_type_call_type->tK,sizeLine_eq->tX,IsZip->tZ,isSubtype_stop->uA,SetTable->uD,isSubtype_type->uE,seq_tuple_add->uX,CmpOp->vD,call_meets->vK,Within->vX,BindsTo->wB,concat_meets->wC,wpAny_pyIter_strU->wF,wpAny_storeSet_of->wJ,wpAny_pyIter_slot->wM,wpAny_setEpoch_of->wN,slot_dict_getitem->wR,PassesOwn->xG,take_succ_filter->xJ,wpAny_pyIter_zip->xO,entryFor_of_tree->xQ,wpAny_throw->xU,wpAny_letGo->xV,wpAny_updateSeq->yJ,GenState->yR,wpAny_Name->yS,wpAny_loadPart->yV,typeIs_str->zF,typeIs_int->zH,fitsIndex_both->zJ,call->zL,wpAny_newTuple->zO,entryFor_alias->zU,intBits_le_64->aAb,call_list_seq->aAc,evalPart_none->aAf,wpAny_handled->aAg,wpAny_newList->aAi,seqIndex_neg->aAt,ElemsOf->aBa,sub_set_self->aBb,Operator->aBx,Drawn->aCu,Walks->aCx,Meets->aCy
open List renaming length_map->aB,getElem?_eq_some_iff->aC,mem_singleton->aK,getElem?_eq_getElem->aM,prefix_refl->aP,mem_cons->aV,getElem?_map->aX,getElem?_append_left->aY,getElem?_append_right->aZ,mem_cons_of_mem->bD,all_eq_true->bF,mem_cons_self->bG,length_append->bH,mem_map->bK,length_cons->bL,length_range->bM,append_assoc->bN,replicate->bO,length_take->bQ,mem_append->bR,map_cons->bT,size_toArray->bV,prefix_append->bW,map_append->cB,mem_append_right->cC,not_mem_nil->cD,getD_eq_getElem?_getD->cG,append_nil->cH,map_map->cL,range->cO,mem_filter->cP,length_singleton->cX,length_replicate->dC,length_filter_le->dF,take_append_getElem->dH,length_drop->dJ,lookup_cons->dM,mem_of_getElem?->dO,drop_eq_nil_of_le->dX,getElem?_eq_none->eE,drop_eq_getElem_cons->eV,getElem?_set_self->eX,pairwise_cons->eY,all_cons->fG,mem_append_left->fK,getElem?_set_ne->fM,mem_of_mem_take->fU,nodup_cons->fV,take_length->fX,getElem_mem->fY,nodup_append->gB,filter_cons->gG,filter_eq_self->gQ,length_set->gV,getElem?_eq_none_iff->gW,mem_range->iC,getElem?_range->iJ,take_append_drop->jA,lookup->jG,forall_mem_cons->jN,getElem_inj->jU,getElem?_replicate->jW,mem_filterMap->jZ,take_of_length_le->lB,nil_append->lE,nodup_nil->lM,pairwise_append->lO,any_eq_true->lY,map_congr_left->mH,pairwise_mergeSort->mZ,take_sublist->nF,drop_zero->nQ,map_take->oK,eq_nil_of_length_eq_zero->oN,filterMap_cons->oV,takeWhile_cons->oX,take_succ_cons->oY,length_eraseIdx_of_lt->pZ,mem_of_find?_eq_some->qK,not_lt->qQ,ext_getElem?->qU,getElem?_take_of_lt->qX,any_cons->qZ,map_drop->rF,sum_cons->rG,cons_append->rO,pairwise_singleton->rW,map_nil->sI,of_mem_zip->sX,length_nil->sY,forIn_cons->tD,length_zip->tH,getElem?_zipWith->tR,length->tY,drop_eq_nil_iff->uG,mem_of_mem_drop->uH,replicate_succ'->uI,replicate_succ->uQ,mergeSort_perm->uT,getElem_of_mem->uU,length_zipWith->uV,getElem?_drop->vP,filter_append->vR,zipIdx_cons->xM,foldl_cons->xZ,zipIdx_nil->yG,find?_cons->yK,find?_some->yM,all_append->yN,filter_map->yO,forIn_nil->zN,take_zero->zY,findIdx?->aAk,all_map->aBj,foldl->aCn,zip->aDk
open PySem.W renaming Frag->aD,nsIn->bB,mg_of->bJ,mg_none_of->bU,findIn->cN,fnOf->dR,keepIn->eG,kia_one->fB,hideAll->jB,makesIn->jC,kitOne->jV,instObj->lD,hasDictIn->lG,emptyDict->lH,codeIn->lL,callWith_K0->mF,mroIn->mJ,plainGet->nZ,plainGet_of->oW,lookIn->pP,callWith_K->pR,plainOver->qM,isFn->rY,cellsFrom_some->rZ,takerIn->sW,OpenLaw->sZ,hideAll_none->tV,hideAll_get->uN,findObj_own->uO,clsIn->uZ,of_hideAll->vI,specialIn->vY,kitx_list->vZ,kitx_dict->wA,kdl_dict->xP,typeIn->yW,WalkO->aAd
open PySem.Heap renaming get?_push_of_some->aF,get?_push_size->aR,lt_size->aU,get?_update_other->cJ,get?_update_self->cY,size_push->fO,SameBut->gD,get?_none_of_le->jF,FlyingW->kJ,NotedW->aBv,ExtBut->aBw
open Nat renaming le_trans->aH,le_refl->aN,lt_of_lt_of_le->bC,zero_le->bI,ne_of_lt->bZ,lt_irrefl->eN,lt_of_le_of_lt->eZ,sub_self->fZ,le_of_lt->gK,le_succ->gU,lt_succ_self->gY,add_le_add_left->iM,mul_le_mul_right->lN,ne_of_gt->lQ,le_of_eq->lR,succ_le_succ->lV,le_add_right->lX,le_of_ble_eq_true->nW,succ_ne_self->oA,min_eq_left->oU,min_le_right->rK,lt_succ_of_lt->wG,sub_zero->wL,lt_or_ge->wO,min_eq_right->xT,min_le_left->yL,lt_trans->aAu,zero_add->aBk,le_total->aBm,mod_lt->aCr,not_lt->aCt
open Bool renaming and_eq_true->aQ,and_eq_true_iff->bY,false_ne_true->cR,or_eq_true->fC,eq_false_iff->jK,false_eq_true->kZ,or_eq_true_iff->mC,true_and->mQ,not_true->rA,not_eq_true->rR,false_or->vB,not_eq_true'->wI,false_and->yU,or_true->aBl
open Array renaming length_toList->aW,getElem?_eq_some_iff->fQ,getElem?_toList->gC,replicate->jE,toList_append->mG,getElem?_setIfInBounds_ne->nR,eq_empty_of_size_eq_zero->oG,getD_eq_getD_getElem?->pI,append_assoc->pM,append_empty->pU,getElem?_eq_none_iff->pY,getElem?_eq_getElem->qH,size_eq_one_iff->tL,empty_append->vO,toList_push->wK,size_append->wU,toList->aAs,getD->aCs
open Option renaming map_eq_some_iff->bA,isSome_map->eQ,isSome_iff_exists->mK,bind_eq_some_iff->rM,map_map->uF,getD_none->xH,getD_some->xR
open Option.some renaming inj->cA,injEq->gA
open PySem.Obj renaming data_mapFields->cU,isFreed_of_fields->fH,mapFields->iT,cls_mapFields->lJ,mapSeq->mW,putSet->zR
open PySem.Value renaming ref->cV,none->gJ,builtin->iB,type->nY,isStrOf->qW,int->uK,str->uL,isStrOf_shape->uM,bool->yQ,isInt->aBo,float->aBp
open PySem.Builtin.Str renaming occurrences->dB,strSliceIndices->pK
open PySem.Txt renaming slice->dN,stripChars->iZ,ljustF->sJ,mul->yP,join->zW,stripBy->aCb,rfind->aDf,find->aDj
open Int renaming toNat_natCast->dW,toNat_of_nonneg->iK,emod_nonneg->jD,emod_lt_of_pos->lC,fdiv_eq_ediv_of_nonneg->qD,zero_add->sS,mul_ediv_add_emod->tU,natCast_nonneg->vM,emod_eq_of_lt->wV,pow_succ->wW,lt_trans->wX,le_refl->xX,ne_of_gt->aBg,le_of_lt->aBh,mul_comm->aBi,add_mul->aCa
open PyProof.Rows renaming slot_tuple_getitem->dZ,step_dedup->gH,callWith_type1->iR,StrsAre->mU,AllBare->pA,IntsAre->pD,subscriptTail_builtinR->sG,entry_list_sort->tG,firstMet->tO,slot_list_sort->uB,args_list_sort->uC,entry_tuple_getitem->uP,sortedHeap_at->vC,args_tuple_getitem->vJ,slice_closes_from_neg->vQ,IsTup->vW,slice_closes_to_neg->wY,slice_closes_fromL->xF,callWith_builtin1->xK,slice_closes_toL->xW,list_sort_treeK->yH,slicePart_none->yX,tail_any->zE,boot_enumerate->zM,sortedHeap_old->zP,sorted_out_str->zQ,slice_closesL->zX,printed_star->aAa,sortedAll_old->aAh,strKind_oneLt->aAj,sortedAll_at->aAv,plain_sorted->aAw,entry_sorted->aAx,args_sorted1->aAy,keyKind_strs->aAz
open Ne renaming symm->eO
open PySem.NameKind renaming free->fD,cell->uY
open False renaming elim->gF
open PySem.F renaming plainAttrs_str->gP,slot_tuple_iterator_next->iV,called_set->lA,args_tuple_add_2->mL,entry_tuple_add->mY,slot_tuple_add->nG,attr_ValueError->nJ,typeOf_object_class->nU,args_tuple_iterator_next_1->oO,slot_zip_next->oR,entry_tuple_iterator_next->pF,called_enumerate->pX,plain_extend_loop->qI,slot_dict_getitem->qJ,plain_list_iadd->rN,plainAttrs_list->rP,slot_dict_pop->tM,slot_gs_get->vA,entry_type_call->wD,args_zip_next_1->wH,entry_zip_next->xN,slot_int_rmul->yE,entry_bexc_ga->yF,plain_set_new->yI
open PySem.Heap.SameBut renaming update->gR,refl->aDa
open True renaming intro->iU
open PySem.SetTable renaming below->iY,grown->jX
open PySem.Around renaming under_plainId->jM,under_plain->vL
open Function renaming comp_def->jO
open PySem.Builtin.Tuple renaming tupleExact->jP,tupleItemsOf->pQ,tupleIsExact->zV
open List.cons renaming inj->jQ
open ForInStep renaming yield->lF
open PySem.Str renaming ofString->lU,empty->aDd
open PySem.Builtin.Slice renaming slicePlaces->lZ,sliceAdjust->qF,slicePartIndex->xY,sliceApplied->yZ
open PySem.PyData renaming tuple->nO,strOk->sO,int->sU,none->uJ,eqv->vN,str->vU
open PySem.SeqAt renaming shaped->nP,EqAt->zG
open Sum renaming inl->oZ,inr->qL
open PySem.Builtin.List renaming listLengthHint->pG,listExtendWith->pH,listTooLong->qY,listSameRef->rD,listFitsIndex->zK
open PyProof.Rows.KTD.Dat renaming flat->pJ
open PySem.Calls renaming Name_function_global->pN,call_function_entry->qG
open PySem.Code renaming quiet_builtin->pW
open PySem.WalksT renaming enumerateD->qP
open PySem.Data renaming cell->rH,fields->tW,seq->aBu
open PySem.EntryCells renaming newEntry->uR
open PySem.Paired renaming length->uW,snoc->aBt
open PySem.SeqAt.EqAt renaming int_str->vG,str_int->vH,tuple_none->aBn,none_bool->aBq,bool_none->aBr,bool_bool->aBs,none_int->aCc,none_str->aCd,bool_int->aCe,bool_str->aCf,int_none->aCg,int_bool->aCh,str_none->aCi,str_bool->aCj,int_int->aCl,str_str->aCm,same->aDg
open PySem.AutoListH renaming list___mul___list_int_3->vV
open PySem.SetTable.below renaming go->wQ
open Prod renaming mk->wZ
open PySem.Builtin.Frozenset renaming newClass->zT,sizeOf->aAm,slot0->aAq
open Classical renaming byContradiction->zZ,propDecidable->aAr
open PySem.Value.ref renaming inj->aAe
open PySem.Shared renaming TypeIs->aAl
open List.Pairwise renaming imp_of_mem->aAn,nil->aCw
open PySem.Builtin.Range renaming rangeSize->aAo
open PyProof.Rows.IsTup renaming new->aAp
open PySem.Manifest.Receiver renaming self->aBc,none->aBd
open Nat.succ renaming inj->aBe
open PyProof.Rows.KTD renaming datLooks->aBf,datumAt->aBy,tabLook->aBz
open PySem.W.Looks renaming here->aCk
open PySem.Heap.IsSliceOf renaming new->aCo
open List.Perm renaming cons_inv->aCp,swap->aDi
open PySem.Walks renaming list->aCq
open PySem.Within renaming cons->aCv
open PySem.Heap.IsTuple renaming push->aCz
open PySem.PassesOwn renaming leaving->aDb
open PySem.DictEntry renaming refKey->aDc
open PySem.IsL renaming update->aDe
open PySem.Heap.DictOf renaming new->aDh
namespace PySem.W.Fast
def tw17793614165186179864:=0
def tw15762113208077985935:=0
def tw17864096455697664762:=0
def tw1713527796704622729:=0
def tw14932077814328269861:=0
def tw997338146587265866:=0
def tw14156674926180559348:=0
def tw2958369913142586993:=0
def tw749867739400986500:=0
def tw15565228840225451343:=0
def tw16980824475956060730:=0
def tw13484842351848979019:=0
def tw4515589116974589177:=0
def tw10161728796200607685:=0
def tw6623993936017406736:=0
def tw6159344850568847695:=0
def tw1565062257329288070:=0
def tw8474875122268564236:=0
def tw17988641445001791339:=0
def tw3330347787182143486:=0
def tw1924213847027576163:=0
def tw2651668286759810963:=0
def tw5221692140437873301:=0
def tw14852193228116218346:=0
def tw14790180457070304373:=0
def tw3189801607004106822:=0
def tw5348303234889701594:=0
def tw7668045859021823000:=0
def tw5025174202132812057:=0
def tw12307360600479391721:=0
def tw8088485027701855630:=0
def tw10906322257307869368:=0
def tw16150963440004534696:=0
def tw1655872489359113524:=0
def tw5236223345295360099:=0
def tw13280881137579881396:=0
def tw4486039328463511930:=0
def tw3003108896358436169:=0
def tw3784196781767392060:=0
def tw5363323571959142511:=0
def tw9962736679727342064:=0
def tw8830742748525752878:=0
def tw1246690963326053134:=0
def tw4884913716892581458:=0
def tw5404131888681378827:=0
def tw5028191750163218106:=0
def tw429365089921873773:=0
def tw7455040313444928890:=0
def tw9309536424881306093:=0
def tw16253270908733635499:=0
def tw6042523710448659814:=0
def tw17005710746672989296:=0
def tw4985020276103927558:=0
def tw18189367050879023250:=0
def tw12044265841719688314:=0
def tw2931107671476451013:=0
def tw8977919889150916990:=0
def tw2321741507436879100:=0
def tw4778649084403293182:=0
def tw5815194990970678848:=0
def tw5246855178813960896:=0
def tw1976656822050112230:=0
def tw3809254994168064353:=0
def tw13698076682167948788:=0
def tw14065672354756907101:=0
def tw2305607626738770444:=0
def tw9499418731019145721:=0
def tw8148599301089870448:=0
def tw3965937803646222165:=0
def tw4189680957708936957:=0
def tw17443612157572142092:=0
def tw12203659204097488856:=0
def tw4198672668917312720:=0
def tw11448522907590245113:=0
def tw5914591898483440762:=0
def tw15099874329391704567:=0
def tw7294352964984677024:=0
def tw6877238177314246585:=0
def tw9052102838407016010:=0
def tw8040770053716077872:=0
def tw3881646637898771077:=0
def tw1148917369728572155:=0
def tw9024056753193681146:=0
def tw1962769421412646759:=0
def tw8690132564876759977:=0
def tw12616939693313849900:=0
def tw15459759121059528799:=0
def tw4758558210837490384:=0
def tw15327108051654109718:=0
def tw16423856695742565619:=0
def tw14858227462809795720:=0
def tw4624588976581524589:=0
def tw3601542731939197329:=0
def tw17015696033806117537:=0
def tw15889247051903051368:=0
def tw9647857165276491667:=0
def tw4333094865482739761:=0
def tw10887349510791152747:=0
def tw15804421920854297175:=0
def tw2203554943297589003:=0
def tw14995098337722236740:=0
def tw7268428485229446265:=0
def tw3805020279901872733:=0
def tw15150668745190787310:=0
def tw15589596666549021119:=0
def tw1289051543206872107:=0
def tw13405051396806722958:=0
def tw2127065560498778164:=0
def tw6543287974795496706:=0
def tw9159230354903409411:=0
def tw5124708764260644744:=0
def tw9528037295541835419:=0
def tw12882749631828551259:=0
def tw8208197006455990508:=0
def tw13223736636212959186:=0
def tw582872979625338149:=0
def tw2706792923992387805:=0
def tw13718585236734260717:=0
def tw13848939726343727009:=0
def tw14068007746179696794:=0
def tw447648158224353172:=0
def tw8117657307993347181:=0
def tw17598970160561224370:=0
def tw2154385159943239725:=0
def tw3489695990217185527:=0
def tw11533267532879967840:=0
def tw4922661518102726619:=0
def tw3358506792414707619:=0
def tw1948574506764090991:=0
def tw8163962202270534827:=0
def tw11992875014963646244:=0
def tw13972259509877206606:=0
def tw13221865376958598415:=0
def tw7194854479161886671:=0
def tw4456637522220956944:=0
def tw4817802146122622970:=0
def tw5933599061163021279:=0
def tw7333667142476261299:=0
def tw15574615140221267962:=0
def tw14617931750991812517:=0
def tw5574668491871151123:=0
def tw15907599691693886132:=0
def tw4886732613214520161:=0
def tw3339789541185971025:=0
def tw12337336538095455212:=0
def tw10765374606763008227:=0
def tw11440205926064243468:=0
def tw14089392830608668232:=0
def tw14701566567019054364:=0
def tw293967810447540291:=0
def tw16562365431614470635:=0
def tw18023664579038303041:=0
def tw464761782516664156:=0
def tw7069755986478441051:=0
def tw6507389018896371732:=0
def tw10605022683582634243:=0
def tw9219991563967156774:=0
def tw11576443023725490635:=0
def tw14391175801069377368:=0
def tw7130250933513824789:=0
def tw408136532782732305:=0
def tw13358247050513567662:=0
def tw17371863361525781123:=0
def tw14300137401307092149:=0
def tw6422821843645209044:=0
def tw3020442792200707409:=0
def tw12398684244786394660:=0
def tw13384111703153371991:=0
def tw639084842749161949:=0
def tw8490801262330161964:=0
def tw13849240395178074643:=0
def tw9388405657623394045:=0
def tw6061067365945083469:=0
def tw18073652136111283930:=0
def tw6474746513092320435:=0
def tw16614950832216287747:=0
def tw8980553140394141493:=0
def tw15554907287519000546:=0
def tw12879135272154969909:=0
def tw2663543061801657334:=0
def tw11366560942843166849:=0
def tw5517202937161425276:=0
def tw187296103928836902:=0
def tw9960552449525575575:=0
def tw2081322172684135642:=0
def tw12383048193622146830:=0
def tw1362530385497364201:=0
def tw17564886955620075010:=0
def tw1814524682467744617:=0
def tw11846781908122162721:=0
def tw6209612704339990692:=0
def tw16516999110119045698:=0
def tw1693714561171029059:=0
def tw8942570485437137894:=0
def tw16874116664157833169:=0
def tw14687799301942085186:=0
def tw548210739296150180:=0
def tw12632328796909851374:=0
def tw12778063716042905875:=0
def tw11215188445853934357:=0
def tw11374782715924850119:=0
def tw13475461642977008538:=0
def tw5643544535474110823:=0
def tw16353952691284928078:=0
def tw17829682394817130066:=0
def tw16086788887178679613:=0
def tw15306185301979620428:=0
def tw7621019560765270780:=0
def tw13116736551691918133:=0
def tw14241394611931556183:=0
def tw10202523538429277348:=0
def tw13033231862572357586:=0
def tw11100426193494168349:=0
def tw805253913958708650:=0
def tw9942163158036366213:=0
def tw14517377858018511112:=0
def tw6277535192034511460:=0
def tw1149361481906551152:=0
def tw1687110643067162366:=0
def tw1818264726309091403:=0
def tw18434365897844952511:=0
def tw5111083430117719758:=0
def tw15977042212600219359:=0
def tw5782922129084581443:=0
def tw11231310557297420069:=0
def tw13578672262919530398:=0
def tw5249804464311436506:=0
def tw14326151447107226564:=0
def tw14880812276716794258:=0
def tw14939136073029382284:=0
def tw18248859708847097050:=0
def tw16899969816567220749:=0
def tw7892074247875634712:=0
def tw2425072659606566272:=0
def tw12941997285810191352:=0
def tw9820158022130626217:=0
def tw12549468230651080488:=0
def tw9599849184415205751:=0
def tw12291436278813398113:=0
def tw15683951038769397628:=0
def tw17781011883512089882:=0
def tw9315159496028418874:=0
def tw6054862026007514993:=0
def tw500772822440050377:=0
def tw10954871674559051244:=0
def tw4615403558025800072:=0
def tw401468174235636281:=0
def tw16508222996218319949:=0
def tw798974383091024284:=0
def tw3682609343156635466:=0
def tw12682694183915441561:=0
def tw3122643573350085012:=0
def tw1941488438790588867:=0
def tw3035881329170097379:=0
def tw6817193181185602834:=0
def tw8934467688507997884:=0
def tw15812929866719418493:=0
def tw14058741978124951875:=0
def tw2781703827371802074:=0
def tw4173163990898560798:=0
def tw8892695842543555955:=0
def tw7112651236066561117:=0
def tw1601507392061319045:=0
def tw11818238573734393407:=0
def tw16760755823954816425:=0
def tw5675768050354884297:=0
def tw13791190404494537245:=0
def tw17835540227741783701:=0
def tw11955688419610562159:=0
def tw7000031166633934811:=0
def tw12245461787036895036:=0
def tw15025010053973865516:=0
def tw11258105674295643660:=0
def tw11957447334890510624:=0
def tw10358844233167826386:=0
def tw3389053220023203984:=0
def tw1682176927471678997:=0
def tw14975918491340139916:=0
def tw9884961114624720950:=0
def tw16742784250753664106:=0
def tw9273195968232540686:=0
def tw8030469302745587135:=0
def tw4590033156226281919:=0
def tw3464785105280476150:=0
def tw6927797192195917357:=0
def tw17097933436845293599:=0
def tw2434960254926293671:=0
def tw2037219688824976114:=0
def tw11811287540283908494:=0
def tw14540124994167028765:=0
def tw16919471499521140530:=0
def tw10110935320170522709:=0
def tw3567232716125245138:=0
def tw11444835754696521489:=0
def tw15176735299168212994:=0
def tw1413617528166250589:=0
def tw6739265875930324059:=0
def tw6116306760335103569:=0
def tw6600599808693997266:=0
def tw17768089853874306589:=0
def tw2612859896715656625:=0
def tw1445630322813628594:=0
def tw10104531735139494264:=0
def tw12467559668414758464:=0
def tw7387651209403713711:=0
def tw7607461906406430262:=0
def tw15556736370215545955:=0
def tw14852919132427590618:=0
def tw2263625835046358926:=0
def tw10111905714706239883:=0
def tw3968801113512319945:=0
def tw2140044065456167269:=0
def tw3731032299654947581:=0
def tw13264303654957365465:=0
def tw3971477974495328260:=0
def tw3021169155876745845:=0
def tw773594691170228321:=0
def tw1254212053511404298:=0
def tw4646394657396086534:=0
def tw16608040443541410133:=0
def tw14198684060712819879:=0
def tw3643560091948426428:=0
def tw2672416340012570647:=0
def tw13646695557246224493:=0
def tw9638403608597822585:=0
def tw686537094968965464:=0
def tw6747714592776617813:=0
def tw9213434057354321854:=0
def tw1279089310591250812:=0
def tw5448354712475550677:=0
def tw14723071075127718237:=0
def tw666398017769561206:=0
def tw7108991429986089151:=0
def tw8472955665038942727:=0
def tw12056697707503568712:=0
def tw1823557887313851730:=0
def tw6488398812561661447:=0
def tw4150115284645078229:=0
def tw18322731594141640148:=0
def tw942211665514635284:=0
def tw13125327368597355530:=0
def tw12007431903142572872:=0
def tw10677772418161758760:=0
def tw8272528285373235746:=0
def tw17294082484448767314:=0
def tw14522893361487174937:=0
def tw2429320995910060175:=0
def tw3261083263281690791:=0
def tw16202270799251711863:=0
def tw10852144060615130863:=0
def tw13500798531998591215:=0
def tw16031972133266333424:=0
def tw17227780346071410040:=0
def tw3956828515903023204:=0
def tw8494314298677889792:=0
def tw7948616779974764674:=0
def tw11812844378468442152:=0
def tw161216931179398642:=0
def tw16019901448019040422:=0
def tw8358885333887307763:=0
def tw2322871627520409209:=0
def tw15124511737976890249:=0
def tw7404099891076654980:=0
def tw5482661657542012110:=0
def tw6111262819941799719:=0
def tw2939126517782396767:=0
def tw4751309474625001634:=0
def tw2112796984514129258:=0
def tw14614141727894545511:=0
def tw14643497888972288555:=0
def tw12023536790144481169:=0
def tw12387726170436631179:=0
def tw5803232228797614292:=0
def tw9714871135493576967:=0
def tw7440696086539299451:=0
def tw15347990325224650059:=0
def tw17424672394775564436:=0
def tw9365193632202837051:=0
def tw12927398874374369166:=0
def tw6814181733835014446:=0
def tw9047976132596433556:=0
def tw5239785768425176967:=0
def tw7238318833149914711:=0
def tw1095588523746531860:=0
def tw7267993586216304292:=0
def tw893890788879966557:=0
def tw6149457253674331592:=0
def tw14172830034072706100:=0
def tw3486251010115808752:=0
def tw7211619965580999166:=0
def tw10931073037311865532:=0
def tw10957031357971572328:=0
def tw11382743957431024097:=0
def tw14720397381957251729:=0
def tw8039300450938659951:=0
def tw17052929874556170958:=0
def tw1999753309349013591:=0
def tw6073089700827418170:=0
def tw4691801285863087291:=0
def tw16979242843563793875:=0
def tw6165619458892016852:=0
def tw1707207687133786485:=0
def tw11576861684827393920:=0
def tw17619882183706140303:=0
def tw37843846594840825:=0
def tw13840221935486055733:=0
def tw873385106780186309:=0
def tw16843373748921493026:=0
def tw15849631502532514857:=0
def tw4838394068541480178:=0
def tw4629900910608456597:=0
def tw2322592973424790212:=0
def tw6594440966011584632:=0
def tw15287054668471201539:=0
def tw13166000876497754662:=0
def tw9555440136397473610:=0
def tw7154795257335315806:=0
def tw522784134768757719:=0
def tw13669553223079058499:=0
def tw9443714484387061081:=0
def tw12502502173732111189:=0
def tw10533237370880924977:=0
def tw7399520707882061720:=0
def tw9026899698314120166:=0
def tw4923997067969543983:=0
def tw18429048443286586888:=0
def tw2326516454104746083:=0
def tw5512397759467797083:=0
def tw13803771795982014168:=0
def tw11294941764075734650:=0
def tw6628501841909086237:=0
def tw17249413802006697353:=0
def tw17611425204077493377:=0
def tw8694150667629780835:=0
def tw5109695752957352449:=0
def tw17987757737203259360:=0
def tw7064959044348096267:=0
def tw2089957850492192938:=0
def tw614095748852440938:=0
def tw17247554793124653643:=0
def tw292874803504092948:=0
def tw694152298556354914:=0
def tw5125650653104224457:=0
def tw16075772861540313428:=0
def tw16831342901525099194:=0
def tw11024254068074048699:=0
def tw4905985092213848029:=0
def tw14369577664451522052:=0
def tw12391430904703328610:=0
def tw16307750169348139871:=0
def tw5874536008315098542:=0
def tw9304177716249866216:=0
def tw5930189883874746878:=0
def tw9983689027119232783:=0
def tw12805458922268689957:=0
def tw8271233954931487799:=0
def tw9405788667359616834:=0
def tw2076672604079871794:=0
def tw6713028268174725716:=0
def tw4381808927377329757:=0
def tw15295177888161770833:=0
def tw1066400333571988727:=0
def tw11975132906220865938:=0
def tw3229787683811406879:=0
def tw2411071075376552114:=0
def tw15179453165675826739:=0
def tw6983980560701633276:=0
def tw2136600046228929785:=0
def tw10949580134381603239:=0
def tw1199804137647399394:=0
def tw11300719617215931483:=0
def tw11559043719130289625:=0
def tw13228376101102243783:=0
def tw17758311909064899110:=0
def tw6996349641673486659:=0
def tw16679954904249374636:=0
def tw5705531929349030053:=0
def tw7961267647998509190:=0
def tw6880658006398923311:=0
def tw16805804094774546957:=0
def tw10987501254245096097:=0
def tw10147592802006635002:=0
def tw14338299132190265607:=0
def tw12259151701708948799:=0
def tw4113383998950135449:=0
def tw54663947309406054:=0
def tw2895800358473930571:=0
def tw4415763966464641751:=0
def tw14318685067289552219:=0
def tw16365429426742094044:=0
def tw11902830305457288358:=0
def tw6730337051108168781:=0
def tw15479423996868539927:=0
def tw8979956740766932952:=0
def tw16678532276124793081:=0
def tw12425297456890973819:=0
def tw13071396589144503021:=0
def tw11384537268802156720:=0
def tw16332542478071412911:=0
def tw5251780126116816071:=0
def tw247473158340646639:=0
def tw4068971288154236383:=0
def tw13605224952180763488:=0
def tw17962169558754302887:=0
def tw16989946591387594930:=0
def tw2727357339679002857:=0
def tw2304618602016206485:=0
def tw5445500854737073665:=0
def tw18288371265738166394:=0
def tw9764969286523020310:=0
def tw9903240973607565412:=0
def tw4452617638001718303:=0
def tw17887987942544761006:=0
def tw17850820807655557355:=0
def tw16564965655355886876:=0
def tw4787325467151041372:=0
def tw5673982720809116589:=0
def tw2675505247220960470:=0
def tw695584892948332324:=0
def tw14842986489414459302:=0
def tw9202512592076408447:=0
def tw12781420174982648012:=0
def tw11440708751207392338:=0
def tw13954316373828929689:=0
def tw3316001590291018235:=0
def tw18231639036147564472:=0
def tw7635820996850796560:=0
def tw5682330689891805567:=0
def tw1069049247152337423:=0
def tw8554410541105716081:=0
def tw16106949677435561620:=0
def tw13538909846459268175:=0
def tw4877376613408577092:=0
def tw4457671282701622661:=0
def tw5100665985648656076:=0
def tw953096030426988247:=0
def tw15961018634139890608:=0
def tw16198058865953690730:=0
def tw7143820936064086902:=0
def tw2935085464314329845:=0
def tw11607102804973148459:=0
def tw1633510797892786874:=0
def tw6768417051613205896:=0
def tw12391911486706838187:=0
def tw5601953843511937139:=0
def tw11670484532373306671:=0
def tw2058118114780244858:=0
def tw15666642456797240808:=0
def tw6455302220015419749:=0
def tw9322057156600637025:=0
def tw15357394807931577688:=0
def tw454853528233388585:=0
def tw10482399329249590502:=0
def tw3488276126520399463:=0
def tw5763526224075684870:=0
def tw18394040460918442929:=0
def tw10056289367089550418:=0
def tw856519142911106985:=0
def tw16593448263404628298:=0
def tw4200508264756315663:=0
def tw18432513698160322516:=0
def tw9910361938179255656:=0
def tw14980041362309830363:=0
def tw18087222942715771126:=0
def tw17768552149627056800:=0
def tw6193083806413454928:=0
def tw1462322622399838326:=0
def tw12694924644529354591:=0
def tw5581154921859048642:=0
def tw8880176546060244834:=0
def tw10104130894392734435:=0
def tw11707966797801940691:=0
def tw13026885230235414470:=0
def tw13935674437466434986:=0
def tw13642790779454687821:=0
def tw18017710544739823327:=0
def tw7626224998960709233:=0
def tw11216430617468819603:=0
def tw14031791213533098724:=0
def tw12965793187116874864:=0
def tw17154376196413438570:=0
def tw1787033653551193155:=0
def tw3797484607124447002:=0
def tw2081469173178373718:=0
def tw9071855293952937846:=0
def tw12007809996340608285:=0
def tw11506177004825709299:=0
def tw3553043021363034975:=0
def tw13477089893117757730:=0
def tw4421076626155509681:=0
def tw3717062987783276260:=0
def tw4360294926147024124:=0
def tw55622172155532703:=0
def tw18430244145804237646:=0
def tw84747805042378203:=0
def tw3833787475519386532:=0
def tw8943603256788953545:=0
def tw5749254012147000595:=0
def tw14290033596386309563:=0
def tw8269587595508471898:=0
def tw12180379822599219225:=0
def tw5495249674604649161:=0
def tw6577483718725285664:=0
def tw13260039407116286154:=0
def tw6937603752156948668:=0
def tw11820282518077236605:=0
def tw16537366463939795027:=0
def tw7618191248680174039:=0
def tw7308174149022416574:=0
def tw18268686449975570290:=0
def tw12529919650855290030:=0
def tw5703821386973054702:=0
def tw4959942305316536397:=0
def tw15711697205281437717:=0
def tw283092920546820790:=0
def tw4993123316809419407:=0
def tw7513241268606447350:=0
def tw11259443245180279598:=0
def tw862102704545831285:=0
def tw18360079747874753971:=0
def tw16617199119233822531:=0
def tw17365366004375590225:=0
def tw16444299350119492605:=0
def tw878659600773086458:=0
def tw14636180510877725133:=0
def tw6018305361095458528:=0
def tw7518685264697864038:=0
def tw6900726885438977693:=0
def tw728606711358168424:=0
def tw15325218634260402026:=0
def tw8307407779577864663:=0
def tw7263925115409987935:=0
def tw5204078322040625571:=0
end PySem.W.Fast
namespace L2
open PySem PySem.Spec PyProof.Rows
abbrev Key:=Sum Int o8
def Aa6:Key->aG->Bool
 |.inl k,v=>aBo k v
 |.inr x,v=>qW x v
def Bni(w:dG):Key->Int
 |.inl k=>hashInt k
 |.inr x=>hashStr w x
theorem Dr:∀{k:Key} {v:aG},Aa6 k v=t8->(∃i t,k=oZ i/\v=uK i t)\/(∃x t,k=qL x/\v=uL x t)
 |.inl i,v,h=>by
  let(t,e):=Value.isInt_shape h;exact .inl (i,t,rfl,e)
 |.inr x,v,h=>by
  let(t,e):=uM h;exact .inr (x,t,rfl,e)
def Atm(i:Int)(t:Tok):Aa6[.inl i][.int i t]=t8:=by simp[Aa6,aBo]
def Atn(x:o8)(t:Tok):Aa6[.inr x][.str x t]=t8:=by simp[Aa6,qW]
def Bgq(a b:Int):decide[(oZ a:Key)=oZ b]=(a==b):=by
 by_cases e:a=b
 .simp_all
 simp_all
def Bgr(a b:o8):decide[(qL a:Key)=qL b]=decide[a=b]:=by simp
def Bgs(a:Int)(b:o8):decide[(oZ a:Key)=qL b]=tu:=rfl
def Bgt(a:o8)(b:Int):decide[(qL a:Key)=oZ b]=tu:=rfl
def Fp(prog:cF)(w:dG):PySem.KeyKind prog w Key where
 is:=Aa6
 hash:=Bni w
 inj:=λv a b ha hb=>by
  rcases Dr ha with ⟨i,t,rfl,rfl⟩|⟨x,t,rfl,rfl⟩
  .rcases Dr hb with ⟨j,u,rfl,e⟩|⟨y,u,rfl,e⟩
   .injection e with e1 _;rw[e1]
   .exact nomatch e
  .rcases Dr hb with ⟨j,u,rfl,e⟩|⟨y,u,rfl,e⟩
   .exact nomatch e
   .injection e with e1 _;rw[e1]
 byValue:=λk v h=>by
  rcases Dr h with ⟨i,t,rfl,rfl⟩|⟨x,t,rfl,rfl⟩ <;> rfl
 pyHash:=λhv h=>by
  rcases Dr hv with ⟨i,t,rfl,rfl⟩|⟨x,t,rfl,rfl⟩
  .exact wpAny_pyHash_int h
  .exact wpAny_pyHash_str h
 eqBool:=λhu hv h=>by
  rcases Dr hu with ⟨i,t,rfl,rfl⟩|⟨x,t,rfl,rfl⟩
  .rcases Dr hv with ⟨j,u,rfl,rfl⟩|⟨y,u,rfl,rfl⟩
   .rw[Bgq] at h;exact wpAny_eqBool_int h
   .rw[Bgs] at h;exact vG i t y u _ _ _ _ h
  .rcases Dr hv with ⟨j,u,rfl,rfl⟩|⟨y,u,rfl,rfl⟩
   .rw[Bgt] at h;exact vH x t j u _ _ _ _ h
   .rw[Bgr] at h;exact wpAny_eqBool_str h
 «strs»:=λk x t v h=>by
  rcases Dr h with ⟨i,u,rfl,e⟩|⟨y,u,rfl,e⟩
  .exact nomatch e
  .injection e with e1 _
   subst e1;cases v <;> rfl
inductive V where
 |non|bl (b:Bool)|int (i:Int)|str (x:o8)|byt (b:Array UInt8)|flt (b:UInt64)|ref (a:aL)|ty (n:String)
 deriving DecidableEq
def RelV:V->aG->Prop
 |.non,u=>u=gJ
 |.bl b,u=>u=yQ b
 |.int i,u=>∃t,u=uK i t
 |.str x,u=>∃t,u=uL x t
 |.byt b,u=>∃t,u=Value.bytes b t
 |.flt b,u=>∃t,u=aBp b t
 |.ref a,u=>u=cV a
 |.ty n,u=>u=nY n
abbrev Vals:lg V->lg aG->Prop:=pL RelV
def Vals.length{xs:lg V}{us:lg aG}(r:Vals xs us):xs.length=us.length:=uW r
theorem Vals.get:∀{b:lg V} {c:lg aG} {i:Nat} {x:V},Vals b c->b[i]?=sr x->∃u,c[i]?=sr u/\RelV x u
 |_,_,_,_,.nil,e=>by trivial
 |_,_,0,_,.cons r _,e=>by simp at e;subst e;exact(_,rfl,r)
 |_,_,i+1,x,.cons _ t,e=>by
  let(u,g,d):=Vals.get t (by trivial)
  exact(u,by trivial,d)
theorem Vals.set(r:RelV x u):∀{b:lg V} {c:lg aG} (i:Nat),Vals b c->Vals (b.set i x) (c.set i u)
 |_,_,_,.nil=>.nil
 |_,_,0,.cons _ t=>.cons r t
 |_,_,i+1,.cons q t=>.cons q (Vals.set r i t)
theorem Vals.append:∀{c b:lg V} {e d:lg aG},Vals c e->Vals b d->Vals (c ++ b) (e ++ d)
 |_,_,_,_,.nil,s=>s
 |_,_,_,_,.cons r t,s=>.cons r (Vals.append t s)
theorem Vals.take:∀{b:lg V} {c:lg aG} (n:Nat),Vals b c->Vals b.take[n] c.take[n]
 |_,_,0,_=>.nil
 |_,_,_+1,.nil=>.nil
 |_,_,n+1,.cons r t=>.cons r (Vals.take n t)
theorem Vals.drop:∀{b:lg V} {c:lg aG} (n:Nat),Vals b c->Vals b.drop[n] c.drop[n]
 |_,_,0,r=>r
 |_,_,_+1,.nil=>.nil
 |_,_,n+1,.cons _ t=>Vals.drop n t
def Xl:o9 V->o9 aG->Prop
 |some v,sr u=>RelV v u
 |none,sy=>True
 |_,_=>False
def KV{κ:Type}:lg[κ×V]->lg[κ×aG]->Prop:=pL λ(p:κ×V) (q:κ×aG)=>p.1=q.1/\RelV p.2 q.2
def kV:Key->V
 |.inl i=>.int i
 |.inr x=>.str x
inductive HO where
 |lst (xs:List V)
 |tup (xs:List V)
 |dK (kvs:List (Key×V))|dT (kvs:List (List Key×V))
 |set (S:Int->Bool) (n:Nat)
 |ins (C dx:aL) (fs:List (o8×V))
 |own (x:aL)
 |xd (fs:List (o8×V))
 |met (f x:aL)
 |rng (lo hi:Int)
 |frz (o:o7) (u:HO)
 |tbl (ps:Array aG)
 |ext (φ:dY->Prop)
abbrev Hp:=aL->o9 HO
def upd(H:Hp)(a:aL)(o:HO):Hp:=λb=>if b=a then sr o else H b
def Am:upd H a o a=sr o:=by unfold upd;simp
def Ao(h:b≠a):upd H a o b=H b:=by unfold upd;simp_all
def Ba5:upd (upd H a o) a u=upd H a u:=by
 unfold upd;simp_all
def Bf{H:Hp}{a b:aL}{o:HO}(h:H a=sr o)(c:H b=sy):a≠b:=by
 intro e;simp_all
section
variable(P:cF)(w:dG)
def Eo(H:Hp)(h:dY)(a:aL):HO->Prop
 |.lst xs=>xs.length<=sizeLine/\∃(its:lg aG)(n:Nat),Vals xs its/\h.get? a=sr { cls:=.type "list",data:=.seq its.toArray n }
 |.tup xs=>xs.length<=sizeLine/\∃its:lg aG,Vals xs its/\vW h a its.toArray
 |.dK kvs=>kvs.length<=sizeLine/\(a==sysModules)=tu/\∃vs,KV kvs vs/\h.DictOf (Fp P w) a vs
 |.dT kvs=>kvs.length<=sizeLine/\(a==sysModules)=tu/\∃xs:lg[lg Key×aL×aG],
   pL (λ(p:lg Key×V) (q:lg Key×aL×aG)=>p.1=q.1/\H q.2.1=sr .tup[p.1.map[kV]]/\RelV p.2 q.2.2) kvs xs/\
   ∃o es ep,h.get? a=sr o/\o.ExactDict/\o.data=.dict es ep/\es.toList=xs.map entryOfKey[tupleKind[Fp P w]]/\(xs.map (·.1)).Nodup
 |.set S n=>h.SetOf (intKind P w) a S n
 |.ins C dx fs=>H dx=sr .own[a]/\fs.length<=1000/\dx≠a/\h.get? a=sr[lD C dx]/\
   ∃mA,h.Ns1 dx mA/\(∀f,Xl fs.lookup[f] mA[f])/\vX mA (fs.map (·.1))
 |.own _=>∃o,h.get? a=sr o
 |.xd fs=>∃mA,h.Ns1 a mA/\∀f,Xl fs.lookup[f] mA[f]
 |.rng lo hi=>∃t u v,h.get? a=sr { cls:=.type "range",data:=.fields #[.int lo t,.int hi u,.int 1 v] }
 |.frz o u=>h.get? a=sr o/\Eo H h a u
 |.tbl ps=>h.get? a=sr { cls:=.none,data:=.fields ps }
 |.met f x=>h.get? a=sr (PySem.W.methodObj .ref[f] .ref[x])
 |.ext φ=>φ h/\(∃o,h.get? a=sr o)/\∀h1 h2:dY,φ h1->(∀o,h1.get? a=sr o->h2.get? a=sr o)->φ h2
def HOk(H:Hp)(h:dY):Prop:=∀a o,H a=sr o->Eo P w H h a o
end
section
def Eo.lt(x:Eo P w H h a o):a < h.objs.size:=by
 cases o with
 |lst c=>let(_,_,_,_,e):=x;exact aU e
 |tup c=>let(_,_,_,p):=x;exact p.lt
 |dK b=>let(_,_,_,_,o,_,_,e,_):=x;exact aU e
 |dT b=>let(_,_,_,_,o,_,_,e,_):=x;exact aU e
 |set S n=>let(o,_,_,_,e,_):=x;exact aU e
 |ins C g fs=>let(_,_,_,e,_):=x;exact aU e
 |own y=>let(_,e):=x;exact aU e
 |xd fs=>let(_,(_,_,_,e,_),_):=x;exact aU e
 |rng lo hi=>let(_,_,_,e):=x;exact aU e
 |frz ob u=>let(e,_):=x;exact aU e
 |tbl ps=>exact aU (x)
 |met f y=>exact aU (x)
 |ext d=>let(_,(_,e),_):=x;exact aU e
theorem Paired.mapP{h g:Type}{F G:h->g->Prop}:∀{d:lg h} {c:lg g},pL F d c->(∀a b,F a b->G a b)->pL G d c
 |_,_,.nil,_=>.nil
 |_,_,.cons r t,f=>.cons[f _ _ r][Paired.mapP t f]
def Eo.stay(x:Eo P w H h a o)(k:∀b u,(b=a\/H b=sr .own[a])->h.get? b=sr u->I.get? b=sr u)(G:∀b,H b=sr .own[a]->H' b=sr .own[a])(F:∀b l,H b=sr .tup[l]->H' b=sr .tup[l]):Eo P w H' I a o:=by
 induction o with
 |lst l=>let(z,j,n,r,e):=x;exact(z,j,n,r,k _ _ .inl[rfl] e)
 |tup l=>let(z,j,r,ob,e,c):=x;exact(z,j,r,ob,k _ _ .inl[rfl] e,c)
 |dK A=>let(z,y,D,r,ob,g,i,e,c):=x;exact(z,y,D,r,ob,g,i,k _ _ .inl[rfl] e,c)
 |dT A=>
  let(z,y,l,r,ob,g,i,e,c):=x;exact(z,y,l,Paired.mapP r λp q z=>(z.1,F _ _ z.2.1,z.2.2),ob,g,i,k _ _ .inl[rfl] e,c)
 |set S n=>let(ob,g,i,t,e,c):=x;exact(ob,g,i,t,k _ _ .inl[rfl] e,c)
 |ins C N fs=>
  let(d,z,ne,e,s,(m,g,i,J,c),r):=x;exact(G _ d,z,ne,k _ _ .inl[rfl] e,s,(m,g,i,k _ _ .inr[d] J,c),r)
 |own y=>let(ob,e):=x;exact(ob,k _ _ .inl[rfl] e)
 |xd fs=>let(s,(m,g,i,e,c),r):=x;exact(s,(m,g,i,k _ _ .inl[rfl] e,c),r)
 |rng lo hi=>let(t,u,v,e):=x;exact(t,u,v,k _ _ .inl[rfl] e)
 |frz ob u E=>let(e,q):=x;exact(k _ _ .inl[rfl] e,E q)
 |tbl ps=>
  let e:=x;exact k a _ .inl[rfl] e
 |met f y=>
  let e:=x;exact k a _ .inl[rfl] e
 |ext L=>let(p,(o,e),st):=x;exact(st _ _ p λo q=>k _ _ .inl[rfl] q,(o,k _ _ .inl[rfl] e),st)
def HOk.lt(x:HOk P w H h)(e:H a=sr o):a < h.objs.size:=(x a o e).lt
def HOk.fresh(x:HOk P w H h)(e:h.objs.size<=a):H a=sy:=by
 cases q:H a with
 |none=>rfl
 |some u=>exact absurd[bC x.lt[q] e][eN _]
def HOk.kept(x:HOk P w H h)(k:∀b u,h.get? b=sr u->d.get? b=sr u):HOk P w H d:=(λa o e=>
 (x a o e).stay (λb u c q=>k b u q) (λc q=>q) λc c q=>q)
def HOk.laid(x:HOk P w H h)(k:∀b u,h.get? b=sr u->g.get? b=sr u)(hp:h.objs.size<=a)(new:Eo P w (upd H a o) g a o):HOk P w (upd H a o) g:=(λb u e=>by
 let d:=x.fresh hp;by_cases f:b=a
 .subst f;rw[Am] at e;simp_all
 .rw[Ao f] at e;exact(x b u e).stay (λc v j q=>k c v q) (λc q=>by rw[Ao[Bf q d]];omega) λc i q=>by rw[Ao[Bf q d]];omega)
end
def Rd(H:Hp)(a:aL)(u:HO):Prop:=H a=sr u\/∃o,H a=sr[.frz o u]
def Rd.of(h:H a=sr u):Rd H a u:=.inl h
def Rd.ok(r:Rd H a u)(x:HOk P w H h):Eo P w H h a u:=by
 rcases r with r|⟨o,r⟩
 .exact x a u r
 .let(_,q):=x a _ r;omega
def Mut:o9 HO->Prop
 |some (.lst _)=>True
 |some (.dK _)=>True
 |some (.dT _)=>True
 |some (.set _ _)=>True
 |some (.ins _ _ _)=>True
 |some (.ext _)=>True
 |_=>False
section
def HOk.write(ok:HOk P w H h)(i:Mut H[x])(p:e=x\/H e=sr .own[x])(k:∀b u,b≠e->h.get? b=sr u->m.get? b=sr u)(j:∃u,m.get? e=sr u)(new:Eo P w (upd H x o) m x o):HOk P w (upd H x o) m:=(λb u q=>by
 let f:∀c y,H c=sr .own[y]->c≠x:=λc y r z=>by subst z;rw[r] at i;exact i
 let d:∀c g,H c=sr .tup[g]->c≠x:=λc g r z=>by subst z;rw[r] at i;exact i
 by_cases l:b=x
 .subst l;rw[Am] at q;simp_all
 .rw[Ao l] at q;by_cases a:b=e
  .let n:H b=sr .own[x]:=by
    rcases p with z|z
    .exact absurd a.trans[z] l
    .rw[a];exact z
   rw[q] at n;cases n;let(v,hv):=j;exact(v,by rw[a];exact hv)
  .refine(ok b u q).stay (λc v s r=>k c v ?_ r) (λc r=>by rw[Ao[f c b r]];exact r) λc g r=>by rw[Ao[d c g r]];exact r
   grind)
end
structure Un(fs ex:List aL)(H H':Hp)(h h':dY):Prop where
 keep:∀b o,h.get? b=sr o->H b=sy->b∉fs->b∉ex->h'.get? b=sr o
 slot:∀b o,h.get? b=sr o->H b=sy->b∈fs->b∉ex->∃sl,h'.get? b=sr { o with slots:=sl }
 free:∀b o,h.get? b=sr o->H b=sy->b∉ex->H' b=sy
 there:∀b o,h.get? b=sr o->b∉ex->∃o',h'.get? b=sr o'
 tups:∀b xs,H b=sr (.tup xs)->H' b=sr (.tup xs)
 frzs:∀b o u,H b=sr (.frz o (.lst u))->H' b=sr (.frz o (.lst u))
 tbls:∀b ps,H b=sr (.tbl ps)->∃more,H' b=sr (.tbl (ps ++ more))
section
def Un.any(u:Un fs ex H H1 h e)(q:h.get? b=sr ob)(n:H b=sy)(a:b∉ex):∃d,e.get? b=sr { ob with slots:=d }:=by
 by_cases c:b∈fs
 .exact u.slot b ob q n c a
 .exact(ob.slots,u.keep b ob q n c a)
def Un.kept(k:∀b u,h.get? b=sr u->c.get? b=sr u):Un fs ex H H h c:=(
 (λb ob q a a a=>k b ob q,λb ob q a a a=>(ob.slots,k b ob q),λa a a n a=>n,λb ob q a=>(ob,k b ob q),λa a q=>q,λa a a q=>q,λa ps q=>(#[],by trivial)))
def Un.refl:Un fs ex H H h h:=Un.kept λuu uu q=>q
theorem Un.laid(k:∀b u,h.get? b=sr u->f.get? b=sr u)(hp:h.objs.size<=a)(d:H a=sy):Un fs ex H (upd H a o) h f where
 keep:=λb u q c c c=>k b u q
 slot:=λb u q c c c=>(u.slots,k b u q)
 free:=λb u q n c=>by rw[Ao bZ[bC aU[q] hp]];exact n
 there:=λb u q c=>(u,k b u q)
 tups:=λb e q=>by rw[Ao[Bf q d]];exact q
 frzs:=λb u e q=>by rw[Ao[Bf q d]];exact q
 tbls:=λb ps q=>(#[],by rw[Ao[Bf q d],q];simp)
def Un.write(f:Mut H[x])(r:e=x\/H e=sr .own[x])(k:∀b u,b≠e->h.get? b=sr u->i.get? b=sr u)(m:∃u,i.get? e=sr u):Un fs ex H (upd H x o) h i:=by
 let l:∀b,H b=sy->b≠x:=λb n z=>by subst z;rw[n] at f;exact f
 let g:∀b,H b=sy->b≠e:=λb n z=>by
  simp_all
 let c:∀b u,H b=sr u->¬ Mut sr[u]->b≠x:=λb u q p z=>by simp_all
 refine(λb u q n a a=>k b u (g b n) q,λb u q n a a=>(u.slots,k b u (g b n) q),λb u q n a=>by rw[Ao[l b n]];exact n,λb u q a=>?_,
  λb j q=>by rw[Ao[c b _ q λz=>z]];exact q,λb u j q=>by rw[Ao[c b _ q λz=>z]];exact q,λb ps q=>(#[],by rw[Ao[c b _ q λz=>z],q];simp))
 by_cases d:b=e
 .simp_all
 .exact(u,k b u d q)
end
def trk(h:dY)(H:Hp):lg aL:=(cO h.objs.size).filter λa=>(H a).isSome
def Ami(h:dY)(H:Hp):dY:=jB h (trk h H)
def Av3(e:h.get? b=sr o)(n:H b=sy):(Ami h H).get? b=sr o:=(
 uN _ e λa=>by
  let q:=(cP.mp a).2;simp_all)
def Ba6(e:(Ami h H).get? b=sr o):h.get? b=sr o/\H b=sy:=by
 let a:=vI _ e;refine(a,?_);cases q:H b with
 |none=>rfl
 |some x=>
  let z:(Ami h H).get? b=sy:=tV _ (cP.mpr (iC.mpr aU[a],by simp[q]))
  simp_all
def Ba7(g h:dY)(L:aL):lg[aL×o7]:=(cO h.objs.size).filterMap λa=>if a=L\/(g.get? a).isSome=t8 then sy else (h.get? a).map λo=>(u6 a o)
def rest(g h:dY)(L d:aL):lg[aL×o7]:=(Ba7 g h L).filter λp=>decide[p.1≠d]
structure Mod(K:aD)(mg:o8->Option aG)(base:dY):Prop where
 kin:K.In base
 glob:base.Ns mainGlobals mg
 blt:∃mb,base.Ns builtinsNs mb/\∀x:o8,x≠"__name__"->mb x=bootBuiltins x
 nolimit:base.NoLimit
structure Cx where
 prog:cF
 w:dG
 K:aD
 mg:o8->Option aG
 base:dY
 A:fJ
 N:List o8
 s₀:aO
 H₀:Hp
 env:Env
 outer:List Env
 stack:List Env
 ex:List aL
 fn:o8->Bool
 calm:Bool
 pn:List (aL×o7)
 xe:aG->aO->Prop
def frs(l:lg Env):lg aL:=l.filterMap (·.frame)
abbrev Cx.fs(X:Cx):lg aL:=frs X.outer
def Vis(sc:jR)(x:o8):Prop:=sc.names.lookup x=sr .local\/sc.names.lookup x=sr .cell\/sc.names.lookup x=sr .free
def Loc(sc:jR)(x:o8):Prop:=sc.names.lookup x=sr .local\/sc.names.lookup x=sr .cell
def Look(env:Env)(h:dY)(m:o8->o9 aG)(x:o8)(u:aG):Prop:=
 (env.kindOf x=sr .local/\m x=sr u)\/((env.kindOf x=sr .cell\/env.kindOf x=sr .free)/\∃c,env.cells.lookup x=sr c/\h.IsCell c sr[u])
structure Cx.Ok(X:Cx):Prop where
 mod:Mod X.K X.mg X.base
 kind:X.env.scope.kind=.function
 glob:X.env.globals=mainGlobals
 blt:X.env.builtins=builtinsNs
 above:X.s₀.heap.objs.size<=X.env.locals
 inj:∀x y c,X.env.cells.lookup x=sr c->X.env.cells.lookup y=sr c->x=y
 has:∀x,(X.env.kindOf x=sr .cell\/X.env.kindOf x=sr .free)->∃c,X.env.cells.lookup x=sr c
 cab:∀x c,X.fn x=t8->X.env.cells.lookup x=sr c->X.s₀.heap.objs.size<=c
 hd:X.calm=t8->X.A.handled=sy
 frames:X.A.frames=sr X.stack
 stk:X.stack=X.outer\/(X.stack=X.env::X.outer/\X.env.frame=sr X.env.locals)
 exf:∀b∈X.ex,b≠X.env.locals/\∀x c,X.env.cells.lookup x=sr c->c≠b
 bs:∀b o,X.base.get? b=sr o->X.s₀.heap.get? b=sr o/\X.H₀ b=sy
 bsz:X.base.objs.size<=X.s₀.heap.objs.size
 noex:∀b o,X.base.get? b=sr o->b∉X.ex
 exfs:∀b∈X.ex,b∉X.fs
 funs:X.s₀.heap.FunFrames X.base X.outer
 frf:∀b∈X.fs,X.H₀ b=sy
structure Inv(X:Cx)(aa:List (aL×o7))(σ:List (Option V))(H:Hp)(s:aO):Prop where
 ok:X.Ok
 os:s.os=X.s₀.os
 bare:pA s.gens
 base:Un X.fs X.ex X.H₀ H X.s₀.heap s.heap
 loc:∃m,s.heap.Ns X.env.locals m/\∀(i:Nat)(x:o8)(v:V),X.N[i]?=sr x->σ[i]?=sr (sr v)->Vis X.env.scope x->∃u,RelV v u/\Look X.env s.heap m x u
 cell:∀x c,X.env.cells.lookup x=sr c->∃v,s.heap.IsCell c v
 free:H X.env.locals=sy
 freeC:∀x c,X.env.cells.lookup x=sr c->H c=sy
 pin:∀p∈X.pn ++ aa,s.heap.get? p.1=sr p.2/\H p.1=sy/\p.1≠X.env.locals/\p.1∉X.fs/\∀v,p.2.data≠.cell v
 hok:HOk X.prog X.w H s.heap
 len:σ.length=X.N.length
section
def Inv.bs(I:Inv X d c H s):∀b o,X.base.get? b=sr o->s.heap.get? b=sr o/\H b=sy:=(λb o e=>
 (I.base.keep b o (I.ok.bs b o e).1 (I.ok.bs b o e).2 (by
   intro a;have:=(I.ok.funs.mem a).1;rw[e] at this;cases this) (I.ok.noex b o e),I.base.free b o (I.ok.bs b o e).1 (I.ok.bs b o e).2 (I.ok.noex b o e)))
def Inv.bk(I:Inv X aa σ H s):∀b o,X.base.get? b=sr o->s.heap.get? b=sr o:=λb o e=>(I.bs b o e).1
def Inv.mod(I:Inv X aa σ H s):Mod X.K X.mg X.base:=I.ok.mod
def Inv.kIn(I:Inv X aa σ H s):X.K.In s.heap:=I.ok.mod.kin.keeps I.bk
def Inv.lt(I:Inv X c b H s):X.env.locals < s.heap.objs.size:=(let ⟨_,a,_⟩:=I.loc;a.lt)
def Inv.sz(I:Inv X aa σ H s):X.s₀.heap.objs.size<=s.heap.objs.size:=aH I.ok.above gK[I.lt]
def Inv.nofs(I:Inv X e d H s)(h:s.heap.objs.size<=a):a∉X.fs:=(λc=>by
 let(_,o,b,_):=I.ok.funs.mem c;exact absurd bC[aU b][aH I.sz h] eN[_])
def Inv.cne(I:Inv X j d H s):∀x c,X.env.cells.lookup x=sr c->c≠X.env.locals:=(λx c e z=>by
 let(v,o,g,hd):=I.cell x c e;let(m,(f,h,i,a,b,_),_):=I.loc
 grind)
def Inv.funs(I:Inv X p k H s):s.heap.FunFrames X.base X.outer:=by
 let all:∀(l:_),(∀b∈frs l,b∈X.fs)->X.s₀.heap.FunFrames X.base l->s.heap.FunFrames X.base l:=by
  intro l;induction l with
  |nil=>intro _ _;trivial
  |cons env r f=>
   intro d j;let(hk,(L,o,hf,i,h,hd),g):=j;let c:=d L (by unfold frs;rw[oV,hf];exact bG)
   let(n,e):=I.base.slot L o h (I.ok.frf L c) c λz=>I.ok.exfs L z c
   exact(hk,(L,_,hf,i,e,hd),f (λb a=>d b (by unfold frs;rw[oV,hf];exact bD _ a)) g)
 exact all X.outer (λm a=>a) I.ok.funs
def Inv.stack(I:Inv X c b H s):s.heap.FunFrames X.base X.stack:=by
 rcases I.ok.stk with e|⟨e,hf⟩
 .rw[e];exact I.funs
 .rw[e];let(m,a,_):=I.loc;exact .cons (by rw[I.ok.kind];simp) hf a jF[aH I.ok.bsz I.ok.above] I.funs
def Inv.stkSub(I:Inv X d c H s):∀b∈frs X.stack,b∈X.env.locals::X.fs:=(λb a=>by
 rcases I.ok.stk with e|⟨e,hf⟩
 .rw[e] at a;exact bD _ a
 .rw[e] at a;unfold frs at a;rw[oV,hf] at a;trivial)
def Inv.stkFree(I:Inv X d c H s):∀b∈frs X.stack,H b=sy:=(λb hb=>by
 rcases aV.mp[I.stkSub b hb] with e|hb
 .rw[e];exact I.free
 .let(_,o,a,_):=I.ok.funs.mem hb;exact I.base.free b o a (I.ok.frf b hb) λz=>I.ok.exfs b z hb)
def Inv.step{g':Array yR}{t':Nat}{d':aCu}{ch:lg aL}(I:Inv X N P H s)(g:∀b∈ch,(b∈X.ex\/X.s₀.heap.objs.size<=b)/\b≠X.env.locals/\(∀x c,X.env.cells.lookup x=sr c->c≠b)/\∀p∈X.pn ++ N,p.1≠b)(keep:∀b o,b≠X.env.locals->b∉X.fs->b∉ch->s.heap.get? b=sr o->H b=sy->h'.get? b=sr o)(slot:∀b o,b≠X.env.locals->b∈X.fs->b∉ch->s.heap.get? b=sr o->H b=sy->∃G,h'.get? b=sr { o with slots:=G })(free:∀b o,b∉ch->s.heap.get? b=sr o->H b=sy->H' b=sy)(there:∀b o,b∉ch->s.heap.get? b=sr o->∃B,h'.get? b=sr B)(tups:∀b t,H b=sr .tup[t]->H' b=sr .tup[t])(frzs:∀b o u,H b=sr[.frz o .lst[u]]->H' b=sr[.frz o .lst[u]])(tbls:∀b ps,H b=sr .tbl[ps]->∃more,H' b=sr .tbl[ps ++ more])(ns:∀m,s.heap.Ns X.env.locals m->h'.Ns X.env.locals m)(hok:HOk X.prog X.w H' h')(Y:pA g'):
  Inv X N P H' { s with heap:=h',gens:=g',drawn:=d',toks:=t' }:=by
 let C:∀b o,X.s₀.heap.get? b=sr o->b≠X.env.locals:=λb o e=>bZ[bC aU[e] I.ok.above];let h:∀b o,X.s₀.heap.get? b=sr o->b∉X.ex->b∉ch:=λb o e a y=>by
  rcases(g b y).1 with z|z
  .exact a z
  .exact absurd[bC aU[e] z][eN _]
 let cellK:∀x c,X.env.cells.lookup x=sr c->∀v,s.heap.IsCell c v->h'.IsCell c v:=λx c e v ⟨o,A,hd⟩=>by
  let f:c∉ch:=λz=>(g c z).2.2.1 x c e rfl;by_cases L:c∈X.fs
  .let(G,q):=slot c o (I.cne x c e) L f A (I.freeC x c e);exact(_,q,hd)
  .exact(o,keep c o (I.cne x c e) L f A (I.freeC x c e),hd)
 refine(I.ok,I.os,Y,(λb o e n y a=>?_,λb o e n y a=>?_,λb o e n a=>?_,λb o e a=>?_,λb t e=>tups b t (I.base.tups b t e),λb o t e=>frzs b o t (I.base.frzs b o t e),λb ps e=>?_),?_,λx c e=>?_,?_,λx c e=>?_,λp hp=>?_,hok,I.len)
 .exact keep[b][o][C b o e][y][h b o e a][I.base.keep b o e n y a][I.base.free b o e n a]
 .let(G,j):=I.base.slot b o e n y a;let(F,D):=slot b _ (C b o e) y (h b o e a) j (I.base.free b o e n a);exact(F,D)
 .let(B,j):=I.base.there b o e a;exact free b B (h b o e a) j (I.base.free b o e n a)
 .let(B,j):=I.base.there b o e a;exact there b B (h b o e a) j
 .let(S,j):=I.base.tbls b ps e;let(Q,D):=tbls b _ j;exact(S ++ Q,by rw[D,pM])
 .let(m,T,U):=I.loc;refine(m,ns m T,λi x v j D Z=>?_);let(u,r,l):=U i x v j D Z;refine(u,r,?_);rcases l with l|⟨k,c,e,z⟩
  .exact .inl l
  .exact .inr (k,c,e,cellK x c e _ z)
 .let(v,z):=I.cell x c e;exact(v,cellK x c e v z)
 .let(m,(o,_,_,A,_),_):=I.loc;exact free _ o (λz=>(g _ z).2.1 rfl) A I.free
 .let(v,o,A,hd):=I.cell x c e;exact free c o (λz=>(g c z).2.2.1 x c e rfl) A (I.freeC x c e)
 .let(e,n,ne,J,d):=I.pin p hp;let f:p.1∉ch:=λz=>(g p.1 z).2.2.2 p hp rfl;exact(keep p.1 p.2 ne J f e n,free p.1 p.2 f e n,ne,J,d)
def Inv.un{l:Nat}(I:Inv X v k H s)(u:Un X.fs [] H H' s.heap i)(hok:HOk X.prog X.w H' i):Inv X v k H' { s with heap:=i,toks:=l }:=by
 let(m,(o,C,D,h,r),_):=id I.loc;let(y,t):=u.any h I.free (by simp)
 exact I.step (ch:=[]) (λa z=>nomatch z) (λb o a d a e n=>u.keep b o e n d (by simp)) (λb o a d a e n=>u.slot b o e n d (by simp)) (λb o a e n=>u.free b o e n (by simp)) (λb o a e=>u.there b o e (by simp)) u.tups u.frzs u.tbls (λB q=>by
  let(A,f,g,c,p):=q;rw[h] at c;cases c;exact(_,f,g,t,p)) hok I.bare
def Inv.call{l:Array yR}{C:Nat}{J:aCu}{q:lg aL}(I:Inv X t A H s)(u:Un frs[X.stack] q H H' s.heap k)(hok:HOk X.prog X.w H' k)(F:pA l)(f:∀b∈q,(b∈X.ex\/X.s₀.heap.objs.size<=b)/\b≠X.env.locals/\(∀x c,X.env.cells.lookup x=sr c->c≠b)/\∀p∈X.pn ++ t,p.1≠b):
  Inv X t A H' { s with heap:=k,gens:=l,drawn:=J,toks:=C }:=by
 let(m,(o,Q,S,j,r),_):=id I.loc;let(N,g):=u.any j I.free λz=>(f _ z).2.1 rfl
 exact I.step f (λb o g G a e n=>u.keep b o e n (λz=>(aV.mp[I.stkSub b z]).elim g G) a) (λb o B B a e n=>u.any e n a) (λb o a e n=>u.free b o e n a) (λb o a e=>u.there b o e a) u.tups u.frzs u.tbls (λP E=>by
  let(O,h,i,d,D):=E;rw[j] at d;cases d;exact(_,h,i,g,D)) hok F
def Inv.turned{t':Nat}{d:aL}(I:Inv X h i H s)(k:∀b o,b≠d->s.heap.get? b=sr o->y.get? b=sr o)(D:H d=sy)(w:d≠X.env.locals)(G:d∈X.ex\/X.s₀.heap.objs.size<=d)(F:∀x c,X.env.cells.lookup x=sr c->c≠d)(E:∀p∈X.pn ++ h,p.1≠d):Inv X h i H { s with heap:=y,toks:=t' }:=by
 let g:∀b u,H b=sr u->b≠d:=λb u e z=>by simp_all
 refine I.step (g':=s.gens) (d':=s.drawn) (ch:=[d]) (λb t=>?_) (λb o a a f e a=>k b o (λz=>f[by simp[z]]) e) (λb o a a f e a=>(o.slots,k b o (λz=>f[by simp[z]]) e)) (λa a a a n=>n)
  (λb o f e=>(o,k b o (λz=>f[by simp[z]]) e)) (λa a e=>e) (λa a a e=>e) (λb ps e=>(#[],by rw[e];simp)) (λm l=>?_) (λb u e=>?_) I.bare
 .let e:b=d:=by simpa using t
  subst e;trivial
 .let(o,A,B,j,r):=l;exact(o,A,B,k _ o eO[w] j,r)
 .refine(I.hok b u e).stay (λc v f q=>k c v ?_ q) (λa q=>q) λa a q=>q;rcases f with z|z
  .rw[z];exact g b u e
  .exact g c _ z
def Inv.tok(I:Inv X aa σ H s)(t:Nat):Inv X aa σ H { s with toks:=t }:=I.un Un.refl I.hok
def Inv.kept{t':Nat}(I:Inv X aa σ H s)(k:∀b u,s.heap.get? b=sr u->h'.get? b=sr u):Inv X aa σ H { s with heap:=h',toks:=t' }:=I.un Un.kept[k] I.hok.kept[k]
def Inv.laid{t':Nat}(I:Inv X e d H s)(k:∀b u,s.heap.get? b=sr u->c.get? b=sr u)(hp:s.heap.objs.size<=a)(new:Eo X.prog X.w (upd H a o) c a o):
  Inv X e d (upd H a o) { s with heap:=c,toks:=t' }:=(I.un[Un.laid k hp I.hok.fresh[hp]][I.hok.laid k hp new])
def Inv.write{t':Nat}(I:Inv X aa σ H s)(mu:Mut H[x])(he:e=x\/H e=sr .own[x])(k:∀b u,b≠e->s.heap.get? b=sr u->h'.get? b=sr u)(heo:∃u,h'.get? e=sr u)(new:Eo X.prog X.w (upd H x o) h' x o):Inv X aa σ (upd H x o) { s with heap:=h',toks:=t' }:=I.un[Un.write mu he k heo][I.hok.write mu he k heo new]
def Inv.pins_of(I:Inv X c b H s)(h:∀p∈pins',s.heap.get? p.1=sr p.2/\H p.1=sy/\p.1≠X.env.locals/\p.1∉X.fs/\∀v,p.2.data≠.cell v):Inv X pins' b H s:=(
 (I.ok,I.os,I.bare,I.base,I.loc,I.cell,I.free,I.freeC,λp hp=>(bR.mp hp).elim (λz=>I.pin p (fK _ z)) h[p],I.hok,I.len))
def Amj{N:lg o8}(e:N.Nodup){i j:Nat}{x:o8}(a:N[i]?=sr x)(b:N[j]?=sr x):i=j:=by
 let(l,g):=aC.mp a;let(k,f):=aC.mp b;exact(jU e).mp g.trans[f.symm]
def Ato{M:Model}{A:fJ}{E:aG->aO->Prop}{i:Nat}{x:o8}{v:V}{u:aG}{Q:Unit->aO->Prop}(I:Inv X aa σ H s)(hN:X.N.Nodup)(hi:X.N[i]?=sr x)(l:Loc X.env.scope x)(r:RelV v u)(h:∀s',Inv X aa (σ.set i sr[v]) H s'->(∃a,gD a s.heap s'.heap/\(a=X.env.locals\/X.env.cells.lookup x=sr a))->Q u9 s')(hf:X.fn x=t8\/X.env.scope.names.lookup x=sr .local:=by first|exact .inl rfl|exact .inr rfl|assumption):wpAny M A (storeName X.env x u) Q E s:=by
 let(m,hn,hl):=id I.loc;let O:(X.env.scope.kind==.class||(X.env.scope.kind==.module&&X.env.locals != X.env.globals))=tu:=by rw[I.ok.kind];rfl
 let B:i < σ.length:=by rw[I.len];exact(aC.mp hi).1
 let cne:=I.cne;let tracked:∀{a:aL} {G:dY},(∃o,s.heap.get? a=sr o/\H a=sy)->gD a s.heap G->HOk X.prog X.w H G:=λ{a G} ha f b ob e=>by
  let(_,_,bf):=ha;refine(I.hok b ob e).stay (λc T hc q=>(f.2 c ?_).trans q) (λuu q=>q) λuu uu q=>q;rintro rfl;rcases hc with rfl|hc
  .rw[bf] at e;cases e
  .rw[bf] at hc;cases hc
 rcases l with hk|hk
 .refine wpAny_storeName_local hk hn (λG hn' f=>?_) O;let(oL,_,_,hoL,_):=id hn;refine h _ (I.ok,I.os,I.bare,(λb o e n F l=>?_,λb o e n F l=>?_,I.base.free,λb o e l=>?_,I.base.tups,I.base.frzs,I.base.tbls),(_,hn',λj y Y g t e3=>?_),λy c e=>?_,I.free,I.freeC,λp hp=>?_,tracked (oL,hoL,I.free) f,by simpa using I.len) (_,f,.inl rfl)
  .exact(f.2 b bZ[bC aU[e] I.ok.above]).trans (I.base.keep b o e n F l)
  .let(sl,g):=I.base.slot b o e n F l;exact(sl,(f.2 b bZ[bC aU[e] I.ok.above]).trans g)
  .let(o',g):=I.base.there b o e l;exact(o',(f.2 b bZ[bC aU[e] I.ok.above]).trans g)
  .by_cases C:j=i
   .subst C;rw[hi] at g;cases g;rw[eX B] at t;cases t;exact(u,r,.inl (hk,by simp))
   .rw[fM eO[C]] at t;let(Z,r',q):=hl j y Y g t e3;refine(Z,r',?_);rcases q with ⟨k,e⟩|⟨k,c,e,z⟩
    .refine .inl (k,?_);have:y≠x:=λe=>C Amj[hN][g][e ▸ hi];simp[this,e]
    .exact .inr (k,c,e,z.sameBut f (cne y c e))
  .let(T,z):=I.cell y c e;exact(T,z.sameBut f (cne y c e))
  .let(e,n,ne,nf,d):=I.pin p hp;exact((f.2 p.1 ne).trans e,n,ne,nf,d)
 .let D:X.fn x=t8:=by
   rcases hf with z|z
   .exact z
   .rw[z] at hk;cases hk
  let(c,hc):=I.ok.has x .inl[hk];let(T,z):=I.cell x c hc;refine wpAny_storeName_cell I.ok.kind hk hc z (λG S f=>?_);let(oc,L,J):=id z;refine h { s with heap:=G } (I.ok,I.os,I.bare,(λb o e n F l=>?_,λb o e n F l=>?_,I.base.free,λb o e l=>?_,I.base.tups,I.base.frzs,I.base.tbls),(m,hn.sameBut f eO[cne x c hc],λj y Y g t e3=>?_),λy U e=>?_,I.free,I.freeC,λp hp=>?_,tracked (oc,L,I.freeC x c hc) f,by simpa using I.len) (c,f,.inr hc)
  .exact(f.2 b bZ[bC[aU e][I.ok.cab x c D hc]]).trans (I.base.keep b o e n F l)
  .let(sl,g):=I.base.slot b o e n F l;exact(sl,(f.2 b bZ[bC[aU e][I.ok.cab x c D hc]]).trans g)
  .let(o',g):=I.base.there b o e l;exact(o',(f.2 b bZ[bC[aU e][I.ok.cab x c D hc]]).trans g)
  .by_cases C:j=i
   .subst C;rw[hi] at g;cases g;rw[eX B] at t;cases t;exact(u,r,.inr (.inl hk,c,hc,S))
   .rw[fM eO[C]] at t;let(Z,r',q):=hl j y Y g t e3;refine(Z,r',?_);rcases q with q|⟨k,U,e,z'⟩
    .exact .inl q
    .refine .inr (k,U,e,z'.sameBut f ?_);rintro rfl;exact C Amj[hN][g][I.ok.inj _ _ _ e hc ▸ hi]
  .by_cases P:U=c
   .subst P;exact(_,S)
   .let(w2,z2):=I.cell y U e;exact(w2,z2.sameBut f P)
  .let(e,n,ne,nf,d):=I.pin p hp;refine((f.2 p.1 ?_).trans e,n,ne,nf,d);intro q;rw[q,L] at e;let q':oc=p.2:=cA e;exact d T (by rw[<-q'];exact J)
def Amk{i:Nat}(I:Inv X e b H s)(d:X.N.Nodup)(hi:X.N[i]?=sr x)(c:Loc X.env.scope x)(r:RelV v u)(h:∀a,Inv X e (b.set i sr[v]) H a->Q u9 a)(hf:X.fn x=t8\/X.env.scope.names.lookup x=sr .local:=by first|exact .inl rfl|exact .inr rfl|assumption):wpAny M A (storeName X.env x u) Q E s:=(
 Ato I d hi c r (λa g j=>h a g) hf)
def Inv.call'(I:Inv X d f H s)(g:s'.os=s.os)(u:Un frs[X.stack] ch H H' s.heap s'.heap)(hok:HOk X.prog X.w H' s'.heap)(h:pA s'.gens)(a:∀b∈ch,(b∈X.ex\/X.s₀.heap.objs.size<=b)/\b≠X.env.locals/\(∀x c,X.env.cells.lookup x=sr c->c≠b)/\∀p∈X.pn ++ d,p.1≠b):Inv X d f H' s':=by
 let(k,l,m,i,j):=s';subst g;exact I.call u hok h a
end
abbrev XK:=aG->o9[Nat×o9 aL]->Hp->Prop
abbrev St:=lg o9[V]
abbrev VK:=V->Hp->Prop
abbrev TE:=St->Hp->VK->Prop
abbrev TT:=St->Hp->(Bool->Hp->Prop)->Prop
abbrev TA:=St->Hp->(lg V->Hp->Prop)->Prop
structure Ends where
 nx:St->Hp->Prop
 rt:VK
 bk:St->Hp->Prop:=λuu uu=>False
 ct:St->Hp->Prop:=λuu uu=>False
abbrev TS:=Ends->St->Hp->Prop
inductive EP(X:Cx)(aa:List (aL×o7))(σ:St)(Q:VK)(u:aG)(s':aO):Prop
 |mk (v:V) (H':Hp) (I:Inv X aa σ H' s') (r:RelV v u) (q:Q v H'):EP X aa σ Q u s'
inductive TP(X:Cx)(aa:List (aL×o7))(σ:St)(Q:Bool->Hp->Prop)(b:Bool)(s':aO):Prop
 |mk (H':Hp) (I:Inv X aa σ H' s') (q:Q b H'):TP X aa σ Q b s'
inductive AP(X:Cx)(aa:List (aL×o7))(σ:St)(Q:List V->Hp->Prop)(us:List aG)(s':aO):Prop
 |mk (vs:List V) (H':Hp) (I:Inv X aa σ H' s') (r:Vals vs us) (q:Q vs H'):AP X aa σ Q us s'
def SP(X:Cx)(aa:lg[aL×o7])(D:Ends)(f:Flow)(s':aO):Prop:=
 match f with
 |.next=>∃σ' H',Inv X aa σ' H' s'/\D.nx σ' H'
 |.brk=>∃σ' H',Inv X aa σ' H' s'/\D.bk σ' H'
 |.cont=>∃σ' H',Inv X aa σ' H' s'/\D.ct σ' H'
 |.ret u=>∃v σ' H',Inv X aa σ' H' s'/\RelV v u/\D.rt v H'
def PE(X:Cx)(e:cM)(t:TE):Prop:=
 ∀(aa:lg[aL×o7])(s:aO)(σ:St)(H:Hp)(Q:VK),Inv X aa σ H s->t σ H Q->wpAny (model X.prog X.w) X.A (eval e X.env) (EP X aa σ Q) X.xe s
def PT(X:Cx)(e:cM)(t:TT):Prop:=
 ∀(aa:lg[aL×o7])(s:aO)(σ:St)(H:Hp)(Q:Bool->Hp->Prop),Inv X aa σ H s->t σ H Q->wpAny (model X.prog X.w) X.A isTrue[e][X.env][eval e X.env] (TP X aa σ Q) X.xe s
def PW(X:Cx)(e:cM)(t:TT):Prop:=
 ∀(whole:Sem aG)(aa:lg[aL×o7])(s:aO)(σ:St)(H:Hp)(Q:Bool->Hp->Prop),Inv X aa σ H s->t σ H Q->wpAny (model X.prog X.w) X.A (isTrue e X.env whole) (TP X aa σ Q) X.xe s
def PA(X:Cx)(es:lg cM)(t:TA):Prop:=
 ∀(pos:Pos)(aa:lg[aL×o7])(s:aO)(σ:St)(H:Hp)(Q:lg V->Hp->Prop),Inv X aa σ H s->t σ H Q->wpAny (model X.prog X.w) X.A spliced[backTo[pos][starEach es X.env]] (AP X aa σ Q) X.xe s
def PS(X:Cx)(st:cQ)(t:TS):Prop:=
 ∀(aa:lg[aL×o7])(s:aO)(σ:St)(H:Hp)(D:Ends),Inv X aa σ H s->t D σ H->wpAny (model X.prog X.w) X.A (exec st X.env) (SP X aa D) X.xe s
def PSs(X:Cx)(st:lg cQ)(t:TS):Prop:=
 ∀(aa:lg[aL×o7])(s:aO)(σ:St)(H:Hp)(D:Ends),Inv X aa σ H s->t D σ H->wpAny (model X.prog X.w) X.A (execs st X.env) (SP X aa D) X.xe s
def thn{α:Type}{t:Sem α}{Q Q':α->aO->Prop}(h:wpAny M A t Q E s)(hQ:∀a s,Q a s->Q' a s):wpAny M A t Q' E s:=eF h hQ λuu uu x=>x
section
def Bgu(i:Nat):TE:=λσ H Q=>∃v,σ[i]?=sr sr[v]/\Q v H
def tC(v:V):TE:=λuu H Q=>Q v H
def Bgv{i:Nat}(q:X.N[i]?=sr x)(hv:Vis X.env.scope x)(hd:(x==("__debug__":o8))=tu:=by decide)(b:(x==("__classdict__":o8))=tu:=by decide):PE X (.Name x pos) Bgu[i]:=by
 intro t s j H Q I h;let(v,e,h):=h;let(m,n,p):=I.loc;let(u,r,l):=p i x v q e hv;let a:EP X t j Q u s:=(v,H,I,r,h);rcases l with ⟨hk,o⟩|⟨hk,c,f,g⟩
 .exact yS (wpAny_loadName_local I.ok.kind hk n o a) hd
 .rcases hk with hk|hk
  .exact yS (wpAny_loadName_cell I.ok.kind hk f g a) hd
  .exact yS (wpAny_loadName_free I.ok.kind hk f g a b) hd
def Av4{i j pos}:PE X (.Constant .int[i] j pos) tC[.int[i]]:=λuu uu uu H uu I h=>wpAny_Constant_int (.int i,H,I.tok _,(_,rfl),h)
def Bku{b j pos}:PE X (.Constant .bool[b] j pos) tC[.bl[b]]:=λuu uu uu H uu I h=>Constant_bool (.bl b,H,I,rfl,h)
def Bgw{x j pos}:PE X (.Constant .str[x] j pos) tC[.str[x]]:=λuu uu uu H uu I h=>Calls.Constant_str (.str x,H,I.tok _,(_,rfl),h)
def Gl(X:Cx)(x:o8):Prop:=X.env.kindOf x=sr .globalImplicit
def Aa7(I:Inv X g f H s)(d:Gl X x)(c:X.mg x=sr u)(h:Q u s)(hd:(x==("__debug__":o8))=tu:=by decide):wpAny (model X.prog X.w) X.A eval[.Name x pos][X.env] Q E s:=(
 pN I.ok.kind d (Calls.loadGlobal_global (by rw[I.ok.glob];exact I.mod.glob.keeps I.bk) c h) hd)
def Aac(I:Inv X k j H s)(e:Gl X x)(d:X.mg x=sy)(hv:bootBuiltins x=sr u)(h:Q u s)(c:x≠"__name__":=by decide)(hd:(x==("__debug__":o8))=tu:=by decide):wpAny (model X.prog X.w) X.A eval[.Name x pos][X.env] Q E s:=by
 let(mb,g,f):=I.mod.blt;exact pN I.ok.kind e (Calls.loadGlobal_builtin (by rw[I.ok.glob];exact I.mod.glob.keeps I.bk) d (by rw[I.ok.blt];exact g.keeps I.bk) ((f x c).trans hv) h) hd
def tB(t:TE):TT:=λσ H Q=>t σ H λx H1=>∃c,x=.bl c/\Q c H1
def Bnj(t u:TT):TT:=λσ H Q=>t σ H λc H1=>if c=t8 then u σ H1 Q else Q tu H1
def tOr(t u:TT):TT:=λσ H Q=>t σ H λc H1=>if c=t8 then Q t8 H1 else u σ H1 Q
def Bkv(ta tb:TE):TE:=λσ H Q=>ta σ H λx H1=>∃c,x=.bl c/\if c=t8 then tb σ H1 Q else Q .bl[tu] H1
def Bkw(ta:TE):TE:=λσ H Q=>ta σ H λx H1=>∃c,x=.bl c/\Q .bl[!c] H1
def tIf(t:TT)(ta tb:TE):TE:=λσ H Q=>t σ H λc H1=>if c=t8 then ta σ H1 Q else tb σ H1 Q
end
def SqL(K:aD)(H:Hp)(a:aL)(xs:lg V):Prop:=
 Rd H a .lst[xs]\/
  ∃(o:o7)(its:Array aG)(n:Nat),K.lookup a=sr o/\o.cls=.type "list"/\o.dict=sy/\o.data=.seq its n/\its.size<=sizeLine/\Vals xs its.toList
def SqT(K:aD)(H:Hp)(a:aL)(xs:lg V):Prop:=
 Rd H a .tup[xs]\/
  ∃(o:o7)(its:Array aG)(n:Nat),K.lookup a=sr o/\o.cls=.type "tuple"/\o.data=.seq its n/\its.size<=sizeLine/\Vals xs its.toList
def Bnk:aG->o9 V
 |.none=>sr .non
 |.bool b=>sr .bl[b]
 |.int i _=>sr .int[i]
 |.str x _=>sr .str[x]
 |.bytes b _=>sr .byt[b]
 |.float b _=>sr .flt[b]
 |.ref a=>sr .ref[a]
 |.type n=>sr .ty[n]
 |_=>sy
def RelV.abs(r:RelV x u):Bnk u=sr x:=by
 cases x with
 |non=>cases r;rfl
 |bl _=>cases r;rfl
 |int _=>let(t,rfl):=r;rfl
 |str _=>let(t,rfl):=r;rfl
 |byt _=>let(t,rfl):=r;rfl
 |flt _=>let(t,rfl):=r;rfl
 |ref _=>cases r;rfl
 |ty _=>cases r;rfl
def RelV.inj(r:RelV x u)(q:RelV y u):x=y:=cA r.abs.symm.trans[q.abs]
theorem Vals.inj:∀{c b:lg V} {d:lg aG},Vals c d->Vals b d->c=b
 |_,_,_,.nil,.nil=>rfl
 |_,_,_,.cons r t,.cons f e=>by rw[r.inj f,Vals.inj t e]
section
def SqT.of{K:aD}(h:H a=sr .tup[xs]):SqT K H a xs:=.inl .inl[h]
def Inv.list(I:Inv X k g H s)(h:SqL X.K H a c):∃b:lg aG,Vals c b/\PlainL s.heap a b.toArray/\c.length<=sizeLine:=by
 rcases h with h|⟨o,b,n,hk,f,hd,j,i,r⟩
 .let(z,b,n,r,e):=h.ok I.hok;exact(b,r,(_,n,e,rfl,rfl,rfl),z)
 .refine(b.toList,r,(o,n,I.kIn a o hk,f,hd,()),?_)
  let e:=r.length;simp_all
def Inv.tuple(I:Inv X k g H s)(h:SqT X.K H a c):∃b:lg aG,Vals c b/\vW s.heap a b.toArray/\c.length<=sizeLine:=by
 rcases h with h|⟨o,b,n,hk,f,j,i,r⟩
 .let(z,b,r,p):=h.ok I.hok;exact(b,r,p,z)
 .refine(b.toList,r,(o,I.kIn a o hk,f,n,()),?_)
  let e:=r.length;simp_all
def Inv.list_inj(I:Inv X u p H s)(h:SqL X.K H a i)(l:SqL X.K H a g):i=g:=by
 let(k,r,(o,n,e,_,_,d),_):=I.list h;let(b,j,(q,t,c,_,_,f),_):=I.list l;rw[e] at c;cases c;rw[d] at f;injection f with d1 _
 have:=by simpa using congrArg aAs d1
 subst this;exact r.inj j
def Inv.tuple_inj(I:Inv X u p H s)(h:SqT X.K H a i)(l:SqT X.K H a g):i=g:=by
 let(k,r,(o,e,_,n,d),_):=I.tuple h;let(b,j,(q,c,_,t,f),_):=I.tuple l;rw[e] at c;cases c;rw[d] at f;injection f with d1 _
 have:=by simpa using congrArg aAs d1
 subst this;exact r.inj j
end
abbrev Cx.wish(X:Cx)(E:aG->aO->Prop):Cx:={ X with xe:=E }
abbrev Cx.nox(X:Cx):Cx:=X.wish λuu uu=>False
def Cx.Ok.wish{X:Cx}(ok:X.Ok)(E:aG->aO->Prop):(X.wish E).Ok:=(
 (ok.mod,ok.kind,ok.glob,ok.blt,ok.above,ok.inj,ok.has,ok.cab,ok.hd,ok.frames,ok.stk,ok.exf,ok.bs,ok.bsz,ok.noex,ok.exfs,ok.funs,ok.frf))
def Cx.Ok.unwish{X:Cx}{E:aG->aO->Prop}(ok:(X.wish E).Ok):X.Ok:=(
 (ok.mod,ok.kind,ok.glob,ok.blt,ok.above,ok.inj,ok.has,ok.cab,ok.hd,ok.frames,ok.stk,ok.exf,ok.bs,ok.bsz,ok.noex,ok.exfs,ok.funs,ok.frf))
section
def Inv.wish(I:Inv X aa σ H s)(E:aG->aO->Prop):Inv X.wish[E] aa σ H s:=(I.ok.wish E,I.os,I.bare,I.base,I.loc,I.cell,I.free,I.freeC,I.pin,I.hok,I.len)
def Inv.unwish(I:Inv X.wish[E] aa σ H s):Inv X aa σ H s:=(I.ok.unwish,I.os,I.bare,I.base,I.loc,I.cell,I.free,I.freeC,I.pin,I.hok,I.len)
def PE.nox(h:PE X.nox e t):PE X e t:=(λd s a H Q I c=>
 eF[h d s a H Q I.wish[_] c][λ_ _ ⟨v,H',I',r,q⟩=>(v,H',I'.unwish,r,q)] λb b z=>gF z)
end
section
def Bnl(t u:TS):TS:=λD σ H=>t { D with nx:=u D } σ H
def Av5{X:Cx}{st:cQ}{rest:lg cQ}{t u:TS}(i:PS X st t)(g:PSs X rest u):PSs X (st::rest) (Bnl t u):=by
 intro b s d H D I h;refine wpAny_execs_cons (thn (i b s d H { D with nx:=u D } I h) λf e q=>?_)
 cases f with
 |next=>
  let(a,k,j,q):=q;exact g b e a k D j q
 |ret v=>exact q
 |brk=>exact q
 |cont=>exact q
def Inv.quiet(I:Inv X b a H s):interactive X.env=tu:=by simp[interactive,I.ok.kind]
def Bkx(te:TE):TS:=λD σ H=>te σ H λuu H1=>D.nx σ H1
def Ba8(he:PE X e te)(hs:swapsWith e sy pos.line X.env=pure tu:=by rfl):PS X (.Expr e pos) Bkx[te]:=λaa s σ H D I h=>wpAny_Expr_any (thn[he aa s σ H _ I h] λv s1 ⟨x,H1,I1,r1,q1⟩=>(σ,H1,I1,q1)) I.quiet hs
def Bnm(te:TE):TS:=λD σ H=>te σ H D.rt
def Bgx(he:PE X e te):PS X (.Return sr[e] pos) Bnm[te]:=λaa s σ H D I h=>wpAny_Return_some[thn[he aa s σ H _ I h] λv s1 ⟨x,H1,I1,r1,q1⟩=>(x,σ,H1,I1,r1,q1)]
def Bnn(c:TT)(t u:TS):TS:=λD σ H=>c σ H λb H1=>if b=t8 then t D σ H1 else u D σ H1
end
abbrev TG:=V->St->Hp->(St->Hp->Prop)->Prop
abbrev TGs:=lg V->St->Hp->(St->Hp->Prop)->Prop
def PG(X:Cx)(target:cM)(t:TG):Prop:=
 ∀(aa:lg[aL×o7])(s:aO)(σ:St)(H:Hp)(v:V)(u:aG)(Q:St->Hp->Prop),Inv X aa σ H s->RelV v u->t v σ H Q->
  wpAny (model X.prog X.w) X.A (assign target X.env u) (λuu s'=>∃σ' H',Inv X aa σ' H' s'/\Q σ' H') X.xe s
def PGs(X:Cx)(ts:lg cM)(t:TGs):Prop:=
 ∀(aa:lg[aL×o7])(s:aO)(σ:St)(H:Hp)(vs:lg V)(us:lg aG)(Q:St->Hp->Prop),Inv X aa σ H s->Vals vs us->t vs σ H Q->
  wpAny (model X.prog X.w) X.A (assignInOrder ((assignEach ts X.env).map (·.2)) us) (λuu s'=>∃σ' H',Inv X aa σ' H' s'/\Q σ' H') X.xe s
section
def Aa8(i:Nat):TG:=λv σ H Q=>Q (σ.set i sr[v]) H
def Bno:TGs:=λvs σ H Q=>vs=[]/\Q σ H
def Bfv(t:TG)(u:TGs):TGs:=λvs σ H Q=>∃v r,vs=v::r/\t v σ H λσ' H'=>u r σ' H' Q
def Av6(l:PG X e t)(k:PGs X b u)(j:(assignEach (e::b) X.env).map (·.2)=assign e X.env::(assignEach b X.env).map (·.2):=by rfl):PGs X (e::b) (Bfv t u):=by
 intro c s d H p w Q I r h;let(v,q,m,h):=h;subst m;cases r with
 |cons r g=>
  rw[j];exact assignInOrder_cons[thn[l c s d H _ _ _ I r h] λ_ f ⟨σ1,H1,I1,q1⟩=>k c f σ1 H1 _ _ Q I1 g q1]
def Bky(K:aD)(n:Nat)(t:TGs):TG:=λv σ H Q=>∃a xs,v=.ref a/\SqT K H a xs/\xs.length=n/\t xs σ H Q
def Bgy(te:TE)(g:TG):TS:=λD σ H=>te σ H λx H1=>g x σ H1 D.nx
def Bgz(o:PE X e f)(n:PG X a g)(m:swapsWithSole [a] e b.line X.env=pure tu:=by rfl)(l:swappedStores [a] e X.env=pure sy:=by rfl)(p:(assignEach [a] X.env).map (·.2)=[assign a X.env]:=by rfl):PS[X][.Assign [a] e b][Bgy f g]:=by
 intro d s c H D I h;refine wpAny_Assign_stores (thn[o d s c H _ I h] λv i ⟨x,H1,I1,r1,q1⟩=>?_) m l;rw[p];exact thn[n d i c H1 x v _ I1 r1 q1] λu w q=>q
end
structure It where
 go:Nat->Hp->Prop
 yld:Nat->Hp->V->Hp->Prop
 stop:Nat->Hp->Prop
def Ae2(X:Cx)(aa:lg[aL×o7])(H:Hp)(b:aL):Prop:=
 H b=sy/\b≠X.env.locals/\b∉X.fs/\(b∈X.ex\/X.s₀.heap.objs.size<=b)/\(∀x c,X.env.cells.lookup x=sr c->c≠b)/\∀p∈X.pn ++ aa,p.1≠b
def Inv.fpOk(I:Inv X f h H s)(a:s.heap.objs.size<=b)(d:H' b=sy):Ae2 X f H' b:=by
 refine(d,lQ[bC I.lt a],I.nofs a,.inr[aH I.sz a],λx c e z=>?_,λp hp z=>absurd bC[aU (I.pin p hp).1][by simp_all] eN[_])
 .let(v,q):=I.cell x c e;exact absurd bC[q.lt][by simp_all] eN[_]
structure Turn(P:cF)(w:dG)(K:aD)(tg:cM)(J:It)(fp:List aL)(it:aL)(tn:Nat->dY->Prop):Prop where
 mem:it∈fp
 obj:∀i h,tn i h->∀b∈fp,∃o,h.get? b=sr o/\∀v,o.data≠.cell v
 keep:∀i h h',tn i h->(∀b∈fp,∀o,h.get? b=sr o->h'.get? b=sr o)->tn i h'
 item:∀(X:Cx),X.prog=P->X.w=w->X.K=K->X.calm=t8->∀(i:Nat)(aa:List (aL×o7))(s:aO)(σ:St)(H:Hp)(E:aG->aO->Prop),Inv X aa σ H s->(∀b∈fp,Ae2 X aa H b)->tn i s.heap->J.go i H->
  wpAny (model P w) X.A (pyNext (.ref it)) (λr s1=>∃u,r=sr u/\
   wpAny (model P w) X.A (letOwnedTupleGo tg (.ref it) u) (λuu s2=>∃x H',Inv X aa σ H' s2/\RelV x u/\J.yld i H x H'/\tn (i+1) s2.heap/\∀b∈fp,H' b=sy) E s1) E s
 done:∀(X:Cx),X.prog=P->X.w=w->X.K=K->X.calm=t8->∀(i:Nat)(aa:List (aL×o7))(s:aO)(σ:St)(H:Hp)(E:aG->aO->Prop),Inv X aa σ H s->(∀b∈fp,Ae2 X aa H b)->tn i s.heap->J.stop i H->
  wpAny (model P w) X.A (pyNext (.ref it)) (λr s1=>r=sy/\Inv X aa σ H s1) E s
 self:∀(A:fJ)(i:Nat)(s:aO)(Q:aG->aO->Prop)(E:aG->aO->Prop),tn i s.heap->Q (.ref it) s->wpAny (model P w) A (pyIter (.ref it)) Q E s
abbrev TI:=St->Hp->(It->Hp->Prop)->Prop
def PIE(X:Cx)(aa:lg[aL×o7])(σ:St)(tg:cM)(R:It->Hp->Prop)(itv:aG)(s2:aO):Prop:=
 ∃(it:aL)(fp:lg aL)(tn:Nat->dY->Prop)(J:It)(H':Hp),itv=.ref it/\Inv X aa σ H' s2/\Turn X.prog X.w X.K tg J fp it tn/\tn 0 s2.heap/\(∀b∈fp,Ae2 X aa H' b)/\R J H'
def PI(X:Cx)(tg iter:cM)(wi:TI):Prop:=
 ∀(aa:lg[aL×o7])(s:aO)(σ:St)(H:Hp)(R:It->Hp->Prop),Inv X aa σ H s->wi σ H R->
  wpAny (model X.prog X.w) X.A (eval iter X.env) (λv s1=>wpAny (model X.prog X.w) X.A pyIter[v] (PIE X aa σ tg R) X.xe s1) X.xe s
def Aml(d:s.heap.get? c=sr o)(f:o.cls=.type n)(hd:o.data=.fields g)(e:["enumerate","zip","dict_itemiterator","dict_reverseitemiterator","odict_iterator","itertools.zip_longest","itertools.pairwise"].contains n=tu)(a:Q u9 s):wpAny M A (letOwnedTupleGo b .ref[c] u) Q E s:=by
 cases b <;> first
  |exact aJ a
  |(cases u <;> first
    |exact aJ a
    |(refine aA[wpAny_load d ?_];rw[f,hd];show wpAny M A (if _ then _ else _) Q E s;rw[dq (by intro h;rw[e,yU] at h;cases h)];exact aJ a))
def Itl(K:aD)(a:aL):It:=
 (λi H=>∃xs x,SqL K H a xs/\xs[i]?=sr x,λi H x H'=>H'=H/\∀xs,SqL K H a xs->xs[i]?=sr x,λi H=>∃xs,SqL K H a xs/\xs.length<=i)
def Itt(K:aD)(a:aL):It:=
 (λi H=>∃xs x,SqT K H a xs/\xs[i]?=sr x,λi H x H'=>H'=H/\∀xs,SqT K H a xs->xs[i]?=sr x,λi H=>∃xs,SqT K H a xs/\xs.length<=i)
def Itr(lo:Int)(n:Nat):It:=(λi uu=>i < n,λi H x H'=>H'=H/\x=.int[lo+i],λi uu=>n<=i)
theorem Atp{P:cF}{w:dG}{K:aD}{S:cM}(a f:aL):Turn P w K S (Itl K a) [f] f (λi h=>h.IsListIter f a i) where
 mem:=by simp
 obj:=λi h st b g=>by
  let e:b=f:=by simpa using g
  subst e;let(o,e,c,d):=st;exact(o,e,λv z=>by rw[d] at z;cases z)
 keep:=λi h n st k=>st.at λo e=>k f (by simp) o e
 item:=by
  intro X B y hK N i O s L H E I hf st A;subst B y hK;let(Q,x,m,t):=A;let(r,q,p,Y):=I.list m;let(u,hu,U):=q.get t;let(J,G,f2,F,D,C):=hf f (by simp)
  refine wpAny_pyNext_list_item st p.isList (x:=u) (by simpa using hu) λn j T=>?_
  let I1:Inv X O L H { s with heap:=n }:=I.turned (t':=s.toks) (λb o g e=>(T.2 b g).trans e) J G F D C
  let(o,e,c,d):=id j;exact(u,rfl,Aml (s:={ s with heap:=n }) e c d () (x,H,I1,U,(rfl,λys Z=>by rw[I.list_inj Z m];exact t),j,λb g=>(hf b g).1))
 done:=by
  intro X B y hK N i O s L H E I hf st A;subst B y hK;let(Q,m,t):=A;let(r,q,p,Y):=I.list m;let(J,G,f2,F,D,C):=hf f (by simp)
  let hl:=q.length;exact wpAny_pyNext_list_end I.ok.hd[N] st p.isList (by simp;omega) λn eb=>(rfl,I.turned (t':=s.toks) (λb o g e=>eb b o g e) J G F D C)
 self:=λl l l l l st h=>wpAny_pyIter_listiter st h
theorem Apb{P:cF}{w:dG}{K:aD}{S:cM}(a g:aL):Turn P w K S (Itt K a) [g] g (λi h=>h.IsTupleIter g a i) where
 mem:=by simp
 obj:=λi h st b j=>by
  let e:b=g:=by simpa using j
  subst e;let(o,e,c,d):=st;exact(o,e,λv z=>by rw[d] at z;cases z)
 keep:=λi h q st k=>st.at λo e=>k g (by simp) o e
 item:=by
  intro X B y hK N i O s L H E I hf st A;subst B y hK;let(Q,x,n,t):=A;let(f,r,p,Y):=I.tuple n;let(u,hu,U):=r.get t;let(J,G,f2,F,D,C):=hf g (by simp)
  refine wpAny_pyNext_tuple_item st (show s.heap.IsTuple a f.toArray from p) (x:=u) (by simpa using hu) λq l T=>?_
  let I1:Inv X O L H { s with heap:=q }:=I.turned (t':=s.toks) (λb o j e=>(T.2 b j).trans e) J G F D C
  let(o,e,c,d):=id l;exact(u,rfl,Aml (s:={ s with heap:=q }) e c d () (x,H,I1,U,(rfl,λys Z=>by rw[I.tuple_inj Z n];exact t),l,λb j=>(hf b j).1))
 done:=by
  intro X B y hK N i O s L H E I hf st A;subst B y hK;let(Q,n,t):=A;let(f,r,p,Y):=I.tuple n;let(J,G,f2,F,D,C):=hf g (by simp)
  let hl:=r.length;exact wpAny_pyNext_tuple_end I.ok.hd[N] st (show s.heap.IsTuple a f.toArray from p) (by simp;omega) λq eb=>(rfl,I.turned (t':=s.toks) (λb o j e=>eb b o j e) J G F D C)
 self:=λm m m m m st h=>wpAny_pyIter_tupleiter st h
theorem Apc{P:cF}{w:dG}{K:aD}{J:cM}(a:aL)(lo:Int)(n:Nat):Turn P w K J (Itr lo n) [a] a (λi h=>IsRangeIter h a (lo+(i:Nat) * 1) ((n:Int) - (i:Nat)) 1) where
 mem:=by simp
 obj:=λi h st b c=>by
  let e:b=a:=by simpa using c
  subst e;exact(_,st,λv z=>by
   let G:tW _=rH v:=z;cases G)
 keep:=λi h l st k=>k a (by simp) _ st
 item:=by
  intro X r m hK q i F s C H E I hf st p;subst r m hK;let(B,A,N,y,x,u):=hf a (by simp)
  let W:=Walks.range (prog:=X.prog) (w:=X.w) I.ok.hd[q] a lo 1 n;refine W.item i s _ _ p st λv l D hv d L=>?_;let(t,rfl):=hv;let Q:Inv X F C H { s with heap:=l,toks:=D }:=I.turned (λb o c e=>L b o (by simpa using c) e) B A y x u
  refine(_,rfl,Aml (s:={ s with heap:=l,toks:=D }) (n:="range_iterator") d rfl rfl () (.int[lo+i],H,Q,(t,?_),(rfl,rfl),d,λb c=>(hf b c).1))
  rw[Int.mul_one]
 done:=by
  intro X r m hK q i F s C H E I hf st p;subst r m hK;let(B,A,N,y,x,u):=hf a (by simp)
  exact wpAny_pyNext_range_end I.ok.hd[q] st (by have:n<=i:=p;omega) λl O=>(rfl,I.turned (t':=s.toks) (λb o c e=>O b o c e) B A y x u)
 self:=λj j j j j st h=>wpAny_pyIter_rangeiter st h
section
def Bkz(K:aD)(tl:TE):TI:=λσ H R=>tl σ H λx H1=>∃a,x=.ref a/\(∃xs,SqL K H1 a xs)/\R (Itl K a) H1
def Bnp(K:aD)(tl:TE):TI:=λσ H R=>tl σ H λx H1=>∃a,x=.ref a/\(∃xs,SqT K H1 a xs)/\R (Itt K a) H1
def Ba9{l:cM}{d:TE}(n:PE X l d):PI X y l (Bkz X.K d):=by
 intro t s f H R I h;refine thn[n t s f H _ I h] λv g ⟨x,H1,I1,r1,q1⟩=>?_;let(a,e,(w,m),q):=q1;subst e;cases r1;let(k,z,p,A):=I1.list m;refine nA p.isList ?_;refine(g.heap.objs.size,_,_,_,H1,rfl,I1.kept λb o e=>aF _ e,Atp a _,(_,aR _ rfl,rfl,rfl),λb r=>?_,q);let e:=by simpa using r
 subst e;exact I1.fpOk aN[_] I1.hok.fresh[aN[_]]
def Bg0{l:cM}{d:TE}(n:PE X l d):PI X y l (Bnp X.K d):=by
 intro t s f H R I h;refine thn[n t s f H _ I h] λv g ⟨x,H1,I1,r1,q1⟩=>?_;let(a,e,(w,m),q):=q1;subst e;cases r1;let(k,z,p,A):=I1.tuple m;refine pO (p) ?_;refine(g.heap.objs.size,_,_,_,H1,rfl,I1.kept λb o e=>aF _ e,Apb a _,(_,aR _ rfl,rfl,rfl),λb r=>?_,q);let e:=by simpa using r
 subst e;exact I1.fpOk aN[_] I1.hok.fresh[aN[_]]
def Av7{lo hi:Int}{t u v:Tok}{g:Nat}(I:Inv X h f H s)(m:-(2 ^ 62)<=lo)(l:lo < 2 ^ 62)(k:-(2 ^ 62)<=hi)(j:hi < 2 ^ 62)(q:R (Itr lo (hi - lo).toNat) H):wpAny (model X.prog X.w) X.A pyIter[.ref[s.heap.objs.size]] (PIE X h f x R) E { s with heap:=s.heap.push { cls:=.type "range",data:=.fields #[.int lo t,.int hi u,.int 1 v] },toks:=g }:=by
 refine wpAny_pyIter_range[IsRange.new ..][small_one m l k j][?_];let d:Inv X h f H { s with heap:=s.heap.push { cls:=.type "range",data:=.fields #[.int lo t,.int hi u,.int 1 v] },toks:=g }:=I.kept λb o e=>aF _ e
 refine(_,_,_,_,H,rfl,
  d.kept λb o e=>aF _ e,Apc _ lo _,?_,λb i=>?_,q)
 .let p:lo+(0:Nat) * 1=lo:=by simp
  let n:((hi - lo).toNat:Nat) - ((0:Nat):Int)=aAo lo hi 1:=by rw[rangeSize_one];split <;> omega
  rw[p,n];exact aR _ rfl
 .let e:b=(s.heap.push { cls:=.type "range",data:=.fields #[.int lo t,.int hi u,.int 1 v] }).objs.size:=by simpa using i
  subst e;exact d.fpOk aN[_] d.hok.fresh[aN[_]]
def Bk0(ta:TA):TI:=λσ H R=>ta σ H λvs H1=>∃j:Int,vs=[.int j]/\-(2 ^ 62)<=j/\j < 2 ^ 62/\R (Itr 0 j.toNat) H1
def Bnq(wi:TI)(g:TG)(tb:TS):TS:=λD σ H=>wi σ H λJ H1=>∃W:Nat->Nat->St->Hp->Prop,(∃m,W 0 m σ H1)/\∀i m σ H,W i m σ H->
 (J.stop i H/\D.nx σ H)\/(J.go i H/\∃N:St->Hp->Prop,(∀σ' H',N σ' H'->∃m',m' < m/\W (i+1) m' σ' H')/\∀x H',J.yld i H x H'->g x σ H' λσ2 H2=>tb { D with nx:=N,ct:=N,bk:=D.nx } σ2 H2)
def Afz(fp:lg aL)(h:dY):lg[aL×o7]:=fp.filterMap λb=>(h.get? b).map λo=>(u6 b o)
def M5(a:b∈c)(e:h.get? b=sr o):(u6 b o)∈Afz c h:=(jZ.mpr (b,a,by simp_all))
def Atq(hp:p∈Afz a h):p.1∈a/\h.get? p.1=sr p.2:=by
 let(b,d,e):=jZ.mp hp;cases q:h.get? b with
 |none=>simp_all
 |some o=>
  rw[q] at e;let c:=cA e;subst c;trivial
def Inv.pinned(I:Inv X c f H s)(hf:∀b∈fp,Ae2 X c H b)(g:∀b∈fp,∃o,s.heap.get? b=sr o/\∀v,o.data≠.cell v):Inv X (c ++ Afz fp s.heap) f H s:=(
 I.pins_of λp hp=>(bR.mp hp).elim (λz=>I.pin p (cC _ z)) λz=>by
  let(a,e):=Atq z;let(j,i,h,_):=hf p.1 a;let(o,k,d):=g p.1 a;simp_all)
def Inv.unpinned(I:Inv X (aa ++ pl) σ H s):Inv X aa σ H s:=I.pins_of λp hp=>I.pin p cC[_][fK _ hp]
def Bg1(hp:xG (model X.prog X.w) X.A X.env X.xe)(hc:X.calm=t8)(hi:PI X tg z wi)(hg:PG X tg g)(l:PSs X body tb)(hs:∀x,foldedSetIterable z X.env x=pure x:=by intro _;rfl):PS[X][.For tg z body [] pos][Bnq wi g tb]:=by
 intro C s σ H D I h;refine wpAny_For (thn[hi C s σ H _ I h] λv s1 h1=>thn h1 λitv s2 h2=>?_) hs;let(it,O,tn,J,H2,e,I2,T,S,f2,W,(m0,w0),E):=h2;subst e;let k:∀{t:Hp},(∀b∈O,t b=sy)->∀b∈O,Ae2 X C t b:=λhn b l=>(hn b l,(f2 b l).2);refine codeAny_forLoop_any (λn s'=>∃i j t,Inv X C j t s'/\tn i s'.heap/\(∀b∈O,t b=sy)/\W i n j t) ?_ m0 (0,σ,H2,I2,S,λb l=>(f2 b l).1,w0);rintro n s3 ⟨i,c,P,I3,F,L,w3⟩;rcases E i n c P w3 with ⟨stop,qn⟩|⟨go,N,hN,step⟩
 .refine mR hp (thn[T.done X rfl rfl rfl hc i C s3 c P X.xe I3 k[L] F stop] λr s4 ⟨hr,I4⟩=>?_);subst hr;exact sV (c,P,I4,qn)
 .refine mR hp (thn[T.item X rfl rfl rfl hc i C s3 c P X.xe I3 k[L] F go] λr s4 ⟨u,hr,h4⟩=>?_);subst hr;refine mR hp (thn h4 λ_ s5 ⟨x,H5,I5,r5,y5,st5,fr5⟩=>?_);let I5':=I5.pinned[k fr5][T.obj _ _ st5];refine mR hp (thn[hg _ s5 c H5 x u _ I5' r5 (step x H5 y5)] λ_ s6 ⟨σ6,H6,I6,q6⟩=>?_);refine mR hp (thn[l _ s6 σ6 H6 _ I6 q6] λf U y=>?_);let again:∀{a:St} {q:Hp},Inv X (C ++ Afz O s5.heap) a q U->N a q->∃m,m < n/\∃i j t,Inv X C j t U/\tn i U.heap/\(∀b∈O,t b=sy)/\W i m j t:=λ{a q} p G=>by
   let(m',hm,w7):=hN a q G;refine(m',hm,i+1,a,q,p.unpinned,T.keep _ _ _ st5 λb l o e=>(p.pin[u6 b o][cC _ cC[_][M5 l e]]).1,λb l=>?_,w7);let(o,e,d):=T.obj _ _ st5 b l;exact(p.pin[u6 b o][cC _ cC[_][M5 l e]]).2.1
  cases f with
  |next=>let(a,q,p,G):=y;exact again p G
  |cont=>let(a,q,p,G):=y;exact again p G
  |brk=>let(a,q,p,y):=y;exact(a,q,p.unpinned,y)
  |ret v=>let(x7,a,q,p,r7,y):=y;exact(x7,a,q,p.unpinned,r7,y)
end
abbrev R2:=V->V->Hp->VK->Prop
def OpR(X:Cx)(f:aG->aG->Sem aG)(r:R2):Prop:=
 ∀(aa:lg[aL×o7])(s:aO)(σ:St)(H:Hp)(x y:V)(v u:aG)(Q:VK),Inv X aa σ H s->RelV x v->RelV y u->r x y H Q->
  wpAny (model X.prog X.w) X.A (f v u) (EP X aa σ Q) X.xe s
def UnR(X:Cx)(f:aG->Sem aG)(r:V->Hp->VK->Prop):Prop:=
 ∀(aa:lg[aL×o7])(s:aO)(σ:St)(H:Hp)(x:V)(v:aG)(Q:VK),Inv X aa σ H s->RelV x v->r x H Q->
  wpAny (model X.prog X.w) X.A f[v] (EP X aa σ Q) X.xe s
def Jk(X:Cx)(f:aG)(r:lg V->Hp->VK->Prop):Prop:=
 ∀(aa:lg[aL×o7])(s:aO)(σ:St)(H:Hp)(xs:lg V)(us:lg aG)(Q:VK),Inv X aa σ H s->Vals xs us->r xs H Q->
  wpAny (model X.prog X.w) X.A (call f us) (EP X aa σ Q) X.xe s
def tOp(r:R2)(ta tb:TE):TE:=λσ H Q=>ta σ H λx H1=>tb σ H1 λy H2=>r x y H2 Q
def rI(C:Int->Int->Prop)(g:Int->Int->V):R2:=λx y H Q=>∃i j,x=.int i/\y=.int j/\C i j/\Q (g i j) H
def rI0(g:Int->Int->V):R2:=λx y H Q=>∃i j,x=.int i/\y=.int j/\Q (g i j) H
def rU(g:Int->V):V->Hp->VK->Prop:=λx H Q=>∃i,x=.int i/\Q g[i] H
section
def Bg2(B:PE X a n)(z:PE X b tb){k:lg[aL×o7]}{s:aO}{c:St}{H:Hp}{R:V->V->Hp->Prop}(I:Inv X k c H s)(h:n c H λx l=>tb c l λy d=>R x y d){Q:aG->aO->Prop}{f:aG->aG->Sem aG}(hf:∀v u j x y d,Inv X k c d j->RelV x v->RelV y u->R x y d->wpAny (model X.prog X.w) X.A (f v u) Q X.xe j):
  wpAny (model X.prog X.w) X.A (eval a X.env) (λv g=>wpAny (model X.prog X.w) X.A (eval b X.env) (λu e=>wpAny (model X.prog X.w) X.A (f v u) Q X.xe e) X.xe g) X.xe s:=(thn[B k s c H _ I h] λv o ⟨x,l,I1,r1,q1⟩=>thn[z k o c l _ I1 q1] λu j ⟨y,d,I2,r2,q2⟩=>hf v u j x y d I2 r1 r2 q2)
def opI{C:Int->Int->Prop}{g:Int->Int->Int}(b:∀(i j:Int)(t u:Tok)(s:aO)(Q:aG->aO->Prop)(E:aG->aO->Prop),C i j->Q .int[g i j][s.toks] { s with toks:=s.toks+1 }->wpAny (model X.prog X.w) X.A f[.int i t][.int j u] Q E s):
  OpR X f (rI C λi j=>.int[g i j]):=by
 intro n s m H x y v u Q I e d h;let(i,j,rfl,rfl,k,q):=h;let(t,rfl):=e;let(c,rfl):=d;exact b i j t c s _ _ k (.int _,H,I.tok _,(_,rfl),q)
def Bg3{g:Int->Int->Int}(b:∀(i j:Int)(t u:Tok)(s:aO)(Q:aG->aO->Prop)(E:aG->aO->Prop),Q .int[g i j][s.toks] { s with toks:=s.toks+1 }->wpAny (model X.prog X.w) X.A f[.int i t][.int j u] Q E s):
  OpR X f (rI0 λi j=>.int[g i j]):=by
 intro m s l H x y v u Q I e d h;let(i,j,rfl,rfl,q):=h;let(t,rfl):=e;let(c,rfl):=d;exact b i j t c s _ _ (.int _,H,I.tok _,(_,rfl),q)
def Bba{g:Int->Int->Bool}(a:∀(i j:Int)(t u:Tok)(s:aO)(Q:aG->aO->Prop)(E:aG->aO->Prop),Q .bool[g i j] s->wpAny (model X.prog X.w) X.A f[.int i t][.int j u] Q E s):
  OpR X f (rI0 λi j=>.bl[g i j]):=by
 intro n s m H x y v u Q I k e h;let(i,j,rfl,rfl,q):=h;let(t,rfl):=k;let(d,rfl):=e;exact a i j t d s _ _ (.bl _,H,I,rfl,q)
def Bnr(i j:Int):Prop:=0 < j/\j < 1073741824
def Bns(i j:Int):Prop:=0<=j/\j<=1000000/\i.natAbs < 2 ^ 64
def Bbb(i j:Int):Prop:=(-(2 ^ 64) < i/\i < 2 ^ 64)\/(-(2 ^ 64) < j/\j < 2 ^ 64)
def Bbb.ok{i j:Int}(h:Bbb i j):IntMulOk i j:=by
 rcases h with ⟨b,a⟩|⟨b,a⟩
 .exact .of_left[aAb b a]
 .exact .of_right[aAb b a]
def Bg4:OpR X binaryOp[.Add] (rI0 λi j=>.int[i+j]):=Bg3 λuu uu uu uu uu uu uu q=>add_int q
def Bg5:OpR X binaryOp[.Sub] (rI0 λi j=>.int[i - j]):=Bg3 λuu uu uu uu uu uu uu q=>sub_int q
def Bg6:OpR X binaryOp[.Mult] (rI Bbb λi j=>.int[i * j]):=opI λuu uu uu uu uu uu uu hc q=>mul_int q hc.ok
def unI{g:Int->Int}(a:∀(i:Int)(t:Tok)(s:aO)(Q:aG->aO->Prop)(E:aG->aO->Prop),Q (.int g[i] s.toks) { s with toks:=s.toks+1 }->wpAny (model X.prog X.w) X.A f[.int i t] Q E s):
  UnR X f (rU λi=>.int g[i]):=by
 intro j s e H x v Q I c h;let(i,rfl,q):=h;let(t,rfl):=c;exact a i t s _ _ (.int _,H,I.tok _,(_,rfl),q)
end
section
def Kz(I:Inv X c a H s)(q:Q .bl[k] H)(e:k=b):EP X c a Q .bool[b] s:=by
 subst e;exact(.bl k,H,I,rfl,q)
def Bk1:OpR X compareOp[.Lt] (rI0 λi j=>.bl decide[i < j]):=Bba λuu uu uu uu uu uu uu q=>lt_int q
def Bk2:OpR X compareOp[.LtE] (rI0 λi j=>.bl decide[i<=j]):=Bba λuu uu uu uu uu uu uu q=>le_int q
def Bk3:OpR X compareOp[.Gt] (rI0 λi j=>.bl decide[j < i]):=Bba λuu uu uu uu uu uu uu q=>gt_int q
def Bk4:OpR X compareOp[.GtE] (rI0 λi j=>.bl decide[j<=i]):=Bba λuu uu uu uu uu uu uu q=>ge_int q
def Atr:OpR X compareOp[.In] (λx y H Q=>∃i j,x=.str i/\y=.str j/\Q .bl[!(dB j i 0 j.length 1).isEmpty] H):=by
 intro e s c H x y v u Q I b a h;let(i,j,rfl,rfl,q):=h;let(t,rfl):=b;let(d,rfl):=a;exact in_str[Kz I q rfl]
def Bg7:OpR X compareOp[.Is] (λx y H Q=>y=.non/\Q .bl[decide[x=.non]] H):=by
 intro d s c H x y v u Q I b a h;let(rfl,q):=h;cases a;refine is_none_gen[Kz I q ?_];cases x <;> first
  |rfl
  |(let(t,rfl):=b;rfl)
def Bbc:OpR X compareOp[.IsNot] (λx y H Q=>y=.non/\Q .bl[!decide (x=.non)] H):=by
 intro d s c H x y v u Q I b a h;let(rfl,q):=h;cases a;refine isnot_none_gen[Kz I q ?_];cases x <;> first
  |rfl
  |(let(t,rfl):=b;rfl)
def isObj:HO->Bool
 |.lst _=>t8
 |.ins _ _ _=>t8
 |_=>tu
def Wx{f:lg[aL×o7]}{s:aO}{c:St}{H:Hp}{a:aL}{o:HO}(I:Inv X f c H s)(h:H a=sr o)(p:isObj o=t8):∃ob,s.heap.get? a=sr ob/\ob.cls≠.type "tuple":=by
 cases o with
 |lst i=>
  obtain⟨_,d,n,_,e⟩:_:=I.hok a _ h;exact(_,e,(by show nY "list"≠_;trivial))
 |ins C j fs=>
  let(_,_,_,e,_):=I.hok a _ h;exact(_,e,(by simp))
 |_=>exact absurd (show tu=t8 from p) cR
def OpR.or(h:OpR X f r)(g:OpR X f e):OpR X f (λx y H Q=>r x y H Q\/e x y H Q):=by
 intro d s a H x y v u Q I c b q;rcases q with q|q
 .exact h d s a H x y v u Q I c b q
 .exact g d s a H x y v u Q I c b q
def Bk5(t:TE):TT:=λσ H Q=>t σ H λx H'=>∃k,x=.bl k/\Q k H'
def Apd(r r':R2)(ta tb tc:TE):TE:=λσ H Q=>ta σ H λx H1=>tb σ H1 λy H2=>r x y H2 λz H3=>∃k,z=.bl k/\
 (if k=t8 then tc σ H3 λw' H4=>r' y w' H4 Q else Q .bl[tu] H3)
def Av8(T:OpR X compareOp[n] r)(j:OpR X compareOp[g] L)(ha:PE X a A)(Z:PE X b tb)(Y:PE X c w)(U:lastMarks [n,g] [b,c]=tu:=by with_unfolding_all rfl):PE[X][.Compare a [n,g] [b,c] pos][Apd r L A tb w]:=by
 intro i s f H Q I h;refine Compare_chain (thn[ha i s f H _ I h] λv E ⟨x,H1,I1,r1,q1⟩=>chain_link (thn[Z i E f H1 _ I1 q1] λu D ⟨y,H2,I2,r2,q2⟩=>
  thn[T i D f H2 x y v u _ I2 r1 r2 q2] λd C ⟨z,H3,I3,r3,k,e,q3⟩=>?_)) U
 subst e;cases r3;refine gM ?_;cases k with
 |false=>exact ite_ff (.bl tu,H3,I3,rfl,q3)
 |true=>exact ite_tt chain_last[thn[Y i C f H3 _ I3 q3] λt B ⟨z',H4,I4,r4,q4⟩=>j i B f H4 y z' u t Q I4 r2 r4 q4]
def Av9(Z:OpR X compareOp[n] r)(j:OpR X compareOp[g] N)(ha:PE X a A)(hb:PE X b tb)(hc:PE X c w)(hm:lastMarks [n,g] [b,c]=tu:=by with_unfolding_all rfl):PT X (.Compare a [n,g] [b,c] pos) Bk5[Apd r N A tb w]:=by
 intro i s f H Q I h;refine isTrue_chain (thn[ha i s f H _ I h] λv E ⟨x,H1,I1,r1,q1⟩=>test_link (thn[hb i E f H1 _ I1 q1] λu D ⟨y,H2,I2,r2,q2⟩=>
  thn[Z i D f H2 x y v u _ I2 r1 r2 q2] λd C ⟨z,H3,I3,r3,k,e,q3⟩=>?_)) hm
 subst e;cases r3;refine gM ?_;cases k with
 |false=>
  let(k',e',U):=q3;cases e';exact ite_ff (H3,I3,U)
 |true=>
  refine ite_tt test_last[thn[hc i C f H3 _ I3 q3] λt B ⟨z',H4,I4,r4,q4⟩=>thn[j i B f H4 y z' u t _ I4 r2 r4 q4] λd' s5 ⟨z2,H5,I5,r5,k2,e2,q5⟩=>?_];subst e2;cases r5;exact gM (H5,I5,q5)
def Acy:(sizeLine:Nat) < 2 ^ 63:=by decide
def Ape:OpR X binaryOp[.Add] (λx y H Q=>∃i j,x=.str i/\y=.str j/\i.length+j.length<=sizeLine/\Q .str[i ++ j] H):=by
 intro g s e H x y v u Q I c b h;let(i,j,rfl,rfl,d,q):=h;let(t,rfl):=c;let(a,rfl):=b;exact add_str (λa f=>(.str _,H,I.tok _,(_,rfl),q)) d
def vals1(r:Vals [x] a):∃u,a=[u]/\RelV x u:=by
 cases r with
 |cons c b=>cases b;exact(_,rfl,c)
def vals2(r:Vals [x,y] b):∃u a,b=[u,a]/\RelV x u/\RelV y a:=by
 cases r with
 |cons f e=>
  cases e with
  |cons d c=>cases c;exact(_,_,rfl,f,d)
def Bnt(K:aD)(x:V)(H:Hp)(n:Nat):Prop:=
 match x with
 |.str y=>y.length<=sizeLine/\n=y.length
 |.byt y=>y.size<=sizeLine/\n=y.size
 |.ref p=>(∃xs,SqL K H p xs/\n=xs.length)\/∃xs,SqT K H p xs/\n=xs.length
 |_=>False
def Awa:Jk X .builtin["len"] (λc H Q=>∃x n,c=[x]/\Bnt X.K x H n/\Q .int[n] H):=by
 intro w s l H c m Q I r h;let(x,n,rfl,e,q):=h;let(u,rfl,d):=vals1 r;let v:=Acy;let o:sizeLine=16777216:=tX;cases x with
 |str y=>
  let(t,rfl):=d;obtain⟨k,b⟩:_:=e;subst b;exact len_str () (.int _,H,I.tok _,(_,rfl),q)
 |byt y=>
  let(t,rfl):=d;obtain⟨k,b⟩:_:=e;subst b;exact PySem.W.len_bytes () (.int _,H,I.tok _,(_,rfl),q)
 |ref p=>
  cases d;let b:=e;rcases b with ⟨c,i,b⟩|⟨c,i,b⟩
  .subst b;let(g,f,pl,j):=I.list i;let a:=f.length;exact Calls.call_len_list pl.isList (by simp only[bV];omega) (.int c.length,H,I.tok _,(_,by simp only[bV];rw[a]),q)
  .subst b;let(g,f,pl,j):=I.tuple i;let a:=f.length;exact len_tuple pl (by simp only[bV];omega) (.int c.length,H,I.tok _,(_,by simp only[bV];rw[a]),q)
 |_=>exact(show False from e).elim
end
structure Ats(h:dY)(x dx C:aL)(mA:o8->Option aG):Prop where
 obj:h.get? x=sr (lD C dx)
 ns:h.Ns1 dx mA
 ne:dx≠x
set_option tactic.hygienic true in
def Air{h:dY}{g:aL}{d:o8->o9 aG}(n:h.Ns1 g d):∃c,h.get? g=sr c/\∀name,pP name c=sr d[name]:=by
 let(o,f,r,k,hd,hk,_,l):=n;refine(o,k,λname=>?_);let e:=l name;unfold nsFind findBy at e;rw[<-Array.find?_toList] at e;unfold pP;rw[hd];dsimp only;split
 .rename_i y q;rw[q] at e;exact congrArg sr e
 .rename_i q;rw[q] at e;let a:f.toList.any (·.refKey)=tu:=by
   rw[List.any_eq_false];intro y j;let(z,t,b):=hk y Array.mem_toList_iff.mp[j];simp[aDc,b]
  let m:¬ f.toList.any (·.refKey)=t8:=by rw[a];simp
  rw[dq m];exact congrArg sr e
def Ats.look(I:Ats h x e C b):∃a,PySem.W.InstAt h x (lD C e) C sr[a]/\∀name,pP name a=sr b[name]:=(
 let ⟨a,c,d⟩:=Air I.ns
 (a,(I.obj,rfl,rfl,c),d))
section
def Awb{prog:cF}{w:dG}{A:fJ}{E:aG->aO->Prop}{s:aO}{K:aD}{x g C f:aL}{b:o8->o9 aG}{name:o8}(X:K.In s.heap)(I:Ats s.heap x g C b)(c:nZ K C name=t8)(hf:cN K .ref[C] name=sr sr[.ref[f]])(e:rY K .ref[f]=t8)(hv:b name=sy)(h:Q (u6 .ref[f] [.ref x]) s):
  wpAny (model prog w) A (getMethod .ref[x] name pl) Q E s:=by
 let(d,J,i):=I.look;exact PySem.W.method_fn X J (oW c).1 (oW c).2 hf beq_iff_eq.mp[e] (by show (pP name d).map _=_;simp_all) h
def Bbd{prog:cF}{w:dG}{A:fJ}{E:aG->aO->Prop}{s:aO}{K:aD}{x f C:aL}{g:o8->o9 aG}{name:o8}{v:aG}(X:K.In s.heap)(I:Ats s.heap x f C g)(q:cN K .ref[C] "__setattr__"=sr sr[.builtin["object.__setattr__"]])(hp:qM K C=t8)(o:sW K C name=sr sy)(t:lG K C=t8)(n:vX g ns)(p:ns.length<=sizeLine)(h:∀e,Ats e x f C (λy=>if y=name then sr v else g y)->gD f s.heap e->Q u9 { s with heap:=e,toks:=s.toks+2 }):
  wpAny (model prog w) A (setAttr .ref[x] name v) Q E s:=by
 let(D,J,G):=I.look;refine PySem.W.set_plain X J q (PySem.W.osa_open (r:=sy) X J hp o λb=>?_);let(H,u,k):=PySem.W.any_some t;refine aA aJ[aA[aA[yV I.obj aA[aCk[PySem.W.looks_clsIn X u][?_]]]]];rw[k];refine aJ (a:=sr f) aA[aJ[aA[?_]]];refine wpAny_nsSet1 I.ns λe d c=>?_;let(F,z,B,i,j,l):=d.count[aCv name v n];refine aA[wpAny_lookBehind i (by rw[j];exact pastItsLine_dict[aH l (by rw[bL];omega)]) ?_]
 exact aJ[h _ ((c.2 _ eO[I.ne]).trans I.obj,d,I.ne) c]
def Awc{prog:cF}{w:dG}{A:fJ}{s:aO}{K:aD}{C f:aL}(X:K.In s.heap)(c:jC K C=t8)(hi:cN K .ref[C] "__init__"=sr sr[.ref[f]])(hf:yW K .ref[f]=sr .type["function"])(h:codeAny (model prog w) A.under[.builtin "type.__call__" (.ref C::a,b)] (.call .ref[f] (.ref[s.heap.objs.size+1]::a,b)) PySem.W.InitBack[s.heap.objs.size+1][R]
   { s with heap:=(s.heap.push lH).push (lD C s.heap.objs.size) }):
  codeAny (model prog w) A (.call .ref[C] (a,b)) R s:=(PySem.W.make_core[PySem.W.makes_of X c][PySem.W.looks_findIn X hi][λself=>PySem.W.bind_fn X self hf][.inl rfl][h])
end
def Xm(f:o8)(v:V):lg[o8×V]->lg (o8×V)
 |[]=>[(f,v)]
 |(g,x)::r=>if g=f then (u6 g v)::r else (u6 g x)::Xm f v r
theorem Ad5(f g:o8)(v:V):∀fs:lg[o8×V],(Xm f v fs).lookup g=if g=f then sr v else fs.lookup g
 |[]=>by
  show jG g [(f,v)]=_;by_cases h:g=f
  .let a:(g==f)=t8:=beq_iff_eq.mpr h;simp only[jG,a,di h]
  .let a:(g==f)=tu:=beq_eq_false_iff_ne.mpr h;simp only[jG,a,dq h]
 |(k,x)::r=>by
  rw[show Xm f v ((u6 k x)::r)=(if k=f then (u6 k v)::r else _) from rfl]
  by_cases hk:k=f
  .rw[di hk];by_cases h:g=k
   .let a:(g==k)=t8:=beq_iff_eq.mpr h;simp only[jG,a,di h.trans[hk]]
   .let a:(g==k)=tu:=beq_eq_false_iff_ne.mpr h;simp only[jG,a,dq (λe:g=f=>h e.trans[hk.symm])]
  .rw[dq hk];by_cases h:g=k
   .let a:(g==k)=t8:=beq_iff_eq.mpr h;simp only[jG,a,dq (λe:g=f=>hk h.symm.trans[e])]
   .let a:(g==k)=tu:=beq_eq_false_iff_ne.mpr h;simp only[jG,a];exact Ad5 f g v r
theorem Acz(f:o8)(v:V):∀fs:lg[o8×V],f∈(Xm f v fs).map (·.1)/\∀g,g∈fs.map (·.1)->g∈(Xm f v fs).map (·.1)
 |[]=>(by simp[Xm],λg h=>by simp_all)
 |(k,x)::r=>by
  let(d,c):=Acz f v r;rw[show Xm f v _=(if k=f then _ else _) from rfl]
  grind
theorem Ad6(f:o8)(v:V):∀fs:lg[o8×V],(Xm f v fs).length<=fs.length+1
 |[]=>by simp[Xm]
 |(k,x)::r=>by
  let c:=Ad6 f v r;rw[show Xm f v _=(if k=f then _ else _) from rfl]
  grind
def Xl.some_of(r:Xl sr[v] o):∃u,o=sr u/\RelV v u:=by
 cases o with
 |none=>trivial
 |some u=>exact(u,rfl,r)
def Xl.none_of(r:Xl sy o):o=sy:=by
 cases o with
 |none=>rfl
 |some u=>trivial
def Ais(r:RelV v u):PySem.W.handedIn u=t8:=by
 cases v with
 |non=>cases (r);rfl
 |bl b=>cases (r);rfl
 |int i=>let(t,e):=(r);cases e;rfl
 |str x=>let(t,e):=(r);cases e;rfl
 |byt b=>let(t,e):=(r);cases e;rfl
 |flt b=>let(t,e):=(r);cases e;rfl
 |ref a=>cases (r);rfl
 |ty n=>cases (r);rfl
section
def Afd(hok:HOk P w H h)(e:H a=sr[.ins C c fs]):∃b,Ats h a c C b/\(∀f,Xl fs.lookup[f] b[f])/\vX b (fs.map (·.1))/\fs.length<=1000/\H c=sr .own[a]:=by
 let(d,z,ne,ob,b,n,r,q):=(hok a _ e);exact(b,(ob,n,ne),r,q,z,d)
end
structure Cls(K:aD)(C:aL):Prop where
 pg:nZ K C aDd=t8
 hd:lG K C=t8
 po:qM K C=t8
 sa:cN K (.ref C) "__setattr__"=sr (sr (.builtin "object.__setattr__"))
def Cls.get{K:aD}{C:aL}(c:Cls K C)(f:o8):nZ K C f=t8:=c.pg
def Rg(K:aD)(C:aL)(f:o8):Prop:=cN K .ref[C] f=sr sy
def Rg.taker{K:aD}{C:aL}{f:o8}(n:Rg K C f):sW K C f=sr sy:=by
 unfold sW;rw[n];rfl
structure Meth(K:aD)(C:aL)(m:o8)(f:aL):Prop where
 at_:cN K (.ref C) m=sr (sr (.ref f))
 fn:rY K (.ref f)=t8
 kp:eG K (.ref f)=t8
section
def Apf(I:Inv X m i H s)(e:H a=sr[.ins C q fs])(c:Cls X.K C)(n:Rg X.K C f)(l:fs.lookup f=sr v)(h:∀u d,Inv X m i H d->RelV v u->Q u d):wpAny (model X.prog X.w) A (getAttr .ref[a] f b) Q E s:=by
 let(j,O,r,_,_,_):=Afd I.hok e;let(u,hu,g):=Xl.some_of (v:=v) (o:=j f) (by rw[<-l];exact r f)
 let(p,J,k):=O.look;exact PySem.W.get_value I.kIn J (oW c.get[f]).1 (uO c.hd n rfl (by rw[k,hu])) Ais[g] (h u _ I.tok[_] g)
def Af0(I:Inv X i b H s)(e:H a=sr[.ins C f fs])(c:Cls X.K C)(k:Meth X.K C m g)(l:fs.lookup m=sy)(h:Q (u6 .ref[g] [.ref a]) s):wpAny (model X.prog X.w) A (getMethod .ref[a] m pl) Q E s:=by
 let(d,O,r,_,_,_):=Afd I.hok e;exact Awb I.kIn O c.get[m] k.at_ k.fn (Xl.none_of (by rw[<-l];simp_all)) h
def Apg(I:Inv X J m H s)(e:H a=sr[.ins C d fs])(c:Cls X.K C)(n:Rg X.K C f)(N:fs.length < 1000)(t:RelV y u)(h:∀k,Inv X J m (upd H a .ins[C][d][Xm f y fs]) k->Q u9 k):wpAny (model X.prog X.w) A (setAttr .ref[a] f u) Q E s:=by
 let(L,O,r,j,_,l):=Afd I.hok e;let v:(fs.map (·.1)).length<=sizeLine:=by rw[aB,tX];omega
 refine Bbd I.kIn O c.sa c.po n.taker c.hd j v λF i p=>h _ ?_;let hd:∃o,F.get? d=sr o:=let ⟨o,_,_,G,_⟩:=i.ns;(o,G);refine I.write (x:=a) (e:=d) (by rw[e];exact iU) .inr[l] (λb q D z=>(p.2 b D).trans z) hd ?_
 refine(by rw[Ao O.ne];exact l,?_,O.ne,i.obj,_,i.ns,λg=>?_,λg B=>?_)
 .have:=Ad6 f y fs;omega
 .rw[Ad5];by_cases q:g=f
  .rw[di q,di q];exact t
  simp_all
 .by_cases q:g=f
  .rw[q];exact(Acz f y fs).1
  .refine(Acz f y fs).2 g (j g λz=>B ?_);simp_all
def Inv.made(I:Inv X j f H s):Inv X j f upd[upd H s.heap.objs.size .own[s.heap.objs.size+1]][s.heap.objs.size+1][.ins C s.heap.objs.size []]
  { s with heap:=(s.heap.push lH).push (lD C s.heap.objs.size) }:=by
 let d:_=sr lH:=aR s.heap rfl;let i:=by
  have:=aR s.heap.push[lH] (o:=lD C s.heap.objs.size) rfl
  rwa [fO] at this
 let k:=I.laid (a:=s.heap.objs.size) (o:=.own[s.heap.objs.size+1]) (t':=s.toks) (λb u q=>aF _ q) aN[_] (_,d);refine k.laid (λb u q=>aF _ q) lR[fO _ _] ?_;let ne:s.heap.objs.size≠s.heap.objs.size+1:=bZ gY[_];refine(by rw[Ao ne,Am],bI _,ne,i,λc=>sy,(Heap.Ns1.of_empty (lH,#[],_,d,rfl,(λe h=>absurd h (by simp)),λc=>rfl)).at λo q=>aF _ q,λc=>iU,λy g=>absurd rfl g)
end
def Bnu(K:aD)(ta tv:TE)(f:o8):TS:=λD σ H=>tv σ H λy H1=>ta σ H1 λx H2=>∃a C dx fs,x=.ref a/\H2 a=sr[.ins C dx fs]/\Cls K C/\Rg K C f/\fs.length < 1000/\
 D.nx σ (upd H2 a .ins[C][dx][Xm f y fs])
section
def Bg8(v:PE X o j)(hv:PE X value i)(t:swapsWith value sr[.Attribute o f b] e.line X.env=pure tu):PS[X][.Assign [.Attribute o f b] value e][Bnu X.K j i f]:=by
 intro g s d H D I h;refine plainObj_wpAny_Assign_Attribute (thn[hv g s d H _ I h] λu k ⟨y,H1,I1,ry,q⟩=>thn[v g k d H1 _ I1 q] λJ G ⟨x,H2,I2,rx,a,C,dx,fs,ex,ea,c,n,l,q2⟩=>?_) t;subst ex;obtain rfl:_:=rx;exact Apg I2 ea c n l ry λF z=>(d,_,z,q2)
def Bk6:V->V->Hp->VK->Prop:=λx y H Q=>∃i j,x=.int i/\y=.int j/\Q .int[i+j] H
def Bk7:V->V->Hp->VK->Prop:=λx y H Q=>∃i j,x=.int i/\y=.int j/\Q .int[i - j] H
end
section
inductive Ac0(K:aD)(H:Hp):V->aG->Prop where
 |non:Ac0 K H .non (.type "NoneType")
 |bl (x:Bool):Ac0 K H (.bl x) (.type "bool")
 |int (i:Int):Ac0 K H (.int i) (.type "int")
 |str (x:o8):Ac0 K H (.str x) (.type "str")
 |flt (x:UInt64):Ac0 K H (.flt x) (.type "float")
 |lst {a:aL} {xs:List V} (e:H a=sr (.lst xs)):Ac0 K H (.ref a) (.type "list")
 |frz {a:aL} {o:o7} {xs:List V} (e:H a=sr (.frz o (.lst xs))):Ac0 K H (.ref a) (.type "list")
 |tup {a:aL} {xs:List V} (e:H a=sr (.tup xs)):Ac0 K H (.ref a) (.type "tuple")
 |dK {a:aL} {kvs:List (Key×V)} (e:H a=sr (.dK kvs)):Ac0 K H (.ref a) (.type "dict")
 |dT {a:aL} {kvs:List (List Key×V)} (e:H a=sr (.dT kvs)):Ac0 K H (.ref a) (.type "dict")
 |ins {a C dx:aL} {fs:List (o8×V)} (e:H a=sr (.ins C dx fs)) (cl:Cls K C) (ha:cN K (.ref C) "__class__"=sr (sr (.builtin "object.__class__")))
   (hn:vY K (.builtin "object.__class__") "__get__"=sr (sr (.builtin "getset_descriptor.__get__"))) (htk:PySem.W.takesIn K (.builtin "object.__class__")=sr t8)
   (hm:mJ K C (.type "object")=sr t8):Ac0 K H (.ref a) (.ref C)
def Atu(I:Inv X U L H s)(d:RelV x u)(ty:Ac0 X.K H x t)(e:jV X.K t c=sr b)(h:∀r,Q .bool[b] { s with toks:=r }):
  wpAny (model X.prog X.w) A (call .builtin["isinstance"] [u,c]) Q E s:=by
 cases ty with
 |non=>cases (show u=gJ from d);exact fB PySem.W.kitx_none I.kIn iU e (λz=>nomatch z) h
 |bl y=>cases (show u=yQ y from d);exact fB PySem.W.kitx_bool I.kIn iU e (λz=>nomatch z) h
 |int i=>let(t,q):=(show ∃t,u=uK i t from d);cases q;exact fB PySem.W.kitx_int I.kIn iU e (λz=>nomatch z) h
 |str y=>let(t,q):=(show ∃t,u=uL y t from d);cases q;exact fB PySem.W.kitx_str I.kIn iU e (λz=>nomatch z) h
 |flt y=>let(t,q):=(show ∃t,u=aBp y t from d);cases q;exact fB PySem.W.kitx_float I.kIn iU e (λz=>nomatch z) h
 |@lst a l f=>
  cases (show u=cV a from d);let(_,_,n,_,g):=(I.hok a _ f);exact fB vZ I.kIn (_,g,rfl) e (λz=>nomatch z) h
 |@frz a ob l f=>
  cases (show u=cV a from d);let(_,_,_,n,_,g):=(I.hok a _ f);exact fB vZ I.kIn (_,g,rfl) e (λz=>nomatch z) h
 |@tup a l f=>
  cases (show u=cV a from d);let(_,_,_,p):=(show Eo X.prog X.w H s.heap a .tup[l] from I.hok a _ f);let(o,g,k,_):=p;exact fB PySem.W.kitx_tuple I.kIn (o,g,k) e (λz=>nomatch z) h
 |@dK a j f=>
  cases (show u=cV a from d);let(_,_,N,_,p):=(show Eo X.prog X.w H s.heap a .dK[j] from I.hok a _ f);let(o,F,G,g,k,_):=p;exact fB wA I.kIn (o,g,k.1) e (λz=>nomatch z) h
 |@dT a j f=>
  cases (show u=cV a from d);let(_,_,l,_,o,F,G,g,k,_):=(show Eo X.prog X.w H s.heap a .dT[j] from I.hok a _ f);exact fB wA I.kIn (o,g,k.1) e (λz=>nomatch z) h
 |@ins a C T fs f cl D v m B=>
  cases (show u=cV a from d);let(S,O,_):=Afd I.hok f;let(P,J,_):=O.look;exact fB (PySem.W.kitx_own cl.get[_] cl.hd D v m B) I.kIn J e (λz=>nomatch z) h
end
structure Ia(k:Nat)(A:fJ)(cm:Bool:=true):Prop where
 hd:cm=t8->A.handled=sy
 dp:A.depth+3 * k+5 < recursionLimit
 un:A.units+16 * k+200 < cLine
theorem Ia.mono{j k:Nat}(r:Ia k A a)(h:j<=k):Ia j A a:=(r.hd,by have:=r.dp;omega,by have:=r.un;omega)
def Ia.deeper{k:Nat}(r:Ia (k+1) A a)(env:Env):Ia k A.deeper[env] a:=(
 (r.hd,by have:=r.dp;show A.depth+1+3 * k+5 < _;omega,by have:=r.un;show A.units+3+_+200 < _;omega))
def Aph{A:fJ}{C:aL}{b:lg aG}{c:lg[o8×aG]}:(A.under[.builtin "type.__call__" (.ref C::b,c)]).depth=A.depth+1:=by rfl
def Api{A:fJ}{C:aL}{us:lg aG}{kw:lg[o8×aG]}:(A.under[.builtin "type.__call__" (.ref C::us,kw)]).units=A.units+1:=rfl
def Ia.make{k:Nat}(r:Ia (k+1) A d)(C:aL)(b:lg aG)(c:lg[o8×aG]):Ia k A.under[.builtin "type.__call__" (.ref C::b,c)] d:=(
 (r.hd,by have:=r.dp;rw[Aph];omega,by have:=r.un;rw[Api];omega))
def Ia.depth{k:Nat}(r:Ia k A b):A.depth < recursionLimit:=by have:=r.dp;omega
def Bbe:TA:=λuu H Q=>Q [] H
def Amm(ta:TE)(tr:TA):TA:=λσ H Q=>ta σ H λx H1=>tr σ H1 λxs H2=>Q (x::xs) H2
section
def Af1:PA X [] Bbe:=λuu uu uu uu H Q I h=>Calls.spliced_nil ([],H,I,.nil,h)
def Aa9(p:PE X e g)(o:PA X c t)(n:starEach (e::c) X.env=(u6 tu (eval e X.env))::starEach c X.env:=by rfl):PA X (e::c) (Amm g t):=by
 intro a f s d H Q I h;rw[n];show wpAny _ _ (spliced ((u6 tu (eval e X.env))::backTo a _)) _ _ s;exact Calls.spliced_cons[thn[p f s d H _ I h] λu i ⟨x,H1,I1,r1,q1⟩=>thn[o a f i d H1 _ I1 q1] λz A ⟨xs,H2,I2,r2,q2⟩=>(_,H2,I2,.cons r1 r2,q2)]
def Bnv(t:TA):TE:=λσ H Q=>t σ H λxs H1=>xs.length<=sizeLine/\∀p,H1 p=sy->Q[.ref p][upd H1 p .tup[xs]]
def Bnw(t:TA):TE:=λσ H Q=>t σ H λxs H1=>xs.length<=sizeLine/\∀p,H1 p=sy->Q[.ref p][upd H1 p .lst[xs]]
end
abbrev Sp:=lg V->Hp->VK->XK->Prop
abbrev CXT:=lg Env->Hp->aO->XK->aG->aO->Prop
structure Apj(P:cF)(w:dG)(K:aD)(mg:o8->Option aG)(base:dY)(A:fJ)(outer:List Env)(s:aO)(H:Hp):Prop where
 frames:A.frames=sr outer
 mod:Mod K mg base
 bs:∀b o,base.get? b=sr o->s.heap.get? b=sr o/\H b=sy
 bsz:base.objs.size<=s.heap.objs.size
 funs:s.heap.FunFrames base outer
 frf:∀b∈frs outer,H b=sy
 hok:HOk P w H s.heap
 bare:pA s.gens
def CE(outer:lg Env)(P:cF)(w:dG)(H:Hp)(s:aO)(Q:VK)(u:aG)(s':aO):Prop:=
 ∃v H',s'.os=s.os/\pA s'.gens/\Un frs[outer] [] H H' s.heap s'.heap/\HOk P w H' s'.heap/\RelV v u/\Q v H'
def CR(CX:CXT)(outer:lg Env)(P:cF)(w:dG)(H:Hp)(s:aO)(Q:VK)(E:XK)(r:Result)(s':aO):Prop:=
 match r with
 |.ok (.ret u)=>CE outer P w H s Q u s'
 |.ok _=>False
 |.error e=>CX outer H s E e s'
structure Ke(P:cF)(w:dG)(K:aD)(mg:o8->Option aG)(base:dY)(CX:CXT)(k:Nat)(f:aL)(fd:eU)(ps:List o8)(sp:Sp)(cm:Bool:=true):Prop where
 len:∀vs H Q E,sp vs H Q E->vs.length=ps.length
 run:∀(A:fJ)(outer:List Env)(s:aO)(H:Hp)(args:Args)(us:List aG)(vs:List V)(Q:VK)(E:XK),Ia k A cm->Apj P w K mg base A outer s H->wB s fd args (ps.zip us)->Vals vs us->sp vs H Q E->
  codeAny (model P w) A (.call (.ref f) args) (CR CX outer P w H s Q E) s
theorem Ke.mono{P:cF}{w:dG}{K:aD}{mg:o8->o9 aG}{base:dY}{g:CXT}{j k:Nat}{f:aL}{fd:eU}{ps:lg o8}{c:Sp}{d:Bool}(F:Ke P w K mg base g j f fd ps c d)(h:j<=k):
  Ke P w K mg base g k f fd ps c d:=(F.len,λA outer s H a m l Q E n=>F.run A outer s H a m l Q E n.mono[h])
theorem Apj.make{P:cF}{w:dG}{K:aD}{mg:o8->o9 aG}{base:dY}{A:fJ}{outer:lg Env}{s:aO}{H:Hp}(e:Apj P w K mg base A outer s H)(C:aL)(c:lg aG)(d:lg[o8×aG]):
  Apj P w K mg base A.under[.builtin "type.__call__" (.ref C::c,d)] outer s H:=(by first|exact e.frames|rfl,e.mod,e.bs,e.bsz,e.funs,e.frf,e.hok,e.bare)
section
def Inv.env0(I:Inv X b a H s):Apj X.prog X.w X.K X.mg X.base X.A X.stack s H:=(
 (I.ok.frames,I.ok.mod,I.bs,aH I.ok.bsz I.sz,I.stack,I.stkFree,I.hok,I.bare))
def Inv.after(I:Inv X f c H s)(h:CE X.stack X.prog X.w H s Q u a):EP X f c Q u a:=by
 let(v,i,os,bare,un,hok,r,q):=h;let(j,g,d,t,e):=a;obtain rfl:_:=os;exact(v,i,I.call un hok bare (λb z=>absurd z (by simp)),r,q)
end
def Binds(K:aD)(fd:eU)(ps:lg o8)(ds:lg aG):Prop:=
 ∀(s:aO)(us:lg aG),K.In s.heap->(us ++ ds).length=ps.length->wB s fd (us,[]) ps.zip[us ++ ds]
def Binds.all{K:aD}{fd:eU}{ps:lg o8}(h:∀a:lg aG,a.length=ps.length->bindArgs fd (a,[])=pure ps.zip[a]):Binds K fd ps []:=(λs a e c=>by
 rw[cH] at c ⊢
 exact .of_eq[h a c])
section
variable{k:Nat}
structure Mk(K:aD)(C f:aL):Prop where
 makes:jC K C=t8
 init:cN K (.ref C) "__init__"=sr (sr (.ref f))
 fn:rY K (.ref f)=t8
 kp:eG K (.ref C)=t8
end
def PK(X:Cx)(kws:lg iQ)(t:TA):Prop:=
 ∀(pos:Pos)(aa:lg[aL×o7])(s:aO)(σ:St)(H:Hp)(Q:lg V->Hp->Prop),Inv X aa σ H s->t σ H Q->wpAny (model X.prog X.w) X.A (evalAll ((backToKw pos (keywordEach kws X.env)).map (·.2))) (AP X aa σ Q) X.xe s
section
variable{k:Nat}
def Bbf(ha:PE X e te)(hr:PK X kws t):PK X ((nm,e,kpos)::kws) (Amm te t):=λpos aa s σ H Q I h=>wpAny_evalAll_cons aA[thn[ha aa s σ H _ I h] λu s1 ⟨x,H1,I1,r1,q1⟩=>aA oH[aJ[thn[hr pos aa s1 σ H1 _ I1 q1] λus s2 ⟨xs,H2,I2,r2,q2⟩=>(_,H2,I2,.cons r1 r2,q2)]]]
end
structure Hn(N P:List o8)(sc:jR):Prop where
 kind:sc.kind=.function
 co:sc.isCoroutine=tu
 gen:sc.isGenerator=tu
 nd:N.Nodup
 pre:N.take P.length=P
 par:∀x∈P,sc.names.lookup x=sr .local\/sc.names.lookup x=sr .cell
 nofree:∀y∈sc.names,y.2≠.free
theorem Ait{kindOf:o8->o9 lK}{x:o8}:∀{binds:lg[o8×aG]} {m:o8->o9 aG},(∀v,(u6 x v)∉binds)->bindL kindOf binds m x=m x
 |[],_,_=>rfl
 |(n,v)::r,m,h=>by
  unfold bindL;rw[Ait λw c=>h w (bD _ c)];split
  .have:x≠n:=by rintro rfl;exact h v bG
   simp_all
  rfl
theorem Aiu{kindOf:o8->o9 lK}{x:o8}:∀{binds:lg[o8×aG]} {m:o8->o9 aG},(∀v,(u6 x v)∉binds)->bindC kindOf binds m x=m x
 |[],_,_=>rfl
 |(n,v)::r,m,h=>by
  unfold bindC;rw[Aiu λw c=>h w (bD _ c)];split
  .rfl
  .have:x≠n:=by rintro rfl;exact h v bG
   simp_all
theorem Aiv{kindOf:o8->o9 lK}{x:o8}{v:aG}:∀{P:lg o8} {b:lg aG} {i:Nat} {m:o8->o9 aG},P.Nodup->P[i]?=sr x->b[i]?=sr v->kindOf x=sr .local->
  bindL kindOf P.zip[b] m x=sr v
 |[],_,_,_,_,h,_,_=>by trivial
 |_,[],_,_,_,_,h,_=>by trivial
 |p::P,w::b,0,m,nd,e,d,hk=>by
  simp at e d;subst e;subst d;show bindL kindOf ((u6 p w)::P.zip b) m p=_;unfold bindL;rw[Ait λv hv=>(fV.mp nd).1 (sX hv).1,di hk];simp
 |p::P,w::b,i+1,m,nd,e,d,hk=>by
  unfold bindL;exact Aiv (fV.mp nd).2 (by trivial) (by trivial) hk
theorem Aiw{kindOf:o8->o9 lK}{x:o8}{v:aG}:∀{P:lg o8} {b:lg aG} {i:Nat} {m:o8->o9 aG},P.Nodup->P[i]?=sr x->b[i]?=sr v->kindOf x≠sr .local->
  bindC kindOf P.zip[b] m x=sr v
 |[],_,_,_,_,h,_,_=>by trivial
 |_,[],_,_,_,_,h,_=>by trivial
 |p::P,w::b,0,m,nd,e,d,hk=>by
  simp at e d;subst e;subst d;show bindC kindOf ((u6 p w)::P.zip b) m p=_;unfold bindC;rw[Aiu λv hv=>(fV.mp nd).1 (sX hv).1,dq hk];simp
 |p::P,w::b,i+1,m,nd,e,d,hk=>by
  unfold bindC;exact Aiw (fV.mp nd).2 (by trivial) (by trivial) hk
def start(N:lg o8)(vs:lg V):St:=vs.map sr ++ bO (N.length - vs.length) sy
def Ac1(CX:CXT)(P:cF)(w:dG)(K:aD)(mg:o8->o9 aG)(base:dY)(N:lg o8)(aj:o8)(scope:jR)(f:aL)(cd:aG)(A:fJ)(outer:lg Env)(s:aO)(H:Hp)(E:XK)(cm:Bool:=true):Cx where
 prog:=P
 w:=w
 K:=K
 mg:=mg
 base:=base
 A:=A.deeper (envOfC aj scope s.heap.objs.size f cd)
 N:=N
 s₀:=s
 H₀:=H
 env:=envOfC aj scope s.heap.objs.size f cd
 outer:=outer
 stack:=envOfC aj scope s.heap.objs.size f cd::outer
 ex:=[]
 calm:=cm
 fn:=λuu=>t8
 pn:=[]
 xe:=λe s'=>wpAny (model P w) A.deeper[envOfC aj scope s.heap.objs.size f cd] leaving[envOfC aj scope s.heap.objs.size f cd][e] (λuu s''=>CX outer H s E e s'') (λe' s''=>CX outer H s E e' s'') s'
def Amn{sc:jR}{n:Nat}{x:o8}(h:sc.names.lookup x=sr .cell):∃c,(cellsFrom n sc.names []).lookup x=sr c:=mK.mp[rZ sc.names n [] .inl[h]]
def Atv{I:Bool}{L:CXT}{P:cF}{w:dG}{K:aD}{mg:o8->o9 aG}{base:dY}{N ps:lg o8}{F:o8}{scope:jR}{f:aL}{D:aG}{A:fJ}{outer:lg Env}{s J:aO}{H:Hp}{E:XK}{G:lg aG}{l:lg V}(S:Hn N ps scope)(hd:I=t8->A.handled=sy)(j:Apj P w K mg base A outer s H)(hl:l.length=ps.length)(r:Vals l G)(x:InCallC s s.heap.objs.size (bindL (envOfC F scope s.heap.objs.size f D).kindOf ps.zip[G] λB=>sy) cellsFrom[s.heap.objs.size+1][scope.names][[]] (bindC (envOfC F scope s.heap.objs.size f D).kindOf ps.zip[G] λB=>sy) J):
  Inv (Ac1 L P w K mg base N F scope f D A outer s H E I) [] (start N l) H J:=by
 let T:ps.length<=N.length:=by have:=congrArg tY S.pre;rw[bQ] at this;omega
 let(C,Z,rfl,hk):=x.done;let m:∀b:aL,b∉(Ac1 L P w K mg base N F scope f D A outer s H E I).ex:=λb z=>absurd (show b∈([]:lg aL) from z) (by simp)
 refine((j.mod,S.kind,rfl,rfl,aN _,λy z c C g=>?_,λy hy=>?_,λy c B h=>?_,hd,Around.frames_deeper j.frames,.inr (rfl,rfl),λb z=>absurd z m[b],j.bs,j.bsz,λb B B=>m b,λb z=>absurd z m[b],j.funs,j.frf),
  rfl,j.bare,Un.kept hk,(_,x.toInCall.ns,λi y v C g h3=>?_),λy c h=>(_,x.cell y c h),j.hok.fresh aN[_],λy c h=>?_,λp hp=>absurd (show p∈([]:lg[aL×o7]) from hp) (by simp),j.hok.kept hk,?_)
 .exact name_of_addr x.apart iH[C] iH[g]
 .let hy:scope.names.lookup y=sr .cell\/scope.names.lookup y=sr .free:=hy;rcases hy with hy|hy
  .exact Amn hy
  .exact absurd rfl (S.nofree _ iH[hy])
 .exact gK[x.above y c iH[h]]
 .let hi:i < l.length:=by
   unfold start at g;by_cases hi:i < l.length
   .exact hi
   .rw[aZ[by simpa using hi]] at g
    rw[jW] at g;split at g <;> cases g
  let U:l[i]?=sr v:=by
   unfold start at g;rw[aY[by simpa using hi],aX] at g
   cases e:l[i]? with
   |none=>rw[e] at g;cases g
   |some a=>rw[e] at g;cases g;rfl
  let(u,hu,Q):=r.get U;let hp:ps[i]?=sr y:=by
   rw[<-S.pre,qX ()];exact C
  let o:ps.Nodup:=by rw[<-S.pre];exact S.nd.sublist[nF _ _]
  refine(u,Q,?_);rcases S.par y dO[hp] with k|k
  .exact .inl (k,Aiv o hp hu k)
  .let(c,e):=Amn (n:=s.heap.objs.size+1) k;refine .inr (.inl k,c,e,?_);let q:=x.cell y c e;rw[Aiw o hp hu (by show scope.names.lookup y≠_;rw[k];decide)] at q
   exact q
 .exact j.hok.fresh gK[x.above y c iH[h]]
 .unfold start;show _=N.length;rw[bH,aB,dC];omega
def Bk8{C:Bool}{U:CXT}{P:cF}{w:dG}{K:aD}{mg:o8->o9 aG}{base:dY}{k:Nat}{f:aL}{name j:o8}{params:Arguments}{body:lg cQ}{scope:jR}{Y kV z X a ct oc:aG}{an od:o9 aL}{I:Array o9[aG]}{N ps:lg o8}{D:Sp}(lk:K.lookup f=sr (oc,od,.func[dR name j params body scope Y kV z X an a ct],I))(T:lL K a j=t8)(S:Hn N ps scope)(len:∀g H Q E,D g H Q E->g.length=ps.length)(hbody:∀(A:fJ)(outer:lg Env)(s:aO)(H:Hp)(g:lg V)(Q:VK)(E:XK),Ia k A.deeper[envOfC j scope s.heap.objs.size f a] C->D g H Q E->
   ∃t,PSs (Ac1 U P w K mg base N j scope f a A outer s H E C) body t/\t { nx:=λuu h=>Q .non h,rt:=Q } (start N g) H):
  Ke P w K mg base U (k+1) f (dR name j params body scope Y kV z X an a ct) ps D C:=by
 refine(len,λA outer s H Z us g Q E O p hb r l=>?_);let hl:=len _ _ _ _ l;let KX:K.In s.heap:=p.mod.kin.keeps λb o e=>(p.bs b o e).1;let L:s.heap.NoLimit:=p.mod.nolimit.keeps λb o e=>(p.bs b o e).1;let bc:∀y∈ps.zip us,scope.names.lookup y.1=sr .local\/(scope.names.lookup y.1=sr .cell/\((cellsFrom (s.heap.objs.size+1) scope.names []).lookup y.1).isSome=t8):=λ⟨n,v⟩ hy=>by
  rcases S.par n (sX hy).1 with q|q
  .exact .inl q
  .exact .inr (q,rZ _ _ _ .inl[q])
 refine codeAny_call_function O.depth (KX _ _ lk) rfl S.co S.gen rfl (PySem.W.codeRec_of KX T) (hb _ _ _ _ ?_);refine wpAny_newFunctionEnv_cells S.kind bc λenv he s1 x=>?_;subst he;refine(L.keeps x.toInCall.keep,codeAny_func ?_);let(t,ht,hq):=hbody A outer s H g Q E O.deeper[_] l;refine eF[ht [] s1 (start N g) H _ (Atv S O.hd p hl r x) hq][λfl F i=>?_] λe F i=>i;let m:∀{d:St} {h:Hp} {v:V} {u:aG},Inv (Ac1 U P w K mg base N j scope f a A outer s H E C) [] d h F->RelV v u->Q v h->CE outer P w H s Q u F:=
  λ{d h v u} J G q=>(v,h,J.os,J.bare,J.base,J.hok,G,q)
 cases fl with
 |ret u=>
  let(v,d,h,J,G,q):=i;exact m J G q
 |next=>
  let(d,h,J,q):=i;exact m (v:=V.non) (u:=gJ) J rfl q
 |brk=>
  let(_,_,_,q):=i;exact gF q
 |cont=>
  let(_,_,_,q):=i;exact gF q
section
def tCB(r:lg V->Hp->VK->Prop)(t:TA):TE:=λσ H Q=>t σ H λvs H1=>r vs H1 Q
def Ac2(w:Jk X .type[T] r)(u:Gl X x)(q:X.mg x=sy)(hv:bootBuiltins x=sr .type[T])(y:PA X (e::b) t)(o:x≠"__name__":=by decide)(d:(x==("__debug__":o8))=tu:=by decide)(v:starEach (e::b) X.env=(u6 tu (eval e X.env))::starEach b X.env:=by rfl)(c:(backTo pos (starEach b X.env)).any (·.1)=tu:=by rfl):PE[X][.Call (.Name x p) (e::b) [] pos][tCB r t]:=by
 intro i s f H Q I h;exact gZ[Aac I u q hv iR[thn[y pos i s f H _ I h] λk l ⟨vs,H1,I1,r1,q1⟩=>w i l f H1 vs k Q I1 r1 q1][v][c] o d]
end
end L2
namespace HT
open PySem PyProof.Rows
section
open PySem.SeqAt
open PySem.AutoSeq1 (wpAny_loadPart')
open PySem.MeetsSeq PySem.MeetsSeq2 PySem.MeetsSeq3
end
section
def cat_tup(r:vW s.heap t d.toArray)(v:vW s.heap b a.toArray)(hv:d≠[])(y:a=[]->Q .ref[t] s)(x:a≠[]->Q .ref[s.heap.objs.size] { s with heap:=s.heap.push { cls:=.type "tuple",data:=.seq (d ++ a).toArray } })(u:d.length+a.length<=sizeLine):wpAny (model prog w) A (binaryOp .Add .ref[t] .ref[b]) Q E s:=by
 let((cls,p,data,k),j,o,n,hd):=id r;let((q,i,data2,f),c,h,l,g):=id v;simp at o hd h g;subst o hd h g;let e:d.toArray ++ a.toArray=(d ++ a).toArray:=by simp
 by_cases m:a=[]
 .exact wC (_,j,rfl) (_,c,rfl) rJ uX nG mY (mL _ _)
   (tuple_addW1 t b d.toArray a.toArray n l p i k f (by simpa using hv) (by simp_all)) (j,c,y m)
 .refine wC (_,j,rfl) (_,c,rfl) rJ uX nG mY (mL _ _)
   (tuple_addW2 t b d.toArray a.toArray n l p i k f (by simpa using hv) (by simp_all) ()) (j,c,?_)
  rw[e];exact x m
def sIx(n d:Nat):o9 Int->Nat
 |none=>d
 |some v=>if v < 0 then (v+(n:Int)).toNat else min v.toNat n
def Arj(v:Int)(n d:Nat):(if v < 0 then max (v+(n:Int)) 0 else min v (n:Int))=((sIx n d sr[v]:Nat):Int):=by
 show _=(((if v < 0 then _ else _):Nat):Int)
 grind
def Apk(lo hi:o9 Int)(n:Nat):qF lo hi 1 (n:Int)=(u6 ((sIx n 0 lo:Nat):Int) ((sIx n n hi:Nat):Int)):=by
 refine Prod.ext ?_ ?_
 .cases lo with
  |none=>rfl
  |some v=>exact Arj v n 0
 .cases hi with
  |none=>rfl
  |some v=>exact Arj v n n
def Apl(i j:Nat):lZ (i:Int) (j:Int) 1=j - i:=by
 unfold lZ
 grind
def Af2{o:o9 Int}{Q:o9 Int->aO->Prop}(p:sE v o)(h:Q o s):wpAny (model prog w) A xY[v] Q E s:=by
 cases p with
 |none=>exact yX h
 |int i t=>exact slicePart_int h
def Qo{lo hi:o9 Int}{n:Nat}{Q:Int×Int×Nat->aO->Prop}(j:s.heap.IsSliceOf g f e .none)(pl:sE f lo)(i:sE e hi)(h:Q (u6 ((sIx n 0 lo:Nat):Int) u6[1][sIx n n hi - sIx n 0 lo]) s):wpAny (model prog w) A yZ[.ref g][pure (n:Int)] Q E s:=by
 let(os,b,k,c):=id j;refine aA (aA (dI b c (x:=f) rfl (aA (dI b c (x:=e) rfl (aA (dI b c (x:=.none) rfl aJ[?_]))))));refine aA yX[?_];refine aA[Af2 pl aA[Af2 i aA[aJ[?_]]]];show wpAny _ _ (match qF lo hi 1 n with|(lo,hi)=>pure[u6 lo u6[_][lZ lo hi 1]]) _ _ s
 rw[Apk lo hi n];show wpAny _ _ pure[u6[_][u6 1 _]] _ _ s;rw[Apl];exact aJ h
def Awd(b:Array aG)(i k:Nat):((cO k).filterMap λ(m:Nat)=>b[((i:Int)+(m:Int) * 1).toNat]?).toArray=((b.toList.drop i).take k).toArray:=by
 let e:(λ(m:Nat)=>b[((i:Int)+(m:Int) * 1).toNat]?)=λm=>b[i+m]?:=by
  funext m;have:((i:Int)+(m:Int) * 1).toNat=i+m:=by omega
  rw[this]
 rw[e];have:=pick_run b i k;rw[List.filterMap_map] at this;let f:((λx=>b[x]?) ∘ λx=>i+x)=λm=>b[i+m]?:=rfl;rw[f] at this;rw[this]
def getItem_tuple_cut{lo hi:o9 Int}(d:vW s.heap t items)(k:s.heap.IsSliceOf j n l .none)(pl:sE n lo)(o:sE l hi)(p:¬ (sIx items.size 0 lo=0/\sIx items.size items.size hi=items.size))(h:Q .ref[s.heap.objs.size] { s with heap:=s.heap.push { cls:=.type "tuple",data:=.seq ((items.toList.drop[sIx items.size 0 lo]).take (sIx items.size items.size hi - sIx items.size 0 lo)).toArray } })(r:items.size<=sizeLine):wpAny (model prog w) A (getItem .ref[t] .ref[j]) Q E s:=by
 let a:sizeOk .seq[((items.toList.drop[sIx items.size 0 lo]).take (sIx items.size items.size hi - sIx items.size 0 lo)).toArray]:=by
  show ((items.toList.drop[sIx items.size 0 lo]).take (sIx items.size items.size hi - sIx items.size 0 lo)).toArray.size<=sizeLine;rw[bV,bQ,dJ,aW];omega
 let z:sIx items.size items.size hi<=items.size:=by
   cases hi with
   |none=>exact(aN _)
   |some v=>
    show (if v < 0 then (v+(_:Int)).toNat else min v.toNat _)<=_
    by_cases hv:v < 0
    .rw[di hv];omega
    .rw[dq hv];exact rK _ _
 let(os,e,g,u):=id k;let i:s.TypeIs .ref[j] "slice":=(os,e,g);unfold getItem
 try with_reducible refine fW ?_
 first|refine aA aJ[?_]|skip
 refine aA[qN d.typeIs () ?_]
 refine aA (cW (name:=lU "__getitem__") d.typeIs dZ
  (cZ dZ d.typeIs uP ?_ (vJ _ _)))
 show wpAny _ _ (pQ .ref[t] >>= _) _ _ s;refine aA[tupleItemsOf_ d ?_];refine aA[pB i ?_];rw[di ()]
 refine aA[Qo k pl o ?_];let f:¬ ((((sIx items.size 0 lo:Nat):Int)==0&&(1:Int)==1&&(sIx items.size items.size hi - sIx items.size 0 lo)==items.size)=t8):=by
  intro q;rw[aQ,aQ] at q;let y:((sIx items.size 0 lo:Nat):Int)=0:=eq_of_beq q.1.1;let x:sIx items.size items.size hi - sIx items.size 0 lo=items.size:=eq_of_beq q.2;exact p ((),())
 show wpAny _ _ (if (((sIx items.size 0 lo:Nat):Int)==0&&(1:Int)==1&&(sIx items.size items.size hi - sIx items.size 0 lo)==items.size)=t8 then _ else _) _ _ s
 rw[dq f,Awd]
 first
  |exact aA (m:=jP _) dU[aJ (_,rfl,aJ h)][a]
  |exact aA (m:=jP _) (dU aA[aJ[aJ (_,rfl,aJ h)]] a)
  |exact aA (aA (m:=jP _) (dU aJ[aJ (_,rfl,aJ h)] a))
  |exact aA (aA (m:=jP _) dU[aJ (_,rfl,aJ h)][a])
end
end HT
namespace L2
open PySem PySem.Spec PyProof.Rows
abbrev TO:=St->Hp->(o9 Int->Hp->Prop)->Prop
def PO(X:Cx)(e:o9 cM)(t:TO):Prop:=
 ∀(aa:lg[aL×o7])(s:aO)(σ:St)(H:Hp)(Q:o9 Int->Hp->Prop),Inv X aa σ H s->t σ H Q->
  wpAny (model X.prog X.w) X.A (evalPart e X.env) (λu s'=>∃o H',Inv X aa σ H' s'/\sE u o/\Q o H') X.xe s
def Bk9(t:TE):TO:=λσ H Q=>t σ H λx H1=>∃i,x=.int i/\Q sr[i] H1
def intsAre_of{ns:lg Int}:∀{b:lg aG},Vals ns.map[V.int] b->pD b ns:=by
 induction ns with
 |nil=>intro b r;cases r;exact .nil
 |cons n ns f=>
  intro b r;cases r with
  |cons d c=>
   let(t,e):=d;subst e;exact .cons n t f[c]
section
def SlR(X:Cx)(r:V->o9 Int->o9 Int->Hp->VK->Prop):Prop:=
 ∀(aa:lg[aL×o7])(s:aO)(σ:St)(H:Hp)(x:V)(v vl vu:aG)(lo hi:o9 Int)(sl:aL)(Q:VK),Inv X aa σ H s->RelV x v->s.heap.IsSliceOf sl vl vu .none->sE vl lo->sE vu hi->r x lo hi H Q->
  ∃T id,typeLookup .type[T] "__getitem__"=pure sr[.builtin[id]]/\s.TypeIs v T/\wpAny (model X.prog X.w) X.A (getItem v .ref[sl]) (EP X aa σ Q) X.xe s
def SlR.or{r g:V->o9 Int->o9 Int->Hp->VK->Prop}(h:SlR X r)(l:SlR X g):SlR X (λx lo hi H Q=>r x lo hi H Q\/g x lo hi H Q):=by
 intro k s b H x v d c lo hi e Q I f j pl i q;rcases q with q|q
 .exact h k s b H x v d c lo hi e Q I f j pl i q
 .exact l k s b H x v d c lo hi e Q I f j pl i q
def tSl(r:V->o9 Int->o9 Int->Hp->VK->Prop)(te:TE)(tl th:TO):TE:=λσ H Q=>te σ H λx H1=>tl σ H1 λl H2=>th σ H2 λu H3=>r x l u H3 Q
def Apm(xs:lg V)(lo hi:o9 Int):lg V:=(xs.drop[HT.sIx xs.length 0 lo]).take (HT.sIx xs.length xs.length hi - HT.sIx xs.length 0 lo)
def Ad7(a:lg V)(lo hi:o9 Int):(Apm a lo hi).length<=a.length:=by
 unfold Apm;rw[bQ,dJ];omega
def Bla(K:aD):V->o9 Int->o9 Int->Hp->VK->Prop:=λx lo hi H Q=>∃a xs,x=.ref a/\SqT K H a xs/\
 ¬ (HT.sIx xs.length 0 lo=0/\HT.sIx xs.length xs.length hi=xs.length)/\∀p,H p=sy->Q[.ref p][upd H p .tup[Apm xs lo hi]]
def Bg9:SlR X Bla[X.K]:=by
 intro u s m H x v o n lo hi p Q I g l pl i h;let(a,e,rfl,k,t,q):=h;cases g;let(d,r,f,j):=I.tuple k;let c:d.toArray.size=e.length:=r.length.symm;refine("tuple",_,dZ.lookup,f.typeIs,?_);refine HT.getItem_tuple_cut f l pl i (by rw[c];omega) ?_ (by rw[c];omega)
 rw[c];refine(.ref s.heap.objs.size,_,I.laid (λb ob q=>aF _ q) aN[_] ?_,rfl,q _ I.hok.fresh[aN[_]]);exact(aH (Ad7 e lo hi) j,_,(r.drop _).take _,aAp _ _)
def Bfw(K:aD):R2:=λx y H Q=>∃a b xs ys,x=.ref a/\y=.ref b/\SqT K H a xs/\SqT K H b ys/\xs≠[]/\xs.length+ys.length<=sizeLine/\
 (ys=[]->Q .ref[a] H)/\(ys≠[]->∀p,H p=sy->Q[.ref p][upd H p .tup[xs ++ ys]])
def Vals.nil_iff(r:Vals a b):b=[] ↔ a=[]:=by
 cases r with
 |nil=>simp
 |cons _ _=>simp
def Bbg:OpR X binaryOp[.Add] Bfw[X.K]:=by
 intro A s o H x y v u Q I g f h;let(a,b,r,p,rfl,rfl,n,m,l,t,j,i):=h;cases g;cases f;let(k,d,p1,_):=I.tuple n;let(e,c,p2,_):=I.tuple m;refine HT.cat_tup p1 p2 (λz=>l d.nil_iff.mp[z]) (λz=>(.ref a,H,I,rfl,j c.nil_iff.mp[z])) (λz=>?_) (by rw[<-d.length,<-c.length];omega)
 refine(.ref s.heap.objs.size,_,I.laid (λb ob q=>aF _ q) aN[_] ?_,rfl,i (λw=>z c.nil_iff.mpr[w]) _ I.hok.fresh[aN[_]]);exact(by simp_all,_,d.append c,aAp _ _)
end
def ixN(n:Nat)(i:Int):o9 Nat:=if 0<=i then (if i < n then sr i.toNat else sy) else if -(n:Int)<=i then sr (i+n).toNat else sy
def atI{α:Type}(xs:lg α)(i:Int):o9 α:=(ixN xs.length i).bind λj=>xs[j]?
def Ark{n:Nat}{i:Int}{j:Nat}(h:ixN n i=sr j):seqIndex? i n=sr j/\j < n/\-(n:Int)<=i/\i < n:=by
 unfold ixN at h;by_cases c:0<=i
 .rw[di c] at h;by_cases a:i < n
  .rw[di a] at h;let e:=cA h;exact(by rw[seqIndex_of c a,e],(),(),a)
  simp_all
 .rw[dq c] at h;by_cases a:-n<=i
  .rw[di a] at h;let e:=cA h;exact(by rw[aAt () a,e],(),a,())
  simp_all
def Aj6{d:Type}{a:lg d}{i:Int}{v:d}(h:atI a i=sr v):∃j,seqIndex? i a.length=sr j/\a[j]?=sr v/\j < a.length/\-(a.length:Int)<=i/\i < a.length:=by
 unfold atI at h;cases e:ixN a.length i with
 |none=>simp_all
 |some j=>
  rw[e] at h;let(m,l,k,g):=Ark e;exact(j,m,h,l,k,g)
def Afe(b:cM):Prop:=∀o i,subscripted b tu o i=operate [o,i] (getItem o i)
def IxR(X:Cx)(r:R2):Prop:=
 ∀(value slice:cM)(aa:lg[aL×o7])(s:aO)(σ:St)(H:Hp)(x y:V)(v u:aG)(Q:VK),Inv X aa σ H s->RelV x v->RelV y u->r x y H Q->
  subscripted slice tu v u=operate [v,u] (getItem v u)->wpAny (model X.prog X.w) X.A (subscriptTail value slice v u) (EP X aa σ Q) X.xe s
def MtR(X:Cx)(id:String)(r:V->lg V->Hp->VK->Prop):Prop:=
 ∀(aa:lg[aL×o7])(s:aO)(σ:St)(H:Hp)(x:V)(xs:lg V)(v:aG)(us:lg aG)(Q:VK),Inv X aa σ H s->RelV x v->Vals xs us->r x xs H Q->
  wpAny (model X.prog X.w) X.A (call .builtin[id] (v::us)) (EP X aa σ Q) X.xe s
section
def IxR.or(h:IxR X r)(g:IxR X f):IxR X (λx y H Q=>r x y H Q\/f x y H Q):=by
 intro value slice e s a H x y v u Q I c b q d;rcases q with q|q
 .exact h value slice e s a H x y v u Q I c b q d
 .exact g value slice e s a H x y v u Q I c b q d
def Blb(K:aD):R2:=λx y H Q=>∃p xs i v,x=.ref p/\y=.int i/\SqL K H p xs/\atI xs i=sr v/\Q v H
def Blc(K:aD):R2:=λx y H Q=>∃p xs i v,x=.ref p/\y=.int i/\SqT K H p xs/\atI xs i=sr v/\Q v H
def Bld:R2:=λx y H Q=>∃z i c,x=.str z/\y=.int i/\z.length<=sizeLine/\atI z.cps.toList i=sr c/\Q .str[⟨#[c]⟩] H
def Bbh:IxR X Blb[X.K]:=by
 intro value slice F s l H x y v u Q I n m h f;let(p,J,i,z,rfl,rfl,o,B,q):=h;cases n;let(t,rfl):=m;let(d,r,pl,L):=I.list o;let(j,b,E,O,D,C):=Aj6 B;let(w,k,c):=r.get E;let A:=r.length;let N:=Acy;let a:EP X F l Q w s:=(z,H,I,c,q);by_cases g:0<=i
 .let e:i.toNat=j:=by
   rw[seqIndex_of g C] at b;exact cA b
  exact item_listR pl.isList g () (by rw[e];simpa using k) a f
 .let e:(i+(d.toArray.size:Int)).toNat=j:=by
   rw[aAt () D] at b
   rw[bV,<-A];exact cA b
  exact sG (x:=w) pl.isList.typeIs slot_list_getitem.lookup
   (wpAny_getItem_list_neg pl.isList () (by rw[bV] <;> omega) () (by rw[e];simpa using k) (rfl,a)) f
def Bl:IxR X Blc[X.K]:=by
 intro value slice F s l H x y v u Q I c b h e;let(p,m,i,z,rfl,rfl,f,g,q):=h;cases c;let(t,rfl):=b;let(d,r,pl,n):=I.tuple f;let(j,D,k,C,B,A):=Aj6 g;let(w,E,a):=r.get k;let o:=Acy;exact sG pl.typeIs slot_tuple_getitem.lookup
  (getItem_tuple pl () () (by rw[bV,<-r.length];omega) (by simp_all) (rfl,(z,H,I,a,q))) e
def Aj7:IxR X Bld:=by
 intro value slice A s n H x y v u Q I d b h e;let(z,i,c,rfl,rfl,p,g,q):=h;let(t,rfl):=d;let(o,rfl):=b;let(j,a,m,w,l,k):=Aj6 g;let f:z.cps.toList.length=z.length:=by rfl
 rw[f] at a l k;let r:=Acy;exact zE (zF s z t) slot_str_getitem.lookup (getItem_str (by
  grind) (by rw[a];simpa using m) (.str _,H,I.tok _,(_,rfl),q)) e
def rIx(K:aD):R2:=λx y H Q=>Blb K x y H Q\/Blc K x y H Q\/Bld x y H Q
def Bha:IxR X rIx[X.K]:=Bbh.or Bl.or[Aj7]
def Aj8(lo hi:o9 Int)(n:Nat):(sliceBounds lo hi sy n).1=((HT.sIx n 0 lo:Nat):Int)/\(sliceBounds lo hi sy n).2.1=((HT.sIx n n hi:Nat):Int)/\(sliceBounds lo hi sy n).2.2=1:=by
 refine(?_,?_,rfl)
 .cases lo with
  |none=>rfl
  |some i=>
   simp[sliceBounds,HT.sIx,xH,if_true];by_cases h:i < 0
   .simp only[h,if_true] <;> omega
   .simp only[h,if_false] <;> omega
 .cases hi with
  |none=>rfl
  |some i=>
   simp[sliceBounds,HT.sIx,xH,show (1) > 0 by decide,if_true]
   by_cases h:i < 0
   .simp only[h,if_true] <;> omega
   .simp only[h,if_false] <;> omega
def Aib(a:lg aG)(lo hi:o9 Int):slicePick a.toArray lo hi sy=((a.drop[HT.sIx a.length 0 lo]).take (HT.sIx a.length a.length hi - HT.sIx a.length 0 lo)).toArray:=by
 let(f,e,d):=Aj8 lo hi a.toArray.size;unfold slicePick;rw[f,e,d];simp only[sliceRange_one,pick_run] <;> rfl
def Ble(K:aD):V->o9 Int->o9 Int->Hp->VK->Prop:=λx lo hi H Q=>∃a xs,x=.ref a/\SqL K H a xs/\∀p,H p=sy->Q[.ref p][upd H p .lst[Apm xs lo hi]]
def Bbi:SlR X Ble[X.K]:=by
 intro t s m H x v o n lo hi p Q I f l pl g h;let(a,e,rfl,k,q):=h;cases f;let(i,r,d,j):=I.list k;let c:=r.length;refine("list",_,slot_list_getitem.lookup,d.isList.typeIs,?_);refine wpAny_getItem_list_slice d.isList l pl g .none (by simp) ?_ (by simp_all)
 rw[Aib,<-c];refine(.ref s.heap.objs.size,_,I.laid (λb ob q=>aF _ q) aN[_] ?_,rfl,q _ I.hok.fresh[aN[_]]);exact(aH (Ad7 e lo hi) j,_,0,(r.drop _).take _,aR _ rfl)
def Gv:V->Bool
 |.non=>t8
 |.bl _=>t8
 |.int _=>t8
 |.str _=>t8
 |_=>tu
def eqV:V->V->Bool
 |.non,.non=>t8
 |.bl a,.bl b=>a==b
 |.bl a,.int b=>(if a then 1 else 0)==b
 |.int a,.bl b=>a==(if b then 1 else 0)
 |.int a,.int b=>a==b
 |.str a,.str b=>a==b
 |_,_=>tu
def Bhb(e:RelV y u)(c:RelV x v)(g:Gv y=t8)(f:Gv x=t8):zG A s u v (eqV y x):=by
 cases y with
 |non=>
  cases e;cases x with
  |non=>cases c;exact aDg _
  |bl b=>cases c;exact aBq b
  |int b=>let(t,rfl):=c;exact aCc b t
  |str b=>let(t,rfl):=c;exact aCd b t
  |_=>exact absurd (show tu=t8 from f) cR
 |bl a=>
  cases e;cases x with
  |non=>cases c;exact aBr a
  |bl b=>cases c;exact aBs a b
  |int b=>let(t,rfl):=c;exact aCe a b t
  |str b=>let(t,rfl):=c;exact aCf a b t
  |_=>exact absurd (show tu=t8 from f) cR
 |int a=>
  let(d,rfl):=e;cases x with
  |non=>cases c;exact aCg a d
  |bl b=>cases c;exact aCh a d b
  |int b=>let(t,rfl):=c;exact aCl a d b t
  |str b=>let(t,rfl):=c;exact vG a d b t
  |_=>exact absurd (show tu=t8 from f) cR
 |str a=>
  let(d,rfl):=e;cases x with
  |non=>cases c;exact aCi a d
  |bl b=>cases c;exact aCj a d b
  |int b=>let(t,rfl):=c;exact vH a d b t
  |str b=>let(t,rfl):=c;exact aCm a d b t
  |_=>exact absurd (show tu=t8 from f) cR
 |_=>exact absurd (show tu=t8 from g) cR
def eqU(x:V)(u:aG):Bool:=match u with
 |.none=>eqV .non x
 |.bool b=>eqV .bl[b] x
 |.int i _=>eqV .int[i] x
 |.str z _=>eqV .str[z] x
 |_=>tu
def Bhc(r:RelV y u)(f:Gv y=t8):eqU x u=eqV y x:=by
 cases y with
 |non=>cases r;rfl
 |bl b=>cases r;rfl
 |int i=>let(t,rfl):=r;rfl
 |str z=>let(t,rfl):=r;rfl
 |_=>trivial
def inV(x:V)(xs:lg V):Bool:=xs.any λy=>eqV y x
def Aj9:OpR X compareOp[.NotIn] (λx y H Q=>∃i j,x=.str i/\y=.str j/\Q .bl[!(!(dB j i 0 j.length 1).isEmpty)] H):=by
 intro e s c H x y v u Q I b a h;let(i,j,rfl,rfl,q):=h;let(t,rfl):=b;let(d,rfl):=a;exact notIn_str (.bl _,H,I,rfl,q)
def Jk.or(h:Jk X f r)(i:Jk X f g):Jk X f (λa H Q=>r a H Q\/g a H Q):=by
 intro e s b H a c Q I d q;rcases q with q|q
 .exact h e s b H a c Q I d q
 .exact i e s b H a c Q I d q
def Aka:Jk X .type["list"] (λt H Q=>∃p f,t=[.ref p]/\(SqL X.K H p f\/SqT X.K H p f)/\∀l,H l=sy->Q[.ref l][upd H l .lst[f]]):=by
 intro y s v H t A Q I r h;let(p,f,rfl,hq,q):=h;let(u,rfl,x):=vals1 r;cases x;let j:∀(a:_),_->_->∀(c:dY)(d:Nat),_->
   _->EP X y v Q _ { s with heap:=c }:=λa b g c d kp e=>
  (.ref s.heap.objs.size,_,I.laid kp aN[_] (show Eo X.prog X.w _ c _ .lst[f] from (g,a,d,b,e)),rfl,q _ I.hok.fresh[aN[_]])
 rcases hq with hq|hq
 .let(a,b,pl,g):=I.list hq;let i:=b.length;let(o,k,m,n,hd):=pl.isList;exact aAc p .inl[rfl] k m hd (λc d kp e=>j a b g c d kp e) (by simp[bV] <;> omega)
 .let(a,b,pl,g):=I.tuple hq;let i:=b.length;let(o,k,m,n,hd):=pl;exact aAc p .inr[rfl] k m hd (λc d kp e=>j a b g c d kp e) (by simp[bV] <;> omega)
def Aic:Jk X .type["tuple"] (λg H Q=>∃p a,g=[.ref p]/\((SqL X.K H p a/\∀l,H l=sy->Q[.ref l][upd H l .tup[a]])\/(SqT X.K H p a/\Q .ref[p] H))):=by
 intro y s v H g x Q I r h;let(p,a,rfl,h):=h;let(u,rfl,m):=vals1 r;cases m;rcases h with ⟨f,q⟩|⟨f,q⟩
 .let(c,d,pl,i):=I.list f;let j:=d.length;refine call_tuple_list[pl.isList][λn kp=>?_][by simp_all]
  let k:=I.kept (t':=s.toks) kp;let t:=
   k.laid (t':=s.toks) (λb o e=>aF _ e) aN[_] (show Eo X.prog X.w _ _ _ .tup[a] from (i,c,d,aAp _ _))
  exact(.ref n.objs.size,_,t,rfl,q _ k.hok.fresh[aN[_]])
 .let(c,d,pl,i):=I.tuple f;exact call_tuple_same pl (.ref p,H,I,rfl,q)
def tyV(K:aD)(T:String)(x:V)(H:Hp):Prop:=match x with
 |.str _=>T="str"
 |.int _=>T="int"
 |.ref p=>(T="list"/\∃xs,SqL K H p xs)\/(T="tuple"/\∃o,K.lookup p=sr o/\o.cls=.type "tuple"/\o.dict=sy)\/
   (T="dict"/\((∃kvs,H p=sr .dK[kvs])\/∃kvs,H p=sr .dT[kvs]))\/(T="set"/\∃S n,H p=sr[.set S n])
 |_=>False
def Bhd(I:Inv X m k H s)(r:RelV x v)(ty:tyV X.K T x H):
  s.TypeIs v T/\∀a,v=.ref a->∃ob,s.heap.get? a=sr ob/\ob.dict=sy:=by
 cases x with
 |str z=>
  let(t,rfl):=r;cases (ty);exact(zF s z t,λf e=>nomatch e)
 |int i=>
  let(t,rfl):=r;cases (ty);exact(zH s i t,λf e=>nomatch e)
 |ref p=>
  cases r;rcases ty with ⟨rfl,l,h⟩|⟨rfl,o,hk,j,hd⟩|⟨rfl,hk⟩|⟨rfl,S,n,hk⟩
  .let(g,_,pl,_):=I.list h;refine(pl.isList.typeIs,λa e=>?_);cases e;let(o,n,e,c,hd,_):=pl;exact(o,e,hd)
  .refine((o,I.kIn p o hk,j),λa e=>?_);cases e;exact(o,I.kIn _ o hk,hd)
  .let z:∃o,s.heap.get? p=sr o/\o.ExactDict:=by
    rcases hk with ⟨b,hk⟩|⟨b,hk⟩
    .let(_,_,_,_,o,_,_,e,ex,_):=I.hok p _ hk;exact(o,e,ex)
    .let(_,_,_,_,o,_,_,e,ex,_):=I.hok p _ hk;exact(o,e,ex)
   let(o,e,ex):=z;refine((o,e,ex.1),λa d=>?_);cases d;exact(o,e,ex.2.1)
  .let(o,_,_,_,e,ex,_):=I.hok p _ hk;refine((o,e,ex.1),λa d=>?_);cases d;exact(o,e,ex.2.1)
 |_=>exact gF ty
def tBM(K:aD)(T:String)(r:V->lg V->Hp->VK->Prop)(to:TE)(t:TA):TE:=λσ H Q=>to σ H λx H1=>tyV K T x H1/\t σ H1 λxs H2=>r x xs H2 Q
end
def MtM(X:Cx)(id:String)(r:V->lg V->Hp->VK->Prop):Prop:=
 ∀(aa:lg[aL×o7])(s:aO)(σ:St)(H:Hp)(x:V)(xs:lg V)(v:aG)(us:lg aG)(Q:VK),Inv X aa σ H s->RelV x v->Vals xs us->r x xs H Q->
  wpAny (model X.prog X.w) X.A (call .builtin[id] (v::us)) (EP X aa σ Q) X.xe s
def Vals.one{x:V}{a:lg aG}(h:Vals [x] a):∃u,a=[u]/\RelV x u:=by
 cases h with|cons r h=>
 cases h;exact(_,rfl,r)
def Vals.two{x y:V}{a:lg aG}(h:Vals [x,y] a):∃u v,a=[u,v]/\RelV x u/\RelV y v:=by
 cases h with|cons r h=>
 cases h with|cons q h=>
 cases h;exact(_,_,rfl,r,q)
theorem Vals.eraseIdx:∀{b:lg V} {c:lg aG} (i:Nat),Vals b c->Vals b.eraseIdx[i] c.eraseIdx[i]
 |_,_,_,.nil=>.nil
 |_,_,0,.cons _ t=>t
 |_,_,i+1,.cons r t=>.cons r (Vals.eraseIdx i t)
theorem Vals.rep(h:Vals a b):∀k:Nat,Vals (bO k a).flatten (bO k b).flatten
 |0=>.nil
 |k+1=>Vals.append h (Vals.rep h k)
theorem Aix{b:Type}:∀(l:lg b)(i:Nat),(l.eraseIdx i).length<=l.length
 |[],_=>aN _
 |_::_,0=>gU _
 |_::r,i+1=>lV[Aix r i]
theorem foldl_rep(a:lg aG):∀(k:Nat)(b:lg aG),
  aCn[λf d=>f ++ d][b.toArray][bO k a.toArray]=(b ++ (bO k a).flatten).toArray
 |0,b=>by simp
 |k+1,b=>by
  let e:b.toArray ++ a.toArray=(b ++ a).toArray:=by simp
  let g:(b ++ a) ++ (bO k a).flatten=b ++ (bO (k+1) a).flatten:=by
   rw[uQ,List.flatten_cons,bN]
  rw[<-g,<-foldl_rep a k _,<-e,uQ,xZ]
section
def Inv.lset{a its':lg aG}{n:Nat}{f:Array aG->Array aG}{h:Nat}(I:Inv X m g H s)(k:H l=sr .lst[o])(e:s.heap.get? l=sr { cls:=.type "list",data:=.seq a.toArray n })(hf:f a.toArray=its'.toArray)(hv:Vals ys its')(i:ys.length<=sizeLine):
  Inv X m g (upd H l .lst[ys]) { s with heap:=s.heap.update l mW[f],toks:=h }:=by
 let q:=aDe e f;rw[hf] at q;refine I.write (by rw[k];trivial) .inl[rfl] (λp u j hu=>(cJ s.heap _ eO[j]).trans hu) (_,q) ?_
 exact(i,its',_,hv,q)
def Inv.lnew{t':Nat}(I:Inv X d a H s)(hv:Vals ys its)(c:ys.length<=sizeLine):
  Inv X d a (upd H s.heap.objs.size .lst[ys]) { s with heap:=s.heap.push { cls:=.type "list",data:=.seq its.toArray },toks:=t' }:=(
 I.laid (λb b q=>aF _ q) aN[_] (c,its,0,hv,aR _ rfl))
def Inv.fresh(I:Inv X aa σ H s):H s.heap.objs.size=sy:=I.hok.fresh aN[_]
def Inv.lstM(I:Inv X h g H s)(d:H l=sr .lst[b]):b.length<=sizeLine/\∃(a:lg aG)(n:Nat),Vals b a/\b.length=a.length/\s.heap.get? l=sr { cls:=.type "list",data:=.seq a.toArray n }:=by
 let(z,a,n,r,e):=I.hok l _ d;exact(z,a,n,r,r.length,e)
def Awe{n:Nat}(h:n<=sizeLine):qY n=tu:=(dw ())
end
section
def Bbj:V->lg V->Hp->VK->Prop:=λx vs H Q=>∃l xs y,x=.ref l/\vs=[y]/\H l=sr .lst[xs]/\xs.length < sizeLine/\Q .non (upd H l .lst[xs ++ [y]])
def Aiy:MtM X "list.append" Bbj:=by
 intro p s g H x j v k Q I c d h;let(l,i,y,rfl,rfl,b,m,q):=h;cases c;let(u,rfl,f):=d.one;let(z,a,n,r,o,e):=I.lstM b;refine vK F.slot_list_append (_,e,rfl) F.entry_list_append (F.args_list_append_2 _ _) (PySem.list_append l a.toArray n u (by rw[bV];omega)) (e,?_)
 refine(.non,_,I.lset (its':=a ++ [u]) b e (by simp) r.append[.cons f .nil] ?_,rfl,q)
 rw[bH,cX];omega
def Awf:V->lg V->Hp->VK->Prop:=λx vs H Q=>∃l xs i k y,x=.ref l/\vs=[.int i]/\H l=sr .lst[xs]/\-(2 ^ 63)<=i/\i < 2 ^ 63/\seqIndex? i xs.length=sr k/\xs[k]?=sr y/\Q y (upd H l .lst[xs.eraseIdx[k]])
def Awg:MtM X "list.pop" Awf:=by
 intro G s A H x B v C Q I f g h;let(l,d,i,k,y,rfl,rfl,c,p,o,hk,m,q):=h;cases f;let(u,rfl,j):=g.one;let(t,rfl):=j;let(z,b,n,r,E,e):=I.lstM c;let(w,D,a):=r.get m;refine vK F.slot_list_pop (_,e,rfl) F.entry_list_pop (F.args_list_pop_2 _ _)
  (MeetsSeq.list_pop_at l b.toArray n i t k w (zJ p o) (by simp_all) (by simp_all) (by simp_all)) (e,?_)
 refine(y,_,I.lset c e ?_ r.eraseIdx[k] ?_,a,q)
 .simp
 .have:=Aix d k;omega
def Blf:R2:=λx y H Q=>∃l b xs zs,x=.ref l/\y=.ref b/\H l=sr .lst[xs]/\H b=sr .lst[zs]/\xs.length+zs.length<=sizeLine/\∀p,H p=sy->Q[.ref p][upd H p .lst[xs ++ zs]]
def Bhe:OpR X binaryOp[.Add] Blf:=by
 intro E s p H x y v u Q I f d h;let(l,b,A,t,rfl,rfl,j,k,C,q):=h;cases f;cases d;let(z,c,n,r,D,e):=I.lstM j;let(w,a,B,g,i,o):=I.lstM k;refine PySem.P.add_list e o ?_ (by simp_all)
 let m:c.toArray ++ a.toArray=(c ++ a).toArray:=by simp
 rw[m];exact(.ref _,_,I.lnew r.append[g] (by rw[bH];omega),rfl,q _ I.fresh)
def Blg:R2:=λx y H Q=>∃l k xs,x=.ref l/\y=.int k/\H l=sr .lst[xs]/\-(2 ^ 63)<=k/\k < 2 ^ 63/\xs.length * k.toNat<=sizeLine/\
 ∀p,H p=sy->Q[.ref p][upd H p .lst[(bO k.toNat xs).flatten]]
def len_rep{c:Type}(a:lg c)(k:Nat):(bO k a).flatten.length=k * a.length:=by simp
def Bhf:OpR X binaryOp[.Mult] Blg:=by
 intro S s N H x y v u Q I C B h;let(l,k,O,rfl,rfl,E,J,G,o,q):=h;cases C;let(t,rfl):=B;let(z,b,n,r,D,e):=I.lstM E;let f:b.toArray.size * k.toNat<=sizeLine:=by rw[bV,<-D];exact o
 let i:¬ b.toArray.size * k.toNat > (2 ^ 63 - 1) / 8:=by
  have:(sizeLine:Nat)<=(2 ^ 63 - 1) / 8:=by decide
  omega
 let g:¬ (!zK k)=t8:=by
  rw[zJ J G];exact cR
 let c:¬ qY[b.toArray.size * k.toNat]=t8:=by
  rw[Awe f];exact cR
 let d:aCn[λw p=>w ++ p][#[]][bO (if b.toArray.isEmpty=t8 then 0 else k.toNat) b.toArray]=(bO k.toNat b).flatten.toArray:=by
  let L:=λm=>by
   have:=foldl_rep b m [];rw[lE] at this;exact this
  rw[L];cases b with
  |nil=>simp
  |cons a P=>rw[dq[by simp]]
 refine wpAny_binaryOp_repeat_ref (T:="list") (U:="int") () (_,e,rfl) (λA=>zH A k t) noFill_list_mul F.fills_int_mul yE repeat_list F.slot_int_index.lookup
  (vK yE (zH s k t) F.entry_int_rmul (F.args_int_rmul_2 _ _) (int___rmul___int_list k t l b.toArray n)
   (e,rfl,(_,e,rfl),vK F.slot_list_mul (_,e,rfl) F.entry_list_mul (F.args_list_mul_2 _ _) (vV l b.toArray n k t g i c) (e,?_)))
 rw[d];exact(.ref _,_,I.lnew (t':=s.toks) r.rep[k.toNat] (by rw[len_rep,Nat.mul_comm];exact o),rfl,q _ I.fresh)
end
section
variable{κ:Type}[DecidableEq κ]
def T9(kvs:lg[κ×V])(k:κ):o9 V:=(kvs.find? λkv=>decide[kv.1=k]).map (·.2)
def putK(kvs:lg[κ×V])(k:κ)(v:V):lg[κ×V]:=
 if (kvs.any λkv=>decide[kv.1=k])=t8 then kvs.map[λkv=>if kv.1=k then (u6 kv.1 v) else kv] else kvs ++ [(k,v)]
def Af3{p:κ×V}{r:lg[κ×V]}{k:κ}(e:p.1=k):T9 (p::r) k=sr p.2:=by simp[T9,e]
def Af4{p:κ×V}{r:lg[κ×V]}{k:κ}(e:¬ p.1=k):T9 (p::r) k=T9 r k:=by simp[T9,e]
theorem Amo(k:κ):∀a:lg[κ×V],(a.any λkv=>decide[kv.1=k])=(T9 a k).isSome
 |[]=>rfl
 |p::r=>by
  rw[qZ];by_cases e:p.1=k
  .simp[Af3 e,dm e]
  .rw[Af4 e,dw e];exact Amo k r
def Va(a:lg[κ×V])(k:κ)(v:V):(putK a k v).length<=a.length+1:=by
 unfold putK;split
 .simp
 simp
def Xl.isSome_eq(r:Xl o u):o.isSome=u.isSome:=by
 cases o with
 |none=>cases u with
  |none=>rfl
  |some _=>trivial
 |some _=>cases u with
  |none=>trivial
  |some _=>rfl
def KV.val{a:lg[κ×V]}{g:lg[κ×aG]}(r:KV a g)(k:κ):Xl[T9 a k][valueAt g k]:=by
 induction r with
 |nil=>trivial
 |@cons p q ps d h t j=>
  let(i,l):=h;by_cases e:p.1=k
  .let f:=i.symm.trans e;let b:valueAt (q::d) k=sr q.2:=by simp[valueAt,f]
   rw[Af3 e,b];trivial
  .let f:¬ _:=λz=>e i.trans[z];let b:valueAt (q::d) k=valueAt d k:=by simp[valueAt,f]
   rw[Af4 e,b];omega
def KV.any(r:KV a b)(k:κ):(a.any λkv=>decide[kv.1=k])=b.any λkv=>decide[kv.1=k]:=by
 induction r with
 |nil=>rfl
 |cons h t c=>simp_all
def KV.repl(r:KV a c)(k:κ)(f:RelV y u):
  KV[a.map λkv=>if kv.1=k then (u6 kv.1 y) else kv][c.map λkv=>if kv.1=k then (u6 kv.1 u) else kv]:=by
 induction r with
 |nil=>exact .nil
 |@cons p q ps g h t d=>
  rw[bT,bT];refine .cons ?_ d;let(b,i):=h;by_cases e:p.1=k
  .rw[di e,di b.symm.trans[e]];trivial
  .rw[dq e,dq[λz=>e b.trans[z]]];trivial
def KV.put(r:KV a b)(k:κ)(c:RelV y u):KV[putK a k y][stored b k u]:=by
 unfold putK stored;rw[r.any k];by_cases e:(b.any λkv=>decide[kv.1=k])=t8
 .rw[di e,di e];exact r.repl k c
 .rw[dq e,dq e];exact aBt r (rfl,c)
def KV.length(r:KV kvs vs):kvs.length=vs.length:=uW r
end
def Af5(r:RelV kV[k] u):(Fp P w).is k u=t8:=by
 cases k with
 |inl i=>let(t,e):=(show ∃t,u=uK i t from r);subst e;exact Atm i t
 |inr x=>let(t,e):=(show ∃t,u=uL x t from r);subst e;exact Atn x t
theorem Aiz:∀{b:lg Key} {c:lg aG},Vals b.map[kV] c->ItemsAre (Fp P w) b c
 |[],_,r=>by cases r;exact .nil
 |k::b,_,r=>by
  cases r with
  |cons h t=>exact .cons Af5[h] Aiz[t]
abbrev KT(H:Hp):lg[lg Key×V]->lg[lg Key×aL×aG]->Prop:=pL λp q=>p.1=q.1/\H q.2.1=sr .tup[p.1.map[kV]]/\RelV p.2 q.2.2
def KT.val{H:Hp}{c:lg[lg Key×V]}{g:lg[lg Key×aL×aG]}(r:KT H c g)(k:lg Key):Xl (T9 c k) ((atKey g k).map (·.2)):=by
 induction r with
 |nil=>trivial
 |@cons p q ps d h t j=>
  let(i,_,l):=h;by_cases e:p.1=k
  .let f:=i.symm.trans e;let b:atKey (q::d) k=sr q.2:=by simp[atKey,f]
   rw[Af3 e,b];trivial
  .let f:¬ _:=λz=>e i.trans[z];let b:atKey (q::d) k=atKey d k:=by simp[atKey,f]
   rw[Af4 e,b];omega
def KT.repl(r:KT H a d)(k:lg Key)(g:RelV y u):
  KT H (a.map λkv=>if kv.1=k then (u6 kv.1 y) else kv) d.map[putAt k u]:=by
 induction r with
 |nil=>exact .nil
 |@cons p q ps i h t f=>
  rw[bT];refine .cons ?_ f;let(b,l,j):=h;unfold putAt;by_cases e:p.1=k
  .rw[di e,di b.symm.trans[e]];trivial
  .rw[dq e,dq[λz=>e b.trans[z]]];trivial
def KT.put(r:KT H a c)(k:lg Key)(g:H b=sr .tup[k.map[kV]])(d:RelV y u):
  KT[H][putK a k y][storedH c k b u]:=by
 let e:(a.any λkv=>decide[kv.1=k])=(atKey c k).isSome:=by
  rw[Amo,(r.val k).isSome_eq,eQ]
 unfold putK storedH;rw[e];by_cases q:(atKey c k).isSome=t8
 .rw[di q,di q];exact r.repl k d
 .rw[dq q,dq q];exact aBt r (rfl,g,d)
def KT.keeps(r:KT H a d)(f:∀b c,H b=sr .tup[c]->H' b=sr .tup[c]):KT H' a d:=(
 Paired.mapP r λe e z=>(z.1,f _ _ z.2.1,z.2.2))
section
def Qp(ok:HOk P w H h)(e:Rd H a u):Eo P w H h a u:=e.ok ok
def Ai0(ok:HOk P w H h)(e:Rd H a .dK[b]):b.length<=sizeLine/\(a==sysModules)=tu/\∃c,KV b c/\h.DictOf (Fp P w) a c:=(
 Qp ok e)
def Amp(ok:HOk P w H h)(e:H a=sr .dK[kvs]):kvs.length<=sizeLine/\(a==sysModules)=tu/\∃vs,KV kvs vs/\h.DictOf (Fp P w) a vs:=Ai0 ok .inl[e]
def Af6(ok:HOk P w H h)(e:H a=sr .tup[c.map[kV]]):(tupleKind[Fp P w]).is h c a:=by
 let(_,b,r,o,g,f,n,d):=(ok a _ e);exact(o,b.toArray,n,g,f,d,by simpa using Aiz r)
def Amq(ok:HOk P w H h)(e:Rd H a .dT[b]):b.length<=sizeLine/\(a==sysModules)=tu/\
  ∃c,KT H b c/\h.DictOfH tupleKind[Fp P w] a c:=by
 let(z,y,c,r,o,n,s,k,j,i,g,f):=(Qp ok e);refine(z,y,c,r,o,n,s,k,j,i,g,λx hx=>?_,f);let all:∀{l:_} {m:_},KT H l m->∀x∈m,(tupleKind[Fp P w]).is h x.1 x.2.1:=by
  intro l m q;induction q with
  |nil=>simp
  |@cons p q ps u v t d=>
   intro x hx;rcases aV.mp hx with e|hx
   .exact Af6 ok (by simp_all)
   .exact d x hx
 exact all r x hx
end
def Af7(H:Hp)(a:aL)(y:V)(r:o9 V):Prop:=
 (∃kvs k,Rd H a .dK[kvs]/\y=kV k/\r=T9 kvs k)\/∃kvs k b,Rd H a .dT[kvs]/\y=.ref b/\H b=sr .tup[k.map[kV]]/\r=T9 kvs k
def Atw(H:Hp)(a:aL)(y v:V)(H':Hp):Prop:=
 (∃kvs k,H a=sr .dK[kvs]/\y=kV k/\kvs.length < sizeLine/\H'=upd H a .dK[putK kvs k v])\/
 (∃kvs k b,H a=sr .dT[kvs]/\y=.ref b/\H b=sr .tup[k.map[kV]]/\kvs.length < sizeLine/\H'=upd H a .dT[putK kvs k v])\/
 ∃xs k,H a=sr .lst[xs]/\y=.int k/\0<=k/\k < xs.length/\H'=upd H a .lst[xs.set k.toNat v]
def Af7.k{H:Hp}{a:aL}{kvs:lg[Key×V]}{k:Key}(e:H a=sr .dK[kvs]):Af7 H a kV[k] (T9 kvs k):=.inl (kvs,k,.inl e,rfl,rfl)
def Atw.k{H:Hp}{a:aL}{kvs:lg[Key×V]}{k:Key}{v:V}(e:H a=sr .dK[kvs])(hl:kvs.length < sizeLine):Atw H a kV[k] v (upd H a .dK[putK kvs k v]):=.inl (kvs,k,e,rfl,hl,rfl)
section
def Inv.big(I:Inv X b a H s):sysModules < s.heap.objs.size:=(aAu () (I.mod.glob.keeps I.bk).lt)
def Atx(hu:A.units+1 < cLine)(I:Inv X B t H s)(g:Af7 H a y sr[v])(r:RelV y u)(h:∀f q,Inv X B t H q->RelV v f->Q f q):
  wpAny (model X.prog X.w) A (getItem .ref[a] u) Q E s:=by
 rcases g with ⟨i,k,e,n,l⟩|⟨i,k,b,e,n,x,l⟩
 .subst n;let(z,hd,D,d,o):=Ai0 I.hok e;let(f,j,c):=Xl.some_of (by rw[l];exact d.val k)
  exact wpAny_getItem_of Af5[r] o.mapOf j (h f _ I.tok[_] c)
 .subst n;cases (r);let(z,hd,C,d,o):=Amq I.hok e;let(f,j,c):=Xl.some_of (by rw[l];exact d.val k)
  let(p,hp,m):=bA.mp j;refine wpAny_getItem_heap mX[hu] (Af6 I.hok x) o hp ?_;rw[m];exact h f _ I.tok[_] c
def Bnx(hu:A.units+1 < cLine)(I:Inv X r n H s)(g:Af7 H a y o)(m:RelV y u)(h:∀j,Inv X r n H j->Q .bool[o.isSome] j):
  wpAny (model X.prog X.w) A (compareOp .In u .ref[a]) Q E s:=by
 rcases g with ⟨d,k,e,f,l⟩|⟨d,k,b,e,f,p,l⟩
 .subst f;let(z,hd,v,c,i):=Ai0 I.hok e;refine wpAny_in_of Af5[m] hd i.mapOf ?_;rw[<-(c.val k).isSome_eq,<-l];exact h _ I.tok[_]
 .subst f;cases (m);let(z,hd,t,c,i):=Amq I.hok e;refine wpAny_in_heap mX[hu] (Af6 I.hok p) hd i ?_;let q:=(c.val k).isSome_eq;rw[eQ] at q;rw[<-q,<-l];exact h _ I.tok[_]
def Bbk(hu:A.units+1 < cLine)(I:Inv X r n H s)(g:Af7 H a y o)(m:RelV y u)(h:∀j,Inv X r n H j->Q .bool[!o.isSome] j):
  wpAny (model X.prog X.w) A (compareOp .NotIn u .ref[a]) Q E s:=by
 rcases g with ⟨d,k,e,f,l⟩|⟨d,k,b,e,f,p,l⟩
 .subst f;let(z,hd,v,c,i):=Ai0 I.hok e;refine wpAny_notIn_of Af5[m] hd i.mapOf ?_;rw[<-(c.val k).isSome_eq,<-l];exact h _ I.tok[_]
 .subst f;cases (m);let(z,hd,t,c,i):=Amq I.hok e;refine wpAny_notIn_heap mX[hu] (Af6 I.hok p) hd i ?_;let q:=(c.val k).isSome_eq;rw[eQ] at q;rw[<-q,<-l];exact h _ I.tok[_]
def Afg{e:Nat}(I:Inv X j d H s)(f:Mut H[a])(g:gD a s.heap c)(h:∃q,c.get? a=sr q)(new:Eo X.prog X.w (upd H a ob) c a ob):
  Inv X j d (upd H a ob) { s with heap:=c,toks:=e }:=(
 I.write f .inl[rfl] (λb q i z=>(g.2 b i).trans z) h new)
theorem Apn(z:b.length<=sizeLine)(hd:(a==sysModules)=tu)(c:KV b d)(f:e.DictOf (Fp P w) a d):
  Eo P w H' e a .dK[b]:=(z,hd,d,c,f)
def Aty(hu:A.units+1 < cLine)(I:Inv X aa σ H s)(g:Atw H a y v H')(C:RelV y u)(D:RelV v r)(h:∀N,Inv X aa σ H' N->Q u9 N):
  wpAny (model X.prog X.w) A (setItem .ref[a] u r) Q E s:=by
 rcases g with ⟨f,k,e,o,l,p⟩|⟨f,k,b,e,o,Y,l,p⟩|⟨L,k,e,o,h0,hk,p⟩
 .subst o p;let(z,hd,vs,d,J):=Amp I.hok e;let F:vs.length<=sizeLine:=by rw[<-d.length];exact z
  let m:(putK f k v).length<=sizeLine:=by have:=Va f k v;omega
  refine wpAny_setItem_pairs (hsz:=F) Af5[C] J λP i G=>h _ ?_;let he:∃q,P.get? a=sr q:=let ⟨q,_,_,B,_⟩:=i;(q,B);exact Afg I (by rw[e];exact iU) G he (Apn m hd (d.put k D) i)
 .subst o p;cases (show u=cV b from C);let(z,hd,L,d,J):=Amq I.hok .inl[e];let F:L.length<=sizeLine:=by rw[<-uW d];exact z
  let m:(putK f k v).length<=sizeLine:=by have:=Va f k v;omega
  refine wpAny_setItem_heap (hsz:=F) mX[hu] (Af6 I.hok Y) J λP i G=>h _ ?_;let(q,es,ep,B,h2,h3,h4,_,h5):=i;refine Afg I (by rw[e];exact iU) G (q,B) (m,hd,_,(d.put k Y D).keeps λc ys U=>?_,q,es,ep,B,h2,h3,h4,h5)
  rw[Ao (by
    intro e;subst e;rw[U] at e;exact(λz=>nomatch z) cA[e])]
  exact U
 .subst o p;let(t,rfl):=C;let(z,j,n,O,S):=I.hok a _ e;let m:=O.length;let hn:=Acy;refine PySem.W.ki_setAt S h0 () (by rw[bV,<-m];exact hk) (h _ ?_)
  let T:mW (·.setIfInBounds k.toNat r) { cls:=.type "list",data:=.seq j.toArray n }={ cls:=.type "list",data:=.seq (j.set k.toNat r).toArray n }:=by simp[mW]
  let Z:(s.heap.update a (mW (·.setIfInBounds k.toNat r))).get? a=sr { cls:=.type "list",data:=.seq (j.set k.toNat r).toArray n }:=by
   rw[cY _ S (by rw[T] <;> rfl),T]
  exact I.write (x:=a) (e:=a) (by rw[e];trivial) .inl[rfl] (λb u hb q=>(cJ _ _ eO[hb]).trans q) (_,Z) (by rw[gV];exact z,_,n,O.set D _,Z)
end
section
def Blh(I:Inv X i f H s)(e:Rd H a .dK[c])(h:∀t d,Inv X i f H d->Q (.int c.length t) d):wpAny (model X.prog X.w) A (call .builtin["len"] [.ref a]) Q E s:=by
 let(z,hd,j,b,g):=Ai0 I.hok e;refine call_len_dict hd g (by rw[<-b.length];rw[tX] at z;omega) ?_
 rw[<-b.length];exact h _ _ I.tok[_]
end
def Bli(td ty tv:TE):TS:=λD σ H=>tv σ H λv H1=>td σ H1 λx H2=>ty σ H2 λy H3=>∃a H4,x=.ref a/\Atw H3 a y v H4/\D.nx σ H4
section
def Bbl(hu:X.A.units+1 < cLine)(B:PE X o j)(hi:PE X i ty)(hv:PE X value f)(z:swapsWith value sr[.Subscript o i b] d.line X.env=pure tu):
  PS[X][.Assign [.Subscript o i b] value d][Bli j ty f]:=by
 intro e s c H D I h;refine wpAny_Assign_Subscript (thn[hv e s c H _ I h] λr l ⟨v,H1,I1,rv,q1⟩=>thn[B e l c H1 _ I1 q1] λu k ⟨x,H2,I2,rx,q2⟩=>thn[hi e k c H2 _ I2 q2] λQ P ⟨y,H3,I3,ry,a,H4,ex,g,q3⟩=>?_) z;subst ex;obtain rfl:_:=rx;exact Aty hu I3 g ry rv λO C=>(c,H4,C,q3)
end
def Amr(h:dY)(a:sysModules < h.objs.size):Eo P w H (h.push { cls:=.type "dict",data:=.dict #[] }) h.objs.size .dK[[]]:=(
 (bI _,beq_eq_false_iff_ne.mpr eO[bZ[a]],[],.nil,aDh h))
def Bhg:TE:=λuu H Q=>∀p,H p=sy->Q[.ref p][upd H p .dK[[]]]
section
def Awh:PE X (.Dict [] [] b) Bhg:=(λd s c H Q I h=>
 wpAny_Dict_empty (.ref s.heap.objs.size,_,I.laid[λa a q=>aF _ q][aN _][Amr s.heap I.big],rfl,h _ I.hok.fresh[aN[_]]))
end
def Akb:lg[TE×TE]->St->Hp->(lg[V×V]->Hp->Prop)->Prop
 |[],_,H,Q=>Q [] H
 |(tk,tv)::r,σ,H,Q=>tk σ H λx H1=>tv σ H1 λy H2=>Akb r σ H2 λps H3=>Q ((u6 x y)::ps) H3
abbrev VV:lg[V×V]->lg[aG×aG]->Prop:=pL λp q=>RelV p.1 q.1/\RelV p.2 q.2
def PPs(X:Cx)(pos:Pos)(keys:lg o9[cM])(values:lg cM)(trs:lg[TE×TE]):Prop:=
 ∀(aa:lg[aL×o7])(s:aO)(σ:St)(H:Hp)(Q:lg[V×V]->Hp->Prop),Inv X aa σ H s->Akb trs σ H Q->
  wpAny (model X.prog X.w) X.A evalPairs[pairTrees keys values X.env pos] (λvs s'=>∃ps H',Inv X aa σ H' s'/\VV ps vs/\Q ps H') X.xe s
def Rh(kvs more:lg[Key×V]):lg[Key×V]:=more.foldl (λacc kv=>putK acc kv.1 kv.2) kvs
def KV.merge:∀{more:lg[Key×V]} {b:lg[Key×aG]} {kvs:lg[Key×V]} {vs:lg[Key×aG]},KV more b->KV kvs vs->KV[Rh kvs more][merged vs b]:=by
 intro more b kvs vs r;induction r generalizing kvs vs with
 |nil=>intro q;exact q
 |@cons p q ps f h t d=>
  intro c;let e:KV[putK kvs p.1 p.2][stored vs q.1 q.2]:=by
   have:=c.put p.1 h.2;rw[<-h.1];omega
  exact d e
theorem Xu:∀(more a:lg[Key×V]),(Rh a more).length<=a.length+more.length
 |[],a=>by show a.length<=_;simp
 |p::r,a=>by
  let d:=Xu r (putK a p.1 p.2);let c:=Va a p.1 p.2;show (Rh (putK a p.1 p.2) r).length<=_;rw[bL];omega
theorem Af8:∀{d:lg[Key×V]} {g:lg[aG×aG]},VV (d.map λkv=>(u6 kV[kv.1] kv.2)) g->∃f,Carries (Fp P w) g f/\KV d f
 |[],_,r=>by cases r;exact([],iU,.nil)
 |p::d,_,r=>by
  cases r with
  |@cons a b i bs h t=>
   let(f,c,q):=Af8 (P:=P) (w:=w) t;let(b1,b2):=b;exact((u6 p.1 b2)::f,(Af5 h.1,rfl,c),.cons (rfl,h.2) q)
def Blj(trs:lg[TE×TE]):TE:=λσ H Q=>∀p,H p=sy->Akb trs σ (upd H p .dK[[]]) λps H2=>H2 p=sr .dK[[]]/\∃kvs:lg[Key×V],ps=kvs.map[λkv=>(u6 kV[kv.1] kv.2)]/\kvs.length<=15/\Q[.ref p][upd H2 p .dK[Rh [] kvs]]
def Bbm(h:PPs X j keys values g)(d:keys.all (·.isSome)=t8)(B:keys.length=values.length)(D:keys≠[])(k:keys.length<=15):PE X (.Dict keys values j) Blj[g]:=by
 intro G s m H Q I q;let A:=I.hok.fresh aN[s.heap.objs.size];let J:=I.laid (a:=s.heap.objs.size) (t':=s.toks) (λo o q=>aF _ q) aN[_] (Amr s.heap I.big);refine wpAny_Dict_walk (knd:=Fp X.prog X.w) d B D k (thn[h G _ m _ _ J (q _ A)] λL N ⟨ps,H2,I2,rel,e,kvs,ep,lk,q2⟩=>?_);subst ep;let(p,c,r):=Af8 (P:=X.prog) (w:=X.w) rel;let(z,hd,n,t,F):=Amp I2.hok e;cases t;refine(p,c,F,λS f x=>(.ref s.heap.objs.size,_,?_,rfl,q2));let v:(Rh [] kvs).length<=sizeLine:=by
  let C:=Xu kvs [];rw[sY] at C;rw[tX];omega
 exact Afg I2 (by rw[e];exact iU) x (let ⟨q,_,_,y,_⟩:=f;(q,y)) (Apn v hd r.merge[.nil] f)
structure M1(X:Cx)(o:cM)(m:o8)(ak:Pos)(e:cM)(cpos:Pos):Prop where
 base:attributeBase o m X.env (eval o X.env)=eval o X.env
 few:((backTo cpos (starEach [e] X.env)).all (λx=>!x.1)&&(backToKw cpos (keywordEach [] X.env)).all (λx=>x.1.isSome)
  &&decide (([e]:List cM).length+([]:List iQ).length+(if ([]:List iQ).isEmpty then 0 else 1) < 30))=t8
 line:(ak.endLine==cpos.line)=t8
 trees:backTo cpos (starEach [e] X.env)=[(tu,eval e X.env)]
structure M2(X:Cx)(o:cM)(m:o8)(ak:Pos)(e f:cM)(cpos:Pos):Prop where
 base:attributeBase o m X.env (eval o X.env)=eval o X.env
 few:((backTo cpos (starEach [e,f] X.env)).all (λx=>!x.1)&&(backToKw cpos (keywordEach [] X.env)).all (λx=>x.1.isSome)
  &&decide (([e,f]:List cM).length+([]:List iQ).length+(if ([]:List iQ).isEmpty then 0 else 1) < 30))=t8
 line:(ak.endLine==cpos.line)=t8
 trees:backTo cpos (starEach [e,f] X.env)=[(tu,eval e X.env),(tu,eval f X.env)]
end L2
namespace Att
open PySem PySem.W PySem.Calls PyProof.Rows
def Ae3:∀(ns:lg Int)(d:lg aG),WellAll P h d ns.map[WData.int]->pD d ns:=by
 intro ns;induction ns with
 |nil=>
  intro d w;cases w;exact .nil
 |cons n ns e=>
  intro d w;cases w with
  |cons a b=>
   cases a;exact .cons _ _ (e _ b)
def Atz{l:OpenLaw}{n:Nat}(s:l.most=sr n){P:Params}{h:dY}{args:lg WData}{vals:lg aG}(b:l.row.toRowW.claim.pre args=t8)(i:WellAll P h vals args):
  ∃a m ns,vals=[cV a]/\args=[WData.list ns.map[WData.int]]/\h.get? a=sr { cls:=.type "list",data:=.seq m.toArray }/\pD m ns/\ns.length<=n:=by
 let j:WShape.hasAll [] args [.list .int]=t8:=(pre_splitW b).1;let t:l.pre.holds [] { args:=args }=t8:=(pre_splitW b).2;let(d,r,rfl,w,v):=hasAllW_cons j;obtain rfl:=hasAllW_nil v;let(y,rfl,u):=hasW_list w;let(ns,rfl):=items_int u;let c:ns.length<=n:=by
  let g:=by
   let g:=(holds_andW t).1;rw[s] at g;exact g
  let z:=condW_of g w_not[w_lt w_lit w_len_list[w_arg[rfl]]];simp_all
 cases i with
 |cons p o=>
  cases o;cases p with
  |list q e=>exact(_,_,ns,rfl,rfl,q,Ae3 ns _ e,c)
def At0(l:OpenLaw)(a:lg WData):l.row.toRowW.claim.post a .bool[t8] a=t8:=(
 postW_of
  (by rfl)
  (w_eq_bool w_res[rfl] w_lit) rfl)
def attach_call{l:OpenLaw}{n:Nat}{q:cF}{loose:lg o8}{XP:(o8->o9 aG)->dY->Prop}{D:dG->dY->Prop}{d:DefRec}(L:l.most=sr n)(x:d.params.defaults=[])(call:∀(w:dG)(s₀ b:aO)(mg mb:o8->o9 aG)(k:aL)(o:o7)(t s e:aG)(a:aL)(g:lg aG)(ns:lg Int),
   Ground q loose [] XP w s₀ mg mb b.heap->D w b.heap->
   b.heap.get? k=sr o->o.data=.func[docDef d.name d.params d.body d.scope t s e]->b.heap.CodeRec s d.name->mg d.name=sr .ref[k]->
   b.heap.get? a=sr { cls:=.type "list",data:=.seq g.toArray }->pD g ns->ns.length<=n->b.gens=#[]->
   codeAny[model l.prog w][callerA][.call .ref[k] ([.ref a],[])][λr p=>r=.ok .ret[.bool[t8]]/\OldK b.heap p.heap/\p.os=b.os/\pA p.gens][b]):
  WalkO q loose XP D l.row.toRowW d [] (λf g=>zL f g):=by
 intro w s₀ b mg mb G F k o t s e Z kV J hd y B v P C vals as h A H u O;obtain rfl:_:=Dflts.none B x;obtain rfl:kV=.none:=Dflts.noKw B;let(a,g,ns,rfl,rfl,i,hints,j):=Atz L h u;refine enter_call[jH[call w s₀ b mg mb k o t s e a g ns G F J fd_plain[hd] y v i hints j P] λr p I=>?_];let(rfl,T,S,Q):=I;exact(.inl (_,_,[],rfl,λz=>rfl,.bool t8,At0 l _,λz=>(aCw,λz N=>(nomatch N))),T,S,Q)
end Att
namespace L2
open PySem PySem.Spec PyProof.Rows
theorem Ai1:∀{b:lg aG} {ns:lg Int},pD b ns->Vals ns.map[V.int] b
 |_,_,.nil=>.nil
 |_,_,.cons n t h=>.cons (t,rfl) Ai1[h]
def Only(H:Hp):Prop:=∀b,H b=sy\/∃o xs,H b=sr[.frz o .lst[xs]]
def Awi{P:cF}{w:dG}{K:aD}{mg mb:o8->o9 aG}{CX:CXT}{k:Nat}{X a:aL}{fd:eU}{x:o8}{sp:Sp}{c:aO}{A:lg aG}{ns:lg Int}(KX:K.In c.heap)(G:c.heap.Ns mainGlobals mg)(g:c.heap.Ns builtinsNs mb)(T:∀x:o8,x≠"__name__"->mb x=bootBuiltins x)(I:c.heap.NoLimit)(hg:c.gens=#[])(O:c.heap.get? a=sr { cls:=.type "list",data:=.seq A.toArray })(hi:pD A ns)(hl:ns.length<=sizeLine)(hr:Ia k callerA)(F:∀base:dY,K.In base->base.Ns mainGlobals mg->Ke P w K mg base CX k X fd [x] sp)(hbind:∀(s:aO)(u:aG),wB s fd ([u],[]) [(x,u)])(S:∀H:Hp,Only H->SqL K H a ns.map[V.int]->sp [.ref a] H (λv l=>v=.bl t8) λl l l=>False)(U:∀H e i,CX [] H c (λl l l=>False) e i->False):
  codeAny[model P w][callerA][.call .ref[X] ([.ref a],[])][λr i=>r=.ok .ret[.bool[t8]]/\OldK c.heap i.heap/\i.os=c.os/\pA i.gens][c]:=by
 let rv:=Ai1 hi;let D:=hi.length;let t:∀H:Hp,Only H->SqL K H a ns.map[V.int]->HOk P w H c.heap->(∀b,H b≠sy->b=a)->(H a≠sy->K.lookup a=sy)->
   codeAny[model P w][callerA][.call .ref[X] ([.ref a],[])][λr i=>r=.ok .ret[.bool[t8]]/\OldK c.heap i.heap/\i.os=c.os/\pA i.gens][c]:=by
  intro H hO hS hok hA hK;let f:∀{b:aL} {o:o7},c.heap.get? b=sr o->H b=sy->(Ami c.heap H).get? b=sr o:=λe n=>Av3 e n;let Q:∀{b:aL} {o:o7} {L:Array DictEntry} {N:Nat},c.heap.get? b=sr o->o.data=.dict L N->H b=sy:=λ{b o L N} e d=>by
   cases q:H b with
   |none=>rfl
   |some u=>
    let Y:b=a:=hA b (by rw[q];simp)
    subst Y;rw[O] at e;cases e;let d':aBu A.toArray _=Data.dict L N:=d;cases d'
  let p:∀{b:aL} {m:o8->o9 aG},c.heap.Ns b m->(Ami c.heap H).Ns b m:=λ{b m} ⟨o,L,N,e,d,r⟩=>(o,L,N,f e (Q e d),d,r);let J:K.In[Ami c.heap H]:=λb o e=>f (KX b o e) (by
   cases q:H b with
   |none=>rfl
   |some u=>
    let Y:b=a:=hA b (by rw[q];simp)
    subst Y;rw[hK (by rw[q];simp)] at e;cases e)
  let hM:Mod K mg (Ami c.heap H):=(J,p G,(mb,p g,T),let ⟨mc,h1,h2⟩:=I;(mc,p h1,h2));let e0:Apj P w K mg (Ami c.heap H) callerA [] c H:=(rfl,hM,λb o e=>Ba6 e,lR[PySem.W.hideAll_size _ _],trivial,λb g=>absurd (show b∈([]:lg aL) from g) (by simp),hok,.of_eq hg)
  refine jH[(F _ J p[G]).run callerA [] c H ([.ref a],[]) [.ref a] [.ref a] _ _ hr e0 (hbind c .ref[a]) (.cons rfl .nil) (S H hO hS)] λr i h=>?_;cases r with
  |error e=>exact(U H e i h).elim
  |ok fl=>
   cases fl with
   |next=>exact gF h
   |brk=>exact gF h
   |cont=>exact gF h
   |ret u=>
    let(v,H',os,bare,un,E,r',q):=h;let q':v=.bl t8:=q;subst q';obtain rfl:u=yQ t8:=r';refine(rfl,OldK.of_keep λb o e=>?_,os,bare);cases q:H b with
    |none=>exact un.keep b o e q (by intro z;exact absurd (show b∈([]:lg aL) from z) (by simp)) (by simp)
    |some u=>
     rcases hO b with z|⟨ob,xs,z⟩
     .rw[q] at z;cases z
     .let z2:=un.frzs b ob _ z;let(e1,_):=hok b _ z;let(e2,_):=E b _ z2;rw[e] at e1;cases e1;exact e2
 cases hk:K.lookup a with
 |some o=>
  let e:=KX a o hk;rw[O] at e;cases e;refine t (λl=>sy) (λl=>.inl rfl) (.inr (_,A.toArray,_,hk,rfl,rfl,rfl,by rw[bV,D];exact hl,by simpa using rv)) (λb u z=>by let C:(sy:o9 HO)=sr u:=z;cases C) (λb z=>absurd rfl z) λz=>absurd rfl z
 |none=>
  refine t (λb=>if b=a then sr (.frz { cls:=.type "list",data:=.seq A.toArray } (.lst ns.map[V.int])) else sy) (λb=>?_) (.inl (.inr ({ cls:=.type "list",data:=.seq A.toArray },di rfl))) (λb u z=>?_) (λb z=>?_) λl=>hk
  .by_cases g:b=a
   .exact .inr (_,_,di g)
   .exact .inl dq[g]
  .by_cases g:b=a
   .let C:=(di g).symm.trans z;cases C;subst g;exact(O,by rw[aB];exact hl,A,_,rv,O)
   .let C:=(dq g).symm.trans z;cases C
  .by_cases g:b=a
   .exact g
   .exact absurd dq[g] z
def Bbn{l:sZ}{n k:Nat}{q:cF}{loose:lg o8}{XP:(o8->o9 aG)->dY->Prop}{J:dG->dY->Prop}{d:DefRec}{K:Params->aD}{N:dG->CXT}{I:dG->Sp}{x:o8}(Q:l.most=sr n)(A:n<=sizeLine)(C:d.params.defaults=[])(P:Ia k callerA)(Y:∀(w:dG)(h:dY),J w h->(K w.params).In h)(F:∀(w:dG)(mg:o8->o9 aG)(t:aL)(h:dY),(K w.params).In h->h.Ns mainGlobals mg->mg d.name=sr .ref[t]->
   ∃fd:eU,(∀(s:aO)(u:aG),wB s fd ([u],[]) [(x,u)])/\
    ∀base:dY,(K w.params).In base->base.Ns mainGlobals mg->Ke l.prog w K[w.params] mg base N[w] k t fd [x] I[w])(z:∀(w:dG)(H:Hp)(a:aL)(ns:lg Int),ns.length<=n->Only H->SqL K[w.params] H a ns.map[V.int]->I w [.ref a] H (λv j=>v=.bl t8) λj j j=>False)(D:∀(w:dG)(H:Hp)(s:aO)(e:aG)(y:aO),N w [] H s (λj j j=>False) e y->False):
  aAd q loose XP J l.row.toRowW d [] (λf E=>zL f E):=by
 refine Att.attach_call Q C λw s₀ m mg mb t o pm cd doc a E ns G O ho hd U B p hints c S=>?_;let L:=Y w _ O;let(fd,X,hF):=F w mg t _ L G.T.g B;exact Awi L G.T.g G.T.b G.T.builtins G.T.nolimit S p hints (aH c A) P hF X (λH hO Z=>z w H a ns c hO Z) λH e y=>D w H m e y
def inClass(s:cQ)(j:Nat):cQ:=match s with
 |.ClassDef _ _ _ body _ _ _ _ _ _ _=>body.getD j (.Pass (0,0,0,0))
 |_=>.Pass (0,0,0,0)
def Fq(s:cQ):Arguments:=match s with
 |.FunctionDef _ a _ _ _ _ _ _ _ _=>a
 |_=>{ posonlyargs:=[],args:=[],vararg:=sy,kwonlyargs:=[],kw_defaults:=[],kwarg:=sy,defaults:=[] }
def Ah(s:cQ):lg cQ:=match s with
 |.FunctionDef _ _ b _ _ _ _ _ _ _=>b
 |_=>[]
def Ac(s:cQ):jR:=match s with
 |.FunctionDef _ _ _ _ _ _ sc _ _ _=>sc
 |_=>{ kind:=.function,names:=[],isGenerator:=false,isCoroutine:=false }
abbrev E0:XK:=λuu uu uu=>False
structure Fun(K:aD)(x aj:o8)(st:cQ)(f:aL)(fd:eU):Prop where
 ex:∃(oc:aG)(od:Option aL)(dV kV doc pm:aG)(an:Option aL)(cdv ct:aG)(osl:Array (Option aG)),
  fd=dR x aj (Fq st) (Ah st) (Ac st) dV kV doc pm an cdv ct/\K.lookup f=sr (oc,od,.func fd,osl)/\lL K cdv aj=t8
 kp:eG K (.ref f)=t8
section
def Af9{K:aD}{x aj:o8}{st:cQ}{ps:lg o8}{an:o9 aL}{kV doc pm cdv ct:aG}(h:∀us:lg aG,us.length=ps.length->bindArgs (dR x aj Fq[st] Ah[st] Ac[st] .none kV doc pm an cdv ct) (us,[])=pure ps.zip[us]):Binds K (dR x aj Fq[st] Ah[st] Ac[st] .none kV doc pm an cdv ct) ps []:=.all h
def Apo{K:aD}{x aj:o8}{st:cQ}{f:aL}{oc:aG}{od an:o9 aL}{osl:Array o9[aG]}{dV kV doc pm cdv ct:aG}(l:K.lookup f=sr (oc,od,.func[dR x aj Fq[st] Ah[st] Ac[st] dV kV doc pm an cdv ct],osl))(c:lL K cdv aj=t8)(k:eG K .ref[f]=t8):Fun K x aj st f (dR x aj Fq[st] Ah[st] Ac[st] dV kV doc pm an cdv ct):=((oc,od,dV,kV,doc,pm,an,cdv,ct,osl,rfl,l,c),k)
end
section
def At1:Jk X .builtin["len"] (λc H Q=>∃a b,c=[V.ref a]/\H a=sr .dK[b]/\Q .int[b.length] H):=by
 intro k s g H c i Q I r h;let(a,b,rfl,e,q):=h;let(u,rfl,d):=vals1 r;cases d;exact Blh I .inl[e] λt j f=>(.int b.length,H,f,(t,rfl),q)
end
def At2{A B:Prop}(h:B):if tu=t8 then A else B:=by trivial
def App{A B:Prop}(h:A):if t8=t8 then A else B:=by trivial
def Ae4(n:Nat)(h:dY)(e:aL)(od:o9 aL):Prop:=∃oe vs,h.get? e=sr oe/\oe.data=.fields vs/\(n=0->vs[2]?=sr .none)/\oe.dict=od
section
variable{M:Model}{A:fJ}{E:aG->aO->Prop}{s:aO}{n:Nat}{od:o9 aL}
def Bfx(H:A.frames=sr (env::outer))(m:s.heap.FunFrames B (env::outer))(I:env.frame=sr L)(at_:s.heap.get? e=sr ob)(kB:B.StaysIn s.heap)(G:B.get? e=sy)(dt:ob.data=.fields i)(sz:1 < i.size)(C:i[0]?=sr J)(y:n=0->i[2]?=sr .none)(k:∀g,aBv B (env::outer) e ob.cls J rawInt[L] s.heap g->Ae4 n g e ob.dict->Q u9 { s with heap:=g }):
  wpAny M A (do let a<-frameOf env;let pl<-entryPlaceOf L nx;let b<-uR hd a .none rawInt[L] .none pl;setField .ref[e] 1 b) Q E s:=by
 let off:e∉(env::outer).filterMap (·.frame):=λz=>by
  let(_,o,q,n):=m.mem z;rw[at_] at q;exact n i (by rw[<-cA q];exact dt)
 refine aA[wpAny_frameOf_fun H m I λf only=>?_];refine aA[wpAny_entryPlaceOf λpl l=>?_];unfold uR newFields;refine aA dU[?_][l.sizeOk5 _ _ _ _ _];generalize x:({ cls:=.type "traceback",dict:=sy,data:=.fields ([hd,.ref L,.none,rawInt L,.none] ++ (if pl.isEmpty then bO 6 gJ else pl)).toArray }:o7)=tb
 let v:f.get? e=sr ob:=(only.2.1 e off).trans at_;let j:B.StaysIn f:=λb o z=>(only.2.1 b λw=>by rw[(m.mem w).1] at z;cases z).trans (kB b o z)
 let u:(f.push tb).get? e=sr ob:=aF tb v;refine fP u dt sz ?_;let ne:f.objs.size≠e:=lQ aU[v];let r:=cU dt (·.setIfInBounds 1 cV[f.objs.size]);let t:=cY (iT (·.setIfInBounds 1 cV[f.objs.size])) u fH[r];let F:=(cJ f.push[tb] (iT (·.setIfInBounds 1 cV[f.objs.size])) eO[ne]).trans (aR f (by rw[<-x];rfl))
 let stay:∀b o,b≠e->f.get? b=sr o->((f.push tb).update e (iT (·.setIfInBounds 1 cV[f.objs.size]))).get? b=sr o:=λb o n z=>(cJ _ _ eO[n]).trans (aF tb z);let h:∀b o,s.heap.get? b=sr o->(∀D,o.data≠.fields D)->b≠e:=λb o z n w=>by
  subst w;rw[at_] at z;exact n i (by rw[<-cA z];exact dt)
 refine k _ (λb o z=>stay b o (λw=>by rw[w,G] at z;cases z) (j b o z),m.of_keeps λb o z n=>?_,?_,λb o z n=>?_) (_,_,t,r,λz=>by rw[nR ()];exact y z,by
   let(c,d,dt,p):=ob;cases dt <;> rfl)
 .let(p,w):=only.2.2 b o z;exact(_,stay b _ (h b o z n) w,rfl)
 .refine(_,_,f.objs.size,_,_,t,(lJ _ _,by rw[nR ()];exact C),r,by simp[sz],j.fresh,ne,F,by rw[<-x],?_)
  first
   |(simp;done)
   |(rcases l with rfl|⟨_,_,_,_,_,_,_,rfl⟩ <;> simp)
 .let(p,w):=only.2.2 b o z;exact(p,stay b _ (h b o z n) w)
def Awj(kB:B.StaysIn s.heap)(G:s.heap.FunFrames B l)(tr:s.heap.TracedAtW B e cls L O)(H:Ae4 n s.heap e od)(k:∀g,B.StaysIn g->g.FunFrames B l->g.TracedW B e cls L->Ae4 n g e od->s.heap.UpToSlots g->Q u9 { s with heap:=g }):wpAny M A (setFlight .ref[e] sy) Q E s:=by
 let(C,i,T,N,v,h,F,dt,j,D,d,p,dT,x):=tr;let(y,f,t,r,J,I):=H;rw[h] at t;obtain rfl:=cA t;rw[dt] at r;obtain rfl:i=f:=by injection r
 let m:3 < v.size:=(fQ.mp x).1;let a:∀b,b≠T->(s.heap.update T (iT (·.setIfInBounds 3 .none))).get? b=s.heap.get? b:=λb n=>cJ _ _ eO[n];let c:∀b o,s.heap.get? b=sr o->(∀u,o.data≠.fields u)->b≠T:=λb o z n w=>by
  simp_all
 let q:=(a e eO[d]).trans h;refine wpAny_setFlight_none h dt j p dT m (k _ (λb o z=>(a b λw=>by simp_all).trans (kB b o z)) (G.of_keeps λb o z n=>(o,(a b (c b o z n)).trans z,rfl)) ?_ (_,_,q,dt,J,I) λb o z n=>(o.slots,(a b (c b o z n)).trans z))
 exact(C,i,T,_,_,q,F,dt,j,D,d,cY _ p fH[cU dT _],cU dT _,by simp[m])
def Bhh(F:A.frames=sr (env::outer))(G:s.heap.FunFrames B (env::outer))(p:env.frame=sr L)(tr:s.heap.TracedW B e cls J)(kB:B.StaysIn s.heap)(C:B.get? e=sy)(i:Ae4 n s.heap e od)(k:∀g,aBv B (env::outer) e cls J rawInt[L] s.heap g->Ae4 n g e od->Q u9 { s with heap:=g }):wpAny M A (noteFrame .ref[e] env) Q E s:=by
 let(P,t,T,S,O,f,(D,u),dt,j,y,h,m,dT,l):=tr;let(x,d,r,q,I,H):=i;rw[f] at r;obtain rfl:=cA r;rw[dt] at q;obtain rfl:t=d:=by injection q
 subst D;subst H;unfold noteFrame;simp only[p];refine aA[dI f dt j ?_];refine aA[dI m dT l ?_];refine aA[fP m dT (fQ.mp l).1 ?_];let a:∀b,b≠T->(s.heap.update T (iT (·.setIfInBounds 3 gJ))).get? b=s.heap.get? b:=λb n=>cJ _ _ eO[n];let c:∀b o,s.heap.get? b=sr o->(∀v,o.data≠.fields v)->b≠T:=λb o z n w=>by
  simp_all
 refine Bfx F (G.of_keeps λb o z n=>(o,(a b (c b o z n)).trans z,rfl)) p ((a e eO[h]).trans f) (λb o z=>(a b λw=>by rw[w,y] at z;cases z).trans (kB b o z)) C dt (fQ.mp j).1 u I λg N i=>k g (N.1,N.2.1,N.2.2.1,λb o z n=>N.2.2.2 b o ((a b (c b o z n)).trans z) n) i
def Bbo(r:A.frames=sr (env::outer))(u:env.frame=sr L)(t:kJ B (env::outer) e cls D s.heap)(C:Ae4 n s.heap e od)(k:∀g,kJ B outer e cls D g->Ae4 n g e od->s.heap.UpToSlots g->Q u9 { s with heap:=g }):wpAny M A (leaving env .ref[e]) Q E s:=by
 let(y,f,x,v):=t;exact aA (Bhh r x u v y f C λg N d=>Awj N.1 N.2.1 N.2.2.1 d λq m l j i h=>by
  let(_,_,a):=l;exact k q (m,f,a,j) i λb o z n=>by
   let(F,w):=N.2.2.2 b o z n;let(c,p):=h b _ w n;exact(c,p))
def okX(o:o9[Nat×o9 aL])(h:dY)(e:aL):Prop:=∀n od,o=sr[u6 n od]->Ae4 n h e od
def Ae4.ok{n:Nat}(c:Ae4 0 h e od):okX sr[u6 n od] h e:=(λa a z=>by
 cases z;let(d,b,j,i,g,f):=c;exact(d,b,j,i,λa=>g rfl,f))
def okX.none:okX sy h e:=(λa a z=>nomatch z)
def Ae4.okS{n:Nat}(c:Ae4 n h e od):okX sr[u6 n od] h e:=(λa a z=>by simp_all)
def Bhi{o:o9[Nat×o9 aL]}(a:A.frames=sr (env::outer))(c:env.frame=sr L)(b:kJ B (env::outer) e cls i s.heap)(d:okX o s.heap e)(k:∀g,kJ B outer e cls i g->okX o g e->s.heap.UpToSlots g->Q u9 { s with heap:=g }):wpAny M A (leaving env .ref[e]) Q E s:=by
 cases o with
 |none=>exact wpAny_leaves_onW a c b λg f sm=>k g f okX.none sm
 |some p=>exact Bbo a c b (d p.1 p.2 rfl) λg f h sm=>k g f h.okS sm
def Bhj{o:o9[Nat×o9 aL]}(kB:B.StaysIn s.heap)(f:B.get? e=sy)(h:s.heap.FunFrames B l)(tr:s.heap.TracedAtW B e cls t v)(j:okX o s.heap e)(k:∀g,kJ B l e cls t g->okX o g e->s.heap.UpToSlots g->Q u9 { s with heap:=g }):wpAny M A (setFlight .ref[e] sy) Q E s:=by
 cases o with
 |none=>exact wpAny_setFlight_noneW kB h tr λg d c a i=>k g (d,f,c,a) okX.none λb ob q m=>(ob.slots,i b ob q m)
 |some p=>exact Awj kB h tr (j p.1 p.2 rfl) λg d c a r sm=>k g (d,f,c,a) r.okS sm
end
def Eo.there(x:Eo P w H h a o):∃ob,h.get? a=sr ob:=by
 cases o with
 |lst c=>let(_,_,_,_,e):=x;exact(_,e)
 |tup c=>let(_,_,_,ob,e,_):=x;exact(_,e)
 |dK b=>let(_,_,_,_,o,_,_,e,_):=x;exact(_,e)
 |dT b=>let(_,_,_,_,o,_,_,e,_):=x;exact(_,e)
 |set S n=>let(o,_,_,_,e,_):=x;exact(_,e)
 |ins C g fs=>let(_,_,_,e,_):=x;exact(_,e)
 |own y=>exact x
 |xd fs=>let(_,(_,_,_,e,_),_):=x;exact(_,e)
 |rng lo hi=>let(_,_,_,e):=x;exact(_,e)
 |frz ob u=>let(e,_):=x;exact(_,e)
 |tbl ps=>exact(_,(x))
 |met f y=>exact(_,(x))
 |ext d=>let(_,z,_):=x;omega
structure Fly(P:cF)(w:dG)(outer:List Env)(H:Hp)(s:aO)(H':Hp)(e:aL)(cls:aG)(s':aO):Prop where
 os:s'.os=s.os
 bare:pA s'.gens
 un:Un (frs outer) [] H H' s.heap s'.heap
 hok:HOk P w H' s'.heap
 new:s.heap.get? e=sy
 fre:H' e=sy
 fly:∃(B:dY)(a0:aG),kJ B outer e cls a0 s'.heap/\(∀b o,s.heap.get? b=sr o->H b=sy->b∉frs outer->B.get? b=sr o)/\
  (∀b o,s.heap.get? b=sr o->b∉frs outer->∃o',B.get? b=sr o')/\∀a u o,H' a=sr u->s'.heap.get? a=sr o->B.get? a=sr o
def CXo(P:cF)(w:dG):CXT:=λouter H s E e s'=>∃(ea:aL)(cls:aG)(H':Hp)(o:o9[Nat×o9 aL]),e=cV ea/\Fly P w outer H s H' ea cls s'/\okX o s'.heap ea/\E cls o H'
section
def Inv.notStk(I:Inv X d a H s)(e:X.s₀.heap.get? b=sr o)(c:b∉X.fs):b∉frs X.stack:=(λz=>by
 rcases aV.mp[I.stkSub b z] with q|q
 .exact absurd (bC aU[e] (by rw[q];exact I.ok.above)) eN[_]
 trivial)
def Inv.fsStk(I:Inv X f e H s)(a:X.stack=X.env::X.outer):∀b∈X.fs,b∈frs X.stack:=(λb d=>by
 rw[a];let(env,c,hf):=jZ.mp d;exact jZ.mpr (env,aV.mpr .inr[c],hf))
def Inv.locStk(I:Inv X c b H s)(a:X.stack=X.env::X.outer)(hf:X.env.frame=sr X.env.locals):X.env.locals∈frs X.stack:=by
 rw[a];exact jZ.mpr (X.env,aV.mpr .inl[rfl],hf)
def Inv.fly_on(I:Inv X aa σ H s)(N:X.stack=X.env::X.outer)(G:X.env.frame=sr X.env.locals)(J:X.ex=[])(F:Fly X.prog X.w X.stack H s H' e cls m){o:o9[Nat×o9 aL]}(Z:okX o m.heap e)(k:∀c:dY,Fly X.prog X.w X.outer X.H₀ X.s₀ H' e cls { m with heap:=c }->okX o c e->Q u9 { m with heap:=c }):wpAny M X.A (leaving X.env .ref[e]) Q E m:=by
 let(B,a0,L,T,S,D):=F.fly;let noex:∀b,b∉X.ex:=λb z=>by rw[J] at z;exact absurd z (by simp)
 let x:=L;rw[N] at x;refine Bhi (by rw[I.ok.frames,N]) G x Z λc i C U=>k c ?_ C
 let t:∀b o,m.heap.get? b=sr o->b∈frs X.stack->∃y,c.get? b=sr { o with slots:=y }:=λb o q hb=>by
  let(_,h,P,nf):=L.2.2.1.mem hb;rw[q] at P;cases P;exact U b o q nf
 refine(F.os.trans I.os,F.bare,(λb o q n hb j=>?_,λb o q n hb j=>?_,λb o q n j=>?_,λb o q j=>?_,λb O q=>F.un.tups b O (I.base.tups b O q),λb o u q=>F.un.frzs b o u (I.base.frzs b o u q),λb ps q=>?_),λa u q=>?_,?_,F.fre,?_)
 .exact i.1 b o T[b][o][I.base.keep b o q n hb noex[b]][I.base.free b o q n noex[b]][I.notStk q hb]
 .let(y,d):=I.base.slot b o q n hb noex[b];let r:=I.fsStk N b hb;let(Y,g):=F.un.slot b _ d (I.base.free b o q n noex[b]) r (by simp)
  let(l,p):=t b _ g r;exact(l,p)
 .let(h,d):=I.base.there b o q noex[b];exact F.un.free b h d (I.base.free b o q n noex[b]) (by simp)
 .let(h,d):=I.base.there b o q noex[b];by_cases hb:b∈frs X.stack
  .let(_,f,g,_):=L.2.2.1.mem hb;let(y,p):=t b f g hb;exact(_,p)
  .let(f,g):=S b h d hb;exact(f,i.1 b f g)
 .let(m1,e1):=I.base.tbls b ps q;let(m2,e2):=F.un.tbls b _ e1;exact(m1 ++ m2,by rw[e2,pM])
 .refine(F.hok a u q).stay (λb v hb z=>?_) (λj z=>z) λj j z=>z;rcases hb with rfl|hb
  .exact i.1 b v (D b u v q z)
  .exact i.1 b v (D b _ v hb z)
 .cases q:X.s₀.heap.get? e with
  |none=>rfl
  |some o=>
   let(h,d):=I.base.there e o q noex[e];rw[F.new] at d;cases d
 .refine(B,a0,i,λb o q n hb=>T[b][o][I.base.keep b o q n hb noex[b]][I.base.free b o q n noex[b]][I.notStk q hb],λb o q hb=>?_,λa u o q z=>?_)
  .let(h,d):=I.base.there b o q noex[b];exact S b h d (I.notStk q hb)
  .let(ob,d):=(F.hok a u q).there;let g:=D a u ob q d;let p:=i.1 a ob g;let z:c.get? a=sr o:=z;rw[p] at z;cases z;exact g
end
abbrev Awk:lg aG:=[.type "ValueError",.type "Exception",.type "BaseException",.type "object"]
def Ec(CX:CXT)(X:Cx)(E:St->XK):Prop:=∀(aa:lg[aL×o7])(σ:St)(H:Hp)(s:aO)(e:aG)(s':aO),Inv X aa σ H s->CX X.stack H s E[σ] e s'->X.xe e s'
def Bhk(sp:Sp)(dvs:lg V)(E:St->XK)(t:TA):TE:=λσ H Q=>t σ H λvs H1=>sp (vs ++ dvs) H1 Q E[σ]
def Ams{k:Nat}(F:Ke X.prog X.w X.K X.mg X.base CX k f fd ps C Y)(J:Ia k X.A Y)(O:Gl X x)(L:X.mg x=sr .ref[f])(hk:eG X.K .ref[f]=t8)(S:Binds X.K fd ps y)(hd:Vals j y)(G:Ec CX X E)(T:PA X (e::c) t)(i:(x==("__debug__":o8))=tu:=by decide)(P:starEach (e::c) X.env=(u6 tu (eval e X.env))::starEach c X.env:=by rfl)(g:(backTo pos (starEach c X.env)).any (·.1)=tu:=by rfl):
  PE[X][.Call (.Name x p) (e::c) [] pos][Bhk C j E t]:=by
 intro z s l H Q I h;refine gZ[Aa7 I O L ?_ i];refine pR I.ok.mod.kin hk (thn[T pos z s l H _ I h] λm d ⟨vs,H1,I1,r,q⟩=>(I1.kIn,?_)) P g;let n:=r.append hd;let N:(m ++ y).length=ps.length:=by rw[<-n.length];exact F.len _ _ _ _ q
 refine sH[jH[F.run X.A X.stack d H1 _ _ _ Q _ J I1.env0 (S d m I1.kIn N) n q] λr D o=>?_];cases r with
 |error e=>exact G z l H1 d e D I1 o
 |ok U=>
  cases U with
  |ret u=>exact I1.after o
  |next=>trivial
  |brk=>trivial
  |cont=>trivial
def Apq(a:aL)(cls:aG)(o:o9[Nat×o9 aL]):HO:=.ext λh=>(∃o vs,h.get? a=sr o/\o.cls=cls/\o.data=.fields vs)/\okX o h a
abbrev Cx.tryB(X:Cx)(pn:lg[aL×o7])(xe:aG->aO->Prop):Cx:={ X with pn:=pn,xe:=xe }
theorem Ia.mark{k:Nat}(r:Ia k A b):Ia k A.mark[v] tu:=(λz=>absurd z (by simp),r.dp,r.un)
section
def Inv.tryIn(I:Inv X b a H s):Inv X.tryB[X.pn ++ b][xe] [] a H s:=(
 ((I.ok.mod,I.ok.kind,I.ok.glob,I.ok.blt,I.ok.above,I.ok.inj,I.ok.has,I.ok.cab,I.ok.hd,I.ok.frames,I.ok.stk,I.ok.exf,I.ok.bs,I.ok.bsz,I.ok.noex,I.ok.exfs,I.ok.funs,I.ok.frf),
 I.os,I.bare,I.base,I.loc,I.cell,I.free,I.freeC,λp hp=>I.pin p (by simp_all),I.hok,I.len))
def Inv.tryOut(I:Inv X.tryB[X.pn ++ c][xe] pins' b H s):Inv X c b H s:=(
 ((I.ok.mod,I.ok.kind,I.ok.glob,I.ok.blt,I.ok.above,I.ok.inj,I.ok.has,I.ok.cab,I.ok.hd,I.ok.frames,I.ok.stk,I.ok.exf,I.ok.bs,I.ok.bsz,I.ok.noex,I.ok.exfs,I.ok.funs,I.ok.frf),
 I.os,I.bare,I.base,I.loc,I.cell,I.free,I.freeC,λp hp=>I.pin p (fK _ hp),I.hok,I.len))
def Inv.caught{o:o9[Nat×o9 aL]}(I:Inv X aa σ H s)(bj:X.stack=X.env::X.outer)(S:X.env.frame=sr X.env.locals)(F:Fly X.prog X.w X.stack H s H' e cls A)(fl:kJ B X.stack e cls a0 A.heap)(k1:∀b o,s.heap.get? b=sr o->H b=sy->b∉frs X.stack->B.get? b=sr o)(kE:∀b o,s.heap.get? b=sr o->b∉frs X.stack->∃j,B.get? b=sr j)(Z:∀a u o,H' a=sr u->A.heap.get? a=sr o->B.get? a=sr o)(c:kJ B X.stack e cls a0 D)(sm:A.heap.UpToSlots D)(ox:okX o D e):
  Inv X aa σ upd[H'][e][Apq e cls o] { A with heap:=D }:=by
 let(hh,g,d,t,Q):=A;obtain rfl:Q=s.os:=F.os;let i:∀b o,hh.get? b=sr o->b∈frs X.stack->∃E,D.get? b=sr { o with slots:=E }:=λb o q hb=>by
  let(_,j,G,nf):=fl.2.2.1.mem hb;let G:hh.get? b=sr j:=G;rw[q] at G;cases G;exact sm b o q nf
 let C:∀b,b≠X.env.locals->b∉X.fs->b∉frs X.stack:=λb L l z=>(aV.mp[I.stkSub b z]).elim L l;let ne:∀{b:aL} {u:HO},H' b=sr u->b≠e:=λq=>Bf q F.fre;refine I.step (s:=s) (g':=g) (d':=d) (t':=t) (h':=D) (ch:=[]) (λx z=>nomatch z) (λb o L l x q n=>c.1 b o (k1 b o q n (C b L l))) (λb o x l x q n=>?_) (λb o x q n=>?_) (λb o x q=>?_)
  (λb U q=>by let z:=F.un.tups b U q;rw[Ao ne[z]];exact z) (λb o u q=>by let z:=F.un.frzs b o u q;rw[Ao ne[z]];exact z) (λb ps q=>?_) (λm hm=>?_) (λa u q=>?_) F.bare
 .let hb:=I.fsStk bj b l;let(E,P):=F.un.slot b o q n hb (by simp)
  let(y,h):=i b _ P hb;exact(y,h)
 .rw[Ao (by rintro rfl;rw[F.new] at q;cases q)]
  exact F.un.free b o q n (by simp)
 .by_cases hb:b∈frs X.stack
  .let(_,f,h,_):=fl.2.2.1.mem hb;let(E,q3):=i b f h hb;exact(_,q3)
  .let(f,h):=kE b o q hb;exact(f,c.1 b f h)
 .let(m,z):=F.un.tbls b ps q;exact(m,by rw[Ao ne[z]];exact z)
 .let(o,es,ep,J,r):=hm;let hb:=I.locStk bj S;let(E,P):=F.un.slot X.env.locals o J I.free hb (by simp)
  let(y,h):=i X.env.locals _ P hb;exact(_,es,ep,h,r)
 .by_cases ha:a=e
  .subst ha;rw[Am] at q;cases q;let(Y,vs,J,hc,hd,_):=c.first;refine(((Y,vs,J,hc,hd),ox),(Y,J),λL l p k=>?_);let((o,O,p1,p2,p3),p4):=p;refine((o,O,k o p1,p2,p3),λn od z=>?_);let(j,N,z1,z2):=p4 n od z;exact(j,N,k j z1,z2)
  .rw[Ao ha] at q;refine(F.hok a u q).stay (λb v hb z=>?_) (λb z=>by rw[Ao ne[z]];exact z) λb U z=>by rw[Ao ne[z]];exact z
   rcases hb with rfl|hb
   .exact c.1 b v (Z b u v q z)
   .exact c.1 b v (Z b _ v hb z)
end
section
def Akc(h:env'.frame=env.frame)(e:aG):noteFrame e env'=noteFrame e env:=by
 unfold noteFrame PySem.frameOf;rw[h]
def Bbp{o:o9[Nat×o9 aL]}(f:o9 aL)(kB:B.StaysIn s.heap)(I:s.heap.FunFrames B l)(tr:s.heap.TracedAtW B e cls N S)(D:okX o s.heap e)(k:∀g,B.StaysIn g->g.FunFrames B l->g.TracedAtW B e cls N (f.elim .none λf=>rawInt f)->okX o g e->s.heap.UpToSlots g->Q u9 { s with heap:=g }):wpAny M A (setFlight .ref[e] f) Q E s:=by
 let(F,t,T,P,x,q,H,dt,j,r,d,p,dT,y):=tr;let m:3 < x.size:=(fQ.mp y).1;generalize hv:(f.elim .none λf=>rawInt f:aG)=v;let a:∀b,b≠T->(s.heap.update T (iT (·.setIfInBounds 3 v))).get? b=s.heap.get? b:=λb n=>cJ _ _ eO[n];let c:∀b o,s.heap.get? b=sr o->(∀u,o.data≠.fields u)->b≠T:=λb o z n w=>by
  simp_all
 let C:=(a e eO[d]).trans q;unfold setFlight;refine aA[dI q dt j ?_];rw[hv];refine fP p dT m (k[_][λb o z=>(a b λw=>by rw[w,r] at z;cases z).trans (kB b o z)][I.of_keeps λb o z n=>(o,(a b (c b o z n)).trans z,rfl)][?_][λn G z=>?_] λb o z n=>(o.slots,(a b (c b o z n)).trans z))
 .exact(F,t,T,_,_,C,H,dt,j,r,d,cY _ p fH[cU dT _],cU dT _,by simp[m];exact hv.symm)
 .let(i,h,L,J):=D n G z;exact(i,h,(a e eO[d]).trans L,J)
def Bfy{o:o9[Nat×o9 aL]}(J:A.frames=sr (env::outer))(y:env.frame=sr L)(kB:B.StaysIn s.heap)(l:B.get? e=sy)(x:s.heap.FunFrames B (env::outer))(tr:s.heap.TracedAtW B e cls U v)(h:okX o s.heap e)(k:∀g,Heap.HeldW B (env::outer) e cls U L g->okX o g e->s.heap.UpToSlots g->Q u9 { s with heap:=g }):wpAny M A (noteFrame .ref[e] env) Q E s:=by
 let(oe,C,T,oT,Z,f,(I,D),dt,r,H,j,u,dT,t):=id tr;subst I;unfold noteFrame;simp only[y];refine aA[dI f dt r ?_];refine aA[dI u dT t ?_];by_cases hf:(v==rawInt L)=t8
 .rw[di hf];obtain rfl:v=rawInt L:=by simpa using hf
  exact aJ[k s.heap (kB,l,x,tr) h λb ob z Y=>(ob.slots,z)]
 rw[dq hf];refine aA[fP u dT (fQ.mp t).1 ?_];let a:∀b,b≠T->(s.heap.update T (iT (·.setIfInBounds 3 gJ))).get? b=s.heap.get? b:=λb n=>cJ _ _ eO[n];let c:∀b o,s.heap.get? b=sr o->(∀F,o.data≠.fields F)->b≠T:=λb o z n w=>by
  simp_all
 let m:(match o with|none=>1|some p=>p.1)=0->C[2]?=sr .none:=λz=>by
  cases o with
  |none=>cases z
  |some p=>
   let(i,d,q,S,m,_):=h p.1 p.2 rfl;simp_all
 refine Bfx J (x.of_keeps λb o z n=>(o,(a b (c b o z n)).trans z,rfl)) y ((a e eO[j]).trans f) (λb o z=>(a b λw=>by rw[w,H] at z;cases z).trans (kB b o z)) l dt (fQ.mp r).1 D m λg N O=>k g (N.1,l,N.2.1,N.2.2.1) (λn G z=>?_) λb o z n=>N.2.2.2 b o ((a b (c b o z n)).trans z) n
 subst z;let(i,d,q,S,m,P):=h n G rfl;rw[f] at q;cases q;rw[<-P];exact O
end
def Bny(X:Cx)(H:Hp)(e:aL)(cls:aG)(h:dY):Prop:=∃(B:dY)(a0 fl:aG),B.StaysIn h/\B.get? e=sy/\h.FunFrames B X.stack/\h.TracedAtW B e cls a0 fl/\
 (∀b o,X.s₀.heap.get? b=sr o->X.H₀ b=sy->b∉X.fs->B.get? b=sr o)/\(∀b o,X.s₀.heap.get? b=sr o->b∉X.fs->∃o',B.get? b=sr o')/\∀a u o,H a=sr u->h.get? a=sr o->B.get? a=sr o
def Ai2(X:Cx)(E:St->XK):Prop:=∀(aa:lg[aL×o7])(σ:St)(H:Hp)(s:aO)(e:aL)(cls:aG)(o:o9[Nat×o9 aL]),Inv X aa σ H s->H e=sy->X.s₀.heap.get? e=sy->Bny X H e cls s.heap->okX o s.heap e->E σ cls o H->X.xe .ref[e] s
section
def Awl{P:cF}{w:dG}{K:aD}{mg:o8->o9 aG}{base:dY}{N:lg o8}{Y:o8}{sc:jR}{f:aL}{X:aG}{A:fJ}{outer:lg Env}{s₀:aO}{H₀:Hp}{E:XK}{U:Bool}:Ai2[Ac1 (CXo P w) P w K mg base N Y sc f X A outer s₀ H₀ E U] λg=>E:=(λaa σ H s e cls o I l k J ox q=>by
 let(B,a0,fl,kB,nB,T,tr,S,Q,G):=J;let noex:∀b,b∉(Ac1 (CXo P w) P w K mg base N Y sc f X A outer s₀ H₀ E U).ex:=λb z=>nomatch z;show wpAny _ _ (leaving _ _) _ _ s;unfold leaving;refine aA[Bfy I.ok.frames rfl kB nB T tr ox λh1 d F x=>?_];refine Bhj (s:={ s with heap:=h1 }) d.1 d.2.1 d.2.2.1 d.2.2.2 F λL c D t=>?_
 let sm:s.heap.UpToSlots L:=x.trans t;let m:∀b o,s.heap.get? b=sr o->b∈frs outer->∃C,L.get? b=sr { o with slots:=C }:=λb o q hb=>by
  let(_,j,O,nf):=T.2.2.mem hb;rw[q] at O;cases O;exact sm b o q nf
 refine(e,cls,H,o,rfl,(I.os,I.bare,(λb o q n hb g=>c.1 b o (S b o q n hb),λb o q n hb g=>?_,λb o q n g=>I.base.free b o q n noex[b],λb o q g=>?_,I.base.tups,I.base.frzs,I.base.tbls),λa u q=>?_,k,l,B,a0,(c.1,c.2.1,c.2.2.1.2.2,c.2.2.2),λb o q n hb=>S b o q n hb,λb o q hb=>Q b o q hb,λa u o q z=>?_),D,q)
 .let(C,h):=I.base.slot b o q n hb noex[b];let(y,i):=m b _ h hb;exact(y,i)
 .by_cases hb:b∈frs outer
  .let(j,h):=I.base.there b o q noex[b];let(C,i):=m b j h hb;exact(_,i)
  .let(j,h):=Q b o q hb;exact(j,c.1 b j h)
 .refine(I.hok a u q).stay (λb v hb z=>?_) (λg z=>z) λg g z=>z;rcases hb with rfl|hb
  .exact c.1 b v (G b u v q z)
  .exact c.1 b v (G b _ v hb z)
 .let(ob,h):=(I.hok a u q).there;let i:=G a u ob q h;let q3:=c.1 a ob i;let z:L.get? a=sr o:=z;rw[q3] at z;cases z;exact i)
end
def Kh(cells:lg[o8×aL]):lg[o8×lK]->lg[o8×aL]->lg (o8×aL)
 |[],acc=>acc
 |(n,k)::r,acc=>if (k==.free)=t8 then Kh cells r ((u6 n ((cells.lookup n).getD 0))::acc) else Kh cells r acc
def Aps(h:∀x∈scope.names,x.2=.free->∃c,env.cells.lookup x.1=sr c):closureFor scope env=pure[Kh env.cells scope.names []]:=by
 let all:∀(l:lg[o8×lK])(b:lg[o8×aL]),(∀x∈l,x.2=.free->∃c,env.cells.lookup x.1=sr c)->
   (forIn l b λ(x:o8×lK) (r:lg (o8×aL))=>match x with
    |(name,kind)=>if (kind==fD)=t8 then do let a<-cellOf env name;pure[lF ((u6 name a)::r)] else pure lF[r])=pure[Kh env.cells l b]:=by
  intro l;induction l with
  |nil=>intro b _;rfl
  |cons y r j=>
   intro b g;let(n,k):=y;rw[tD];dsimp only;by_cases hk:(k==fD)=t8
   .let(c,m):=g (u6 n k) bG beq_iff_eq.mp[hk];let i:cellOf env n=pure c:=by unfold cellOf;rw[m]
    rw[di hk,i];simp only[pure_bind];rw[j _ λx f=>g x (bD _ f)]
    conv=>rhs;unfold Kh
    rw[di hk,m];rfl
   .rw[dq hk];simp only[pure_bind];rw[j _ λx f=>g x (bD _ f)]
    conv=>rhs;unfold Kh
    rw[dq hk]
 let q:=all scope.names [] h;unfold closureFor;dsimp only;rw[q];rfl
theorem Aga:∀(l:lg[o8×lK])(a:lg[o8×aL])(x:o8)(c:aL),(∀y∈l,y.2=.free->∃c,cells.lookup y.1=sr c)->(Kh cells l a).lookup x=sr c->
  a.lookup x=sr c\/cells.lookup x=sr c
 |[],a,x,c,_,h=>.inl h
 |(n,k)::r,a,x,c,i,h=>by
  unfold Kh at h;by_cases hk:(k==fD)=t8
  .rw[di hk] at h;let(d,hd):=i (u6 n k) bG beq_iff_eq.mp[hk];rcases Aga r _ x c (λy g=>i y (bD _ g)) h with q|q
   .rw[dM] at q;cases e:x==n with
    |true=>
     simp_all
    |false=>rw[e] at q;exact .inl q
   .exact .inr q
  .rw[dq hk] at h;exact Aga r a x c (λy g=>i y (bD _ g)) h
theorem Aad:∀(l:lg[o8×lK])(a:lg[o8×aL])(x:o8),(∃c,a.lookup x=sr c)->∃c,(Kh cells l a).lookup x=sr c
 |[],a,x,h=>h
 |(n,k)::r,a,x,h=>by
  unfold Kh;by_cases hk:(k==fD)=t8
  .rw[di hk];refine Aad r _ x ?_;rw[dM];cases e:x==n with
   |true=>exact(_,rfl)
   |false=>omega
  .rw[dq hk];exact Aad r a x h
theorem Wy:∀(l:lg[o8×lK])(a:lg[o8×aL])(x:o8),(u6 x fD)∈l->∃c,(Kh cells l a).lookup x=sr c
 |(n,k)::r,a,x,h=>by
  unfold Kh;rcases aV.mp h with e|e
  .let(i,g):=Prod.mk.inj e;subst i;subst g;refine Aad r _ x ((cells.lookup x).getD 0,?_);simp
  .by_cases hk:(k==fD)=t8
   .rw[di hk];exact Wy r _ x e
   .rw[dq hk];exact Wy r a x e
def Akd(i:∀y∈scope.names,y.2≠.cell)(h:(relabel scope env).names.lookup x=sr .cell\/(relabel scope env).names.lookup x=sr .free):(u6 x fD)∈scope.names:=by
 let go:∀(l:lg[o8×lK])(k:lK),(∀y∈l,y.2≠.cell)->k=.cell\/k=.free->
   (l.map λ(n,k)=>if (k==fD&&env.scope.kind==.function&&env.kindOf n==sr .cell) then (u6 n uY) else (u6 n k)).lookup x=sr k->(u6 x fD)∈l:=by
  intro l;induction l with
  |nil=>intro k _ _ h;simp at h
  |cons y r g=>
   intro k f hk h;let(n,a):=y;let d:a≠.cell:=f (u6 n a) bG;rw[bT,dM] at h;dsimp only at h;by_cases b:(a==fD&&env.scope.kind==.function&&env.kindOf n==sr .cell)=t8
   .rw[di b] at h;dsimp only at h;cases e:x==n with
    |true=>
     let z:x=n:=beq_iff_eq.mp e;subst z;simp only[aQ,beq_iff_eq] at b;rw[<-b.1.1];exact bG
    |false=>
     rw[e] at h;exact bD _ (g k (λy c=>f y (bD _ c)) hk h)
   .rw[dq b] at h;dsimp only at h;cases e:x==n with
    |true=>
     let z:x=n:=beq_iff_eq.mp e;subst z;rw[e] at h;let h:a=k:=cA h;subst h;rcases hk with hk|hk
     .exact absurd hk d
     .rw[hk];exact bG
    |false=>
     rw[e] at h;exact bD _ (g k (λy c=>f y (bD _ c)) hk h)
 rcases h with h|h
 .exact go scope.names .cell i .inl[rfl] h
 .exact go scope.names .free i .inr[rfl] h
def Ake(h:scope.names.lookup x=sr .free):(relabel scope env).names.lookup x=sr .cell\/(relabel scope env).names.lookup x=sr .free:=by
 show jG x (scope.names.map λ(n,k)=>if (k==fD&&env.scope.kind==.function&&env.kindOf n==sr .cell) then (u6 n uY) else (u6 n k))=sr .cell\/jG x (scope.names.map λ(n,k)=>if (k==fD&&env.scope.kind==.function&&env.kindOf n==sr .cell) then (u6 n uY) else (u6 n k))=sr .free
 revert h;generalize scope.names=l;intro h;induction l with
 |nil=>simp at h
 |cons y r a=>
  let(n,c):=y;rw[bT,dM];dsimp only;rw[dM] at h;by_cases b:(c==fD&&env.scope.kind==.function&&env.kindOf n==sr .cell)=t8
  .rw[di b];cases e:x==n with
   |true=>exact .inl rfl
   |false=>rw[e] at h;exact a h
  .rw[dq b];cases e:x==n with
   |true=>rw[e] at h;exact .inr h
   |false=>rw[e] at h;exact a h
def Cx.comp(X:Cx)(scope:jR)(own:lg o8)(cap:lg Nat)(C:aL)(s:aO)(H:Hp)(ex:lg aL):Cx where
 prog:=X.prog
 w:=X.w
 K:=X.K
 mg:=X.mg
 base:=X.base
 A:=X.A
 N:=own ++ cap.map λj=>X.N.getD j ""
 s₀:=s
 H₀:=H
 env:=compEnvC scope (Kh X.env.cells scope.names []) C X.env
 outer:=X.stack
 stack:=X.stack
 ex:=ex
 fn:=λuu=>tu
 calm:=X.calm
 pn:=[]
 xe:=λuu uu=>False
abbrev Cx.compX(X:Cx)(scope:jR)(own:lg o8)(cap:lg Nat)(C:aL)(s:aO)(H:Hp)(ex:lg aL)(xe:aG->aO->Prop):Cx:=(X.comp scope own cap C s H ex).wish xe
def PG.nox(h:PG X.nox d g):PG X d g:=(λf s b H v u Q I r q=>
 eF[h f s b H v u Q I.wish[_] r q][λ_ _ ⟨σ',H',I',q'⟩=>(σ',H',I'.unwish,q')] λc c z=>z.elim)
def At3(own:lg o8)(cap:lg Nat)(σ:St):St:=bO own.length sy ++ cap.map λj=>σ.getD j sy
def PTs(X:Cx)(ifs:lg cM)(t:TT):Prop:=
 ∀(aa:lg[aL×o7])(s:aO)(σ:St)(H:Hp)(Q:Bool->Hp->Prop),Inv X aa σ H s->t σ H Q->
  wpAny (model X.prog X.w) X.A (forIn ifs t8 λc r=>if r=t8 then do let ok<-isTrue c X.env (eval c X.env);pure lF[ok] else pure lF[r]) (TP X aa σ Q) X.xe s
def PTs.nox(h:PTs X.nox a t):PTs X a t:=(λe s b H Q I q=>
 eF[h e s b H Q I.wish[_] q][λ_ _ ⟨H',I',q'⟩=>(H',I'.unwish,q')] λc c z=>z.elim)
def Akf:TT:=λuu H Q=>Q t8 H
section
def Akg(I:Nat->aO->Prop)(O:∀e s,N e s->notedBy (model prog w) A env (λx J=>R .error[x] J) e s)(p:∀n s,I n s->wpAny (model prog w) A pyNext[H] (λr f=>match r with
   |none=>R .ok[.next] f
   |some v=>wpAny (model prog w) A (letOwnedTupleGo target H v) (λa d=>wpAny (model prog w) A (assign target env v) (λa j=>
     wpAny (model prog w) A (forIn C t8 λc r=>if r=t8 then do let ok<-isTrue c env (eval c env);pure lF[ok] else pure lF[r]) (λok b=>
      if ok=t8 then wpAny (model prog w) A (eval D env) (λx i=>
       wpAny (model prog w) A (call .builtin["list.append"] [E,x]) (λa g=>∃m,m < n/\I m g) N i) N b
      else ∃m,m < n/\I m b) N j) N d) N f) N s)(n:Nat)(h:I n s):codeAny (model prog w) A (.compLoop (.ListComp D [(target,G,C,0)] scope L) 0 H E env) R s:=by
 refine codeAny_loop rfl I (λn s P=>?_) n h;show wpAny _ A _ _ _ s;refine wpAny_noted eF[?_][λa a q=>q][O];rw[compTurn_list];refine aA oH[aA[eF[p n s P][λr f l=>?_] λa a z=>z]];cases r with
 |none=>exact aJ l
 |some v=>
  refine aA[eF l (λa d o=>?_) λa a z=>z];refine aA[eF o (λa j y=>aA[eF y (λok b k=>?_) λa a z=>z]) λa a z=>z];cases ok with
  |false=>exact aJ (rfl,k)
  |true=>
   exact aA aA[eF k (λx i u=>aA[eF u (λa g t=>aJ[aJ (rfl,t)]) λa a z=>z]) λa a z=>z]
end
def Ai3(J:It)(g:TG)(tt:TT)(te:TE)(D:aL)(σ0:St)(H1:Hp)(Q:VK):Prop:=
 ∃W:Nat->Nat->lg V->St->Hp->Prop,(∃m,W 0 m [] σ0 (upd H1 D .lst[[]]))/\∀i m acc σ' H',W i m acc σ' H'->H' D=sr .lst[acc]->
  (J.stop i H'/\Q .ref[D] H')\/(J.go i H'/\∀x H'',J.yld i H' x H''->g x σ' H'' λσ2 H2=>tt σ2 H2 λb H3=>if b=t8 then te σ2 H3 λy H4=>
   H4 D=sr .lst[acc]/\acc.length < sizeLine/\∃m',m' < m/\W[i+1][m'][acc ++ [y]][σ2][upd H4 D .lst[acc ++ [y]]]
   else H3 D=sr .lst[acc]/\∃m',m' < m/\W (i+1) m' acc σ2 H3)
def Agb(wi:TI)(g:TG)(tt:TT)(te:TE)(own:lg o8)(cap:lg Nat):TE:=λσ H Q=>wi σ H λJ H1=>∀D,H1 D=sy->Ai3 J g tt te D (At3 own cap σ) H1 Q
theorem Agc{h f B i:dY}(k:∀L o,B.get? L=sy->h.get? L=sr o->i.get? L=sy/\f.get? L=sr o):∀{l:lg Env},h.FunFrames B l->f.FunFrames i l
 |[],_=>trivial
 |_::_,⟨a,⟨L,o,b,c,d,e⟩,r⟩=>(a,(L,o,b,(k L o c d).1,(k L o c d).2,e),Agc k r)
def Apt{X:Cx}{use:o9[aG->Sem Unit]}{Q':aG->aO->Prop}{aa Y:lg[aL×o7]}{s3 s1 Q:aO}{σ σ1:St}{H3 H1:Hp}{E:St->XK}{scope:jR}{own:lg o8}{cap:lg Nat}{C D:aL}{fp:lg aL}{xe:aG->aO->Prop}{e:aG}(bj:X.stack=X.env::X.outer)(hfs:X.env.frame=sr X.env.locals)(hex:X.ex=[])(hp:Ai2 X E)(P:Inv X aa σ H3 s3)(i:Inv (X.compX scope own cap C s3 H3 fp xe) Y σ1 H1 s1)(hcx:CXo X.prog X.w X.stack H1 s1 E[σ] e Q)(hch:∀b∈fp,(b∈X.ex\/X.s₀.heap.objs.size<=b)/\b≠X.env.locals/\(∀x c,X.env.cells.lookup x=sr c->c≠b)/\∀p∈X.pn ++ aa,p.1≠b)(l:∀b o,s3.heap.get? b=sr o->b≠C)(hxe:xe=notedBy[model X.prog X.w][X.A][compEnvC scope (Kh X.env.cells scope.names []) C X.env] λx s'=>compPost (model X.prog X.w) X.A X.xe use Q' .ref[D] C .error[x] s'):xe e Q:=by
 let(t,cls,H5,o,rfl,F,ox,q):=hcx;let(B,a0,fl,k1,kE,k2):=F.fly;rw[hxe];show wpAny _ _ (noteFrame .ref[t] _) _ _ Q;rw[Akc (env':=compEnvC scope (Kh X.env.cells scope.names []) C X.env) (env:=X.env) rfl];let r:=fl;rw[bj] at r;let frC:H1 C=sy:=i.free;let(m,(oC,es,ep,O,rC),_):=i.loc;let O:s1.heap.get? C=sr oC:=O;let hCs:C∉frs X.stack:=λz=>by
  let(_,o',f,_):=P.stack.mem z;exact l C o' f rfl
 let CB:B.get? C=sr oC:=k1 C oC O frC hCs;let nC:∀{b:aL},B.get? b=sy->b≠C:=λz w=>by rw[w,CB] at z;cases z
 let H5C:H5 C=sy:=F.un.free C oC O frC (by simp)
 refine Bfy (by rw[P.ok.frames,bj]) hfs r.1 r.2.1 r.2.2.1 r.2.2.2.at ox λh4 d ox4 sm4=>?_
 let post:∃m,h4.Ns C m/\∀S,gD C h4 S->∀j:Env,j.locals=C->wpAny (model X.prog X.w) X.A (passOn "comprehension.variables-let-go" .ref[t] j:Sem aG) (λuu uu=>False) X.xe { Q with heap:=S }:=by
  refine(m,(oC,es,ep,d.1 C oC CB,rC),λS hsb j uu=>?_);let st:∀b,b≠C->S.get? b=h4.get? b:=λb n=>hsb.2 b n;let Z:∀{b:aL} {ob:o7},(jB B [C]).get? b=sr ob->B.get? b=sr ob/\b≠C:=λ{b ob} z=>(vI _ z,λw=>by
   rw[w,tV [C] (by simp)] at z;cases z)
  let nh:∀{b:aL},B.get? b=sy->(jB B [C]).get? b=sy:=λ{b} z=>by
   cases w:(jB B [C]).get? b with
   |none=>rfl
   |some ob=>rw[(Z w).1] at z;cases z
  let put:∀{b:aL} {ob:o7},B.get? b=sr ob->b≠C->(jB B [C]).get? b=sr ob:=λz n=>uN _ z (by simpa using n)
  let(oe,vs,T,oT,ts,q1,hc,dt,v1,nT,nTe,qT,dT,t3):=d.2.2.2;let tr':S.TracedAtW (jB B [C]) t cls a0 rawInt[X.env.locals]:=(oe,vs,T,oT,ts,(st t nC[d.2.1]).trans q1,hc,dt,v1,nh nT,nTe,(st T nC[nT]).trans qT,dT,t3);let ff':S.FunFrames (jB B [C]) X.stack:=by
   rw[bj];exact Agc (λL ob f h=>(nh f,(st L nC[f]).trans h)) d.2.2.1
  unfold PySem.passOn;refine aA (dI (s:={ Q with heap:=S }) ((st t nC[d.2.1]).trans q1) dt v1 ?_)
  rw[dq (show ¬ ((cV T==gJ)=t8) from by simp)]
  refine aA (Bbp (s:={ Q with heap:=S }) (o:=o) j.frame (λb ob z=>(st b (Z z).2).trans (d.1 b ob (Z z).1)) ff' tr' (λn od z=>?_) λg kg fg tg og smg=>xU ?_)
  .let(oe',vs',c1,c2):=ox4 n od z;exact(oe',vs',(st t nC[d.2.1]).trans c1,c2)
  let k:∀{b:aL} {ob:o7},B.get? b=sr ob->b≠C->g.get? b=sr ob:=λz n=>kg _ _ (put z n);let frm:∀{b:aL} {ob:o7},Q.heap.get? b=sr ob->b∈frs X.stack->∃sl,g.get? b=sr { ob with slots:=sl }:=λ{b ob} z hb=>by
   let(_,o',z',nf):=fl.2.2.1.mem hb;rw[z] at z';cases z';let(sl,f):=sm4 b ob z nf;let h:=(st b nC[(fl.2.2.1.mem hb).1]).trans f;let(sl',U):=smg b _ h nf;exact(sl',U)
  let I:∀{b:aL} {ob:o7},X.s₀.heap.get? b=sr ob->b∉fp:=λ{b ob} z hb=>by
   rcases(hch b hb).1 with w|w
   .rw[hex] at w;cases w
   .exact absurd[bC aU[z] w][eN _]
  let N:∀b,b∉X.ex:=λb z=>by rw[hex] at z;cases z
  let J:Inv X aa σ H5 { Q with heap:=g }:=by
   refine P.call' (ch:=fp) F.os.trans[i.os] (λb ob z n hb H=>?_,λb ob z n hb H=>?_,λb ob z n H=>?_,λb ob z H=>?_,λb xs z=>F.un.tups b xs (i.base.tups b xs z),λb ob u z=>F.un.frzs b ob u (i.base.frzs b ob u z),λb ps z=>?_) (λa u z=>?_) F.bare hch
   .exact k[k1 b ob (i.base.keep b ob z n hb H) (i.base.free b ob z n H) hb][l b ob z]
   .let(sl,f):=i.base.slot b ob z n hb H;let(sl2,h):=F.un.slot b _ f (i.base.free b ob z n H) hb (by simp)
    let(sl3,U):=frm h hb;exact(sl3,U)
   .let(o',f):=i.base.there b ob z H;exact F.un.free b o' f (i.base.free b ob z n H) (by simp)
   .by_cases hb:b∈frs X.stack
    .let(_,o'',h,_):=fl.2.2.1.mem hb;let(sl,U):=frm h hb;exact(_,U)
    .let(o',f):=i.base.there b ob z H;let(o'',h):=kE b o' f hb;exact(o'',k h (l b ob z))
   .let(m1,e1):=i.base.tbls b ps z;let(m2,e2):=F.un.tbls b _ e1;exact(m1 ++ m2,by rw[e2,pM])
   .refine(F.hok a u z).stay (λb v hb w=>?_) (λuu w=>w) λuu uu w=>w;rcases hb with rfl|hb
    .exact k (k2 b u v z w) (by rintro rfl;rw[H5C] at z;cases z)
    .exact k (k2 b _ v hb w) (by rintro rfl;rw[H5C] at hb;cases hb)
  refine hp aa σ H5 _ t cls o J F.fre ?_ (_,a0,_,kg,nh d.2.1,fg,tg,λb ob z n hb=>?_,λb ob z hb=>?_,λa u ob z w=>?_) og q
  .cases z:X.s₀.heap.get? t with
   |none=>rfl
   |some ob=>
    let(o1,f):=P.base.there t ob z N[t];let(o2,h):=i.base.there t o1 f I[z];rw[F.new] at h;cases h
  .let f:=P.base.keep b ob z n hb N[b];let n1:=P.base.free b ob z n N[b];let hb':=P.notStk z hb;exact put[k1 b ob (i.base.keep b ob f n1 hb' I[z]) (i.base.free b ob f n1 I[z]) hb'][l b ob f]
  .let(o1,f):=P.base.there b ob z N[b];let(o2,h):=i.base.there b o1 f I[z];let(o3,U):=kE b o2 h (P.notStk z hb);exact(o3,put U (l b o1 f))
  .let(o1,f):=(F.hok a u z).there;let h:=k2 a u o1 z f;let na:a≠C:=by rintro rfl;rw[H5C] at z;cases z
   let w:g.get? a=sr ob:=w;rw[k h na] at w;cases w;exact put h na
 cases use <;> exact post
def Ac3{f:lg Nat}(hX:(∀c o H,¬ E σ c o H)\/(X.stack=X.env::X.outer/\X.env.frame=sr X.env.locals/\X.ex=[]/\Ai2 X E))(hc:X.calm=t8)(hE:X.env.scope=es)(hi:PI X tg Y wi)(hg:∀C s H ex,PG (X.comp scope own f C s H ex) tg g)(ht:∀C s H ex,PTs (X.comp scope own f C s H ex) ifs tt)(he:∀C s H ex xe,Ec[CXo X.prog X.w][X.compX scope own f C s H ex xe][λuu=>E σ]->PE (X.compX scope own f C s H ex xe) elt te)(hcap:∀j∈f,∃x,X.N[j]?=sr x/\scope.names.lookup x=sr .free)(bc:scope.kind=.function:=by rfl)(ao:∀y∈scope.names,y.2≠.cell:=by decide)(az:∀y∈scope.names,y.2=.local->scope.names.lookup y.1=sr .local:=by decide)(hfree':∀y∈scope.names,y.2=.free->(es.names.lookup y.1=sr .cell\/es.names.lookup y.1=sr .free):=by decide +kernel)(hs:∀x,foldedSetIterable Y X.env x=pure x:=by intro _;rfl)(I:Inv X aa σ H s)(h:Agb wi g tt te own f σ H Q)(fin:∀(D C:aL)(s6:aO)(H5:Hp)(m:o8->o9 aG),(∀h',gD C s6.heap h'->Inv X aa σ H5 { s6 with heap:=h' })->s6.heap.Ns C m->Ae2 X aa H5 C->Q .ref[D] H5->
   compPost (model X.prog X.w) X.A X.xe use Q' .ref[D] C .ok[.next] s6):
  wpAny (model X.prog X.w) X.A (comprehension (.ListComp elt [(tg,Y,ifs,0)] scope pos) scope X.env p0 newList[[]] tu (eval Y X.env) use) Q' X.xe s:=by
 subst hE;let bf:∀y∈scope.names,y.2=.free->(X.env.kindOf y.1=sr .cell\/X.env.kindOf y.1=sr .free):=hfree';let hfr:∀x∈scope.names,x.2=.free->∃c,X.env.cells.lookup x.1=sr c:=λx hx hk=>I.ok.has x.1 (bf x hx hk);refine wpAny_comprehension_free (use:=use) rfl hs Aps[hfr] bc az (thn[hi aa s σ H _ I h] λv s1 h1=>thn h1 λitv l h2=>?_);let(it,P,tn,J,H2,rfl,I2,T,st2,f2,q):=h2;let hD2:H2 l.heap.objs.size=sy:=I2.hok.fresh aN[_];let(W,(m0,w0),turn):=q l.heap.objs.size hD2;refine dU ?_;let t:=I2.lnew (ys:=[]) (its:=[]) (t':=l.toks) .nil bI[_];generalize hs3:({ l with heap:=l.heap.push { cls:=.type "list",data:=.seq ([]:lg aG).toArray } }:aO)=F at t ⊢
 let fp3:∀b∈P,∃o,F.heap.get? b=sr o/\∀v,o.data≠.cell v:=λb hb=>by
  let(o,e,d):=T.obj _ _ st2 b hb;exact(o,by rw[<-hs3];exact aF _ e,d)
 let st3:tn 0 F.heap:=T.keep _ _ _ st2 λb uu o e=>by rw[<-hs3];exact aF _ e
 let hDl:l.heap.objs.size < F.heap.objs.size:=by rw[<-hs3];simp[fO]
 let fpD:∀b∈P,b≠l.heap.objs.size:=λb hb z=>by
  let(o,e,_):=T.obj _ _ st2 b hb;exact absurd aU[e] (by rw[z];exact eN _)
 refine wpAny_newFunctionEnv ao (by intro y hy;simp at hy) (λh₁ hns₁ Z=>?_) bc
 generalize hC:F.heap.objs.size=C at hns₁ Z hDl ⊢
 let old:∀b o,F.heap.get? b=sr o->h₁.get? b=sr o:=λb o e=>Z.extBut b o (by rw[<-hC];exact bZ aU[e]) (aF _ e)
 let ltC:∀{b:aL} {o:o7},F.heap.get? b=sr o->b≠C:=λe=>by rw[<-hC];exact bZ aU[e]
 let cellIn:∀x c,(Kh X.env.cells scope.names []).lookup x=sr c->X.env.cells.lookup x=sr c:=λx c e=>by
  rcases Aga scope.names [] x c hfr e with z|z
  .simp at z
  .exact z
 obtain⟨xe,hxe⟩:∃xe,xe=notedBy[model X.prog X.w][X.A][compEnvC scope (Kh X.env.cells scope.names []) C X.env] λx s'=>compPost (model X.prog X.w) X.A X.xe use Q' .ref[l.heap.objs.size] C .error[x] s':=(_,rfl)
 let k:∀b∈P,Ae2 X aa (upd H2 l.heap.objs.size .lst[[]]) b:=λb hb=>(by rw[Ao[fpD b hb]];exact(f2 b hb).1,(f2 b hb).2)
 let I4:Inv (X.compX scope own f C F (upd H2 l.heap.objs.size .lst[[]]) P xe) [] (At3 own f σ) (upd H2 l.heap.objs.size .lst[[]]) { F with heap:=h₁,toks:=F.toks+([]:lg[o8×aG]).length }:=by
  refine((I.ok.mod,bc,I.ok.glob,I.ok.blt,lR hC,λx y c h1 h2=>I.ok.inj x y c (cellIn x c h1) (cellIn y c h2),λx hx=>Wy _ _ x (Akd ao hx),λx c z=>absurd z (by show ¬ (tu=t8);decide),
   I.ok.hd,I.ok.frames,.inl rfl,λb hb=>(?_,λx c e=>(k b hb).2.2.2.2.1 x c (cellIn x c e)),t.bs,aH t.ok.bsz t.sz,λb o e hb=>?_,λb hb z=>?_,t.stack,t.stkFree),
   rfl,t.bare,Un.kept old,(_,hns₁,λi x v S U e3=>?_),λx c e=>?_,?_,λx c e=>t.freeC x c (cellIn x c e),λp hp=>absurd (show p∈([]:lg[aL×o7]) ++ [] from hp) (by simp),t.hok.kept old,?_)
  .let(o,e,_):=fp3 b hb;exact ltC e
  .rcases(k b hb).2.2.2.1 with z|z
   .exact I.ok.noex b o e z
   .exact absurd bC[aU e][aH I.ok.bsz z] eN[_]
  .exact(aV.mp[t.stkSub b z]).elim (k b hb).2.1 (k b hb).2.2.1
  .
   let hlen:(bO own.length (sy:o9 V)).length=own.length:=dC;by_cases hi:i < own.length
   .let U:(bO own.length (sy:o9 V) ++ f.map λj=>σ.getD j sy)[i]?=sr sr[v]:=U;rw[aY (by rw[hlen];exact hi),jW] at U
    split at U <;> cases U
   .let U:(bO own.length (sy:o9 V) ++ f.map λj=>σ.getD j sy)[i]?=sr sr[v]:=U;let S:(own ++ f.map λj=>X.N.getD j "")[i]?=sr x:=S;rw[aZ (by rw[hlen];omega),aX,hlen] at U
    rw[aZ (),aX] at S
    cases ej:f[i - own.length]? with
    |none=>rw[ej] at S;cases S
    |some j=>
     rw[ej] at S U;let(y,hy,hf):=hcap j dO[ej];let S:X.N.getD j ""=x:=cA S;let U:σ.getD j sy=sr v:=cA U;rw[cG,hy] at S;let S:y=x:=S;subst S;let e2':σ[j]?=sr sr[v]:=by
      rw[cG] at U;cases z:σ[j]? with
      |none=>rw[z] at U;cases U
      |some o=>rw[z] at U;exact congrArg sr U
     let hmem:(u6 y fD)∈scope.names:=by
      exact iH hf
     let(m,hn,hl):=t.loc;let hv:Vis X.env.scope y:=.inr[bf _ hmem rfl];let(u,ru,lk):=hl j y v hy e2' hv;refine(u,ru,.inr (Ake hf,?_));rcases lk with ⟨k1,_⟩|⟨_,c,hcc,hz⟩
     .rcases bf _ hmem rfl with k2|k2 <;> (let k2:X.env.kindOf y=_:=k2;rw[k1] at k2;cases k2)
     .let(c',hc'):=Wy (cells:=X.env.cells) scope.names [] y hmem;let ec:c=c':=cA hcc.symm.trans[cellIn y c' hc'];rw[<-ec] at hc';let(oc,ho,hd):=hz;exact(c,hc',oc,old c oc ho,hd)
  .let(v,o,ho,hd):=t.cell x c (cellIn x c e);exact(v,o,old c o ho,hd)
  .show upd H2 l.heap.objs.size .lst[[]] C=sy;rw[<-hC];exact t.hok.fresh aN[_]
  .show (bO own.length (sy:o9 V) ++ f.map λj=>σ.getD j sy).length=(own ++ f.map λj=>X.N.getD j "").length;simp
 let fpC:∀{L:Hp},(∀b∈P,L b=sy)->∀b∈P,Ae2 (X.compX scope own f C F (upd H2 l.heap.objs.size .lst[[]]) P xe) [] L b:=λhn b hb=>
  (hn b hb,(by let(o,e,_):=fp3 b hb;exact ltC e),λz=>(aV.mp[t.stkSub b z]).elim (k b hb).2.1 (k b hb).2.2.1,.inl hb,λx c e=>(k b hb).2.2.2.2.1 x c (cellIn x c e),λp hp=>absurd (show p∈([]:lg[aL×o7]) ++ [] from hp) (by simp))
 let hps:Ec[CXo X.prog X.w][X.compX scope own f C F (upd H2 l.heap.objs.size .lst[[]]) P xe] λuu=>E σ:=by
  intro pins1 σ1 H1 s1 e s5 I1 hcx;rcases hX with hX|⟨bj,hfs,hex,hp⟩
  .let(_,_,_,_,_,_,_,q):=hcx;exact(hX _ _ _ q).elim
  exact Apt bj hfs hex hp t I1 hcx (λb hb=>((k b hb).2.2.2.1,(k b hb).2.1,(k b hb).2.2.2.2.1,(k b hb).2.2.2.2.2)) (λb o e=>ltC e) hxe
 let loop:codeAny (model X.prog X.w) X.A .compLoop[.ListComp elt [(tg,Y,ifs,0)] scope pos][0][.ref it][.ref l.heap.objs.size][compEnvC scope (Kh X.env.cells scope.names []) C X.env]
   (compPost (model X.prog X.w) X.A X.xe use Q' .ref[l.heap.objs.size] C) { F with heap:=h₁,toks:=F.toks+([]:lg[o8×aG]).length }:=by
  refine Akg (N:=xe) (λn s'=>∃i O σ' L,Inv (X.compX scope own f C F (upd H2 l.heap.objs.size .lst[[]]) P xe) [] σ' L s'/\tn i s'.heap/\(∀b∈P,L b=sy)/\L l.heap.objs.size=sr .lst[O]/\W i n O σ' L) (λe s h=>by rw[hxe] at h;exact h) ?_ m0
   (0,[],_,_,I4,T.keep _ _ _ st3 λb uu o e=>old b o e,λb hb=>(k b hb).1,Am,w0)
  rintro n s5 ⟨i,O,σ5,H5,I5,st5,fr5,hD5,w5⟩;rcases turn i n O σ5 H5 w5 hD5 with ⟨stop,qn⟩|⟨go,step⟩
  .refine thn[T.done (X.compX scope own f C F (upd H2 l.heap.objs.size .lst[[]]) P xe) rfl rfl rfl hc i [] s5 σ5 H5 _ I5 fpC[fr5] st5 stop] λr s6 ⟨hr,I6⟩=>?_;subst hr;let(m,hn,_):=id I6.loc;let hCs:X.s₀.heap.objs.size<=C:=by rw[<-hC];exact t.sz
   let ltS:∀{b:aL} {o:o7},F.heap.get? b=sr o->b≠C:=ltC;refine fin _ C s6 H5 m (λh' hsb=>?_) hn (I6.free,?_,?_,.inr hCs,?_,?_) qn
   rotate_left
   .let(_,(o,_,_,ho,_),_):=t.loc;exact(ltS ho).symm
   .intro z;let(o',S):=t.base.there C _ (t.ok.funs.mem z).2.choose_spec.1 (λw=>t.ok.exfs C w z)
    exact ltS S rfl
   .intro x c e;let(_,o,ho,_):=t.cell x c e;exact ltS ho
   .intro p hp;exact ltS (t.pin p hp).1
   let neC:∀{b:aL} {o:o7},F.heap.get? b=sr o->b≠C:=ltC;let B:=I6.base;refine t.call' (s':={ s6 with heap:=h' }) (ch:=P) I6.os (λb o e n hb hx=>?_,λb o e n hb hx=>?_,B.free,λb o e hx=>?_,B.tups,B.frzs,B.tbls) (λa u e=>?_) I6.bare λb hb=>((k b hb).2.2.2.1,(k b hb).2.1,(k b hb).2.2.2.2.1,(k b hb).2.2.2.2.2)
   .exact(hsb.2 b neC[e]).trans (B.keep b o e n hb hx)
   .let(sl,S):=B.slot b o e n hb hx;exact(sl,(hsb.2 b neC[e]).trans S)
   .let(o',S):=B.there b o e hx;exact(o',(hsb.2 b neC[e]).trans S)
   .refine(I6.hok a u e).stay (λb v hb z=>(hsb.2 b ?_).trans z) (λuu z=>z) λuu uu z=>z;rintro rfl;let f0:H5 b=sy:=I6.free;rcases hb with rfl|hb
    .rw[f0] at e;cases e
    .rw[f0] at hb;cases hb
  .refine thn[T.item (X.compX scope own f C F (upd H2 l.heap.objs.size .lst[[]]) P xe) rfl rfl rfl hc i [] s5 σ5 H5 _ I5 fpC[fr5] st5 go] λr s6 ⟨u,hr,h6⟩=>?_;subst hr;refine thn h6 λ_ s7 ⟨x,H7,I7,r7,y7,st7,fr7⟩=>?_;let I7':=I7.pinned[fpC fr7][T.obj _ _ st7];refine thn[PG.nox (hg _ _ _ _) _ s7 σ5 H7 x u _ I7' r7 (step x H7 y7)] λ_ s8 ⟨σ8,H8,I8,q8⟩=>?_;refine thn[PTs.nox (ht _ _ _ _) _ s8 σ8 H8 _ I8 q8] λb s9 ⟨H9,I9,q9⟩=>?_;let again:∀{s':aO} {L:Hp} {acc':lg V} {m':Nat},Inv (X.compX scope own f C F (upd H2 l.heap.objs.size .lst[[]]) P xe) ([] ++ Afz P s7.heap) σ8 L s'->L l.heap.objs.size=sr .lst[acc']->m' < n->W (i+1) m' acc' σ8 L->
     ∃m,m < n/\∃i O σ' L,Inv (X.compX scope own f C F (upd H2 l.heap.objs.size .lst[[]]) P xe) [] σ' L s'/\tn i s'.heap/\(∀b∈P,L b=sy)/\L l.heap.objs.size=sr .lst[O]/\W i m O σ' L:=λ{s' L acc' m'} J hD hm hw=>by
    refine(m',hm,i+1,acc',σ8,L,J.unpinned,T.keep _ _ _ st7 λb hb o e=>(J.pin[u6 b o][cC _ cC[_][M5 hb e]]).1,λb hb=>?_,hD,hw);let(o,e,d):=T.obj _ _ st7 b hb;exact(J.pin[u6 b o][cC _ cC[_][M5 hb e]]).2.1
   cases b with
   |false=>
    rw[dq cR] at q9 ⊢
    let(hD9,m',hm,hw):=q9;exact again I9 hD9 hm hw
   |true=>
    rw[di rfl] at q9 ⊢
    refine thn[he _ _ _ _ _ hps _ s9 σ8 H9 _ I9 q9] λuy s10 ⟨y,H10,I10,r10,hD10,hl10,m',hm,hw⟩=>?_;refine thn (Aiy (X:=X.compX scope own f C F (upd H2 l.heap.objs.size .lst[[]]) P xe) _ s10 σ8 H10 .ref[l.heap.objs.size] [y] .ref[l.heap.objs.size] [uy]
     (λuu L=>L=upd H10 l.heap.objs.size .lst[O ++ [y]]) I10 rfl (.cons r10 .nil) (_,O,y,rfl,rfl,hD10,hl10,rfl)) λ_ s11 ⟨_,H11,I11,_,e11⟩=>?_
    subst e11;exact again I11 Am hm hw
 exact codeAny_compStart_list loop (T.self _ 0 _ _ _ (T.keep _ _ _ st3 λb uu o e=>old b o e) loop)
def Bhl(wi:TI)(g:TG)(tt:TT)(te:(St->XK)->TE)(E:St->XK)(own:lg o8)(cap:lg Nat):TE:=λσ H Q=>wi σ H λJ H1=>∀D,H1 D=sy->Ai3 J g tt (te λuu=>E σ) D (At3 own cap σ) H1 Q
def Bbq{a:lg Nat}(G:X.calm=t8)(L:X.env.scope=n)(hi:PI X l d p)(B:∀C s H ex,PG (X.comp scope own a C s H ex) l g)(v:∀C s H ex,PTs (X.comp scope own a C s H ex) f q)(F:∀C s H ex,PE (X.comp scope own a C s H ex) k r)(e:∀j∈a,∃x,X.N[j]?=sr x/\scope.names.lookup x=sr .free)(P:scope.kind=.function:=by rfl)(T:∀y∈scope.names,y.2≠.cell:=by decide)(S:∀y∈scope.names,y.2=.local->scope.names.lookup y.1=sr .local:=by decide)(b:∀y∈scope.names,y.2=.free->(n.names.lookup y.1=sr .cell\/n.names.lookup y.1=sr .free):=by decide +kernel)(w:∀x,foldedSetIterable d X.env x=pure x:=by intro _;rfl):
  PE[X][.ListComp k [(l,d,f,0)] scope pos][Agb p g q r own a]:=(λaa s Z H Q I h=>Ac3 (E:=λc c c c=>False) (.inl λc c c z=>z) G L hi B v (λC s H ex xe c=>PE.nox[F C s H ex]) e P T S b w I h λD C s6 Y m J A c t=>(m,A,λO i=>(.ref D,Y,J O i,rfl,t)))
def Bbr{i:Nat}{f:lg Nat}(hc:X.calm=t8)(hE:X.env.scope=es)(hi:PI X P d wi)(hg:∀C s H ex,PG (X.comp scope own f C s H ex) P g)(ht:∀C s H ex,PTs (X.comp scope own f C s H ex) A tt)(he:∀C s H ex,PE (X.comp scope own f C s H ex) L te)(G:∀j∈f,∃x,X.N[j]?=sr x/\scope.names.lookup x=sr .free)(bc:scope.kind=.function)(ao:∀y∈scope.names,y.2≠.cell)(az:∀y∈scope.names,y.2=.local->scope.names.lookup y.1=sr .local)(k:∀y∈scope.names,y.2=.free->(es.names.lookup y.1=sr .cell\/es.names.lookup y.1=sr .free))(hs:∀x,foldedSetIterable d X.env x=pure x)(hy:PG X (.Name y py) Aa8[i])(T:swapsWith (.ListComp L [(P,d,A,0)] scope S) sr[.Name y py] n.line X.env=pure t8):
  PS X .Assign[[.Name y py]][.ListComp L [(P,d,A,0)] scope S][n] Bgy[Agb wi g tt te own f][Aa8 i]:=by
 intro aa s σ H D I h;rw[exec_Assign_Name_used _ _ _ _ T];refine aA oH[aA[?_]];refine aA (eF (Ac3 (Q':=λc s'=>SP X aa D .next s') (E:=λc c c c=>False) (.inl λc c c z=>z) hc hE hi hg ht (λC s H ex xe c=>PE.nox[he C s H ex]) G bc ao az k hs I h λD' C Q H5 m J hn fp qn=>?_) (λc s' q=>aJ aJ[q]) λc c z=>z);let I6:Inv X aa σ H5 Q:=J Q.heap (rfl,λc c=>rfl);let(t,Y,Z,B,F,rC):=id hn;let nc:∀v,t.data≠.cell v:=λv z=>by rw[F] at z;cases z
 let I6p:=I6.pinned (fp:=[C]) (λb hb=>by obtain rfl:=aK.mp hb;exact fp) (λb hb=>by obtain rfl:=aK.mp hb;exact(t,B,nc))
 refine thn[hy _ Q σ H5 .ref[D'] .ref[D'] _ I6p rfl qn] λ_ p ⟨σ7,H7,l,q7⟩=>?_;let pC:=l.pin[u6 C t][cC _ cC[_][M5 aK.mpr[rfl] B]];let U:p.heap.get? C=sr t:=pC.1;let l:=l.unpinned;refine(m,(t,Y,Z,U,F,rC),λh' e=>(σ7,H7,?_,q7));let w:∀{b:aL} {u:HO},H7 b=sr u->b≠C:=λq=>Bf q pC.2.1;refine l.step (s:=p) (g':=p.gens) (d':=p.drawn) (t':=p.toks) (h':=h') (ch:=[C]) (λb hb=>by obtain rfl:=aK.mp hb;exact(fp.2.2.2.1,fp.2.1,fp.2.2.2.2.1,fp.2.2.2.2.2))
  (λb o c c hb q c=>(e.2 b (λz=>hb aK.mpr[z])).trans q) (λb o c c hb q c=>(o.slots,(e.2 b (λz=>hb aK.mpr[z])).trans q)) (λc c c c q=>q)
  (λb o hb q=>(o,(e.2 b (λz=>hb aK.mpr[z])).trans q)) (λc c q=>q) (λc c c q=>q) (λb ps q=>(#[],by rw[pU];exact q)) (λm' hm=>?_) (λa u q=>?_) l.bare
 .let(o,e1,e2,ho,r):=hm;exact(o,e1,e2,(e.2 _ (λz=>fp.2.1 z.symm)).trans ho,r)
 .refine(l.hok a u q).stay (λb v hb z=>(e.2 b ?_).trans z) (λc z=>z) λc c z=>z;rcases hb with rfl|hb
  .exact w q
  .exact w hb
mutual
inductive DV(H:Hp):V->kO->Prop
 |non:DV H .non .none
 |bl (b:Bool):DV H (.bl b) (.bool b)
 |int (i:Int):DV H (.int i) (.int i)
 |str (x:o8):DV H (.str x) (.str x)
 |lst {a:aL} {vs:List V} {ds:List kO}:H a=sr (.lst vs)->DVs H vs ds->DV H (.ref a) (.list ds)
 |tup {a:aL} {vs:List V} {ds:List kO}:H a=sr (.tup vs)->DVs H vs ds->DV H (.ref a) (.tuple ds)
 |dct {a:aL}:H a=sr (.dK [])->DV H (.ref a) (.dict [])
inductive DVs(H:Hp):List V->List kO->Prop
 |nil:DVs H [] []
 |cons {v:V} {d:kO} {vs:List V} {ds:List kO}:DV H v d->DVs H vs ds->DVs H (v::vs) (d::ds)
end
section
variable{X:Cx}{aa:lg (aL×o7)}{σ:St}{H:Hp}{s:aO}
mutual
theorem DV.reads(I:Inv X aa σ H s):∀{v:V} {d:kO} {u:aG},DV H v d->RelV v u->∃j,Reads s.heap u d j
 |_,_,_,.non,r=>by cases r;exact(_,.none)
 |_,_,_,.bl b,r=>by cases r;exact(_,.bool b)
 |_,_,_,.int i,r=>by let(t,rfl):=r;exact(_,.int i t)
 |_,_,_,.str x,r=>by let(t,rfl):=r;exact(_,.str x t)
 |_,_,_,.lst h q,r=>by
  cases r;let(_,g,n,a,e):=I.hok _ _ h;let(j,f):=DVs.reads I q a;exact(_,.list e rfl rfl (by simpa using f))
 |_,_,_,.tup h q,r=>by
  cases r;let(_,g,a,o,e,c,n,d):=I.hok _ _ h;let(j,f):=DVs.reads I q a;exact(_,.tuple e c d (by simpa using f))
 |_,_,_,.dct h,r=>by
  cases r;let(_,_,m,a,o,k,w,e,x,d,_,p,_):=I.hok _ _ h;cases a;let z:k.toList=[]:=by
   revert p;generalize k.toList=l;intro p;cases p;rfl
  exact(_,.dict e x.1 d (by rw[z];exact .nil) (by rw[z];exact .nil))
theorem DVs.reads(I:Inv X aa σ H s):∀{b:lg V} {d:lg kO} {c:lg aG},DVs H b d->Vals b c->∃e,ReadsAll s.heap c d e
 |_,_,_,.nil,.nil=>(_,.nil)
 |_,_,_,.cons h q,.cons r t=>by
  let(e,g):=DV.reads I h r;let(bs,f):=DVs.reads I q t;exact(_,.cons g f)
end
end
structure Ae5(K:aD)(C:aL):Prop where
 cls:(uZ K C).isSome=t8
 ga:cN K (.ref C) "__getattribute__"=sr (sr (.builtin "BaseException.__getattribute__"))
 gn:cN K (.ref C) "__getattr__"=sr sy
 cl:cN K (.ref C) "__class__"=sr (sr (.builtin "object.__class__"))
 mb:mJ K C (.type "BaseException")=sr t8
 mo:mJ K C (.type "object")=sr t8
section
variable{prog:cF}{w:dG}{A:fJ}{E:aG->aO->Prop}{h:dY}{g:Array yR}{d:aCu}{t:Nat}{os:OsState}{a C:aL}{o:o7}{K:aD}
open PySem.W in
def Apu(i:K.In h)(j:Ae5 K C)(c:h.get? a=sr o)(e:o.cls=.ref C)(k:R .ok[.ret[.ref[C]]] (h,g,d,t,os)):
  codeAny (model prog w) A (.call .builtin["getset_descriptor.__get__"] ([.builtin "object.__class__",.ref a,.ref C],[])) R (h,g,d,t,os):=by
 let b:((h,g,d,t,os):aO).TypeIs .builtin["object.__class__"] "getset_descriptor":=nU;let f:Looks (model prog w) h (isSubtype .ref[C] .type[".".intercalate ("object.__class__".cutAt '.').dropLast]) t8:=by rw[F.owner_object_class];exact looks_mroIn i j.mo
 refine iD vA.plain F.entry_gs_get (vA.check _ _ _ _ _ _ _ _ b (F.args_gs_get _ _ _) ?_)
 repeat (any_goals (first|assumption|(with_reducible refine jJ c ?_;rw[e])|with_reducible refine f.at ?_|wp_step))
 refine(pW _ (),iG F.entry_object_class ?_)
 repeat (any_goals (first|assumption|(with_reducible refine jJ c ?_;rw[e])|wp_step))
open PySem.W in
def Aba(i:K.In h)(j:Ae5 K C)(b:h.get? a=sr o)(e:o.cls=.ref C)(c:Q u9 (h,g,d,t,os)):
  wpAny M A (checkBuiltinCall "BaseException.__getattribute__" ([.ref a,nameV],[])) Q E (h,g,d,t,os):=by
 let hk:builtinKind "BaseException.__getattribute__"=sr .slot:=by decide +kernel
 let hsplit:splitId "BaseException.__getattribute__"=sr[u6 "BaseException" "__getattribute__"]:=by decide +kernel
 let f:Looks M h (isSubtype .ref[C] .type["BaseException"]) t8:=looks_mroIn i j.mb;let k:=F.args_bexc_ga .ref[a] nameV;simp only[checkBuiltinCall,hk,hsplit];refine aA ?_
 .unfold isInstance
  repeat (first|(with_reducible refine jJ b ?_;rw[e])|with_reducible refine f.at ?_|wp_step)
  exact c
open PySem.W in
def Akh{i:Tok}(e:K.In h)(f:Ae5 K C)(b:h.get? a=sr o)(c:o.cls=.ref C)(m:Q .done[.ret .ref[C]] (h,g,d,t,os)):
  wpAny (model prog w) A (kY.«object.__getattribute__» ([.ref a,.str "__class__" i],[])) Q E (h,g,d,t,os):=by
 let j:((h,g,d,t,os):aO).TypeIs .builtin["object.__class__"] "getset_descriptor":=nU;let l:Looks[model prog w][h][typeLookup .ref[C] "__class__"][sr .builtin["object.__class__"]]:=looks_findIn e f.cl;let q:=nU;let p:=vA.lookup;let n:=F.slot_gs_set.lookup
 repeat (any_goals (first|assumption|(with_reducible refine jJ b ?_;rw[c])|with_reducible refine l.at ?_|wp_step))
 refine Apu e f b c ?_
 repeat (any_goals (first|assumption|wp_step))
open PySem.W in
def At4{l:Tok}{fill b:Bool}{Q:aG->aO->Prop}(c:K.In h)(e:Ae5 K C)(i:h.get? a=sr o)(j:o.cls=.ref C)(s:Q .ref[C] (h,g,d,t,os)):
  wpAny (model prog w) A (getAttrBy .ref[a] (.str "__class__" l) fill b) Q E (h,g,d,t,os):=by
 let u:=nJ.ga.bind .ref[a];let n:(b&&onTheHeap iB["BaseException.__getattribute__"])=tu:=by cases b <;> rfl
 let f:(iB "BaseException.__getattribute__"==iB "object.__getattribute__")=tu:=by decide +kernel
 let m:(onTheHeap cV[C]&&iB "BaseException.__getattribute__"==iB "object.__getattribute__")=tu:=by rw[f];rfl
 let r:Looks[model prog w][h][typeLookup .ref[C] "__getattribute__"][sr .builtin["BaseException.__getattribute__"]]:=looks_findIn c e.ga;let q:Looks (model prog w) h (typeLookup .ref[C] "__getattr__") sy:=looks_findIn c e.gn
 repeat (any_goals (first|assumption|(with_reducible refine jJ i ?_;rw[j])|with_reducible refine r.at ?_|with_reducible refine q.at ?_|wp_step))
 refine iD nJ.ga.plain yF (Aba c e i j (Akh c e i j ?_))
 repeat (any_goals (first|assumption|wp_step))
open PySem.W in
def Amt{Q:o9 aG->aO->Prop}(e:K.In h)(f:Ae5 K C)(b:h.get? a=sr o)(c:o.cls=.ref C)(i:Q sr[.ref[C]] (h,g,d,t+1,os)):
  wpAny (model prog w) A (getAttr? .ref[a] "__class__") Q E (h,g,d,t,os):=by
 unfold getAttr? getAttrBy?
 repeat (any_goals (first|assumption|with_reducible apply At4 e f b c|wp_step))
open PySem.W in
set_option tactic.hygienic true in
theorem Awm(r:Ae5 K C):KitX K .ref[a] .ref[C] (λh=>∃o x,h.get? a=sr o/\o.cls=.ref C/\o.data=.fields x) where
 ty:=λ_ _ _ ⟨o,_,h1,h2,_⟩=>h2 ▸ (Looks.ld h1).andThen .now
 it:=λu u X u=>by
  let(m,b):=mK.mp r.cls;unfold clsIn at b;split at b
  .rename_i D B p c i;intro L I J G k q;unfold isType loadHead;exact aA[yV k[_][_][X _ _ i] aJ[q]]
  .cases b
 ne:=λh tp H y n F X f=>by
  let(m,b):=mK.mp r.cls;refine jK.mpr λq=>?_;let e:C=tp:=aAe beq_iff_eq.mp[q];subst e;unfold clsIn at b;split at b
  .rename_i D B p c i;let z:=(X _ _ i).symm.trans f;cases z
  .cases b
 ca:=λ{_ _ _ _ _ s} X ⟨o,_,h1,h2,_⟩ k=>by let(h,g,d,t,os):=s;exact Amt X r h1 h2 k
end
inductive TyX(K:aD)(H:Hp):V->aG->Prop
 |of {x:V} {t:aG}:Ac0 K H x t->TyX K H x t
 |exc {a C:aL} {o:Option (Nat×Option aL)}:H a=sr (Apq a (.ref C) o)->Ae5 K C->TyX K H (.ref a) (.ref C)
section
variable{X:Cx}{aa:lg (aL×o7)}{σ:St}{H:Hp}{s:aO}
def Bbs{o:o9[Nat×o9 aL]}(I:Inv X aa σ H s)(e:H a=sr[Apq a .ref[C] o]):∃o b,s.heap.get? a=sr o/\o.cls=.ref C/\o.data=.fields b:=by
 let(p,_,_):=(I.hok a _ e);exact p.1
def Bbt:V->o9 aG
 |.ty n=>sr .type[n]
 |.ref a=>sr .ref[a]
 |_=>sy
def Awn(h:Bbt c=sr a)(r:RelV c u):u=a:=by
 cases c <;> simp[Bbt] at h <;> subst h <;> exact r
end
def Its(x:o8):It:=(λi uu=>i < x.cps.size,λi H v H'=>H'=H/\∃c,x.cps[i]?=sr c/\v=.str ⟨#[c]⟩,λi uu=>i=x.cps.size)
theorem Amu{P:cF}{w:dG}{K:aD}{S:cM}(a:aL)(ty:String)(x:o8)(t:Tok)(q:["enumerate","zip","dict_itemiterator","dict_reverseitemiterator","odict_iterator","itertools.zip_longest","itertools.pairwise"].contains ty=tu)(W:∀A:fJ,A.handled=sy->aCx P w A a [a] [a] x.cps.size SignAt[x] (λi h=>h.IsStrIter a ty x t i))(hself:∀(A:fJ)(i:Nat)(s:aO)(Q:aG->aO->Prop)(E:aG->aO->Prop),s.heap.IsStrIter a ty x t i->Q .ref[a] s->wpAny (model P w) A pyIter[.ref[a]] Q E s):
  Turn P w K S Its[x] [a] a (λi h=>h.IsStrIter a ty x t i) where
 mem:=by simp
 obj:=λi h st b f=>by
  let e:b=a:=by simpa using f
  subst e;let(o,e,c,d):=st;exact(o,e,λv z=>by rw[d] at z;cases z)
 keep:=λi h l st k=>let ⟨o,e,r⟩:=st;(o,k a (by simp) o e,r)
 item:=by
  intro X C p hK B i O s N H E I hf st j;subst C p hK;let(L,J,U,G,F,D):=hf a (by simp)
  refine(W X.A I.ok.hd[B]).item i s _ _ j st λv l m hv g n=>?_;let(c,u,y,rfl):=hv;let I1:Inv X O N H { s with heap:=l,toks:=m }:=I.turned (λb o f e=>n b o (by simpa using f) e) L J G F D
  let(o,e,T,d):=id g;exact(_,rfl,Aml (s:={ s with heap:=l,toks:=m }) e T d q (.str ⟨#[c]⟩,H,I1,(u,rfl),(rfl,c,y,rfl),g,λb f=>(hf b f).1))
 done:=by
  intro X C p hK B i O s N H E I hf st j;subst C p hK;let j:i=x.cps.size:=j;subst j;let(L,J,U,G,F,D):=hf a (by simp)
  refine(W X.A I.ok.hd[B]).done s _ _ st λl m n=>(rfl,I.turned (λb o f e=>n b o (by simpa using f) e) L J G F D)
 self:=hself
def Bnz(ts:TE):TI:=λσ H R=>ts σ H λv H1=>∃x,v=.str x/\R Its[x] H1
def Bhm{X:Cx}{p e:cM}{j:TE}(y:PE X e j):PI X p e Bnz[j]:=by
 intro m s i H R I h;refine thn[y m s i H _ I h] λv c ⟨z,H1,I1,r1,q1⟩=>?_;let(x,rfl,q):=q1;let(t,rfl):=r1;let n:∀o,Inv X m i H1 { c with heap:=c.heap.push o }:=λo=>I1.kept (t':=c.toks) λb u e=>aF _ e
 let l:∀b∈[c.heap.objs.size],_:=λb B=>by
  let e:b=c.heap.objs.size:=by simpa using B
  subst e;exact I1.fpOk aN[_] I1.hok.fresh[aN[_]]
 cases k:x.cps.all (· < 128)
 .refine wpAny_pyIter_wide k (c.heap.objs.size,[c.heap.objs.size],_,_,H1,rfl,n _,Amu _ "str_iterator" x t () (λA d=>Walks.strWide d _ x t) (λa a a a a st h=>wpAny_pyIter_striter_wide st h),(_,aR _ rfl,rfl,rfl),l,q)
 .refine wpAny_pyIter_ascii k (c.heap.objs.size,[c.heap.objs.size],_,_,H1,rfl,n _,Amu _ "str_ascii_iterator" x t () (λA d=>Walks.strAscii d _ x t) (λa a a a a st h=>wpAny_pyIter_striter_ascii st h),(_,aR _ rfl,rfl,rfl),l,q)
structure Awo(J:It)(xs:List V)(ok:Hp->Prop):Prop where
 go:∀i H,i < xs.length->ok H->J.go i H
 yld:∀i H x H',i < xs.length->J.yld i H x H'->ok H->H'=H/\xs[i]?=sr x
 stop:∀H,ok H->J.stop xs.length H
def Amv(S:Awo J d ok)(T:H1 D=sy)(n:St->Prop)(I:n q)(p:V->Bool)(f:V->V)(P:d.length<=sizeLine)(hok:∀c,ok[upd H1 D .lst[c]])(F:∀(i:Nat)(x:V)(k:St)(c:lg V)(A:St->V->Hp->Prop)(B:St->Hp->Prop),d[i]?=sr x->n k->(∀a,n a->p x=t8->A a f[x] (upd H1 D .lst[c]))->(∀a,n a->p x=tu->B a (upd H1 D .lst[c]))->
   g x k (upd H1 D .lst[c]) λa O=>z a O λb v=>if b=t8 then C a v λy N=>A a y N else B a v)(G:Q[.ref D][upd H1 D .lst[(d.filter p).map f]]):
  Ai3 J g z C D q H1 Q:=by
 refine(λi m c k H=>m=d.length - i/\i<=d.length/\n k/\c=((d.take i).filter p).map f/\H=upd H1 D .lst[c],(d.length,by simp,bI _,I,by simp,rfl),?_)
 rintro i m c k H ⟨rfl,hi,E,o,rfl⟩ _;by_cases h:i < d.length
 .refine .inr (S.go i _ h hok[_],λx t y=>?_);let(rfl,s):=S.yld i _ x t h y hok[_];let l:c.length < sizeLine:=by
   grind
  refine F i x k c _ _ s E (λa r hp=>(Am,l,d.length - (i+1),(),rfl,h,r,?_,?_)) (λa r hp=>(Am,d.length - (i+1),(),rfl,h,r,?_,rfl))
  .rw[o,xJ p d i x s,di hp,cB];rfl
  .rw[Ba5]
  .rw[o,xJ p d i x s,hp];simp
 .let e:i=d.length:=by omega
  subst e;rw[fX] at o;subst o;exact .inl (S.stop _ hok[_],G)
def Bhn(h:R t8 H):Akf σ H R:=h
def Amw(S:Awo J k ok)(u:H1 D=sy)(e:St->Prop)(w:e j)(f:V->V)(r:k.length<=sizeLine)(hok:∀b,ok[upd H1 D .lst[b]])(t:∀(i:Nat)(x:V)(d:St)(b:lg V)(A:St->V->Hp->Prop)(R:St->Hp->Prop),k[i]?=sr x->e d->(∀a,e a->A a f[x] (upd H1 D .lst[b]))->(∀a m,p a m (λy C=>A a y C)->R a m)->g x d (upd H1 D .lst[b]) R)(E:Q[.ref D][upd H1 D .lst[k.map[f]]]):Ai3 J g Akf p D j H1 Q:=by
 refine Amv S u e w _ f r hok (λi x d b A B s l v n=>t i x d b A _ s l (λa q=>v a q rfl) λa m h=>Bhn App[h]) ?_
 .rw[gQ.mpr[λn n=>rfl]];omega
section
variable{X:Cx}
theorem Afh:∀{b:lg o8} {c:lg aG},Vals b.map[V.str] c->mU c b
 |[],_,h=>by cases h;exact .nil
 |y::r,_,h=>by
  cases h with
  |cons e d=>
   let(t,rfl):=e;exact .cons y t Afh[d]
end
structure Xv(K:aD)(mg:o8->Option aG)(x:o8)(st:cQ)(ps:List o8)(f:aL)(fd:eU):Prop where
 fn:Fun K x x st f fd
 gl:mg x=sr (.ref f)
 bd:Binds K fd ps []
section
def Fun.okX{P:cF}{w:dG}{K:aD}{mg:o8->o9 aG}{base:dY}{i:Bool}{x j:o8}{st:cQ}{f:aL}{fd:eU}{N ps:lg o8}{k:Nat}{e:Sp}(F:Fun K x j st f fd)(S:Hn N ps Ac[st])(len:∀c H Q E,e c H Q E->c.length=ps.length)(hbody:∀(a:aG)(A:fJ)(outer:lg Env)(s:aO)(H:Hp)(c:lg V)(Q:VK)(E:XK),Ia k A.deeper[envOfC j Ac[st] s.heap.objs.size f a] i->e c H Q E->
   ∃t,PSs (Ac1 (CXo P w) P w K mg base N j Ac[st] f a A outer s H E i) Ah[st] t/\t { nx:=λv r=>Q .non r,rt:=Q } (start N c) H):Ke P w K mg base (CXo P w) (k+1) f fd ps e i:=by
 let(B,z,C,kV,p,y,D,a,ct,m,rfl,n,h):=F.ex;exact Bk8 n h S len λA outer s H c Q E o g=>hbody a A outer s H c Q E o g
def Bbu:Ec[CXo P w][X][λuu=>E0]:=λ_ _ _ _ _ _ _ ⟨_,_,_,_,_,_,_,z⟩=>z.elim
end
section
variable{prog:cF}{w:dG}{A:fJ}{E:aG->aO->Prop}{s:aO}
def Bbv{T newId initId:String}{o p:kY}{a:lg aG}{k:lg[o8×aG]}{S:PySem.Spec}{Q Q₁:aG->aO->Prop}(i:TypeCalled T newId initId)(O:checkTypeCall T (a,k)=pure u9)(B:checkBuiltinCall newId (.type T::a,k)=pure u9)(z:entryFor table newId=sr o)(y:entryFor table initId=sr p)(g:aCy (o (.type T::a,k)) S)(h:S A.in1 (wants Q₁ E) s)(nx:∀obj b,Q₁ obj b->b.TypeIs obj T/\argsOk initId (obj::a,k)/\∃n,aCy (p (obj::a,k)) n/\n A.in1 wants[λr j=>r=.none/\Q obj j][E] b):
  wpAny (model prog w) A (call .type[T] a k) Q E s:=by
 let(c,D,N):=i.mro;let L:=i.made;let J:=i.sub;let I:=i.notType;let H:=i.canCreate;refine sH[tE (show wpAny _ _ (callAny .type[T] _) _ _ _ from aJ (pW _ (),iG wD ?_))]
 rw[vL[tK T a k][units_type_call_type T a k]]
 repeat (any_goals (first|assumption|wp_step))
 refine jH[iD i.plain z qO[B][g prog w A.in1 _ s h]] λr b d=>?_
 match r,d with
 |.error e,d=>exact d
 |.ok .next,d=>exact d.elim
 |.ok .brk,d=>exact d.elim
 |.ok .cont,d=>exact d.elim
 |.ok (.ret obj),d=>
  let(x,v,n,u,t):=nx _ _ d;let G:=i.init.lookup;let F:=i.init.bind obj
  repeat (any_goals (first|assumption|wp_step))
  refine jH iD[i.init.plain][y][i.init.check _ _ _ _ _ _ _ _ x v (u prog w A.in1 _ b t)] λl j f=>?_
  match l,f with
  |.error e,f=>exact f
  |.ok .next,f=>exact f.elim
  |.ok .brk,f=>exact f.elim
  |.ok .cont,f=>exact f.elim
  |.ok (.ret r),f=>
   let(rfl,q):=f
   repeat (any_goals (first|assumption|wp_step))
def Bho{T newId:String}{self a b:aG}(h:typeLookup .type[T] "__init__"=pure sr[.builtin["object.__init__"]])(g:Bind.madeBy .type[T]=pure sr[newId])(e:(sr newId != sr "object.__new__")=t8):
  aCy[kY.«object.__init__» ([self,a],[("start",b)])][λf R s=>s.TypeIs self T/\R .ok[.ret[.none]] s]:=by
 refine Meets.of_wp λprog w A R s ⟨hT,hq⟩=>?_
 repeat (any_goals (first|rfl|wp_step))
 exact(_,rfl,hq)
end
set_option tactic.hygienic true in
def Awp(x:o8)(t u:Tok):
  aCy (kY.«enumerate.__new__» ([.type "enumerate",.str x t],[("start",.int 1 u)])) (λe R s=>
   R (.ok (.ret (.ref (s.heap.push { cls:=.type strIterType[x],data:=.fields #[.str x t,.int 0 0] }).objs.size))) { s with heap:=(s.heap.push { cls:=.type strIterType[x],data:=.fields #[.str x t,.int 0 0] }).push { cls:=.type "enumerate",data:=.fields #[.none,.bool tu,.ref s.heap.objs.size,rawInt 1,.none,.none] } }):=(
 .of_wp λprog w A R s h=>by
  let(hp,g,d,f,os):=s;let i:=sub_enumerate
  wp_walk
  refine wpAny_stack_any λst=>aJ ?_;split
  .rename_i c _ _ _ _ _;cases (c==nY "enumerate") <;> (wp_walk using wF;exact(_,rfl,h))
  .wp_walk using wF
   exact(_,rfl,h))
section
variable{prog:cF}{w:dG}{A:fJ}{E:aG->aO->Prop}{s:aO}
def Bbw{x:o8}{t u:Tok}{Q:aG->aO->Prop}(h:∀a:dY,IsEnum a (s.heap.objs.size+1) s.heap.objs.size 1 .none->a.IsStrIter s.heap.objs.size strIterType[x] x t 0->(∀b o,s.heap.get? b=sr o->a.get? b=sr o)->Q .ref[s.heap.objs.size+1] { s with heap:=a }):
  wpAny (model prog w) A (call .type["enumerate"] [.str x t] [("start",.int 1 u)]) Q E s:=by
 refine Bbv (Q₁:=λobj c=>c.TypeIs obj "enumerate"/\Q obj c) pX (by rfl') (by rfl') F.entry_enumerate_new F.entry_object_init (Awp x t u) ?_
  λobj c d=>(d.1,by rfl',_,Bho pX.init.lookup pX.made (),d.1,rfl,d.2)
 let f:(s.heap.push { cls:=.type strIterType[x],data:=.fields #[.str x t,.int 0 0] }).objs.size=s.heap.objs.size+1:=fO ..
 let e:=aR (s.heap.push { cls:=.type strIterType[x],data:=.fields #[.str x t,.int 0 0] }) (o:={ cls:=.type "enumerate",data:=.fields #[.none,.bool tu,.ref s.heap.objs.size,rawInt 1,.none,.none] }) rfl;rw[f] at e;show _/\_;rw[f];exact((_,e,rfl),h _ e (_,aF _ (aR _ rfl),rfl,rfl) λb o q=>aF _ (aF _ q))
def Bbx{M:Model}{g:Pos}{T:String}{x:Sem aG}{rest:lg[Bool×Sem aG]}{kws:lg[o9 o8×Sem aG]}{Q:aG->aO->Prop}(b:kws.all (·.1.isSome)=t8)(i:(((u6 tu x)::rest).any (·.1)||kws.any (·.1.isNone))=tu)(h:wpAny M A (spliced ((u6 tu x)::rest)) (λm j=>wpAny M A (evalAll (kws.map (·.2))) (λl e=>wpAny M A (call .type[T] m ((kws.filterMap (·.1)).zip l)) Q E e) E j) E s):
  wpAny M A (callWith g .type[T] [] ((u6 tu x)::rest) kws) Q E s:=by
 unfold callWith;refine aA (fW (eF (evalArgs_kw (Q:=λa e=>wpAny M A (call .type[T] a.pos a.kw) Q E e) b h) (λa j q=>aA oH[?_]) λf f q=>q));simp only[i];refine aA aJ[?_];exact aA[eF q (λr e n=>aA fW[wpAny_point[aJ[n]]]) λf f q=>q]
end
theorem Awq{prog:cF}{w:dG}{A:fJ}{b:aL}{d:lg aL}{n:Nat}{P:Nat->aG->Prop}{St:Nat->dY->Prop}(D:Draws prog w A b d n P St):
  Draws prog w A b d (n+1) (λi v=>P (i - 1) v) (λi h=>1<=i/\St (i - 1) h) where
 live:=λi h st=>D.live _ _ st.2
 frame:=λi h c st k=>(st.1,D.frame _ _ _ st.2 k)
 item:=λi s Q E hi st l=>by
  let(p,st):=st;refine D.item (i - 1) s Q E () st λx c f m j g=>l x c f m ((),?_) g
  rw[show i+1 - 1=i - 1+1 by omega]
  exact j
 done:=λs Q E st o=>D.done s Q E (by simpa using st.2) o
def Ite(x:o8):It:=(λi uu=>i < x.cps.size,λi H v H'=>∃c T,x.cps[i]?=sr c/\H T=sy/\v=.ref T/\H'=upd H T .tup[[.int[(i:Int)+1],.str ⟨#[c]⟩]],λi uu=>i=x.cps.size)
def Ai4{e g T:aL}{k:Int}{y:V}{u:aG}{tk i:Nat}(I:Inv X B C H s)(hf:∀b∈[e,g],Ae2 X B H b)(x:s.heap.objs.size<=T)(p:T∉[e,g])(a:∀b o,b∉[e,g]->s.heap.get? b=sr o->A.get? b=sr o)(t:vW A T #[.int k i,u])(E:RelV y u):
  Inv X B C (upd H T .tup[[.int k,y]]) { s with heap:=A,toks:=tk }/\∀b∈[e,g],upd H T .tup[[.int k,y]] b=sy:=by
 let L:=hf e (by simp)
 let J:=hf g (by simp)
 let f:H T=sy:=I.hok.fresh x;let w:∀b u,H b=sr u->b∉[e,g]:=λb u q c=>by rw[(hf b c).1] at q;cases q
 let l:∀{b:aL} {o:o7},s.heap.get? b=sr o->b≠T:=λq=>bZ[bC aU[q] x];refine(?_,λb c=>?_)
 .refine I.step (s:=s) (g':=s.gens) (d':=s.drawn) (ch:=[e,g]) (λb c=>?_) (λb o h h j q h=>a b o j q) (λb o h h j q h=>(o.slots,a b o j q)) (λb o h q n=>by rw[Ao l[q]];exact n)
   (λb o j q=>(o,a b o j q)) (λb D q=>by rw[Ao[Bf q f]];exact q) (λb o u q=>by rw[Ao[Bf q f]];exact q) (λb ps q=>(#[],by rw[Ao[Bf q f],q];simp)) (λm G=>?_) (λb u q=>?_) I.bare
  .let z:=hf b c;exact(z.2.2.2.1,z.2.1,z.2.2.2.2.1,z.2.2.2.2.2)
  .let(o,N,O,F,r):=G;exact(o,N,O,a _ o (λc=>(hf _ c).2.1 rfl) F,r)
  .by_cases c:b=T
   .subst c;rw[Am] at q;cases q;exact((show 2<=sizeLine by decide),_,.cons (i,rfl) (.cons E .nil),t)
   .rw[Ao c] at q;refine(I.hok b u q).stay (λd v hd z=>a d v ?_ z) (λd z=>by rw[Ao[Bf z f]];exact z) λd D z=>by rw[Ao[Bf z f]];exact z
    rcases hd with rfl|hd
    .exact w d u q
    .exact w d _ hd
 .rw[Ao (by rintro rfl;exact p c)]
  exact(hf b c).1
def Amx{e g:aL}{tk:Nat}(I:Inv X i j H s)(hf:∀b∈[e,g],Ae2 X i H b)(hk:∀b o,b∉[e,g]->s.heap.get? b=sr o->p.get? b=sr o):Inv X i j H { s with heap:=p,toks:=tk }:=by
 let h:∀b u,H b=sr u->b∉[e,g]:=λb u q f=>by rw[(hf b f).1] at q;cases q
 refine I.step (g':=s.gens) (d':=s.drawn) (ch:=[e,g]) (λb f=>?_) (λb o a a c q a=>hk b o c q) (λb o a a c q a=>(o.slots,hk b o c q)) (λb o a q n=>n)
  (λb o c q=>(o,hk b o c q)) (λb y q=>q) (λb o u q=>q) (λb ps q=>(#[],by rw[q];simp)) (λm l=>?_) (λb u q=>?_) I.bare
 .let z:=hf b f;exact(z.2.2.2.1,z.2.1,z.2.2.2.2.1,z.2.2.2.2.2)
 .let(o,t,w,k,r):=l;exact(o,t,w,hk _ o (λf=>(hf _ f).2.1 rfl) k,r)
 .refine(I.hok b u q).stay (λd v hd z=>hk d v ?_ z) (λa z=>z) λa a z=>z;rcases hd with rfl|hd
  .exact h d u q
  .exact h d _ hd
theorem Ai5{P:cF}{w:dG}{K:aD}{j:lg cM}{Y:Nat}{g:Pos}(e a:aL)(ty:String)(x:o8)(t:Tok)(d:e≠a)(D:∀A:fJ,A.handled=sy->Draws P w A a [a] x.cps.size (λi v=>∃c u,x.cps[i]?=sr c/\v=.str ⟨#[c]⟩ u) (λi h=>h.IsStrIter a ty x t i)):
  Turn P w K (.Tuple j Y g) Ite[x] [e,a] e (λi h=>(∃old,IsEnum h e a ((i+1:Nat):Int) old)/\h.IsStrIter a ty x t i) where
 mem:=by simp
 obj:=λi h st b hb=>by
  let((old,f),o,p,J,hd):=st;rcases aV.mp hb with rfl|hb
  .exact(_,f,λv z=>by
    let z':tW _=rH v:=z;cases z')
  .obtain rfl:b=a:=by simpa using hb
   exact(o,p,λv z=>by rw[hd] at z;cases z)
 keep:=λi h S st k=>by
  let((old,f),o,p,r):=st;exact((old,k e (by simp) _ f),o,k a (by simp) o p,r)
 item:=by
  intro X O L hK J i aa s σ H E I hf st C;subst O L hK;let W:=qP (A:=X.A) Awq[D X.A.in1 (show X.A.in1.handled=sy from I.ok.hd J)] e d (by simpa using d) (by simp)
  let((old,f),N):=st;refine W.item (i+1) s _ _ Nat.succ_lt_succ[C] ((old,f),lV bI[_],by simpa using N) λT vals S tk hv Z Q hM hk=>?_
  let(tk',xv,(c,u,l,rfl),rfl):=hv;let F:=W.apart _ _ _ hM;refine(_,rfl,W.go j Y g (i+1) T { s with heap:=S,toks:=tk } _ _ hM λh2 n B=>?_)
  let l:x.cps[i]?=sr c:=by simpa using l
  let(o,p,r):=Q;let z:=Ai4 (y:=.str ⟨#[c]⟩) (k:=((i+1:Nat):Int)) (tk:=tk) I hf Z F (λb o hb q=>B b o hb (hk b o hb q)) (o,B T o F p,r) (u,rfl);exact(.ref T,_,z.1,rfl,(c,T,l,I.hok.fresh Z,rfl,rfl),(n.1,by simpa using n.2.2),z.2)
 done:=by
  intro X O L hK J i aa s σ H E I hf st C;subst O L hK;let C:i=x.cps.size:=C;subst C;let W:=qP (A:=X.A) Awq[D X.A.in1 (show X.A.in1.handled=sy from I.ok.hd J)] e d (by simpa using d) (by simp)
  let((old,f),N):=st;exact W.done s _ _ ((old,f),lV bI[_],by simpa using N) λS tk hk=>(rfl,Amx I hf hk)
 self:=λG G G G G st h=>by
  let((old,f),_):=st;exact nM f h
def Awr(K:aD)(a:aL):It:=(λi H=>∃xs x,SqL K H a xs/\xs[i]?=sr x,λi H v H'=>∃x T,(∀xs,SqL K H a xs->xs[i]?=sr x)/\H T=sy/\v=.ref T/\H'=upd H T .tup[[.int (i:Int),x]],λi H=>∃xs,SqL K H a xs/\xs.length<=i)
theorem Apv{P:cF}{w:dG}{K:aD}{g:lg cM}{kt:Nat}{d:Pos}(e f a:aL)(B:e≠f)(U:a≠e)(S:a≠f):
  Turn P w K (.Tuple g kt d) (Awr K a) [e,f] e (λi h=>(∃old,IsEnum h e f (i:Int) old)/\h.IsListIter f a i) where
 mem:=by simp
 obj:=λi h st b hb=>by
  let((old,c),o,n,G,hd):=st;rcases aV.mp hb with rfl|hb
  .exact(_,c,λv z=>by
    let z':tW _=rH v:=z;cases z')
  .obtain rfl:b=f:=by simpa using hb
   exact(o,n,λv z=>by rw[hd] at z;cases z)
 keep:=λi h h' st k=>by
  let((old,c),o,n,r):=st;exact((old,k e (by simp) _ c),o,k f (by simp) o n,r)
 item:=by
  intro X Y N hK G i aa s σ H E I hf st Q;subst Y N hK;let(xs,x,F,L):=Q;let(j,J,p,hz):=I.list F;let(u,hu,ru):=J.get L;let W:=qP (A:=X.A) (Draws.list (prog:=X.prog) (w:=X.w) (A:=X.A.in1) (show X.A.in1.handled=sy from I.ok.hd G) f a S j.toArray) e B (by simp[B,U.symm]) (by simp)
  let((old,c),O):=st;refine W.item i s _ _ (by rw[bV];exact(aC.mp hu).1) ((old,c),O,p.isList) λT vals h' tk hv hT Z hM hk=>?_
  let(tk',xv,m,rfl):=hv;obtain rfl:u=xv:=by
   let z:j.toArray[i]?=sr u:=by simpa using hu
   rw[z] at m;exact cA m
  let C:=W.apart _ _ _ hM;refine(_,rfl,W.go g kt d i T { s with heap:=h',toks:=tk } _ _ hM λh2 l t=>?_)
  let(o,n,r):=Z;let z:=Ai4 (y:=x) (k:=(i:Int)) (tk:=tk) I hf hT C (λb o hb q=>t b o hb (hk b o hb q)) (o,t T o C n,r) ru;exact(.ref T,_,z.1,rfl,(x,T,λys hy=>by rw[I.list_inj hy F];exact L,I.hok.fresh hT,rfl,rfl),(l.1,l.2.1),z.2)
 done:=by
  intro X Y N hK G i aa s σ H E I hf st Q;subst Y N hK;let(xs,F,L):=Q;let(j,J,p,hz):=I.list F;let hl:=J.length;let((old,c),O):=st;refine wpAny_pyNext_enum_end I.ok.hd[G] c O p.isList (by simp;omega) λh' hk=>(rfl,Amx (tk:=s.toks) I hf λb o hb q=>hk b o (λz=>hb[by simp[z]]) q)
 self:=λD D D D D st h=>by
  let((old,c),_):=st;exact nM c h
def Bhp(K:aD)(ts:TE):TI:=λσ H R=>ts σ H λv H1=>∃a xs,v=.ref a/\SqL K H1 a xs/\R (Awr K a) H1
def Aws{X:Cx}{g:lg cM}{D:Nat}{d p f:Pos}{e:cM}{m:TE}(O:Gl X "enumerate")(N:X.mg "enumerate"=sy)(P:PE X e m)(u:starEach [e] X.env=[(tu,eval e X.env)]):
  PI[X][.Tuple g D d][.Call (.Name "enumerate" p) [e] [] f][Bhp X.K m]:=by
 intro S s B H R I h;let Q:PA X [e] (Amm m Bbe):=Aa9 P Af1 u;refine Call_[Aac I O N zM iR[thn[Q f S s B H (λl k=>match l with|[v]=>(∃a o,v=.ref a/\SqL X.K k a o/\R (Awr X.K a) k)|_=>False) I h] λZ c ⟨l,k,j,r,q⟩=>?_][u][rfl]]
 match l,q,r with
 |[v],⟨a,o,hx,hq,q⟩,r=>
  subst hx;let(y,rfl,C):=vals1 r;obtain rfl:y=cV a:=C;let(F,rv,pl,hz):=j.list hq;let(ol,n,_):=pl.isList;let t:=aU n;refine call_enumerate_list pl.isList λh' z G Y E=>nM z ?_;let w:∀b∈[c.heap.objs.size+1,c.heap.objs.size],c.heap.objs.size<=b:=λb i=>by simp at i;omega
  exact(_,[c.heap.objs.size+1,c.heap.objs.size],_,_,k,rfl,j.kept (t':=c.toks) E,Apv _ _ a oA[_] bZ[wG[t]] bZ[t],((_,z),G),λb i=>j.fpOk (w b i) j.hok.fresh[w b i],q)
def Bll(ts:TE):TI:=λσ H R=>ts σ H λv H1=>∃x,v=.str x/\R Ite[x] H1
def Bby{X:Cx}{m:lg cM}{kt j:Nat}{i p f d c:Pos}{e:cM}{G:TE}(hg:Gl X "enumerate")(hm:X.mg "enumerate"=sy)(he:PE X e G)(O:starEach [e] X.env=[(tu,eval e X.env)]:=by rfl):
  PI[X][.Tuple m kt i][.Call (.Name "enumerate" p) [e] [(sr "start",.Constant .int[1] j d,c)] f][Bll G]:=by
 intro B s D H R I h;let w:PA X [e] (Amm G Bbe):=Aa9 he Af1 O;let hk:PK X [(sr "start",.Constant .int[1] j d,c)] (Amm tC[.int[1]] Bbe):=Bbf Av4 λF F F F H Q I h=>wpAny_evalAll_nil ([],H,I,.nil,h);refine gZ[Aac I hg hm zM ?_];let l:=w f B s D H (λE C=>match E with|[v]=>(∃x,v=.str x/\R Ite[x] C)|_=>False) I h
 rw[O] at l ⊢
 refine Bbx rfl rfl (thn l λus Y ⟨E,C,I1,r,q⟩=>thn[hk f B Y D C (λN g=>N=[.int 1]/\g=C) I1 (rfl,rfl)] λws a ⟨N,g,I2,rz,n,e2⟩=>?_);subst n e2;let(z,rfl,u,rfl):=vals1 rz
 match E,q,r with
 |[v],⟨x,hx,q⟩,r=>
  subst hx;let(y,rfl,t,rfl):=vals1 r;refine Bbw λh' n o k1=>nM n ?_;let U:Inv X B D g { a with heap:=h' }:=I2.kept (t':=a.toks) k1
  let P:∀b∈[a.heap.objs.size+1,a.heap.objs.size],Ae2 X B g b:=λb hb=>by
   let k:a.heap.objs.size<=b:=by
    rcases aV.mp hb with rfl|hb
    .exact gU _
    .obtain rfl:b=_:=by simpa using hb
     exact aN _
   exact I2.fpOk k I2.hok.fresh[k]
  cases w:x.cps.all (· < 128)
  .rw[show strIterType x="str_iterator" from by unfold strIterType;rw[w];rfl] at o
   exact(_,[a.heap.objs.size+1,a.heap.objs.size],_,_,g,rfl,U,Ai5 _ _ "str_iterator" x t oA[_] (λA J=>Draws.strWide J _ x t),((_,n),o),P,q)
  .rw[show strIterType x="str_ascii_iterator" from by unfold strIterType;rw[w];rfl] at o
   exact(_,[a.heap.objs.size+1,a.heap.objs.size],_,_,g,rfl,U,Ai5 _ _ "str_ascii_iterator" x t oA[_] (λA J=>Draws.strAscii J _ x t),((_,n),o),P,q)
section
variable{X:Cx}
def Bhq:SlR X (λx lo hi H Q=>∃z,x=.str z/\z.length<=sizeLine/\Q .str[dN z lo hi] H):=by
 intro y s e H x v g f lo hi n Q I o r pl d h;let(z,rfl,p,q):=h;let(t,rfl):=o;refine("str",_,PySem.F.slot_str_getitem.lookup,zF _ _ _,?_);let a:∀(l u:o9[Int×Tok]),g=partValue l->f=partValue u->lo=l.map (·.1)->hi=u.map (·.1)->wpAny (model X.prog X.w) X.A getItem[.str z t][.ref n] (EP X y e Q) X.xe s:=by
  rintro l u rfl rfl rfl rfl;exact wpAny_getItem_str_slice (l:=l) (u:=u) (st:=sy) r rfl (post_val_or_str (aH (Txt.slice_le z (l.map (·.1)) (u.map (·.1))) p,λm k=>(.str _,H,I.tok k,(m,rfl),q)))
 cases pl with
 |none=>cases d with
  |none=>exact a sy sy rfl rfl rfl rfl
  |int j b=>exact a sy sr[u6 j b] rfl rfl rfl rfl
 |int i c=>cases d with
  |none=>exact a sr[u6 i c] sy rfl rfl rfl rfl
  |int j b=>exact a sr[u6 i c] sr[u6 j b] rfl rfl rfl rfl
end
def Bbz(sc:jR)(x:o8):Bool:=match sc.names.lookup x with
 |some .local=>t8
 |some .cell=>t8
 |some .free=>t8
 |_=>tu
def Apw(sc:jR)(x:o8):Bool:=match sc.names.lookup x with
 |some .local=>t8
 |some .cell=>t8
 |_=>tu
def Bhr(h:Bbz sc x=t8):Vis sc x:=by
 unfold Bbz at h;split at h
 .exact .inl ‹_›
 .exact .inr[.inl ‹_›]
 .exact .inr[.inr ‹_›]
 .cases h
def Awt(h:Apw sc x=t8):Loc sc x:=by
 unfold Apw at h;split at h
 .exact .inl ‹_›
 .exact .inr ‹_›
 .cases h
section
def At5(g:aD)(hK:X.K=g):Jk X .builtin["isinstance"] (λi H Q=>∃x c f t b,i=[x,c]/\TyX g H x t/\Bbt c=sr f/\jV g t f=sr b/\Q .bl[b] H):=by
 subst hK;intro o s l H i p Q I r h;let(x,c,f,t,b,rfl,ty,n,hk,q):=h;let(u,v,rfl,j,m):=vals2 r;obtain rfl:=Awn n m;let a:∀d,EP X o l Q .bool[b] { s with toks:=d }:=λd=>(.bl b,H,I.tok d,rfl,q)
 cases ty with
 |of ty=>exact Atu I j ty hk a
 |exc e k=>
  cases j;exact fB Awm[k] I.kIn (Bbs I e) hk (λz=>nomatch z) a
end
structure WE(X:Cx)(e:cM)(t:TE):Prop where
 un:PE X e t
structure WT(X:Cx)(e:cM)(t:TT):Prop where
 un:PT X e t
structure WW(X:Cx)(e:cM)(t:TT):Prop where
 un:PW X e t
structure WA(X:Cx)(es:List cM)(t:TA):Prop where
 un:PA X es t
structure WS(X:Cx)(st:cQ)(t:TS):Prop where
 un:PS X st t
structure WSs(X:Cx)(sts:List cQ)(t:TS):Prop where
 un:PSs X sts t
structure WG(X:Cx)(e:cM)(t:TG):Prop where
 un:PG X e t
structure WI(X:Cx)(tg e:cM)(t:TI):Prop where
 un:PI X tg e t
structure WTs(X:Cx)(es:List cM)(t:TT):Prop where
 un:PTs X es t
structure WO(X:Cx)(e:Option cM)(t:TO):Prop where
 un:PO X e t
structure WPs(X:Cx)(pos:Pos)(ks:List (Option cM))(vs:List cM)(trs:List (TE×TE)):Prop where
 un:PPs X pos ks vs trs
section
variable{X:Cx}{x:o8}{pos pos' p ak cpos:Pos}{a b c e o k v:cM}{es rest:lg cM}{sts:lg cQ}{st:cQ}{ta tb tc te to tl:TE}{t:TA}{tA tB':TT}{u u':TS}
def kv(i:Nat)(g:X.N[i]?=sr x:=by rfl')(hv:Bbz X.env.scope x=t8:=by rfl')(hd:(x==("__debug__":o8))=tu:=by rfl')(d:(x==("__classdict__":o8))=tu:=by rfl'):
  WE X (.Name x pos) Bgu[i]:=(⟨Bgv g Bhr[hv] hd d⟩)
def Bfz{v:V}{u:aG}(hm:X.mg x=sr u)(r:RelV v u)(hg:X.env.kindOf x=sr .globalImplicit:=by rfl')(hd:(x==("__debug__":o8))=tu:=by rfl'):WE X (.Name x pos) tC[v]:=⟨λuu uu uu H uu I h=>Aa7 I hg hm (v,H,I,r,h) hd⟩
def kop(l:OpR X binaryOp[j] r)(n:WE X a ta)(m:WE X b tb):WE[X][.BinOp a j b pos][tOp r ta tb]:=(⟨by
  intro w s d H Q I h;exact wpAny_BinOp[Bg2 n.un m.un I h λv u f x y A z i g q=>l w f d A x y v u Q z i g q]⟩)
def Bn0(q:WE X a ta)(n:WE X (.BoolOp .And (b::rest) pos) tb):WE[X][.BoolOp .And (a::b::rest) pos][Bkv ta tb]:=(⟨by
  intro g s f H Q I h;refine BoolOp_and[thn[q.un g s f H _ I h] λv l ⟨x,H1,I1,r1,d⟩=>?_];let(c,rfl,d):=d;cases r1;refine gM ?_;cases c with
  |true=>exact n.un g l f H1 Q I1 d
  |false=>exact(.bl tu,H1,I1,rfl,d)⟩)
def Bn1(ha:WE X a ta):WE X (.BoolOp op [a] pos) ta:=⟨λaa s σ H Q I hw=>BoolOp_one[ha.un aa s σ H Q I hw]⟩
def knot(i:WE X a ta):WE X (.UnaryOp .Not a pos) Bkw[ta]:=(⟨by
  intro j s f H Q I h;refine UnaryOp_[thn[i.un j s f H _ I h] λv n ⟨x,H1,I1,r1,d⟩=>?_];let(c,rfl,d):=d;cases r1;exact not_of[gM (.bl[!c],H1,I1,rfl,d)]⟩)
def kif(n:WT X c tA)(r:WE X a ta)(q:WE X b tb):WE[X][.IfExp c a b pos][tIf tA ta tb]:=(⟨by
  intro g s f H Q I h;refine wpAny_IfExp[thn[n.un g s f H _ I h] λd i ⟨H1,I1,q1⟩=>?_];cases d with
  |true=>exact r.un g i f H1 Q I1 q1
  |false=>exact q.un g i f H1 Q I1 q1⟩)
def kix(m:IxR X r)(w:WE X a ta)(n:WE X b tb)(l:Afe b:=by exact λf f=>rfl):WE[X][.Subscript a b pos][tOp r ta tb]:=(⟨by
  intro z s d H Q I h;exact Subscript_[Bg2 w.un n.un I h λv u g x y B A j i q=>m a b z g d B x y v u Q A j i q (l _ _)]⟩)
def Bn2(h:WA X es t):WE X (.List es pos) Bnw[t]:=(⟨by
  intro n s i H Q I m;refine wpAny_List_spliced[thn[h.un pos n s i H _ I m] λl d ⟨xs,H1,I1,r,z,q⟩=>(by rw[<-r.length];exact z,?_)]
  let hf:H1 d.heap.objs.size=sy:=I1.hok.fresh aN[_];refine(.ref d.heap.objs.size,upd H1 d.heap.objs.size .lst[xs],I1.laid (t':=d.toks) (λb u e=>aF _ e) aN[_] ?_,rfl,q _ hf);exact(z,l,0,r,aR _ rfl)⟩)
def Bn3{j:Nat}(h:WA X es t):WE X (.Tuple es j pos) Bnv[t]:=(⟨by
  intro w s i H Q I n;refine wpAny_Tuple_spliced[thn[h.un pos w s i H _ I n] λm d ⟨xs,H1,I1,r,z,q⟩=>(by rw[<-r.length];exact z,?_)]
  let hf:H1 d.heap.objs.size=sy:=I1.hok.fresh aN[_];refine(.ref d.heap.objs.size,upd H1 d.heap.objs.size .tup[xs],I1.laid (t':=d.toks) (λb u e=>aF _ e) aN[_] ?_,rfl,q _ hf);exact(z,m,r,(_,aR _ rfl,rfl,_,rfl))⟩)
def kbm{T:String}{name:o8}{id:String}{r:V->lg V->Hp->VK->Prop}(pa:PlainAttrs T)(slot:Slot T name id)(j:typeOf .builtin[id]=pure .type["method_descriptor"])(J:MtR X id r)(G:WE X o to)(N:WA X (e::es) t)(S:attributeBase o name X.env (eval o X.env)=eval o X.env:=by rfl')(g:((backTo cpos (starEach (e::es) X.env)).all (λx=>!x.1)&&(backToKw cpos (keywordEach [] X.env)).all (λx=>x.1.isSome)&&decide[(e::es).length+([]:lg iQ).length+(if ([]:lg iQ).isEmpty then 0 else 1) < 30])=t8:=by rfl')(U:(ak.endLine==cpos.line)=t8:=by rfl')(L:starEach (e::es) X.env=(u6 tu (eval e X.env))::starEach es X.env:=by rfl')(l:(backTo cpos (starEach es X.env)).any (·.1)=tu:=by rfl'):WE[X][.Call (.Attribute o name ak) (e::es) [] cpos][tBM X.K T r to t]:=by
 exact⟨by
   intro m s i H Q I h;refine wpAny_Call_method_late S g U rfl (thn[G.un m s i H _ I h] λv C ⟨x,H1,I1,r1,ty,q1⟩=>?_);let(P,O):=Bhd I1 r1 ty;refine(T,id,pa,slot,j,P,O,?_);let q:=N.un cpos m C i H1 _ I1 q1;rw[L] at q ⊢
   refine Calls.callWith_builtin (by show (tu||(backTo cpos (starEach es X.env)).any (·.1))=tu;rw[l] <;> rfl) Calls.evalArgs_plain[?_]
   exact thn q λA B ⟨vs,H2,I2,r2,q2⟩=>J m B i H2 x vs v A Q I2 r1 r2 q2⟩
def Bb0(h:WE X e te):WO X sr[e] Bk9[te]:=(⟨by
  intro l s d H Q I j;rw[evalPart_some];refine thn[h.un l s d H _ I j] λu r ⟨x,H1,I1,r1,q1⟩=>?_;let(i,rfl,q):=q1;let(t,rfl):=r1;exact(sr i,H1,I1,.int i t,q)⟩)
def Bhs{r:V->o9 Int->o9 Int->Hp->VK->Prop}{lo hi:o9 cM}{tl n:TO}{p2:Pos}(L:SlR X r)(P:WE X e te)(N:WO X lo tl)(hu:WO X hi n):WE X .Subscript[e][.Slice lo hi sy p2][pos] (tSl r te tl n):=(⟨by
  intro g s f H Q I h;refine Subscript_[thn[P.un g s f H _ I h] λv B ⟨x,H1,I1,r1,q1⟩=>?_];refine wpAny_Slice[thn[N.un g B f H1 _ I1 q1] λj z ⟨l,H2,I2,pl,q2⟩=>thn[hu.un g z f H2 _ I2 q2] λi d ⟨u,H3,I3,pu,q3⟩=>?_];rw[aAf];refine aJ ?_;let Y:Inv X g f H3 { d with heap:=d.heap.push { cls:=.type "slice",data:=.fields #[j,i,.none] } }:=I3.kept (t':=d.toks) λb ob q=>aF _ q
  let(T,id,S,J,O):=L g { d with heap:=d.heap.push { cls:=.type "slice",data:=.fields #[j,i,.none] } } f H3 x v j i l u d.heap.objs.size Q Y r1 (aCo ..) pl pu q3;show wpAny (model X.prog X.w) X.A (subscriptTail e (.Slice lo hi sy p2) v .ref[d.heap.objs.size]) (EP X g f Q) X.xe { d with heap:=d.heap.push { cls:=.type "slice",data:=.fields #[j,i,.none] } }
  exact zE (ops:=[.ref d.heap.objs.size,v]) J S O (by with_unfolding_all rfl)⟩)
def Bb1(hk:WE X k ta)(hv:WE X v tb)(B:WPs X pos A j f):WPs X pos (sr k::A) (v::j) ((u6 ta tb)::f):=(⟨λi s d H Q I h=>pairTrees_cons_walk (thn[hk.un i s d H _ I h] λu m ⟨x,H1,I1,rx,q1⟩=>thn[hv.un i m d H1 _ I1 q1] λN l ⟨y,H2,I2,ry,q2⟩=>
  thn[B.un i l d H2 _ I2 q2] λL O ⟨ps,H3,I3,rel,q3⟩=>((u6 x y)::ps,H3,I3,.cons (rx,ry) rel,q3))⟩)
def Bn4(q:WT X a tA)(n:WW X (.BoolOp .And (b::rest) pos) tB'):WW[X][.BoolOp .And (a::b::rest) pos][Bnj tA tB']:=(⟨by
  intro l g s d H Q I h;refine isTrue_and[thn[q.un g s d H _ I h] λc m ⟨H1,I1,q1⟩=>?_];cases c with
  |true=>exact n.un l g m d H1 Q I1 q1
  |false=>exact(H1,I1,q1)⟩)
def tor(q:WT X a tA)(n:WW X (.BoolOp .Or (b::rest) pos) tB'):WW[X][.BoolOp .Or (a::b::rest) pos][tOr tA tB']:=(⟨by
  intro l g s d H Q I h;refine isTrue_or[thn[q.un g s d H _ I h] λc m ⟨H1,I1,q1⟩=>?_];cases c with
  |true=>exact(H1,I1,q1)
  |false=>exact n.un l g m d H1 Q I1 q1⟩)
def Blm(f:WT X a tA):WW X (.BoolOp .And [a] pos) tA:=(⟨by
  intro i g s d H Q I h;refine isTrue_and[thn[f.un g s d H Q I h] λc j e=>?_];cases c with
  |true=>exact isTrue_and_nil e
  |false=>exact e⟩)
def Bn5(f:WT X a tA):WW X (.BoolOp .Or [a] pos) tA:=(⟨by
  intro i g s d H Q I h;refine isTrue_or[thn[f.un g s d H Q I h] λc j e=>?_];cases c with
  |false=>exact isTrue_or_nil e
  |true=>exact e⟩)
def tw(h:WW X a tA):WT X a tA:=⟨h.un _⟩
def kbi{id:String}{r:lg V->Hp->VK->Prop}(E:Jk X .builtin[id] r)(B:X.mg x=sy)(hv:bootBuiltins x=sr .builtin[id])(F:WA X (e::es) t)(C:X.env.kindOf x=sr .globalImplicit:=by rfl')(A:decide[x=("__name__":o8)]=tu:=by rfl')(f:(x==("__debug__":o8))=tu:=by rfl')(D:starEach (e::es) X.env=(u6 tu (eval e X.env))::starEach es X.env:=by rfl')(d:(backTo pos (starEach es X.env)).any (·.1)=tu:=by rfl'):
  WE[X][.Call (.Name x p) (e::es) [] pos][tCB r t]:=(⟨by
    intro l s i H Q I h;refine gZ[Aac I C B hv ?_ of_decide_eq_false[A] f];exact xK (thn[F.un pos l s i H _ I h] λq w ⟨vs,H1,I1,r1,q1⟩=>E l w i H1 vs q Q I1 r1 q1) D d⟩)
def Arl{i:Nat}(nd:decide X.N.Nodup=t8:=by rfl')(hi:X.N[i]?=sr x:=by rfl')(d:Apw X.env.scope x=t8:=by rfl')(hf:(X.fn x||decide[X.env.scope.names.lookup x=sr .local])=t8:=by rfl'):
  WG X (.Name x pos) Aa8[i]:=(⟨by
    intro m s j H v u Q I r h;exact wpAny_assign_Name (Amk I dg[nd] hi Awt[d] r (λl g=>(_,H,g,h)) (by
 rcases mC.mp hf with h|h
 .exact .inl h
 .exact .inr dg[h]))⟩)
def Bb2(w:X.mg "range"=sy)(z:WA X [a] t)(y:X.env.kindOf "range"=sr .globalImplicit:=by rfl')(n:starEach [a] X.env=[(tu,eval a X.env)]:=by rfl'):WI X tg (.Call (.Name "range" p) [a] [] pos) Bk0[t]:=(⟨by
  intro A s g H R I h;refine Call_[Aac I y w boot_range iR[thn[z.un pos A s g H _ I h] λD F ⟨vs,H1,I1,r1,d⟩=>?_][n][rfl]];let(j,e,d,m,q):=d;subst e;cases r1 with
  |cons r i=>
   cases i;let(t,rfl):=r;exact call_range_1[Av7 I1 () () d m (by simpa using q)]⟩)
def Bb3:WTs X [] Akf:=⟨λuu uu uu H uu I h=>wpAny_tests_nil (H,I,h)⟩
def Bht{z f B:cM}{l:lg cM}{scope:jR}{L:TI}{g:TG}{O:TT}{te:(St->XK)->TE}{E:St->XK}{own:lg o8}{d:lg Nat}{sc:jR}(hX:X.stack=X.env::X.outer/\X.env.frame=sr X.env.locals/\X.ex=[]/\Ai2 X E)(hc:X.calm=t8)(hE:X.env.scope=sc)(hi:WI X B f L)(hg:∀C s H ex,WG (X.comp scope own d C s H ex) B g)(U:∀C s H ex,WTs (X.comp scope own d C s H ex) l O)(he:∀C s H ex xe A,Ec[CXo X.prog X.w][X.compX scope own d C s H ex xe][A]->WE (X.compX scope own d C s H ex xe) z te[A])(r:d.all[λj=>match X.N[j]? with|some x=>decide[scope.names.lookup x=sr .free]|none=>tu]=t8)(bc:scope.kind=.function)(ao:scope.names.all[λy=>decide[y.2≠.cell]]=t8)(az:scope.names.all[λy=>!decide (y.2=.local)||decide[scope.names.lookup y.1=sr .local]]=t8)(bf:scope.names.all[λy=>!decide (y.2=.free)||(decide[sc.names.lookup y.1=sr .cell]||decide[sc.names.lookup y.1=sr .free])]=t8)(Y:∀x,foldedSetIterable f X.env x=pure x):
  WE[X][.ListComp z [(B,f,l,0)] scope pos][Bhl L g O te E own d]:=(
 ⟨by
   intro aa s P H Q I h;rw[eval_ListComp];exact Ac3 (use:=sy) (te:=te λS=>E P) .inr[hX] hc hE hi.un (λC s H ex=>(hg C s H ex).un) (λC s H ex=>(U C s H ex).un) (λC s H ex xe p=>(λC s H ex xe A p=>(he C s H ex xe A p).un) C s H ex xe _ p) (by
     intro j hj;let q:=bF.mp r j hj;cases e:X.N[j]? with
     |none=>rw[e] at q;cases q
     |some x=>rw[e] at q;exact(x,rfl,dg q)) bc (λy n=>dg[bF.mp ao y n]) (by
       intro y n G;let q:=bF.mp az y n;rw[dm G] at q;exact dg q) (by
         intro y n G;let q:=bF.mp bf y n;rw[dm G,rA,vB,fC] at q;exact q.imp dg dg) Y I h λD C s6 H5 m J Z S T=>(m,Z,λh' F=>(.ref D,H5,J h' F,rfl,T))⟩)
def Bn6{i:Nat}(m:WE X e te)(nd:decide X.N.Nodup=t8:=by rfl')(hi:X.N[i]?=sr x:=by rfl')(l:Apw X.env.scope x=t8:=by rfl')(j:swapsWith e sr[.Name x pos'] pos.line X.env=pure tu:=by rfl')(hf:X.fn x=t8:=by rfl'):WS[X][.Assign [.Name x pos'] e pos][Bgy te Aa8[i]]:=(⟨by
    intro n s d H D I h;refine wpAny_Assign_Name (thn[m.un n s d H _ I h] λv B ⟨y,H1,I1,r1,q1⟩=>?_) j;exact Amk I1 dg[nd] hi Awt[l] r1 (λA r=>(_,H1,r,q1)) .inl[hf]⟩)
def sif{tc:TT}{A B:lg cQ}(q:WT X c tc)(w:WSs X A u)(r:WSs X B u'):WS[X][.If c A B pos][Bnn tc u u']:=(⟨by
  intro g s f H D I h;refine wpAny_If[thn[q.un g s f H _ I h] λd i ⟨H1,I1,q1⟩=>?_];cases d with
  |true=>exact w.un g i f H1 D I1 q1
  |false=>exact r.un g i f H1 D I1 q1⟩)
end
section
variable{P:cF}{w:dG}{K:aD}{mg:o8->o9 aG}{base:dY}
def Fun.okW{g:Bool}{x h:o8}{st:cQ}{f:aL}{fd:eU}{N ps:lg o8}{k:Nat}{d:Sp}(F:Fun K x h st f fd)(S:Hn N ps Ac[st])(len:∀c H Q E,d c H Q E->c.length=ps.length)(hbody:∀(a:aG)(A:fJ)(outer:lg Env)(s:aO)(H:Hp)(c:lg V)(Q:VK)(E:XK),Ia k A.deeper[envOfC h Ac[st] s.heap.objs.size f a] g->d c H Q E->
   ∃t,WSs (Ac1 (CXo P w) P w K mg base N h Ac[st] f a A outer s H E g) Ah[st] t/\t { nx:=λr o=>Q .non o,rt:=Q } (start N c) H):Ke P w K mg base (CXo P w) (k+1) f fd ps d g:=(
 F.okX S len λa A outer s H c Q E m e=>by
  let(t,l,q):=hbody a A outer s H c Q E m e;exact(t,l.un,q))
end
open PySem.Builtin.SmallTypes in
structure Nx(P:cF)(w:dG)(i l:aL)(St:Nat->dY->Prop)(Sc:Array aG->dY->Prop):Prop where
 live:∀k h,St k h->∃o,h.get? i=sr o/\∀v,o.data≠.cell v
 keep:∀k h h',St k h->(∀o,h.get? i=sr o->h'.get? i=sr o)->St k h'
 src:∀xs h h',Sc xs h->(∀o,h.get? l=sr o->h'.get? l=sr o)->Sc xs h'
 item:∀(A:fJ)(k:Nat)(s:aO)(xs:Array aG)(x:aG)(Q:aG->aO->Prop)(E:aG->aO->Prop),St k s.heap->Sc xs s.heap->xs[k]?=sr x->(∀h',St (k+1) h'->gD i s.heap h'->Q x { s with heap:=h' })->
  wpAny (model P w) A (nextOf (.ref i)) Q E s
 done:∀(A:fJ)(k:Nat)(s:aO)(xs:Array aG)(Q:aG->aO->Prop)(E:aG->aO->Prop),A.handled=sy->St k s.heap->Sc xs s.heap->xs[k]?=sy->
  (∀h' e,aBw i s.heap h'->(∃o,h'.get? e=sr o/\o.cls=.type "StopIteration")->E (.ref e) { s with heap:=h' })->wpAny (model P w) A (nextOf (.ref i)) Q E s
section
variable{prog:cF}{w:dG}{A:fJ}{E:aG->aO->Prop}{s:aO}
open PySem.Builtin.SmallTypes in
def Bb4{k:Nat}(st:s.heap.IsTupleIter b l k)(i:s.heap.IsTuple l e)(g:e[k]?=sr x)(go:∀d,d.IsTupleIter b l (k+1)->gD b s.heap d->Q x { s with heap:=d }):wpAny (model prog w) A nextOf[.ref[b]] Q E s:=by
 let(q,hi,j,c):=id st;let(p,h,_,n,dt):=i;unfold nextOf;refine aA (cW (name:=lU "__next__") st.typeIs iV (cZ iV st.typeIs pF ?_ oO[_]));refine aA (m:=field .ref[b] 0) (dI hi c (x:=.ref l) rfl ?_);let f:¬ ((cV l==gJ)=t8):=cR;show wpAny _ _ (if (cV l==gJ)=t8 then _ else _) _ _ s
 rw[dq f];refine aA (m:=field .ref[b] 1) (dI hi c (x:=.int k 0) rfl (aA (m:=seqItems? .ref[l]) (gO h dt ?_)));simp only[dW,g];refine aA fP[hi][c][by simp][aJ (x,rfl,aJ[go _ (_,cY _ hi fH[cU c _],(lJ ..).trans j,?_) (gR ..)])]
 rw[cU c];simp[rawInt]
open PySem.Builtin.SmallTypes in
def Bb5{k:Nat}(q:A.handled=sy)(st:s.heap.IsTupleIter c l k)(p:s.heap.IsTuple l g)(i:g[k]?=sy)(go:∀d e,aBw c s.heap d->(∃o,d.get? e=sr o/\o.cls=.type "StopIteration")->E .ref[e] { s with heap:=d }):wpAny (model prog w) A nextOf[.ref[c]] Q E s:=by
 let(u,hi,v,f):=id st;let(t,j,_,n,dt):=p;unfold nextOf;refine aA (cW (name:=lU "__next__") st.typeIs iV (cZ iV st.typeIs pF ?_ oO[_]));refine aA (m:=field .ref[c] 0) (dI hi f (x:=.ref l) rfl ?_);let h:¬ ((cV l==gJ)=t8):=cR;show wpAny _ _ (if (cV l==gJ)=t8 then _ else _) _ _ s
 rw[dq h];refine aA (m:=field .ref[c] 1) (dI hi f (x:=.int k 0) rfl (aA (m:=seqItems? .ref[l]) (gO j dt ?_)));simp only[dW,i];refine aA oE[aA[fP hi f (by simp) ?_]]
 refine aA (m:=newExc .type["StopIteration"] []) ?_;simp only[newExc,newTuple];refine aA dU[?_][by size_fits]
 refine aA (m:=firstArgMember _ _) (qO (a:=gJ) (by first|rfl|(simp only[firstArgMember];rfl)) dU[?_][by size_fits])
 simp only[raiseNew];refine aA aAg[?_];rw[show A.in1.handled=sy from q];exact aA aJ[xU[go _ _ (((gR ..).extBut.push _).push _) (_,aR _ rfl,rfl)]]
theorem Awu(i l:aL):Nx P w i l (λk h=>h.IsTupleIter i l k) (λa h=>h.IsTuple l a) where
 live:=λk h st=>by let(o,c,_,hd):=st;exact(o,c,λv z=>by rw[hd] at z;cases z)
 keep:=λk h g st e=>st.at e
 src:=λa h g st d=>let ⟨o,c,r⟩:=st;(o,d o c,r)
 item:=λA k s a x Q E st sc b go=>Bb4 st sc b go
 done:=λA k s a Q E f st sc b go=>Bb5 f st sc b go
theorem Bb6(i l:aL):Nx P w i l (λk h=>h.IsListIter i l k) (λa h=>h.IsList l a) where
 live:=λk h st=>by let(o,e,_,hd):=st;exact(o,e,λv z=>by rw[hd] at z;cases z)
 keep:=λk h g st d=>st.at d
 src:=λa h g st c=>st.at c
 item:=λA k s a x Q E st sc b go=>wpAny_nextOf_list_item st sc b go
 done:=λA k s a Q E f st sc b go=>wpAny_nextOf_list_end f st sc b go
structure ZA(z TI TO i1 i2 l1 l2:aL):Prop where
 a:[z,TI,TO,i1,i2].Nodup
 b1:l1∉[z,TI,TO,i1,i2]
 b2:l2∉[z,TI,TO,i1,i2]
section
variable{St1 St2:Nat->dY->Prop}{Sc1 Sc2:Array aG->dY->Prop}{z TI TO i1 i2 l1 l2:aL}{k:Nat}{xs ys:Array aG}{x y a b:aG}
def ZA.ne(D:ZA z TI TO i1 i2 l1 l2):z≠TI/\z≠TO/\z≠i1/\z≠i2/\TI≠TO/\TI≠i1/\TI≠i2/\TO≠i1/\TO≠i2/\i1≠i2:=by
 let h:=D.a;simp_all
open PySem.Builtin PySem.Builtin.SmallTypes in
def Awv(B:Nx prog w i1 l1 St1 Sc1)(u:Nx prog w i2 l2 St2 Sc2)(D:ZA z TI TO i1 i2 l1 l2){Q:aG->aO->Prop}(j:tZ s.heap z TI TO .none)(O:oF s.heap TI .ref[i1] .ref[i2])(N:oF s.heap TO a b)(s1:St1 k s.heap)(s2:St2 k s.heap)(c1:Sc1 xs s.heap)(c2:Sc2 ys s.heap)(hx:xs[k]?=sr x)(hy:ys[k]?=sr y)(go:∀i,tZ i z TI TO rawInt[s.heap.objs.size]->oF i TO x y->St1 (k+1) i->St2 (k+1) i->oF i s.heap.objs.size x y->(∀c o,c∉[z,TO,i1,i2]->s.heap.get? c=sr o->i.get? c=sr o)->Q .ref[s.heap.objs.size] { s with heap:=i }):
  wpAny (model prog w) A («zip.__next__» ([.ref z],[])) (λP s'=>∃v,P=.done (.ret v)/\Q v s') E s:=by
 let(d1,H,X,U,d5,d6,d7,T,S,p):=D.ne;let b1:=D.b1;let b2:=D.b2;simp only[aV,cD,or_false,not_or] at b1 b2;refine aA (m:=field .ref[z] 2) (dI j rfl (x:=.bool tu) rfl (aA (m:=field .ref[z] 3) (dI j rfl (x:=.ref TI) rfl aA[gO O rfl ?_])));refine aA (m:=ownedTupleIsFree .ref[z]) ?_;unfold ownedTupleIsFree;refine aA (dI j rfl (x:=.none) rfl aJ[?_]);simp only[if_true];refine aA (oE (aA (dI j rfl (x:=.ref TO) rfl aA[iW j (by simp) λh1 J e1=>aA ?_])))
 let J:tZ h1 z TI TO .ellipsis:=J;simp only[xM,yG,tD,zN];refine aA (aA (rB (aA (m:=nextOf .ref[i1]) ?_)));let d:∀c o,c≠z->s.heap.get? c=sr o->h1.get? c=sr o:=λc o f q=>e1.extBut _ _ f q;refine B.item _ k _ xs x _ _ (B.keep _ _ _ s1 λo q=>d _ o X.symm q) (B.src _ _ _ c1 λo q=>d _ o b1.1 q) hx λh2 t2 G=>aJ ?_;let o2:oF h2 TO a b:=G.extBut _ _ T (d _ _ H.symm N);refine aA[gO o2 rfl aA[oM o2 λh3 L F=>aA xV[aJ[?_]]]];let L:oF h3 TO x b:=L;refine aA (aA (rB (aA (m:=nextOf .ref[i2]) ?_)));let e:∀c o,c≠z->c≠TO->c≠i1->s.heap.get? c=sr o->h3.get? c=sr o:=λc o q1 q2 q3 q=>F.extBut _ _ q2 (G.extBut _ _ q3 (d c o q1 q));refine u.item _ k _ ys y _ _ (u.keep _ _ _ s2 λo q=>e _ o U.symm S.symm p.symm q) (u.src _ _ _ c2 λo q=>e _ o b2.1 b2.2.2.1 b2.2.2.2.1 q) hy λh4 t4 n=>aJ ?_;let Z:oF h4 TO x b:=n.extBut _ _ S L;refine aA[gO Z rfl aA[oM Z λg t l=>aA xV[aJ[aJ[?_]]]]];let t:oF g TO x y:=t;refine aA[gO t rfl aA[zO[?_]]];let sz:g.objs.size=s.heap.objs.size:=by rw[l.1,n.1,F.1,G.1,e1.1]
 let Y:tZ g z TI TO .ellipsis:=l.extBut _ _ H (n.extBut _ _ U (F.extBut _ _ H (G.extBut _ _ X J)));let h:∀c o,c∉[z,TO,i1,i2]->s.heap.get? c=sr o->g.get? c=sr o:=λc o f q=>by
  simp only[aV,cD,or_false,not_or] at f;exact l.extBut _ _ f.2.1 (n.extBut _ _ f.2.2.2 (e c o f.1 f.2.1 f.2.2.1 q))
 let zl:z < g.objs.size:=aU Y;refine aA (m:=ownedTupleHandOut .ref[z] .ref[g.objs.size]) ?_;unfold ownedTupleHandOut;let z6:tZ (g.push { cls:=.type "tuple",data:=.seq #[x,y] }) z TI TO .ellipsis:=aF _ Y;refine aA[iW z6 (by simp) λh7 I e7=>?_]
 let I:tZ h7 z TI TO rawInt[g.objs.size]:=I;refine iW I (by simp) λC r e8=>aJ (_,rfl,?_)
 let r:tZ C z TI TO rawInt[g.objs.size]:=r;let up:∀c o,c≠z->g.get? c=sr o->C.get? c=sr o:=λc o f q=>e8.extBut _ _ f (e7.extBut _ _ f (aF _ q));let new:oF C g.objs.size x y:=e8.extBut _ _ lQ[zl] (e7.extBut _ _ lQ[zl] (aR _ rfl));show Q .ref[g.objs.size] _;rw[sz] at r new ⊢
 refine go C r (up _ _ H.symm t) (B.keep _ _ _ t2 λo q=>up _ o X.symm (l.extBut _ _ T.symm (n.extBut _ _ p (F.extBut _ _ T.symm q)))) (u.keep _ _ _ t4 λo q=>up _ o U.symm (l.extBut _ _ S.symm q)) new λc o f q=>?_;exact up c o (λw=>f[by simp[w]]) (h c o f q)
open PySem.Builtin PySem.Builtin.SmallTypes in
def Aww(t:Nx prog w i1 l1 St1 Sc1)(v:Nx prog w i2 l2 St2 Sc2)(D:ZA z TI TO i1 i2 l1 l2)(X:A.handled=sy)(n:tZ s.heap z TI TO .none)(F:oF s.heap TI .ref[i1] .ref[i2])(C:oF s.heap TO a b)(s1:St1 k s.heap)(s2:St2 k s.heap)(c1:Sc1 xs s.heap)(c2:Sc2 ys s.heap)(he:xs[k]?=sy\/ys[k]?=sy)(go:∀I e,(∀c o,c∉[z,TO,i1,i2]->s.heap.get? c=sr o->I.get? c=sr o)->(∃o,I.get? e=sr o/\o.cls=.type "StopIteration")->E .ref[e] { s with heap:=I }):
  wpAny (model prog w) A («zip.__next__» ([.ref z],[])) Q E s:=by
 let(d1,d2,L,d4,d5,d6,d7,d8,d9,N):=D.ne;let b1:=D.b1;let b2:=D.b2;simp only[aV,cD,or_false,not_or] at b1 b2;refine aA (m:=field .ref[z] 2) (dI n rfl (x:=.bool tu) rfl (aA (m:=field .ref[z] 3) (dI n rfl (x:=.ref TI) rfl aA[gO F rfl ?_])));refine aA (m:=ownedTupleIsFree .ref[z]) ?_;unfold ownedTupleIsFree;refine aA (dI n rfl (x:=.none) rfl aJ[?_]);simp only[if_true];refine aA (oE (aA (dI n rfl (x:=.ref TO) rfl aA[iW n (by simp) λY r e1=>aA ?_])))
 let r:tZ Y z TI TO .ellipsis:=r;simp only[xM,yG,tD,zN];refine aA (aA (rB (aA (m:=nextOf .ref[i1]) ?_)));let d:∀c o,c≠z->s.heap.get? c=sr o->Y.get? c=sr o:=λc o g q=>e1.extBut _ _ g q;let S:=t.keep _ _ _ s1 λo q=>d _ o L.symm q;let T:=t.src _ _ _ c1 λo q=>d _ o b1.1 q;cases B:xs[k]? with
 |none=>
  refine t.done _ k _ xs _ _ X S T B λH e l j=>?_;let(u,h,i):=j;let P:tZ H z TI TO .ellipsis:=l _ _ L r;let J:e≠z:=λw=>by subst w;rw[P] at h;cases h;simp at i
  refine iW P (by simp) λG uu p=>go G e (λc o g q=>?_) (u,p.extBut _ _ J h,i)
  simp only[aV,cD,or_false,not_or] at g;exact p.extBut _ _ g.1 (l _ _ g.2.2.1 (d c o g.1 q))
 |some x=>
  let hy:ys[k]?=sy:=by
   rcases he with q|q
   .rw[B] at q;cases q
   .exact q
  refine t.item _ k _ xs x _ _ S T B λH t2 l=>aJ ?_;let U:oF H TO a b:=l.extBut _ _ d8 (d _ _ d2.symm C);refine aA[gO U rfl aA[oM U λG o3 p=>aA xV[aJ[?_]]]];refine aA (aA (rB (aA (m:=nextOf .ref[i2]) ?_)));let f:∀c o,c≠z->c≠TO->c≠i1->s.heap.get? c=sr o->G.get? c=sr o:=λc o h i q3 q=>p.extBut _ _ i (l.extBut _ _ q3 (d c o h q));refine v.done _ k _ ys _ _ X (v.keep _ _ _ s2 λo q=>f _ o d4.symm d9.symm N.symm q) (v.src _ _ _ c2 λo q=>f _ o b2.1 b2.2.2.1 b2.2.2.2.1 q) hy λh4 e e4 j=>?_;let(u,h,i):=j;let O:tZ h4 z TI TO .ellipsis:=e4 _ _ d4 (p.extBut _ _ d2 (l.extBut _ _ L r));let J:e≠z:=λw=>by subst w;rw[O] at h;cases h;simp at i
  refine iW O (by simp) λh5 uu Z=>go h5 e (λc o g q=>?_) (u,Z.extBut _ _ J h,i)
  simp only[aV,cD,or_false,not_or] at g;exact Z.extBut _ _ g.1 (e4 _ _ g.2.2.2 (f c o g.1 g.2.1 g.2.2.1 q))
end
end
def Sq2(K:aD)(T:Bool)(H:Hp)(a:aL)(xs:lg V):Prop:=match T with
 |true=>SqT K H a xs
 |false=>SqL K H a xs
def St2(T:Bool)(i l:aL)(k:Nat)(h:dY):Prop:=match T with
 |true=>h.IsTupleIter i l k
 |false=>h.IsListIter i l k
def Sc2(T:Bool)(l:aL)(xs:Array aG)(h:dY):Prop:=match T with
 |true=>h.IsTuple l xs
 |false=>h.IsList l xs
def nx2(T:Bool)(i l:aL):Nx P w i l (St2 T i l) (Sc2 T l):=by
 cases T
 .exact Bb6 i l
 .exact Awu i l
section
def Inv.sq2(I:Inv X f e H s)(h:Sq2 X.K T H a d):∃b:lg aG,Vals d b/\Sc2 T a b.toArray s.heap:=by
 cases T
 .let(b,r,p,_):=I.list h;exact(b,r,p.isList)
 .let(b,r,p,_):=I.tuple h;exact(b,r,p)
def Inv.sq2_inj(I:Inv X f e H s)(h:Sq2 X.K T H a d)(b:Sq2 X.K T H a c):d=c:=by
 cases T
 .exact I.list_inj h b
 .exact I.tuple_inj h b
end
def Itz(K:aD)(T:Bool)(a b:aL):It:=(λi H=>∃xs ys x y,Sq2 K T H a xs/\Sq2 K T H b ys/\xs[i]?=sr x/\ys[i]?=sr y,
 λi H v H'=>∃p x y,(∀xs,Sq2 K T H a xs->xs[i]?=sr x)/\(∀ys,Sq2 K T H b ys->ys[i]?=sr y)/\H p=sy/\v=.ref p/\H'=upd H p .tup[[x,y]],
 λi H=>∃xs ys,Sq2 K T H a xs/\Sq2 K T H b ys/\(xs.length<=i\/ys.length<=i))
def zSt(T:Bool)(z TI TO i1 i2 a b:aL)(i:Nat)(h:dY):Prop:=tZ h z TI TO .none/\oF h TI .ref[i1] .ref[i2]/\(∃u v,oF h TO u v)/\St2 T i1 a i h/\St2 T i2 b i h
theorem Awx{P:cF}{w:dG}{K:aD}{Z:lg cM}{kt:Nat}{O:Pos}(T:Bool)(z TI TO t p a b:aL)(D:ZA z TI TO t p a b):
  Turn P w K (.Tuple Z kt O) (Itz K T a b) [z,TI,TO,t,p] z (zSt T z TI TO t p a b) where
 mem:=by simp
 obj:=λi h st c f=>by
  let(F,j,(u,v,l),L,J):=st;simp only[aV,cD,or_false] at f;rcases f with rfl|rfl|rfl|rfl|rfl
  .exact(_,F,λv q=>by let q:tW _=rH v:=q;cases q)
  .exact(_,j,λv q=>by let q:aBu _ _=rH v:=q;cases q)
  .exact(_,l,λv q=>by let q:aBu _ _=rH v:=q;cases q)
  .exact(nx2 (P:=P) (w:=w) T _ a).live _ _ L
  .exact(nx2 (P:=P) (w:=w) T _ b).live _ _ J
 keep:=λi h h' st k=>by
  let(F,j,(u,v,l),L,J):=st;exact(k z (by simp) _ F,k TI (by simp) _ j,(u,v,k TO (by simp) _ l),(nx2 (P:=P) (w:=w) T t a).keep _ _ _ L k[t][by simp],(nx2 (P:=P) (w:=w) T p b).keep _ _ _ J k[p][by simp])
 item:=by
  intro X hP hw hK f i aa s σ H E I hf st hg;subst hP hw hK;let(F,j,(u,v,l),L,J):=st;let(xs,ys,x,y,qx,qy,ex,ey):=hg;let(U,rx,cx):=I.sq2 qx;let(S,ry,cy):=I.sq2 qy;let(ux,hux,rux):=rx.get ex;let(uy,huy,ruy):=ry.get ey;let Y:s.TypeIs .ref[z] "zip":=(_,F,rfl);let lt:∀{c:aL} {o:o7},s.heap.get? c=sr o->c≠s.heap.objs.size:=λe=>bZ aU[e];unfold pyNext;refine aA (mO (cW (name:=lU "__next__") Y oR (cZ oR Y xN
   (Awv (nx2 T t a) (nx2 T p b) D F j l L J cx cy (x:=ux) (y:=uy) (by simpa using hux) (by simpa using huy) λh' a1 a2 a3 a4 a5 hk=>aJ (_,rfl,?_)) wH[_])))
  refine wpAny_letOwnedTupleGo_zip (s:={ s with heap:=h' }) a1 λh2 z2 N=>?_
  let(d1,d2,d3,d4,d5,d6,d7,d8,d9,d10):=D.ne;let C:∀c o,c∉[z,TI,TO,t,p]->s.heap.get? c=sr o->h2.get? c=sr o:=λc o f q=>by
   simp only[aV,cD,or_false,not_or] at f;exact N.extBut _ _ f.1 (hk c o (by simp[f]) q)
  let B:H s.heap.objs.size=sy:=I.hok.fresh aN[_];let Q:∀c u,H c=sr u->c∉[z,TI,TO,t,p]:=λc u q f=>by rw[(hf c f).1] at q;cases q
  let nz:s.heap.objs.size≠z:=(lt F).symm;let hp2:vW h2 s.heap.objs.size #[ux,uy]:=(_,N.extBut _ _ nz a5,rfl,_,rfl);refine(.ref s.heap.objs.size,upd H s.heap.objs.size .tup[[x,y]],?_,rfl,(_,x,y,λxs' q=>by rw[I.sq2_inj q qx];exact ex,λys' q=>by rw[I.sq2_inj q qy];exact ey,B,rfl,rfl),
   (z2,N.extBut _ _ d1.symm (hk _ _ (by simp[d1.symm,d5,d6,d7]) j),(_,_,N.extBut _ _ d2.symm a2),(nx2 (P:=X.prog) (w:=X.w) T t a).keep _ _ _ a3 (λo q=>N.extBut _ _ d3.symm q),(nx2 (P:=X.prog) (w:=X.w) T p b).keep _ _ _ a4 (λo q=>N.extBut _ _ d4.symm q)),λc f=>?_)
  .show Inv X aa σ (upd H s.heap.objs.size .tup[[x,y]]) { s with heap:=h2,gens:=s.gens,drawn:=s.drawn,toks:=s.toks }
   refine I.step (s:=s) (g':=s.gens) (d':=s.drawn) (ch:=[z,TI,TO,t,p]) (λc f=>?_) (λc o g g f q g=>C c o f q) (λc o g g f q g=>(o.slots,C c o f q)) (λc o g q n=>by rw[Ao lt[q]];exact n)
    (λc o f q=>(o,C c o f q)) (λc xs q=>by rw[Ao[Bf q B]];exact q) (λc o u q=>by rw[Ao[Bf q B]];exact q) (λc ps q=>(#[],by rw[Ao[Bf q B],q];simp)) (λm hm=>?_) (λc u q=>?_) I.bare
   .let(f0,f1,f2,f3,f4,f5):=hf c f;exact(f3,f1,f4,f5)
   .let(o,es,ep,G,r):=hm;exact(o,es,ep,C _ o (λf=>(hf _ f).2.1 rfl) G,r)
   .by_cases hb:c=s.heap.objs.size
    .subst hb;rw[Am] at q;cases q;exact((show 2<=sizeLine by decide),_,.cons rux (.cons ruy .nil),hp2)
    .rw[Ao hb] at q;refine(I.hok c u q).stay (λd v hd z=>C d v ?_ z) (λd z=>by rw[Ao[Bf z B]];exact z) λd xs z=>by rw[Ao[Bf z B]];exact z
     rcases hd with rfl|hd
     .exact Q d u q
     .exact Q d _ hd
  .obtain⟨o,G,_⟩:∃o,s.heap.get? c=sr o/\True:=by
    simp only[aV,cD,or_false] at f;rcases f with rfl|rfl|rfl|rfl|rfl
    .exact(_,F,trivial)
    .exact(_,j,trivial)
    .exact(_,l,trivial)
    .let(o,G,_):=(nx2 (P:=X.prog) (w:=X.w) T _ a).live _ _ L;exact(o,G,trivial)
    .let(o,G,_):=(nx2 (P:=X.prog) (w:=X.w) T _ b).live _ _ J;exact(o,G,trivial)
   rw[Ao lt[G]];exact(hf c f).1
 done:=by
  intro X hP hw hK f i aa s σ H E I hf st hg;subst hP hw hK;let(F,j,(u,v,l),L,J):=st;let(xs,ys,qx,qy,he):=hg;let(U,rx,cx):=I.sq2 qx;let(S,ry,cy):=I.sq2 qy;let Y:s.TypeIs .ref[z] "zip":=(_,F,rfl);let he':U.toArray[i]?=sy\/S.toArray[i]?=sy:=by
   rcases he with q|q
   .exact .inl (by rw[pY,bV,<-rx.length];exact q)
   .exact .inr (by rw[pY,bV,<-ry.length];exact q)
  let Q:∀c u,H c=sr u->c∉[z,TI,TO,t,p]:=λc u q f=>by rw[(hf c f).1] at q;cases q
  unfold pyNext;refine aA (mO (cW (name:=lU "__next__") Y oR (cZ oR Y xN
   (Aww (nx2 T t a) (nx2 T p b) D (show X.A.in1.handled=sy from I.ok.hd f) F j l L J cx cy he' λh' e hk q=>?_) wH[_])))
  let(o,G,hcl):=q;refine aA (lW (T:="StopIteration") (b:=true) (o,G,hcl) uA (aJ (rfl,?_)));let C:∀c o,c∉[z,TI,TO,t,p]->s.heap.get? c=sr o->h'.get? c=sr o:=λc o f q=>hk c o (λm=>f (by simp only[aV,cD,or_false] at m ⊢;rcases m with m|m|m|m <;> simp[m])) q
  refine I.step (s:=s) (g':=s.gens) (d':=s.drawn) (t':=s.toks) (h':=h') (ch:=[z,TI,TO,t,p]) (λc f=>?_) (λc o g g f q g=>C c o f q) (λc o g g f q g=>(o.slots,C c o f q)) (λc o g q n=>n)
   (λc o f q=>(o,C c o f q)) (λc xs q=>q) (λc o u q=>q) (λc ps q=>(#[],by rw[q];simp)) (λm hm=>?_) (λc u q=>?_) I.bare
  .let(f0,f1,f2,f3,f4,f5):=hf c f;exact(f3,f1,f4,f5)
  .let(o,es,ep,G,r):=hm;exact(o,es,ep,C _ o (λf=>(hf _ f).2.1 rfl) G,r)
  .refine(I.hok c u q).stay (λd v hd z=>C d v ?_ z) (λg z=>z) λg g z=>z;rcases hd with rfl|hd
   .exact Q d u q
   .exact Q d _ hd
 self:=λg g g g g st h=>xO st.1 h
abbrev itT(a:aL):o7:={ cls:=.type "tuple_iterator",data:=.fields #[.ref a,.int 0 0] }
abbrev Arm(u v:aG):o7:={ cls:=.type "tuple",data:=.seq #[u,v] }
abbrev Bln(TI TO:aL):o7:={ cls:=.type "zip",data:=.fields #[.none,.bool tu,.bool tu,.ref TI,.ref TO] }
def zT2(h:dY)(a b:aL):dY:=(h.push itT[a]).push itT[b]
def zT3(h:dY)(a b:aL):dY:=(zT2 h a b).push (Arm .ref[h.objs.size] .ref[(h.push itT[a]).objs.size])
def zT4(h:dY)(a b:aL):dY:=(zT3 h a b).push (Arm .none .none)
def zT5(h:dY)(a b:aL):dY:=(zT4 h a b).push (Bln (zT2 h a b).objs.size (zT3 h a b).objs.size)
def Apx(a b:aL)(d c:Array aG):
  aCy (kY.«zip.__new__» ([.type "zip",.ref a,.ref b],[])) (λg R s=>s.heap.IsTuple a d/\s.heap.IsTuple b c/\R .ok[.ret[.ref[(zT4 s.heap a b).objs.size]]] { s with heap:=zT5 s.heap a b }):=(
 .of_wp λprog w A R s h=>by
  let(f,e,h):=h;let i:=sub_zip
  wp_walk using pO f,pO[aCz e _]
  exact(_,rfl,h))
section
def At6(u:Sc2 T a B s.heap)(t:Sc2 T b z s.heap)(go:∀e,zSt T (s.heap.objs.size+4) (s.heap.objs.size+2) (s.heap.objs.size+3) s.heap.objs.size (s.heap.objs.size+1) a b 0 e->(∀c o,s.heap.get? c=sr o->e.get? c=sr o)->Q .ref[s.heap.objs.size+4] { s with heap:=e }):
  wpAny (model prog w) A (call .type["zip"] [.ref a,.ref b]) Q E s:=by
 cases T
 .exact call_zip_2 u t λe j i h g f D k=>go e (j,i,(_,_,h),g,f) k
 .refine callType_new F.called_zip () (F.typeCall_zip_2 _ _) (F.newCall_zip_2 _ _) (λobj=>F.args_object_init_3 obj _ _) F.entry_zip_new (Apx a b B z) (u,t,?_)
  let n:(s.heap.push itT[a]).objs.size=s.heap.objs.size+1:=fO ..
  let m:(zT2 s.heap a b).objs.size=s.heap.objs.size+2:=by unfold zT2;rw[fO,n]
  let l:(zT3 s.heap a b).objs.size=s.heap.objs.size+3:=by unfold zT3;rw[fO,m]
  let r:(zT4 s.heap a b).objs.size=s.heap.objs.size+4:=by unfold zT4;rw[fO,l]
  let d:∀c o,(zT2 s.heap a b).get? c=sr o->(zT5 s.heap a b).get? c=sr o:=λc o q=>by unfold zT5 zT4 zT3;exact aF _ aF[_][aF _ q]
  let p:(zT5 s.heap a b).get? (zT4 s.heap a b).objs.size=sr[Bln (zT2 s.heap a b).objs.size (zT3 s.heap a b).objs.size]:=by unfold zT5;exact aR _ rfl
  let v:(zT5 s.heap a b).get? (zT3 s.heap a b).objs.size=sr[Arm .none .none]:=by unfold zT5 zT4;exact aF _ (aR _ rfl)
  let x:(zT5 s.heap a b).get? (zT2 s.heap a b).objs.size=sr[Arm .ref[s.heap.objs.size] .ref[(s.heap.push itT[a]).objs.size]]:=by unfold zT5 zT4 zT3;exact aF _ aF[_][aR _ rfl]
  let y:(zT5 s.heap a b).get? (s.heap.push itT[a]).objs.size=sr itT[b]:=d _ _ (by unfold zT2;exact aR _ rfl)
  let C:(zT5 s.heap a b).get? s.heap.objs.size=sr itT[a]:=d _ _ (by unfold zT2;exact aF _ (aR _ rfl))
  show _/\_;rw[m,l,r] at p;rw[l] at v;rw[n,m] at x;rw[n] at y;rw[r];exact((_,p,rfl),(λe j i h g f k=>go e (j,i,(_,_,h),g,f) k) _ p x v (_,C,rfl,rfl) (_,y,rfl,rfl) λc o q=>d _ _ (by unfold zT2;exact aF _ (aF _ q)))
end
def boot_zip:bootBuiltins "zip"=sr .type["zip"]:=by decide +kernel
def Bn7(K:aD)(ta:TA):TI:=λσ H R=>ta σ H λvs H1=>∃T a b xs ys,vs=[.ref a,.ref b]/\Sq2 K T H1 a xs/\Sq2 K T H1 b ys/\R (Itz K T a b) H1
def Bhu{O:Nat}(Y:Gl X "zip")(U:X.mg "zip"=sy)(Z:PA X (e::l) C)(S:starEach (e::l) X.env=(u6 tu (eval e X.env))::starEach l X.env)(r:(backTo f (starEach l X.env)).any (·.1)=tu):
  PI[X][.Tuple y O w][.Call (.Name "zip" p) (e::l) [] f][Bn7 X.K C]:=by
 intro aa s B H R I h;refine Call_[Aac I Y U boot_zip iR[thn[Z f aa s B H _ I h] λn d ⟨vs,H1,I1,r1,q1⟩=>?_][S][r]];let(T,a,b,xs,ys,rfl,J,G,q):=q1;let(u,v,rfl,E,D):=r1.two;obtain rfl:u=cV a:=E;obtain rfl:v=cV b:=D;let(Q,rx,A):=I1.sq2 J;let(P,ry,z):=I1.sq2 G;let there:∀{c:aL} {n:Array aG},Sc2 T c n d.heap->c < d.heap.objs.size:=λ{c n} q=>by
  cases T
  .let(o,t,_):=q;exact aU t
  .let(o,t,_):=q;exact aU t
 let N:=there z;let j:∀c∈[d.heap.objs.size+4,d.heap.objs.size+2,d.heap.objs.size+3,d.heap.objs.size,d.heap.objs.size+1],d.heap.objs.size<=c:=λc g=>by
  simp only[aV,cD,or_false] at g;rcases g with rfl|rfl|rfl|rfl|rfl
  .exact lX _ _
  .exact lX _ _
  .exact lX _ _
  .exact aN _
  .exact lX _ _
 refine At6 A z λh' st k=>xO st.1 ?_;refine(_,_,_,_,H1,rfl,I1.kept (t':=d.toks) k,Awx T _ _ _ _ _ a b (by simp,λm=>absurd bC[there A][j a m] eN[_],λm=>absurd bC[N][j b m] eN[_]),st,λc g=>I1.fpOk (j c g) I1.hok.fresh[j c g],q)
def leS(a b:o8):Bool:=!decide (b.cps.toList < a.cps.toList)
def M6(ss:lg o8):lg o8:=ss.mergeSort leS
def Js(ns:lg Int):lg Int:=ns.mergeSort[λa b=>decide[a<=b]]
theorem Wz{f:Type}{r:f->f->Prop}(i:∀a b,r a b->r b a->a=b):∀{d c:lg f},d.Perm c->d.Pairwise r->c.Pairwise r->d=c
 |[],c,p,_,_=>p.nil_eq
 |_,[],p,_,_=>by simp_all
 |a::d,b::c,p,h,g=>by
  rw[eY] at h g;let e:a=b:=by
   rcases aV.mp p.mem_iff.mp[bG] with q|q
   .omega
   .rcases aV.mp p.mem_iff.mpr[bG] with z|z
    .exact z.symm
    .exact i a b (h.1 b z) (g.1 a q)
  subst e;rw[Wz i aCp[p] h.2 g.2]
def At7(a b:o8):(leS a b||leS b a)=t8:=by
 unfold leS
 grind
def Ai6(a b c:o8)(f:leS a b=t8)(e:leS b c=t8):leS a c=t8:=by
 unfold leS at *
 rw[wI,decide_eq_false_iff_not] at *
 exact qQ.mpr[List.le_trans qQ.mp[f] qQ.mp[e]]
def Agd(a b:o8)(f:leS a b=t8)(d:leS b a=t8):a=b:=by
 unfold leS at *
 rw[wI,decide_eq_false_iff_not] at *
 let e:=List.le_antisymm qQ.mp[f] qQ.mp[d];obtain⟨⟨x⟩⟩:=a;simp_all
def Eu(ss:lg o8):(M6 ss).Perm ss:=uT ss leS
def Pa(ss:lg o8):(M6 ss).Pairwise (λa b=>leS a b=t8):=mZ Ai6 At7 ss
def Do(ns:lg Int):(Js ns).Perm ns:=uT ns _
theorem Age:∀(p:o8)(l:lg o8),risingS p l=t8->(p::l).Pairwise (λa b=>leS a b=t8)
 |p,[],_=>by simp
 |p,x::r,h=>by
  let h:(!_&&_)=t8:=h;rw[aQ,ltCps_eq] at h;let d:=Age x r h.2;rw[eY];refine(λy hy=>?_,d);rcases aV.mp hy with rfl|hy
  .exact h.1
  .exact Ai6 p x y h.1 ((eY.mp d).1 y hy)
def Aki(p:a.Perm b)(h:sortedS a=t8):a=M6 b:=by
 refine Wz Agd p.trans[(Eu b).symm] ?_ Pa[b];cases a with
 |nil=>simp
 |cons x r=>exact Age x r h
def Arn{ns d:lg Int}(p:d.Perm ns)(h:d.Pairwise (·<=·)):d=Js ns:=(Wz (λa b g f=>Int.le_antisymm g f) p.trans[(Do ns).symm] h (by
  let h:=mZ (le:=λa b:Int=>decide[a<=b]) (λa b c g f=>by simp only[dh] at *;omega) (λa b=>by simp only[fC,dh];omega) ns
  exact h.imp λh=>by simpa using h))
section
variable{tk:Nat}
def Inv.newO(I:Inv X k h H s)(hk:∀b ob,s.heap.get? b=sr ob->g.get? b=sr ob)(p:s.heap.get? e=sy)(d:Eo X.prog X.w (upd H e o) g e o):Inv X k h (upd H e o) { s with heap:=g,toks:=tk }:=by
 let ne:∀{b:aL} {o:o7},s.heap.get? b=sr o->b≠e:=λq z=>by simp_all
 let nt:∀{b:aL} {u:HO},H b=sr u->b≠e:=λq=>by
  let(o,d):=(I.hok _ _ q).there;exact ne d
 refine I.step (ch:=[]) (λc z=>nomatch z) (λb o c c c q c=>hk b o q) (λb o c c c q c=>(o.slots,hk b o q)) (λb o c q n=>by rw[Ao ne[q]];exact n)
  (λb o c q=>(o,hk b o q)) (λb i q=>by rw[Ao nt[q]];exact q) (λb o u q=>by rw[Ao nt[q]];exact q) (λb ps q=>(#[],by rw[Ao nt[q],pU];exact q)) (λm j=>j.keeps hk) (λa u q=>?_) I.bare
 by_cases f:a=e
 .subst f;rw[Am] at q;cases q;exact d
 .rw[Ao f] at q;exact(I.hok a u q).stay (λb v c z=>hk b v z) (λb z=>by rw[Ao nt[z]];exact z) λb i z=>by rw[Ao nt[z]];exact z
theorem W0:∀{b:lg aG} {c:lg o8},mU b c->Vals c.map[V.str] b
 |_,_,.nil=>.nil
 |_,_,.cons x t h=>.cons (t,rfl) W0[h]
theorem Aae:∀{b:lg aG} {ns:lg Int},pD b ns->Vals ns.map[V.int] b
 |_,_,.nil=>.nil
 |_,_,.cons n t h=>.cons (t,rfl) Aae[h]
end
section
def Akj:Jk X .builtin["sorted"] (λg H Q=>∃p,∃a:lg o8,g=[.ref p]/\H p=sr .lst[a.map[V.str]]/\a.length < 64/\∀q,H q=sy->Q[.ref q][upd H q .lst[(M6 a).map V.str]]):=by
 intro E s B H g C Q I r h;let(p,a,rfl,hp,v,q):=h;let(u,rfl,m):=vals1 r;cases m;let(_,c,n,i,e):=(I.hok p _ hp);let t:=Afh i;let D:c.length=a.length:=by rw[<-i.length,aB]
 refine sorted_strs (l:=p) (_,e,rfl,_,rfl) t () λout k y x w=>?_
 obtain rfl:=Aki x w;let(z,f):=aAv s.heap c out;let d:s.heap.get?[s.heap.objs.size+1]=sy:=jF gU[_];refine(.ref[s.heap.objs.size+1],_,I.newO (o:=.lst[(M6 a).map V.str]) (tk:=s.toks) (λb o q=>aAh q) d (?_,out.toList,z,W0 y,f),rfl,q _ I.hok.fresh[gU[_]]);rw[aB,(Eu a).length_eq];simp_all
def Apy{d:lg o8}{a:lg[Key×aG]}(hk:a.map (·.1)=d.map qL){b:lg aG}(g:b.length=a.length)(h:∀(j:Nat)(v:aG),b[j]?=sr v->∃k x,a[j]?=sr[u6 k x]/\Aa6 k v=t8):mU b d:=by
 induction d generalizing a b with
 |nil=>
  cases a with
  |nil=>cases b with
   |nil=>exact .nil
   |cons u b=>trivial
  |cons p a=>simp at hk
 |cons s d i=>
  cases a with
  |nil=>simp at hk
  |cons p a=>
   cases b with
   |nil=>simp at g
   |cons u b=>
    let(m,l):=jQ hk;let(k,x,e,q):=h 0 u rfl;let e:=by simpa using e
    subst e;subst m;rcases Dr q with ⟨_,_,f,_⟩|⟨y,r,f,rfl⟩
    .cases f
    cases f;exact .cons _ _ (i l (by simpa using g) λj v z=>by simpa using h[j+1][v][by simpa using z])
def Apz{ns:lg Int}{a:lg[Key×aG]}(hk:a.map (·.1)=ns.map oZ){b:lg aG}(d:b.length=a.length)(h:∀(j:Nat)(v:aG),b[j]?=sr v->∃k x,a[j]?=sr[u6 k x]/\Aa6 k v=t8):pD b ns:=by
 induction ns generalizing a b with
 |nil=>
  cases a with
  |nil=>cases b with
   |nil=>exact .nil
   |cons u b=>simp at d
  |cons p a=>simp at hk
 |cons s r g=>
  cases a with
  |nil=>simp at hk
  |cons p a=>
   cases b with
   |nil=>simp at d
   |cons u b=>
    let(l,i):=jQ hk;let(k,x,e,q):=h 0 u rfl;let e:=by simpa using e
    subst e;subst l;rcases Dr q with ⟨y,o,f,rfl⟩|⟨_,_,f,_⟩
    case inr=>cases f
    cases f;exact .cons _ _ (g i (by simpa using d) λj v z=>by simpa using h[j+1][v][by simpa using z])
def Bb7:∀{a:lg[Key×V]} {c:lg[Key×aG]},KV a c->c.map (·.1)=a.map (·.1):=(λ{a c} r=>by
 induction r with
 |nil=>rfl
 |cons h _ d=>simp_all)
def Akk(hc:X.calm=t8):Jk X .builtin["sorted"] (λS H Q=>∃p kvs,S=[.ref p]/\H p=sr .dK[kvs]/\kvs.length < 64/\
  ((∃g:lg o8,kvs.map (·.1)=g.map qL/\∀q,H q=sy->Q[.ref q][upd H q .lst[(M6 g).map V.str]])\/(∃ns:lg Int,kvs.map (·.1)=ns.map oZ/\∀q,H q=sy->Q[.ref q][upd H q .lst[(Js ns).map V.int]]))):=by
 intro aa s σ H S us Q I r h;let(p,kvs,rfl,hp,C,q):=h;let(u,rfl,ru):=vals1 r;cases ru;let(_,lo,E,rk,hd):=(show Eo X.prog X.w H s.heap p .dK[kvs] from I.hok p _ hp);let(ep,L):=hd.dictAt;let N:=Bb7 rk;let T:E.length=kvs.length:=by simpa using congrArg tY N
 refine qG kind_sorted aAw aAx aAy[_] ?_;unfold kY.«sorted»
 refine aA (m:=checkCount "sorted" 1 1 _) (aJ (aA (PySem.W.kdu_collect (A:=X.A.in1) (xP (knd:=Fp X.prog X.w) (kvs:=E) (ep:=ep) lo) (show X.A.in1.handled=sy from I.ok.hd hc) L (by rw[T];exact aH gK[C] ()) λf tk a hk i=>?_)))
 let J:a.toList.length=E.length:=by rw[aW];exact i.1
 refine aA[aAi ?_ (by rw[J,T];exact aH gK[C] ())]
 let items:∀(j:Nat)(v:aG),a.toList[j]?=sr v->∃k x,E[j]?=sr[u6 k x]/\Aa6 k v=t8:=λj v z=>i.2 j v (by rw[<-gC];exact z)
 generalize O:f.push[seqObj "list" a.toList.toArray 0]=h2;let n:h2.get? f.objs.size=sr[seqObj "list" a.toList.toArray 0]:=by rw[<-O];exact aR _ rfl
 let z2:h2.objs.size=f.objs.size+1:=by rw[<-O];exact size_push' ..
 let U:∀b ob,s.heap.get? b=sr ob->h2.get? b=sr ob:=λb ob z=>by rw[<-O];exact aF _ (hk b ob z)
 let c:s.heap.get? f.objs.size=sy:=by
  cases z:s.heap.get? f.objs.size with
  |none=>rfl
  |some o=>exact absurd aU[hk _ _ z] eN[_]
 let Y:H f.objs.size=sy:=by
  cases z:H f.objs.size with
  |none=>rfl
  |some o=>
   let(ob,y):=(I.hok _ o z).there;rw[c] at y;cases y
 let old:∀(out:Array aG) b ob,s.heap.get? b=sr ob->(sortedHeap h2 f.objs.size a.toList out).get? b=sr ob:=λout b ob z=>by
  rw[zP (λw=>by rw[w,c] at z;cases z) aU[U b ob z]]
  exact U b ob z
 rcases q with ⟨g,t,q⟩|⟨ns,t,q⟩
 .let B:mU a.toList g:=Apy N.trans[t] J items;refine aA fW[cZ uB (_,n,rfl) tG (yH aAj n B.keysOf (λv1 v2 rest e=>aAz (by rw[<-e];exact B)) () λG a1 a2=>(_,rfl,?_)) uC[_]]
  let(Z,b1,b2,P):=zQ B a1 a2;obtain rfl:=Aki b2 P;let(l,d):=vC (out:=(arrOf G).map (·.2)) n;refine aJ (_,rfl,.ref f.objs.size,_,I.newO (o:=.lst[(M6 g).map V.str]) (tk:=tk) old[_] c (?_,_,l,W0 b1,d),rfl,q _ ?_)
  .rw[aB,(Eu g).length_eq];have:g.length=kvs.length:=by simpa using (congrArg tY t).symm
   exact aH (by omega:g.length<=64) ()
  .exact Y
 .let B:pD a.toList ns:=Apz N.trans[t] J items;refine aA fW[cZ uB (_,n,rfl) tG (list_sort_tree n B () λout ns' b1 b2 P=>(_,rfl,?_)) uC[_]]
  obtain rfl:=Arn b2 P;let(l,d):=vC (out:=out) n;refine aJ (_,rfl,.ref f.objs.size,_,I.newO (o:=.lst[(Js ns).map V.int]) (tk:=tk) old[_] c (?_,_,l,Aae b1,d),rfl,q _ ?_)
  .rw[aB,(Do ns).length_eq];have:ns.length=kvs.length:=by simpa using (congrArg tY t).symm
   exact aH (by omega:ns.length<=64) ()
  .exact Y
end
section
def At8(t:uD)(n:Nat):(t.orStandIn n).led=t.led/\(t.plain=tu->(t.orStandIn n).plain=tu):=by
 unfold SetTable.orStandIn;split
 .exact(rfl,id)
 .exact(rfl,λb=>rfl)
def At9(t:uD)(b:Array[Int×aG])(h:Int)(x:aG):(layNew t b h x).2.1.led=t.led/\(t.plain=tu->(layNew t b h x).2.1.plain=tu):=by
 unfold layNew;split
 .exact At8 _ _
 .exact(rfl,λc=>rfl)
set_option tactic.hygienic true in
def Aua(t:uD)(a:Array[Int×aG])(n:Nat)(e:t.plain=tu):(relayAll t a n).2.1.led=t.led/\(relayAll t a n).2.1.plain=tu:=by
 unfold relayAll;split
 .rename_i f order h;dsimp only;split
  .unfold SetTable.relaid SetTable.laid at h;simp only[Option.bind_eq_bind,rM,Option.pure_def,gA,Prod.mk.injEq] at h;let(_,_,rfl,_):=h;trivial
  trivial
 trivial
def kvS(e:Int×aG):o8:=match e.2 with
 |.str x _=>x
 |_=>""
def Akl{c:lg[Int×aG]}(h:aBa (dD P w) c){e:Int×aG}(f:e∈c):(∃a,e.2=.str kvS[e] a)/\(dD P w).is kvS[e] e.2=t8:=by
 let((k,hk,_),_):=h e f;let(a,z):=uM hk;have:kvS e=k:=by unfold kvS;rw[z]
 rw[this];exact((a,z),hk)
def SetT(P:cF)(w:dG)(h:dY)(a:aL)(ks:lg o8)(led:Bool):Prop:=∃o es ep t,h.get? a=sr o/\o.ExactSet/\o.data=.set es ep t/\aBa (dD P w) es.toList/\es.toList.map kvS=ks/\t.fits es.size=t8/\es.size < scanBound/\t.led=led/\(ks≠[]->t.plain=tu)
def Amy{c:lg[Int×aG]}(h:aBa (dD P w) c):(c.findIdx? λe=>(dD P w).is y e.2)=sy ↔ y∉c.map kvS:=by
 rw[List.findIdx?_eq_none_iff,bK];constructor
 .rintro q ⟨e,a,rfl⟩;have:=q e a;rw[(Akl h a).2] at this;trivial
 .intro q e a;cases z:(dD P w).is y e.2 with
  |false=>rfl
  |true=>exact absurd (e,a,(dD P w).inj _ _ _ (Akl h a).2 z) q
def Blo{h:dY}{a:aL}{o:o7}{d es':Array[Int×aG]}{b:Nat}{t t':uD}(c:h.get? a=sr o)(hd:o.data=.set d b t):(h.update a (zR es' t')).get? a=sr { o with data:=.set es' (b+1) t' }:=by
 have:=cY (zR es' t') c (by rw[putSet_of es' t' hd];rfl)
 rw[putSet_of es' t' hd] at this;omega
def Bf0{g:Bool->Sem Unit}(C:∀(b:Bool)(e:aO)(y:Unit->aO->Prop),y u9 e->wpAny (model P w) A g[b] y E e){a:aL}{o:o7}{D c:Array[Int×aG]}{F:Nat}{t t2:uD}{f wd:Bool}{R:o9 Bool->aO->Prop}(u:s.heap.get? a=sr o)(i:o.ExactSet)(hd:o.data=.set D F t)(el:aBa (dD P w) c.toList)(n:c.size < scanBound)(hf:t2.fits c.size=t8)(v:t2.led=f)(hp:t2.plain=tu)(k:∀p h,gD a s.heap p->SetT P w p a h f->h.Perm c.toList.map[kvS]->R sr[t8] { s with heap:=p }):
  wpAny (model P w) A (do
   storeSet a c t2
   if (!wd&&t2.tooFull)=t8 then do
    g (relayAll t2 c jX[c.size]).2.2
    storeSet a (relayAll t2 c jX[c.size]).1 (relayAll t2 c jX[c.size]).2.1
    pure sr[t8]
   else pure sr[t8]) R E s:=by
 refine aA[wJ u hd ?_ qR[n]];let o1:=Blo (es':=c) (t':=t2) u hd;let r:=gR s.heap a (zR c t2);split
 .let m:=relayAll_perm t2 c jX[c.size];let x:=relayAll_fits t2 c jX[c.size];let q:=Aua t2 c jX[c.size] hp;generalize relayAll t2 c jX[c.size]=L at m x q ⊢
  let(j,B,N):=L;let b2:j.size < scanBound:=by rw[<-aW,m.length_eq,aW];exact n
  exact aA[C _ _ _ aA[wJ o1 rfl aJ[k _ _ r.trans[gR _ a _] (_,j,_,B,Blo o1 rfl,i,rfl,el.perm m,rfl,x,b2,q.1.trans v,λz=>q.2) m.map[kvS]] qR[b2]]]
 .exact aJ[k _ _ r (_,c,_,t2,o1,i,rfl,el,rfl,hf,n,v,λz=>hp) .rfl]
def Bn8{a:aL}{d:lg o8}{p:Bool}{y:o8}{n:Tok}{Q:Bool->aO->Prop}(X:SetT P w s.heap a d p)(hr:d.length+1 < scanBound)(k:∀l b c,gD a s.heap l->SetT P w l a c p->c.Perm (if y∈d then d else d ++ [y])->Q b { s with heap:=l }):
  wpAny (model P w) A setAddHashed[a][.str y n][(dD P w).hash y] Q E s:=by
 let(o,v,ep,t,D,B,hd,g,i,hf,hb,U,hp):=id X;let m:(dD P w).is y (.str y n)=t8:=by simp[dD,qW]
 let x:v.size=d.length:=by rw[<-i,aB,aW]
 unfold setAddHashed setAddHashedIn;refine fW aA[jL D hd hf ?_];dsimp only;rw[byScan_of rfl hb g];simp only[↓reduceIte];unfold setAddByScan;refine aA aA[oE[aA[wpAny_setScan_of m D hd hf g ?_]]];cases q:aAk (λe=>(dD P w).is y e.2) v.toList with
 |some j=>
  dsimp only;let I:y∈d:=by
   rw[<-i];exact zZ λz=>by rw[(Amy g).mpr z] at q;cases q
  refine aJ aJ[?_];have:=k s.heap tu d (aDa a s.heap) X (by rw[di I])
  exact this
 |none=>
  dsimp only;let I:y∉d:=by rw[<-i];exact(Amy g).mp q
  let u:=layNew_perm t v ((dD P w).hash y) (.str y n);let F:=layNew_fits t v ((dD P w).hash y) (.str y n);let G:=At9 t v ((dD P w).hash y) (.str y n);generalize layNew t v ((dD P w).hash y) (.str y n)=L at u F G ⊢
  let(r,t1,wd,gv):=L;dsimp only at u F G ⊢
  rw[wK] at u;let el:=(g.push m rfl).perm u;let b1:r.size < scanBound:=by rw[<-aW,u.length_eq,bH,aW,x];exact hr
  let pk:(r.toList.map kvS).Perm (if y∈d then d else d ++ [y]):=by
   rw[dq I];let z:=u.map kvS;rw[cB,i] at z;exact z
  let J:∀(b:Bool)(f:aO)(O:Unit->aO->Prop),O u9 f->wpAny (model P w) A (match b with|true=>rule "set.scan.the-table-gave-way"|false=>pure u9) O E f:=λb f O T=>by cases b <;> first|exact aJ T|exact oE T
  refine aA[J _ _ _ ?_];let C:∀l c,gD a s.heap l->SetT P w l a c p->c.Perm r.toList.map[kvS]->wpAny (model P w) A (match (sr t8:o9 Bool) with|some added=>pure added|none=>setAddHashedIn a (.str y n) ((dD P w).hash y) 99999) Q E { s with heap:=l }:=λl c sb S' p'=>aJ[k l t8 c sb S' p'.trans[pk]]
  split
  .refine aA ?_;rw[hashByValue_scannable 8 rfl];refine aJ (Bf0 (t2:={ t1 with plain:=false }) J D B hd el b1 SetTable.fits_plain_off[F] G.1.trans[U] rfl C)
  .rename_i H;refine aA aJ[?_];simp only[↓reduceIte];exact Bf0 J D B hd el b1 F G.1.trans[U] (by simpa using H) C
def Ai7:entryFor table "set.update.loop"=sr kY.«set.update.loop»:=(xQ[by rfl])
def Ac4:plainId "set.update.loop"=t8:=by decide +kernel
def InS(ss:lg o8)(i:Nat)(ks:lg o8):Prop:=ks.Nodup/\(∀x,x∈ks ↔ x∈ss.take i)/\ks.length<=i
def InS.step{i:Nat}(h:InS c i d)(m:c[i]?=sr y)(p:e.Perm (if y∈d then d else d ++ [y])):InS c (i+1) e:=by
 let(k,j,r):=h;let f:c.take[i+1]=c.take i ++ [y]:=by rw[List.take_succ,m];rfl
 by_cases g:y∈d
 .rw[di g] at p;refine(p.nodup_iff.mpr k,λx=>?_,by rw[p.length_eq];omega)
  rw[p.mem_iff,j,f,bR,aK];simp_all
 .rw[dq g] at p;refine(p.nodup_iff.mpr ?_,λx=>?_,by rw[p.length_eq,bH,cX];omega)
  .rw[gB];exact(k,by simp,λa q b n=>by rw[aK.mp n];rintro rfl;trivial)
  .rw[p.mem_iff,f,bR,bR,j]
def Blp{n:Nat}{Pr:Nat->aG->Prop}{St:Nat->dY->Prop}(W:aCx P w A.in1 I fp wr n Pr St)(J:a∉fp)(hn:ss.length=n)(hz:n < 4000)(Y:∀i v,Pr i v->∃x l,ss[i]?=sr x/\v=.str x l):
  ∀(k i:Nat)(s:aO)(g:lg o8),n - i=k->i<=n->St i s.heap->SetT P w s.heap a g led->InS ss i g->
  (∀j l c,(∀b o,b∉wr->b≠a->s.heap.get? b=sr o->j.get? b=sr o)->SetT P w j a c led->InS ss n c->R .ok[.ret[.none]] { s with heap:=j,toks:=l })->
  codeAny (model P w) A (.builtin "set.update.loop" ([.ref a,.ref I],[])) R s:=by
 let aw:a∉wr:=λh=>J[W.sub _ h];let keep:∀{h j:dY} {g:lg o8},SetT P w h a g led->(∀b o,b∉wr->h.get? b=sr o->j.get? b=sr o)->SetT P w j a g led:=λ⟨o,es,ep,t,U,r⟩ q=>(o,es,ep,t,q a o aw U,r);intro k;induction k with
 |zero=>
  intro i s g hk hi st S d D;obtain rfl:i=n:=by omega
  refine iG Ai7 ?_;rw[jM Ac4 _];show wpAny _ A.in1 (pyNext .ref[I] >>= _) _ _ s;refine aA[W.done s _ _ st λj l q=>?_];exact aJ (D j l g (λb o n uu e=>q b o n e) (keep S q) d)
 |succ k O=>
  intro i s g hk hi st S d D;let p:i < n:=by omega
  refine iG Ai7 ?_;rw[jM Ac4 _];show wpAny _ A.in1 (pyNext .ref[I] >>= _) _ _ s;refine aA[W.item i s _ _ p st λv h1 l hv B G=>?_];let(x,F,T,rfl):=Y i v hv;show wpAny _ A.in1 (holding [.str x F] setAdd[a][.str x F] >>= _) _ _ _;unfold setAdd;refine aA (fW (fW (aA ((dD P w).pyHash (k:=x) (by simp[dD,qW]) ?_))))
  refine Bn8[keep S G][eZ (Nat.add_le_add_right d.2.2 1) (by show i+1 < 4096;omega)] λh2 b c L S2 p2=>?_
  let m:∀b o,b≠a->h1.get? b=sr o->h2.get? b=sr o:=λb o n e=>(L.2 b n).trans e;refine aJ (oJ Ac4 _,O (i+1) _ c () p (W.frame _ _ _ B λb X o e=>m b o (λz=>J[z ▸ X]) e) S2 (d.step T p2) λZ y C N S3 Q=>?_)
  exact D Z y C (λb o n H e=>N b o n H (m b o H (G b o n e))) S3 Q
end
abbrev byT(w:dG):Bool:=w.params.followText "set-order"
abbrev Ap0(w:dG):o7:={ cls:=.type "set",dict:=sy,data:=.set #[] 0 .fresh[0][0][!byT w] }
section
def tc1:checkTypeCall "set" ([v],[])=pure u9:=by rfl'
def nc1:checkBuiltinCall "set.__new__" ([.type "set",v],[])=pure u9:=by rfl'
def Awy(h:Q₁ .ref[s.heap.objs.size] { s with heap:=s.heap.push Ap0[w] }):codeAny[model P w][A][.call .builtin["set.__new__"] ([.type "set",v],[])][wants Q₁ E][s]:=by
 refine tE ?_;refine aA qO[nc1][aJ (oJ yI _,iG F.entry_set_new ?_)];rw[jM yI _];unfold kY.«set.__new__» zT;let a:=aBb;dsimp only
 wp_walk
 refine jY aJ[?_];dsimp only;simp only[newObj];exact aA wpAny_alloc[aJ[aJ[h]]]
def Amz(b:s.TypeIs self "set")(e:Q u9 s):wpAny M A (checkBuiltinCall "set.__init__" ([self,v],[])) Q E s:=by
 simp only[checkBuiltinCall,kind_set_init,split_set_init,sig_set_init];refine aA[lW b aBb ?_];simp only[rA,kZ,if_false];unfold Bind.checkArgs;dsimp only;refine aA (m:=Bind.printed "*" tu _ _) (aAa (self:=self) rfl b λshort=>?_);let c:(if (aBc==aBd)=t8 then [self,v].length else [self,v].length - 1)=1:=by
  rw[dq ()];rfl
 rw[c];simp only[sI];let d:Bind.check (.positional,"set","*",.self,[("iterable",.posOnly,tu)]) "set" short 1 []=pure u9:=by
  rfl
 rw[d];exact aJ e
def Akm:isSubtype .type["list"] .type["set"]=pure tu:=by rw[uE];rfl
def Akn:isSubtype .type["list"] .type["frozenset"]=pure tu:=by rw[uE];rfl
def Awz(h:mU b c):∀(i:Nat)(v:aG),b[i]?=sr v->∃x a,c[i]?=sr x/\v=.str x a:=by
 induction h with
 |nil=>intro i v e;trivial
 |cons y a _ d=>
  intro i v e;cases i with
  |zero=>cases e;exact(y,a,rfl,rfl)
  |succ i=>exact d i v e
def Vb(h:mU a b):a.length=b.length:=by
 induction h with
 |nil=>rfl
 |cons _ _ _ c=>exact congrArg _ c
def Aub(y:A.handled=sy)(h:s.heap.get? a=sr Ap0[w])(j:s.heap.IsList l items)(g:mU items.toList ss)(x:ss.length < 4000)(k:∀c m f,(∀b o,b≠a->s.heap.get? b=sr o->c.get? b=sr o)->SetT P w c a f (!byT w)->InS ss ss.length f->Q .done[.ret .none] { s with heap:=c,toks:=m }):
  wpAny (model P w) A (kY.«set.__init__» ([.ref a,.ref l],[])) Q E s:=by
 let G:s.TypeIs .ref[a] "set":=(_,h,rfl);let p:=j.typeIs;let F:=Akm;let D:=Akn;unfold kY.«set.__init__» noKeywords
 repeat (first|(with_reducible refine aA[nA j ?_])|(with_reducible refine nA j ?_)|wp_step)
 let u:l≠a:=λz=>by
  let(o,d,r):=p;rw[z,h] at d;cases d;exact absurd r (by simp)
 let C:a≠s.heap.objs.size:=bZ aU[h];let t:l≠s.heap.objs.size:=by
  let(o,d,_):=p;exact bZ aU[d]
 refine Blp (aCq (A:=A.in1) y s.heap.objs.size l t items) (led:=!byT w) (ss:=ss) (by simp[C,u.symm]) (by rw[<-Vb g,aW]) (by rw[<-aW,Vb g];exact x) (λi v e=>Awz g i v (by rw[gC];exact e)) items.size 0 _ [] wL[_] bI[_] ((_,aR _ rfl,rfl,rfl),j.push _) ?_ (by simp,by simp,aN _) λc m f q S i=>?_
 .exact(_,#[],0,_,aF _ h,(rfl,rfl,rfl),rfl,λe B=>by simp at B,rfl,rfl,(),rfl,λz=>absurd rfl z)
 .let e:items.size=ss.length:=by rw[<-Vb g,aW]
  rw[e] at i;exact aJ aJ[k c m f (λb o n z=>q b o (by simp only[aK];exact bZ aU[z]) n (aF _ z)) S i]
def Auc(H:A.handled=sy)(G:s.heap.IsList l items)(C:mU items.toList p)(B:p.length < 4000)(k:∀j n m,(∀b o,s.heap.get? b=sr o->j.get? b=sr o)->SetT P w j s.heap.objs.size m (!byT w)->InS p p.length m->Q .ref[s.heap.objs.size] { s with heap:=j,toks:=n }):
  wpAny (model P w) A (call .type["set"] [.ref l]) Q E s:=by
 let(c,O,x):=lA.mro;let hmade:=lA.made;let u:=lA.sub;refine sH tE[?_];show wpAny _ _ (callAny .type["set"] _) _ _ _;refine aJ (pW _ (),iG wD ?_)
 rw[vL (tK "set" [.ref l] []) rfl];let X:=lA.notType;let U:=lA.canCreate;let I:=tc1 (v:=.ref l)
 repeat (any_goals (first|assumption|wp_step))
 refine jH (Awy (E:=E) (Q₁:=λobj f=>obj=.ref s.heap.objs.size/\f={ s with heap:=s.heap.push Ap0[w] }) (rfl,rfl)) λr f t=>?_
 cases r with
 |error e=>exact t
 |ok N=>
  cases N with
  |ret obj=>
   let(rfl,rfl):=t;let y:(s.heap.push Ap0[w]).get? s.heap.objs.size=sr Ap0[w]:=aR _ rfl;let L:aAl { s with heap:=s.heap.push Ap0[w] } (.ref s.heap.objs.size) "set":=(_,y,rfl)
   let D:=lA.init.lookup;let J:=lA.init.bind .ref[s.heap.objs.size]
   repeat (any_goals (first|assumption|wp_step))
   refine jH (iD (R:=wants (λr d=>r=.none/\Q .ref[s.heap.objs.size] d) E) lA.init.plain F.entry_set_init (Amz L ?_)) λh d a=>?_
   .refine Aub (s:={ s with heap:=s.heap.push Ap0[w] }) H y G.push[_] C B λj n m q S i=>(rfl,k j n m (λb o z=>q b o bZ[aU[z]] (aF _ z)) S i)
   .cases h with
    |error e=>exact a
    |ok g=>
     cases g with
     |ret r=>
      let(rfl,T):=a
      repeat (any_goals (first|assumption|wp_step))
     |_=>exact a.elim
  |_=>exact t.elim
end
section
def Bb8{n:Nat}{Q:Nat->aO->Prop}(hn:n≠0)(h:∀i d,i < n->Q i { s with drawn:=d }):wpAny M A (choose src n) Q E s:=λΓ p uu=>(hn,h _ _ (aCr _ Nat.pos_of_ne_zero[hn]))
theorem Aaf{c:Type}:∀(a:lg c)(i:Nat)(h:i < a.length),((getElem[a][i][by get_elem_tactic])::a.eraseIdx i).Perm a
 |_::_,0,_=>.rfl
 |x::a,i+1,h=>(aDi ..).trans ((Aaf a i _).cons x)
theorem Bf1{f:Type}:∀(n:Nat)(a:lg f)(s:aO)(Q:lg f->aO->Prop),a.length=n->(∀e d,e.Perm a->Q e { s with drawn:=d })->wpAny M A (drawOrder n a) Q E s
 |0,a,s,Q,hn,h=>by
  obtain rfl:=oN hn;exact aJ (h [] s.drawn .rfl)
 |n+1,[],s,Q,hn,h=>by trivial
 |n+1,x::a,s,Q,hn,h=>by
  refine aA[Bb8[by simp] λi d hi=>?_]
  rw[aM hi];exact aA[Bf1 n _ _ _ (by rw[pZ hi,hn];rfl) λe g p=>aJ h[_][g][(p.cons _).trans (Aaf _ i hi)]]
end
def slot_set_iter:Slot "set" "__iter__" "set.__iter__":=(
 .of (owner:="set") (n:="__iter__") (by rfl) (by rfl) (by rfl) (by rfl) (by trivial) (by rfl))
def Agf:entryFor table "set.__iter__"=sr kY.«frozenset.__iter__»:=(
 zU (id':="frozenset.__iter__") (by rfl') rfl () (by rfl))
def Aid(a:aG):argsOk "set.__iter__" ([a],[]):=by rfl'
def Ca:Slot "set_iterator" "__next__" "set_iterator.__next__":=(
 .of (owner:="set_iterator") (n:="__next__") (by rfl) (by rfl) (by rfl) (by rfl) (by trivial) (by rfl))
def Ho:entryFor table "set_iterator.__next__"=sr kY.«set_iterator.__next__»:=(xQ[by rfl])
def Iu(a:aG):argsOk "set_iterator.__next__" ([a],[]):=by rfl'
section
variable{es:Array (Int×aG)}{ep i:Nat}
abbrev itF(first:aG)(i:Nat)(a:aL)(n ep:Nat):Data:=.fields #[first,.int i 0,.ref a,.int n 0,.int ep 0]
def stops{d:Type}{R:d->aO->Prop}(f:A.handled=sy)(k:∀c (e:aL),(∀b o,s.heap.get? b=sr o->c.get? b=sr o)->(∃o,c.get? e=sr o/\o.cls=.type "StopIteration")->E' .ref[e] { s with heap:=c }):
  wpAny (model P w) A (do let e<-newExc .type["StopIteration"] [];raiseNew e:Sem d) R E' s:=by
 refine aA ?_;refine aA (m:=firstArgMember _ _) (qO (a:=gJ) (by rfl) ?_)
 refine dU ?_ (by size_fits)
 refine aA aAg[?_];rw[f];refine aA aJ[xU[k _ _ (λb o z=>aF _ (aF _ z)) (_,aR _ rfl,rfl)]]
def Blq{j nx:Nat}(c:s.heap.get? I=sr k)(l:k.cls=.type "set_iterator")(hd:k.data=itF (.int j 0) i a es.size ep)(p:s.heap.get? a=sr o)(d:o.data=.set es ep t)(hf:t.fits es.size=t8)(r:∀(u:aG->aO->Prop)(n:o9[aG×Nat]->aO->Prop),n sr[u6 x nx] s->wpAny (model P w) A.in1 (setNext a j i ep) n u s)(q:∀e b,gD I s.heap e->e.get? I=sr b->b.cls=.type "set_iterator"->b.data=itF (.int nx 0) (i+1) a es.size ep->Q sr[x] { s with heap:=e }):
  wpAny (model P w) A pyNext[.ref[I]] Q E s:=by
 let m:s.TypeIs .ref[I] "set_iterator":=(_,c,l);unfold pyNext;refine aA mO[cW[m][Ca][cZ Ca m Ho ?_ Iu[_]]];refine aA aJ[aA[qC c hd ?_]];dsimp only;refine aA[jT p d hf ?_];rw[dq[by simp]]
 refine aA[r _ _ ?_];dsimp only;let h:=cY (iT (·.setIfInBounds 0 rawInt[nx])) c fH[cU hd _];let f:=cU hd (·.setIfInBounds 0 rawInt[nx]);refine aA[fP c hd (by simp) aA[fP[h][f][by simp][aJ (x,rfl,aJ q[_][_][(gR ..).trans (gR ..)][cY _ h fH[cU f _]][(lJ ..).trans ((lJ ..).trans l)][?_])]]]
 rw[cU f];simp[rawInt]
def Blr{h:Nat}(m:A.handled=sy)(f:s.heap.get? I=sr j)(p:j.cls=.type "set_iterator")(hd:j.data=itF (.int h 0) i a es.size ep)(r:s.heap.get? a=sr o)(d:o.data=.set es ep t)(hf:t.fits es.size=t8)(v:∀(x:aG->aO->Prop)(l:o9[aG×Nat]->aO->Prop),l sy s->wpAny (model P w) A.in1 (setNext a h i ep) l x s)(u:∀c,(∀b o,b≠I->s.heap.get? b=sr o->c.get? b=sr o)->Q sy { s with heap:=c }):
  wpAny (model P w) A pyNext[.ref[I]] Q E s:=by
 let k:s.TypeIs .ref[I] "set_iterator":=(_,f,p);unfold pyNext;refine aA mO[cW[k][Ca][cZ Ca k Ho ?_ Iu[_]]];refine aA aJ[aA[qC f hd ?_]];dsimp only;refine aA[jT r d hf ?_];rw[dq[by simp]]
 refine aA[v _ _ ?_];dsimp only;refine aA fP[f][hd][by simp][stops m λc e q ty=>?_]
 exact aA (lW (b:=true) ty uA aJ[u c λb o n z=>q b o ((cJ _ _ eO[n]).trans z)])
def Bls{q pl:Nat}{h0:Int}(e:s.heap.get? I=sr h)(j:h.cls=.type "set_iterator")(hd:h.data=itF .ref[T] i a es.size ep)(k:s.heap.get? a=sr o)(c:o.data=.set es ep t)(hf:t.fits es.size=t8)(n:s.heap.get? T=sr l)(f:l.data=.seq ps q)(hp:ps[i]?=sr rawInt[pl])(m:es[pl]?=sr[u6 h0 x])(p:∀g b,gD I s.heap g->g.get? I=sr b->b.cls=.type "set_iterator"->b.data=itF .ref[T] (i+1) a es.size ep->Q sr[x] { s with heap:=g }):
  wpAny (model P w) A pyNext[.ref[I]] Q E s:=by
 let d:s.TypeIs .ref[I] "set_iterator":=(_,e,j);refine aA mO[cW[d][Ca][cZ Ca d Ho ?_ Iu[_]]];refine aA aJ[aA[qC e hd ?_]];dsimp only;refine aA[jT k c hf ?_];rw[dq[by simp]]
 simp only[dW];refine aA[gO n f ?_];simp only[hp,rawInt];unfold setNextDrawn;refine aA aA[jL k c hf ?_];simp only[bne_self_eq_false,kZ,if_false,dW,m];refine aJ aA[fP[e][hd][by simp][aJ (x,rfl,aJ p[_][_][gR ..][cY _ e fH[cU hd _]][(lJ ..).trans j][?_])]]
 rw[cU hd];simp
def Blt{x:Nat}(m:A.handled=sy)(d:s.heap.get? I=sr j)(p:j.cls=.type "set_iterator")(hd:j.data=itF .ref[T] i a es.size ep)(r:s.heap.get? a=sr o)(g:o.data=.set es ep t)(hf:t.fits es.size=t8)(u:s.heap.get? T=sr l)(h:l.data=.seq ps x)(hp:ps[i]?=sy)(v:∀f,(∀b o,b≠I->s.heap.get? b=sr o->f.get? b=sr o)->Q sy { s with heap:=f }):
  wpAny (model P w) A pyNext[.ref[I]] Q E s:=by
 let c:s.TypeIs .ref[I] "set_iterator":=(_,d,p);unfold pyNext;refine aA mO[cW[c][Ca][cZ Ca c Ho ?_ Iu[_]]];refine aA aJ[aA[qC d hd ?_]];dsimp only;refine aA[jT r g hf ?_];rw[dq[by simp]]
 simp only[dW];refine aA[gO u h ?_];simp only[hp];let k:=cY (iT (·.setIfInBounds 0 rawInt[0])) d fH[cU hd _];refine aA[fP d hd (by simp) aA[fP[k][cU hd _][by simp][stops m λf e q ty=>?_]]]
 exact aA (lW (b:=true) ty uA aJ[v f λb o n z=>q b o ((cJ _ _ eO[n]).trans ((cJ _ _ eO[n]).trans z))])
end
def Td:Slot "set_iterator" "__iter__" "set_iterator.__iter__":=(
 .of (owner:="set_iterator") (n:="__iter__") (by rfl) (by rfl) (by rfl) (by rfl) (by trivial) (by rfl))
def Ac5:entryFor table "set_iterator.__iter__"=sr kY.«dict_keyiterator.__iter__»:=(
 zU (id':="dict_keyiterator.__iter__") (by rfl') rfl () (by rfl))
section
variable{P:cF}{w:dG}{A:fJ}{E:aG->aO->Prop}{s:aO}{I a:aL}{oI o:o7}{es:Array (Int×aG)}{ep i:Nat}{t:uD}{first:aG}{vs:lg aG}
def Bf2{Q:aG->aO->Prop}(b:s.TypeIs .ref[I] "set_iterator")(h:Q .ref[I] s):wpAny (model P w) A pyIter[.ref[I]] Q E s:=(wM b Td (cZ Td b Ac5 (aJ (_,rfl,"set_iterator",_,b,Ca.lookup,h)) (by
   rfl')))
theorem Blu{f:Nat->Nat}(F:A.handled=sy)(L:a≠I)(j:o.data=.set es ep t)(hf:t.fits es.size=t8)(D:∀i (s:aO),s.heap.get? a=sr o->∀(r:aG->aO->Prop)(g:o9[aG×Nat]->aO->Prop),g ((vs[i]?).map λx=>(u6 x f[i+1])) s->wpAny (model P w) A.in1 (setNext a f[i] i ep) g r s):
  aCx P w A I [I,a] [I] vs.length (λi v=>vs[i]?=sr v) (λi h=>h.get? a=sr o/\∃oI,h.get? I=sr oI/\oI.cls=.type "set_iterator"/\oI.data=itF (.int f[i] 0) i a es.size ep) where
 sub:=λb c=>by simp at c;simp[c]
 frame:=λi h u st hk=>(hk a (by simp) _ st.1,st.2.imp λoI z=>(hk I (by simp) _ z.1,z.2))
 item:=λi s Q E hi st l=>by
  let(d,oI,n,m,B):=st;refine Blq (x:=(getElem[vs][i][by get_elem_tactic])) (nx:=f[i+1]) n m B d j hf (λr g q=>D i s d r g (by rw[aM hi];exact q)) λu y C J H G=>?_
  exact l _ u s.toks aM[hi] ((C.2 a L).trans d,y,J,H,G) λb o c e=>(C.2 b (by simpa using c)).trans e
 done:=λs Q E st l=>by
  let(d,oI,n,m,B):=st;exact Blr F n m B d j hf (λr g q=>D _ s d r g (by rw[eE aN[_]];exact q)) λu k=>l u s.toks λb o c e=>k b o (by simpa using c) e
 self:=λi s Q E st l=>by
  let(_,oI,n,m,_):=st;exact Bf2 (_,n,m) l
def Blv{T:aL}{H:o7}{ps:lg Nat}{X:Nat}(N:A.handled=sy)(Y:a≠I)(TI:T≠I)(l:o.data=.set es ep t)(hf:t.fits es.size=t8)(m:H.data=.seq (ps.map λ(i:Nat)=>rawInt i).toArray X)(j:∀p∈ps,p < es.size):
  aCx P w A I [I,a,T] [I] (ps.filterMap λp=>es[p]?.map (·.2)).length (λi v=>(ps.filterMap λp=>es[p]?.map (·.2))[i]?=sr v) (λi h=>h.get? a=sr o/\h.get? T=sr H/\∃oI,h.get? I=sr oI/\oI.cls=.type "set_iterator"/\oI.data=itF .ref[T] i a es.size ep):=by
 let len:∀g:lg Nat,(∀p∈g,p < es.size)->(g.filterMap λp=>es[p]?.map (·.2))=g.map λp=>(es.getD p (u6 0 .none)).2:=λg J=>by
  induction g with
  |nil=>rfl
  |cons p ps L=>
   let hp:=J p bG;rw[List.filterMap_cons_some (b:=(es.getD p (u6 0 .none)).2) (by simp[aCs,hp]),bT,L[λq z=>J q (bD _ z)]]
 rw[len ps j];exact {
  sub:=λb f=>by simp at f;simp[f]
  frame:=λi h C st hk=>(hk a (by simp) _ st.1,hk T (by simp) _ st.2.1,st.2.2.imp λoI z=>(hk I (by simp) _ z.1,z.2))
  item:=λi s Q E hi st n=>by
   let(y,B,oI,u,r,G):=st;rw[aB] at hi;let hp:=j _ fY[hi];refine Bls (pl:=(getElem[ps][i][by get_elem_tactic])) (h0:=(getElem[es][(getElem[ps][i][by get_elem_tactic])][by get_elem_tactic]).1) (x:=(getElem[es][(getElem[ps][i][by get_elem_tactic])][by get_elem_tactic]).2) u r G y l hf B m (by simp[hi]) (by simp[hp]) λC F D U S O=>?_
   exact n _ C s.toks (by simp[hi,aCs,hp]) ((D.2 a Y).trans y,(D.2 T TI).trans B,F,U,S,O) λb o f e=>(D.2 b (by simpa using f)).trans e
  done:=λs Q E st n=>by
   let(y,B,oI,u,r,G):=st;exact Blt N u r G y l hf B m (by simp) λC k=>n C s.toks λb o f e=>k b o (by simpa using f) e
  self:=λi s Q E st n=>by
   let(_,_,oI,u,r,_):=st;exact Bf2 (_,u,r) n }
end
theorem Aro{b:Type}(nx:Nat->Nat):∀(n k:Nat)(l:lg b)(out:Array b),l.length=n->(pickOrder.go nx n k l out).toList.Perm (out.toList ++ l)
 |0,k,l,out,h=>by
  obtain rfl:=oN h;simp[pickOrder.go]
 |n+1,k,l,out,h=>by
  let hi:nx k % l.length < l.length:=aCr _ ()
  unfold pickOrder.go;rw[aM hi];refine(Aro nx n _ _ _ (by rw[pZ hi,h];rfl)).trans ?_
  rw[wK,bN];exact(Aaf l _ hi).append_left _
def Aud{c:Type}(nx:Nat->Nat)(a:Array c):(pickOrder nx a).toList.Perm a.toList:=by
 have:=Aro nx a.size 0 a.toList #[] (by rfl)
 trivial
section
variable{es:Array (Int×aG)}{ep i sl:Nat}
def Aw0{Q:o9[aG×Nat]->aO->Prop}(c:byT w=t8)(d:s.heap.get? a=sr o)(b:o.data=.set es ep t)(hf:t.fits es.size=t8)(q:Q (((pickOrder (w.params.setOrder a ep) es)[i]?).map λe=>(u6 e.2 sl)) s):wpAny (model P w) A (setNext a sl i ep) Q E s:=by
 refine aA[jL d b hf aA[aA[jY[aJ[?_]]]]];rw[di (show (model P w).w.params.followText "set-order"=t8 from c),dq[by simp]]
 unfold setWalk;refine aA aA[jL d b hf aA[aA[jY[aJ[?_]]]]];rw[di (show (model P w).w.params.followText "set-order"=t8 from c)];exact aA jY[aJ[aJ[q]]]
def Aw1{Q:o9[aG×Nat]->aO->Prop}(c:byT w=tu)(f:s.heap.get? a=sr o)(b:o.data=.set es ep t)(hf:t.fits es.size=t8)(d:t.led=t8)(k:es.size<=1)(q:Q (match es[iY t.place sl]?,t.place[iY t.place sl]? with|some e,sr j=>sr u6[e.2][j+1]|_,_=>sy) s):wpAny (model P w) A (setNext a sl i ep) Q E s:=by
 unfold setNext setsByText;refine aA[jL f b hf aA[aA[jY[aJ[?_]]]]];rw[dq (by rw[show (model P w).w.params.followText "set-order"=tu from c];decide)]
 dsimp only;refine mV[λz=>?_] λh=>?_
 .let z:(!t.plain&&decide[es.size > 1])=t8:=z;simp at z;omega
 .refine aA (m:=(do if (!t.led&&!es.isEmpty)=t8 then unsupported "set:maker-not-led")) ?_
  rw[d];refine aJ aJ[?_];revert q;cases es[iY t.place sl]? with
  |none=>exact id
  |some e=>cases t.place[iY t.place sl]? <;> exact id
def Blw(hh:A.handled=sy)(hS:SetT P w s.heap a ks (!byT w))(k:∀(I:aL)(B:lg aG)(fp:lg aL)(St:Nat->dY->Prop)(Y:dY)(d:aCu),(∀b o,s.heap.get? b=sr o->Y.get? b=sr o)->s.heap.objs.size<=I->I < Y.objs.size->(∀y:fJ,y.handled=sy->aCx P w y I fp [I] B.length (λi v=>B[i]?=sr v) St)->
   St 0 Y->(∀b∈fp,b=a\/s.heap.objs.size<=b)->(∃C,mU B C/\C.Perm ks)->Q .ref[I] { s with heap:=Y,drawn:=d }):
  wpAny (model P w) A pyIter[.ref[a]] Q E s:=by
 let(o,es,ep,t,D,hex,m,S,G,hf,H,O,hp):=hS;let hT:s.TypeIs .ref[a] "set":=(_,D,hex.1);let N:=aU D;let tS:∀l:lg[Int×aG],(∀e∈l,e∈es.toList)->mU (l.map (·.2)) l.map[kvS]:=λl O=>by
  induction l with
  |nil=>exact .nil
  |cons e l ih=>
   let((tk,z),_):=Akl S (O e bG);rw[bT,bT,z];exact .cons _ tk (ih λx hx=>O x (bD _ hx))
 let u:∀l:lg[Int×aG],l.Perm es.toList->∃C,mU (l.map (·.2)) C/\C.Perm ks:=λl p=>(l.map kvS,tS l λe he=>p.mem_iff.mp he,by rw[<-G];exact p.map kvS)
 refine wM hT slot_set_iter (cZ slot_set_iter hT Agf ?_ Aid[_]);unfold kY.«frozenset.__iter__» aAq slotArgs aAm setDrawn setsByText;simp only[List.isEmpty_nil,rA,kZ,if_false,sY,bne_self_eq_false];refine aA aA[aJ[aJ[aA[aA[jT D m hf aJ[?_]]]]]];refine aA aA[jL D m hf aA[aA[jY[aJ[aJ[?_]]]]]];let nz:a≠s.heap.objs.size:=bZ N;refine mV[λz=>?_] λz=>?_
 .refine aA[Bf1 es.size cO[es.size] s _ bM λF d p=>?_];let ly:F.length=es.size:=by rw[p.length_eq,bM]
  refine aA[zO ?_ (by rw[aB,ly];exact qR H)]
  let hps:∀q∈F,q < es.size:=λq hq=>iC.mp p.mem_iff.mp[hq];let J:=aF { cls:=.type "tuple",data:=.seq (F.map λ(i:Nat)=>rawInt i).toArray } D;refine aA (wN (s:={ s with heap:=s.heap.push _,drawn:=d }) J m hf ?_)
  generalize hg:s.heap.push { cls:=.type "tuple",data:=.seq (F.map λ(i:Nat)=>rawInt i).toArray }=L at J ⊢
  let hT1:L.get? s.heap.objs.size=sr { cls:=.type "tuple",data:=.seq (F.map λ(i:Nat)=>rawInt i).toArray }:=by rw[<-hg];exact aR _ rfl
  let U:L.objs.size=s.heap.objs.size+1:=by rw[<-hg];exact fO ..
  refine aA dU[aJ (_,rfl,"set_iterator",_,(_,aR _ rfl,rfl),Ca.lookup,?_)];refine k L.objs.size _ _ _ _ d (λb o e=>aF _ (by rw[<-hg];exact aF _ e)) (by rw[U];exact gU _) (by rw[fO];exact gY _)
   (λy hA=>Blv (T:=s.heap.objs.size) (a:=a) hA (by rw[U];exact bZ wG[N]) (by rw[U];exact bZ gY[_]) m hf rfl hps) (aF _ J,aF _ hT1,_,aR _ rfl,rfl,rfl) (λb H=>?_) ?_
  .simp only[aV,cD,or_false] at H;rcases H with rfl|rfl|rfl
   .exact .inr (by rw[U];exact gU _)
   .exact .inl rfl
   .exact .inr aN[_]
  .let e1:(F.filterMap λp=>es[p]?.map (·.2))=(F.filterMap λp=>es[p]?).map (·.2):=by rw[List.map_filterMap]
   rw[e1];exact u _ ((p.filterMap _).trans (by rw[filterMap_getElem?_range]))
 .refine aA aJ[aA[wN D m hf ?_]];refine aA dU[aJ (_,rfl,"set_iterator",_,(_,aR _ rfl,rfl),Ca.lookup,?_)];let go:∀(B:lg aG)(f:Nat->Nat),f 0=0->(∃C,mU B C/\C.Perm ks)->(∀(y:fJ) i (s:aO),s.heap.get? a=sr o->∀(E':aG->aO->Prop)(Z:o9[aG×Nat]->aO->Prop),Z ((B[i]?).map λx=>(u6 x f[i+1])) s->wpAny (model P w) y (setNext a f[i] i ep) Z E' s)->
    Q .ref[s.heap.objs.size] { s with heap:=s.heap.push { cls:=.type "set_iterator",dict:=sy,data:=.fields [rawInt 0,rawInt 0,.ref a,rawInt es.size,rawInt ep].toArray } }:=λB f f0 hv hN=>by
   refine k s.heap.objs.size B _ _ _ s.drawn (λb o e=>aF _ e) aN[_] (by rw[fO];exact gY _) (λy hA=>Blu hA nz m hf hN[y.in1]) (aF _ D,_,aR _ rfl,rfl,?_) (λb H=>?_) hv
   .rw[f0];rfl
   .simp only[aV,cD,or_false] at H;rcases H with rfl|rfl
    .exact .inr aN[_]
    .exact .inl rfl
  cases X:byT w with
  |true=>
   refine go ((pickOrder (w.params.setOrder a ep) es).toList.map (·.2)) (λuu=>0) rfl u[_][Aud _ _] λy i s' r E' Z q=>Aw0 X r m hf ?_;let e:((pickOrder (w.params.setOrder a ep) es)[i]?).map (λe=>(u6 e.2 0))=(((pickOrder (w.params.setOrder a ep) es).toList.map (·.2))[i]?).map λx=>(u6 x 0):=by
    rw[aX,gC,uF];rfl
   rw[e];exact q
  |false=>
   let L:es.size<=1:=Nat.le_of_not_lt λh=>z (by
    show (!byT w&&(!t.plain&&decide[es.size > 1]))=t8;rw[X,hp (λe=>by rw[<-G,List.map_eq_nil_iff] at e;rw[<-aW,e] at h;cases h)]
    simp[h])
   let pz:t.place.size=es.size:=by
    have:=hf;unfold SetTable.fits at this;simp only[aQ,beq_iff_eq] at this;exact this.1
   refine go (es.toList.map (·.2)) (λi=>if i=0 then 0 else t.place.getD 0 0+1) rfl (u _ .rfl) λy i s' r E' Z q=>Aw1 X r m hf (by rw[O,X];rfl) L ?_
   clear O hp z go u tS S G k m hf D r;rcases wO 0 es.size with h2|h2
   .let(e,rfl):=tL.mp[Nat.le_antisymm L h2];let(j,hj):=tL.mp pz;rw[hj] at q ⊢
    cases i with
    |zero=>
     let b0:iY #[j] 0=0:=by simp[iY,wQ]
     simp only[↓reduceIte,b0];exact q
    |succ i=>
     let b1:iY #[j] (j+1)=1:=by simp[iY,wQ]
     let e1:(#[j]:Array Nat).getD 0 0=j:=rfl;simp only[e1,Nat.add_eq_zero_iff,oA,and_false,if_false,b1] at q ⊢
     exact q
   .obtain rfl:es=#[]:=Array.size_eq_zero_iff.mp Nat.le_zero.mp[h2];simpa using q
end
section
def Blx(e:s.TypeIs .ref[a] "set")(h:Q tu s):wpAny (model P w) A pG[.ref[a]] Q E s:=by
 unfold pG;refine aA[wpAny_specialOf e PySem.F.slot_set_len.lookup ?_];generalize d:("set.__len__":String)=id0;wp_delta;subst d;refine aA (lW (T:="set") (b:=true) e (by rw[uE];rfl') ?_)
 refine mV[λc=>absurd c ()][λf=>?_]
 refine mV[λf=>?_][λc=>absurd () c]
 refine aA[pB e ?_];exact aJ h
def Aw2(h:ItemsOf (λi v=>b[i]?=sr v) a b.length):a.toList=b:=by
 refine qU λi=>?_;by_cases hi:i < a.size
 .let e:a.toList[i]?=sr getElem[a][i][by get_elem_tactic]:=by simp
  rw[e];exact(h.2 i _ qH[hi]).symm
 .rw[eE[by simp_all],eE (by rw[<-h.1];omega)]
def Aw3(Q:A.handled=sy)(hS:SetT P w s.heap a L (!byT w))(hz:L.length<=1000)(k:∀h' tk d i,(∀b o,s.heap.get? b=sr o->h'.get? b=sr o)->(∃J,mU i J/\J.Perm L)->R i { s with heap:=h',toks:=tk,drawn:=d }):wpAny (model P w) A collect[.ref[a]] R E s:=by
 let(o,_,_,_,Y,y,_):=id hS;let x:=aU Y;unfold collect;refine aA wpAny_runValue[iG PySem.F.entry_proto_collect ?_];rw[jM PySem.F.plain_proto_collect _];show wpAny _ A.in1 (newList [] >>= λl=>again[.builtin "list.__iadd__" ([l,.ref a],[])]) _ _ s;refine aA dU[?_];refine aJ (oJ rN _,iG PySem.F.entry_list_iadd ?_);rw[jM rN _];generalize S:s.heap.push { cls:=.type "list",data:=.seq ([]:lg aG).toArray }=f;let hL:f.get? s.heap.objs.size=sr { cls:=.type "list",data:=.seq #[] }:=by rw[<-S];exact aR _ rfl
 let G:∀b o,s.heap.get? b=sr o->f.get? b=sr o:=λb o e=>by rw[<-S];exact aF _ e
 let z1:f.objs.size=s.heap.objs.size+1:=by rw[<-S];exact fO ..
 let S1:SetT P w f a L (!byT w):=by
  let(o,es,ep,t,ho,r):=hS;exact(o,es,ep,t,G a o ho,r)
 let hT:aAl { s with heap:=f } (.ref a) "set":=(_,G a o Y,y.1)
 show wpAny _ A.in1 (pH .ref[s.heap.objs.size] .ref[a] .ref[s.heap.objs.size]) _ _ _;unfold pH;refine aA (pB (T:="set") hT ?_);let e1:rD .ref[s.heap.objs.size] .ref[a]=tu:=by simp[rD,lQ x]
 simp only[e1,show (nY "set"==nY "list")=tu by decide,show (nY "set"==nY "tuple")=tu by decide,Bool.or_false,kZ,if_false]
 refine aA (Blw (s:={ s with heap:=f }) (show A.in1.handled=sy from Q) S1 λI i fp St m d N O i2 W st U hv=>?_)
 let LI:s.heap.objs.size≠I:=λz=>by rw[<-z] at O;exact absurd (show f.objs.size<=s.heap.objs.size from O) ()
 let Lf:s.heap.objs.size∉fp:=λz=>by
  rcases U _ z with q|q
  .exact absurd q lQ[x]
  .exact absurd (show f.objs.size<=s.heap.objs.size from q) ()
 let g:=N _ _ hL;let vl:i.length<=1000:=by
  let(J,f,m):=hv;rw[Vb f,m.length_eq];exact hz
 refine aA (fW (Blx (s:={ s with heap:=m,drawn:=d }) (_,N _ _ (G a o Y),y.1) ?_))
 let u:∀(h:dY)(c:Nat),St 0 h->(∀b o,s.heap.get? b=sr o->h.get? b=sr o)->h.get? s.heap.objs.size=sr { cls:=.type "list",data:=.seq #[] c }->
   codeAny (model P w) A (.builtin "list.extend.loop" ([.ref s.heap.objs.size,.ref I,.ref s.heap.objs.size],[])) (λr j=>match r with|.ok (.ret v)=>wpAny (model P w) A (match v with|.ref a=>(do match (<-load a).data with|.seq xs _=>pure xs.toList|_=>unsupported "internal:collect")|_=>unsupported "internal:collect") R E j|.ok _=>False|.error e=>E e j) { s with heap:=h,drawn:=d }:=λh c H D hL'=>by
  refine codeAny_extend_loopS (W A.in1 Q).toS (aH vl ()) s.heap.objs.size Lf _ i.length 0 _ #[] c rfl bI[_] H hL' ItemsOf.nil[_] λj acc c' hm Z B=>?_
  rw[Moved.eq_with hm];refine aA[wpAny_load (show j.heap.get? _=sr _ from Z) aJ[?_]];rw[Aw2 B];refine k j.heap j.toks d i (λb o e=>hm.heap b o (λX=>?_) (D b o e)) hv;rcases aV.mp X with z|z
  .exact absurd aU[e] (by rw[z];exact eN _)
  .rw[aK.mp z] at e;exact absurd aU[e] aCt.mpr[aH[aH gU[_] lR[z1.symm]][O]]
 let D:∀b o,s.heap.get? b=sr o->m.get? b=sr o:=λb o e=>N b o (G b o e);refine mV[λuu=>?_][λuu=>aJ (oJ qI _,u _ _ st D g)];refine aA oE[aA[?_]];show wpAny _ _ (updateSeq s.heap.objs.size (·.push .none) >>= λuu=>updateSeq s.heap.objs.size (·.pop)) _ _ _;refine aA[yJ g rfl ?_];let C:=cY (mW (·.push gJ)) g rfl;refine yJ (hz:=by seq_fits) C rfl ?_
 let hL4:=cY (mW (·.pop)) C rfl;let p:∀b o,b≠s.heap.objs.size->m.get? b=sr o->((m.update s.heap.objs.size (mW (·.push gJ))).update s.heap.objs.size (mW (·.pop))).get? b=sr o:=λb o n e=>(cJ _ _ eO[n]).trans ((cJ _ _ eO[n]).trans e);exact aJ (oJ qI _,u _ _ ((W A.in1 Q).frame 0 _ _ st λb X o e=>p b o (λz=>Lf[z ▸ X]) e) (λb o e=>p b o bZ[aU[e]] (D b o e)) hL4)
end
def Bhv(P:cF)(w:dG)(a:aL)(ks:lg o8):HO:=.ext λh=>SetT P w h a ks (!byT w)
section
def Inv.draw(I:Inv X aa σ H s):Inv X aa σ H { s with drawn:=d }:=(I.ok,I.os,I.bare,I.base,I.loc,I.cell,I.free,I.freeC,I.pin,I.hok,I.len)
def Aw4(v:X.calm=t8):Jk X .type["set"] (λd H Q=>∃p,∃a:lg o8,d=[.ref p]/\H p=sr .lst[a.map[V.str]]/\a.length < 4000/\∀q b,H q=sy->InS a a.length b->Q .ref[q] upd[H][q][Bhv X.prog X.w q b]):=by
 intro _ s B H d C Q I r h;let(p,a,rfl,hp,m,q):=h;let(u,rfl,j):=vals1 r;cases j;let(_,l,n,g,e):=(I.hok p _ hp);refine Auc I.ok.hd[v] (_,e,rfl,_,rfl) Afh[g] m λG D b keep S i=>(.ref _,_,I.newO (o:=Bhv _ X.w _ b) keep jF[aN[_]] (S,?_,?_),rfl,q _ b I.hok.fresh[aN[_]] i)
 .let(o,_,_,_,c,_):=S;exact(o,c)
 .rintro F E ⟨o,x,y,t,c,z⟩ k;exact(o,x,y,t,k o c,z)
def Ako(J:X.calm=t8):Jk X .builtin["sorted"] (λB H Q=>∃p c,B=[.ref p]/\H p=sr[Bhv X.prog X.w p c]/\c.length < 64/\∀q,H q=sy->Q[.ref q][upd H q .lst[(M6 c).map V.str]]):=by
 intro aa s T H B Z Q I r h;let(p,c,rfl,hp,g,q):=h;let(u,rfl,F):=vals1 r;cases F;let S:SetT X.prog X.w s.heap p c (!byT X.w):=(I.hok p _ hp).1;refine qG kind_sorted aAw aAx aAy[_] ?_;unfold kY.«sorted»
 refine aA (m:=checkCount "sorted" 1 1 _) (aJ (aA (Aw3 (A:=X.A.in1) (show X.A.in1.handled=sy from I.ok.hd J) S (aH gK[g] ()) λf tk d k hk hv=>?_)))
 let(ss,l,C):=hv;let G:k.length=c.length:=by rw[Vb l,C.length_eq]
 refine aA[aAi ?_ (by rw[G];exact aH gK[g] ())]
 generalize E:f.push[seqObj "list" k.toArray 0]=h2;let v:h2.get? f.objs.size=sr[seqObj "list" k.toArray 0]:=by rw[<-E];exact aR _ rfl
 let D:∀b ob,s.heap.get? b=sr ob->h2.get? b=sr ob:=λb ob z=>by rw[<-E];exact aF _ (hk b ob z)
 let a:s.heap.get? f.objs.size=sy:=by
  cases z:s.heap.get? f.objs.size with
  |none=>rfl
  |some o=>exact absurd aU[hk _ _ z] eN[_]
 let L:H f.objs.size=sy:=by
  cases z:H f.objs.size with
  |none=>rfl
  |some o=>
   let(ob,i):=(I.hok _ o z).there;rw[a] at i;cases i
 let old:∀(out:Array aG) b ob,s.heap.get? b=sr ob->(sortedHeap h2 f.objs.size k out).get? b=sr ob:=λout b ob z=>by
  rw[zP (λw=>by rw[w,a] at z;cases z) aU[D b ob z]]
  exact D b ob z
 refine aA fW[cZ uB (_,v,rfl) tG (yH aAj v l.keysOf (λY U rest e=>aAz (by rw[<-e];exact l)) () λn P O=>(_,rfl,?_)) uC[_]]
 let(t,b1,b2,N):=zQ l P O;obtain rfl:t=M6 c:=Aki b2.trans[C] N;let(y,j):=vC (out:=(arrOf n).map (·.2)) v;refine aJ (_,rfl,.ref f.objs.size,_,(I.draw (d:=d)).newO (o:=.lst[(M6 c).map V.str]) (tk:=tk) old[_] a (?_,_,y,W0 b1,j),rfl,q _ L);rw[aB,(Eu c).length_eq];exact aH gK[g] ()
end
section
open PySem.W PySem.Builtin PySem.Builtin.ObjectAttr in
theorem Aue(self:aG):∀{own:lg aG},(own.all λa=>match a with|.ref _=>t8|_=>tu)=t8->refuseLoop self "__setattr__" (own ++ Awk)=pure u9
 |[],_=>PySem.F.store_ValueError.passes self
 |.ref a::r,h=>by
  rw[rO,refuseLoop_ref];exact Aue self (by simpa using h)
open PySem.W PySem.Builtin PySem.Builtin.ObjectAttr in
end
abbrev Bhw(C:aL)(od:o9 aL)(t:aL):o7:={ cls:=.ref C,dict:=od,data:=.fields #[.ref t,.none,.none,.none,.bool tu,.none] }
def Bn9(K:aD)(C fI:aL):Bool:=match K.lookup C with
 |some ⟨.type "type",_,.cls cd,sl⟩=>(match cd.mro,sl.toList with
  |.ref C'::tl,[_,_,_,_,sr (.builtin n),_]=>(C'==C&&n=="ValueError.__new__"&&!cd.hasDel)&&(PySem.W.tailIn K Awk tl&&PySem.W.nsOkIn K cd.ns)&&bB K cd.ns "__init__"==sr sr[.ref[fI]]
  |_,_=>tu)
 |_=>tu
structure XsK(K:aD)(C:aL)(f:o8):Prop where
 cls:∃cd own,uZ K C=sr cd/\cd.mro=own ++ Awk/\(own.all λa=>match a with|.ref _=>t8|_=>tu)=t8/\cd.hasDict=t8
 sa:cN K (.ref C) "__setattr__"=sr (sr (.builtin "object.__setattr__"))
 no:cN K (.ref C) f=sr sy
 ob:mJ K C (.type "object")=sr t8
structure XbK(K:aD)(B:aL):Prop where
 g:vY K (.ref B) "__getattribute__"=sr (sr (.builtin "type.__getattribute__"))
 r:PySem.W.readsIn K B (.type "type")=t8
 f:PySem.W.findCls K (.ref B) (.type "type") "__init__"=sr (.val (.builtin "ValueError.__init__"))
def Bly(e C:aL)(od:o9 aL):HO:=.ext λh=>∃t,h.get? e=sr[Bhw C od t]
def Boa(C:aL)(f:o8):Sp:=λvs H Q uu=>∃e n u,vs=[.ref e,n,u]/\H e=sr[Bly e C sy]/\∀d,H d=sy->Q .non (upd upd[H][e][Bly e C sr[d]] d .xd[[(f,n)]])
structure XfK(K:aD)(C:aL)(f:o8):Prop where
 k:Ae5 K C
 hd:lG K C=t8
 no:cN K (.ref C) f=sr sy
section
variable{prog:cF}{w:dG}{A:fJ}{E:aG->aO->Prop}{h:dY}{g:Array yR}{d:aCu}{t:Nat}{os:OsState}{a C:aL}{o:o7}{od:o9 o7}{K:aD}{f:o8}{v:aG}
open PySem.W in
def Aw5{b:Tok}(k:K.In h)(I:InstAt h a o C od)(hf:findObj K C od f=sr .value[v])(c:Q .done[.ret v] (h,g,d,t,os)):
  wpAny (model prog w) A (kY.«object.__getattribute__» ([.ref a,.str f b],[])) Q E (h,g,d,t,os):=by
 let j:=I.type (M:=model prog w);let i:=looks_find (M:=model prog w) k I hf;refine aA aJ[aA[aJ[aA[j.at[aA[i.at[?_]]]]]]];exact aJ c
open PySem.W in
def Bhx(c:K.In h)(i:Ae5 K C)(I:InstAt h a o C od)(hf:findObj K C od f=sr .value[v])(p:handedIn v=t8)(n:Q v (h,g,d,t+1,os)):
  wpAny (model prog w) A (getAttr .ref[a] f b) Q E (h,g,d,t,os):=by
 let j:=I.at_;let k:=I.cls;let s:=nJ.ga.bind .ref[a];let m:(b&&onTheHeap iB["BaseException.__getattribute__"])=tu:=by cases b <;> rfl
 let e:(iB "BaseException.__getattribute__"==iB "object.__getattribute__")=tu:=by decide +kernel
 let l:(onTheHeap cV[C]&&iB "BaseException.__getattribute__"==iB "object.__getattribute__")=tu:=by rw[e];rfl
 let r:Looks[model prog w][h][typeLookup .ref[C] "__getattribute__"][sr .builtin["BaseException.__getattribute__"]]:=looks_findIn c i.ga;let q:Looks (model prog w) h (typeLookup .ref[C] "__getattr__") sy:=looks_findIn c i.gn;unfold getAttr getAttrBy;refine aA wpAny_mkText[?_]
 repeat (any_goals (first|assumption|(with_reducible refine jJ j ?_;rw[k])|with_reducible refine r.at ?_|with_reducible refine q.at ?_|wp_step))
 refine iD nJ.ga.plain yF (Aba c i j k (Aw5 c I hf ?_));show wpAny _ _ handedOut[v] _ _ _;rw[handedOut_of p];exact aJ n
end
def Blz(K:aD)(ta:TE)(f:o8):TE:=λσ H Q=>ta σ H λx H1=>(∃a C dx fs v,x=.ref a/\H1 a=sr[.ins C dx fs]/\Cls K C/\Rg K C f/\fs.lookup f=sr v/\Q v H1)\/
 ∃a C n d v,x=.ref a/\H1 a=sr[Apq a .ref[C] sr[u6 n sr[d]]]/\H1 d=sr .xd[[(f,v)]]/\XfK K C f/\Q v H1
def Bb9(T:PE X e F)(U:attributeBase e f X.env (eval e X.env)=eval e X.env):PE[X][.Attribute e f J][Blz X.K F f]:=by
 intro Z s A H Q I h;refine Attribute_any_[thn[T Z s A H _ I h] λu G ⟨x,H1,I1,rx,z⟩=>?_][by rw[arm_eval_Attribute,U]]
 rcases z with ⟨a,C,dx,fs,v,ex,r,c,n,l,q⟩|⟨a,C,n,d,v,ex,r,Y,m,q⟩
 .subst ex;obtain rfl:u=cV a:=rx;exact Apf I1 r c n l λE s2 I2 j=>(v,H1,I2,j,q)
 .subst ex;obtain rfl:u=cV a:=rx;let(((ob,vs,p1,p2,p3),ok),_,_):=(I1.hok a _ r);let(L,D,t,z2,_,B):=ok n sr[d] rfl;rw[p1] at t;cases t;let(N,p,O):=(I1.hok d _ Y);let(od,P,S):=Air p;let(E,hu,j):=Xl.some_of (v:=v) (o:=N f) (by
   let z:=O f;rw[dM,beq_self_eq_true] at z;exact z)
  let(hh,g,dr,tk,os):=G;refine Bhx I1.kIn m.k (p1,p2,by unfold PySem.W.notCls;rw[p3],by rw[B];exact P) (uO m.hd m.no rfl (by rw[S,hu])) Ais[j] (v,H1,I1.tok _,j,q)
def PA.nox(h:PA X.nox g t):PA X g t:=(λa i s b H Q I q=>
 eF[h a i s b H Q I.wish[_] q][λ_ _ ⟨vs,H',I',r',q'⟩=>(vs,H',I'.unwish,r',q')] λd d z=>z.elim)
section
def Agg(kvs:lg[Key×V])(k:Key):lg[Key×V]:=kvs.filter λkv=>decide[kv.1≠k]
def KV.drop{a:lg[Key×V]}{c:lg[Key×aG]}(r:KV a c)(k:Key):KV[Agg a k][without c k]:=by
 unfold KV at r ⊢
 unfold Agg without;induction r with
 |nil=>exact .nil
 |@cons p q ps e h t d=>
  rw[gG,gG,h.1];split
  .exact .cons h d
  .exact d
def Bl0{v:V}{Q:aG->aO->Prop}(I:Inv X G p H s)(e:H a=sr .dK[d])(j:RelV kV[k] u)(l:T9 d k=sr v)(h:∀b n,Inv X G p (upd H a .dK[Agg d k]) n->RelV v b->Q b n):wpAny (model X.prog X.w) A (call .builtin["dict.pop"] [.ref a,u]) Q E s:=by
 let(z,hd,g,c,o):=Amp I.hok e;obtain⟨b,r,m⟩:∃b,valueAt g k=sr b/\RelV v b:=by
  let q:=c.val k;rw[l] at q;cases z:valueAt g k with
  |none=>rw[z] at q;exact q.elim
  |some b=>rw[z] at q;exact(_,rfl,q)
 let hp:(keyPart u).isSome=t8:=by
  cases k with
  |inl i=>let(t,q):=(show ∃t,u=uK i t from j);subst q;rfl
  |inr x=>let(t,q):=(show ∃t,u=uL x t from j);subst q;rfl
 refine call_meetsIn tM o.typeIs PySem.F.entry_dict_pop (PySem.F.args_dict_pop_2 _ _) (meets_dict_pop_there (Fp X.prog X.w) a Af5[j] [] .inl[rfl] hp)
  (g,b,o,by rw[<-c.length];exact z,r,λD f y=>h b _ ?_ m)
 let C:∃q,D.get? a=sr q:=let ⟨q,_,_,B,_⟩:=f;(q,B);exact Afg I (by rw[e];exact iU) y C (Apn aH[dF _ _][z] hd c.drop[k] f)
def Bf3:V->lg V->Hp->VK->Prop:=λx vs H Q=>∃a kvs k v,x=.ref a/\vs=[kV k]/\H a=sr .dK[kvs]/\T9 kvs k=sr v/\Q v (upd H a .dK[Agg kvs k])
def Bca:MtM X "dict.pop" Bf3:=by
 intro r s l H x n v o Q I b c h;let(a,f,k,y,rfl,rfl,i,g,q):=h;cases b;let(u,rfl,d):=c.one;exact Bl0 I i d g λm p j e=>(y,_,j,e,q)
def KV.at{a:lg[Key×V]}{vs:lg[Key×aG]}(r:KV a vs):∀{j:Nat} {k:Key} {x:aG},vs[j]?=sr[u6 k x]->∃y,a[j]?=sr[u6 k y]/\RelV y x:=by
 unfold KV at r;induction r with
 |nil=>intro j k x h;cases h
 |@cons p q ps g h t c=>
  intro j k x e;cases j with
  |zero=>
   cases e;let d:p.1=k:=h.1;subst d;exact(p.2,rfl,h.2)
  |succ j=>exact c e
def KV.at'{a:lg[Key×V]}{c:lg[Key×aG]}(r:KV a c):∀{j:Nat} {p:Key×V},a[j]?=sr p->∃x,c[j]?=sr[u6 p.1 x]:=by
 unfold KV at r;induction r with
 |nil=>intro j k h;cases h
 |@cons p q ps g h t d=>
  intro j k e;cases j with
  |zero=>cases e;exact(q.2,by rw[h.1];rfl)
  |succ j=>exact d e
def Bf4(h:(Fp P w).is k u=t8):RelV kV[k] u:=by
 rcases Dr h with ⟨i,t,rfl,rfl⟩|⟨x,t,rfl,rfl⟩ <;> exact(t,rfl)
theorem Agh:∀{b:lg V} {c:lg aG},b.length=c.length->(∀(j:Nat)(v:aG),c[j]?=sr v->∃x,b[j]?=sr x/\RelV x v)->Vals b c
 |[],[],_,_=>.nil
 |x::b,u::c,d,h=>by
  let(y,e,r):=h 0 u rfl;cases (e);exact .cons r (Agh aBe[d] λj v q=>h (j+1) v q)
 |[],_::_,d,_=>by trivial
 |_::_,[],d,_=>by trivial
def Ap1(n:X.calm=t8):Jk X .type["list"] (λf H Q=>∃a b,f=[.ref a]/\H a=sr .dK[b]/\∀l,H l=sy->Q[.ref l][upd H l .lst[b.map λp=>kV p.1]]):=by
 intro P s G H f L Q I r h;let(a,b,rfl,o,q):=h;let(u,rfl,i):=vals1 r;cases i;let(z,hd,J,d,D):=Amp I.hok o;let(O,E):=D.dictAt;let g:=d.length;refine PySem.W.kdl_call xP[hd] I.ok.hd[n] E (by rw[<-g];exact z) λt N c F kp e hi=>?_
 let m:Vals (b.map λp=>kV p.1) c.toList:=by
  refine Agh (by rw[aB,g,<-hi.1];rfl) λj v hv=>?_
  let(k,x,C,B):=hi.2 j v (by rw[<-gC];exact hv)
  let(y,A,_):=d.at C;exact(kV k,by rw[aX,A];rfl,Bf4 B)
 exact(.ref s.heap.objs.size,_,I.laid kp aN[_] (show Eo X.prog X.w _ t _ .lst[_] from (by rw[aB];exact z,c.toList,F,m,e)),rfl,q _ I.hok.fresh[aN[_]])
def Auf(l:X.calm=t8):Jk X .type["set"] (λf H Q=>∃p,∃is:lg Int,f=[.ref p]/\H p=sr .lst[is.map[V.int]]/\is.length < 4000/\∀q S,H q=sy->Q .ref[q] upd[H][q][.set S (is.foldl gH []).length]):=by
 intro _ s v H f w Q I r h;let(p,is,rfl,hp,y,q):=h;let(u,rfl,j):=vals1 r;cases j;let(_,a,n,g,e):=(I.hok p _ hp);let d:=g.length;rw[aB] at d;let z:tO (λi=>is.getD i 0) a.toArray.size=is.foldl gH []:=by
  unfold tO;have:(cO a.toArray.size).map (λi=>is.getD i 0)=is:=by
   refine List.ext_getElem[by simp[d]] λi A m=>?_
   simp[cG,aM m]
  rw[this]
 refine call_set_list I.ok.hd[l] (_,e,rfl,_,rfl) intsAre_of[g] (by rw[bV,<-d];unfold scanBound;omega) λB x S k=>(.ref _,_,I.newO (o:=.set _ _) (λb o z=>k b o aU[z] z) jF[aN[_]] S,rfl,?_)
 rw[z];exact q _ _ I.hok.fresh[aN[_]]
def Auh:Jk X .builtin["len"] (λc H Q=>∃a S n,c=[.ref a]/\H a=sr[.set S n]/\n < 4000/\Q .int[n] H):=by
 intro m s g H c i Q I r h;let(a,S,n,rfl,f,j,q):=h;let(u,rfl,d):=vals1 r;cases d;let(o,k,l,t,e,b,hd,_,_,_,hf,rfl):=I.hok a _ f;exact call_len_set e b hd hf () (.int _,H,I.tok _,(_,rfl),q)
def Itk(d:aL)(o:o7)(kvs:lg[Key×V]):It:=
 (λi H=>H d=sr[.frz o .dK[kvs]]/\i < kvs.length,λi H x H'=>H'=H/\∃p,kvs[i]?=sr p/\x=kV p.1,λi H=>H d=sr[.frz o .dK[kvs]]/\kvs.length<=i)
def Aw6(I:Inv X t p H s)(e:H d=sr[.frz o .dK[f]])(h:o.data=.dict l n):∃a,KV f a/\s.heap.DictAt (Fp X.prog X.w) d a n:=by
 let(g,_,_,a,b,q,k,m,i,c,j,r):=I.hok d _ e;rw[g] at i;cases i;rw[h] at j;cases j;exact(a,b,o,l,g,c,h,r)
theorem Aui{P:cF}{w:dG}{K:aD}{O:cM}(G:o.data=.dict es U)(f:aL):Turn P w K O (Itk d o l) [f] f (λi h=>h.IsKeyIter f d i l.length U) where
 mem:=by simp
 obj:=λi h st b g=>by
  let e:b=f:=by simpa using g
  subst e;let(o,e,c,d):=st;exact(o,e,λv z=>by rw[d] at z;cases z)
 keep:=λi h n st k=>st.at λo e=>k f (by simp) o e
 item:=by
  intro X t q hK J i L s F H E I hf st r;subst t q hK;let(hd,hi):=r;let(N,a,D):=Aw6 I hd G;let(x,S):=a.at' aM[hi];let(C,B,T,A,y,u):=hf f (by simp)
  rw[a.length] at st;refine wpAny_pyNext_dict_item st D S λp n hk j Q=>?_;let Z:Inv X L F H { s with heap:=n }:=I.turned (t':=s.toks) (λb o g e=>(Q.2 b g).trans e) C B A y u
  let(o,e,c,d):=id j;exact(p,rfl,Aml (s:={ s with heap:=n }) e c d () (kV (getElem[l][i][by get_elem_tactic]).1,H,Z,Bf4 hk,(rfl,_,aM hi,rfl),by rw[a.length];exact j,λb g=>(hf b g).1))
 done:=by
  intro X t q hK J i L s F H E I hf st r;subst t q hK;let(hd,hi):=r;let(N,a,D):=Aw6 I hd G;let(C,B,T,A,y,u):=hf f (by simp)
  rw[a.length] at st hi;exact wpAny_pyNext_dict_end I.ok.hd[J] st D eE[hi] λn Y=>(rfl,I.turned (t':=s.toks) (λb o g e=>Y b o g e) C B A y u)
 self:=λm m m m m st h=>wpAny_pyIter_keyiter st h
def Inv.freeze(I:Inv X g f H s)(e:H d=sr .dK[a])(c:s.heap.get? d=sr o):Inv X g f upd[H][d][.frz o .dK[a]] s:=(
 I.write (t':=s.toks) (by rw[e];trivial) .inl[rfl] (λb b b q=>q) (o,c) (c,I.hok d _ e))
def Inv.thaw(I:Inv X k h H s)(e:H d=sr[.frz o .dK[f]]):Inv X k h (upd H d .dK[f]) s:=by
 let ne:∀{b u},H b=sr u->(∀o,u≠.frz o .dK[f])->b≠d:=λq n z=>by subst z;rw[e] at q;cases q;exact n _ rfl
 let j:∀{b},H b=sy->b≠d:=λq z=>by subst z;rw[e] at q;cases q
 refine I.step (g':=s.gens) (d':=s.drawn) (t':=s.toks) (ch:=[]) (λa z=>nomatch z) (λa a a a a q a=>q) (λb o a a a q a=>(o.slots,q)) (λb o a a n=>by rw[Ao j[n]];exact n) (λb o a q=>(o,q))
  (λb i q=>by rw[Ao[ne q λa z=>nomatch z]];exact q) (λb o u q=>by rw[Ao[ne q λa z=>by cases z]];exact q) (λb ps q=>(#[],by rw[Ao[ne q λa z=>nomatch z],q,pU])) (λa q=>q) (λb u q=>?_) I.bare
 by_cases g:b=d
 .subst g;rw[Am] at q;cases q;exact(I.hok b _ e).2
 .rw[Ao g] at q;exact(I.hok b u q).stay (λa a a z=>z) (λc z=>by rw[Ao[ne z λa z=>nomatch z]];exact z) λc i z=>by rw[Ao[ne z λa z=>nomatch z]];exact z
def Bf5(tl:TE):TI:=λσ H R=>tl σ H λx H1=>∃a kvs,x=.ref a/\H1 a=sr .dK[kvs]/\∀o,R[Itk a o kvs][upd H1 a (.frz o .dK[kvs])]
def Arp{l:cM}{i:TE}(w:PE X l i):PI X D l Bf5[i]:=by
 intro B s n H R I h;refine thn[w B s n H _ I h] λv c ⟨x,H1,I1,r1,q1⟩=>?_;let(a,u,e,k,q):=q1;subst e;cases r1;let(z,hd,C,f,A):=Amp I1.hok k;let(G,m):=A.dictAt;let(o,F,j,E,g,r):=id m;refine wpAny_pyIter_dict hd m ?_;let ne:c.heap.objs.size≠a:=lQ aU[j];refine(c.heap.objs.size,[c.heap.objs.size],_,_,_,rfl,(I1.freeze k j).kept λb o e=>aF _ e,Aui g _,(_,aR _ rfl,rfl,by rw[f.length];rfl),λb y=>?_,q o)
 let e:b=c.heap.objs.size:=by simpa using y
 subst e;exact I1.fpOk aN[_] (by rw[Ao ne];exact I1.fresh)
def Ai8(Q:VK):VK:=λv H=>Q v H\/∃d o kvs,H d=sr[.frz o .dK[kvs]]/\Q v (upd H d .dK[kvs])
def PE.thaw(h:PE X e t):PE X e (λb H Q=>t b H Ai8[Q]):=(λj s b H Q I q=>eF (h j s b H _ I q) (λu l ⟨v,H1,I1,r1,a⟩=>by
 rcases a with a|⟨d,o,i,e,a⟩
 .exact(v,H1,I1,r1,a)
 .exact(v,_,I1.thaw e,r1,a)) λg g z=>z)
def PS.thaw{g:cQ}{t:TS}(h:PS X g t):PS X g (λD i H=>t { D with nx:=λc k=>D.nx c k\/∃d o a,k d=sr[.frz o .dK[a]]/\D.nx c (upd k d .dK[a]) } i H):=(λn s i H D I q=>eF (h n s i H _ I q) (λf r z=>by
 cases f <;> try exact z
 obtain⟨b,p,l,j|⟨d,o,a,e,j⟩⟩:=z
 .exact(b,p,l,j)
 .exact(b,_,l.thaw e,j)) λm m z=>z)
end
def Aw7{t b:aL}{g:lg aG}{prog:cF}{w:dG}{A:fJ}{E:aG->aO->Prop}{s:aO}{Q:aG->aO->Prop}(q:vW s.heap t #[])(r:vW s.heap b g.toArray)(h:Q .ref[b] s):wpAny (model prog w) A (binaryOp .Add .ref[t] .ref[b]) Q E s:=by
 let((cls,u,k,o),i,j,n,hd):=id q;let((l,f,data2,e),a,d,p,c):=id r;simp only at j hd d c;subst j hd d c;exact wC (_,i,rfl) (_,a,rfl) rJ uX nG mY (mL _ _)
  (tuple_addW0 t b #[] g.toArray n p u f o e rfl) (i,a,h)
def Bf6(K:aD):R2:=λx y H Q=>∃a b ys,x=.ref a/\y=.ref b/\SqT K H a []/\SqT K H b ys/\Q .ref[b] H
def Bcb:OpR X binaryOp[.Add] Bf6[X.K]:=by
 intro n s k H x y v u Q I e d h;let(a,b,l,rfl,rfl,j,i,q):=h;cases e;cases d;let(g,f,p1,_):=I.tuple j;let(c,m,p2,_):=I.tuple i;cases f;exact Aw7 p1 p2 (.ref b,H,I,rfl,q)
def Bl1(tb:(St->XK)->TS):TS:=tb λuu uu uu uu=>False
def Bcc{X:Cx}{body:lg cQ}{t:rE}{p:lg rE}{i:Pos}{tb:(St->XK)->TS}(r:∀(pn:lg[aL×o7])(xe:aG->aO->Prop)(E:St->XK),Ec[CXo X.prog X.w][X.tryB pn xe][E]->PSs (X.tryB pn xe) body tb[E]):
  PS X (.Try body (t::p) [] [] i) Bl1[tb]:=by
 intro x s n H D I h;refine wpAny_Try_except[eF[r (X.pn ++ x) _ _ ?pass [] s n H D I.tryIn h][λf l q=>?_] λe l q=>q]
 case pass=>
  intro j m F l e B C k;let(_,_,_,_,_,_,_,q):=k;exact q.elim
 cases f with
 |next=>let(a,d,c,z):=q;exact sV (a,d,c.tryOut,z)
 |brk=>let(a,d,c,z):=q;exact(a,d,c.tryOut,z)
 |cont=>let(a,d,c,z):=q;exact(a,d,c.tryOut,z)
 |ret u=>let(v,a,d,c,o,z):=q;exact(v,a,d,c.tryOut,o,z)
end L2
namespace D
open PySem PySem.Spec PyProof.Rows L2
inductive W where
 |non
 |bl (b:Bool)
 |int (i:Int)
 |str (x:o8)
 |tup (ws:List W)
 |ref (n:Nat)
 |scr (ns:List Int)
 |ty (n:String)
 |cls (c:Nat)
 |exn (c:Nat) (w:W)
inductive Cell where
 |lst (ws:List W)
 |dct (kvs:List (Key×W))
 |ins (c:Nat) (fs:List (o8×W))
 |dead
abbrev Store:=lg Cell
inductive R(α:Type) where
 |ok (a:α) (S:Store)
 |exc (c:Nat×W) (S:Store)
 |bad
abbrev M(α:Type):=Store->R α
@[inline] def M.ret {α:Type} (a:α):M α:=λS=>.ok a S
def M.bind{α β:Type}(m:M α)(f:α->M β):M β:=λS=>match m S with
 |.ok a S1=>f a S1
 |.exc c S1=>.exc c S1
 |.bad=>.bad
instance:Monad M where
 pure:=M.ret
 bind:=M.bind
def bad{α:Type}:M α:=λuu=>.bad
structure Th where
 K:aD
 cl:Nat->aL
 xf:Nat->Option o8
 pl:Nat->Bool
def Scr(Θ:Th)(H:Hp)(l:aL)(ns:lg Int):Prop:=(∃o,H l=sr[.frz o .lst[ns.map[V.int]]])\/
 ∃(o:o7)(its:Array aG)(n:Nat),Θ.K.lookup l=sr o/\o.cls=.type "list"/\o.dict=sy/\o.data=.seq its n/\its.size<=sizeLine/\Vals ns.map[V.int] its.toList
def Scr.sq(h:Scr a H l ns):SqL a.K H l ns.map[V.int]:=by
 rcases h with ⟨o,h⟩|h
 .exact .inl[.inr (o,h)]
 .exact .inr h
mutual
inductive RV(Θ:Th)(Z:List aL)(H:Hp):W->V->Prop
 |non:RV Θ Z H .non .non
 |bl (b:Bool):RV Θ Z H (.bl b) (.bl b)
 |int (i:Int):RV Θ Z H (.int i) (.int i)
 |str (x:o8):RV Θ Z H (.str x) (.str x)
 |tup {a:aL} {ws:List W} {vs:List V}:H a=sr (.tup vs)->RVs Θ Z H ws vs->RV Θ Z H (.tup ws) (.ref a)
 |ref {n:Nat} {a:aL}:Z[n]?=sr a->RV Θ Z H (.ref n) (.ref a)
 |scr {l:aL} {ns:List Int}:Scr Θ H l ns->RV Θ Z H (.scr ns) (.ref l)
 |ty (n:String):RV Θ Z H (.ty n) (.ty n)
 |cls (c:Nat):RV Θ Z H (.cls c) (.ref (Θ.cl c))
 |exn {c:Nat} {w:W} {a:aL} {o:Option (Nat×Option aL)}:Θ.xf c=sy->a∉Z->H a=sr (Apq a (.ref (Θ.cl c)) o)->RV Θ Z H (.exn c w) (.ref a)
 |exf {c:Nat} {w:W} {v:V} {a d:aL} {n:o8}:Θ.xf c=sr n->a∉Z->d∉Z->H a=sr (Apq a (.ref (Θ.cl c)) (sr (u6 1 (sr d))))->H d=sr (.xd [(n,v)])->RV Θ Z H w v->RV Θ Z H (.exn c w) (.ref a)
inductive RVs(Θ:Th)(Z:List aL)(H:Hp):List W->List V->Prop
 |nil:RVs Θ Z H [] []
 |cons {w:W} {v:V} {ws:List W} {vs:List V}:RV Θ Z H w v->RVs Θ Z H ws vs->RVs Θ Z H (w::ws) (v::vs)
end
structure Ck(Z Z':List aL)(H H':Hp):Prop where
 t:∀b xs,H b=sr (.tup xs)->H' b=sr (.tup xs)
 f:∀b o u,H b=sr (.frz o u)->H' b=sr (.frz o u)
 k:∀b o,H b=sr o->b∉Z->H' b=sr o
 n:∀b,b∈Z'->b∈Z\/H b=sy
def Ck.refl(Z:lg aL)(H:Hp):Ck Z Z H H:=(λuu uu q=>q,λuu uu uu q=>q,λuu uu q uu=>q,λuu q=>.inl q)
theorem Ck.trans(a:Ck Z Z1 H H1)(b:Ck Z1 Z2 H1 H2):Ck Z Z2 H H2 where
 t:=λc d q=>b.t c d (a.t c d q)
 f:=λc o u q=>b.f c o u (a.f c o u q)
 k:=λc o q m=>b.k c o (a.k c o q m) λz=>by
  rcases a.n c z with z|z
  .exact m z
  .rw[q] at z;cases z
 n:=λc m=>by
  rcases b.n c m with z|z
  .exact a.n c z
  .by_cases g:c∈Z
   .exact .inl g
   .refine .inr ?_;cases e:H c with
    |none=>rfl
    |some o=>rw[a.k c o e g] at z;cases z
def Ck.out(t:Ck Z Z' H H')(h:H a=sr o)(m:a∉Z):a∉Z':=(λz=>by
 rcases t.n a z with q|q
 .trivial
 simp_all)
def Scr.mono(t:Ck Z Z' H H')(h:Scr a H l ns):Scr a H' l ns:=by
 rcases h with ⟨o,h⟩|h
 .exact .inl (o,t.f _ _ _ h)
 .exact .inr h
mutual
theorem RV.mono{d:Th}{Z a:lg aL}{H l:Hp}(p:Z <+: a)(t:Ck Z a H l):∀{w:W} {v:V},RV d Z H w v->RV d a l w v
 |_,_,.non=>.non
 |_,_,.bl b=>.bl b
 |_,_,.int i=>.int i
 |_,_,.str x=>.str x
 |_,_,.tup h r=>.tup (t.t _ _ h) (RVs.mono p t r)
 |_,_,.scr h=>.scr h.mono[t]
 |_,_,.ty n=>.ty n
 |_,_,.cls c=>.cls c
 |_,_,.exn x m h=>.exn x (t.out h m) (t.k _ _ h m)
 |_,_,.exf x m f h g r=>.exf x (t.out h m) (t.out g f) (t.k _ _ h m) (t.k _ _ g f) (RV.mono p t r)
 |_,_,.ref h=>.ref (by
  let(r,rfl):=p;let(o,e):=aC.mp h;rw[aY o];exact h)
theorem RVs.mono{c:Th}{Z b:lg aL}{H f:Hp}(p:Z <+: b)(t:Ck Z b H f):∀{d:lg W} {e:lg V},RVs c Z H d e->RVs c b f d e
 |_,_,.nil=>.nil
 |_,_,.cons h r=>.cons[RV.mono p t h][RVs.mono p t r]
end
def RV.tI(h:RV c Z H .tup[d] v):∃a b,v=.ref a/\H a=sr .tup[b]/\RVs c Z H d b:=by
 cases h;exact(_,_,rfl,‹_›,‹_›)
def RV.rI{n:Nat}(h:RV c Z H .ref[n] v):∃a,v=.ref a/\Z[n]?=sr a:=by
 cases h;exact(_,rfl,‹_›)
def RV.cI(h:RV a Z H .scr[ns] v):∃l,v=.ref l/\Scr a H l ns:=by
 cases h;exact(_,rfl,‹_›)
def RV.iI{i:Int}(h:RV b Z H .int[i] v):v=.int i:=by cases h;rfl
theorem RVs.length:∀{b:lg W} {c:lg V},RVs d Z H b c->b.length=c.length
 |_,_,.nil=>rfl
 |_,_,.cons _ r=>by rw[bL,bL,RVs.length r]
theorem RVs.get:∀{b:lg W} {c:lg V} {i:Nat} {w:W},RVs d Z H b c->b[i]?=sr w->∃v,c[i]?=sr v/\RV d Z H w v
 |_,_,_,_,.nil,e=>by trivial
 |_,_,0,_,.cons h _,e=>by simp at e;subst e;exact(_,rfl,h)
 |_,_,i+1,w,.cons _ r,e=>by
  let(v,j,f):=RVs.get r (by trivial)
  exact(v,by trivial,f)
theorem RVs.append:∀{d f:lg W} {e c:lg V},RVs b Z H d e->RVs b Z H f c->RVs b Z H (d ++ f) (e ++ c)
 |_,_,_,_,.nil,s=>s
 |_,_,_,_,.cons h r,s=>.cons h (RVs.append r s)
def RKV(Θ:Th)(Z:lg aL)(H:Hp):lg[Key×W]->lg[Key×V]->Prop:=pL λp q=>p.1=q.1/\RV Θ Z H p.2 q.2
def RFs(Θ:Th)(Z:lg aL)(H:Hp):lg[o8×W]->lg[o8×V]->Prop:=pL λp q=>p.1=q.1/\RV Θ Z H p.2 q.2
def Kl(Θ:Th)(Z:lg aL)(H:Hp)(a:aL):Cell->Prop
 |.lst ws=>∃vs,H a=sr .lst[vs]/\RVs Θ Z H ws vs
 |.dct kvs=>∃vs,H a=sr .dK[vs]/\RKV Θ Z H kvs vs
 |.ins c fs=>∃dx vs,H a=sr[.ins Θ.cl[c] dx vs]/\RFs Θ Z H fs vs
 |.dead=>∃o u,H a=sr[.frz o u]
structure Rep(Θ:Th)(Z:List aL)(S:Store)(H:Hp):Prop where
 len:Z.length=S.length
 nd:Z.Nodup
 at_:∀(n:Nat)(a:aL)(c:Cell),Z[n]?=sr a->S[n]?=sr c->Kl Θ Z H a c
def RSl(Θ:Th)(Z:lg aL)(H:Hp):lg o9[W]->lg o9[V]->Prop:=λY σ=>∀(i:Nat)(w:W),Y[i]?=sr sr[w]->∃v,σ[i]?=sr sr[v]/\RV Θ Z H w v
def RSl.mono(p:Z <+: Z')(t:Ck Z Z' H H')(h:RSl c Z H Y b):RSl c Z' H' Y b:=(λi w e=>by
 let(v,f,d):=h i w e;exact(v,f,d.mono p t))
abbrev De:=lg o9[W]
section
variable(Θ:Th)
def XP(Z:lg aL)(H:Hp)(c:Nat×W)(E:XK):Prop:=match Θ.xf c.1 with
 |none=>E .ref[Θ.cl[c.1]] sr[u6 (if Θ.pl c.1 then 0 else 1) sy] H
 |some n=>∀d v,d∉Z->H d=sr .xd[[(n,v)]]->RV Θ Z H c.2 v->E .ref[Θ.cl[c.1]] sr[u6 1 sr[d]] H
def Av{α β:Type}(Rel:lg aL->Hp->α->β->Prop)(Z:lg aL)(H:Hp)(r:R α)(Q:β->Hp->Prop)(E:XK):Prop:=match r with
 |.ok w S'=>∀Z' H' v,Z <+: Z'->Ck Z Z' H H'->Rep Θ Z' S' H'->Rel Z' H' w v->Q v H'
 |.exc c S'=>∀Z' H',Z <+: Z'->Ck Z Z' H H'->Rep Θ Z' S' H'->XP Θ Z' H' c E
 |.bad=>False
inductive TF{α β:Type}(Rel:List aL->Hp->α->β->Prop)(f:De->M α)(σ:L2.St)(H:Hp)(Q:β->Hp->Prop)(E:XK):Prop
 |mk (Z:List aL) (S:Store) (Y:De) (R:Rep Θ Z S H) (sl:RSl Θ Z H Y σ) (q:Av Θ Rel Z H (f Y S) Q E):TF Rel f σ H Q E
inductive SqP{α β γ Y':Type}(Rel:List aL->Hp->α->β->Prop)(Rel2:List aL->Hp->γ->Y'->Prop)(Z:List aL)(H:Hp)(f:α->M γ)(Q:Y'->Hp->Prop)(E:XK)(v:β)(H1:Hp):Prop
 |mk (Z1:List aL) (S1:Store) (w:α) (p:Z <+: Z1) (t:Ck Z Z1 H H1) (R:Rep Θ Z1 S1 H1) (r:Rel Z1 H1 w v) (q:Av Θ Rel2 Z1 H1 (f w S1) Q E):SqP Rel Rel2 Z H f Q E v H1
inductive SqQ{α β γ Y':Type}(Rel:List aL->Hp->α->β->Prop)(Rel2:List aL->Hp->γ->Y'->Prop)(Z:List aL)(H:Hp)(Z0:List aL)(H0:Hp)(f:α->M γ)(Q:Y'->Hp->Prop)(E:XK)(v:β)(H1:Hp):Prop
 |mk (Z1:List aL) (S1:Store) (w:α) (p:Z <+: Z1) (t:Ck Z Z1 H H1) (R:Rep Θ Z1 S1 H1) (r:Rel Z1 H1 w v) (q:Av Θ Rel2 Z0 H0 (f w S1) Q E):SqQ Rel Rel2 Z H Z0 H0 f Q E v H1
def tF(E:L2.St->XK)(f:De->M W):TE:=λσ H Q=>TF Θ RV[Θ] f σ H Q E[σ]
def tFs(E:L2.St->XK)(f:De->M lg[W]):TA:=λσ H Q=>TF Θ RVs[Θ] f σ H Q E[σ]
def tFb(E:L2.St->XK)(f:De->M Bool):TT:=λσ H Q=>TF Θ (λuu uu a b=>a=b) f σ H Q E[σ]
def spF(g:lg W->M W):Sp:=λvs H Q E=>∃Z S ws,Rep Θ Z S H/\RVs Θ Z H ws vs/\Av Θ RV[Θ] Z H (g ws S) Q E
end
section
def WE.weak(h:WE X e t)(k:∀σ H Q,t' σ H Q->t σ H Q):WE X e t':=⟨λaa s σ H Q I q=>h.un aa s σ H Q I (k σ H Q q)⟩
def WA.weak(h:WA X es t)(k:∀σ H Q,t' σ H Q->t σ H Q):WA X es t':=⟨λpos aa s σ H Q I q=>h.un pos aa s σ H Q I (k σ H Q q)⟩
def WT.weak(h:WT X e t)(k:∀σ H Q,t' σ H Q->t σ H Q):WT X e t':=⟨λaa s σ H Q I q=>h.un aa s σ H Q I (k σ H Q q)⟩
theorem Av.shift{g f:Type}{a:lg aL->Hp->g->f->Prop}{Q:f->Hp->Prop}:∀{r:R g},Av k a Z H r Q E->Z <+: Z1->Ck Z Z1 H H1->Av k a Z1 H1 r Q E
 |.ok _ _,h,p,t=>λd e v p2 b c l=>h d e v p.trans[p2] t.trans[b] c l
 |.exc _ _,h,p,t=>λd e p2 b c=>h d e p.trans[p2] t.trans[b] c
 |.bad,h,_,_=>h
def Av.seq{d n j k:Type}{Rel:lg aL->Hp->d->n->Prop}{a:lg aL->Hp->j->k->Prop}{Z:lg aL}{H:Hp}{m:M d}{f:d->M j}{S:Store}{Q:k->Hp->Prop}{E:XK}(h:Av g a Z H ((m >>= f) S) Q E):
  Av g Rel Z H m[S] (SqP g Rel a Z H f Q E) E:=by
 let h:Av g a Z H (M.bind m f S) Q E:=h;unfold M.bind at h;cases e:m S with
 |bad=>rw[e] at h;exact h
 |exc c l=>rw[e] at h;exact h
 |ok w l=>
  rw[e] at h;exact λo q v p t r i=>(o,l,w,p,t,r,i,Av.shift h p t)
def Av.now{b a:Type}{Rel:lg aL->Hp->b->a->Prop}{w:b}{v:a}{Q:a->Hp->Prop}(h:Av d Rel Z H ((pure w:M b) S) Q E)(r:Rep d Z S H)(q:Rel Z H w v):Q v H:=(
 h Z H v aP[Z] (Ck.refl Z H) r q)
def Av.mono{e d:Type}{a:lg aL->Hp->e->d->Prop}{r:R e}{Q Q':d->Hp->Prop}(h:Av g a Z H r Q E)(k:∀v b,Q v b->Q' v b):Av g a Z H r Q' E:=by
 cases r with
 |ok w j=>exact λi b v p t r q=>k v b (h i b v p t r q)
 |exc c j=>exact h
 |bad=>exact h
def Vc{E:L2.St->XK}{f g:De->M W}{j:W->W->M W}{r:R2}(e:∀Z S H x y c b Q E,Rep a Z S H->RV a Z H x c->RV a Z H y b->Av a RV[a] Z H (j x y S) Q E->r c b H Q):
  ∀d H Q,tF a E (λY=>do let x<-f Y;let y<-g Y;j x y) d H Q->tOp r (tF a E f) (tF a E g) d H Q:=by
 rintro d H Q ⟨Z,S,Y,R,i,h⟩;refine(Z,S,Y,R,i,(Av.seq h).mono ?_);rintro c A ⟨s,u,x,p1,l,v,n,p⟩;refine(s,u,Y,v,i.mono p1 l,(Av.seq p).mono ?_);rintro b w ⟨q,t,y,p2,k,R2,m,o⟩;exact e q t w x y c b Q _ R2 (n.mono p2 k) m o
end
section
def Kl.there(h:Kl e Z H a c):∃o,H a=sr o:=by
 cases c with
 |lst b=>let(d,h,_):=h;exact(_,h)
 |dct b=>let(d,h,_):=h;exact(_,h)
 |ins c b=>let(f,d,h,_):=h;exact(_,h)
 |dead=>let(_,_,h):=h;exact(_,h)
def Rep.get(R:Rep d Z S H){n:Nat}(h:S[n]?=sr c):∃a,Z[n]?=sr a/\Kl d Z H a c:=by
 let b:n < Z.length:=by rw[R.len];exact(aC.mp h).1
 exact(_,aM b,R.at_ n _ c aM[b] h)
def Rep.tracked(R:Rep d Z S H)(h:a∈Z):∃o,H a=sr o:=by
 let(n,c,rfl):=uU h;let b:n < S.length:=by rw[<-R.len];omega
 exact(R.at_ n _ _ aM[c] aM[b]).there
def Paired.imp2{α β:Type}{F G:α->β->Prop}(f:∀a b,F a b->G a b){l:lg α}{m:lg β}(r:pL F l m):pL G l m:=L2.Paired.mapP r f
def Kl.mono(p:Z <+: Z')(t:Ck Z Z' H H')(k:H' a=H a)(h:Kl i Z H a c):Kl i Z' H' a c:=by
 cases c with
 |lst e=>let(b,h,r):=h;exact(b,k.trans h,r.mono p t)
 |dct e=>let(b,h,r):=h;exact(b,k.trans h,Paired.imp2 (λd d z=>(z.1,z.2.mono p t)) r)
 |ins c e=>let(j,b,h,r):=h;exact(j,b,k.trans h,Paired.imp2 (λd d z=>(z.1,z.2.mono p t)) r)
 |dead=>let(o,u,h):=h;exact(o,u,k.trans h)
theorem Bg(h:H p=sy)(q:∀b,b∈Z'->b∈Z\/b=p:=by intro b a;first|exact .inl a|(rcases bR.mp a with z|z;exact .inl z;exact .inr aK.mp[z])):Ck Z Z' H (upd H p o) where
 t:=λb d q=>by rw[Ao[Bf q h]];exact q
 f:=λb o u q=>by rw[Ao[Bf q h]];exact q
 k:=λb o q e=>by rw[Ao[Bf q h]];exact q
 n:=λb m=>by
  rcases q b m with z|z
  .exact .inl z
  .subst z;exact .inr h
theorem Rep.beside(R:Rep b Z S H)(h:H p=sy):Rep b Z S (upd H p o) where
 len:=R.len
 nd:=R.nd
 at_:=λn a c e d=>by
  let q:=R.at_ n a c e d;let(u,hu):=q.there;exact q.mono aP[Z] Bg[h] Ao[Bf hu h]
theorem Rep.alloc(R:Rep g Z S H)(h:H p=sy)(q:Kl g (Z ++ [p]) (upd H p o) p c):Rep[g][Z ++ [p]][S ++ [c]][upd H p o] where
 len:=by rw[bH,bH,R.len];rfl
 nd:=by
  rw[gB];refine(R.nd,by simp,λa l b k=>?_)
  obtain rfl:b=p:=by simpa using k
  let(u,hu):=R.tracked l;exact Bf hu h
 at_:=λn a d e f=>by
  by_cases i:n < Z.length
  .rw[aY i] at e;rw[aY (by rw[<-R.len];exact i)] at f
   let z:=R.at_ n a d e f;let(u,hu):=z.there;exact z.mono (bW _ _) Bg[h] Ao[Bf hu h]
  .let j:=(aC.mp e).1;rw[bH,cX] at j;obtain rfl:n=Z.length:=by omega
   rw[aZ aN[_],fZ] at e;rw[R.len,aZ aN[_],fZ] at f;obtain rfl:p=a:=by simpa using e
   obtain rfl:c=d:=by simpa using f
   exact q
def Mt:(Z ++ [p])[Z.length]?=sr p:=by simp
theorem Rep.write{n:Nat}(R:Rep k Z S H)(g:Z[n]?=sr a)(t:Ck Z Z H (upd H a o))(q:Kl k Z (upd H a o) a c):Rep k Z (S.set n c) (upd H a o) where
 len:=by rw[gV];exact R.len
 nd:=R.nd
 at_:=λm b d f e=>by
  by_cases h:m=n
  .subst h;rw[g] at f;cases f;let l:m < S.length:=by rw[<-R.len];exact(aC.mp g).1
   rw[eX l] at e;cases e;exact q
  .rw[fM eO[h]] at e;let ne:b≠a:=by
    rintro rfl;let(s,j):=aC.mp f;let(r,i):=aC.mp g;exact h[(jU R.nd).mp j.trans[i.symm]]
   exact(R.at_ m b d f e).mono aP[Z] t Ao[ne]
theorem K1{n:Nat}(g:Z[n]?=sr a)(h:H a=sr u)(e:∀c,u≠.tup c)(d:∀ob x,u≠.frz ob x):Ck Z Z H (upd H a o) where
 k:=λb o q m=>by
  rw[Ao (by rintro rfl;exact m dO[g])]
  exact q
 n:=λb m=>.inl m
 t:=λb c q=>by
  rw[Ao (by rintro rfl;rw[h] at q;exact e c cA[q])]
  exact q
 f:=λb ob x q=>by
  rw[Ao (by rintro rfl;rw[h] at q;exact d ob x cA[q])]
  exact q
end
def big:Nat:=1000000
def K3{n:Nat}(h:n<=big):n<=sizeLine:=(aH h ())
def Be(ws:lg W):M W:=λS=>if ws.length<=big then .ok[.ref S.length][S ++ [.lst ws]] else .bad
def Aw8(ws:lg W):M W:=if ws.length<=big then pure .tup[ws] else bad
def addW:W->W->M W
 |.int i,.int j=>pure .int[i+j]
 |.str x,.str y=>if x.length+y.length<=big then pure .str[x ++ y] else bad
 |.tup xs,.tup ys=>if xs.length+ys.length<=big then pure .tup[xs ++ ys] else bad
 |.ref n,.ref m=>λS=>match S[n]?,S[m]? with
  |some (.lst xs),sr (.lst ys)=>if xs.length+ys.length<=big then .ok[.ref S.length][S ++ [.lst[xs ++ ys]]] else .bad
  |_,_=>.bad
 |_,_=>bad
def small(i:Int):Bool:=decide[-(2 ^ 64) < i]&&decide[i < 2 ^ 64]
def onI(f:Int->Int->M W):W->W->M W
 |.int i,.int j=>f i j
 |_,_=>bad
def Ac6(e:RV a Z H x c)(d:RV a Z H y b)(h:Av a RV[a] Z H (onI f x y S) Q E):∃i j,c=.int i/\b=.int j/\Av a RV[a] Z H (f i j S) Q E:=by
 unfold onI at h;split at h
 .cases e;cases d;exact(_,_,rfl,rfl,h)
 .exact(show False from h).elim
def Bl2:W->W->M W:=onI λi j=>pure .int[i - j]
def Aw9:W->W->M W
 |.int i,.int j=>if small i||small j then pure .int[i * j] else bad
 |.str z,.int n=>if decide[z.length<=16]&&decide[-1048576<=n]&&decide[n<=1048576] then pure .str[yP z n] else bad
 |.ref n,.int k=>λS=>match S[n]? with
  |some (.lst xs)=>if decide[-(2 ^ 63)<=k]&&decide[k < 2 ^ 63]&&decide[xs.length * k.toNat<=big] then .ok[.ref S.length][S ++ [.lst (bO k.toNat xs).flatten]] else .bad
  |_=>.bad
 |_,_=>bad
def Bob:W->W->M W:=onI λi j=>if 0 < j then pure .int[i % j] else bad
section
set_option tactic.hygienic true in
def Bk6(R:Rep g Z S H)(u:RV g Z H x m)(t:RV g Z H y l)(h:Av g RV[g] Z H (addW x y S) Q E):
  (rI0 (λi j=>V.int[i+j]) m l H Q\/(∃i j,m=.str i/\l=.str j/\i.length+j.length<=sizeLine/\Q .str[i ++ j] H))\/((Bfw g.K m l H Q\/Bf6 g.K m l H Q)\/Blf m l H Q):=by
 unfold addW at h;split at h
 .cases u;cases t;exact .inl[.inl (_,_,rfl,rfl,h.now R .int[_])]
 .cases u;cases t;split at h
  .rename_i z;exact .inl[.inr (_,_,rfl,rfl,K3 z,h.now R .str[_])]
  .exact(h).elim
 .let(a,v,rfl,s,d):=u.tI;let(b,k,rfl,n,f):=t.tI;split at h
  .rename_i w;cases d with
   |nil=>exact .inr .inl[.inr (a,b,k,rfl,rfl,SqT.of s,SqT.of n,h.now R (.tup n f))]
   |cons q r=>
   let d:=RVs.cons q r;let D:=d.length;let C:=f.length;refine .inr .inl[.inl (a,b,_,k,rfl,rfl,SqT.of s,SqT.of n,by simp,K3 (by rw[<-D,<-C];exact w),λe=>?_,λN p hp=>?_)]
   .subst e;cases f;rw[cH] at h;exact h.now R (.tup s d)
   .exact h Z _ _ aP[Z] Bg[hp] R.beside[hp] .tup[Am][(d.append f).mono aP[Z] Bg[hp]]
  .exact(show False from h).elim
 .let(a,rfl,F):=u.rI;let(b,rfl,G):=t.rI;split at h
  .rename_i B A J I;split at h
   .rename_i z;let(v,s,d):=R.at_ _ _ _ F J;let(k,n,f):=R.at_ _ _ _ G I;refine .inr[.inr (a,b,v,k,rfl,rfl,s,n,K3 (by rw[<-d.length,<-f.length];exact z),λp hp=>?_)]
    let L:=R.alloc (o:=.lst[v ++ k]) (c:=.lst[B ++ A]) hp (_,Am,(d.append f).mono (bW _ _) Bg[hp]);refine h (Z ++ [p]) _ _ (bW _ _) Bg[hp] L .ref[?_];rw[<-R.len];exact Mt
   .exact h.elim
  .exact h.elim
 .exact(show False from h).elim
end
def Xw:HO->Bool
 |.lst _=>tu
 |.dK _=>tu
 |.frz _ (.dK _)=>tu
 |_=>t8
mutual
theorem RV.keep{a:Th}{Z:lg aL}{H e:Hp}(t:∀b o,H b=sr o->Xw o=t8->e b=sr o):∀{w:W} {v:V},RV a Z H w v->RV a Z e w v
 |_,_,.non=>.non
 |_,_,.bl b=>.bl b
 |_,_,.int i=>.int i
 |_,_,.str x=>.str x
 |_,_,.tup h r=>.tup (t _ _ h rfl) (RVs.keep t r)
 |_,_,.ty n=>.ty n
 |_,_,.cls c=>.cls c
 |_,_,.exn x m h=>.exn x m (t _ _ h rfl)
 |_,_,.exf x m f h g r=>.exf x m f (t _ _ h rfl) (t _ _ g rfl) (RV.keep t r)
 |_,_,.scr h=>.scr (by
  rcases h with ⟨o,h⟩|h
  .exact .inl (o,t _ _ h rfl)
  .exact .inr h)
 |_,_,.ref h=>.ref h
theorem RVs.keep{c:Th}{Z:lg aL}{H f:Hp}(t:∀b o,H b=sr o->Xw o=t8->f b=sr o):∀{d:lg W} {e:lg V},RVs c Z H d e->RVs c Z f d e
 |_,_,.nil=>.nil
 |_,_,.cons h r=>.cons[RV.keep t h][RVs.keep t r]
end
def Kl.keep(k:H' a=H a)(t:∀b o,H b=sr o->Xw o=t8->H' b=sr o)(h:Kl i Z H a c):Kl i Z H' a c:=by
 cases c with
 |lst f=>let(d,h,r):=h;exact(d,k.trans h,r.keep t)
 |dct f=>let(d,h,r):=h;exact(d,k.trans h,Paired.imp2 (λe e z=>(z.1,z.2.keep t)) r)
 |ins c f=>let(j,d,h,r):=h;exact(j,d,k.trans h,Paired.imp2 (λe e z=>(z.1,z.2.keep t)) r)
 |dead=>let(o,u,h):=h;exact(o,u,k.trans h)
def Afi(h:∀u,H a=sr u->Xw u=tu):∀b o,H b=sr o->Xw o=t8->upd H a c b=sr o:=(λb o q n=>by
 rw[Ao (by rintro rfl;rw[h o q] at n;cases n)]
 exact q)
def RKV.swap{o':HO}(r:RKV Θ Z H kvs vs)(h:∀u,H a=sr u->Xw u=tu):RKV Θ Z (upd H a o') kvs vs:=Paired.imp2 (λuu uu z=>(z.1,z.2.keep Afi[h])) r
theorem Rep.swap{n:Nat}{k:HO}(R:Rep j Z S H)(g:Z[n]?=sr a)(h:∀u,H a=sr u->Xw u=tu)(q:Kl j Z (upd H a k) a c):Rep j Z (S.set n c) (upd H a k) where
 len:=by rw[gV];exact R.len
 nd:=R.nd
 at_:=λm b d f e=>by
  by_cases i:m=n
  .subst i;rw[g] at f;cases f;let p:m < S.length:=by rw[<-R.len];exact(aC.mp g).1
   rw[eX p] at e;cases e;exact q
  .rw[fM eO[i]] at e;refine(R.at_ m b d f e).keep Ao[?_] Afi[h];rintro rfl;let(t,o):=aC.mp g;let(s,l):=aC.mp f;exact i[(jU R.nd).mp l.trans[o.symm]]
def Bf7:W->W->M W:=onI λi j=>if decide[0 < j]&&decide[j < 1073741824] then pure .int[i / j] else bad
def Boc:W->W->M W:=onI λi j=>if 0<=j then pure .int[i / 2 ^ j.toNat] else bad
def Bl3:W->W->M W:=onI λi j=>if decide[0<=j]&&decide[j<=1000000]&&decide[i.natAbs < 2 ^ 64] then pure .int[i * 2 ^ j.toNat] else bad
def Bod:W->W->M W:=onI λi j=>pure .int[Builtin.bitAnd i j]
def Auj(p:Int->Int->Bool)(q:o8->o8->Bool):W->W->M W
 |.int i,.int j=>pure .bl[p i j]
 |.str i,.str j=>pure .bl[q i j]
 |_,_=>bad
def Jt(i j:o8):Bool:=decide[i.cps.toList < j.cps.toList]
section
def G5{b:Type}[Decidable c]{m:M b}{a:lg aL->Hp->b->f->Prop}{Q:f->Hp->Prop}(h:Av g a Z H ((if c then m else bad) S) Q E):c/\Av g a Z H m[S] Q E:=by
 by_cases d:c
 .rw[di d] at h;trivial
 .rw[dq d] at h;trivial
def Bk7(R:Rep a Z S H)(e:RV a Z H x c)(d:RV a Z H y b)(h:Av a RV[a] Z H (Bl2 x y S) Q E):rI0 (λi j=>V.int[i - j]) c b H Q:=by
 let(i,j,rfl,rfl,h):=Ac6 e d h;exact(_,_,rfl,rfl,h.now R .int[_])
theorem RVs.rep(r:RVs a Z H b c):∀k:Nat,RVs a Z H (bO k b).flatten (bO k c).flatten
 |0=>.nil
 |k+1=>r.append[RVs.rep r k]
set_option tactic.hygienic true in
def Boe(R:Rep d Z S H)(l:RV d Z H x f)(g:RV d Z H y e)(h:Av d RV[d] Z H (Aw9 x y S) Q E):
  (rI Bbb (λi j=>V.int[i * j]) f e H Q\/(∃z n,f=.str z/\e=.int n/\z.length<=16/\-1048576<=n/\n<=1048576/\Q .str[yP z n] H))\/Blg f e H Q:=by
 unfold Aw9 at h;split at h
 .cases l;cases g;let(b,h):=G5 h;refine .inl[.inl (_,_,rfl,rfl,?_,h.now R .int[_])];rcases mC.mp b with q|q
  .exact .inl (dg (bY.mp q).1,dg (bY.mp q).2)
  .exact .inr (dg (bY.mp q).1,dg (bY.mp q).2)
 .cases l;cases g;let(b,h):=G5 h;let(b,m):=bY.mp b;let(s,r):=bY.mp b;exact .inl[.inr (_,_,rfl,rfl,dg s,dg r,dg m,h.now R .str[_])]
 .rename_i n k;let(a,rfl,w):=l.rI;cases g;split at h
  .rename_i v B;split at h
   .rename_i b;let(b,m):=bY.mp b;let(s,r):=bY.mp b;let(t,A,u):=R.at_ _ _ _ w B;refine .inr (a,k,t,rfl,rfl,A,dg s,dg r,K3 (by rw[<-u.length];exact dg m),λp hp=>?_)
    let C:=R.alloc (o:=.lst (bO k.toNat t).flatten) (c:=.lst (bO k.toNat v).flatten) hp (_,Am,(u.rep _).mono (bW _ _) Bg[hp]);refine h (Z ++ [p]) _ _ (bW _ _) Bg[hp] C .ref[?_];rw[<-R.len];exact Mt
   .exact(show False from h).elim
  .exact(show False from h).elim
 .exact(show False from h).elim
def Bl4(R:Rep a Z S H)(f:RV a Z H x d)(e:RV a Z H y c)(h:Av a RV[a] Z H (Bf7 x y S) Q E):rI Bnr (λi j=>V.int[i / j]) d c H Q:=by
 let(i,j,rfl,rfl,h):=Ac6 f e h;let(b,h):=G5 h;exact(_,_,rfl,rfl,(dg (bY.mp b).1,dg (bY.mp b).2),h.now R .int[_])
def Bof(R:Rep a Z S H)(f:RV a Z H x d)(e:RV a Z H y c)(h:Av a RV[a] Z H (Bl3 x y S) Q E):rI Bns (λi j=>V.int[i * 2 ^ j.toNat]) d c H Q:=by
 let(i,j,rfl,rfl,h):=Ac6 f e h;let(b,h):=G5 h;let(b,g):=bY.mp b;let(l,k):=bY.mp b;exact(_,_,rfl,rfl,(dg l,dg k,dg g),h.now R .int[_])
def Bcd{p:Int->Int->Bool}(R:Rep a Z S H)(f:RV a Z H x d)(e:RV a Z H y c)(h:Av a RV[a] Z H (Auj p q x y S) Q E):
  rI0 (λi j=>V.bl[p i j]) d c H Q\/∃i j,d=.str i/\c=.str j/\Q .bl[q i j] H:=by
 unfold Auj at h;split at h
 .cases f;cases e;exact .inl (_,_,rfl,rfl,h.now R .bl[_])
 .cases f;cases e;exact .inr (_,_,rfl,rfl,h.now R .bl[_])
 .exact(show False from h).elim
end
inductive Bop where
 |add|sub|mul|fdiv|mod|shl|shr|and
inductive Cop where
 |lt|le|gt|ge
def Bop.fn:Bop->W->W->M W
 |.add=>addW
 |.sub=>Bl2
 |.mul=>Aw9
 |.fdiv=>Bf7
 |.mod=>Bob
 |.shl=>Bl3
 |.shr=>Boc
 |.and=>Bod
def Bop.of:aBx->o9 Bop
 |.Add=>sr .add
 |.Sub=>sr .sub
 |.Mult=>sr .mul
 |.FloorDiv=>sr .fdiv
 |.Mod=>sr .mod
 |.LShift=>sr .shl
 |.RShift=>sr .shr
 |.BitAnd=>sr .and
 |_=>sy
section
def Bc(o:Bop)(f g:De->M W):De->M W:=λY=>do let x<-f Y;let y<-g Y;o.fn x y
def Bl5(hK:X.K=B.K)(h:Bop.of D=sr o)(p:WE X a (tF B E f))(m:WE X b (tF B E g)):WE X (.BinOp a D b L) tF[B][E][Bc o f g]:=by
 cases D <;> simp only[Bop.of,gA,reduceCtorEq] at h <;> subst h
 .refine WE.weak[kop ((Bg4.or Ape).or ((Bbg.or Bcb).or Bhe)) p m][Vc λZ S H x y w r Q E R e d h=>?_];rw[hK];exact Bk6 R e d h
 .exact WE.weak[kop Bg5 p m][Vc λZ S H x y w r Q E R e d h=>Bk7 R e d h]
 .exact WE.weak (kop ((Bg6.or (by
   intro T s O H x y v u Q I J G h;let(z,n,rfl,rfl,C,N,P,q):=h;let(t,rfl):=J;let(F,rfl):=G;exact SB.mul[mulOk_of 16 1048576 C () () () ()] λF k=>(.str _,H,I.tok _,(_,rfl),q))).or Bhf) p m) (Vc λZ S H x y w r Q E R e d h=>Boe R e d h)
 .exact WE.weak (kop (opI λi j c c c c c l q=>by
 let C:(0:Int) < j:=l;exact mod_int' () (by rw[Int.fmod_eq_emod_of_nonneg i ()];exact q)) p m) (Vc λZ S H x y w r Q E R e d h=>by
   let(i,j,rfl,rfl,h):=Ac6 e d h;let(l,h):=G5 h;exact(_,_,rfl,rfl,l,h.now R .int[_]))
 .exact WE.weak[kop (opI λc c c c c c c l q=>lshift_int_small l.1 l.2.1 l.2.2 q) p m][Vc λZ S H x y w r Q E R e d h=>Bof R e d h]
 .exact WE.weak (kop (opI λi j c c c c c l q=>
 rshift_int l (by rw[qD i (by
   rw[two_pow_cast];exact vM _)];exact q)) p m) (Vc λZ S H x y w r Q E R e d h=>by
     let(i,j,rfl,rfl,h):=Ac6 e d h;let(l,h):=G5 h;exact(_,_,rfl,rfl,l,h.now R .int[_]))
 .exact WE.weak kop[Bg3 λc c c c c c c q=>and_int q][p][m] (Vc λZ S H x y w r Q E R e d h=>by
   let(i,j,rfl,rfl,h):=Ac6 e d h;exact(_,_,rfl,rfl,h.now R .int[_]))
 .exact WE.weak (kop (opI λi j c c c c c l q=>by
 let C:(0:Int) < j:=l.1;let N:j < 1073741824:=l.2;exact floordiv_int () (by rw[qD i ()];exact q) .inl[PyProof.noPylong_small ()]) p m) (Vc λZ S H x y w r Q E R e d h=>Bl4 R e d h)
end
section
def kF(w:W):De->M W:=λuu=>pure w
def Aa(i:Nat):De->M W:=λY=>match Y[i]? with
 |some (sr w)=>pure w
 |_=>bad
def Gv:W->o9 V
 |.non=>sr .non
 |.bl b=>sr .bl[b]
 |.int i=>sr .int[i]
 |.str x=>sr .str[x]
 |_=>sy
def Arq(h:D.Gv w=sr v):RV a Z H w v:=by
 cases w <;> simp[D.Gv] at h <;> subst h
 .exact .non
 .exact .bl _
 .exact .int _
 .exact .str _
def Akp(a:D.Gv w=sr v)(h:WE X e tC[v]):WE X e (tF c E kF[w]):=(WE.weak h λb H Q q=>by
 let(Z,S,Y,R,d,q):=q;exact q.now R Arq[a])
def Bl6{i:Nat}(hv:WE X e Bgu[i]):WE X e (tF h E Aa[i]):=(WE.weak hv λg H Q q=>by
 let(Z,S,Y,R,b,q):=q;simp[Aa] at q;cases a:Y[i]? with
 |none=>rw[a] at q;trivial
 |some o=>
  rw[a] at q;cases o with
  |none=>trivial
  |some w=>
   let(v,d,c):=b i w a;exact(v,d,q.now R c))
def asB{α:Type}(w:W)(k:Bool->M α):M α:=match w with
 |.bl b=>k b
 |_=>bad
def Jd(f g:De->M W):De->M W:=λY=>do let x<-f Y;asB x λb=>if b then g Y else pure .bl[tu]
def Bl7(f:De->M W):De->M W:=λY=>do let x<-f Y;asB x λb=>pure .bl[!b]
def Ce(f:De->M W):De->M Bool:=λY=>do let x<-f Y;asB x λb=>pure b
def Am0(c:De->M Bool)(f g:De->M W):De->M W:=λY=>do let b<-c Y;if b then f Y else g Y
def Akq{e d:Type}{a:lg aL->Hp->e->d->Prop}{Z:lg aL}{H:Hp}{S:Store}{w:W}{v:V}{k:Bool->M e}{Q:d->Hp->Prop}{E:XK}(h:RV f Z H w v)(q:Av f a Z H (asB w k S) Q E):∃b,v=.bl b/\Av f a Z H (k b S) Q E:=by
 cases h <;> first|exact(q).elim|exact(_,rfl,q)
def Ap2(k:∀a H Q,tF c E f a H Q->t a H Q)(h:WT X e tB[t]):WT X e (tFb c E Ce[f]):=(WT.weak h λa H Q ⟨Z,S,Y,R,sl,q⟩=>by
 refine k a H _ (Z,S,Y,R,sl,(Av.seq q).mono ?_);rintro v p ⟨n,o,w,p1,m,l,g,j⟩;let(b,rfl,i):=Akq g j;exact(b,rfl,i.now l rfl))
def Bog(n:WT X c (tFb d E r))(p:WE X a (tF d E f))(o:WE X b (tF d E g)):WE X (.IfExp c a b m) tF[d][E][Am0 r f g]:=(WE.weak[kif n p o] λt H Q ⟨Z,S,Y,R,sl,q⟩=>by
 refine(Z,S,Y,R,sl,(Av.seq q).mono ?_);rintro v u ⟨j,k,w,p1,h,l,rfl,i⟩;cases w with
 |true=>exact L2.App (j,k,Y,l,sl.mono p1 h,i)
 |false=>exact L2.At2 (j,k,Y,l,sl.mono p1 h,i))
def Cop.fn:Cop->W->W->M W
 |.lt=>Auj (λi j=>decide[i < j]) Jt
 |.le=>Auj (λi j=>decide[i<=j]) (λi j=>!Jt j i)
 |.gt=>Auj (λi j=>decide[j < i]) (λi j=>Jt j i)
 |.ge=>Auj[λi j=>decide[j<=i]][λi j=>!Jt i j]
def nilF:De->M lg[W]:=λuu=>pure []
def Ds(f:De->M W)(g:De->M lg[W]):De->M lg[W]:=λY=>do let x<-f Y;let xs<-g Y;pure (x::xs)
def Jr(g:De->M lg[W]):De->M W:=λY=>do let xs<-g Y;Aw8 xs
def Qq(g:De->M lg[W]):De->M W:=λY=>do let xs<-g Y;Be xs
def Bhy(o:WE X a (tF b E f))(n:WA X d (tFs b E p))(m:starEach (a::d) X.env=(u6 tu (eval a X.env))::starEach d X.env):WA X (a::d) tFs[b][E][Ds f p]:=(WA.weak[⟨Aa9 o.un n.un m⟩] λu H Q ⟨Z,S,Y,R,sl,q⟩=>by
 refine(Z,S,Y,R,sl,(Av.seq (Rel:=RV b) q).mono ?_);rintro v C ⟨r,s,w,p1,i,t,j,l⟩;refine(r,s,Y,t,sl.mono p1 i,(Av.seq (Rel:=RVs b) l).mono ?_);rintro y B ⟨z,A,x,p2,h,R2,c,k⟩;exact k.now R2 .cons[j.mono p2 h][c])
def Bl8{j:Nat}(h:WA X g (tFs c E f)):WE[X][.Tuple g j e][tF c E Jr[f]]:=(WE.weak Bn3[h] λm H Q ⟨Z,S,Y,R,sl,q⟩=>by
 refine(Z,S,Y,R,sl,(Av.seq q).mono ?_);rintro o u ⟨i,t,n,p1,r,k,a,b⟩;let(s,b):=G5[by trivial]
 exact(K3 (by rw[<-a.length];omega),λp hp=>b i _ _ aP[_] Bg[hp] k.beside[hp] .tup[Am][a.mono aP[_] Bg[hp]]))
def Bl9(h:WA X k (tFs e E j)):WE[X][.List k i][tF e E Qq[j]]:=(WE.weak Bn2[h] λl H Q ⟨Z,S,Y,R,sl,q⟩=>by
 refine(Z,S,Y,R,sl,(Av.seq q).mono ?_);rintro m s ⟨o,r,f,p1,n,d,a,b⟩;simp[Be] at b;by_cases c:f.length<=big
 .rw[di c] at b;refine(K3 (by rw[<-a.length];omega),λp hp=>b _ _ _ (bW _ _) Bg[hp] (d.alloc hp (_,Am,a.mono[bW _ _][Bg hp])) .ref[?_])
  rw[<-d.len];exact Mt
 .rw[dq c] at b;trivial)
def Dg(s:lg W->M W)(g:De->M lg[W]):De->M W:=λY=>do let ws<-g Y;s ws
def Bhz{n:Nat}(D:Xv X.K X.mg x P ps v fd)(F:Ke X.prog X.w X.K X.mg X.base CX n v fd ps (spF c s) y)(m:Ia n X.A y)(l:Ec CX X E)(t:WA X (a::b) (tFs c E u))(o:X.env.kindOf x=sr .globalImplicit)(g:(x==("__debug__":o8))=tu)(r:starEach (a::b) X.env=(u6 tu (eval a X.env))::starEach b X.env)(f:(backTo e (starEach b X.env)).any (·.1)=tu):
  WE X (.Call (.Name x p) (a::b) [] e) tF[c][E][Dg s u]:=(WE.weak[⟨Ams F m o D.gl D.fn.kp D.bd .nil l t.un g r f⟩] λL H Q ⟨Z,S,Y,R,sl,q⟩=>by
 refine(Z,S,Y,R,sl,(Av.seq (Rel:=RVs c) q).mono ?_);rintro N T ⟨z,C,i,p1,O,G,d,k⟩;exact(z,C,i,G,by rw[cH];exact d,k))
end
def Axa(K:aD)(H:Hp)(x y:V):Prop:=L2.Gv y=t8\/x=.non/\∃a ys,y=.ref a/\SqT K H a ys
def Bh0(K:aD)(neg:Bool):R2:=λx y H Q=>∃p xs,y=.ref p/\(SqL K H p xs\/SqT K H p xs)/\L2.Gv x=t8/\(∀y∈xs,Axa K H x y)/\Q (.bl (if neg then !inV x xs else inV x xs)) H
section
theorem Abb(I:L2.Inv X B p H s)(hu:A.units < cLine)(g:RelV x v)(i:L2.Gv x=t8):∀{c:lg V} {d:lg aG},Vals c d->(∀y∈c,Axa X.K H x y)->(∀u∈d,zG A s u v (eqU x u))/\d.any eqU[x]=inV x c
 |_,_,.nil,_=>(λu hu=>(by trivial),rfl)
 |y::c,u::d,.cons r t,f=>by
  let(e,o):=jN.mp f;let(m,l):=Abb I hu g i t o;let k:zG A s u v (eqU x u)/\eqU x u=L2.eqV y x:=by
   rcases e with e|⟨rfl,a,q,rfl,h⟩
   .rw[Bhc r e];exact(Bhb r g e i,rfl)
   .cases r;cases g;let(n,w,pl,z):=I.tuple h;exact(aBn pl hu,rfl)
  refine(jN.mpr (k.1,m),?_);unfold inV at l ⊢
  simp_all
def Bh1(hu:X.A.in1.units < cLine):OpR X compareOp[.In] (Bh0 X.K tu):=by
 intro j s g H x y v u Q I b e h;let(p,i,rfl,hq,d,fs,q):=h;cases e;rcases hq with hq|hq
 .let(a,r,pl,f):=I.list hq;let z:=Abb I hu b d r fs;refine SeqAt.in_listAt _ pl.isList (λw c=>z.1 w (by simp_all)) (.bl _,H,I,rfl,?_)
  rw[show a.toArray.any _=a.any eqU[x] by simp,z.2]
  exact q
 .let(a,r,pl,f):=I.tuple hq;let z:=Abb I hu b d r fs;refine SeqAt.in_tupleAt _ pl (λw c=>z.1 w (by simpa using c)) (.bl _,H,I,rfl,?_)
  rw[show a.toArray.any _=a.any eqU[x] by simp,z.2]
  exact q
def Auk(hu:X.A.in1.units < cLine):OpR X compareOp[.NotIn] (Bh0 X.K t8):=by
 intro j s g H x y v u Q I b e h;let(p,i,rfl,hq,d,fs,q):=h;cases e;rcases hq with hq|hq
 .let(a,r,pl,f):=I.list hq;let z:=Abb I hu b d r fs;refine SeqAt.notIn_listAt _ pl.isList (λw c=>z.1 w (by simp_all)) (.bl _,H,I,rfl,?_)
  rw[show a.toArray.any _=a.any eqU[x] by simp,z.2]
  exact q
 .let(a,r,pl,f):=I.tuple hq;let z:=Abb I hu b d r fs;refine SeqAt.notIn_tupleAt _ pl (λw c=>z.1 w (by simpa using c)) (.bl _,H,I,rfl,?_)
  rw[show a.toArray.any _=a.any eqU[x] by simp,z.2]
  exact q
end
def Ci{α β:Type}(f:α->o9 β):lg α->o9 lg[β]
 |[]=>sr []
 |a::as=>(f a).bind λb=>(Ci f as).map (b::·)
def Dl(S:Store):Nat->W->o9 kO
 |0,.non=>sr .none
 |0,.bl b=>sr .bool[b]
 |0,.int i=>sr .int[i]
 |0,.str x=>sr .str[x]
 |0,_=>sy
 |_+1,.non=>sr .none
 |_+1,.bl b=>sr .bool[b]
 |_+1,.int i=>sr .int[i]
 |_+1,.str x=>sr .str[x]
 |n+1,.tup ws=>(Ci (Dl S n) ws).map nO
 |n+1,.ref k=>match S[k]? with
  |some (.lst ws)=>(Ci (Dl S n) ws).map PyData.list
  |some (.dct [])=>sr .dict[[]]
  |_=>sy
 |_+1,.scr _=>sy
 |_+1,.ty _=>sy
 |_+1,.cls _=>sy
 |_+1,.exn _ _=>sy
section
theorem Akr(hf:∀w v d,RV k Z H w v->f w=sr d->DV H v d):∀{b:lg W} {g:lg V} {c:lg kO},RVs k Z H b g->Ci f b=sr c->DVs H g c
 |_,_,_,.nil,e=>by cases e;exact .nil
 |w::b,_,c,.cons h r,e=>by
  rw[Ci] at e;cases j:f w with
  |none=>simp_all
  |some d=>
   rw[j] at e;cases i:Ci f b with
   |none=>simp_all
   |some l=>
    rw[i] at e;cases e;exact .cons[hf _ _ _ h j][Akr hf r i]
theorem Abd(R:Rep t Z S H):∀(n:Nat)(w:W)(v:V)(d:kO),RV t Z H w v->Dl S n w=sr d->DV H v d
 |0,w,v,d,h,e=>by
  cases h <;> simp only[Dl,gA,reduceCtorEq] at e <;> subst e
  .exact .non
  .exact .bl _
  .exact .int _
  .exact .str _
 |n+1,w,v,d,h,e=>by
  cases h with
  |non=>cases e;exact .non
  |bl b=>cases e;exact .bl _
  |int i=>cases e;exact .int _
  |str x=>cases e;exact .str _
  |scr _=>cases e
  |ty _=>cases e
  |cls _=>cases e
  |exn _ _ _=>cases e
  |exf _ _ _ _ _ _=>cases e
  |@tup a o s m g=>
   rw[Dl] at e;cases f:Ci (Dl S n) o with
   |none=>rw[f] at e;cases e
   |some u=>
    rw[f] at e;cases e;exact .tup m Akr[Abd R n][g][f]
  |@ref k a hk=>
   rw[Dl] at e;cases r:S[k]? with
   |none=>rw[r] at e;cases e
   |some c=>
    rw[r] at e;let(z,l,q):=R.get r;rw[hk] at l;cases l;cases c with
    |lst o=>
     let(s,m,g):=q;cases f:Ci (Dl S n) o with
     |none=>simp_all
     |some u=>
      simp only[f] at e;cases e;exact .lst m Akr[Abd R n][g][f]
    |dct j=>
     cases j with
     |nil=>
      cases e;let(s,m,g):=q;cases g;exact .dct m
     |cons p j=>cases e
    |ins c fs=>cases e
    |dead=>cases e
end
def eqD(neg:Bool)(x y:W):M W:=λS=>match Dl S 16 x,Dl S 16 y with
 |some d,sr e=>if nP d&&nP e then .ok (.bl (if neg then !vN d e else vN d e)) S else .bad
 |_,_=>.bad
def eqW(neg:Bool)(x y:W):M W:=match x,y with
 |.str a,.str b=>pure (.bl (if neg then !(a==b) else a==b))
 |x,y=>eqD neg x y
def Am1:W->Bool
 |.non=>t8
 |_=>tu
def Bh2:Cell->Bool
 |.dct _=>tu
 |.dead=>tu
 |_=>t8
def isW(neg:Bool):W->W->M W
 |x,.non=>pure (.bl (if neg then !Am1 x else Am1 x))
 |.ref n,.ref m=>λS=>match S[n]?,S[m]? with
  |some c,sr d=>if Bh2 c&&Bh2 d then .ok (.bl (if neg then !decide (n=m) else decide[n=m])) S else .bad
  |_,_=>.bad
 |_,_=>bad
def Ai9:W->Bool
 |.non=>t8
 |.bl _=>t8
 |.int _=>t8
 |.str _=>t8
 |_=>tu
def eqF:W->W->Bool
 |.non,.non=>t8
 |.bl a,.bl b=>a==b
 |.bl a,.int b=>(if a then 1 else 0)==b
 |.int a,.bl b=>a==(if b then 1 else 0)
 |.int a,.int b=>a==b
 |.str a,.str b=>a==b
 |_,_=>tu
def kW:Key->W
 |.inl i=>.int i
 |.inr x=>.str x
def Aag:W->o9 Key
 |.int i=>sr .inl[i]
 |.str x=>sr .inr[x]
 |_=>sy
def Abe(kvs:lg[Key×W])(k:Key):o9 W:=(kvs.find? λp=>decide[p.1=k]).map (·.2)
def Bma:W->Bool
 |.tup _=>t8
 |_=>tu
def Axb(x u:W):Bool:=Ai9 u||Am1 x&&Bma u
def Bce(neg:Bool)(x:W)(ws:lg W):M W:=if Ai9 x&&ws.all Axb[x] then pure (.bl (if neg then !ws.any (eqF · x) else ws.any (eqF · x))) else bad
def inW(neg:Bool)(x y:W):M W:=match y with
 |.str j=>match x with
  |.str i=>pure (.bl (if neg then !(!(dB j i 0 j.length 1).isEmpty) else !(dB j i 0 j.length 1).isEmpty))
  |_=>bad
 |.tup ws=>Bce neg x ws
 |.ref n=>λS=>match S[n]? with
  |some (.lst ws)=>Bce neg x ws S
  |some (.dct kvs)=>match Aag x with
   |some k=>.ok (.bl (if neg then !(Abe kvs k).isSome else (Abe kvs k).isSome)) S
   |none=>.bad
  |_=>.bad
 |_=>bad
section
def Bf8:RV a Z H kW[k] kV[k]:=by
 cases k
 .exact .int _
 .exact .str _
def Axc(r:RKV b Z H a c):RVs b Z H (a.map λp=>kW p.1) (c.map λp=>kV p.1):=by
 unfold RKV at r;induction r with
 |nil=>exact .nil
 |cons h t d=>rw[bT,bT,h.1];exact .cons Bf8 d
def Abf(b:RV c Z H x a)(h:Aag x=sr k):a=kV k:=by
 cases b <;> simp only[Aag,gA,reduceCtorEq] at h <;> subst h <;> rfl
def Aks(r:RKV d Z H a c)(k:Key):(∃w v,Abe a k=sr w/\T9 c k=sr v/\RV d Z H w v)\/(Abe a k=sy/\T9 c k=sy):=by
 induction r with
 |nil=>exact .inr (rfl,rfl)
 |@cons p q _ _ h r f=>
  unfold Abe T9 at f ⊢
  rw[yK,yK];by_cases e:p.1=k
  .let b:=h.1.symm.trans e;rw[dm e,dm b];exact .inl (_,_,rfl,rfl,h.2)
  .let b:=λz=>e h.1.trans[z];rw[dw e,dw b];omega
def Hq{b a:Type}{Rel:lg aL->Hp->b->a->Prop}{w:b}{v:a}{Q:a->Hp->Prop}(h:Av d Rel Z H (.ok w S) Q E)(r:Rep d Z S H)(q:Rel Z H w v):Q v H:=(
 h Z H v aP[Z] (Ck.refl Z H) r q)
set_option tactic.hygienic true in
def Bmb(R:Rep b Z S H)(k:RV b Z H x f)(g:RV b Z H y c)(h:Av b RV[b] Z H (eqW a x y S) Q E):
  (∃i j,f=.str i/\c=.str j/\Q (.bl (if a then !(i==j) else i==j)) H)\/∃d e,DV H f d/\DV H c e/\nP d=t8/\nP e=t8/\Q (.bl (if a then !vN d e else vN d e)) H:=by
 unfold eqW at h;split at h
 .cases k;cases g;exact .inl (_,_,rfl,rfl,Hq h R .bl[_])
 .exact .inr (by
   simp only[eqD] at h;split at h
   .rename_i d e p o;split at h
    .rename_i n;let(m,l):=bY.mp n;exact(d,e,Abd R 16 _ _ _ k p,Abd R 16 _ _ _ g o,m,l,Hq h R .bl[_])
    .exact(show False from h).elim
   .exact(show False from h).elim)
def Axd(b:RV c Z H x a):Am1 x=decide[a=.non]:=by
 cases b <;> simp[Am1]
def Ars(h:Kl e Z H a c)(f:Bh2 c=t8):∃o,H a=sr o/\isObj o=t8:=by
 cases c with
 |lst b=>let(d,h,_):=h;exact(_,h,rfl)
 |dct b=>trivial
 |dead=>trivial
 |ins c b=>let(g,d,h,_):=h;exact(_,h,rfl)
def Rep.inj(R:Rep i Z S H){n m:Nat}(g:Z[n]?=sr a)(f:Z[m]?=sr b):decide[n=m]=decide[a=b]:=by
 let(k,d):=aC.mp g;let(j,c):=aC.mp f;refine decide_eq_decide.mpr (λe=>?_,λe=>(jU R.nd).mp d.trans[e.trans[c.symm]])
 .subst e;exact d.symm.trans c
set_option tactic.hygienic true in
def Bmc(R:Rep f Z S H)(k:RV f Z H x i)(z:RV f Z H y j)(h:Av f RV[f] Z H (isW e x y S) Q E):
  (j=.non/\Q (.bl (if e then !decide (i=.non) else decide[i=.non])) H)\/(∃a b g ob,i=.ref a/\j=.ref b/\H a=sr g/\isObj g=t8/\H b=sr ob/\isObj ob=t8/\Q (.bl (if e then !decide (a=b) else decide[a=b])) H):=by
 cases z with
 |non=>
  rw[<-Axd k];refine .inl (rfl,?_);exact h.now R .bl[_]
 |@ref m b o=>
  cases k <;> try exact(show False from h).elim
  rename_i n a l;simp only[isW] at h;split at h
  .rename_i c d B A;split at h
   .rename_i w;let(q,p):=bY.mp w;let s:=R.at_ _ _ _ l B;let r:=R.at_ _ _ _ o A;let(g,o1,v):=Ars s q;let(ob,u,t):=Ars r p;rw[R.inj l o] at h;exact .inr (a,b,g,ob,rfl,rfl,o1,v,u,t,Hq h R .bl[_])
   .exact(show False from h).elim
  .exact(show False from h).elim
 |_=>trivial
def Axe(b:RV c Z H x a)(h:Ai9 x=t8):L2.Gv a=t8:=by
 cases b <;> first|rfl|trivial
def Bh3(hu:RV a Z H u c)(d:RV a Z H x b)(f:Axb x u=t8)(g:Ai9 x=t8):eqF u x=L2.eqV c b:=by
 cases x <;> first|(cases g;done)|(cases d;cases hu <;> rfl)
def Bcf(hu:RV a Z H u c)(d:RV a Z H x b)(f:Axb x u=t8):Axa a.K H b c:=by
 cases hu with
 |tup e g=>
  cases d <;> first|exact .inr (rfl,_,_,rfl,SqT.of e)|trivial
 |_=>first|exact .inl rfl|(simp[Axb,Ai9,Bma] at f)
theorem Am2(d:RV f Z H x i)(g:Ai9 x=t8):∀{b:lg W} {c:lg V},RVs f Z H b c->b.all Axb[x]=t8->(∀y∈c,Axa f.K H i y)/\b.any (eqF · x)=inV i c
 |_,_,.nil,_=>(λj h=>(nomatch h),rfl)
 |_,_,.cons h r,e=>by
  rw[fG,aQ] at e;let z:=Am2 d g r e.2;refine(jN.mpr (Bcf h d e.1,z.1),?_);let z:=z.2;unfold inV at z ⊢
  rw[qZ,qZ,Bh3 h d e.1 g,z]
def Art(R:Rep a Z S H)(f:RV a Z H x b)(r:RVs a Z H i c)(h:Av a RV[a] Z H (Bce d x i S) Q E):
  L2.Gv b=t8/\(∀y∈c,Axa a.K H b y)/\Q (.bl (if d then !inV b c else inV b c)) H:=by
 let(j,h):=G5 h;let(e,g):=bY.mp j;let z:=Am2 f e r g;rw[z.2] at h;exact(Axe f e,z.1,h.now R .bl[_])
set_option tactic.hygienic true in
def Bmd(R:Rep d Z S H)(g:RV d Z H x n)(C:RV d Z H y l)(h:Av d RV[d] Z H (inW c x y S) Q E):
  (∃i j,n=.str i/\l=.str j/\Q (.bl (if c then !(!(dB j i 0 j.length 1).isEmpty) else !(dB j i 0 j.length 1).isEmpty)) H)\/Bh0 d.K c n l H Q\/∃a o,l=.ref a/\Af7 H a n o/\Q (.bl (if c then !o.isSome else o.isSome)) H:=by
 cases C with
 |str j=>
  cases g <;> try exact(show False from h).elim
  exact .inl (_,_,rfl,rfl,h.now R .bl[_])
 |tup f e=>
  let(r,p,q):=Art R g e h;exact .inr (.inl (_,_,rfl,.inr SqT.of[f],r,p,q))
 |@ref m b u=>
  simp only[inW] at h;split at h
  .rename_i F s;let(t,f,e):=R.at_ _ _ _ u s;let(r,p,q):=Art R g e h;exact .inr[.inl (_,_,rfl,.inl .inl[.inl[f]],r,p,q)]
  .rename_i B s;let(t,f,e):=R.at_ _ _ _ u s;split at h
   .rename_i k D;rw[Abf g D];refine .inr[.inr (b,T9 t k,rfl,Af7.k f,?_)];rcases Aks e k with ⟨w,v,A,z,_⟩|⟨A,z⟩ <;> rw[A] at h <;> rw[z] <;> exact Hq h R .bl[_]
   .exact(show False from h).elim
  .exact(show False from h).elim
 |_=>exact(show False from h).elim
end
section
def Ap3(hu:X.A.units+1 < cLine):OpR X compareOp[.In] (λx y H Q=>∃a o,y=.ref a/\Af7 H a x o/\Q .bl[o.isSome] H):=by
 intro i s e H x y v u Q I c b h;let(a,o,rfl,g,q):=h;obtain rfl:_:=b;exact L2.Bnx hu I g c λf d=>(.bl o.isSome,H,d,rfl,q)
def Aie(hu:X.A.units+1 < cLine):OpR X compareOp[.NotIn] (λx y H Q=>∃a o,y=.ref a/\Af7 H a x o/\Q .bl[!o.isSome] H):=by
 intro i s e H x y v u Q I c b h;let(a,o,rfl,g,q):=h;obtain rfl:_:=b;exact L2.Bbk hu I g c λf d=>(.bl _,H,d,rfl,q)
def Bh4:OpR X compareOp[.Eq] (λx y H Q=>∃i j,x=.str i/\y=.str j/\Q .bl[i==j] H):=by
 intro e s c H x y v u Q I b a h;let(i,j,rfl,rfl,q):=h;let(t,rfl):=b;let(d,rfl):=a;exact eq_str[Kz I q rfl]
def Bh5:OpR X compareOp[.NotEq] (λx y H Q=>∃i j,x=.str i/\y=.str j/\Q .bl[!(i==j)] H):=by
 intro e s c H x y v u Q I b a h;let(i,j,rfl,rfl,q):=h;let(t,rfl):=b;let(d,rfl):=a;exact ne_str[Kz I q rfl]
end
def Ey:vD->W->W->M W
 |.Lt=>Cop.fn .lt
 |.LtE=>Cop.fn .le
 |.Gt=>Cop.fn .gt
 |.GtE=>Cop.fn .ge
 |.Eq=>eqW tu
 |.NotEq=>eqW t8
 |.In=>inW tu
 |.NotIn=>inW t8
 |.Is=>isW tu
 |.IsNot=>isW t8
def Er(op:vD)(f g:De->M W):De->M W:=λY=>do let x<-f Y;let y<-g Y;Ey op x y
structure Bh6(Θ:Th)(X:Cx)(op:vD):Type where
 r:R2
 ok:OpR X (compareOp op) r
 by_:∀Z S H x y vx vy Q E,Rep Θ Z S H->RV Θ Z H x vx->RV Θ Z H y vy->Av Θ (RV Θ) Z H (Ey op x y S) Q E->r vx vy H Q
theorem Aul(T:Th)(X:Cx)(hK:X.K=T.K)(hu:X.A.units+64 < cLine):∀U:vD,Nonempty (Bh6 T X U)
 |.Lt=>⟨(_,Bk1.or (by
   intro o s n H x y v u Q I k g h;let(i,j,rfl,rfl,q):=h;let(t,rfl):=k;let(p,rfl):=g;exact lt_str[Kz I q rfl]),λZ S H x y m l Q E R f c h=>Bcd R f c h)⟩
 |.LtE=>⟨(_,Bk2.or (by
   intro o s n H x y v u Q I k g h;let(i,j,rfl,rfl,q):=h;let(t,rfl):=k;let(p,rfl):=g;exact PySem.P.le_str[Kz I q rfl]),λZ S H x y m l Q E R f c h=>Bcd R f c h)⟩
 |.Gt=>⟨(_,Bk3.or (by
   intro o s n H x y v u Q I k g h;let(i,j,rfl,rfl,q):=h;let(t,rfl):=k;let(p,rfl):=g;exact PySem.P.gt_str[Kz I q rfl]),λZ S H x y m l Q E R f c h=>Bcd R f c h)⟩
 |.GtE=>⟨(_,Bk4.or (by
   intro o s n H x y v u Q I k g h;let(i,j,rfl,rfl,q):=h;let(t,rfl):=k;let(p,rfl):=g;exact PySem.P.ge_str[Kz I q rfl]),λZ S H x y m l Q E R f c h=>Bcd R f c h)⟩
 |.Eq=>⟨(_,Bh4.or (by
   intro o s n H x y v u Q I k g h;let(d,e,hd,G,w,r,q):=h;let(as,C):=hd.reads I k;let(bs,B):=G.reads I g;exact eq_dataH C B w r hu (.bl _,H,I,rfl,q)),λZ S H x y m l Q E R f c h=>Bmb R f c h)⟩
 |.NotEq=>⟨(_,Bh5.or (by
   intro o s n H x y v u Q I k g h;let(d,e,hd,G,w,r,q):=h;let(as,C):=hd.reads I k;let(bs,B):=G.reads I g;exact ne_dataH C B w r hu (.bl _,H,I,rfl,q)),λZ S H x y m l Q E R f c h=>Bmb R f c h)⟩
 |.In=>⟨(_,Atr.or[(Bh1 (show X.A.units+1 < cLine by omega)).or (Ap3 ())],λZ S H x y m l Q E R f c h=>by rw[hK];exact Bmd R f c h)⟩
 |.NotIn=>⟨(_,Aj9.or[(Auk (show X.A.units+1 < cLine by omega)).or (Aie ())],λZ S H x y m l Q E R f c h=>by rw[hK];exact Bmd R f c h)⟩
 |.Is=>⟨(_,Bg7.or (by
   intro o s n H x y v u Q I k g h;let(a,b,Y,ob,rfl,rfl,L,pa,J,D,q):=h;cases k;cases g;let(o1,O,F):=Wx I L pa;let(o2,N,_):=Wx I J D;by_cases z:a=b
   .subst z;exact wpAny_is_ref_self Kz[I][q][by simp]
   .exact wpAny_is_ref_other z O N F Kz[I][q][by simp[z]]),λZ S H x y m l Q E R f c h=>Bmc R f c h)⟩
 |.IsNot=>⟨(_,Bbc.or (by
   intro o s n H x y v u Q I k g h;let(a,b,Y,ob,rfl,rfl,L,pa,J,D,q):=h;cases k;cases g;let(o1,O,F):=Wx I L pa;let(o2,N,_):=Wx I J D;by_cases z:a=b
   .subst z;exact wpAny_isNot_ref_self Kz[I][q][by simp]
   .exact wpAny_isNot_ref_other z O N F Kz[I][q][by simp[z]]),λZ S H x y m l Q E R f c h=>Bmc R f c h)⟩
def Aif{α:Type}:o9 α->M α
 |some a=>pure a
 |none=>bad
def ixW(x y:W):M W:=match x with
 |.str z=>match y with
  |.int i=>if z.length<=big then Aif[(atI z.cps.toList i).map λc=>W.str ⟨#[c]⟩] else bad
  |_=>bad
 |.tup ws=>match y with
  |.int i=>Aif (atI ws i)
  |_=>bad
 |.scr ns=>match y with
  |.int i=>Aif ((atI ns i).map W.int)
  |_=>bad
 |.ref n=>λS=>match S[n]? with
  |some (.lst ws)=>match y with
   |.int i=>Aif (atI ws i) S
   |_=>.bad
  |some (.dct kvs)=>match Aag y with
   |some k=>Aif (Abe kvs k) S
   |none=>.bad
  |_=>.bad
 |_=>bad
def ixF(f g:De->M W):De->M W:=λY=>do let x<-f Y;let y<-g Y;ixW x y
section
def Bcg(hu:X.A.units+1 < cLine):IxR X (λx y H Q=>∃a v,x=.ref a/\Af7 H a y sr[v]/\Q v H):=by
 intro value slice z s n H x y v u Q I j i h l;let(a,w,rfl,g,q):=h;obtain rfl:v=cV a:=j;exact zE (by
   rcases g with ⟨d,k,e,_,_⟩|⟨d,k,b,e,_,_,_⟩
   .let(_,_,r,_,f):=Ai0 I.hok e;exact f.typeIs
   .let(_,_,o,_,f):=Amq I.hok e;exact f.typeIs) qJ.lookup (Atx hu I g i λp t m c=>(w,H,m,c,q)) l
end
section
def W4{b c:Type}{a:lg aL->Hp->b->c->Prop}{Q:c->Hp->Prop}{o:o9 b}(h:Av e a Z H (Aif o S) Q E):∃w,o=sr w/\Av e a Z H ((pure w:M b) S) Q E:=by
 cases o with
 |none=>trivial
 |some w=>exact(w,rfl,h)
def RVs.at{i:Int}(r:RVs b Z H a vs)(h:atI a i=sr w):∃v,atI vs i=sr v/\RV b Z H w v:=by
 unfold atI at h ⊢
 rw[<-r.length];cases e:ixN a.length i with
 |none=>simp_all
 |some j=>
  rw[e] at h;exact r.get h
def Bch{b d:Type}(f:b->d)(a:lg b)(i:Int):atI a.map[f] i=(atI a i).map f:=by
 unfold atI;rw[aB];cases ixN a.length i with
 |none=>rfl
 |some j=>exact aX
end
section
def Boh(hK:X.K=p.K)(hu:X.A.units+64 < cLine)(G:WE X a (tF p E f))(F:WE X b (tF p E g))(q:Afe b):WE X (.Subscript a b u) tF[p][E][ixF f g]:=(
 WE.weak (kix Bha.or[Bcg ()] G F q) (Vc λZ S H x y O N Q E R D l h=>by rw[hK];exact(by
   cases D with
   |str z=>
    simp only[ixW] at h;split at h <;> try exact(show False from h).elim
    cases l;let(C,h):=G5 h;let(w,e,h):=W4 h;let(c,d,rfl):=bA.mp e;exact .inl .inr[.inr (_,_,c,rfl,rfl,K3 C,d,h.now R .str[_])]
   |tup m j=>
    simp only[ixW] at h;split at h <;> try exact(show False from h).elim
    cases l;let(w,e,h):=W4 h;let(v,d,i):=j.at e;exact .inl .inr[.inl (_,_,_,v,rfl,rfl,SqT.of m,d,h.now R i)]
   |scr q=>
    simp only[ixW] at h;split at h <;> try exact(show False from h).elim
    cases l;let(w,e,h):=W4 h;let(c,d,rfl):=bA.mp e;exact .inl (.inl (_,_,_,.int c,rfl,rfl,q.sq,by rw[Bch,d];rfl,h.now R .int[_]))
   |@ref n a r=>
    simp only[ixW] at h;split at h
    .rename_i J d;let(t,m,j):=R.at_ _ _ _ r d;split at h <;> try exact(show False from h).elim
     cases l;let(w,e,h):=W4 h;let(v,d,i):=j.at e;exact .inl[.inl (_,_,_,v,rfl,rfl,.inl .inl[m],d,h.now R i)]
    .rename_i B d;let(t,m,j):=R.at_ _ _ _ r d;split at h
     .rename_i k I;rw[Abf l I];let(w,e,h):=W4 h;rcases Aks j k with ⟨L,v,o,s,i⟩|⟨o,s⟩
      .rw[e] at o;cases o;exact .inr (a,v,rfl,s ▸ Af7.k m,h.now R i)
      .rw[e] at o;cases o
     .exact(show False from h).elim
    .exact(show False from h).elim
   |_=>exact(show False from h).elim)))
end
section
open HT in
def Aum{lo hi:o9 Int}(b:vW s.heap t a)(j:s.heap.IsSliceOf g l k .none)(pl:sE l lo)(m:sE k hi)(i:sIx a.size 0 lo=0/\sIx a.size a.size hi=a.size)(h:Q .ref[t] s):wpAny (model prog w) A (getItem .ref[t] .ref[g]) Q E s:=by
 let(os,d,e,n):=id j;let f:s.TypeIs .ref[g] "slice":=(os,d,e);unfold getItem
 try with_reducible refine fW ?_
 first|refine aA aJ[?_]|skip
 refine aA[qN b.typeIs () ?_]
 refine aA (cW (name:=lU "__getitem__") b.typeIs dZ
  (cZ dZ b.typeIs uP ?_ (vJ _ _)))
 show wpAny _ _ (pQ .ref[t] >>= _) _ _ s;refine aA[tupleItemsOf_ b ?_];refine aA[pB f ?_];rw[di ()]
 refine aA[Qo j pl m ?_];show wpAny _ _ (if (((sIx a.size 0 lo:Nat):Int)==0&&(1:Int)==1&&(sIx a.size a.size hi - sIx a.size 0 lo)==a.size)=t8 then _ else _) _ _ s
 rw[di (by rw[i.1,i.2];simp)]
 unfold zV;refine aA aA[pB b.typeIs aJ[?_]];rw[di ()]
 first
  |exact aA oE[aJ (_,rfl,aJ h)]
  |exact aA aJ[aJ (_,rfl,aJ h)]
  |exact aJ (_,rfl,aJ h)
def Bf9(K:aD):V->o9 Int->o9 Int->Hp->VK->Prop:=λx lo hi H Q=>∃a xs,x=.ref a/\SqT K H a xs/\HT.sIx xs.length 0 lo=0/\HT.sIx xs.length xs.length hi=xs.length/\Q .ref[a] H
def Bci:SlR X Bf9[X.K]:=by
 intro u s k H x v m l lo hi n Q I f j pl g h;let(a,e,rfl,i,t,p,q):=h;cases f;let(c,r,d,o):=I.tuple i;let b:c.toArray.size=e.length:=r.length.symm;refine("tuple",_,dZ.lookup,d.typeIs,Aum d j pl g (by rw[b];trivial) (.ref a,H,I,rfl,q))
end
def Ac7(ws:lg W)(lo hi:o9 Int):lg W:=(ws.drop[HT.sIx ws.length 0 lo]).take (HT.sIx ws.length ws.length hi - HT.sIx ws.length 0 lo)
def slW(x:W)(lo hi:o9 Int):M W:=match x with
 |.str z=>if z.length<=big then pure .str[dN z lo hi] else bad
 |.tup ws=>pure .tup[Ac7 ws lo hi]
 |.scr ns=>Be (Ac7 ns.map[W.int] lo hi)
 |.ref n=>λS=>match S[n]? with
  |some (.lst ws)=>Be (Ac7 ws lo hi) S
  |_=>.bad
 |_=>bad
def Cw(f:De->M W):De->M o9[Int]:=λY=>do let x<-f Y;match x with
 |.int i=>pure sr[i]
 |_=>bad
def Bs:De->M o9[Int]:=λuu=>pure sy
def slF(f:De->M W)(l h:De->M o9[Int]):De->M W:=λY=>do let x<-f Y;let lo<-l Y;let hi<-h Y;slW x lo hi
def tFo(Θ:Th)(E:L2.St->XK)(f:De->M o9[Int]):TO:=λσ H Q=>TF Θ (λuu uu a b=>a=b) f σ H Q E[σ]
section
theorem RVs.drop(r:RVs a Z H b c):∀n,RVs a Z H b.drop[n] c.drop[n]
 |0=>r
 |n+1=>by
  cases r with
  |nil=>exact .nil
  |cons h r=>exact r.drop n
theorem RVs.take(r:RVs a Z H b c):∀n,RVs a Z H b.take[n] c.take[n]
 |0=>.nil
 |n+1=>by
  cases r with
  |nil=>exact .nil
  |cons h r=>exact .cons h r.take[n]
def RVs.cut(r:RVs a Z H b c)(lo hi:o9 Int):RVs a Z H (Ac7 b lo hi) (Apm c lo hi):=by
 unfold Ac7;rw[r.length];exact(r.drop _).take _
theorem Qs:∀ns:lg Int,RVs c Z H ns.map[W.int] ns.map[V.int]
 |[]=>.nil
 |n::ns=>.cons .int[n] Qs[ns]
def Ew(R:Rep a Z S H)(r:RVs a Z H b c)(h:Av a RV[a] Z H (Be b S) Q E):c.length<=big/\∀p,H p=sy->Q[.ref p][upd H p .lst[c]]:=by
 simp[Be] at h;by_cases d:b.length<=big
 .rw[di d] at h;refine(by rw[<-r.length];omega,λp hp=>h _ _ _ (bW _ _) Bg[hp] (R.alloc hp (_,Am,r.mono[bW _ _][Bg hp])) .ref[?_])
  rw[<-R.len];exact Mt
 .rw[dq d] at h;trivial
def Ac8(R:Rep a Z S H)(r:RVs a Z H b c)(h:Av a RV[a] Z H ((pure .tup[b]:M W) S) Q E):∀p,H p=sy->Q[.ref p][upd H p .tup[c]]:=(λp hp=>
 h Z _ _ aP[_] Bg[hp] R.beside[hp] .tup[Am][r.mono aP[_] Bg[hp]])
def Bcj{lo hi:o9 Int}(e:HT.sIx a.length 0 lo=0)(d:HT.sIx a.length a.length hi=a.length):Apm a lo hi=a:=by
 unfold Apm;simp_all
set_option tactic.hygienic true in
def Boi{lo hi:o9 Int}(R:Rep c Z S H)(m:RV c Z H x f)(h:Av c RV[c] Z H (slW x lo hi S) Q E):
  (Bla c.K f lo hi H Q\/Bf9 c.K f lo hi H Q)\/(Ble c.K f lo hi H Q\/∃z,f=.str z/\z.length<=sizeLine/\Q .str[dN z lo hi] H):=by
 cases m with
 |str z=>
  let(l,h):=G5 h;exact .inr (.inr (z,rfl,K3 l,h.now R .str[_]))
 |@tup a k b d g=>
  let j:=g.cut lo hi;by_cases e:HT.sIx b.length 0 lo=0/\HT.sIx b.length b.length hi=b.length
  .refine .inl[.inr (a,b,rfl,SqT.of d,e.1,e.2,h.now R (.tup d ?_))];let i:=j;rw[Bcj e.1 e.2] at i;exact i
  .exact .inl (.inl (a,b,rfl,SqT.of d,e,Ac8 R j h))
 |scr o=>exact .inr (.inl (_,_,rfl,o.sq,(Ew R ((Qs _).cut lo hi) h).2))
 |@ref n a p=>
  simp only[slW] at h;split at h
  .rename_i k q;let(b,d,g):=R.at_ _ _ _ p q;exact .inr (.inl (_,_,rfl,.inl .inl[d],(Ew R (g.cut lo hi) h).2))
  trivial
 |_=>exact(show False from h).elim
end
section
def WO.weak(h:WO X o t)(k:∀σ H Q,t' σ H Q->t σ H Q):WO X o t':=⟨λaa s σ H Q I q=>h.un aa s σ H Q I (k σ H Q q)⟩
def Axf:WO X sy (tFo b E Bs):=(WO.weak ⟨by
  intro d s a H Q I h;rw[aAf];exact aJ (sy,H,I,.none,h)⟩ λa H Q ⟨Z,S,Y,R,sl,q⟩=>q.now R rfl)
def Bh7(g:WE X a (tF b E f)):WO X sr[a] (tFo b E Cw[f]):=(WO.weak Bb0[g] λi H Q ⟨Z,S,Y,R,sl,q⟩=>by
 refine(Z,S,Y,R,sl,(Av.seq (Rel:=RV b) q).mono ?_);rintro v m ⟨k,l,w,p1,j,h,e,c⟩;cases e <;> first|exact(show False from c).elim|skip
 exact(_,rfl,Av.now c h rfl))
def Bck{lo hi:o9 cM}{l u:De->M o9[Int]}{p2:Pos}(hK:X.K=b.K)(r:WE X a (tF b E f))(o:WO X lo (tFo b E l))(hu:WO X hi (tFo b E u)):WE X .Subscript[a][.Slice lo hi sy p2][m] tF[b][E][slF f l u]:=(
 WE.weak[Bhs ((Bg9.or Bci).or Bbi.or[Bhq]) r o hu] λD H Q ⟨Z,S,Y,R,sl,q⟩=>by
  refine(Z,S,Y,R,sl,(Av.seq q).mono ?_);rintro v L ⟨t,y,w,p1,e,A,h,k⟩;refine(t,y,Y,A,sl.mono p1 e,(Av.seq k).mono ?_);rintro n J ⟨s,x,_,p2,d,R2,rfl,j⟩;refine(s,x,Y,R2,(sl.mono p1 e).mono p2 d,(Av.seq j).mono ?_);rintro p I ⟨F,G,_,p3,g,z,rfl,i⟩;rw[hK];exact Boi z ((h.mono p2 d).mono p3 g) i)
end
def Dm:lg W->M W
 |[.str z]=>if z.length<=big then pure .int[z.length] else bad
 |[.tup ws]=>pure .int[ws.length]
 |[.scr ns]=>pure .int[ns.length]
 |[.ref n]=>λS=>match S[n]? with
  |some (.lst ws)=>.ok .int[ws.length] S
  |some (.dct kvs)=>.ok .int[kvs.length] S
  |_=>.bad
 |_=>bad
def Aun:lg W->M W
 |[.str x]=>if x.length=1 then pure[.int (x.cps.getD 0 0:Nat)] else bad
 |_=>bad
def Ap4:lg W->M W
 |[.int i,.int j]=>pure (.int (if j > i then j else i))
 |_=>bad
def Bh8:lg W->M W
 |[.int i,.int j]=>pure (.int (if j < i then j else i))
 |_=>bad
def asInt:W->o9 Int
 |.int i=>sr i
 |_=>sy
def Bh9:W->o9 Bool
 |.bl i=>sr i
 |_=>sy
def Aja:W->o9 o8
 |.str i=>sr i
 |_=>sy
def Auo:lg W->M W
 |[.ref n]=>λS=>match S[n]? with
  |some (.lst ws)=>match Ci asInt ws with
   |some is=>.ok .int[is.sum] S
   |none=>.bad
  |_=>.bad
 |_=>bad
def Agi:lg W->M W
 |[.ref n]=>λS=>match S[n]? with
  |some (.lst ws)=>match Ci Bh9 ws with
   |some is=>.ok .bl[is.all[id]] S
   |none=>.bad
  |_=>.bad
 |_=>bad
def Vd:lg W->M W
 |[.tup ws]=>pure .tup[ws]
 |[.scr ns]=>pure .tup[ns.map[W.int]]
 |[.ref n]=>λS=>match S[n]? with
  |some (.lst ws)=>.ok .tup[ws] S
  |_=>.bad
 |_=>bad
def chars(z:o8):lg W:=z.cps.toList.map λc=>W.str ⟨#[c]⟩
def Ve:lg W->M W
 |[.tup ws]=>Be ws
 |[.str z]=>if z.length<=big then Be chars[z] else bad
 |[.scr ns]=>Be ns.map[W.int]
 |[.ref n]=>λS=>match S[n]? with
  |some (.lst ws)=>Be ws S
  |some (.dct kvs)=>Be (kvs.map λp=>kW p.1) S
  |_=>.bad
 |_=>bad
def Akt:Key×W->o9 o8
 |(.inr s,_)=>sr s
 |_=>sy
def Agj:Key×W->o9 Int
 |(.inl i,_)=>sr i
 |_=>sy
def Li:lg W->M W
 |[.ref n]=>λS=>match S[n]? with
  |some (.lst ws)=>if ws.length < 64 then match Ci Aja ws with
    |some ss=>Be ((M6 ss).map W.str) S
    |none=>match Ci asInt ws with
     |some is=>Be ((Js is).map W.int) S
     |none=>.bad
   else .bad
  |some (.dct kvs)=>if kvs.length < 64 then match Ci Akt kvs with
    |some ss=>Be ((M6 ss).map W.str) S
    |none=>match Ci Agj kvs with
     |some is=>Be ((Js is).map W.int) S
     |none=>.bad
   else .bad
  |_=>.bad
 |_=>bad
section
theorem Lq{g:Type}{f:W->o9 g}{k:g->V}(hf:∀w v a,RV m Z H w v->f w=sr a->v=k a):∀{c:lg W} {i:lg V} {is:lg g},RVs m Z H c i->Ci f c=sr is->i=is.map k
 |_,_,_,.nil,e=>by cases e;rfl
 |w::c,_,is,.cons h r,e=>by
  rw[Ci] at e;cases l:f w with
  |none=>simp_all
  |some d=>
   rw[l] at e;cases j:Ci f c with
   |none=>simp_all
   |some n=>
    rw[j] at e;cases e;rw[hf _ _ _ h l,Lq hf r j];rfl
def Agk(w:W)(v:V)(i:Int)(h:RV b Z H w v)(e:asInt w=sr i):v=.int i:=by
 cases h <;> simp only[asInt,gA,reduceCtorEq] at e
 subst e;rfl
def Agl(w:W)(v:V)(i:o8)(h:RV b Z H w v)(e:Aja w=sr i):v=.str i:=by
 cases h <;> simp only[Aja,gA,reduceCtorEq] at e
 subst e;rfl
def paired_len{c b:Type}{F:c->b->Prop}{l:lg c}{m:lg b}(r:pL F l m):l.length=m.length:=by
 induction r with
 |nil=>rfl
 |cons _ _ d=>simp_all
def rv1(r:RVs a Z H [w] b):∃v,b=[v]/\RV a Z H w v:=by
 cases r with|cons h r=>
 cases r;exact(_,rfl,h)
def Boj(R:Rep a Z S H)(r:RVs a Z H b c)(h:Av a RV[a] Z H (Aun b S) Q E):∃x,c=[.str x]/\x.length=1/\Q (.int (x.cps.getD 0 0:Nat)) H:=by
 unfold Aun at h;split at h
 .let(v,rfl,e):=rv1 r;cases e;let(d,h):=G5 h;exact(_,rfl,d,h.now R .int[_])
 .exact(show False from h).elim
def Bok(R:Rep a Z S H)(r:RVs a Z H b c)(h:Av a RV[a] Z H (Ap4 b S) Q E):∃i j,c=[.int i,.int j]/\Q (.int (if j > i then j else i)) H:=by
 unfold Ap4 at h;split at h
 .cases r with|cons e r=>
  cases r with|cons d r=>
  cases r;cases e;cases d;exact(_,_,rfl,h.now R .int[_])
 .exact(show False from h).elim
def Bol(R:Rep a Z S H)(r:RVs a Z H b c)(h:Av a RV[a] Z H (Bh8 b S) Q E):∃i j,c=[.int i,.int j]/\Q (.int (if j < i then j else i)) H:=by
 unfold Bh8 at h;split at h
 .cases r with|cons e r=>
  cases r with|cons d r=>
  cases r;cases e;cases d;exact(_,_,rfl,h.now R .int[_])
 .exact(show False from h).elim
set_option tactic.hygienic true in
def Bom(R:Rep b Z S H)(r:RVs b Z H e f)(h:Av b RV[b] Z H (Auo e S) Q E):∃p,∃ns:lg Int,f=[.ref p]/\H p=sr .lst[ns.map[V.int]]/\Q .int[ns.sum] H:=by
 unfold Auo at h;split at h
 .rename_i n;let(v,rfl,j):=rv1 r;let(a,rfl,i):=j.rI;split at h
  .rename_i q l;split at h
   .rename_i is k;let(o,c,g):=R.at_ _ _ _ i l;rw[Lq Agk g k] at c;exact(_,is,rfl,c,Hq h R .int[_])
   trivial
  trivial
 .exact(show False from h).elim
set_option tactic.hygienic true in
def Bon(R:Rep b Z S H)(r:RVs b Z H g j)(h:Av b RV[b] Z H (Agi g S) Q E):∃p,∃bs:lg Bool,j=[.ref p]/\H p=sr .lst[bs.map[V.bl]]/\Q .bl[bs.all[id]] H:=by
 unfold Agi at h;split at h
 .rename_i n;let(v,rfl,m):=rv1 r;let(a,rfl,l):=m.rI;split at h
  .rename_i t q;split at h
   .rename_i is o;let(s,c,k):=R.at_ _ _ _ l q;rw[Lq (by
      intro w v i h e;cases h <;> simp only[Bh9,gA,reduceCtorEq] at e
      subst e;rfl) k o] at c
    exact(_,is,rfl,c,Hq h R .bl[_])
   .exact(show False from h).elim
  .exact(show False from h).elim
 .exact(show False from h).elim
theorem Vf:∀a:lg o8,RVs Θ Z H a.map[W.str] a.map[V.str]
 |[]=>.nil
 |s::a=>.cons .str[s] Vf[a]
theorem Vg{c b:Type}{f:c->o9 b}:∀{l:lg c} {m:lg b},Ci f l=sr m->m.length=l.length
 |[],m,h=>by cases h;rfl
 |x::l,m,h=>by
  unfold Ci at h;cases e:f x with
  |none=>simp_all
  |some y=>
   cases d:Ci f l with
   |none=>simp_all
   |some g=>rw[e,d] at h;cases h;simp[Vg d]
def keys_str:∀{d:lg[Key×W]} {g:lg[Key×V]} {f:lg o8},RKV p Z H d g->Ci Akt d=sr f->g.map (·.1)=f.map qL:=by
 intro d g f r;induction r generalizing f with
 |nil=>intro h;cases h;rfl
 |@cons a b l m h _ n=>
  intro e;unfold Ci at e;let(k,w):=a;cases k with
  |inl i=>cases e
  |inr s=>
   cases j:Ci Akt l with
   |none=>rw[j] at e;cases e
   |some q=>
    rw[j] at e;cases e;simp[n j,<-h.1]
def Axg:∀{d:lg[Key×W]} {g:lg[Key×V]} {f:lg Int},RKV p Z H d g->Ci Agj d=sr f->g.map (·.1)=f.map oZ:=by
 intro d g f r;induction r generalizing f with
 |nil=>intro h;cases h;rfl
 |@cons a b l m h _ n=>
  intro e;unfold Ci at e;let(k,w):=a;cases k with
  |inr i=>cases e
  |inl s=>
   cases j:Ci Agj l with
   |none=>rw[j] at e;cases e
   |some q=>
    rw[j] at e;cases e;simp[n j,<-h.1]
set_option tactic.hygienic true in
def Bcl(R:Rep i Z S H)(r:RVs i Z H x k)(h:Av i RV[i] Z H (Li x S) Q E):
  ((∃p,∃f:lg o8,k=[.ref p]/\H p=sr .lst[f.map[V.str]]/\f.length < 64/\∀q,H q=sy->Q[.ref q][upd H q .lst[(M6 f).map V.str]])\/
  (∃p,∃ns:lg Int,k=[.ref p]/\H p=sr .lst[ns.map[V.int]]/\ns.length < 64/\∀q,H q=sy->Q[.ref q][upd H q .lst[(Js ns).map V.int]]))\/
  (∃p c,k=[.ref p]/\H p=sr .dK[c]/\c.length < 64/\
  ((∃f:lg o8,c.map (·.1)=f.map qL/\∀q,H q=sy->Q[.ref q][upd H q .lst[(M6 f).map V.str]])\/(∃ns:lg Int,c.map (·.1)=ns.map oZ/\∀q,H q=sy->Q[.ref q][upd H q .lst[(Js ns).map V.int]]))):=by
 unfold Li at h;split at h
 .rename_i n;let(v,rfl,y):=rv1 r;let(a,rfl,w):=y.rI;split at h
  .rename_i t m;let(j,e,g):=R.at_ _ _ _ w m;split at h
   .rename_i l;split at h
    .rename_i is d;rw[Lq Agl g d] at e;exact .inl[.inl (_,is,rfl,e,by rw[Vg d];exact l,(Ew R Vf[_] h).2)]
    .split at h
     .rename_i is d;rw[Lq Agk g d] at e;exact .inl[.inr (_,is,rfl,e,by rw[Vg d];exact l,(Ew R Qs[_] h).2)]
     .exact(show False from h).elim
   .exact(show False from h).elim
  .rename_i t m;let(j,e,g):=R.at_ _ _ _ w m;split at h
   .rename_i l;let u:j.length < 64:=by have:t.length=j.length:=paired_len g;omega
    split at h
    .rename_i is d;exact .inr (_,_,rfl,e,u,.inl (is,keys_str g d,(Ew R Vf[_] h).2))
    .split at h
     .rename_i is d;exact .inr (_,_,rfl,e,u,.inr (is,Axg g d,(Ew R Qs[_] h).2))
     .exact(show False from h).elim
   .exact(show False from h).elim
  .exact(show False from h).elim
 .exact(show False from h).elim
end
def Ap5(f:X.calm=t8):Jk X .type["list"] (λb H Q=>∃z:o8,b=[.str z]/\z.length<=sizeLine/\∀l,H l=sy->Q[.ref l][upd H l .lst[z.cps.toList.map λc=>V.str ⟨#[c]⟩]]):=by
 intro y s o H b p Q I r h;let(z,rfl,d,q):=h;let(u,rfl,g):=vals1 r;let(t,rfl):=g;refine call_list_str I.ok.hd[f] z t (hn:=d) λk x a m kp e hi=>?_;let i:Vals (z.cps.toList.map λc=>V.str ⟨#[c]⟩) a.toList:=by
  refine Agh[by rw[aB,aW,aW,hi.1]] λj v hv=>?_
  let(c,u,f,rfl):=hi.2 j v (by simp_all)
  exact(.str _,by simp_all,u,rfl)
 exact(.ref s.heap.objs.size,_,I.laid kp aN[_] (show Eo X.prog X.w _ k _ .lst[_] from (by rw[aB,aW];exact d,a.toList,m,i,())),rfl,q _ I.hok.fresh[aN[_]])
def Bcm(x:o8):o9[lg W->M W]:=
 if x="len" then sr Dm else if x="ord" then sr Aun else if x="max" then sr Ap4 else if x="min" then sr Bh8
 else if x="sum" then sr Auo else if x="all" then sr Agi else if x="sorted" then sr Li else sy
def Bcn(x:o8):o9[lg W->M W]:=if x="tuple" then sr Vd else if x="list" then sr Ve else sy
structure Axh(Θ:Th)(X:Cx)(v:aG)(g:List W->M W) where
 r:List V->Hp->VK->Prop
 ok:Jk X v r
 by_:∀Z S H ws vs Q E,Rep Θ Z S H->RVs Θ Z H ws vs->Av Θ (RV Θ) Z H (g ws S) Q E->r vs H Q
set_option tactic.hygienic true in
def Bco(hK:X.K=Θ.K)(P:X.calm=t8)(h:Bcm x=sr g):∃id,bootBuiltins x=sr .builtin[id]/\Nonempty[Axh Θ X .builtin[id] g]:=by
 unfold Bcm at h;split at h
 .rename_i e;subst e;cases h;exact("len",by rfl',⟨(_,Awa.or At1,λZ S H D F Q E R r h=>by rw[hK];exact(by
    unfold Dm at h;split at h
    .let(v,rfl,f):=rv1 r;cases f;let(hz,h):=G5 h;exact .inl (_,_,rfl,(K3 hz,rfl),h.now R .int[_])
    .let(v,rfl,f):=rv1 r;let(_,_,rfl,f,r1):=f.tI;refine .inl (_,_,rfl,.inr (_,SqT.of f,rfl),?_);rw[<-r1.length];exact h.now R .int[_]
    .let(v,rfl,f):=rv1 r;let(_,rfl,hs):=f.cI;refine .inl (_,_,rfl,.inl (_,hs.sq,rfl),?_);rw[aB];exact h.now R .int[_]
    .let(v,rfl,f):=rv1 r;let(a,rfl,hn):=f.rI;split at h
     .rename_i G U;let(L,T,r2):=R.at_ _ _ _ hn U;refine .inl (_,_,rfl,.inl (_,.inl .inl[T],rfl),?_);rw[<-r2.length];exact Hq h R .int[_]
     .rename_i kvs U;let(L,T,r2):=R.at_ _ _ _ hn U;refine .inr (_,_,rfl,T,?_);let e:kvs.length=L.length:=paired_len r2;rw[<-e];exact Hq h R .int[_]
     .exact(show False from h).elim
    .exact(show False from h).elim))⟩)
 split at h
 .rename_i e;subst e;cases h;exact("ord",by rfl',⟨(_,by
    intro Y s J H N G Q I r h;let(x,rfl,hz,q):=h;let(u,rfl,t,rfl):=vals1 r;exact ord_of_one hz (.int _,H,I.tok _,(_,rfl),q),λZ S H D F Q E R r h=>Boj R r h)⟩)
 split at h
 .rename_i e;subst e;cases h;exact("max",by rfl',⟨(_,by
    intro Y s J H N G Q I r h;let(i,j,rfl,q):=h;let(u,w',rfl,(t,rfl),(t',rfl)):=vals2 r;refine max_two_ints I.ok.hd[P] λh' tk k=>(_,H,I.kept k,?_,q);by_cases y:j > i
    .rw[di y,di y];exact(_,rfl)
    .rw[dq y,dq y];exact(_,rfl),λZ S H D F Q E R r h=>Bok R r h)⟩)
 split at h
 .rename_i e;subst e;cases h;exact("min",by rfl',⟨(_,by
    intro Y s J H N G Q I r h;let(i,j,rfl,q):=h;let(u,w',rfl,(t,rfl),(t',rfl)):=vals2 r;refine min_two_ints I.ok.hd[P] λh' tk k=>(_,H,I.kept k,?_,q);by_cases y:j < i
    .rw[di y,di y];exact(_,rfl)
    .rw[dq y,dq y];exact(_,rfl),λZ S H D F Q E R r h=>Bol R r h)⟩)
 split at h
 .rename_i e;subst e;cases h;exact("sum",by rfl',⟨(_,by
    intro Y s J H N G Q I r h;let(p,ns,rfl,hp,q):=h;let(u,rfl,C):=vals1 r;cases C;let(_,c,n,B,e):=(show Eo X.prog X.w H s.heap p .lst[ns.map[V.int]] from I.hok p _ hp);let hi:pD c ns:=intsAre_of B;let(L,hx):=hi.allInts.items;let hl:s.heap.IsList p intItems[L]:=hx ▸ ((_,e,rfl,_,rfl):s.heap.IsList p c.toArray);refine sum_intListG I.ok.hd[P] hl λh' tk t' hk=>(.int ns.sum,H,I.kept (t':=tk) hk,(t',?_),q);let U:ns=L.toList.map (·.1):=by
     rw[<-nums_intItems,<-hx];exact(show numsOf c.toArray.toList=ns from hi.numsOf).symm
    rw[preSum_eq,lB[by simp],U],λZ S H D F Q E R r h=>Bom R r h)⟩)
 split at h
 .rename_i e;subst e;cases h;exact("all",by rfl',⟨(_,by
    intro Y s J H N G Q I r h;let(p,bs,rfl,hp,q):=h;let(u,rfl,C):=vals1 r;cases C;let(_,c,n,B,e):=(show Eo X.prog X.w H s.heap p .lst[bs.map[V.bl]] from I.hok p _ hp);let hl:s.heap.IsList p c.toArray:=(_,e,rfl,_,rfl);let O:c.length=bs.length:=by rw[<-B.length,aB]
    refine call_all_walk[nA hl ?_];let hne:p≠s.heap.objs.size:=bZ aU[e];let d:∀o b u,s.heap.get? b=sr u->(s.heap.push o).get? b=sr u:=λo b u z=>aF _ z;refine(s.heap.objs.size,[s.heap.objs.size,p],[s.heap.objs.size],c.toArray.size,_,_,λi=>bs.getD i tu,rfl,aCq (A:=X.A.in1) (show X.A.in1.handled=sy from I.ok.hd P) _ p hne c.toArray,((_,aR _ rfl,rfl,rfl),?_),λi v s' Q' E' hv hq=>?_,λh' tk k=>?_)
    .exact(_,d _ _ _ e,rfl,_,rfl)
    .let hv:c[i]?=sr v:=by simpa using hv
     cases eb:bs[i]? with
     |none=>
      have:=gW.mp eb;have:=(aC.mp hv).1;omega
     |some b=>
      let(u,hu,C):=B.get (i:=i) (x:=.bl b) (by rw[aX,eb];rfl)
      rw[hv] at hu;cases hu;cases C;let z:bs.getD i tu=b:=by rw[cG,eb];rfl
      let hq:Q' (bs.getD i tu) s':=hq;rw[z] at hq;exact gM hq
    .refine(.bl _,H,I.kept (t':=tk) λb u z=>k b u (λm=>?_) (d _ _ _ z),rfl,?_)
     .have:b=s.heap.objs.size:=by simpa using m
      subst this;exact absurd aU[z] eN[_]
     .let z:(cO c.toArray.size).all (λi=>bs.getD i tu)=bs.all id:=by
       rw[bV,O];rw[Bool.eq_iff_iff,bF,bF];constructor
       .intro h x hx;let(i,hi,rfl):=uU hx;have:=h i iC.mpr[hi];rw[cG,aM hi] at this;exact this
       .intro h i hi;let hi:=iC.mp hi;rw[cG,aM hi];exact h _ fY[hi]
      rw[z];exact q,λZ S H D F Q E R r h=>Bon R r h)⟩)
 split at h
 .rename_i e;subst e;cases h;exact("sorted",by rfl',⟨(_,(Akj.or (by
    intro Y s J H N G Q I r h;let(p,ss,rfl,hp,h64,q):=h;let(u,rfl,C):=vals1 r;cases C;let(_,c,n,B,e):=(show Eo X.prog X.w H s.heap p .lst[ss.map[V.int]] from I.hok p _ hp);let hS:=intsAre_of B;let hl:c.length=ss.length:=by rw[<-B.length,aB]
    refine sorted_ints (l:=p) (_,e,rfl,_,rfl) hS () λout ss' f T h3=>?_
    obtain rfl:=Arn T h3;let(ep,hat):=aAv s.heap c out;let d:s.heap.get?[s.heap.objs.size+1]=sy:=jF gU[_];refine(.ref[s.heap.objs.size+1],_,I.newO (o:=.lst[(Js ss).map V.int]) (tk:=s.toks) (λb o q=>aAh q) d (?_,out.toList,ep,Aae f,hat),rfl,q _ I.hok.fresh[gU[_]]);rw[aB,(Do ss).length_eq];exact aH gK[h64] ())).or Akk[P],λZ S H D F Q E R r h=>Bcl R r h)⟩)
 .cases h
set_option tactic.hygienic true in
def Bcp(hK:X.K=Θ.K)(o:X.calm=t8)(h:Bcn x=sr g):∃T,bootBuiltins x=sr .type[T]/\Nonempty[Axh Θ X .type[T] g]:=by
 unfold Bcn at h;split at h
 .rename_i e;subst e;cases h;exact("tuple",by rfl',⟨(_,Aic,λZ S H p q Q E R r h=>by rw[hK];exact(by
    unfold Vd at h;split at h
    .let(v,rfl,b):=rv1 r;let(_,_,rfl,b,k):=b.tI;exact(_,_,rfl,.inr (SqT.of b,h.now R (.tup b k)))
    .let(v,rfl,b):=rv1 r;let(_,rfl,l):=b.cI;exact(_,_,rfl,.inl (l.sq,Ac8 R Qs[_] h))
    .let(v,rfl,b):=rv1 r;let(a,rfl,j):=b.rI;split at h
     .rename_i n i;let(m,f,d):=R.at_ _ _ _ j i;exact(_,_,rfl,.inl (.inl .inl[f],Ac8 R d h))
     .exact(show False from h).elim
    .exact(show False from h).elim))⟩)
 split at h
 .rename_i e;subst e;cases h;exact("list",by rfl',⟨(_,(Aka.or Ap5[o]).or Ap1[o],λZ S H p q Q E R r h=>by rw[hK];exact(by
    unfold Ve at h;split at h
    .let(v,rfl,b):=rv1 r;let(_,_,rfl,b,k):=b.tI;exact .inl[.inl (_,_,rfl,.inr SqT.of[b],(Ew R k h).2)]
    .rename_i z;let(v,rfl,b):=rv1 r;cases b;let(s,h):=G5 h;exact .inl (.inr (z,rfl,K3 s,(Ew R (by
      let h:=Vf (Θ:=Θ) (Z:=Z) (H:=H) (z.cps.toList.map λc=>(⟨#[c]⟩:o8));rw[cL,cL] at h;exact h) h).2))
    .let(v,rfl,b):=rv1 r;let(_,rfl,l):=b.cI;exact .inl[.inl (_,_,rfl,.inl l.sq,(Ew R Qs[_] h).2)]
    .let(v,rfl,b):=rv1 r;let(a,rfl,j):=b.rI;split at h
     .rename_i n i;let(m,f,d):=R.at_ _ _ _ j i;exact .inl[.inl (_,_,rfl,.inl .inl[.inl[f]],(Ew R d h).2)]
     .rename_i n i;let(m,f,d):=R.at_ _ _ _ j i;exact .inr (_,_,rfl,f,(Ew R Axc[d] h).2)
     .exact(show False from h).elim
    .exact(show False from h).elim))⟩)
 .cases h
section
def Boo(hK:X.K=h.K)(v:X.calm=t8)(n:Bcm x=sr fn)(s:X.mg x=sy)(w:WA X (e::a) (tFs h E y))(t:X.env.kindOf x=sr .globalImplicit)(r:decide[x=("__name__":o8)]=tu)(f:(x==("__debug__":o8))=tu)(u:starEach (e::a) X.env=(u6 tu (eval e X.env))::starEach a X.env)(d:(backTo c (starEach a X.env)).any (·.1)=tu):WE X (.Call (.Name x p) (e::a) [] c) tF[h][E][Dg fn y]:=by
 obtain⟨id,hv,⟨o⟩⟩:=Bco hK v n;refine WE.weak[kbi o.ok s hv w t r f u d] λD H Q ⟨Z,S,Y,R,sl,q⟩=>?_;refine(Z,S,Y,R,sl,(Av.seq q).mono ?_);rintro k C ⟨z,A,j,p1,F,B,b,m⟩;exact o.by_ z A C j k Q _ B b m
def Boq(hK:X.K=h.K)(v:X.calm=t8)(n:Bcn x=sr fn)(s:X.mg x=sy)(w:WA X (e::a) (tFs h E y))(t:X.env.kindOf x=sr .globalImplicit)(r:decide[x=("__name__":o8)]=tu)(f:(x==("__debug__":o8))=tu)(u:starEach (e::a) X.env=(u6 tu (eval e X.env))::starEach a X.env)(d:(backTo c (starEach a X.env)).any (·.1)=tu):WE X (.Call (.Name x p) (e::a) [] c) tF[h][E][Dg fn y]:=by
 obtain⟨T,hv,⟨o⟩⟩:=Bcp hK v n;refine WE.weak ⟨Ac2 o.ok t s hv w.un of_decide_eq_false[r] f u d⟩ λD H Q ⟨Z,S,Y,R,sl,q⟩=>?_;refine(Z,S,Y,R,sl,(Av.seq q).mono ?_);rintro k C ⟨z,A,j,p1,F,B,b,m⟩;exact o.by_ z A C j k Q _ B b m
end
inductive RS where
 |nx (Y:De) (S:Store)
 |rt (w:W) (S:Store)
 |bk (Y:De) (S:Store)
 |ct (Y:De) (S:Store)
 |ex (c:Nat×W) (Y:De) (S:Store)
 |bad
abbrev MS:=De->Store->RS
def Ju{α:Type}(m:M α)(k:α->MS):MS:=λY S=>match m S with
 |.ok a S1=>k a Y S1
 |.exc c S1=>.ex c Y S1
 |.bad=>.bad
def Aj:MS:=.nx
def Ad(a b:MS):MS:=λY S=>match a Y S with
 |.nx Y1 S1=>b Y1 S1
 |r=>r
def Bq(i:Nat)(f:De->M W):MS:=λY=>Ju f[Y] (λw Y S=>.nx (Y.set i sr[w]) S) Y
def retS(f:De->M W):MS:=λY=>Ju f[Y] (λw uu S=>.rt w S) Y
def Hy(f:De->M W):MS:=λY=>Ju f[Y] (λuu Y S=>.nx Y S) Y
def ifS(c:De->M Bool)(a b:MS):MS:=λY=>Ju c[Y] (λt=>if t then a else b) Y
def Axi(c:De->M Bool)(b:MS):Nat->MS
 |0=>λuu uu=>.bad
 |n+1=>λY=>Ju c[Y] (λt=>if t then λY S=>match b Y S with
  |.nx Y1 S1=>Axi c b n Y1 S1
  |.ct Y1 S1=>Axi c b n Y1 S1
  |.bk Y1 S1=>.nx Y1 S1
  |r=>r else .nx) Y
section
variable(Θ:Th)
def RSs(Z:lg aL)(H:Hp)(Y:De)(σ:L2.St):Prop:=Y.length=σ.length/\RSl Θ Z H Y σ
def Ed(Z:lg aL)(H:Hp)(r:RS)(D:Ends)(E:L2.St->XK):Prop:=match r with
 |.nx Y S=>∀Z' H' σ',Z <+: Z'->Ck Z Z' H H'->Rep Θ Z' S H'->RSs Θ Z' H' Y σ'->D.nx σ' H'
 |.bk Y S=>∀Z' H' σ',Z <+: Z'->Ck Z Z' H H'->Rep Θ Z' S H'->RSs Θ Z' H' Y σ'->D.bk σ' H'
 |.ct Y S=>∀Z' H' σ',Z <+: Z'->Ck Z Z' H H'->Rep Θ Z' S H'->RSs Θ Z' H' Y σ'->D.ct σ' H'
 |.rt w S=>∀Z' H' v,Z <+: Z'->Ck Z Z' H H'->Rep Θ Z' S H'->RV Θ Z' H' w v->D.rt v H'
 |.ex c Y S=>∀Z' H' σ',Z <+: Z'->Ck Z Z' H H'->Rep Θ Z' S H'->RSs Θ Z' H' Y σ'->XP Θ Z' H' c E[σ']
 |.bad=>False
inductive TSx(E:L2.St->XK)(f:MS)(D:Ends)(σ:L2.St)(H:Hp):Prop
 |mk (Z:List aL) (S:Store) (Y:De) (R:Rep Θ Z S H) (sl:RSs Θ Z H Y σ) (q:Ed Θ Z H (f Y S) D E):TSx E f D σ H
inductive LfS{α β:Type}(Rel:List aL->Hp->α->β->Prop)(Z:List aL)(H:Hp)(k:α->MS)(Y:De)(σ:L2.St)(D:Ends)(E:L2.St->XK)(v:β)(H1:Hp):Prop
 |mk (Z1:List aL) (S1:Store) (w:α) (p:Z <+: Z1) (t:Ck Z Z1 H H1) (R:Rep Θ Z1 S1 H1) (sl:RSs Θ Z1 H1 Y σ) (r:Rel Z1 H1 w v) (q:Ed Θ Z1 H1 (k w Y S1) D E):LfS Rel Z H k Y σ D E v H1
def tS(E:L2.St->XK)(f:MS):TS:=λD σ H=>TSx Θ E f D σ H
end
section
variable{Θ:Th}{X:Cx}{st:cQ}{sts:lg cQ}{e c:cM}{pos pos':Pos}{E:L2.St->XK}{f:De->M W}{cf:De->M Bool}{a b:MS}{x:o8}
def RSs.mono(p:Z <+: Z')(t:Ck Z Z' H H')(h:RSs Θ Z H Y σ):RSs Θ Z' H' Y σ:=(h.1,h.2.mono p t)
def RSs.set{i:Nat}(h:RSs Θ Z H Y k)(r:RV Θ Z H w v):RSs Θ Z H (Y.set i sr[w]) (k.set i sr[v]):=by
 refine(by rw[gV,gV];exact h.1,λj u e=>?_)
 by_cases d:j=i
 .subst d;let g:=by
   let z:=(aC.mp e).1
   rwa [gV] at z
  rw[eX g] at e;cases e;exact(v,eX (by rw[<-h.1];exact g),r)
 .rw[fM eO[d]] at e;let(z,m,l):=h.2 j u e;exact(z,by rw[fM eO[d]];exact m,l)
def Ed.shift(h:Ed Θ Z H r D E)(p:Z <+: Z1)(t:Ck Z Z1 H H1):Ed Θ Z1 H1 r D E:=by
 cases r with
 |bad=>exact h
 |_=>exact λk l v p2 g i j=>h k l v p.trans[p2] t.trans[g] i j
def Ed.nxt(h:Ed Θ Z H (.nx Y S) D E)(R:Rep Θ Z S H)(sl:RSs Θ Z H Y σ):D.nx σ H:=h Z H σ aP[Z] (Ck.refl Z H) R sl
def Ed.ret(h:Ed Θ Z H (.rt w S) D E)(R:Rep Θ Z S H)(rv:RV Θ Z H w v):D.rt v H:=h Z H v aP[Z] (Ck.refl Z H) R rv
def Ed.lift{g s:Type}{Rel:lg aL->Hp->g->s->Prop}{m:M g}{k:g->MS}(l:RSs Θ Z H Y d)(h:Ed Θ Z H (Ju m k Y S) D E):
  Av Θ Rel Z H m[S] (LfS Θ Rel Z H k Y d D E) E[d]:=by
 unfold Ju at h;cases e:m S with
 |bad=>rw[e] at h;exact h
 |exc c n=>rw[e] at h;exact λj q p t r=>h j q d p t r (l.mono p t)
 |ok w n=>
  rw[e] at h;exact λj q v p t r i=>(j,n,w,p,t,r,l.mono p t,i,Ed.shift h p t)
def WS.weak(h:WS X st t)(k:∀D σ H,t' D σ H->t D σ H):WS X st t':=⟨λaa s σ H D I q=>h.un aa s σ H D I (k D σ H q)⟩
def WSs.weak(h:WSs X sts t)(k:∀D σ H,t' D σ H->t D σ H):WSs X sts t':=⟨λaa s σ H D I q=>h.un aa s σ H D I (k D σ H q)⟩
def Bia:WSs X [] (tS Θ E Aj):=WSs.weak ⟨λuu uu σ H uu I h=>sV (σ,H,I,h)⟩ λD σ H ⟨Z,S,Y,R,sl,q⟩=>q.nxt R sl
def Bcq(k:WS X st (tS Θ E a))(j:WSs X sts (tS Θ E b)):WSs X (st::sts) tS[Θ][E][Ad a b]:=(WSs.weak[⟨Av5 k.un j.un⟩] λD p H ⟨Z,S,Y,R,sl,q⟩=>by
 refine(Z,S,Y,R,sl,?_);unfold Ad at q;cases e:a Y S with
 |nx m n=>
  rw[e] at q;exact λl r g p1 h o d=>(l,n,m,o,d,Ed.shift q p1 h)
 |_=>rw[e] at q;exact q)
def Axj{i:Nat}(m:WE X e (tF Θ E f))(nd:decide X.N.Nodup=t8)(hi:X.N[i]?=sr x)(l:Apw X.env.scope x=t8)(k:swapsWith e sr[.Name x pos'] pos.line X.env=pure tu)(hf:X.fn x=t8):
  WS X (.Assign [.Name x pos'] e pos) tS[Θ][E][Bq i f]:=(WS.weak[Bn6 m nd hi l k hf] λD p H ⟨Z,S,Y,R,sl,q⟩=>by
 refine(Z,S,Y,R,sl.2,(Ed.lift sl q).mono ?_);rintro v u ⟨s,t,w,p1,r,n,d,h,j⟩;exact j.nxt n d.set[h])
def Bib(j:WE X e (tF Θ E f)):WS[X][.Return sr[e] pos][tS Θ E retS[f]]:=(WS.weak[⟨Bgx j.un⟩] λD l H ⟨Z,S,Y,R,sl,q⟩=>by
 refine(Z,S,Y,R,sl.2,(Ed.lift (Rel:=RV Θ) sl q).mono ?_);rintro v p ⟨n,o,w,p1,m,k,g,h,i⟩;exact i.ret k h)
def Bcr(j:WE X e (tF Θ E f))(i:swapsWith e sy pos.line X.env=pure tu):WS[X][.Expr e pos][tS Θ E Hy[f]]:=(WS.weak[⟨Ba8 j.un i⟩] λD l H ⟨Z,S,Y,R,sl,q⟩=>by
 refine(Z,S,Y,R,sl.2,(Ed.lift (Rel:=RV Θ) sl q).mono ?_);rintro v r ⟨o,p,w,p1,m,k,d,n,h⟩;exact h.nxt k d)
def Bme(l:WT X c (tFb Θ E cf))(n:WSs X A (tS Θ E a))(m:WSs X B (tS Θ E b)):WS X (.If c A B pos) tS[Θ][E][ifS cf a b]:=(WS.weak[sif l n m] λD p H ⟨Z,S,Y,R,sl,q⟩=>by
 refine(Z,S,Y,R,sl.2,(Ed.lift sl q).mono ?_);rintro v s ⟨i,j,w,p1,r,k,d,rfl,h⟩;cases w with
 |true=>exact L2.App (i,j,Y,k,d,h)
 |false=>exact L2.At2 (i,j,Y,k,d,h))
end
abbrev Tg:=W->De->o9 De
def Br(i:Nat):Tg:=λw Y=>sr[Y.set i sr[w]]
def Ae6(is:lg Nat):Tg:=λw Y=>match w with
 |.tup ws=>if ws.length=is.length then sr[(is.zip ws).foldl (λY p=>Y.set p.1 sr[p.2]) Y] else sy
 |_=>sy
def GOk(Θ:Th)(s:Tg)(g:TG):Prop:=∀Z S H w v Y Y' σ Q,Rep Θ Z S H->RSs Θ Z H Y σ->RV Θ Z H w v->s w Y=sr Y'->(∀σ',RSs Θ Z H Y' σ'->Q σ' H)->g v σ H Q
def Am3(i:Nat):GOk f Br[i] Aa8[i]:=(λZ S H w v Y g d Q R a b e k=>by
 cases e;exact k _ a.set[b])
def Agm:lg Nat->TGs
 |[]=>Bno
 |i::is=>Bfv Aa8[i] Agm[is]
theorem Ajb:∀(is:lg Nat) {c:lg W} {j:lg V} {Y:De} {f:L2.St} {Q:L2.St->Hp->Prop},RVs g Z H c j->RSs g Z H Y f->c.length=is.length->
  (∀b,RSs g Z H ((is.zip c).foldl (λY p=>Y.set p.1 sr[p.2]) Y) b->Q b H)->Agm is j f H Q
 |[],_,_,_,_,_,.nil,d,_,k=>(rfl,k _ d)
 |[],_,_,_,_,_,.cons _ _,_,e,_=>by trivial
 |i::is,_,_,_,_,_,.nil,_,e,_=>by trivial
 |i::is,_,_,_,_,_,.cons h r,d,e,k=>(_,_,rfl,Ajb is r d.set[h] (by simpa using e) k)
set_option tactic.hygienic true in
def Aru{g:Th}{K:aD}(is:lg Nat){n:Nat}(j:n=is.length):GOk g Ae6[is] (Bky K n Agm[is]):=(λZ S H w v Y q m Q R h i e k=>by
 cases i <;> try trivial
 rename_i a o p l c;simp only[Ae6] at e;split at e
 .rename_i d;cases e;exact(_,_,rfl,SqT.of l,by rw[<-c.length,d,j],Ajb is c h d k)
 trivial)
def Vh(s:Tg)(b:MS):lg W->MS
 |[]=>.nx
 |w::ws=>λY S=>match s w Y with
  |none=>.bad
  |some Y1=>match b Y1 S with
   |.nx Y2 S2=>Vh s b ws Y2 S2
   |.ct Y2 S2=>Vh s b ws Y2 S2
   |.bk Y2 S2=>.nx Y2 S2
   |r=>r
def liG(n:Nat):Store->Nat->o9 o9[W]:=λS i=>match S[n]? with
 |some (.lst ws)=>sr ws[i]?
 |_=>sy
def elG(n:Nat):Store->Nat->o9 o9[W]:=λS i=>(liG n S i).map λo=>o.map λw=>W.tup [.int (i:Int),w]
def zlG(n m:Nat):Store->Nat->o9 o9[W]:=λS i=>match S[n]?,S[m]? with
 |some (.lst ws),sr (.lst us)=>match ws[i]?,us[i]? with
  |some w,sr u=>sr sr[.tup[[w,u]]]
  |_,_=>sr sy
 |_,_=>sy
def Agn(s:Tg)(b:MS)(gt:Store->Nat->o9 o9[W]):Nat->Nat->MS
 |0,_=>λuu uu=>.bad
 |m+1,i=>λY S=>match gt S i with
  |none=>.bad
  |some sy=>.nx Y S
  |some (sr w)=>match s w Y with
   |none=>.bad
   |some Y1=>match b Y1 S with
    |.nx Y2 S2=>Agn s b gt m (i+1) Y2 S2
    |.ct Y2 S2=>Agn s b gt m (i+1) Y2 S2
    |.bk Y2 S2=>.nx Y2 S2
    |r=>r
structure JOk(Θ:Th)(J:It)(all:List W)(Z0:List aL)(H0:Hp):Prop where
 go:∀Z H i,Z0 <+: Z->Ck Z0 Z H0 H->i < all.length->J.go i H/\∀x H',J.yld i H x H'->Ck Z Z H H'/\(∀S,Rep Θ Z S H->Rep Θ Z S H')/\∃w,all[i]?=sr w/\RV Θ Z H' w x
 stop:∀Z H i,Ck Z0 Z H0 H->i=all.length->J.stop i H
section
def Bcs(gk:GOk d s g)(jk:JOk d J all Z H)(R:Rep d Z S H)(sl:RSs d Z H Y o)(q:Ed d Z H (Vh s b all Y S) D E):
  ∃W:Nat->Nat->L2.St->Hp->Prop,(∃m,W 0 m o H)/\∀i m o H,W i m o H->(J.stop i H/\D.nx o H)\/(J.go i H/\∃N:L2.St->Hp->Prop,(∀A l,N A l->∃X,X < m/\W (i+1) X A l)/\∀x l,J.yld i H x l->g x o l λc u=>tS d E b { D with nx:=N,ct:=N,bk:=D.nx } c u):=by
 refine(λi m o v=>∃h z C,i<=all.length/\Z <+: h/\Ck Z h H v/\Rep d h z v/\RSs d h v C o/\m=(all.drop i).length/\Ed d h v (Vh s b all.drop[i] C z) D E,(_,Z,S,Y,bI _,aP _,Ck.refl _ _,R,sl,rfl,q),?_);rintro i m P v ⟨h,z,C,li,p1,y,G,j,rfl,a⟩;by_cases hi:i < all.length
 .let(go,yl):=jk.go h v i p1 y hi;refine .inr (go,λc u=>∃t O k,Z <+: t/\Ck Z t H u/\Rep d t O u/\RSs d t u k c/\Ed d t u (Vh s b all.drop[i+1] k O) D E,?_,λx l hy=>?_)
  .rintro c u ⟨t,O,k,p2,t2,R2,r,q2⟩;exact((all.drop[i+1]).length,by rw[dJ,dJ];omega,t,O,k,hi,p2,t2,R2,r,rfl,q2)
  .let(ty,Ry,w,ew,rv):=yl x l hy;let G:=Ry _ G;let j:=j.mono aP[_] ty;let y:=y.trans ty;let a:=Ed.shift a aP[_] ty;let ed:all.drop i=w::all.drop[i+1]:=by
    let(hl,e):=aC.mp ew;rw[<-e];exact eV hl
   rw[ed] at a;unfold Vh at a;cases Q:s w C with
   |none=>simp only[Q] at a;exact a.elim
   |some k=>
    simp only[Q] at a;refine gk h z l w x C k P _ G j rv Q λc r=>(h,z,k,G,r,?_);cases e:b k z with
    |nx I L=>
     rw[e] at a;exact λB U n p3 p F f=>(B,L,I,p1.trans p3,y.trans p,F,f,Ed.shift a p3 p)
    |ct I L=>
     rw[e] at a;exact λB U n p3 p F f=>(B,L,I,p1.trans p3,y.trans p,F,f,Ed.shift a p3 p)
    |bk I L=>
     rw[e] at a;exact λB U n p3 p F f=>a B U n p3 p F f
    |_=>rw[e] at a;exact a
 .rw[dX ()] at a
  exact .inl (jk.stop h v i y (),a.nxt G j)
structure JLv(Θ:Th)(J:It)(gt:Store->Nat->Option (Option W))(Z0:List aL):Prop where
 stop:∀Z S H i,Z0 <+: Z->Rep Θ Z S H->gt S i=sr sy->J.stop i H
 go:∀Z S H i w,Z0 <+: Z->Rep Θ Z S H->gt S i=sr (sr w)->J.go i H/\∀x H',J.yld i H x H'->Ck Z Z H H'/\(∀S,Rep Θ Z S H->Rep Θ Z S H')/\RV Θ Z H' w x
def Bic{a Z:lg aL}{k:Nat}{c:aL}(p:a <+: Z)(h:a[k]?=sr c):Z[k]?=sr c:=by
 let(r,rfl):=p;rw[aY (aC.mp h).1];exact h
set_option tactic.hygienic true in
def Arv{n:Nat}(p:Z0 <+: Z)(h:Z0[n]?=sr a)(R:Rep f Z S H)(e:liG n S i=sr o):∃c d,H a=sr .lst[d]/\RVs f Z H c d/\c[i]?=o:=by
 unfold liG at e;split at e
 .rename_i c k;let(q,b,d,j,g):=R.get k;rw[Bic p h] at b;cases b;exact(c,d,j,g,cA e)
 .cases e
theorem Axk{n:Nat}(f:Z0[n]?=sr a):JLv h (Itl h.K a) liG[n] Z0:=(λZ S H i p R e=>by
  let(j,b,c,d,z):=Arv p f R e;exact(b,.inl .inl[c],by rw[<-d.length];exact gW.mp z),λZ S H i w p R e=>by
  let(j,b,c,d,z):=Arv p f R e;let(v,ev,k):=d.get z;refine((b,v,.inl .inl[c],ev),?_);rintro x s ⟨rfl,l⟩;let g:=l b .inl[.inl[c]];rw[ev] at g;cases g;exact(Ck.refl _ _,λq r=>r,k))
theorem Bid{n:Nat}(j:Z0[n]?=sr a):JLv k (Awr k.K a) elG[n] Z0:=(λZ S H i p R e=>by
  let(o,h,b):=bA.mp e;let(l,c,d,f,z):=Arv p j R h;rw[Option.map_eq_none_iff.mp b] at z;exact(c,.inl .inl[d],by rw[<-f.length];exact gW.mp z),λZ S H i w p R e=>by
  let(o,h,b):=bA.mp e;let(l,c,d,f,z):=Arv p j R h;let(u,rfl,rfl):=bA.mp b;let(v,ev,m):=f.get z;refine((c,v,.inl .inl[d],ev),?_);rintro x A ⟨y,T,q,g,rfl,rfl⟩;let b:=q c .inl[.inl[d]];rw[ev] at b;cases b;exact(Bg g,λS r=>r.beside g,.tup Am (.cons .int[_] .cons[m.mono aP[_] Bg[g]][.nil])))
set_option tactic.hygienic true in
def Axl{n m:Nat}(hn:Z0[n]?=sr a)(hm:Z0[m]?=sr b):JLv G (Itz G.K tu a b) (zlG n m) Z0:=by
 let up:∀{Z:lg aL} {k:Nat} {c:aL},Z0 <+: Z->Z0[k]?=sr c->Z[k]?=sr c:=λ{Z k c} p h=>by
  let(r,rfl):=p;rw[aY (aC.mp h).1];exact h
 let open_:∀{Z:lg aL} {S:Store} {H:Hp} {i:Nat} {o:o9 W},Z0 <+: Z->Rep G Z S H->zlG n m S i=sr o->∃f j g d,S[n]?=sr .lst[f]/\S[m]?=sr .lst[j]/\H a=sr .lst[g]/\H b=sr .lst[d]/\RVs G Z H f g/\RVs G Z H j d/\
   (match f[i]?,j[i]? with|some w,sr u=>sr sr[W.tup[[w,u]]]|_,_=>sr sy)=sr o:=λ{Z S H i o} p R e=>by
  unfold zlG at e;cases I:S[n]? with
  |none=>rw[I] at e;cases e
  |some Q=>
   cases J:S[m]? with
   |none=>rw[I,J] at e;cases Q <;> cases e
   |some c2=>
    rw[I,J] at e;cases Q <;> cases c2 <;> first|cases e;done|skip
    rename_i f j;let(a',C,g,t,A):=R.get I;let(b',B,d,s,z):=R.get J;rw[up p hn] at C;cases C;rw[up p hm] at B;cases B;exact(f,j,g,d,rfl,rfl,t,s,A,z,e)
 refine(λZ S H i p R e=>?_,λZ S H i w p R e=>?_)
 .let(f,j,g,d,_,_,t,s,A,z,e):=open_ p R e;refine(g,d,.inl .inl[t],.inl .inl[s],?_);rw[<-A.length,<-z.length];cases l:f[i]? with
  |none=>exact .inl gW.mp[l]
  |some x=>
   cases q:j[i]? with
   |none=>exact .inr gW.mp[q]
   |some y=>rw[l,q] at e;cases e
 .let(f,j,g,d,_,_,t,s,A,z,e):=open_ p R e;cases l:f[i]? with
  |none=>rw[l] at e;cases e
  |some x=>
   cases q:j[i]? with
   |none=>rw[l,q] at e;cases e
   |some y=>
    rw[l,q] at e;cases e;let(U,P,Y):=A.get l;let(T,O,X):=z.get q;refine((g,d,U,T,.inl .inl[t],.inl .inl[s],P,O),?_);rintro v H' ⟨pp,x',y',f1,f2,hp,rfl,rfl⟩;let N:=f1 g .inl[.inl[t]];let L:=f2 d .inl[.inl[s]];rw[P] at N;cases N;rw[O] at L;cases L;exact(Bg hp,λS r=>r.beside hp,.tup Am .cons[Y.mono aP[_] Bg[hp]][.cons[X.mono aP[_] Bg[hp]][.nil]])
def Bct{gt:Store->Nat->o9 o9[W]}{f:Nat}{Z:lg aL}{S:Store}{H:Hp}{Y:De}{l:L2.St}(gk:GOk n s g)(jk:JLv n J gt Z)(R:Rep n Z S H)(sl:RSs n Z H Y l)(q:Ed n Z H (Agn s b gt f 0 Y S) D E):
  ∃W:Nat->Nat->L2.St->Hp->Prop,(∃m,W 0 m l H)/\∀i m l H,W i m l H->(J.stop i H/\D.nx l H)\/(J.go i H/\∃N:L2.St->Hp->Prop,(∀z p,N z p->∃X,X < m/\W (i+1) X z p)/\∀x p,J.yld i H x p->g x l p λt H2=>tS n E b { D with nx:=N,ct:=N,bk:=D.nx } t H2):=by
 refine(λi m l y=>∃j k F,Z <+: j/\Rep n j k y/\RSs n j y F l/\Ed n j y (Agn s b gt m i F k) D E,(f,Z,S,Y,aP _,R,sl,q),?_);rintro i m O y ⟨j,k,F,p1,u,d,a⟩;cases m with
 |zero=>exact a.elim
 |succ m=>
  unfold Agn at a;cases B:gt k i with
  |none=>simp only[B] at a;exact a.elim
  |some o=>
   cases o with
   |none=>simp only[B] at a;exact .inl (jk.stop j k y i p1 u B,a.nxt u d)
   |some w=>
    simp only[B] at a;let(go,yl):=jk.go j k y i w p1 u B;refine .inr (go,_,λt H2 h=>(m,gY m,h),λx p hy=>?_);let(ty,Ry,rv):=yl x p hy;let u:=Ry _ u;let d:=d.mono aP[_] ty;let a:=Ed.shift a aP[_] ty;cases Q:s w F with
    |none=>simp only[Q] at a;exact a.elim
    |some T=>
     simp only[Q] at a;refine gk j k p w x F T O _ u d rv Q λt P=>(j,k,T,u,P,?_);cases e:b T k with
     |nx I L=>
      rw[e] at a;exact λC U r p3 A G c=>(C,L,I,p1.trans p3,G,c,Ed.shift a p3 A)
     |ct I L=>
      rw[e] at a;exact λC U r p3 A G c=>(C,L,I,p1.trans p3,G,c,Ed.shift a p3 A)
     |bk I L=>
      rw[e] at a;exact λC U r p3 A G c=>a C U r p3 A G c
     |_=>rw[e] at a;exact a
end
inductive Src where
 |fix (ws:List W)
 |liv (n:Nat)
 |zl (n m:Nat)
 |el (n:Nat)
def Axm(x:W):M Src:=match x with
 |.tup ws=>pure .fix[ws]
 |.scr ns=>pure .fix[ns.map[W.int]]
 |.str z=>if z.length<=big then pure .fix[chars[z]] else bad
 |.ref n=>λS=>match S[n]? with
  |some (.lst _)=>.ok .liv[n] S
  |_=>.bad
 |_=>bad
def Ea(f:De->M W):De->M Src:=λY=>do let x<-f Y;Axm x
def Fj:lg W->M Src
 |[.int j]=>if -(2 ^ 62)<=j/\j < 2 ^ 62 then pure .fix[(cO j.toNat).map λ(k:Nat)=>W.int[(0:Int)+(k:Int)]] else bad
 |_=>bad
def Ii(r:lg W->M Src)(f:De->M lg[W]):De->M Src:=λY=>do let x<-f Y;r x
def Aku(s:Tg)(b:MS)(gt:Store->Nat->o9 o9[W])(n:Nat):MS:=λY S=>match S[n]? with
 |some (.lst ws)=>Agn s b gt (ws.length+1) 0 Y S
 |_=>.bad
def Mu(src:De->M Src)(s:Tg)(b:MS):MS:=λY=>Ju src[Y] (λz=>match z with
 |.fix ws=>Vh s b ws
 |.liv n=>Aku s b liG[n] n
 |.zl n m=>Aku s b (zlG n m) n
 |.el n=>Aku s b elG[n] n) Y
def Ac9(Θ:Th)(Z:lg aL)(H:Hp)(z:Src)(J:It):Prop:=match z with
 |.fix ws=>JOk Θ J ws Z H
 |.liv n=>∃a,Z[n]?=sr a/\J=Itl Θ.K a
 |.zl n m=>∃a b,Z[n]?=sr a/\Z[m]?=sr b/\J=Itz Θ.K tu a b
 |.el n=>∃a,Z[n]?=sr a/\J=Awr Θ.K a
def tFi(Θ:Th)(E:L2.St->XK)(f:De->M Src):TI:=λσ H Q=>TF Θ Ac9[Θ] f σ H Q E[σ]
section
theorem Bcu(h:H a=sr .tup[b])(r:RVs c Z H f b):JOk c (Itt c.K a) f Z H where
 go:=λk d i p t hi=>by
  let(v,e,g):=r.get aM[hi];let sq:SqT c.K d a b:=SqT.of[t.t _ _ h];refine((b,v,sq,e),?_);rintro x m ⟨rfl,j⟩;let z:=j b sq;rw[e] at z;cases z;exact(Ck.refl _ _,λl r=>r,_,aM hi,g.mono p t)
 stop:=λk d i t hi=>(b,SqT.of[t.t _ _ h],by rw[<-r.length,hi];exact aN _)
theorem Bcv{ns:lg Int}(h:Scr a H l ns):JOk a (Itl a.K l) ns.map[W.int] Z H where
 go:=λd g i p t hi=>by
  let sq:=(h.mono t).sq;rw[aB] at hi;let e:(ns.map V.int)[i]?=sr .int[getElem[ns][i][by get_elem_tactic]]:=by rw[aX,aM hi];rfl
  refine((_,_,sq,e),?_);rintro x k ⟨rfl,c⟩;let z:=c _ sq;rw[e] at z;cases z;exact(Ck.refl _ _,λj r=>r,.int getElem[ns][i][by get_elem_tactic],by rw[aX,aM hi];rfl,.int _)
 stop:=λd g i t hi=>(_,(h.mono t).sq,by rw[aB] at hi ⊢;omega)
theorem Bcw(lo:Int)(n:Nat):JOk e (Itr lo n) ((cO n).map λ(k:Nat)=>W.int[lo+(k:Int)]) Z H where
 go:=λc d i p t hi=>by
  rw[aB,bM] at hi;refine(hi,?_);rintro x g ⟨rfl,rfl⟩;exact(Ck.refl _ _,λf r=>r,.int[lo+i],by rw[aX,iJ hi];rfl,.int _)
 stop:=λc d i t hi=>by rw[aB,bM] at hi;exact lR hi.symm
theorem Bcx(z:o8):JOk f Its[z] chars[z] Z H where
 go:=λb e i p t hi=>by
  unfold chars at hi ⊢
  rw[aB,aW] at hi;refine(hi,?_);rintro x h ⟨rfl,c,a,rfl⟩;exact(Ck.refl _ _,λg r=>r,.str ⟨#[c]⟩,by rw[aX,gC,a];rfl,.str _)
 stop:=λb e i t hi=>by
  unfold chars at hi;rw[aB,aW] at hi;exact hi
end
section
def WI.weak(h:WI X tg e t)(k:∀σ H Q,t' σ H Q->t σ H Q):WI X tg e t':=⟨λaa s σ H Q I q=>h.un aa s σ H Q I (k σ H Q q)⟩
def WI.or(h:WI X b e t)(f:WI X b e d):WI X b e (λa H Q=>t a H Q\/d a H Q):=(⟨λc s a H Q I q=>by
 rcases q with q|q
 .exact h.un c s a H Q I q
 .exact f.un c s a H Q I q⟩)
set_option tactic.hygienic true in
def Am4(hK:X.K=i.K)(h:WE X e (tF i E f)):WI X N e (tFi i E Ea[f]):=(
 WI.weak WI.or[WI.or[⟨Bg0 h.un⟩][⟨Ba9 h.un⟩]][⟨Bhm h.un⟩] λs H Q ⟨Z,S,Y,R,sl,q⟩=>by
  rw[hK];let go:∀(t:V->Hp->Prop),(∀v m p g w,Rep i p g m->RV i p m w v->Av i Ac9[i] p m (Axm w g) Q E[s]->f Y S=.ok w g->t v m)->tF i E f s H t:=λt k=>by
   refine(Z,S,Y,R,sl,?_);let r:=Av.seq (Rel:=RV i) q;cases j:f Y S with
   |bad=>rw[j] at r;exact r
   |exc c g=>rw[j] at r;exact r
   |ok w g=>
    rw[j] at r;intro p m v p1 C l o;let q:Av i Ac9[i] Z H (M.bind f[Y] Axm S) Q E[s]:=q;unfold M.bind at q;rw[j] at q;exact k v m p g w l o (Av.shift q p1 C) j
  cases j:f Y S with
  |bad=>exact .inl (.inl (go _ λv m p g w l o d b=>by rw[j] at b;cases b))
  |exc c g=>exact .inl (.inl (go _ λv m p g w l o d b=>by rw[j] at b;cases b))
  |ok A T=>
   cases A with
   |str z=>
    refine .inr[go _ λv m p g w l o d b=>?_];rw[j] at b;cases b;cases o;let(P,d):=G5 d;exact(_,rfl,Av.now d l Bcx[_])
   |tup J=>
    refine .inl .inl[go _ λv m p g w l o d b=>?_];rw[j] at b;cases b;cases o with
    |tup y F=>exact(_,rfl,(_,SqT.of y),Av.now (Rel:=Ac9 i) d l (Bcu y F))
   |scr ns=>
    refine .inl .inr[go _ λv m p g w l o d b=>?_];rw[j] at b;cases b;cases o with
    |scr u=>exact(_,rfl,(_,u.sq),Av.now (Rel:=Ac9 i) d l Bcv[u])
   |ref n=>
    refine .inl .inr[go _ λv m p g w l o d b=>?_];rw[j] at b;cases b;cases o with
    |@ref _ a x=>
     simp only[Axm] at d;split at d
     .rename_i L I;let(B,G,O):=l.at_ _ _ _ x I;exact(_,rfl,(B,.inl .inl[G]),Hq (Rel:=Ac9 i) d l (a,x,rfl))
     .exact(show False from d).elim
   |_=>
    refine .inl .inl[go _ λv m p g w l o d b=>?_];rw[j] at b;cases b;exact(show False from d).elim)
def Bie(hp:xG (model X.prog X.w) X.A X.env X.xe)(hK:X.K=d.K)(C:X.calm=t8)(hi:WI X k c (tFi d E src))(B:WG X k g)(o:GOk d s g)(F:WSs X body (tS d E bd))(v:∀x,foldedSetIterable c X.env x=pure x):
  WS X (.For k c body [] t) tS[d][E][Mu src s bd]:=(WS.weak ⟨Bg1 hp C hi.un B.un F.un v⟩ λD L H ⟨Z,S,Y,R,sl,q⟩=>by
 refine(Z,S,Y,R,sl.2,(Ed.lift sl q).mono ?_);rintro J I ⟨p,G,z,p1,O,r,e,h,i⟩;let j:∀{gt n},JLv d J gt p->Ed d p I (Aku s bd gt n Y G) D E->_:=λ{gt n} jk q=>by
  unfold Aku at q;split at q
  .exact Bct o jk r e q
  .exact q.elim
 cases z with
 |fix N=>exact Bcs o h r e i
 |liv n=>let(a,f,rfl):=h;exact j Axk[f] i
 |el n=>let(a,f,rfl):=h;exact j Bid[f] i
 |zl n m=>let(a,b,f,y,rfl):=h;exact j (Axl f y) i)
end
section
def Bif(k:X.mg "range"=sy)(m:WA X [a] (tFs c E n))(l:X.env.kindOf "range"=sr .globalImplicit)(j:starEach [a] X.env=[(tu,eval a X.env)]):WI X v (.Call (.Name "range" p) [a] [] i) tFi[c][E][Ii Fj n]:=(
 WI.weak[Bb2 k m l j] λs H Q ⟨Z,S,Y,R,sl,q⟩=>by
  refine(Z,S,Y,R,sl,(Av.seq (Rel:=RVs c) q).mono ?_);rintro u z ⟨x,y,t,p1,w,o,d,b⟩;cases d with
  |nil=>trivial
  |cons f r=>
   cases r with
   |cons _ _=>cases f <;> exact(show False from b).elim
   |nil=>
    cases f <;> try exact(show False from b).elim
    let(e,b):=G5 b;exact(_,rfl,e.1,e.2,Av.now (Rel:=Ac9 c) b o (Bcw 0 _)))
end
inductive Ty where
 |lst|str|dct
def Ty.is:Ty->W->Store->Bool
 |.lst,.ref n,S=>match S[n]? with
  |some (.lst _)=>t8
  |_=>tu
 |.str,.str _,_=>t8
 |.dct,.ref n,S=>match S[n]? with
  |some (.dct _)=>t8
  |_=>tu
 |_,_,_=>tu
def Ty.name:Ty->String
 |.lst=>"list"
 |.str=>"str"
 |.dct=>"dict"
def Mv(T:Ty)(op:W->lg W->M W)(f:De->M W)(gs:De->M lg[W]):De->M W:=λY=>do
 let x<-f Y;let _<-(λS=>if T.is x S then .ok u9 S else .bad:M Unit)
 let ws<-gs Y
 op x ws
def Am5(x:W)(k:Nat->lg W->M W):M W:=match x with
 |.ref n=>λS=>match S[n]? with
  |some (.lst ws)=>k n ws S
  |_=>.bad
 |_=>bad
def putL(n:Nat)(ws:lg W)(r:W):M W:=λS=>if ws.length<=big then .ok r (S.set n .lst[ws]) else .bad
def Abg(x:W)(us:lg W):M W:=Am5 x λn ws=>match us with
 |[u]=>putL n (ws ++ [u]) .non
 |_=>bad
def Axn(x:W)(us:lg W):M W:=Am5 x λn ws=>match us with
 |[.int i]=>if ws.length<=big then match ixN ws.length i with
  |some j=>match ws[j]? with
   |some w=>putL n ws.eraseIdx[j] w
   |none=>bad
  |none=>bad else bad
 |_=>bad
def Ajc(kvs:lg[Key×W])(k:Key):lg[Key×W]:=kvs.filter λp=>decide[p.1≠k]
def Xx(x:W)(us:lg W):M W:=match x,us with
 |.ref n,[u]=>λS=>match S[n]?,Aag u with
  |some (.dct kvs),sr k=>match Abe kvs k with
   |some w=>.ok w (S.set n .dct[Ajc kvs k])
   |none=>.bad
  |_,_=>.bad
 |_,_=>bad
def Vi(x:W)(us:lg W):M W:=match x,us with
 |.str z,[.ref n]=>λS=>match S[n]? with
  |some (.lst ws)=>match Ci Aja ws with
   |some ys=>if (ys.map (·.length)).sum+ys.length * z.length<=big then .ok .str[zW z ys] S else .bad
   |none=>.bad
  |_=>.bad
 |_,_=>bad
def Axo(x:W)(us:lg W):M W:=match x,us with
 |.str z,[.str y]=>pure .int[aDj z y]
 |_,_=>bad
def Ap6(x:W)(us:lg W):M W:=match x,us with
 |.str z,[.str y]=>pure .int[aDf z y]
 |_,_=>bad
def Ada(x:W)(us:lg W):M W:=match x,us with
 |.str z,[.str y]=>match dB z y 0 z.length 1 with
  |i::_=>pure (.int (i:Nat))
  |[]=>bad
 |_,_=>bad
def Akv(x:W)(us:lg W):M W:=match x,us with
 |.str z,[.int i,.str f]=>if PadOk i&&decide[f.length=1] then pure .str[sJ[z][i][f.cps.getD 0 0]] else bad
 |_,_=>bad
def Akw(x:W)(us:lg W):M W:=match x,us with
 |.str z,[.str y]=>if z.length<=big then pure .str[iZ z y] else bad
 |_,_=>bad
section
set_option tactic.hygienic true in
def Bcy(R:Rep a Z S H)(k:RV a Z H x c)(r:RVs a Z H e d)(h:Av a RV[a] Z H (Akv x e S) Q E):∃z i f,c=.str z/\d=[.int i,.str f]/\PadOk i=t8/\f.length=1/\Q .str[sJ[z][i][f.cps.getD 0 0]] H:=by
 unfold Akv at h;split at h
 .rename_i z i f;cases k;cases r with|cons j r=>
  cases r with|cons g r=>
  cases r;cases j;cases g;let(b,h):=G5 h;rw[aQ] at b;exact(_,_,_,rfl,rfl,b.1,dg b.2,h.now R .str[_])
 trivial
set_option tactic.hygienic true in
def Bcz(R:Rep a Z S H)(g:RV a Z H x b)(r:RVs a Z H d c)(h:Av a RV[a] Z H (Ada x d S) Q E):∃z y i rest,b=.str z/\c=[.str y]/\dB z y 0 z.length 1=i::rest/\Q (.int (i:Nat)) H:=by
 unfold Ada at h;split at h
 .rename_i z y;cases g;cases r with|cons f r=>
  cases r;cases f;cases e:dB z y 0 z.length 1 with
  |nil=>rw[e] at h;trivial
  |cons i rest=>
   rw[e] at h;exact(_,_,i,rest,rfl,rfl,e,h.now R .int[_])
 trivial
set_option tactic.hygienic true in
def Am6{k:Nat->lg W->M W}(R:Rep b Z S H)(l:RV b Z H x i)(h:Av b RV[b] Z H (Am5 x k S) Q E):
  ∃n a c d,x=.ref n/\i=.ref a/\Z[n]?=sr a/\S[n]?=sr .lst[c]/\H a=sr .lst[d]/\RVs b Z H c d/\Av b RV[b] Z H (k n c S) Q E:=by
 cases l <;> try exact(h).elim
 rename_i n a e;simp[Am5] at h;split at h
 .rename_i c f;let(d,m,j):=R.at_ _ _ _ e f;exact(n,a,c,d,rfl,rfl,e,f,m,j,h)
 trivial
def Arw{n:Nat}(R:Rep b Z S H)(i:Z[n]?=sr a)(m:H a=sr .lst[j])(g:RVs b Z H k c)(l:RV b Z H r d)(h:Av b RV[b] Z H (putL n k r S) Q E):
  c.length<=big/\Q d (upd H a .lst[c]):=by
 simp[putL] at h;split at h
 .rename_i p;let t:Ck Z Z H (upd H a .lst[c]):=K1 i m (λf e=>by cases e) (λf f e=>by cases e)
  refine(by rw[<-g.length];omega,h Z _ d aP[_] t (R.write i t (c,Am,g.mono aP[_] t)) (l.mono aP[_] t))
 trivial
theorem RVs.erase:∀{c:lg W} {b:lg V} (i:Nat),RVs d Z H c b->RVs d Z H c.eraseIdx[i] b.eraseIdx[i]
 |_,_,_,.nil=>.nil
 |_,_,0,.cons _ r=>r
 |_,_,i+1,.cons h r=>.cons h (RVs.erase i r)
set_option tactic.hygienic true in
def Bc0(R:Rep c Z S H)(y:RV c Z H x m)(r:RVs c Z H p o)(h:Av c RV[c] Z H (Axn x p S) Q E):Awf m o H Q:=by
 let(n,a,f,l,rfl,rfl,g,D,k,d,h):=Am6 R y h;split at h
 .rename_i i _;let(v,rfl,hu):=rv1 r;cases hu;let(u,h):=G5 h;cases b:ixN f.length i with
  |none=>simp only[b] at h;trivial
  |some j=>
   cases e:f[j]? with
   |none=>simp only[b,e] at h;trivial
   |some w=>
    simp only[b,e] at h;let(v,ev,t):=d.get e;let(_,q):=Arw R g k d.erase[j] t h;rw[d.length] at b;let(s,C,B,A):=Ark b;let g:=Acy;let z:=K3 u;rw[d.length] at z;exact(a,l,i,j,v,rfl,rfl,k,(),(),s,ev,q)
 .exact(show False from h).elim
def Big(R:Rep a Z S H)(e:RV a Z H x b)(r:RVs a Z H d c)(h:Av a RV[a] Z H (Axo x d S) Q E):∃z y,b=.str z/\c=[.str y]/\Q .int[aDj z y] H:=by
 unfold Axo at h;split at h
 .cases e;let(v,rfl,f):=rv1 r;cases f;exact(_,_,rfl,rfl,h.now R .int[_])
 .exact(show False from h).elim
def Bc1(R:Rep a Z S H)(f:RV a Z H x b)(r:RVs a Z H d c)(h:Av a RV[a] Z H (Akw x d S) Q E):∃z y,b=.str z/\c=[.str y]/\z.length<=sizeLine/\Q .str[iZ z y] H:=by
 unfold Akw at h;split at h
 .cases f;let(v,rfl,g):=rv1 r;cases g;let(e,h):=G5 h;exact(_,_,rfl,rfl,K3 e,h.now R .str[_])
 .exact(show False from h).elim
def Bc2(R:Rep a Z S H)(e:RV a Z H x b)(r:RVs a Z H d c)(h:Av a RV[a] Z H (Ap6 x d S) Q E):∃z y,b=.str z/\c=[.str y]/\Q .int[aDf z y] H:=by
 unfold Ap6 at h;split at h
 .cases e;let(v,rfl,f):=rv1 r;cases f;exact(_,_,rfl,rfl,h.now R .int[_])
 .exact(show False from h).elim
set_option tactic.hygienic true in
def Bih(R:Rep c Z S H)(k:RV c Z H x e)(r:RVs c Z H g f)(h:Av c RV[c] Z H (Vi x g S) Q E):∃z p b,e=.str z/\f=[.ref p]/\H p=sr .lst[b.map[V.str]]/\(b.map (·.length)).sum+b.length * z.length<=16777216/\Q .str[zW z b] H:=by
 unfold Vi at h;split at h
 .rename_i z n;cases k;let(v,rfl,m):=rv1 r;let(a,rfl,l):=m.rI;split at h
  .rename_i t q;split at h
   .rename_i b o;split at h
    .rename_i j;let(s,d,i):=R.at_ _ _ _ l q;rw[Lq Agl i o] at d;exact(z,a,b,rfl,rfl,d,aH j (),Hq h R .str[_])
    .exact(show False from h).elim
   .exact(show False from h).elim
  .exact(show False from h).elim
 .exact(show False from h).elim
end
def Bc3(b:Bool)(x:o8):o9[Ty×(W->lg W->M W)]:=
 if b=t8/\x="pop" then sr[u6 .dct Xx] else if x="append" then sr[u6 .lst Abg] else if x="pop" then sr[u6 .lst Axn]
 else if x="join" then sr[u6 .str Vi] else if x="find" then sr[u6 .str Axo] else if x="rfind" then sr[u6 .str Ap6]
 else if x="ljust" then sr[u6 .str Akv] else if x="index" then sr[u6 .str Ada] else if x="strip" then sr[u6 .str Akw] else sy
structure Bor(Θ:Th)(X:Cx)(T:Ty)(name:o8)(op:W->List W->M W) where
 id:String
 pa:PlainAttrs T.name
 slot:Slot T.name name id
 ty:typeOf (.builtin id)=pure (.type "method_descriptor")
 r:V->List V->Hp->VK->Prop
 ok:MtR X id r
 by_:∀Z S H x vx us vs Q E,Rep Θ Z S H->RV Θ Z H x vx->RVs Θ Z H us vs->Av Θ (RV Θ) Z H (op x us S) Q E->r vx vs H Q
def RKV.drop(r:RKV c Z H a d)(k:Key):RKV c Z H (Ajc a k) (Agg d k):=by
 unfold RKV at r ⊢
 unfold Agg Ajc;induction r with
 |nil=>exact .nil
 |cons h t b=>
  rw[gG,gG,h.1];split
  .exact .cons h b
  .exact b
set_option tactic.hygienic true in
def Bii(R:Rep a Z S H)(A:RV a Z H x j)(r:RVs a Z H m l)(h:Av a RV[a] Z H (Xx x m S) Q E):Bf3 j l H Q:=by
 unfold Xx at h;split at h
 .rename_i n u;cases r with|cons q r=>
  cases r;let(_,rfl,c):=A.rI;split at h
  .rename_i s k F D;split at h
   .rename_i w C;let(f,i,g):=R.at_ _ _ _ c F;rcases Aks g k with ⟨G,v,d,B,p⟩|⟨d,_⟩ <;> rw[C] at d <;> cases d
    let y:=Abf q D;refine(_,f,k,v,rfl,by rw[y],i,B,?_)
    let t:=K1 c i (o:=.dK[Agg f k]) (λb e=>by cases e) (λb b e=>by cases e)
    exact h Z _ v aP[_] t (R.write c t (_,Am,Paired.imp2[λb b z=>(z.1,z.2.mono aP[_] t)][g.drop k])) (p.mono aP[_] t)
   .exact(show False from h).elim
  .exact(show False from h).elim
 .exact(show False from h).elim
def Bc4(h:Bc3 b name=sr[u6 T Y]):Nonempty[Bor Θ X T name Y]:=by
 unfold Bc3 at h;split at h
 .rename_i e;let(_,rfl):=e;cases h;exact⟨(_,PySem.F.plainAttrs_dict,tM,PySem.F.type_dict_pop,_,Bca,λZ S H x m g d Q E R c r h=>Bii R c r h)⟩
 split at h
 .rename_i e;subst e;cases h;exact⟨(_,rP,PySem.F.slot_list_append,PySem.F.type_list_append,_,Aiy,λZ S H x m g d Q E R c r h=>by
    let(n,a,ws,N,rfl,rfl,hn,e1,L,U,h):=Am6 R c h;cases r with
    |nil=>exact(show False from h).elim
    |cons hu r=>
     cases r with
     |cons _ _=>exact(show False from h).elim
     |nil=>
      let(A,q):=Arw R hn L U.append[.cons hu .nil] .non h;rw[bH,cX] at A;exact(a,N,_,rfl,rfl,L,K3 A,q))⟩
 split at h
 .rename_i e;subst e;cases h;exact⟨(_,rP,PySem.F.slot_list_pop,PySem.F.type_list_pop,_,Awg,λZ S H x m g d Q E R c r h=>Bc0 R c r h)⟩
 split at h
 .rename_i e;subst e;cases h;exact⟨(_,gP,PySem.F.slot_str_join,PySem.F.type_str_join,_,by
    intro C s B H x d v g Q I j l h;let(z,p,O,rfl,rfl,hp,A,q):=h;let(t,rfl):=j;let(u,rfl,P):=l.one;cases P;let(_,G,n,r,e):=(show Eo X.prog X.w H s.heap p .lst[O.map[V.str]] from I.hok p _ hp);exact join_list (D:=p) (items:=G.toArray) (_,e,rfl,_,rfl) (by simpa using Afh r) A λo k=>(.str _,H,I.tok _,(_,rfl),q),λZ S H x m g d Q E R c r h=>Bih R c r h)⟩
 split at h
 .rename_i e;subst e;cases h;exact⟨(_,gP,PySem.F.slot_str_find,PySem.F.type_str_find,_,by
    intro C s B H x d v g Q I j l h;let(z,y,rfl,rfl,q):=h;let(t,rfl):=j;let(u,rfl,o,rfl):=l.one;exact SC.find (.int _,H,I.tok _,(_,rfl),q),λZ S H x m g d Q E R c r h=>Big R c r h)⟩
 split at h
 .rename_i e;subst e;cases h;exact⟨(_,gP,PySem.F.slot_str_rfind,PySem.F.type_str_rfind,_,by
    intro C s B H x d v g Q I j l h;let(z,y,rfl,rfl,q):=h;let(t,rfl):=j;let(u,rfl,o,rfl):=l.one;exact SC.rfind (.int _,H,I.tok _,(_,rfl),q),λZ S H x m g d Q E R c r h=>Bc2 R c r h)⟩
 split at h
 .rename_i e;subst e;cases h;exact⟨(_,gP,PySem.F.slot_str_ljust,PySem.F.type_str_ljust,_,by
    intro C s B H x d v g Q I j l h;let(z,i,f,rfl,rfl,hp,hf,q):=h;let(t,rfl):=j;let(u,w,rfl,(t1,rfl),t2,rfl):=l.two;exact ljust_fill hp hf λo k=>(.str _,H,I.tok _,(_,rfl),q),λZ S H x m g d Q E R c r h=>Bcy R c r h)⟩
 split at h
 .rename_i e;subst e;cases h;exact⟨(_,gP,PySem.F.slot_str_index,PySem.F.type_str_index,_,by
    intro C s B H x d v g Q I j l h;let(z,y,i,rest,rfl,rfl,ho,q):=h;let(t,rfl):=j;let(u,rfl,o,rfl):=l.one;exact SC.index ho (.int i,H,I.tok _,(_,rfl),q),λZ S H x m g d Q E R c r h=>Bcz R c r h)⟩
 split at h
 .rename_i e;subst e;cases h;exact⟨(_,gP,PySem.F.slot_str_strip,PySem.F.type_str_strip,_,by
    intro C s B H x d v g Q I j l h;let(z,y,rfl,rfl,A,q):=h;let(t,rfl):=j;let(u,rfl,o,rfl):=l.one;exact SC.stripChars (λo k=>(.str _,H,I.tok k,(o,rfl),q)) A,λZ S H x m g d Q E R c r h=>Bc1 R c r h)⟩
 .cases h
section
variable{Θ:Th}{X:Cx}{o e a b c:cM}{es:lg cM}{name:o8}{ak cpos:Pos}{E:L2.St->XK}{f:De->M W}{gs:De->M (lg W)}{T:Ty}{op:W->lg W->M W}
set_option tactic.hygienic true in
def Ty.is_ok{Z:lg aL}{S:Store}{H:Hp}{x:W}{v:V}{K:aD}(R:Rep Θ Z S H)(g:RV Θ Z H x v)(h:T.is x S=t8):tyV K T.name v H:=by
 cases T with
 |str=>cases g <;> first|rfl|trivial
 |lst=>
  cases g <;> try trivial
  rename_i n a i;simp[Ty.is] at h;split at h
  .rename_i m k;let(d,j,p):=R.at_ _ _ _ i k;exact .inl (rfl,d,.inl .inl[j])
  trivial
 |dct=>
  cases g <;> try trivial
  rename_i n a i;simp[Ty.is] at h;split at h
  .rename_i m k;let(d,j,p):=R.at_ _ _ _ i k;exact .inr .inr[.inl (rfl,.inl (d,j))]
  trivial
def Bos(D:Bc3 pb name=sr[u6 T op])(F:WE X o (tF Θ E f))(I:WA X (e::es) (tFs Θ E gs))(J:attributeBase o name X.env (eval o X.env)=eval o X.env)(h:((backTo cpos (starEach (e::es) X.env)).all (λx=>!x.1)&&(backToKw cpos (keywordEach [] X.env)).all (λx=>x.1.isSome)&&decide[(e::es).length+([]:lg iQ).length+(if ([]:lg iQ).isEmpty then 0 else 1) < 30])=t8)(L:(ak.endLine==cpos.line)=t8)(G:starEach (e::es) X.env=(u6 tu (eval e X.env))::starEach es X.env)(l:(backTo cpos (starEach es X.env)).any (·.1)=tu):
  WE X (.Call (.Attribute o name ak) (e::es) [] cpos) tF[Θ][E][Mv T op f gs]:=by
 obtain⟨m⟩:=Bc4 (Θ:=Θ) (X:=X) D;refine WE.weak[kbm m.pa m.slot m.ty m.ok F I J h L G l] λp H Q ⟨Z,S,Y,R,sl,q⟩=>?_;refine(Z,S,Y,R,sl,(Av.seq q).mono ?_);rintro v U ⟨t,n,w,p1,B,u,s,g⟩;let g:Av Θ RV[Θ] t U (M.bind _ _ n) Q E[p]:=g;unfold M.bind at g;by_cases k:T.is w n=t8
 .simp only[k,if_true] at g;refine(Ty.is_ok u s k,t,n,Y,u,sl.mono p1 B,(Av.seq g).mono ?_);rintro z P ⟨N,O,y,p2,A,R2,j,C⟩;exact m.by_ N O P w v y z Q E[p] R2 (s.mono p2 A) j C
 .simp only[k,if_false] at g;exact g.elim
end
def FOk(Θ:Th)(ok:Bool->Nat->o8->Bool):Prop:=(∀c f,ok tu c f=t8->Cls Θ.K Θ.cl[c]/\Rg Θ.K Θ.cl[c] f)/\∀c f,ok t8 c f=t8->Θ.xf c=sr f/\XfK Θ.K Θ.cl[c] f
def Te(ok:Bool->Nat->o8->Bool)(f:o8)(x:W):M W:=match x with
 |.ref n=>λS=>match S[n]? with
  |some (.ins c fs)=>if ok tu c f then Aif fs.lookup[f] S else .bad
  |_=>.bad
 |.exn c w=>if ok t8 c f then pure w else bad
 |_=>bad
def Km(f:o8)(v:W):lg[o8×W]->lg (o8×W)
 |[]=>[(f,v)]
 |(g,x)::r=>if g=f then (u6 g v)::r else (u6 g x)::Km f v r
def Ad8(ok:Bool->Nat->o8->Bool)(f:o8)(x y:W):M Unit:=match x with
 |.ref n=>λS=>match S[n]? with
  |some (.ins c fs)=>if ok tu c f&&decide[fs.length < 1000] then .ok u9 (S.set n .ins[c][Km f y fs]) else .bad
  |_=>.bad
 |_=>bad
def Dy(ok:Bool->Nat->o8->Bool)(f:o8)(g:De->M W):De->M W:=λY=>do let x<-g Y;Te ok f x
def Gh(ok:Bool->Nat->o8->Bool)(f:o8)(g h:De->M W):MS:=λY=>Ju (do let y<-h Y;let x<-g Y;Ad8 ok f x y) (λuu=>.nx) Y
section
variable{ok:Bool->Nat->o8->Bool}
def RFs.look(r:RFs b Z H fs c)(f:o8)(h:fs.lookup f=sr w):∃v,c.lookup f=sr v/\RV b Z H w v:=by
 induction r with
 |nil=>cases h
 |@cons p q _ _ g r d=>
  let(p1,p2):=p;let(l,k):=q;let(e,j):=g;cases (e);rw[dM] at h ⊢
  by_cases a:(f==p1)=t8
  .simp_all
  .rw[rR] at a;rw[a] at h ⊢;exact d h
def RFs.put(r:RFs b Z H fs c)(f:o8)(h:RV b Z H w v):RFs b Z H (Km f w fs) (Xm f v c):=by
 induction r with
 |nil=>exact .cons (rfl,h) .nil
 |@cons p q _ _ i r g=>
  let(p1,p2):=p;let(l,k):=q;let(e,d):=i;cases (e);unfold Km Xm;by_cases a:p1=f
  .rw[di a,di a];exact .cons (rfl,h) r
  .rw[dq a,dq a];exact .cons (rfl,d) g
def RFs.len(r:RFs Θ Z H fs vs):fs.length=vs.length:=paired_len r
def RFs.mono'(p:Z <+: Z')(t:Ck Z Z' H H')(r:RFs Θ Z H fs vs):RFs Θ Z' H' fs vs:=Paired.imp2 (λuu uu z=>(z.1,z.2.mono p t)) r
set_option tactic.hygienic true in
def Axp(hf:FOk b ok)(R:Rep b Z S H)(o:RV b Z H x k)(h:Av b RV[b] Z H (Te ok f x S) Q E):
  (∃a C j fs v,k=.ref a/\H a=sr[.ins C j fs]/\Cls b.K C/\Rg b.K C f/\fs.lookup f=sr v/\Q v H)\/∃a C n d v,k=.ref a/\H a=sr[Apq a .ref[C] sr[u6 n sr[d]]]/\H d=sr .xd[[(f,v)]]/\XfK b.K C f/\Q v H:=by
 let ex:∀{c:Nat} {w:W},Av b RV[b] Z H (Te ok f (.exn c w) S) Q E->b.xf c=sr f/\XfK b.K b.cl[c] f/\Av b RV[b] Z H ((pure w:M W) S) Q E:=λ{c w} h=>by
  simp only[Te] at h;by_cases hk:ok t8 c f=t8
  .rw[di hk] at h;exact((hf.2 c f hk).1,(hf.2 c f hk).2,h)
  .rw[dq hk] at h;exact(show False from h).elim
 cases o <;> try exact(show False from h).elim
 .rename_i n a p;simp only[Te] at h;split at h
  .rename_i c fs e;let(j,l,r,m):=R.at_ _ _ _ p e;split at h
   .rename_i hk;let(w,s,h):=W4 h;let(v,ev,i):=m.look f s;exact .inl (a,_,j,l,v,rfl,r,(hf.1 c f hk).1,(hf.1 c f hk).2,ev,h.now R i)
   .exact(show False from h).elim
  .exact(show False from h).elim
 .rename_i g _ _;let(e,_,_):=ex h;rw[g] at e;cases e
 .rename_i n g _ _ q hd i;let(e,t,h):=ex h;rw[g] at e;cases e;exact .inr (_,_,1,_,_,rfl,q,hd,t,h.now R i)
set_option tactic.hygienic true in
def Axq{Q:Unit->Hp->Prop}(hf:FOk d ok)(R:Rep d Z S H)(s:RV d Z H x q)(r:RV d Z H y k)(h:Av d (λi i a b=>a=b) Z H (Ad8 ok f x y S) Q E):
  ∃a C g fs,q=.ref a/\H a=sr[.ins C g fs]/\Cls d.K C/\Rg d.K C f/\fs.length < 1000/\Q u9 (upd H a .ins[C][g][Xm f k fs]):=by
 cases s <;> try exact(show False from h).elim
 rename_i n a j;simp only[Ad8] at h;split at h
 .rename_i c fs v;let(g,l,o,m):=R.at_ _ _ _ j v;split at h
  .rename_i hk;let(hk,u):=bY.mp hk;let t:Ck Z Z H (upd H a .ins[d.cl[c]][g][Xm f k l]):=K1 j o (λi e=>by cases e) (λi i e=>by cases e)
   refine(a,_,g,l,rfl,o,(hf.1 c f hk).1,(hf.1 c f hk).2,by rw[<-m.len];exact dg u,?_)
   exact h Z _ u9 aP[_] t (R.write j t (g,_,Am,(m.put f r).mono' aP[_] t)) (by simp)
  .exact(show False from h).elim
 trivial
end
section
variable{ok:Bool->Nat->o8->Bool}
def Bmf(hK:X.K=b.K)(hf:FOk b ok)(i:WE X o (tF b E g))(j:attributeBase o f X.env (eval o X.env)=eval o X.env):WE X (.Attribute o f h) tF[b][E][Dy ok f g]:=(
 WE.weak ⟨Bb9 i.un j⟩ λl H Q ⟨Z,S,Y,R,sl,q⟩=>by
  rw[hK];refine(Z,S,Y,R,sl,(Av.seq q).mono ?_);rintro v r ⟨n,p,w,p1,m,k,d,e⟩;exact Axp hf k d e)
def Bij(hK:X.K=d.K)(hf:FOk d ok)(v:WE X o (tF d E g))(hv:WE X value (tF d E h))(u:swapsWith value sr[.Attribute o f c] j.line X.env=pure tu):
  WS X (.Assign [.Attribute o f c] value j) tS[d][E][Gh ok f g h]:=(WS.weak ⟨Bg8 v.un hv.un u⟩ λD O H ⟨Z,S,Y,R,sl,q⟩=>by
 rw[hK];refine(Z,S,Y,R,sl.2,(Av.seq (Ed.lift (Rel:=λk k a b=>a=b) sl q)).mono ?_);rintro P H1 ⟨I,J,y,p1,m,N,n,t⟩;refine(I,J,Y,N,sl.2.mono p1 m,(Av.seq t).mono ?_);rintro Q H2 ⟨Z2,S2,x,p2,l,R2,p,s⟩;let(a,C,G,fs,F,B,A,z,w,U,S3,_,p3,T,L,e,_,r):=Axq hf R2 p (n.mono p2 l) s;exact(a,C,G,fs,F,B,A,z,w,r.nxt L e))
end
def Aup{d:CXT}{P:cF}{w:dG}{K:aD}{mg:o8->o9 aG}{base:dY}{N:lg o8}{j:o8}{scope:jR}{f:aL}{i:aG}{A:fJ}{outer:lg Env}{s:aO}{H:Hp}{E:XK}{g:Bool}:
  xG (model P w) (Ac1 d P w K mg base N j scope f i A outer s H E g).A (Ac1 d P w K mg base N j scope f i A outer s H E g).env (Ac1 d P w K mg base N j scope f i A outer s H E g).xe:=(
 λe l h=>aDb (Q₁:=λe a=>d outer H s E e a) (E₁:=λm a=>d outer H s E m a) e l h)
def Vj(c d:De->M Bool):De->M Bool:=λY=>do let x<-c Y;if x then d Y else pure tu
def orT(c d:De->M Bool):De->M Bool:=λY=>do let x<-c Y;if x then pure t8 else d Y
def Gx(c:De->M Bool):De->M Bool:=λY=>do let x<-c Y;pure[!x]
section
def WW.weak(h:WW X e t)(k:∀σ H Q,t' σ H Q->t σ H Q):WW X e t':=⟨λwh aa s σ H Q I q=>h.un wh aa s σ H Q I (k σ H Q q)⟩
def Axr(h:WE X e (tF c E f))(k:∀whole,isTrue e X.env whole=(do let v<-whole;standAt e.pos;holding [v] truthy[v])):WT X e (tFb c E Ce[f]):=(Ap2 (λa a a q=>q) (⟨by
  intro l s b H Q I j;refine isTrue_plain[thn[h.un l s b H _ I j] λv o ⟨x,H1,I1,r1,q1⟩=>?_][k _];let(d,rfl,q):=q1;cases r1;exact gM (H1,I1,q)⟩))
end
def Jl(kvs:lg[Key×W])(k:Key)(w:W):lg[Key×W]:=if kvs.any[λp=>decide[p.1=k]] then kvs.map[λp=>if p.1=k then (u6 p.1 w) else p] else kvs ++ [(k,w)]
def Ad9(x y v:W):M Unit:=match x with
 |.ref n=>λS=>match S[n]? with
  |some (.dct kvs)=>match Aag y with
   |some k=>if kvs.length < big then .ok u9 (S.set n .dct[Jl kvs k v]) else .bad
   |none=>.bad
  |some (.lst ws)=>match y with
   |.int i=>if decide[0<=i]&&decide[i < ws.length] then .ok u9 (S.set n .lst[ws.set i.toNat v]) else .bad
   |_=>.bad
  |_=>.bad
 |_=>bad
def Ij(f g h:De->M W):MS:=λY=>Ju (do let v<-h Y;let x<-f Y;let y<-g Y;Ad9 x y v) (λuu=>.nx) Y
section
def RKV.app(r:RKV b Z H a c)(t:RKV b Z H e d):RKV b Z H (a ++ e) (c ++ d):=by
 induction r with
 |nil=>exact t
 |cons h r f=>exact .cons h f
def RKV.put(r:RKV d Z H a f)(k:Key)(h:RV d Z H w v):RKV d Z H (Jl a k w) (putK f k v):=by
 let i:a.any[λp=>decide[p.1=k]]=f.any[λp=>decide[p.1=k]]:=by
  induction r with
  |nil=>rfl
  |cons b r g=>simp_all
 unfold Jl putK;rw[i];split
 .rename_i c;clear i c;induction r with
  |nil=>exact .nil
  |@cons p q _ _ b r g=>
   rw[bT,bT];refine .cons ?_ g;by_cases e:p.1=k
   .rw[di e,di b.1.symm.trans[e]];exact(b.1,h)
   .rw[dq e,dq[λz=>e b.1.trans[z]]];exact b
 .exact r.app[.cons (rfl,h) .nil]
def RKV.mono'(p:Z <+: Z')(t:Ck Z Z' H H')(r:RKV Θ Z H fs vs):RKV Θ Z' H' fs vs:=Paired.imp2 (λuu uu z=>(z.1,z.2.mono p t)) r
theorem RVs.set(h:RV b Z H w v):∀{c:lg W} {d:lg V} (i:Nat),RVs b Z H c d->RVs b Z H (c.set i w) (d.set i v)
 |_,_,_,.nil=>.nil
 |_,_,0,.cons _ r=>.cons h r
 |_,_,i+1,.cons q r=>.cons q (RVs.set h i r)
set_option tactic.hygienic true in
def Axs(R:Rep l Z S H)(A:RV l Z H x w)(s:RV l Z H y v)(r:RV l Z H z m)(h:Av l (λc c a b=>a=b) Z H (Ad9 x y z S) Q E):
  ∃a u,w=.ref a/\Atw H a v m u/\Q u9 u:=by
 cases A <;> try exact(show False from h).elim
 rename_i n a d;simp only[Ad9] at h;split at h
 .rename_i o q;let(f,j,g):=R.at_ _ _ _ d q;split at h
  .rename_i k C;rw[Abf s C];split at h
   .rename_i B;let el:o.length=f.length:=paired_len g;let t:Ck Z Z H (upd H a .dK[putK f k m]):=K1 d j (λc e=>by cases e) (λc c e=>by cases e)
    refine(a,_,rfl,Atw.k j (by rw[<-el];exact bC B ()),?_)
    exact h Z _ u9 aP[_] t (R.write d t (_,Am,(g.put k r).mono' aP[_] t)) (by simp)
   .exact(show False from h).elim
  .exact(show False from h).elim
 .rename_i D q;let(f,j,g):=R.at_ _ _ _ d q;split at h
  .split at h
   .rename_i i p;rw[aQ] at p;obtain rfl:=s.iI;let t:Ck Z Z H (upd H a .lst[f.set i.toNat m]):=K1 d j (λc e=>by cases e) (λc c e=>by cases e)
    refine(a,_,rfl,.inr[.inr (f,i,j,rfl,dg p.1,by rw[<-g.length];exact dg p.2,rfl)],?_)
    exact h Z _ u9 aP[_] t (R.write d t (_,Am,(g.set r _).mono aP[_] t)) (by simp)
   .exact(show False from h).elim
  .exact(show False from h).elim
 trivial
end
section
def Bc5(hu:X.A.units+64 < cLine)(G:WE X o (tF c E f))(hi:WE X b (tF c E g))(hv:WE X v (tF c E h))(F:swapsWith v sr[.Subscript o b d] j.line X.env=pure tu):
  WS X (.Assign [.Subscript o b d] v j) tS[c][E][Ij f g h]:=(WS.weak[⟨Bbl () G.un hi.un hv.un F⟩] λD σ H ⟨Z,S,Y,R,sl,q⟩=>by
 let C:=Ed.lift (Rel:=λn n a b=>a=b) sl q;refine(Z,S,Y,R,sl.2,(Av.seq (Rel:=RV c) C).mono ?_);rintro vz H1 ⟨N,P,z,p1,m,U,p,B⟩;refine(N,P,Y,U,sl.2.mono p1 m,(Av.seq (Rel:=RV c) B).mono ?_);rintro vx H2 ⟨L,O,x,p2,l,R2,s,w⟩;refine(L,O,Y,R2,(sl.2.mono p1 m).mono p2 l,(Av.seq (Rel:=RV c) w).mono ?_);rintro vy H3 ⟨Z3,S3,y,p3,k,T,r,u⟩;let(a,H',J,I,Z4,S4,_,p4,t4,Q,i,_,t):=Axs T (s.mono p3 k) r ((p.mono p2 l).mono p3 k) u;exact(a,H',J,I,t.nxt Q i))
end
def Dn(n:Nat)(ws:lg W):De:=ws.map sr ++ bO (n - ws.length) sy
def Bj(k n:Nat)(b:MS):lg W->M W:=λws S=>if ws.length=k then match b (Dn n ws) S with
 |.nx _ S1=>.ok .non S1
 |.rt w S1=>.ok w S1
 |.ex c _ S1=>.exc c S1
 |_=>.bad else .bad
section
def Bmg{C:Th}{P:cF}{w:dG}{K:aD}{mg:o8->o9 aG}{base:dY}{p:Bool}{x t:o8}{st:cQ}{f:aL}{fd:eU}{N ps:lg o8}{k:Nat}{b:MS}(F:Fun K x t st f fd)(X:Hn N ps Ac[st])(hbody:∀(a:aG)(A:fJ)(outer:lg Env)(s:aO)(H:Hp)(E:XK),Ia k A.deeper[envOfC t Ac[st] s.heap.objs.size f a] p->
   WSs[Ac1 (CXo P w) P w K mg base N t Ac[st] f a A outer s H E p][Ah st][tS C (λD=>E) b]):Ke P w K mg base (CXo P w) (k+1) f fd ps spF[C][Bj ps.length N.length b] p:=by
 refine Fun.okW F X (λJ H Q E h=>?_) λa A outer s H J Q E O h=>(_,hbody a A outer s H E O,?_)
 .let(Z,S,d,R,r,q):=h;unfold Bj at q;by_cases g:d.length=ps.length
  .exact r.length.symm.trans g
  .rw[dq g] at q;exact q.elim
 .let(Z,S,d,R,r,q):=h;unfold Bj at q;by_cases g:d.length=ps.length
  .rw[di g] at q;refine(Z,S,Dn N.length d,R,by
     let G:=r.length;refine(by simp only[Dn,L2.start,bH,aB,dC,G],λi u e=>?_)
     let hi:i < d.length:=by
      by_cases hi:i < d.length
      .exact hi
      .unfold Dn at e;rw[aZ (by rw[aB];omega),jW] at e
       split at e <;> cases e
     unfold Dn at e;rw[aY (by rw[aB];exact hi),aX] at e
     let(u',U,T):=bA.mp e;cases T;let(v,ev,L):=r.get U;refine(v,?_,L);unfold L2.start;rw[aY (by rw[aB,<-G];exact hi),aX,ev]
     rfl,?_)
   cases e:b (Dn N.length d) S with
   |nx Y m=>rw[e] at q;exact λy B n p1 o z D=>q y B .non p1 o z .non
   |rt u m=>rw[e] at q;trivial
   |ex c Y m=>rw[e] at q;exact λy B n p1 o z D=>q y B p1 o z
   |bk Y m=>rw[e] at q;exact q.elim
   |ct Y m=>rw[e] at q;exact q.elim
   |bad=>rw[e] at q;exact q.elim
  .rw[dq g] at q;exact q.elim
end
def Ri(op op':vD)(f g h:De->M W):De->M W:=λY=>do
 let x<-f Y;let y<-g Y;let z<-Ey op x y
 asB z λb=>if b then do let u<-h Y;Ey op' y u else pure .bl[tu]
def Bmh(s:Tg)(f:De->M W):MS:=λY=>Ju f[Y] (λw Y S=>match s w Y with
 |some Y1=>.nx Y1 S
 |none=>.bad) Y
section
def Ajd(o:Bh6 a X N)(p:Bh6 a X d):∀b H Q,tF a E (Ri N d f g h) b H Q->Apd o.r p.r (tF a E f) (tF a E g) (tF a E h) b H Q:=by
 rintro b H Q ⟨Z,S,Y,R,c,q⟩;refine(Z,S,Y,R,c,(Av.seq (Rel:=RV a) q).mono ?_);rintro t H1 ⟨U,S1,x,p1,l,R1,B,J⟩;refine(U,S1,Y,R1,c.mono p1 l,(Av.seq (Rel:=RV a) J).mono ?_);rintro e H2 ⟨T,S2,y,p2,j,R2,m,I⟩;let G:=Av.seq (Rel:=RV a) I;refine o.by_ T S2 H2 x y t e _ E[b] R2 (B.mono p2 j) m G.mono[?_];rintro vz H3 ⟨P,S3,z,p3,i,s,A,F⟩;let(k,rfl,n):=Akq A F;refine(k,rfl,?_);cases k with
 |false=>exact L2.At2 (n.now s .bl[_])
 |true=>
  refine L2.App (P,S3,Y,s,((c.mono p1 l).mono p2 j).mono p3 i,(Av.seq (Rel:=RV a) n).mono ?_);rintro v H4 ⟨O,S4,u,L,w,R4,C,D⟩;exact p.by_ O S4 H4 y u e v Q E[b] R4 ((m.mono p3 i).mono L w) C D
def Bik(u:WE X e (tF c E f))(r:WG X a t)(y:GOk c s t)(p:swapsWithSole [a] e h.line X.env=pure tu)(o:swappedStores [a] e X.env=pure sy)(x:(assignEach [a] X.env).map (·.2)=[assign a X.env]):
  WS X (.Assign [a] e h) tS[c][E][Bmh s f]:=(WS.weak ⟨Bgz u.un r.un p o x⟩ λD m H ⟨Z,S,Y,R,sl,q⟩=>by
 refine(Z,S,Y,R,sl.2,(Ed.lift (Rel:=RV c) sl q).mono ?_);rintro v C ⟨z,B,w,p1,F,k,d,n,b⟩;cases i:s w Y with
 |none=>simp only[i] at b;exact b.elim
 |some A=>
  simp only[i] at b;exact y z B C w v Y A m _ k d n i λl g=>b.nxt k g)
end
def noX{α:Type}(m:M α):M α:=λS=>match m S with
 |.ok a S1=>.ok a S1
 |_=>.bad
abbrev E0s:L2.St->XK:=λuu uu uu uu=>False
def Kf(k:Nat)(cap:lg Nat)(Y:De):De:=bO k sy ++ cap.map λj=>Y.getD j sy
def Je(s:Tg)(t:De->M Bool)(e:De->M W):lg W->De->lg W->M lg[W]
 |[],_,acc=>pure acc
 |w::ws,Y,acc=>match s w Y with
  |none=>bad
  |some Y1=>do
   let b<-noX t[Y1]
   if b then do
    let y<-e Y1
    if acc.length < big then Je s t e ws Y1 (acc ++ [y]) else bad
   else Je s t e ws Y1 acc
def nxF(e:De->M W):De->M W:=λY=>noX e[Y]
def M7(s:Tg)(t:De->M Bool)(e:De->M W):lg W->De->lg W->M lg[W]:=Je s t nxF[e]
section
def Afj{c b d:Type}(m:M c)(f:c->M b)(k:b->M d)(S:Store):((m >>= f) >>= k) S=(m >>= λa=>f a >>= k) S:=by
 show M.bind (M.bind m f) k S=M.bind m _ S;unfold M.bind;cases m S <;> rfl
def Av.seqB{d q k n:Type}{Rel:lg aL->Hp->d->q->Prop}{a:lg aL->Hp->k->n->Prop}{m:M d}{f:d->M k}{Q:n->Hp->Prop}(h:Av g a Z0 j ((noX m >>= f) S) Q E)(F:XK):
  Av g Rel Z H m[S] (SqQ g Rel a Z H Z0 j f Q E) F:=by
 let h:Av g a Z0 j (M.bind _ f S) Q E:=h;unfold M.bind noX at h;cases e:m S with
 |bad=>rw[e] at h;exact h
 |exc c o=>rw[e] at h;trivial
 |ok w o=>
  rw[e] at h;exact λs j v p t r i=>(s,o,w,p,t,r,i,h)
end
def Av.seqX{i:Th}{Z d:lg aL}{S:Store}{H g:Hp}{E:XK}{j q l n:Type}{Rel:lg aL->Hp->j->q->Prop}{a:lg aL->Hp->l->n->Prop}{m:M j}{f:j->M l}{Q:n->Hp->Prop}(h:Av i a d g ((m >>= f) S) Q E)(u:d <+: Z)(s:Ck d Z g H):
  Av i Rel Z H m[S] (SqQ i Rel a Z H d g f Q E) E:=by
 let h:Av i a d g (M.bind m f S) Q E:=h;unfold M.bind at h;cases e:m S with
 |bad=>rw[e] at h;exact h
 |exc c o=>rw[e] at h;exact λy z p t r=>h y z u.trans[p] s.trans[t] r
 |ok w o=>
  rw[e] at h;exact λx g v p t r k=>(x,o,w,p,t,r,k,h)
def Axt:HO->Bool
 |.lst _=>t8
 |.dK _=>t8
 |_=>tu
mutual
theorem RV.grow{f:Th}{Z d:lg aL}{H:Hp}(p:Z <+: d)(n:∀b,b∈d->b∈Z\/∃o,H b=sr o/\Axt o=t8):∀{w:W} {v:V},RV f Z H w v->RV f d H w v
 |_,_,.non=>.non
 |_,_,.bl b=>.bl b
 |_,_,.int i=>.int i
 |_,_,.str x=>.str x
 |_,_,.tup h r=>.tup h (RVs.grow p n r)
 |_,_,.scr h=>.scr h
 |_,_,.ty n=>.ty n
 |_,_,.cls c=>.cls c
 |_,_,.exn x m h=>.exn x (λz=>by
  rcases n _ z with q|⟨o,q,a⟩
  .exact m q
  .rw[h] at q;cases q;cases a) h
 |_,_,.exf x m k h g r=>.exf x (λz=>by
  rcases n _ z with q|⟨o,q,a⟩
  .exact m q
  .rw[h] at q;cases q;cases a) (λz=>by
  rcases n _ z with q|⟨o,q,a⟩
  .exact k q
  .rw[g] at q;cases q;cases a) h g (RV.grow p n r)
 |_,_,.ref h=>.ref (by
  let(r,rfl):=p;let(l,e):=aC.mp h;rw[aY l];exact h)
theorem RVs.grow{d:Th}{Z c:lg aL}{H:Hp}(p:Z <+: c)(n:∀b,b∈c->b∈Z\/∃o,H b=sr o/\Axt o=t8):∀{e:lg W} {f:lg V},RVs d Z H e f->RVs d c H e f
 |_,_,.nil=>.nil
 |_,_,.cons h r=>.cons[RV.grow p n h][RVs.grow p n r]
end
section
def Kl.grow(p:Z <+: Z')(n:∀b,b∈Z'->b∈Z\/∃o,H b=sr o/\Axt o=t8)(h:Kl i Z H a c):Kl i Z' H a c:=by
 cases c with
 |lst f=>let(d,h,r):=h;exact(d,h,r.grow p n)
 |dct f=>let(d,h,r):=h;exact(d,h,Paired.imp2 (λe e z=>(z.1,z.2.grow p n)) r)
 |ins c f=>let(j,d,h,r):=h;exact(j,d,h,Paired.imp2 (λe e z=>(z.1,z.2.grow p n)) r)
 |dead=>exact h
theorem Rep.take(R:Rep i Z S H)(o:D∉Z)(h:H D=sr .lst[j])(r:RVs i Z H f j):Rep i (Z ++ [D]) (S ++ [.lst f]) H where
 len:=by rw[bH,bH,R.len];rfl
 nd:=by
  rw[gB];refine(R.nd,by simp,λa m b c=>?_)
  obtain rfl:b=D:=by simpa using c
  rintro rfl;exact o m
 at_:=λn a d e g=>by
  by_cases k:n < Z.length
  .rw[aY k] at e;rw[aY (by rw[<-R.len];exact k)] at g
   exact(R.at_ n a d e g).grow (bW _ _) (λb c=>by
    rcases bR.mp c with z|z
    .exact .inl z
    .obtain rfl:=aK.mp z;exact .inr (_,h,rfl))
  .let l:=(aC.mp e).1;rw[bH,cX] at l;obtain rfl:n=Z.length:=by omega
   rw[aZ aN[_],fZ] at e;rw[R.len,aZ aN[_],fZ] at g;obtain rfl:D=a:=by simpa using e
   obtain rfl:Cell.lst f=d:=by simpa using g
   exact(j,h,r.grow (bW _ _) (λb c=>by
    rcases bR.mp c with z|z
    .exact .inl z
    .obtain rfl:=aK.mp z;exact .inr (_,h,rfl)))
def Akx(own:lg o8)(b:lg Nat)(h:RSl g Z H Y f):RSs g Z H (Kf own.length b Y) (At3 own b f):=by
 refine(by simp[Kf,At3],λi w e=>?_)
 unfold Kf at e;unfold At3;by_cases hi:i < own.length
 .rw[aY (by rw[dC];exact hi),jW] at e
  simp_all
 .rw[aZ (by rw[dC];omega),dC,aX] at e
  rw[aZ (by rw[dC];omega),dC,aX]
  let(j,l,a):=bA.mp e;rw[l];rw[cG] at a;cases d:Y[j]? with
  |none=>rw[d] at a;cases a
  |some o=>
   rw[d] at a;subst a;let(v,p,k):=h j w d;exact(v,by simp_all,k)
end
section
def Tf(H:Hp)(D:aL):Prop:=H D=sy\/∃o,H D=sr o/\Axt o=t8
def Tf.t(h:Tf H D):∀b a,H b=sr .tup[a]->upd H D o b=sr .tup[a]:=(λb a q=>by
 rw[Ao (by rintro rfl;rcases h with h|⟨o,h,m⟩ <;> rw[h] at q <;> cases q;cases m)];omega)
def Tf.f(h:Tf H D):∀b ob u,H b=sr[.frz ob u]->upd H D o b=sr[.frz ob u]:=(λb ob u q=>by
 rw[Ao (by rintro rfl;rcases h with h|⟨o,h,m⟩ <;> rw[h] at q <;> cases q;cases m)];omega)
def Tf.g(h:Tf H D):∀b o,H b=sr o->Xw o=t8->upd H D a b=sr o:=(λb o q n=>by
 rw[Ao (by
  rintro rfl;rcases h with h|⟨u,h,m⟩ <;> rw[h] at q <;> cases q
  cases o <;> first|(cases m;done)|(cases n;done))];exact q)
theorem Rep.off(R:Rep d Z S H)(e:D∉Z)(h:Tf H D):Rep d Z S (upd H D o) where
 len:=R.len
 nd:=R.nd
 at_:=λn a c b f=>by
  let ne:a≠D:=by
   rintro rfl;exact e dO[b]
  exact(R.at_ n a c b f).keep Ao[ne] h.g
theorem RSs.off(r:RSs b Z H Y a)(h:Tf H D):RSs b Z (upd H D o) Y a:=(r.1,λi w e=>by
 let(v,d,c):=r.2 i w e;exact(v,d,c.keep h.g))
theorem Ck.off(t:Ck Z0 Z H1 H)(d:H1 D=sy)(h:Tf H D):Ck Z0 Z H1 (upd H D o) where
 t:=λb a q=>h.t b a (t.t b a q)
 f:=λb ob u q=>h.f b ob u (t.f b ob u q)
 k:=λb ob q m=>by rw[Ao (by rintro rfl;rw[d] at q;cases q)];exact t.k b ob q m
 n:=t.n
def Adb(k:∀σ H Q,tF c (λuu=>E) ef σ H Q->te σ H Q)(gk:GOk c s g)(jk:JOk c J all Z0 H1)(R:Rep c Z0 S H1)(sl:RSs c Z0 H1 Y σ)(G:H1 D=sy)(q:Av c RV[c] Z0 H1 ((Je s tf ef all Y [] >>= Be) S) Q E):
  Ai3 J g (tFb c E0s tf) te D σ H1 Q:=by
 let nD:D∉Z0:=λz=>by
  let(o,ho):=R.tracked z;rw[G] at ho;cases ho
 refine(λi m r B A=>∃Z S Y' C,i<=all.length/\Z0 <+: Z/\Ck Z0 Z H1 A/\D∉Z/\Rep c Z S A/\RSs c Z A Y' B/\RVs c Z A C r/\m=(all.drop i).length/\Av c RV[c] Z0 H1 ((Je s tf ef all.drop[i] Y' C >>= Be) S) Q E,
  (_,Z0,S,Y,[],bI _,aP _,(Ck.refl _ _).off G .inl[G],nD,R.off nD .inl[G],sl.off .inl[G],.nil,rfl,q),?_)
 rintro i m r B A ⟨Z,S,Y',C,li,p,t,mD,N,F,L,rfl,l⟩ d;by_cases hi:i < all.length
 .let(go,yl):=jk.go Z A i p t hi;refine .inr (go,λx I hy=>?_);let(ty,Ry,w,ew,rv):=yl x I hy;let N:=Ry _ N;let F:=F.mono aP[_] ty;let t:=t.trans ty;let L:=L.mono aP[_] ty;let d:=ty.k D _ d mD;let ed:all.drop i=w::all.drop[i+1]:=by
   let(hl,e):=aC.mp ew;rw[<-e];exact eV hl
  let hm:(all.drop[i+1]).length < (all.drop i).length:=by rw[dJ,dJ];omega
  rw[ed] at l;unfold Je at l;cases es:s w Y' with
  |none=>simp only[es] at l;exact(show False from l).elim
  |some Y2=>
   simp only[es] at l;refine gk Z S I w x Y' Y2 B _ N F rv es λσ2 j=>(Z,S,Y2,N,j.2,?_);rw[Afj] at l;refine(Av.seqB (Rel:=λuu uu a b=>a=b) (Z:=Z) (H:=I) l _).mono ?_;rintro b H3 ⟨Z3,S3,b',p3,h,R3,e3,O⟩;let e3:b'=b:=e3;subst e3;let out:∀{Za Zb:lg aL} {Ha Hb:Hp},D∉Za->Ha D=sr .lst[r]->Ck Za Zb Ha Hb->D∉Zb/\Hb D=sr .lst[r]:=λ{Za Zb Ha Hb} m1 m2 m3=>by
    refine(λz=>?_,m3.k D _ m2 m1);rcases m3.n D z with z|z
    .exact m1 z
    .rw[m2] at z;cases z
   let(T,X):=out mD d h;cases b' with
   |false=>
    rw[dq cR] at O ⊢
    exact(X,_,hm,Z3,S3,Y2,C,hi,p.trans p3,t.trans h,T,R3,j.mono p3 h,L.mono p3 h,rfl,O)
   |true=>
    rw[di rfl] at O ⊢
    rw[Afj] at O;refine k _ _ _ (Z3,S3,Y2,R3,(j.mono p3 h).2,(Av.seqX (Rel:=RV c) (Z:=Z3) (H:=H3) O p.trans[p3] t.trans[h]).mono ?_);rintro y H4 ⟨Z4,S4,yw,p4,t4,R4,ry,q4⟩;let(P,U):=out T X t4;by_cases hz:C.length < big
    .rw[di hz] at q4;let fl:Tf H4 D:=.inr (_,U,rfl);let ra4:=(L.mono p3 h).mono p4 t4;refine(U,by rw[<-L.length];exact bC hz (),_,hm,Z4,S4,Y2,C ++ [yw],hi,(p.trans p3).trans p4,((t.trans h).trans t4).off G fl,P,R4.off P fl,((j.mono p3 h).mono p4 t4).off fl,?_,rfl,q4)
     exact(ra4.append[.cons ry .nil]).keep fl.g
    .rw[dq hz] at q4;exact(show False from q4).elim
 .rw[dX ()] at l
  refine .inl (jk.stop Z A i t (),?_)
  let q2:Av c RV[c] Z0 H1 (Be C S) Q E:=l;simp only[Be] at q2;split at q2
  .refine q2 (Z ++ [D]) A .ref[D] p.trans[bW _ _] (t.t,t.f,t.k,λb hb=>?_) (N.take mD d L) .ref[?_]
   .rcases bR.mp hb with z|z
    .exact t.n b z
    .obtain rfl:b=D:=by simpa using z
     exact .inr G
   .rw[<-N.len];exact Mt
  .exact(show False from q2).elim
end
def Ik(s:Tg)(t:De->M Bool)(e:De->M W)(gt:Store->Nat->o9 o9[W]):Nat->Nat->De->lg W->M lg[W]
 |0,_,_,_=>bad
 |m+1,i,Y,acc=>λS=>match gt S i with
  |none=>.bad
  |some sy=>.ok acc S
  |some (sr w)=>match s w Y with
   |none=>.bad
   |some Y1=>(noX t[Y1] >>= λb=>if b=t8 then noX e[Y1] >>= λy=>if acc.length < big then Ik s t e gt m (i+1) Y1 (acc ++ [y]) else bad else Ik s t e gt m (i+1) Y1 acc) S
def Cv(k:Nat)(cap:lg Nat)(src:De->M Src)(s:Tg)(t:De->M Bool)(e:De->M W):De->M W:=λY=>do
 let z<-src Y
 match z with
 |.fix ws=>M7 s t e ws (Kf k cap Y) [] >>= Be
 |.liv n=>λS=>match S[n]? with
  |some (.lst ws)=>(Ik s t e liG[n] (ws.length+1) 0 (Kf k cap Y) [] >>= Be) S
  |_=>.bad
 |.zl n m=>λS=>match S[n]? with
  |some (.lst ws)=>(Ik s t e (zlG n m) (ws.length+1) 0 (Kf k cap Y) [] >>= Be) S
  |_=>.bad
 |.el _=>bad
section
def after{α β:Type}(f:α->M β):R α->R β
 |.ok a S1=>f a S1
 |.exc c S1=>.exc c S1
 |.bad=>.bad
def Abh{a b:Type}{m:M a}{f:a->M b}{r:R a}(e:m S=r):(m >>= f) S=after f r:=by
 show M.bind m f S=_;unfold M.bind;rw[e];rfl
end
section
def Am7{gt:Store->Nat->o9 o9[W]}{f:Nat}(gk:GOk c s g)(jk:JLv c J gt Z0)(R:Rep c Z0 S H1)(sl:RSs c Z0 H1 Y σ)(O:H1 D=sy)(q:Av c RV[c] Z0 H1 ((Ik s u A gt f 0 Y [] >>= Be) S) Q E):
  Ai3 J g (tFb c E0s u) (tF c E0s A) D σ H1 Q:=by
 let nD:D∉Z0:=λz=>by
  let(o,ho):=R.tracked z;rw[O] at ho;cases ho
 refine(λi m B L I=>∃Z S X d,Z0 <+: Z/\Ck Z0 Z H1 I/\D∉Z/\Rep c Z S I/\RSs c Z I X L/\RVs c Z I d B/\Av c RV[c] Z0 H1 ((Ik s u A gt m i X d >>= Be) S) Q E,
  (f,Z0,S,Y,[],aP _,(Ck.refl _ _).off O .inl[O],nD,R.off nD .inl[O],sl.off .inl[O],.nil,q),?_)
 rintro i m B L I ⟨Z,S,X,d,p,t,mD,F,N,T,j⟩ e;cases m with
 |zero=>exact(show False from j).elim
 |succ m=>
  cases U:gt S i with
  |none=>rw[Abh (r:=.bad) (by unfold Ik;simp only[U])] at j;exact(show False from j).elim
  |some o=>
   cases o with
   |none=>
    rw[Abh (r:=.ok d S) (by unfold Ik;simp only[U])] at j
    refine .inl (jk.stop Z S I i p F U,?_);let q2:Av c RV[c] Z0 H1 (Be d S) Q E:=j;simp only[Be] at q2;split at q2
    .refine q2 (Z ++ [D]) I .ref[D] p.trans[bW _ _] (t.t,t.f,t.k,λb hb=>?_) (F.take mD e T) .ref[?_]
     .rcases bR.mp hb with z|z
      .exact t.n b z
      .obtain rfl:b=D:=by simpa using z
       exact .inr O
     .rw[<-F.len];exact Mt
    .exact(show False from q2).elim
   |some w=>
    let(go,yl):=jk.go Z S I i w p F U;refine .inr (go,λx P hy=>?_);let(ty,Ry,rv):=yl x P hy;let F:=Ry _ F;let N:=N.mono aP[_] ty;let t:=t.trans ty;let T:=T.mono aP[_] ty;let e:=ty.k D _ e mD;cases es:s w X with
    |none=>rw[Abh (r:=.bad) (by unfold Ik;simp only[U,es])] at j;exact(show False from j).elim
    |some h=>
     let j:Av c RV[c] Z0 H1 (((noX u[h] >>= λb=>if b=t8 then noX A[h] >>= λy=>if d.length < big then Ik s u A gt m (i+1) h (d ++ [y]) else bad else Ik s u A gt m (i+1) h d) >>= Be) S) Q E:=by
      let e3:Ik s u A gt (m+1) i X d S=(noX u[h] >>= λb=>if b=t8 then noX A[h] >>= λy=>if d.length < big then Ik s u A gt m (i+1) h (d ++ [y]) else bad else Ik s u A gt m (i+1) h d) S:=by
       conv=>lhs;unfold Ik
       simp only[U,es]
      rw[Abh e3] at j;rw[Abh rfl];exact j
     refine gk Z S P w x X h L _ F N rv es λσ2 v=>(Z,S,h,F,v.2,?_);rw[Afj] at j;refine(Av.seqB (Rel:=λuu uu a b=>a=b) (Z:=Z) (H:=P) j _).mono ?_;rintro b H3 ⟨Z3,S3,b',p3,C,R3,e3,q3⟩;let e3:b'=b:=e3;subst e3;let out:∀{Za Zb:lg aL} {Ha Hb:Hp},D∉Za->Ha D=sr .lst[B]->Ck Za Zb Ha Hb->D∉Zb/\Hb D=sr .lst[B]:=λ{Za Zb Ha Hb} m1 m2 m3=>(m3.out m2 m1,m3.k D _ m2 m1);let(mD3,hD3):=out mD e C;cases b' with
     |false=>
      rw[dq cR] at q3 ⊢
      exact(hD3,m,gY m,Z3,S3,h,d,p.trans p3,t.trans C,mD3,R3,v.mono p3 C,T.mono p3 C,q3)
     |true=>
      rw[di rfl] at q3 ⊢
      rw[Afj] at q3;refine(Z3,S3,h,R3,(v.mono p3 C).2,(Av.seqB (Rel:=RV c) (Z:=Z3) (H:=H3) q3 _).mono ?_);rintro y H4 ⟨Z4,S4,yw,p4,t4,R4,ry,q4⟩;let(mD4,hD4):=out mD3 hD3 t4;by_cases hz:d.length < big
      .rw[di hz] at q4;let fl:Tf H4 D:=.inr (_,hD4,rfl);let ra4:=(T.mono p3 C).mono p4 t4;refine(hD4,by rw[<-T.length];exact bC hz (),m,gY m,Z4,S4,h,d ++ [yw],(p.trans p3).trans p4,((t.trans C).trans t4).off O fl,mD4,R4.off mD4 fl,((v.mono p3 C).mono p4 t4).off fl,?_,q4)
       exact(ra4.append[.cons ry .nil]).keep fl.g
      .rw[dq hz] at q4;exact(show False from q4).elim
end
section
variable{cap:lg Nat}
def compX(k:Nat)(cap:lg Nat)(src:De->M Src)(s:Tg)(t:De->M Bool)(e:De->M W):De->M W:=λY=>do
 let z<-src Y
 match z with
 |.fix ws=>Je s t e ws (Kf k cap Y) [] >>= Be
 |_=>bad
def Bc6(G:X.stack=X.env::X.outer/\X.env.frame=sr X.env.locals/\X.ex=[]/\Ai2 X E)(F:X.calm=t8)(I:X.env.scope=sc)(hi:WI X k a (tFi b E src))(A:∀C s H ex,WG (X.comp scope own cap C s H ex) k g)(O:GOk b s g)(u:∀C s H ex,WTs[X.comp scope own cap C s H ex][f][tFb b E0s o])(B:∀C s H ex xe m,Ec[CXo X.prog X.w][X.compX scope own cap C s H ex xe][m]->WE[X.compX scope own cap C s H ex xe][h][tF b m P])(c:cap.all[λj=>match X.N[j]? with|some x=>decide[scope.names.lookup x=sr .free]|none=>tu]=t8)(U:scope.kind=.function)(ao:scope.names.all[λy=>decide[y.2≠.cell]]=t8)(az:scope.names.all[λy=>!decide (y.2=.local)||decide[scope.names.lookup y.1=sr .local]]=t8)(T:scope.names.all[λy=>!decide (y.2=.free)||(decide[sc.names.lookup y.1=sr .cell]||decide[sc.names.lookup y.1=sr .free])]=t8)(v:∀x,foldedSetIterable a X.env x=pure x):
  WE X (.ListComp h [(k,a,f,0)] scope t) tF[b][E][compX own.length cap src s o P]:=(
 WE.weak (Bht G F I hi A u B c U ao az T v) (λσ H Q ⟨Z,S,Y,R,sl,q⟩=>by
  refine(Z,S,Y,R,sl,(Av.seq (Rel:=Ac9 b) q).mono ?_);rintro J H1 ⟨Z1,S1,z,p1,p,R1,r,e⟩ D hD;let d:=Akx own cap (sl.mono p1 p);cases z with
  |fix ws=>exact Adb (λi i i z=>z) O r R1 d hD e
  |liv n=>exact(show False from e).elim
  |_=>exact(show False from e).elim))
def Am8(p:GOk h s g):∀j H Q,tF h E (Cv own.length cap src s x t) j H Q->Agb (tFi h E src) g (tFb h E0s x) (tF h E0s t) own cap j H Ai8[Q]:=(λj H Q ⟨Z,S,Y,R,sl,q⟩=>by
  replace q:=q.mono (Q':=Ai8 Q) λv v=>.inl
  refine(Z,S,Y,R,sl,(Av.seq (Rel:=Ac9 h) q).mono ?_);rintro J F ⟨C,u,z,p1,y,i,k,d⟩ D hD;let f:=Akx own cap (sl.mono p1 y);cases z with
  |fix B=>exact Adb (λj H Q ⟨Z,S,Y,i,f,d⟩=>(Z,S,Y,i,f,by
 unfold nxF noX at d;cases e:t Y S with
 |ok w u=>rw[e] at d;exact d
 |exc c u=>rw[e] at d;exact(show False from d).elim
 |bad=>rw[e] at d;exact d)) p k i f hD d
  |liv n=>
   let(a,l,rfl):=k;simp only at d;split at d
   .exact Am7 p Axk[l] i f hD d
   .exact(show False from d).elim
  |zl n m=>
   let(a,b,l,A,rfl):=k;simp only at d;split at d
   .exact Am7 p (Axl l A) i f hD d
   .exact(show False from d).elim
  |el n=>exact(show False from d).elim)
def Bil(r:RKV j Z H a b):∀{i:Nat} {p:Key×V},b[i]?=sr p->(a.map λp=>kW p.1)[i]?=sr kW[p.1]:=by
 unfold RKV at r;induction r with
 |nil=>intro i p h;cases h
 |@cons c d _ _ h t f=>
  intro i p e;cases i with
  |zero=>cases e;rw[<-h.1];rfl
  |succ i=>exact f e
theorem Bc7(h:H a=sr[.frz o .dK[c]])(r:RKV d Z H b c):JOk d (Itk a o c) (b.map λp=>kW p.1) Z H where
 go:=λg j i p t hi=>by
  rw[aB,paired_len r] at hi;refine((t.f _ _ _ h,hi),?_);rintro x l ⟨rfl,p,e,rfl⟩;exact(Ck.refl _ _,λk r=>r,_,Bil r e,Bf8)
 stop:=λg j i t hi=>by
  rw[aB,paired_len r] at hi;exact(t.f _ _ _ h,lR hi.symm)
def Arx(k:Nat)(cap:lg Nat)(f:De->M W)(s:Tg)(t:De->M Bool)(e:De->M W):De->M W:=λY=>do
 let x<-f Y
 match x with
 |.ref n=>λS=>match S[n]? with
  |some (.dct kvs)=>match (M7 s t e (kvs.map λp=>kW p.1) (Kf k cap Y) [] >>= Be) (S.set n .dead) with
   |.ok w S1=>.ok w (S1.set n .dct[kvs])
   |_=>.bad
  |_=>.bad
 |_=>bad
set_option tactic.hygienic true in
def Am9(gk:GOk A s g):∀y H Q,tF A E (Arx own.length cap f s tf ef) y H Q->Agb Bf5[tF A E f] g (tFb A E0s tf) (tF A E0s ef) own cap y H Ai8[Q]:=(λy H Q ⟨Z,S,Y,R,sl,q⟩=>by
 refine(Z,S,Y,R,sl,(Av.seq (Rel:=RV A) q).mono ?_);rintro x l ⟨I,J,w,p1,t1,L,P,d⟩;cases P <;> try exact(show False from d).elim
 rename_i n a j;dsimp only at d;cases ec:J[n]? with
 |none=>rw[ec] at d;exact(show False from d).elim
 |some c=>
  rw[ec] at d;cases c <;> try exact(show False from d).elim
  rename_i U;let(B,G,r2):=L.at_ _ _ _ j ec;let X:∀u,l a=sr u->Xw u=tu:=λu e=>by rw[G] at e;cases e;rfl
  refine(a,B,rfl,G,λo D hD=>?_);let F:Ck I I l upd[l][a][.frz o .dK[B]]:=K1 j G (λC e=>by cases e) (λC C e=>by cases e)
  refine Adb (ef:=nxF ef) (E:=E y) (λy H Q ⟨Z,S,Y,L,sl1,d⟩=>(Z,S,Y,L,sl1,by
   unfold nxF noX at d;cases e:ef Y S with
   |ok w J=>rw[e] at d;exact d
   |exc c J=>rw[e] at d;exact(show False from d).elim
   |bad=>rw[e] at d;exact d)) gk (Bc7 Am r2.swap[X]) (L.swap (c:=.dead) j X (_,_,Am)) ((Akx own cap (sl.mono p1 t1)).mono aP[_] F) hD ?_
  dsimp only at d;unfold M7 at d;cases e:(Je s tf nxF[ef] (U.map λp=>kW p.1) (Kf own.length cap Y) [] >>= Be) (J.set n .dead) with
  |ok w S2=>
   rw[e] at d;intro Z2 H2 v p2 i R2 P;let h:=i.f _ _ _ (Am (H:=l));let hn2:Z2[n]?=sr a:=by
    let(r,rfl):=p2;rw[aY (aC.mp j).1];exact j
   let k2:∀u,H2 a=sr u->Xw u=tu:=λu e=>by rw[h] at e;cases e;rfl
   let am:a∈I:=dO j;let T:Ck I Z2 l (upd H2 a .dK[B]):=(λb xs z=>by
     let N:=i.t _ _ (F.t _ _ z);rw[Ao (by rintro rfl;rw[h] at N;cases N)];exact N,λb o u z=>by
     rw[Ao (by rintro rfl;rw[G] at z;cases z)];exact i.f _ _ _ (F.f _ _ _ z),λb o z m=>by
     rw[Ao (by rintro rfl;exact m am)];exact i.k _ _ (F.k _ _ z m) m,λb m=>by
     rcases i.n b m with z|z
     .exact .inl z
     .exact .inr (by
       cases e:l b with
       |none=>rfl
       |some u=>
        by_cases hb:b=a
        .subst hb;rw[Am] at z;cases z
        .rw[Ao hb,e] at z;cases z))
   refine .inr (a,o,B,h,d Z2 _ v p2 T (R2.swap hn2 k2 (B,Am,?_)) P.keep[Afi[k2]]);exact Paired.imp2 (λC C z=>(z.1,(z.2.mono p2 i).keep Afi[k2])) r2.swap[X]
  |_=>rw[e] at d;exact(show False from d).elim)
def Axu(A:X.calm=t8)(B:X.env.scope=sc)(hi:WI X m a n)(v:∀C s H ex,WG (X.comp scope own cap C s H ex) m g)(f:∀l H Q,tF b E F l H Q->Agb n g (tFb b E0s o) (tF b E0s D) own cap l H Ai8[Q])(r:∀C s H ex,WTs[X.comp scope own cap C s H ex][h][tFb b E0s o])(w:∀C s H ex,WE[X.comp scope own cap C s H ex][k][tF b E0s D])(d:cap.all[λj=>match X.N[j]? with|some x=>decide[scope.names.lookup x=sr .free]|none=>tu]=t8)(I:scope.kind=.function)(L:scope.names.all[λy=>decide[y.2≠.cell]]=t8)(J:scope.names.all[λy=>!decide (y.2=.local)||decide[scope.names.lookup y.1=sr .local]]=t8)(G:scope.names.all[λy=>!decide (y.2=.free)||(decide[sc.names.lookup y.1=sr .cell]||decide[sc.names.lookup y.1=sr .free])]=t8)(t:∀x,foldedSetIterable a X.env x=pure x):
  WE[X][.ListComp k [(m,a,h,0)] scope p][tF b E F]:=(
 WE.weak (by
   refine⟨PE.thaw <| Bbq A B hi.un (λC s H ex=>(v C s H ex).un) (λC s H ex=>(r C s H ex).un) (λC s H ex=>(w C s H ex).un) (λj u=>?_) I (λy c=>?_) (λy c i=>?_) (λy c i=>?_) t⟩
   .let q:=bF.mp d j u;cases e:X.N[j]? with
    |none=>rw[e] at q;cases q
    |some x=>rw[e] at q;exact(x,rfl,dg q)
   .exact dg[bF.mp L y c]
   .let q:=bF.mp J y c;rw[dm i] at q;exact dg q
   .let q:=bF.mp G y c;rw[dm i] at q;rcases mC.mp q with z|z
    .cases z
    rcases mC.mp z with z|z
    .exact .inl dg[z]
    .exact .inr dg[z]) f)
end
def Ago(kvs:lg[Key×W]):M W:=λS=>.ok[.ref S.length][S ++ [.dct kvs]]
def Mh(kvs more:lg[Key×W]):lg[Key×W]:=more.foldl (λacc kv=>Jl acc kv.1 kv.2) kvs
def Jv:lg[(De->M W)×(De->M W)]->De->M lg[Key×W]
 |[]=>λuu=>pure []
 |(f,g)::r=>λY=>do
  let k<-f Y;let v<-g Y;let kvs<-Jv r Y
  match Aag k with
  |some k=>pure ((u6 k v)::kvs)
  |none=>bad
def Mm(l:lg[(De->M W)×(De->M W)]):De->M W:=λY=>do let kvs<-Jv l Y;Ago[Mh [] kvs]
section
theorem Ck.more(t:Ck Z Z2 H H')(h:H p=sy):Ck Z (Z2 ++ [p]) H H' where
 t:=t.t
 f:=t.f
 k:=t.k
 n:=λb m=>by
  rcases bR.mp m with z|z
  .exact t.n b z
  .obtain rfl:=aK.mp z;exact .inr h
theorem Rep.takeC(R:Rep i Z S H)(p:D∉Z)(h:H D=sr o)(k:Axt o=t8)(q:Kl i (Z ++ [D]) H D c):Rep i (Z ++ [D]) (S ++ [c]) H where
 len:=by rw[bH,bH,R.len];rfl
 nd:=by
  rw[gB];refine(R.nd,by simp,λa m b g=>?_)
  obtain rfl:b=D:=by simpa using g
  rintro rfl;exact p m
 at_:=λn a d e f=>by
  by_cases j:n < Z.length
  .rw[aY j] at e;rw[aY (by rw[<-R.len];exact j)] at f
   refine(R.at_ n a d e f).grow (bW _ _) (λb g=>?_);rcases bR.mp g with z|z
   .exact .inl z
   .obtain rfl:=aK.mp z;exact .inr (_,h,k)
  .let l:=(aC.mp e).1;rw[bH,cX] at l;obtain rfl:n=Z.length:=by omega
   rw[aZ aN[_],fZ] at e;rw[R.len,aZ aN[_],fZ] at f;obtain rfl:D=a:=by simpa using e
   obtain rfl:c=d:=by simpa using f
   exact q
def RKV.merge(r:RKV b Z H more c):∀{kvs:lg[Key×W]} {vs:lg[Key×V]},RKV b Z H kvs vs->RKV b Z H (Mh kvs more) (Rh vs c):=by
 induction r with
 |nil=>intro kvs vs q;exact q
 |@cons p q ps g h t f=>
  intro kvs vs d;let e:RKV b Z H (Jl kvs p.1 p.2) (putK vs q.1 q.2):=by
   rw[<-h.1];exact d.put p.1 h.2
  exact f e
def Bot(Θ:Th)(Z:lg aL)(H:Hp)(kws:lg[Key×W])(ps:lg[V×V]):Prop:=∃kvs:lg[Key×V],ps=kvs.map[λkv=>(u6 kV[kv.1] kv.2)]/\RKV Θ Z H kws kvs
theorem Agp:∀(l:lg[(De->M W)×(De->M W)]) {Z:lg aL} {S:Store} {H:Hp} {Q:lg[V×V]->Hp->Prop},Rep b Z S H->RSl b Z H Y j->Av b Bot[b] Z H (Jv l Y S) Q E[j]->Akb (l.map λp=>(u6[tF b E p.1][tF b E p.2])) j H Q
 |[],Z,S,H,Q,R,c,q=>Av.now q R ([],rfl,.nil)
 |(f,g)::r,Z,S,H,Q,R,c,q=>by
  refine(Z,S,Y,R,c,(Av.seq q).mono ?_);rintro G T ⟨B,C,k,p1,m,F,u,x⟩;refine(B,C,Y,F,c.mono p1 m,(Av.seq (Rel:=RV b) x).mono ?_);rintro n P ⟨J,N,v,p2,s,R2,t,w⟩;refine Agp r R2 ((c.mono p1 m).mono p2 s) ((Av.seq w).mono ?_);rintro ps O ⟨I,L,y,p3,o,D,⟨i,rfl,d⟩,h⟩;cases e:Aag k with
  |none=>rw[e] at h;trivial
  |some z=>
   rw[e] at h;let A:=Abf u e;subst A;exact Av.now h D ((u6 z n)::i,rfl,.cons (rfl,t.mono p3 o) d)
theorem pairs_len:∀(l:lg[(De->M W)×(De->M W)]) (Y:De) (S m:Store) (a:lg[Key×W]),Jv l Y S=.ok a m->a.length=l.length
 |[],Y,S,m,a,e=>by cases e;rfl
 |(f,g)::r,Y,S,m,a,e=>by
  let e:M.bind f[Y] (λk=>M.bind g[Y] λv=>M.bind (Jv r Y) _) S=_:=e;unfold M.bind at e;cases i:f Y S with
  |ok k q=>
   rw[i] at e;simp only at e;cases h:g Y q with
   |ok v p=>
    rw[h] at e;simp only at e;cases d:Jv r Y p with
    |ok o j=>
     rw[d] at e;simp only at e;cases n:Aag k with
     |none=>rw[n] at e;cases e
     |some s=>rw[n] at e;cases e;rw[bL,bL,pairs_len r Y _ _ _ d]
    |exc c j=>simp_all
    |bad=>rw[d] at e;cases e
   |exc c j=>rw[h] at e;cases e
   |bad=>rw[h] at e;cases e
  |exc c j=>rw[i] at e;cases e
  |bad=>rw[i] at e;cases e
def Bim:WE[X][.Dict [] [] a][tF c E Mm[[]]]:=(WE.weak ⟨Awh⟩ λb H Q ⟨Z,S,Y,R,sl,q⟩=>λp hp=>by
 refine q _ _ _ (bW _ _) Bg[hp] (R.alloc hp (_,Am,.nil)) .ref[?_];rw[<-R.len];exact Mt)
def Bin(h:WPs X x keys values (l.map λp=>(u6[tF a E p.1][tF a E p.2])))(n:keys.all (·.isSome)=t8)(I:keys.length=values.length)(L:keys≠[])(r:keys.length<=15)(hk:l.length=keys.length):
  WE[X][.Dict keys values x][tF a E Mm[l]]:=(WE.weak ⟨Bbm h.un n I L r⟩ λs H Q ⟨Z,S,Y,R,sl,q⟩=>λp hp=>by
 let pn:p∉Z:=λz=>by
  let(o,D):=R.tracked z;rw[hp] at D;cases D
 let t:Ck Z Z H (upd H p .dK[[]]):=Bg hp;let i:Av a RV[a] Z (upd H p .dK[[]]) (Mm l Y S) Q E[s]:=Av.shift q aP[_] t;cases e:Jv l Y S with
 |bad=>
  let q:Av a RV[a] Z H M.bind[Jv l Y][λkvs=>Ago[Mh [] kvs]][S] Q E[s]:=q;unfold M.bind at q;rw[e] at q;exact q.elim
 |exc c F=>
  refine Agp l R.beside[hp] (sl.mono aP[_] t) ?_;let i:Av a RV[a] Z (upd H p .dK[[]]) M.bind[Jv l Y][λkvs=>Ago[Mh [] kvs]][S] Q E[s]:=i;unfold M.bind at i;rw[e] at i ⊢
  exact i
 |ok d F=>
  refine Agp l R.beside[hp] (sl.mono aP[_] t) ?_;rw[e];rintro A B ps p2 v R2 ⟨kvs,rfl,f⟩;let m:B p=sr .dK[[]]:=v.k p _ Am pn;let j:p∉A:=v.out Am pn;let y:Tf B p:=.inr (_,m,rfl);let w:Av a RV[a] Z H M.bind[Jv l Y][λkvs=>Ago[Mh [] kvs]][S] Q E[s]:=q;unfold M.bind at w;rw[e] at w;let ln:=pairs_len l Y S F d e;refine(m,kvs,rfl,?_,?_)
  .rw[<-(paired_len f:d.length=kvs.length),ln,hk];exact r
  .let G:RKV[a][A][upd B p .dK[Rh [] kvs]][Mh [] d][Rh [] kvs]:=Paired.imp2 (λu u z=>(z.1,z.2.keep y.g)) (RKV.merge f (kvs:=[]) (vs:=[]) .nil);let O:=R2.off (o:=.dK[Rh [] kvs]) j y;let N:=O.takeC (c:=.dct[Mh [] d]) j Am rfl (_,Am,Paired.imp2 (λu u z=>(z.1,z.2.grow (bW _ _) (λb J=>by
    rcases bR.mp J with z|z
    .exact .inl z
    .obtain rfl:=aK.mp z;exact .inr (_,Am,rfl)))) G)
   refine w (A ++ [p]) _ _ p2.trans[bW _ _] (((t.trans v).off hp y).more hp) N .ref[?_];rw[<-R2.len];exact Mt)
end
def tyW(S:Store):W->o9 String
 |.non=>sr "NoneType"
 |.bl _=>sr "bool"
 |.int _=>sr "int"
 |.str _=>sr "str"
 |.tup _=>sr "tuple"
 |.ref n=>match S[n]? with
  |some (.lst _)=>sr "list"
  |some (.dct _)=>sr "dict"
  |_=>sy
 |_=>sy
def Afk:lg String:=["int","bool","str","tuple","list","dict"]
def Axv:lg String:=["NoneType","int","bool","str","tuple","list","dict"]
def Bmi(T n:String):Bool:=T==n||(T=="bool"&&n=="int")
def Bmj(Θ:Th):W->o9 aG
 |.ty n=>sr .type[n]
 |.cls c=>sr .ref[Θ.cl[c]]
 |_=>sy
structure Ary(Θ:Th)(isa:Nat->W->Option Bool):Prop where
 ok:∀c k b,isa c k=sr b->Ae5 Θ.K (Θ.cl c)/\∃cv,Bmj Θ k=sr cv/\jV Θ.K (.ref (Θ.cl c)) cv=sr b
def Aah(isa:Nat->W->o9 Bool):lg W->M W
 |[.exn c _,k]=>match isa c k with
  |some b=>pure .bl[b]
  |none=>bad
 |[x,.ty n]=>λS=>match tyW S x with
  |some T=>if Afk.contains n then .ok .bl[Bmi T n] S else .bad
  |none=>.bad
 |_=>bad
def Bio(K:aD)(b:T∈Axv)(a:n∈Afk):jV K .type[T] .type[n]=sr[Bmi T n]:=by
 simp[Axv,Afk] at b a;rcases b with rfl|rfl|rfl|rfl|rfl|rfl|rfl <;> rcases a with rfl|rfl|rfl|rfl|rfl|rfl <;> rfl'
section
set_option tactic.hygienic true in
def Bip(R:Rep d Z S H)(j:RV d Z H x i)(h:tyW S x=sr T):TyX d.K H i .type[T]/\T∈Axv:=by
 cases j <;> simp only[tyW,gA,reduceCtorEq] at h <;> try subst h
 .exact(.of .non,())
 .exact(.of .bl[_],())
 .exact(.of .int[_],())
 .exact(.of .str[_],())
 .rename_i l m;exact(.of .tup[l],())
 .rename_i n a e;split at h
  .rename_i g c;cases h;let(f,b,k):=R.at_ _ _ _ e c;exact(.of .lst[b],())
  .rename_i g c;cases h;let(f,b,k):=R.at_ _ _ _ e c;exact(.of .dK[b],())
  .cases h
set_option tactic.hygienic true in
def Bou{isa:Nat->W->o9 Bool}(O:Ary a isa)(R:Rep a Z S H)(r:RVs a Z H s u)(h:Av a RV[a] Z H (Aah isa s S) Q E):
  ∃x c d t b,u=[x,c]/\TyX a.K H x t/\Bbt c=sr d/\jV a.K t d=sr b/\Q .bl[b] H:=by
 unfold Aah at h;split at h
 .rename_i c w k;cases r with|cons e r=>
  cases r with|cons f r=>
  cases r;cases i:isa c k with
  |none=>simp only[i] at h;exact(show False from h).elim
  |some b=>
   simp only[i] at h;let(o,d,p,hk):=O.ok c k b i;refine(_,_,d,_,b,rfl,?_,by cases f <;> simp only[Bmj,gA,reduceCtorEq] at p <;> subst p <;> rfl,hk,h.now R .bl[_])
   cases e with
   |exn z m j=>exact .exc j o
   |exf z m B j=>exact .exc j o
 .rename_i x n nx;cases r with|cons e r=>
  cases r with|cons f r=>
  cases r;cases l:tyW S x with
  |none=>simp only[l] at h;exact(show False from h).elim
  |some T=>
   simp only[l] at h;by_cases g:Afk.contains n=t8
   .rw[di g] at h;let(y,v):=Bip R e l;cases f;exact(_,_,_,_,_,rfl,y,rfl,Bio a.K v (by simpa using g),Hq h R .bl[_])
   .rw[dq g] at h;exact(show False from h).elim
 .exact(show False from h).elim
end
section
def Axw(b:∀Z H,RV a Z H w v)(h:WE X e tC[v]):WE X e (tF a E kF[w]):=(WE.weak h λc H Q q=>by
 let(Z,S,Y,R,d,q):=q;exact q.now R (b Z H))
end
structure Bo1(X:Cx)(C:aL)(f:o8)(n:Nat):Prop where
 ex:∃(fI:aL)(fd:eU)(ps:List o8)(k:Nat)(dvs:List V)(ds:List aG),Bn9 X.K C fI=t8/\eG X.K (.ref C)=t8/\yW X.K (.ref fI)=sr (.type "function")/\
  (∀cm,Ke X.prog X.w X.K X.mg X.base (CXo X.prog X.w) k fI fd ps (Boa C f) cm)/\Ia (k+1) X.A t8/\Binds X.K fd ps ds/\Vals dvs ds/\dvs.length=n
section
variable{i k:Nat}{exm:Nat->Bool}
def Agq(b:MS):MS:=λY S=>match b Y S with
 |.ex _ _ _=>.bad
 |r=>r
def Bc8{p:rE}{n:lg rE}(o:∀(pn:lg[aL×o7])(xe:aG->aO->Prop)(d:L2.St->XK),Ec[CXo X.prog X.w][X.tryB pn xe][d]->WSs[X.tryB pn xe][body][tS h d b]):
  WS[X][.Try body (p::n) [] [] l][tS h E Agq[b]]:=by
 refine WS.weak ⟨Bcc (tb:=λd=>tS h d b) λpn xe d m=>(o pn xe d m).un⟩ λD s H ⟨Z,S,Y,R,sl,q⟩=>?_;refine(Z,S,Y,R,sl,?_);unfold Agq at q;cases a:b Y S with
 |nx g f=>rw[a] at q;exact q
 |rt w f=>rw[a] at q;exact q
 |bk g f=>rw[a] at q;exact q
 |ct g f=>rw[a] at q;exact q
 |bad=>rw[a] at q;exact q
 |ex c g f=>rw[a] at q;exact q.elim
end
def Arz(z:o8):lg W:=(cO z.cps.size).map λ(i:Nat)=>W.tup [.int[(i:Int)+1],.str ⟨#[z.cps.getD i 0]⟩]
def Axx(f:De->M W):De->M Src:=λY=>do let x<-f Y;match x with
 |.str z=>pure .fix[Arz[z]]
 |_=>bad
theorem Axy(z:o8):JOk h Ite[z] Arz[z] Z H where
 go:=λd g i p t hi=>by
  unfold Arz at hi ⊢
  rw[aB,bM] at hi;refine(hi,?_);rintro x j ⟨c,T,b,a,rfl,rfl⟩;refine(Bg a,λS r=>r.beside a,_,by rw[aX,iJ hi];rfl,.tup Am .cons[.int _][.cons ?_ .nil])
  let e:z.cps.getD i 0=c:=by rw[pI,b];rfl
  rw[e];exact .str _
 stop:=λd g i t hi=>by
  unfold Arz at hi;rw[aB,bM] at hi;exact hi
def Agr(f:De->M W):De->M Src:=λY=>do let x<-f Y;match x with
 |.ref n=>λS=>match S[n]? with
  |some (.lst _)=>.ok .el[n] S
  |_=>.bad
 |_=>bad
set_option tactic.hygienic true in
def Bc9{r:Nat}(hK:X.K=c.K)(t:X.mg "enumerate"=sy)(x:WE X e (tF c E f))(u:X.env.kindOf "enumerate"=sr .globalImplicit)(s:starEach [e] X.env=[(tu,eval e X.env)]):
  WI[X][.Tuple i r d][.Call (.Name "enumerate" p) [e] [] o][tFi c E Agr[f]]:=by
 refine WI.weak ⟨Aws u t x.un s⟩ λB H Q ⟨Z,S,Y,R,sl,q⟩=>?_;refine(Z,S,Y,R,sl,(Av.seq (Rel:=RV c) q).mono ?_);rintro v J ⟨G,I,w,p1,D,j,m,b⟩;cases m <;> try exact(show False from b).elim
 rename_i n a g;dsimp only at b;split at b
 .rename_i C z;let(k,y,F):=j.at_ _ _ _ g z;exact(a,k,rfl,.inl .inl[y],by rw[hK];exact Hq (Rel:=Ac9 c) b j (a,g,rfl))
 .exact(show False from b).elim
def Auq(ws us:lg W):lg W:=List.zipWith (λx y=>W.tup [x,y]) ws us
def Axz:lg W->M Src
 |[.tup ws,.tup us]=>pure .fix[Auq ws us]
 |[.ref n,.ref m]=>λS=>match S[n]?,S[m]? with
  |some (.lst _),sr (.lst _)=>.ok (.zl n m) S
  |_,_=>.bad
 |_=>bad
def Ana(gs:De->M lg[W]):De->M Src:=λY=>do let ws<-gs Y;Axz ws
section
theorem Bda(w:H a=sr .tup[e])(o:RVs c Z H f e)(u:H b=sr .tup[d])(n:RVs c Z H g d):JOk c (Itz c.K t8 a b) (Auq f g) Z H where
 go:=λF h i p t hi=>by
  unfold Auq at hi ⊢
  rw[uV] at hi;let s:i < f.length:=bC hi (yL ..);let q:i < g.length:=bC hi (rK ..);let(A,y,C):=o.get aM[s];let(z,x,B):=n.get aM[q];let m:SqT c.K h a e:=SqT.of[t.t _ _ w];let l:SqT c.K h b d:=SqT.of[t.t _ _ u];refine((e,d,A,z,m,l,y,x),?_);rintro v L ⟨J,I,G,E,D,hp,rfl,rfl⟩;let k:=E e m;let j:=D d l;rw[y] at k;cases k;rw[x] at j;cases j;refine(Bg hp,λS r=>r.beside hp,.tup [(getElem[f][i][by get_elem_tactic]),(getElem[g][i][by get_elem_tactic])],?_,.tup Am .cons[(C.mono p t).mono aP[_] Bg[hp]][.cons[(B.mono p t).mono aP[_] Bg[hp]][.nil]]);rw[tR,aM s,aM q]
 stop:=λF h i t hi=>by
  unfold Auq at hi;rw[uV] at hi;refine(e,d,SqT.of[t.t _ _ w],SqT.of[t.t _ _ u],?_);rw[<-o.length,<-n.length];omega
variable{kt:Nat}
set_option tactic.hygienic true in
def Bmk(hK:X.K=c.K)(D:X.mg "zip"=sy)(G:WA X (e::f) (tFs c E I))(F:X.env.kindOf "zip"=sr .globalImplicit)(C:starEach (e::f) X.env=(u6 tu (eval e X.env))::starEach f X.env)(k:(backTo j (starEach f X.env)).any (·.1)=tu):
  WI[X][.Tuple v kt o][.Call (.Name "zip" p) (e::f) [] j][tFi c E Ana[I]]:=by
 refine WI.weak ⟨Bhu F D G.un C k⟩ λP H Q ⟨Z,S,Y,R,sl,q⟩=>?_;refine(Z,S,Y,R,sl,(Av.seq (Rel:=RVs c) q).mono ?_);rintro l H1 ⟨Z1,S1,T,p1,U,g,a,b⟩;unfold Axz at b;rw[hK];split at b
 .rename_i y x;cases a with|cons i a=>
  cases a with|cons h a=>
  cases a;let(_,_,rfl,t,B):=i.tI;let(_,_,rfl,s,A):=h.tI;exact(t8,_,_,_,_,rfl,SqT.of t,SqT.of s,Av.now (Rel:=Ac9 c) b g (Bda t B s A))
 .rename_i n m;cases a with|cons i a=>
  cases a with|cons h a=>
  cases a;let(_,rfl,r):=i.rI;let(_,rfl,d):=h.rI;split at b
  .rename_i y x O N;let(l,L,_):=g.at_ _ _ _ r O;let(w,J,_):=g.at_ _ _ _ d N;exact(tu,_,_,l,w,rfl,.inl .inl[L],.inl .inl[J],Hq (Rel:=Ac9 c) b g (_,_,r,d,rfl))
  .exact(show False from b).elim
 .exact(show False from b).elim
end
def Aur(K:aD)(a:aL)(D:lg[o8×o8]):Prop:=∀h,K.In h->KTD.TextTab h a (D.map λp=>(u6 p.1 pJ[.str[p.2]]))
def mdW(D:lg[o8×o8]):W->M W
 |.str k=>match D.lookup k with
  |some z=>pure .str[z]
  |none=>bad
 |_=>bad
def mdF(D:lg[o8×o8])(g:De->M W):De->M W:=λY=>do let y<-g Y;mdW D y
theorem Ags(k:o8):∀D:lg[o8×o8],aBy k (D.map λp=>(u6 p.1 pJ[.str[p.2]]))=(D.lookup k).map λz=>pJ .str[z]
 |[]=>rfl
 |(x,z)::D=>by
  rw[bT,dM,aBy];by_cases h:k=x
  .simp_all
  .let c:(k==x)=tu:=by simpa using h
   rw[dq[by simpa using h],c,Ags k D]
section
def Biq(m:Aur X.K A D):IxR X (λx y H Q=>x=.ref A/\∃k z,y=.str k/\D.lookup k=sr z/\Q .str[z] H):=by
 intro value slice p s n H x y v u Q I i g h j;let(rfl,k,z,rfl,l,q):=h;obtain rfl:v=cV A:=i;let(t,rfl):=g;let T:KTD.Here s.heap s.heap A _:=(m _ I.kIn,λf f o=>o);refine zE T.typeIs qJ.lookup ?_ j;unfold getItem
 try with_reducible refine fW ?_
 refine aA (qN T.typeIs () (aA (cW (name:=lU "__getitem__") T.typeIs wR (cZ wR T.typeIs entry_dict_getitem ?_ (args_dict_getitem _ _)))))
 show wpAny _ _ (dictGet A (.str k t) >>= _) _ _ s;refine aA[KTD.dictGet_text T (λd v e hv=>aJ (v,rfl,aJ ?_)) λc=>?_]
 .rw[Ags,l] at e;cases e;let a:Reads s.heap v .str[z] []:=hv s.heap;cases a;exact(.str z,H,I.tok _,(_,rfl),q)
 .rw[Ags,l] at c;cases c
set_option tactic.hygienic true in
def Bov(n:Aur X.K A D)(j:X.mg x=sr .ref[A])(l:X.env.kindOf x=sr .globalImplicit)(hd:(x==("__debug__":o8))=tu)(m:WE X b (tF c E g))(i:Afe b):WE X .Subscript[.Name x p][b][h] tF[c][E][mdF D g]:=(
 WE.weak[kix Biq[n] (Bfz j (show RelV .ref[A] .ref[A] from rfl) l hd) m i] λs H Q ⟨Z,S,Y,R,sl,q⟩=>by
  refine(Z,S,Y,R,sl,(Av.seq (Rel:=RV c) q).mono ?_);rintro v B ⟨u,y,w,p1,t,r,f,a⟩;refine(rfl,?_);cases f <;> try exact(show False from a).elim
  rename_i k;cases d:D.lookup k with
  |none=>simp only[mdW,d] at a;exact(show False from a).elim
  |some z=>
   simp only[mdW,d] at a;exact(k,z,rfl,d,Av.now (Rel:=RV c) a r .str[z]))
end
section
variable{i:Nat}{cap:lg Nat}
def Ar0(U:X.calm=t8)(hE:X.env.scope=sc)(hi:WI X m a A)(P:∀C s H ex,WG (X.comp scope own cap C s H ex) m g)(p:∀l H Q,tF c E F l H Q->Agb A g (tFb c E0s B) (tF c E0s ef) own cap l H Ai8[Q])(J:∀C s H ex,WTs[X.comp scope own cap C s H ex][f][tFb c E0s B])(T:∀C s H ex,WE[X.comp scope own cap C s H ex][k][tF c E0s ef])(h:cap.all[λj=>match X.N[j]? with|some x=>decide[scope.names.lookup x=sr .free]|none=>tu]=t8)(bc:scope.kind=.function)(ao:scope.names.all[λy=>decide[y.2≠.cell]]=t8)(az:scope.names.all[λy=>!decide (y.2=.local)||decide[scope.names.lookup y.1=sr .local]]=t8)(bf:scope.names.all[λy=>!decide (y.2=.free)||(decide[sc.names.lookup y.1=sr .cell]||decide[sc.names.lookup y.1=sr .free])]=t8)(L:∀x,foldedSetIterable a X.env x=pure x)(b:WG X (.Name y z) Aa8[i])(r:swapsWith (.ListComp k [(m,a,f,0)] scope o) sr[.Name y z] d.line X.env=pure t8):
  WS X .Assign[[.Name y z]][.ListComp k [(m,a,f,0)] scope o][d] tS[c][E][Bq i F]:=(
 WS.weak (by
   refine⟨PS.thaw <| Bbr U hE hi.un (λC s H ex=>(P C s H ex).un) (λC s H ex=>(J C s H ex).un) (λC s H ex=>(T C s H ex).un) (λj O=>?_) bc (λy b=>?_) (λy b t=>?_) (λy b t=>?_) L b.un r⟩
   .let q:=bF.mp h j O;cases e:X.N[j]? with
    |none=>rw[e] at q;cases q
    |some x=>rw[e] at q;exact(x,rfl,dg q)
   .exact dg[bF.mp ao y b]
   .let q:=bF.mp az y b;rw[dm t] at q;exact dg q
   .let q:=bF.mp bf y b;rw[dm t,rA,vB,fC] at q;exact q.imp dg dg) λD l H ⟨Z,S,Y,R,sl,q⟩=>by
  refine p _ _ _ (Z,S,Y,R,sl.2,(Ed.lift (Rel:=RV c) sl q).mono ?_);rintro v H1 ⟨Z1,S1,w,p1,t1,R1,n,G,I⟩;exact I.nxt R1 n.set[G])
end
def ddS:lg o8->lg o8
 |[]=>[]
 |x::xs=>if x∈xs then ddS xs else x::ddS xs
theorem Abi:∀{a:lg o8},x∈ddS a ↔ x∈a
 |[]=>Iff.rfl
 |y::c=>by
  unfold ddS;by_cases h:y∈c
  .rw[di h,Abi];simp_all
  .rw[dq h,aV,aV,Abi]
theorem W8:∀{c:lg o8},(ddS c).Nodup
 |[]=>lM
 |y::b=>by
  unfold ddS;by_cases h:y∈b
  .rw[di h];exact W8
  .rw[dq h];exact fV.mpr (λz=>h Abi.mp[z],W8)
def Bir(h:InS c c.length d):M6 d=M6 ddS[c]:=(Wz Agd ((Eu d).trans ((List.perm_iff_count.mpr λa=>by
  rw[h.1.count,W8.count];simp[propext[((h.2.1 a).trans (by rfl)).trans Abi.symm]]).trans (Eu _).symm)) Pa[_] Pa[_])
def K4:lg W->M W
 |[.ref n]=>λS=>match S[n]? with
  |some (.lst ws)=>if ws.length < 64 then match Ci Aja ws with
    |some ss=>Be ((M6 ddS[ss]).map W.str) S
    |none=>.bad
   else .bad
  |_=>.bad
 |_=>bad
def W9:lg W->M W
 |[.ref n]=>λS=>match S[n]? with
  |some (.lst ws)=>if ws.length < 4000 then match Ci asInt ws with
    |some is=>.ok .int[(is.foldl gH []).length] S
    |none=>.bad
   else .bad
  |_=>.bad
 |_=>bad
set_option tactic.hygienic true in
def Bis(B:X.calm=t8)(i:X.mg "len"=sy)(h:X.mg "set"=sy)(k:X.env.kindOf "len"=sr .globalImplicit)(j:X.env.kindOf "set"=sr .globalImplicit)(C:WA X (e::c) (tFs l E F))(A:starEach (e::c) X.env=(u6 tu (eval e X.env))::starEach c X.env)(g:(backTo cpos2 (starEach c X.env)).any (·.1)=tu):
  WE X (.Call (.Name "len" p) [.Call (.Name "set" p2) (e::c) [] cpos2] [] t) tF[l][E][Dg W9 F]:=by
 refine WE.weak[kbi Auh i (by rfl':bootBuiltins "len"=sr .builtin["len"]) ⟨Aa9 (Ac2 Auf[B] j h (by rfl':bootBuiltins "set"=sr .type["set"]) C.un () () A g) Af1 rfl⟩ k () () rfl rfl] λL H Q ⟨Z,S,Y,R,sl,q⟩=>?_
 refine(Z,S,Y,R,sl,(Av.seq (Rel:=RVs l) q).mono ?_);rintro P H1 ⟨I,S1,O,p1,T,u,f,a⟩;unfold W9 at a;split at a
 .cases f with|cons D r=>
  cases r;let(_,rfl,z):=D.rI;split at a
  .rename_i w G;let(N,n,y):=u.at_ _ _ _ z G;split at a
   .rename_i hl;split at a
    .rename_i d s;rw[Lq Agk y s] at n;let U:d.length=w.length:=Vg s;refine(_,d,rfl,n,(),λq S m=>(q,_,_,rfl,Am,by have:=length_foldl_step_dedup_le d ([]:lg Int);simp at this;omega,?_))
     exact a I _ _ aP[_] Bg[m] u.beside[m] .int[_]
    .exact(show False from a).elim
   .exact(show False from a).elim
  .exact(show False from a).elim
 .exact(show False from a).elim
set_option tactic.hygienic true in
def Bdb(o:X.calm=t8)(i:X.mg "sorted"=sy)(h:X.mg "set"=sy)(k:X.env.kindOf "sorted"=sr .globalImplicit)(j:X.env.kindOf "set"=sr .globalImplicit)(D:WA X (e::d) (tFs l E G))(C:starEach (e::d) X.env=(u6 tu (eval e X.env))::starEach d X.env)(g:(backTo cpos2 (starEach d X.env)).any (·.1)=tu):
  WE X (.Call (.Name "sorted" p) [.Call (.Name "set" p2) (e::d) [] cpos2] [] v) tF[l][E][Dg K4 G]:=by
 refine WE.weak[kbi Ako[o] i (by rfl':bootBuiltins "sorted"=sr .builtin["sorted"]) ⟨Aa9 (Ac2 Aw4[o] j h (by rfl':bootBuiltins "set"=sr .type["set"]) D.un () () C g) Af1 rfl⟩ k () () rfl rfl] λJ H Q ⟨Z,S,Y,R,sl,q⟩=>?_
 refine(Z,S,Y,R,sl,(Av.seq (Rel:=RVs l) q).mono ?_);rintro O H1 ⟨Z1,S1,N,p1,P,w,f,a⟩;unfold K4 at a;split at a
 .cases f with|cons F r=>
  cases r;let(_,rfl,B):=F.rI;split at a
  .rename_i x I;let(L,s,z):=w.at_ _ _ _ B I;split at a
   .rename_i U;split at a
    .rename_i m u;rw[Lq Agl z u] at s;let T:m.length=x.length:=Vg u;refine(_,m,rfl,s,(),λq A n c=>(q,A,rfl,Am,by have:=c.2.2;omega,?_))
     rw[Bir c];exact(Ew[w.beside n][Vf _][Av.shift a aP[_] Bg[n]]).2
    .exact(show False from a).elim
   .exact(show False from a).elim
  .exact(show False from a).elim
 .exact(show False from a).elim
def orM(f g:De->M W):De->M W:=λY S=>match f Y S with
 |.bad=>g Y S
 |r=>r
def Bit(c:Nat):M W:=λS=>.ok[.ref S.length][S ++ [.ins c []]]
def Ax0(x v:W):M W:=match v with
 |.non=>pure x
 |_=>bad
def Ko(c:Nat)(g:lg W->M W)(ws:lg W):M W:=Bit c >>= λx=>g (x::ws) >>= λv=>Ax0 x v
structure Fi where
 g:List W->M W
 np:Nat
 dv:List W
def Aea(mt:Nat->o8->o9 Fi)(m:o8)(x:W):M Fi:=match x with
 |.ref n=>λS=>match S[n]? with
  |some (.ins c fs)=>match fs.lookup m,mt c m with
   |none,sr i=>.ok i S
   |_,_=>.bad
  |_=>.bad
 |_=>bad
def Ap7(i:Fi)(x:W)(ws:lg W):M W:=if ws.length+1=i.np then i.g (x::ws) else if ws.length+1+i.dv.length=i.np then i.g (x::(ws ++ i.dv)) else bad
def Bd(mt:Nat->o8->o9 Fi)(m:o8)(f:De->M W)(gs:De->M lg[W]):De->M W:=λY=>f Y >>= λx=>Aea mt m x >>= λi=>gs Y >>= λws=>Ap7 i x ws
structure Ap8(Θ:Th)(X:Cx)(c:Nat)(m:o8)(i:Fi):Prop where
 ex:∃(n:Nat)(fa:aL)(fd:eU)(ps:List o8)(cm:Bool),Cls X.K (Θ.cl c)/\Meth X.K (Θ.cl c) m fa/\Ke X.prog X.w X.K X.mg X.base (CXo X.prog X.w) n fa fd ps (spF Θ i.g) cm/\Ia n X.A cm/\Binds X.K fd ps []/\
  ∃dvs ds,Ci D.Gv i.dv=sr dvs/\Vals dvs ds/\Binds X.K fd ps ds
structure Ap9(Θ:Th)(X:Cx)(c:Nat)(i:Fi):Prop where
 ex:∃(n:Nat)(fa:aL)(fd:eU)(ps:List o8)(cm:Bool),Mk X.K (Θ.cl c) fa/\Ke X.prog X.w X.K X.mg X.base (CXo X.prog X.w) n fa fd ps (spF Θ i.g) cm/\Ia (n+1) X.A cm/\Binds X.K fd ps []/\
  ∃dvs ds,Ci D.Gv i.dv=sr dvs/\Vals dvs ds/\Binds X.K fd ps ds
section
def Bml(k:WE X e (tF b E f))(j:WE X e (tF b E g))(i:∀Y S,h Y S=f Y S\/h Y S=g Y S):WE X e (tF b E h):=(⟨λd s a H Q I ⟨Z,S,Y,R,sl,q⟩=>by
 rcases i Y S with z|z
 .rw[z] at q;exact k.un d s a H Q I (Z,S,Y,R,sl,q)
 .rw[z] at q;exact j.un d s a H Q I (Z,S,Y,R,sl,q)⟩)
def Biu(c:WE X e (tF a E f))(b:WE X e (tF a E g)):WE X e tF[a][E][orM f g]:=(Bml c b λY S=>by
 unfold orM;cases f Y S
 .exact .inl rfl
 .exact .inl rfl
 .exact .inr rfl)
def Abj{l:CXT}{k:Nat}{f:aL}{fd:eU}{ps:lg o8}{h:Sp}{dvs vs:lg V}{d us:lg aG}{E:L2.St->XK}{j:Bool}{g:lg[aL×o7]}{c:L2.St}{H:Hp}{s:aO}{Q:VK}(F:Ke X.prog X.w X.K X.mg X.base l k f fd ps h j)(p:Ia k X.A j)(v:Binds X.K fd ps d)(hd:Vals dvs d)(o:Ec l X E)(I:Inv X g c H s)(r:Vals vs us)(q:h (vs ++ dvs) H Q E[c]):
  wpAny (model X.prog X.w) X.A (call .ref[f] us) (EP X g c Q) X.xe s:=by
 let i:=r.append hd;let t:(us ++ d).length=ps.length:=by rw[<-i.length];exact F.len _ _ _ _ q
 refine sH[jH[F.run X.A X.stack s H _ _ _ Q _ p I.env0 (v s us I.kIn t) i q] λr n b=>?_]
 match r,b with
 |.error e,b=>exact o g c H s e n I b
 |.ok (.ret u),b=>exact I.after b
theorem M8:∀{dv:lg W} {a:lg V},Ci D.Gv dv=sr a->RVs f Z H dv a
 |[],_,h=>by cases h;exact .nil
 |w::e,a,h=>by
  unfold Ci at h;cases d:D.Gv w with
  |none=>simp_all
  |some v=>
   cases c:Ci D.Gv e with
   |none=>simp_all
   |some g=>rw[d,c] at h;cases h;exact .cons Arq[d] M8[c]
def Xa{y:CXT}{k:Nat}{C f:aL}{fd:eU}{ps:lg o8}{o:Sp}{d m:lg V}{j c:lg aG}{E:L2.St->XK}{t:Bool}{n:lg[aL×o7]}{g:L2.St}{H:Hp}{s:aO}{Q:VK}(M:Mk X.K C f)(F:Ke X.prog X.w X.K X.mg X.base y k f fd ps o t)(L:Ia (k+1) X.A t)(O:Binds X.K fd ps j)(hd:Vals d j)(J:Ec y X E)(I:Inv X n g H s)(r:Vals m c)(h:∀x i,H x=sy->H i=sy->i≠x->o (.ref x::(m ++ d)) upd[upd H i .own[x]][x][.ins C i []] (λv Z=>v=.non/\Q .ref[x] Z) E[g]):
  wpAny (model X.prog X.w) X.A (call .ref[C] c) (EP X n g Q) X.xe s:=by
 let q:=h (s.heap.objs.size+1) s.heap.objs.size I.hok.fresh[gU[_]] I.hok.fresh[aN[_]] bZ[gY[_]];let l:=Inv.made (C:=C) I;let p:Vals (V.ref[s.heap.objs.size+1]::(m ++ d)) (cV[s.heap.objs.size+1]::(c ++ j)):=.cons rfl r.append[hd];let N:=by
  let e:=p.length;rw[F.len _ _ _ _ q] at e;exact e.symm
 refine sH (Awc (f:=f) I.kIn M.makes M.init beq_iff_eq.mp[M.fn] (jH (F.run _ X.stack _ _ (cV[s.heap.objs.size+1]::c,[]) (cV[s.heap.objs.size+1]::(c ++ j)) _ _ E[g] (L.make C c [])
  (l.env0.make C c []) (O _ (cV[s.heap.objs.size+1]::c) l.kIn N) p q) λr B a=>?_))
 match r,a with
 |.error e,a=>exact J n g _ _ e B l a
 |.ok (.ret u),a=>
  let(v,H',Y,D,ev,G):=l.after a;subst ev;exact(D,(V.ref[s.heap.objs.size+1],H',Y,rfl,G))
def Afl{c:Nat}{g:lg W->M W}{Z:lg aL}{S:Store}{H:Hp}{e:lg W}{u:lg V}{Q:VK}{F:XK}(R:Rep d Z S H)(m:RVs d Z H e u)(q:Av d RV[d] Z H (Ko c g e S) Q F):
  ∀x b,H x=sy->H b=sy->b≠x->spF d g (.ref x::u) upd[upd H b .own[x]][x][.ins d.cl[c] b []] (λv D=>v=.non/\Q .ref[x] D) F:=by
 intro x b A i ne;let h:upd H b .own[x] x=sy:=by rw[Ao eO[ne]];exact A
 let y:Ck Z (Z ++ [x]) (upd H b .own[x]) upd[upd H b .own[x]][x][.ins d.cl[c] b []]:=Bg h;let R2:Rep d (Z ++ [x]) (S ++ [.ins c []]) _:=(R.beside i).alloc h (b,[],Am,.nil);let k:=(Bg i).trans y;let n:Z <+: Z ++ [x]:=bW _ _;let f:(Z ++ [x])[S.length]?=sr x:=by rw[<-R.len];exact Mt
 refine(Z ++ [x],S ++ [.ins c []],.ref S.length::e,R2,.cons[.ref f][m.mono n k],?_);let q:Av d RV[d] Z H M.bind[g (.ref S.length::e)][λv=>Ax0 .ref[S.length] v][S ++ [.ins c []]] Q F:=q;unfold M.bind at q;cases o:g (.ref S.length::e) (S ++ [.ins c []]) with
 |bad=>rw[o] at q;exact q.elim
 |exc E B=>
  rw[o] at q;intro p t j l s;exact q p t n.trans[j] k.trans[l] s
 |ok w B=>
  rw[o] at q;intro p t v j l s z;cases w with
  |non=>
   cases z;refine(rfl,q p t .ref[x] n.trans[j] k.trans[l] s .ref[?_]);let(r,rfl):=j;rw[aY (by rw[bH,R.len,cX];omega)]
   exact f
  |_=>exact(show False from q).elim
def Ax1{c:Nat}(P:Ap9 f X c i)(v:Ec (CXo X.prog X.w) X E)(G:X.mg x=sr .ref[f.cl[c]])(O:WA X (e::d) (tFs f E T))(J:X.env.kindOf x=sr .globalImplicit)(k:(x==("__debug__":o8))=tu)(L:starEach (e::d) X.env=(u6 tu (eval e X.env))::starEach d X.env)(j:(backTo b (starEach d X.env)).any (·.1)=tu)(more:Bool):
  WE[X][.Call (.Name x p) (e::d) [] b][tF f E Dg[λh=>Ko c i.g (if more then h ++ i.dv else h)][T]]:=(⟨λaa s C H Q I ⟨Z,S,Y,R,sl,q⟩=>by
 let(n,fa,fd,ps,cm,M,F,y,o,U,ds,m,l,N):=P.ex;refine gZ[Aa7 I J G ?_ k];refine pR I.ok.mod.kin M.kp (thn[O.un b aa s C H _ I (Z,S,Y,R,sl,Av.seq q)] λus s1 ⟨vs,H1,I1,r,Z1,S1,h,p1,t1,R1,rvs,q1⟩=>(I1.kIn,?_)) L j;cases more with
 |true=>exact Xa M F y N l v I1 r (Afl R1 rvs.append[M8[m]] q1)
 |false=>exact Xa M F y o .nil v I1 r (by rw[cH];exact Afl R1 rvs q1)⟩)
def Ar1{c:Nat}(z:Ap9 a X c i)(l:Ec (CXo X.prog X.w) X E)(u:X.mg x=sr .ref[a.cl[c]])(v:X.env.kindOf x=sr .globalImplicit)(e:(x==("__debug__":o8))=tu)(more:Bool):
  WE[X][.Call (.Name x p) [] [] t][tF a E Dg[λb=>Ko c i.g (if more then b ++ i.dv else b)][nilF]]:=(⟨λP s D H Q I ⟨Z,S,Y,R,sl,q⟩=>by
 let(n,L,fd,ps,O,M,F,m,j,A,N,h,f,y):=z.ex;refine gZ[Aa7 I v u ?_ e];let(T,U,b,p1,G,o,d,k):=Av.seq (Rel:=RVs a) q Z H [] aP[_] (Ck.refl _ _) R .nil;cases d;cases more with
 |true=>exact mF I.kIn M.kp (Xa M F m y f l I .nil Afl[o][RVs.append .nil M8[h]][k])
 |false=>exact mF I.kIn M.kp (Xa M F m j .nil l I .nil (Afl o .nil k))⟩)
def call_meth{prog:cF}{w:dG}{A:fJ}{E:aG->aO->Prop}{s:aO}{env:Env}{name:o8}{b:lg cM}{Q:aG->aO->Prop}(t:attributeBase o name env (eval o env)=eval o env)(l:((backTo a (starEach b env)).all (λx=>!x.1)&&(backToKw a (keywordEach [] env)).all (λx=>x.1.isSome)&&decide[b.length+([]:lg iQ).length+(if ([]:lg iQ).isEmpty then 0 else 1) < 30])=t8)(u:(p.endLine==a.line)=t8)(h:wpAny (model prog w) A (eval o env) (λn f=>∀pl:Sem Bool,wpAny (model prog w) A (getMethod n name pl) (λr d=>wpAny (model prog w) A (callWith a r.1 r.2 backTo[a][starEach b env] backToKw[a][keywordEach [] env]) Q E d) E f) E s):
  wpAny (model prog w) A eval[.Call (.Attribute o name p) b [] a][env] Q E s:=by
 rw[arm_eval_Call,t];refine aA[eF h (λn f j=>?_) λm m e=>e];refine aA oH[?_];let hform:methodCallForm _ _ _=t8:=l;let k:methodCallPos t8 o env p a=pure a:=by unfold methodCallPos;simp[u]
 unfold methodCall;rw[hform];exact aA fW[eF[j _][λr d i=>aA[qO k i]] λm m e=>e]
def RFs.lookN(r:RFs i Z H fs b)(f:o8)(h:fs.lookup f=sy):b.lookup f=sy:=by
 induction r with
 |nil=>rfl
 |@cons p q _ _ d r c=>
  let(p1,p2):=p;let(l,k):=q;let(e,j):=d;cases (e);rw[dM] at h ⊢
  by_cases a:(f==p1)=t8
  .simp_all
  .rw[rR] at a;rw[a] at h ⊢;exact c h
set_option tactic.hygienic true in
def Anb{mt:Nat->o8->o9 Fi}{j:Type}{b:lg aL->Hp->W->j->Prop}{Q:j->Hp->Prop}(R:Rep d Z S H)(p:RV d Z H x v)(q:Av d b Z H ((Aea mt m x >>= k) S) Q F):
  ∃a c h fs i,v=.ref a/\H a=sr[.ins d.cl[c] h fs]/\fs.lookup m=sy/\mt c m=sr i/\Av d b Z H (k i S) Q F:=by
 let q:Av d b Z H M.bind[Aea mt m x][k][S] Q F:=q;unfold M.bind at q;cases p <;> try exact(show False from q).elim
 rename_i n a s _;simp only[Aea] at q;cases g:S[n]? with
 |none=>rw[g] at q;exact(show False from q).elim
 |some cell=>
  rw[g] at q;cases cell with
  |lst _=>exact(show False from q).elim
  |dct _=>exact(show False from q).elim
  |dead=>exact(show False from q).elim
  |ins c fs=>
   let(h,o,t,r):=R.at_ _ _ _ s g;dsimp only at q;cases e:fs.lookup m with
   |some _=>rw[e] at q;exact(show False from q).elim
   |none=>
    cases f:mt c m with
    |none=>rw[e,f] at q;exact(show False from q).elim
    |some i=>
     rw[e,f] at q;refine(a,c,h,o,i,rfl,t,?_,f,q);exact r.lookN m e
def Biv{mt:Nat->o8->o9 Fi}{m:o8}(z:∀c i,mt c m=sr i->Ap8 h X c m i)(T:Ec (CXo X.prog X.w) X E)(ho:WE X o (tF h E f))(ha:WA X (e::g) (tFs h E gs))(bh:attributeBase o m X.env (eval o X.env)=eval o X.env)(p:((backTo b (starEach (e::g) X.env)).all (λx=>!x.1)&&(backToKw b (keywordEach [] X.env)).all (λx=>x.1.isSome)&&decide[(e::g).length+([]:lg iQ).length+(if ([]:lg iQ).isEmpty then 0 else 1) < 30])=t8)(aq:(ak.endLine==b.line)=t8)(he:starEach (e::g) X.env=(u6 tu (eval e X.env))::starEach g X.env)(y:(backTo b (starEach g X.env)).any (·.1)=tu):
  WE X (.Call (.Attribute o m ak) (e::g) [] b) tF[h][E][Bd mt m f gs]:=(⟨λaa s L H Q I ⟨Z,S,Y,R,sl,q⟩=>by
 refine call_meth bh p aq (thn (ho.un aa s L H _ I (Z,S,Y,R,sl,Av.seq (Rel:=RV h) q)) λu s1 ⟨x,H1,I1,rx,Z1,S1,w,p1,t1,R1,rv,q1⟩ pl=>?_);let(a,c,dx,fs,i,rfl,ea,l,hi,q2):=Anb R1 rv q1;obtain rfl:u=cV a:=rx;let(n,fa,fd,ps,cm,C,hm,F,U,D,dvs,ds,B,A,hb):=(z c i hi).ex;refine Af0 I1 ea C hm l ?_;refine pR (first:=[.ref a]) (h₀:=X.base) I.ok.mod.kin hm.kp (thn (ha.un b aa s1 L H1 _ I1 (Z1,S1,Y,R1,sl.mono p1 t1,Av.seq (Rel:=RVs h) q2)) λus s2 ⟨vs,H2,I2,r,Z2,S2,ws,p2,t2,R2,rvs,q3⟩=>(I2.kIn,?_)) he y
 unfold Ap7 at q3;split at q3
 .exact Abj (us:=.ref a::us) (vs:=.ref a::vs) (dvs:=[]) F U D .nil T I2 (.cons rfl r) (Z2,S2,w::ws,R2,by rw[cH];exact .cons (rv.mono p2 t2) rvs,q3)
 .split at q3
  .exact Abj (us:=.ref a::us) (vs:=.ref a::vs) F U hb A T I2 (.cons rfl r) (Z2,S2,w::(ws ++ i.dv),R2,.cons[rv.mono p2 t2][rvs.append M8[B]],q3)
  trivial⟩)
def Bdc{mt:Nat->o8->o9 Fi}{m:o8}(p:∀c i,mt c m=sr i->Ap8 g X c m i)(A:Ec (CXo X.prog X.w) X E)(ho:WE X o (tF g E f))(bh:attributeBase o m X.env (eval o X.env)=eval o X.env)(aq:(ak.endLine==e.line)=t8):
  WE X (.Call (.Attribute o m ak) [] [] e) tF[g][E][Bd mt m f nilF]:=(⟨λaa s N H Q I ⟨Z,S,Y,R,sl,q⟩=>by
 refine call_meth bh (by rfl) aq (thn (ho.un aa s N H _ I (Z,S,Y,R,sl,Av.seq (Rel:=RV g) q)) λu s1 ⟨x,H1,I1,rx,Z1,S1,w,p1,t1,R1,rv,q1⟩ pl=>?_)
 let(a,c,dx,fs,i,rfl,ea,l,hi,T):=Anb R1 rv q1;obtain rfl:u=cV a:=rx;let(n,fa,fd,ps,cm,C,D,F,B,v,dvs,ds,t,r,hb):=(p c i hi).ex;refine Af0 I1 ea C D l ?_;let(G,J,ws,p2,z,R2,j,b):=Av.seq (Rel:=RVs g) T Z1 H1 [] aP[_] (Ck.refl _ _) R1 .nil;cases j;refine mF I1.kIn D.kp ?_;unfold Ap7 at b;split at b
 .exact Abj (us:=[.ref a]) (vs:=[.ref a]) (dvs:=[]) F B v .nil A I1 (.cons rfl .nil) (G,J,[w],R2,.cons (rv.mono p2 z) .nil,b)
 .split at b
  .exact Abj (us:=[.ref a]) (vs:=[.ref a]) F B hb r A I1 (.cons rfl .nil) (G,J,w::i.dv,R2,.cons[rv.mono p2 z][M8 t],b)
  trivial⟩)
end
def noStar:cM->Bool
 |.Starred _ _=>tu
 |_=>t8
def Aje:cM->Bool
 |.Set _ _ _=>tu
 |_=>t8
def Aky:cM->Bool
 |.ListComp _ _ _ _=>tu
 |.SetComp _ _ _ _=>tu
 |.DictComp _ _ _ _ _=>tu
 |_=>t8
def Akz:cM->Bool
 |.Call _ _ _ _=>tu
 |_=>t8
def Ar2:cM->Bool
 |.Slice _ _ _ _=>tu
 |_=>t8
def plainT:cM->Bool
 |.UnaryOp .Not _ _=>tu
 |.BoolOp _ _ _=>tu
 |.IfExp _ _ _ _=>tu
 |.Compare _ _ _ _=>tu
 |_=>t8
section
def Kp(h:noStar a=t8):starEach (a::c) env=(u6 tu (eval a env))::starEach c env:=by
 cases a <;> first|rfl|cases h
theorem Hr:∀{a:lg cM},a.all noStar=t8->(backTo c (starEach a env)).any (·.1)=tu
 |[],_=>rfl
 |e::a,h=>by
  rw[fG,aQ] at h;rw[Kp h.1];exact Hr h.2
theorem Anc:∀{a:lg cM},a.all noStar=t8->(backTo c (starEach a env)).all (λx=>!x.1)=t8
 |[],_=>rfl
 |e::a,h=>by
  rw[fG,aQ] at h;rw[Kp h.1];exact Anc h.2
def Xb(h:Aje a=t8):∀x,foldedSetIterable a env x=pure x:=(λx=>by
 cases a <;> first|rfl|cases h)
def Abk(h:Aje b=t8):behindInMarks a b=tu:=by
 cases b <;> first|rfl|cases h
def Ar3{n:Nat}(h:Aky a=t8):swapsWith a t n env=pure tu:=by
 cases a <;> first|rfl|cases h
def Afm(h:Akz a=t8):attributeBase a x env (eval a env)=eval a env:=by
 cases a <;> first|rfl|cases h
def Bga(h:Ar2 b=t8):Afe b:=by
 cases b <;> first|exact λa a=>rfl|cases h
set_option tactic.hygienic true in
def Ar4(h:plainT a=t8):∀whole,isTrue a env whole=(do let v<-whole;standAt a.pos;holding [v] truthy[v]):=(λw=>by
 cases a <;> first|rfl|cases h|skip
 rename_i b o p;cases b <;> first|rfl|cases h)
end
def Aus(x:o8):lg o8->o9 Nat
 |[]=>sy
 |y::ys=>if y=x then sr 0 else (Aus x ys).map (·+1)
theorem Ak0:∀{l:lg o8} {i:Nat},Aus x l=sr i->l[i]?=sr x
 |[],_,h=>by cases h
 |y::f,i,h=>by
  unfold Aus at h;split at h
  .rename_i e;cases h;subst e;rfl
  .let(j,b,rfl):=bA.mp h;simpa using Ak0 b
structure Gm where
 N:List o8
 sc:jR
 fn:o8->Option Fi
 con:o8->Option W
 bi:o8->Bool
 isa:Nat->W->Option Bool
 fld:Bool->Nat->o8->Bool
 calm:Bool
 fnB:Bool
 mdc:o8->Option (List (o8×o8))
 loops:Bool
 mt:Nat->o8->Option Fi
 mn:o8->Bool
 mkc:o8->Option (Nat×Fi)
structure Gm.Ok(Θ:Th)(Γ:Gm)(X:Cx)(E:L2.St->XK):Prop where
 hK:X.K=Θ.K
 hu:X.A.units+64 < cLine
 N:X.N=Γ.N
 nd:X.N.Nodup
 sc:X.env.scope=Γ.sc
 fn:∀x i,Γ.fn x=sr i->∃(n:Nat)(fa:aL)(fd:eU)(ps:List o8)(df:cQ)(cm:Bool),Xv X.K X.mg x df ps fa fd/\Ke X.prog X.w X.K X.mg X.base (CXo X.prog X.w) n fa fd ps (spF Θ i.g) cm/\Ia n X.A cm/\
  ∃dvs ds,Ci D.Gv i.dv=sr dvs/\Vals dvs ds/\Binds X.K fd ps ds
 ps:Ec (CXo X.prog X.w) X E
 px:Γ.loops=t8->X.stack=X.env::X.outer/\X.env.frame=sr X.env.locals/\X.ex=[]/\Ai2 X E
 con:∀x w,Γ.con x=sr w->∃v u,(∀Z H,RV Θ Z H w v)/\RelV v u/\(X.mg x=sr u\/(X.mg x=sy/\bootBuiltins x=sr u))
 bi:∀x,Γ.bi x=t8->X.mg x=sy
 fld:FOk Θ Γ.fld
 isa:Ary Θ Γ.isa
 calm:Γ.calm=t8->X.calm=t8
 fnB:Γ.fnB=t8->∀x,X.fn x=t8
 mdc:∀x D,Γ.mdc x=sr D->∃a,Aur X.K a D/\X.mg x=sr (.ref a)
 mt:∀c m i,Γ.mt c m=sr i->Ap8 Θ X c m i
 mkc:∀x c i,Γ.mkc x=sr (u6 c i)->X.mg x=sr (.ref (Θ.cl c))/\Ap9 Θ X c i
structure Rd where
 val:De->M W
 tst:De->M Bool
 base:De->M W
 lo:De->M (Option Int)
 hi:De->M (Option Int)
 src:De->M Src
 srcT:De->M Src
 sv:De->M (List W)
def Dq{α:Type}:De->M α:=λuu=>bad
def Rd.no:Rd:=(Dq,Dq,Dq,Dq,Dq,Dq,Dq,Dq)
def Rd.of(f:De->M W):Rd:=(f,Ce f,Dq,Dq,Dq,Ea f,Ea f,Dq)
structure N6(Θ:Th)(X:Cx)(E:L2.St->XK)(e:cM)(r:Rd):Prop where
 val:WE X e (tF Θ E r.val)
 tst:WT X e (tFb Θ E r.tst)
 base:∀o n p,e=.Attribute o n p->WE X o (tF Θ E r.base)
 lo:∀lo hi p,e=.Slice lo hi sy p->WO X lo (tFo Θ E r.lo)
 hi:∀lo hi p,e=.Slice lo hi sy p->WO X hi (tFo Θ E r.hi)
 src:∀tg,WI X tg e (tFi Θ E r.src)
 srcT:∀es k p,WI X (.Tuple es k p) e (tFi Θ E r.srcT)
 sv:∀f es kws p,e=.Call f es kws p->WA X es (tFs Θ E r.sv)
inductive Il(Θ:Th)(X:Cx)(E:L2.St->XK):List cM->List Rd->Prop
 |nil:Il Θ X E [] []
 |cons {e:cM} {es:List cM} {r:Rd} {rs:List Rd}:N6 Θ X E e r->Il Θ X E es rs->Il Θ X E (e::es) (r::rs)
section
def Bw:WE X e (tF Θ E Dq):=⟨λ_ _ _ _ _ _ ⟨_,_,_,_,_,q⟩=>gF q⟩
def Aqa:WT X e (tFb Θ E Dq):=⟨λ_ _ _ _ _ _ ⟨_,_,_,_,_,q⟩=>gF q⟩
def Ax2:WW X e (tFb Θ E Dq):=⟨λ_ _ _ _ _ _ _ ⟨_,_,_,_,_,q⟩=>gF q⟩
def Vk:WO X u (tFo Θ E Dq):=⟨λ_ _ _ _ _ _ ⟨_,_,_,_,_,q⟩=>gF q⟩
def Agt:WI X tg e (tFi Θ E Dq):=⟨λ_ _ _ _ _ _ ⟨_,_,_,_,_,q⟩=>gF q⟩
def Agu:WA X es (tFs Θ E Dq):=⟨λ_ _ _ _ _ _ _ ⟨_,_,_,_,_,q⟩=>gF q⟩
def Jm:N6 Θ X E e Rd.no:=(Bw,Aqa,λuu uu uu uu=>Bw,λuu uu uu uu=>Vk,λuu uu uu uu=>Vk,λuu=>Agt,λuu uu uu=>Agt,λuu uu uu uu uu=>Agu)
def Qp(hK:X.K=b.K)(h:WE X e (tF b E f))(c:plainT e=t8):N6 b X E e Rd.of[f]:=by
 exact(h,Axr h Ar4[c],λa a a a=>Bw,λa a a a=>Vk,λa a a a=>Vk,λa=>Am4 hK h,λa a a=>Am4 hK h,λa a a a a=>Agu)
def Xc(hK:X.K=b.K)(h:WE X e (tF b E f))(c:WT X e (tFb b E t)):N6 b X E e { Rd.of f with tst:=t }:=by
 exact(h,c,λa a a a=>Bw,λa a a a=>Vk,λa a a a=>Vk,λa=>Am4 hK h,λa a a=>Am4 hK h,λa a a a a=>Agu)
def vals:lg Rd->De->M lg[W]
 |[]=>nilF
 |r::rs=>Ds r.val vals[rs]
theorem Rj:∀{c:lg cM} {d:lg Rd},Il e X E c d->c.all noStar=t8->WA X c (tFs e E vals[d])
 |_,_,.nil,_=>WA.weak ⟨Af1⟩ λf H Q ⟨Z,S,Y,R,g,q⟩=>q.now R .nil
 |_,_,.cons h r,b=>by
  rw[fG,aQ] at b;exact Bhy h.val (Rj r b.2) Kp[b.1]
def Ax3:Const->De->M W
 |.int i=>kF .int[i]
 |.bool b=>kF .bl[b]
 |.none=>kF .non
 |.str x=>kF .str[x]
 |_=>Dq
def Ax4{j:Nat}:WE[X][.Constant v j b][tF d E Ax3[v]]:=by
 cases v <;> first|exact Bw|skip
 .exact Akp rfl ⟨λa a a H a I h=>Constant_none (.non,H,I,rfl,h)⟩
 .exact Akp rfl ⟨Bku⟩
 .exact Akp rfl ⟨Av4⟩
 .exact Akp rfl ⟨Bgw⟩
def Ax5(Γ:Gm)(x:o8):De->M W:=if x==("__debug__":o8)||x==("__classdict__":o8)||decide[x=("__name__":o8)] then Dq else
 match Γ.sc.names.lookup x with
 |some .globalImplicit=>match Γ.con x with
  |some w=>kF w
  |none=>Dq
 |_=>match Aus x Γ.N with
  |some i=>if Bbz Γ.sc x then Aa i else Dq
  |none=>Dq
set_option tactic.hygienic true in
def Bdd(G:j.Ok g X E):WE X (.Name x k) tF[g][E][Ax5 j x]:=by
 unfold Ax5;split
 .exact Bw
 rename_i f;rw[fC,fC,not_or,not_or] at f;let((c,e),o):=f;let c:=jK.mpr c;let e:=jK.mpr e;split
 .rename_i m;split
  .rename_i w l;let(v,u,hv,r,a):=G.con x w l;let b:X.env.kindOf x=sr .globalImplicit:=by show X.env.scope.names.lookup x=_;rw[G.sc];exact m
   rcases a with a|⟨a,n⟩
   .exact Axw hv (Bfz a r b c)
   .exact Axw hv (⟨λd d d H d I h=>Aac I b a n (v,H,I,r,h) of_decide_eq_false[jK.mpr[o]] c⟩)
  .exact Bw
 .split
  .rename_i i hi;split
   .rename_i hv;exact Bl6[kv i (by rw[G.N];exact Ak0 hi) (by rw[G.sc];exact hv) c e]
   .exact Bw
  .exact Bw
def Biw(op:aBx)(a b:Rd):De->M W:=match Bop.of op with
 |some o=>Bc o a.val b.val
 |none=>Dq
set_option tactic.hygienic true in
def Bix{e:Gm}{d:aBx}{r s:Rd}(G:e.Ok c X E)(i:N6 c X E a r)(h:N6 c X E b s):WE X (.BinOp a d b f) tF[c][E][Biw d r s]:=by
 unfold Biw;split
 .rename_i o g;exact Bl5 G.hK g i.val h.val
 .exact Bw
def Aqb(f:De->M W):De->M W:=λY=>do let x<-f Y;match x with
 |.int i=>pure .int[-i]
 |_=>bad
def unR(op:UnaryOp)(r:Rd):Rd:=match op with
 |.Not=>{ Rd.of Bl7[r.val] with tst:=Gx r.tst }
 |.USub=>Rd.of Aqb[r.val]
 |_=>Rd.no
def Bmm{y:Gm}{n:UnaryOp}{r:Rd}(G:y.Ok k X E)(o:N6 k X E a r):N6 k X E (.UnaryOp n a C) (unR n r):=by
 cases n
 .exact Jm
 .exact Xc G.hK (WE.weak knot[o.val] λf H Q ⟨Z,S,Y,R,sl,q⟩=>by
 refine(Z,S,Y,R,sl,(Av.seq (Rel:=RV k) q).mono ?_);rintro v g ⟨t,u,w,p1,p,j,m,e⟩;let(b,rfl,B):=Akq m e;exact(b,rfl,B.now j .bl[_])) (WT.weak (⟨by
  intro l s f H Q I h;exact isTrue_not[thn[o.tst.un l s f H (λc g=>Q (!c) g) I h] λ_ _ ⟨a,b,c⟩=>(a,b,c)]⟩) λf H Q ⟨Z,S,Y,R,sl,q⟩=>by
 refine(Z,S,Y,R,sl,(Av.seq (Rel:=λd d a b=>a=b) q).mono ?_);rintro v g ⟨t,u,w,p1,p,j,rfl,e⟩;exact Av.now (Rel:=λd d a b=>a=b) e j rfl)
 .exact Jm
 .exact Qp G.hK (WE.weak (⟨by
  intro l s f H Q I h;exact UnaryOp_[thn[o.val.un l s f H _ I h] λv z ⟨x,g,I1,r1,e⟩=>(unI λd d d d d q=>neg_int q) l z f g x v Q I1 r1 e]⟩) λf H Q ⟨Z,S,Y,R,sl,q⟩=>by
 refine(Z,S,Y,R,sl,(Av.seq (Rel:=RV k) q).mono ?_);rintro v g ⟨t,u,w,p1,p,j,m,e⟩;cases m <;> first|exact(show False from e).elim|skip
 exact(_,rfl,e.now j .int[_])) rfl
def Biy:lg Rd->De->M W
 |[]=>Dq
 |[r]=>r.val
 |r::s::rs=>Jd r.val (Biy (s::rs))
def Ax6:lg Rd->De->M Bool
 |[]=>Dq
 |[r]=>r.tst
 |r::s::rs=>Vj r.tst (Ax6 (s::rs))
def Biz:lg Rd->De->M Bool
 |[]=>Dq
 |[r]=>r.tst
 |r::s::rs=>orT r.tst (Biz (s::rs))
theorem Ar5:∀{g:lg cM} {e:lg Rd},Il c X E g e->WE X (.BoolOp .And g m) (tF c E Biy[e])
 |_,_,.nil=>Bw
 |_,_,.cons h .nil=>Bn1 h.val
 |_,_,.cons h (.cons n r)=>(WE.weak[Bn0 h.val Ar5[.cons n r]] λt H Q ⟨Z,S,Y,R,d,q⟩=>by
 refine(Z,S,Y,R,d,(Av.seq (Rel:=RV c) q).mono ?_);rintro v u ⟨o,p,w,p1,j,i,k,l⟩;let(b,rfl,f):=Akq k l;refine(b,rfl,?_);cases b with
 |true=>exact L2.App (o,p,Y,i,d.mono p1 j,f)
 |false=>exact L2.At2[f.now i .bl[_]])
theorem Ane:∀{i:lg cM} {f:lg Rd},Il k X E i f->WW X (.BoolOp .And i m) (tFb k E Ax6[f])
 |_,_,.nil=>Ax2
 |_,_,.cons h .nil=>Blm h.tst
 |_,_,.cons h (.cons n r)=>(WW.weak[Bn4 h.tst Ane[.cons n r]] λt H Q ⟨Z,S,Y,R,e,q⟩=>by
 refine(Z,S,Y,R,e,(Av.seq (Rel:=λd d a b=>a=b) q).mono ?_);rintro v u ⟨o,p,w,p1,l,j,rfl,g⟩;cases w with
 |true=>exact L2.App (o,p,Y,j,e.mono p1 l,g)
 |false=>exact L2.At2 (Av.now (Rel:=λd d a b=>a=b) g j rfl))
theorem Ar6:∀{i:lg cM} {f:lg Rd},Il k X E i f->WW X (.BoolOp .Or i m) (tFb k E Biz[f])
 |_,_,.nil=>Ax2
 |_,_,.cons h .nil=>Bn5 h.tst
 |_,_,.cons h (.cons n r)=>(WW.weak[tor h.tst Ar6[.cons n r]] λt H Q ⟨Z,S,Y,R,e,q⟩=>by
 refine(Z,S,Y,R,e,(Av.seq (Rel:=λd d a b=>a=b) q).mono ?_);rintro v u ⟨o,p,w,p1,l,j,rfl,g⟩;cases w with
 |true=>exact L2.App (Av.now (Rel:=λd d a b=>a=b) g j rfl)
 |false=>exact L2.At2 (o,p,Y,j,e.mono p1 l,g))
def Bgb(op:BoolOp)(rs:lg Rd):Rd:=match op with
 |.And=>{ Rd.of Biy[rs] with tst:=Ax6 rs }
 |.Or=>{ Rd.of Dq with tst:=Biz rs }
def Bde{e:Gm}{a:BoolOp}{c:lg Rd}(G:e.Ok b X E)(h:Il b X E g c):N6 b X E (.BoolOp a g f) (Bgb a c):=by
 cases a
 .exact Xc G.hK Ar5[h] tw[Ane[h]]
 .exact Xc G.hK Bw tw[Ar6[h]]
def Bi0(ops:lg vD)(bs:lg cM)(r:Rd)(rs:lg Rd):Rd:=match ops,bs,rs with
 |[op],[b],[s]=>if Aje b then { Rd.of[Er op r.val s.val] with tst:=Ce[Er op r.val s.val] } else Rd.no
 |[op,op'],[_,c],[s,t]=>if Aje c then { Rd.of[Ri op op' r.val s.val t.val] with tst:=Ce[Ri op op' r.val s.val t.val] } else Rd.no
 |_,_,_=>Rd.no
set_option tactic.hygienic true in
def Bi1{N:Gm}{g:lg vD}{r:Rd}{F:lg Rd}(G:N.Ok d X E)(A:N6 d X E a r)(h:Il d X E L F):N6 d X E (.Compare a g L pos) (Bi0 g L r F):=by
 unfold Bi0;split
 .rename_i j b s;cases h with|cons n _=>
  split
  .rename_i m;exact Xc G.hK (by
     obtain⟨o⟩:=Aul d X G.hK G.hu j;exact WE.weak (⟨by
      intro p s f H Q I h;exact wpAny_Compare1[Bg2 A.val.un n.val.un I h λv u B x y D C S P q=>o.ok p B f D x y v u Q C S P q][Abk m]⟩) Vc[o.by_]) (by
        obtain⟨o⟩:=Aul d X G.hK G.hu j;exact Ap2 Vc[o.by_] (⟨by
         intro p s f H Q I h;refine wpAny_isTrue_Compare1 (thn[A.val.un p s f H _ I h] λv O ⟨x,H1,I1,r1,q1⟩=>thn[n.val.un p O f H1 _ I1 q1] λu B ⟨y,D,C,r2,q2⟩=>
          thn[o.ok p B f D x y v u _ C r1 r2 q2] λc s3 ⟨z,H3,I3,r3,k,e,q3⟩=>?_) Abk[m]
         subst e;cases r3;exact gM (H3,I3,q3)⟩))
  .exact Jm
 .rename_i j i b c s t;cases h with|cons n h=>
  cases h with|cons J _=>
  split
  .rename_i m;exact Xc G.hK (by
     obtain⟨o⟩:=Aul d X G.hK G.hu j;obtain⟨l⟩:=Aul d X G.hK G.hu i;exact WE.weak[⟨Av8 o.ok l.ok A.val.un n.val.un J.val.un Abk[m]⟩][Ajd o l]) (by
       obtain⟨o⟩:=Aul d X G.hK G.hu j;obtain⟨l⟩:=Aul d X G.hK G.hu i;exact Ap2[Ajd o l][⟨Av9 o.ok l.ok A.val.un n.val.un J.val.un Abk[m]⟩])
  .exact Jm
 .exact Jm
def Bi2(es:lg cM)(rs:lg Rd):De->M W:=if es.all noStar then Jr vals[rs] else Dq
def Bi3(es:lg cM)(rs:lg Rd):De->M W:=if es.all noStar then Qq vals[rs] else Dq
def Bi4{j:Nat}(h:Il b X E a c):WE X (.Tuple a j d) tF[b][E][Bi2 a c]:=by
 unfold Bi2;split
 .rename_i e;exact Bl8[Rj h e]
 .exact Bw
def Bi5(h:Il b X E a c):WE X (.List a d) tF[b][E][Bi3 a c]:=by
 unfold Bi3;split
 .rename_i e;exact Bl9[Rj h e]
 .exact Bw
def Anf:lg o9[Rd]->lg Rd->o9 lg[(De->M W)×(De->M W)]
 |[],[]=>sr []
 |some k::ks,v::vs=>(Anf ks vs).map ((u6 k.val v.val)::·)
 |_,_=>sy
def Ax7(ks:lg o9[Rd])(vs:lg Rd):De->M W:=match Anf ks vs with
 |some l=>if decide[l.length<=15] then Mm l else Dq
 |none=>Dq
inductive Vl(Θ:Th)(X:Cx)(E:L2.St->XK):List (Option cM)->List (Option Rd)->Prop
 |nil:Vl Θ X E [] []
 |none {es:List (Option cM)} {rs:List (Option Rd)}:Vl Θ X E es rs->Vl Θ X E (sy::es) (sy::rs)
 |some {e:cM} {r:Rd} {es:List (Option cM)} {rs:List (Option Rd)}:N6 Θ X E e r->Vl Θ X E es rs->Vl Θ X E (sr e::es) (sr r::rs)
theorem Ang:∀{b:lg o9[cM]} {f:lg cM} {d:lg o9[Rd]} {c:lg Rd} {l:lg[(De->M W)×(De->M W)]},Vl e X E b d->Il e X E f c->Anf d c=Option.some l->
  WPs X pos b f (l.map λp=>(u6[tF e E p.1][tF e E p.2]))/\b.all (·.isSome)=t8/\b.length=f.length/\l.length=b.length
 |_,_,_,_,l,.nil,.nil,h=>by cases h;exact(⟨λq s n H Q I h=>pairTrees_nil_walk ([],H,I,.nil,h)⟩,rfl,rfl,rfl)
 |_,_,_,_,l,.nil,.cons _ _,h=>by cases h
 |_,_,_,_,l,.none _,_,h=>by unfold Anf at h;cases h
 |_,_,_,_,l,.some _ _,.nil,h=>by cases h
 |_,_,_,_,l,.some hk d,.cons hv c,h=>by
  unfold Anf at h;let(o,m,rfl):=bA.mp h;let(k,j,i,g):=Ang d c m;exact(Bb1 hk.val hv.val k,by rw[fG,j];rfl,by rw[bL,bL,i],by rw[bL,bL,g])
set_option tactic.hygienic true in
def Bdf(hk:Vl d X E a h)(hv:Il d X E c g):WE X (.Dict a c pos) tF[d][E][Ax7 h g]:=by
 unfold Ax7;split
 .rename_i l n;let(m,j,i,f):=Ang (pos:=pos) hk hv n;split
  .rename_i b;cases a with
   |nil=>
    cases c with
    |nil=>
     cases l with
     |nil=>exact Bim
     |cons p l=>trivial
    |cons e c=>trivial
   |cons k a=>exact Bin m j i (by simp) (by rw[<-f];exact dg b) f
  .exact Bw
 .exact Bw
def Bmn(Γ:Gm):cM->o9 lg[o8×o8]
 |.Name x _=>if !(x==("__debug__":o8))&&decide[Γ.sc.names.lookup x=sr .globalImplicit] then Γ.mdc x else sy
 |_=>sy
def subV(Γ:Gm)(a i:cM)(o r:Rd):De->M W:=match Bmn Γ a with
 |some D=>if Ar2 i then mdF D r.val else Dq
 |none=>match i with
  |.Slice _ _ sy _=>slF o.val r.lo r.hi
  |.Slice _ _ (sr _) _=>Dq
  |_=>ixF o.val r.val
set_option tactic.hygienic true in
def Bi6(G:h.Ok e X E)(g:N6 e X E a r)(d:N6 e X E b s):WE X (.Subscript a b i) tF[e][E][subV h a b r s]:=by
 unfold subV;split
 .rename_i D c;split
  .rename_i l;unfold Bmn at c;split at c
   .split at c
    .rename_i f;rw[aQ] at f;let(A,n,m):=G.mdc _ D c;exact Bov n m (by show X.env.scope.names.lookup _=_;rw[G.sc];exact dg f.2) (by simpa using f.1) d.val Bga[l]
    .cases c
   .cases c
  .exact Bw
 split
 .exact Bck G.hK g.val (d.lo _ _ _ rfl) (d.hi _ _ _ rfl)
 .exact Bw
 .rename_i k j;refine Boh G.hK G.hu g.val d.val Bga[?_];cases b <;> first|rfl|skip
  rename_i lo hi st p;cases st
  .exact(k _ _ _ rfl).elim
  .exact(j _ _ _ _ rfl).elim
def Ax8:o9 Rd->De->M o9[Int]
 |none=>Bs
 |some r=>Cw r.val
def Bi7(Γ:Gm)(o:cM)(f:o8)(r:Rd):De->M W:=if Akz o then Dy Γ.fld f r.val else Dq
def Bi8(G:b.Ok a X E)(d:N6 a X E o r):WE X (.Attribute o f c) tF[a][E][Bi7 b o f r]:=by
 unfold Bi7;split
 .rename_i h;exact Bmf G.hK G.fld d.val Afm[h]
 .exact Bw
end
section
def Bdg{n:Nat}(D:Xv X.K X.mg x df ps z fd)(F:Ke X.prog X.w X.K X.mg X.base CX n z fd ps (spF h s) C)(o:Ia n X.A C)(m:Ec CX X E)(hv:Ci _root_.D.Gv dv=sr g)(hd:Vals g B)(u:Binds X.K fd ps B)(v:WA X (a::b) (tFs h E y))(r:X.env.kindOf x=sr .globalImplicit)(f:(x==("__debug__":o8))=tu)(t:starEach (a::b) X.env=(u6 tu (eval a X.env))::starEach b X.env)(e:(backTo d (starEach b X.env)).any (·.1)=tu):
  WE[X][.Call (.Name x p) (a::b) [] d][tF h E Dg[λi=>s[i ++ dv]][y]]:=(WE.weak ⟨Ams F o r D.gl D.fn.kp u hd m v.un f t e⟩ λP H Q ⟨Z,S,Y,R,sl,q⟩=>by
 refine(Z,S,Y,R,sl,(Av.seq q).mono ?_);rintro T H1 ⟨G,J,i,p1,U,L,c,l⟩;exact(G,J,_,L,c.append M8[hv],l))
def Anh{n:Nat}(D:Xv X.K X.mg x L ps l fd)(F:Ke X.prog X.w X.K X.mg X.base CX n l fd ps (spF d s) o)(i:Ia n X.A o)(h:Ec CX X E)(hv:Ci _root_.D.Gv dv=sr c)(hd:Vals c m)(k:Binds X.K fd ps m)(j:X.env.kindOf x=sr .globalImplicit)(b:(x==("__debug__":o8))=tu):
  WE[X][.Call (.Name x p) [] [] g][tF d E Dg[λe=>s[e ++ dv]][nilF]]:=(⟨λN J B H Q I ⟨Z,S,Y,R,sl,q⟩=>by
 refine gZ[Aa7 I j D.gl ?_ b];refine mF I.kIn D.fn.kp (Abj F i k hd h I .nil ?_);let(r,u,e,p1,C,v,a,f):=Av.seq (Rel:=RVs d) q Z H [] aP[_] (Ck.refl _ _) R .nil;cases a;exact(r,u,dv,v,M8 hv,f)⟩)
def Bdh(Γ:Gm)(name:o8)(old:o9[De->M W])(f:De->M W)(gs:De->M lg[W]):De->M W:=match Γ.mn name,old with
 |true,sr g=>orM g (Bd Γ.mt name f gs)
 |true,sy=>Bd Γ.mt name f gs
 |false,sr g=>g
 |false,sy=>Dq
def Ar7(b:∀g,old=sr g->WE X e (tF a E g))(d:WE X e tF[a][E][Bd c.mt name h f]):WE X e tF[a][E][Bdh c name old h f]:=by
 unfold Bdh;split
 .exact Biu (b _ rfl) d
 .omega
 .exact b _ rfl
 .exact Bw
def Bgc(i:Fi)(c:Nat)(k:Nat)(gs:De->M lg[W]):De->M W:=if k+1=i.np then Dg (λws=>Ko c i.g ws) gs else if k+1+i.dv.length=i.np then Dg (λws=>Ko c i.g (ws ++ i.dv)) gs else Dq
def notName:cM->Bool
 |.Name _ _=>tu
 |_=>t8
def Ax9(Γ:Gm)(f:cM)(fr:Rd)(args:lg cM)(ars:lg Rd)(kws:lg iQ)(cpos:Pos):De->M W:=
 match kws with
 |_::_=>Dq
 |[]=>if !args.all noStar then Dq else match f with
  |.Name x _=>if x==("__debug__":o8)||decide[x=("__name__":o8)]||!decide (Γ.sc.names.lookup x=sr .globalImplicit) then Dq else
   match Γ.fn x with
   |some i=>if args.length=i.np then Dg i.g vals[ars] else if args.length+i.dv.length=i.np then Dg[λws=>i.g[ws ++ i.dv]][vals ars] else Dq
   |none=>match Γ.mkc x with
   |some (c,i)=>Bgc i c args.length vals[ars]
   |none=>if Γ.bi x&&!args.isEmpty then if x="isinstance" then Dg Aah[Γ.isa] vals[ars] else match Bcm x with
     |some g=>if Γ.calm then Dg g vals[ars] else Dq
     |none=>match Bcn x with
      |some g=>if Γ.calm then Dg g vals[ars] else Dq
      |none=>Dq
    else Dq
  |.Attribute o name ak=>if Akz o&&(ak.endLine==cpos.line) then
    match args with
    |[]=>Bdh Γ name sy fr.base nilF
    |_::_=>if decide[args.length < 30] then Bdh Γ name ((Bc3 notName[o] name).map λp=>Mv p.1 p.2 fr.base vals[ars]) fr.base vals[ars]
     else Dq
   else Dq
  |_=>Dq
def Aya(h:(a::d).all noStar=t8)(e:(a::d).length < 30):((backTo b (starEach (a::d) env)).all (λx=>!x.1)&&(backToKw b (keywordEach [] env)).all (λx=>x.1.isSome)&&decide[(a::d).length+([]:lg iQ).length+(if ([]:lg iQ).isEmpty then 0 else 1) < 30])=t8:=by
 rw[Anc h,aQ];exact(rfl,dm[by trivial])
set_option tactic.hygienic true in
def Ayb(G:Γ.Ok r X E)(hf:N6 r X E f fr)(B:Il r X E J ars):WE X (.Call f J kws cpos) tF[r][E][Ax9 Γ f fr J ars kws cpos]:=by
 unfold Ax9;split
 .exact Bw
 split
 .exact Bw
 rename_i s;let b:J.all noStar=t8:=by
  cases h:J.all noStar
  .rw[h] at s;exact(s rfl).elim
  .rfl
 let hv:=Rj B b;split
 .rename_i x np;split
  .exact Bw
  rename_i m;rw[fC,fC,not_or,not_or] at m;let((j,I),h3):=m;let j:=jK.mpr j;let I:=jK.mpr I;let d:X.env.kindOf x=sr .globalImplicit:=by
   show X.env.scope.names.lookup x=_;rw[G.sc];by_cases z:Γ.sc.names.lookup x=sr .globalImplicit
   .exact z
   .rw[dw z] at h3;exact(h3 rfl).elim
  split
  .rename_i i U;let(n,fa,fd,ps,df,cm,D,F,A,dvs,ds,v,u,t):=G.fn x i U;cases B with
   |nil=>
    split
    .exact WE.weak (Anh D F A G.ps (dv:=[]) rfl .nil D.bd d j) λσ H Q q=>by
      let e:(λL=>i.g[L ++ []])=i.g:=funext λL=>by rw[cH]
      rw[e];exact q
    .split
     .exact Anh D F A G.ps v u t d j
     .exact Bw
   |cons y w=>
    rw[fG,aQ] at b;split
    .exact Bhz D F A G.ps hv d j Kp[b.1] Hr[b.2]
    .split
     .exact Bdg D F A G.ps v u t hv d j Kp[b.1] Hr[b.2]
     .exact Bw
  .split
   .rename_i c i P;let(l,C):=G.mkc x c i P;unfold Bgc;cases B with
    |nil=>
     split
     .exact Ar1 (more:=false) C G.ps l d j
     .split
      .exact Ar1 (more:=true) C G.ps l d j
      .exact Bw
    |cons y w=>
     rw[fG,aQ] at b;split
     .exact Ax1 (more:=false) C G.ps l hv d j Kp[b.1] Hr[b.2]
     .split
      .exact Ax1 (more:=true) C G.ps l hv d j Kp[b.1] Hr[b.2]
      .exact Bw
   split
   .rename_i p;rw[aQ] at p;let l:=G.bi x p.1;cases B with
    |nil=>cases p.2
    |cons y w=>
    rw[fG,aQ] at b;split
    .rename_i hx;subst hx;refine WE.weak[kbi (At5 r.K G.hK) l (by rfl':bootBuiltins "isinstance"=sr .builtin["isinstance"]) hv d () () Kp[b.1] Hr[b.2]] λσ H Q ⟨Z,S,Y,R,sl,q⟩=>?_
     refine(Z,S,Y,R,sl,(Av.seq (Rel:=RVs r) q).mono ?_);rintro vs H1 ⟨Z1,S1,L,p1,t1,R1,N,q1⟩;exact Bou G.isa R1 N q1
    split
    .rename_i g hbi;split
     .rename_i hc;exact Boo G.hK G.calm[hc] hbi l hv d I j Kp[b.1] Hr[b.2]
     .exact Bw
    .split
     .rename_i g O;split
      .rename_i hc;exact Boq G.hK G.calm[hc] O l hv d I j Kp[b.1] Hr[b.2]
      .exact Bw
     .exact Bw
   .exact Bw
 .rename_i o name ak;split
  .rename_i m;rw[aQ] at m;let p:=hf.base _ _ _ rfl;split
   .exact Ar7[λuu d=>nomatch d][Bdc (λc i z=>G.mt c _ i z) G.ps p Afm[m.1] m.2]
   .rename_i a as;split
    .rename_i hl;let k:=b;rw[fG,aQ] at k;refine Ar7[λg d=>?_][Biv (λc i z=>G.mt c _ i z) G.ps p hv Afm[m.1] (Aya b dg[hl]) m.2 Kp[k.1] Hr[k.2]];let((T,op),l,rfl):=bA.mp d;exact Bos l p hv Afm[m.1] (Aya b dg[hl]) m.2 Kp[k.1] Hr[k.2]
    .exact Bw
  .exact Bw
 .exact Bw
def Afn(Γ:Gm)(f:cM)(args:lg cM)(ars:lg Rd)(kws:lg iQ)(d:De->M Src):De->M Src:=match f,kws with
 |.Name x _,[]=>if x="range"/\Γ.bi "range"=t8/\Γ.sc.names.lookup ("range":o8)=sr .globalImplicit/\args.all noStar=t8 then match args with
   |[_]=>Ii Fj vals[ars]
   |_=>Dq
  else d
 |_,_=>d
def Agv(Γ:Gm)(f:cM)(args:lg cM)(ars:lg Rd)(kws:lg iQ)(d:De->M Src):De->M Src:=match f,args,ars,kws with
 |.Name x _,[a,b],_,[]=>if x="zip"/\Γ.bi "zip"=t8/\Γ.sc.names.lookup ("zip":o8)=sr .globalImplicit/\noStar a=t8/\noStar b=t8 then Ana vals[ars] else d
 |.Name x _,[a],[r],[⟨sr k,.Constant (.int 1) _ _,_⟩]=>if x="enumerate"/\k="start"/\Γ.bi "enumerate"=t8/\Γ.sc.names.lookup ("enumerate":o8)=sr .globalImplicit/\noStar a=t8 then Axx r.val else d
 |.Name x _,[a],[r],[]=>if x="enumerate"/\Γ.bi "enumerate"=t8/\Γ.sc.names.lookup ("enumerate":o8)=sr .globalImplicit/\noStar a=t8 then Agr r.val else d
 |_,_,_,_=>d
set_option tactic.hygienic true in
def Ani{s:Nat}(G:t.Ok c X E)(l:Il c X E n o)(hd:WI[X][.Tuple j s e][.Call f n g k][tFi c E d]):WI[X][.Tuple j s e][.Call f n g k][tFi c E (Agv t f n o g d)]:=by
 unfold Agv;split
 .split
  .rename_i h;let(rfl,i,a,b,p):=h;let a:X.env.kindOf "zip"=sr .globalImplicit:=by show X.env.scope.names.lookup _=_;rw[G.sc];exact a
   exact Bmk[G.hK][G.bi _ i][Rj l (by rw[fG,b,fG,p];rfl)][a][Kp b][Hr (by rw[fG,p];rfl)]
  .exact hd
 .split
  .rename_i h;let(rfl,rfl,i,a,b):=h;let a:X.env.kindOf "enumerate"=sr .globalImplicit:=by show X.env.scope.names.lookup _=_;rw[G.sc];exact a
   cases l with|cons m _=>
   refine WI.weak[⟨Bby a (G.bi _ i) m.val.un Kp[b]⟩] λB H Q ⟨Z,S,Y,R,sl,q⟩=>?_;refine(Z,S,Y,R,sl,(Av.seq (Rel:=RV c) q).mono ?_);rintro v I ⟨D,F,w,p1,C,y,x,r⟩;cases x <;> first|exact(show False from r).elim|skip
   rename_i z;exact(z,rfl,Av.now (Rel:=Ac9 c) r y Axy[z])
  .exact hd
 .split
  .rename_i h;let(rfl,i,a,b):=h;let a:X.env.kindOf "enumerate"=sr .globalImplicit:=by show X.env.scope.names.lookup _=_;rw[G.sc];exact a
   cases l with|cons m _=>exact Bc9 G.hK (G.bi _ i) m.val a Kp[b]
  .exact hd
 .exact hd
def Agw(G:k.Ok c X E)(o:Il c X E i j)(hd:WI X l (.Call f i a b) (tFi c E d)):WI X l (.Call f i a b) tFi[c][E][Afn k f i j a d]:=by
 unfold Afn;split
 .split
  .rename_i h;let(rfl,n,g,e):=h;let m:=G.bi _ n;let g:X.env.kindOf "range"=sr .globalImplicit:=by show X.env.scope.names.lookup _=_;rw[G.sc];exact g
   let hv:=Rj o e;split
   .rw[fG,aQ] at e;exact Bif m hv g Kp[e.1]
   .exact Agt
  omega
 omega
def Ayc(Γ:Gm)(f:cM)(args:lg cM)(ars:lg Rd)(kws:lg iQ)(d:De->M W):De->M W:=match f,args,ars,kws with
 |.Name x _,[.Call (.Name y _) (a::es) [] _],[r],[]=>if (x="sorted"\/x="len")/\y="set"/\Γ.bi x=t8/\Γ.bi "set"=t8/\Γ.sc.names.lookup x=sr .globalImplicit/\Γ.sc.names.lookup ("set":o8)=sr .globalImplicit/\Γ.calm=t8/\(a::es).all noStar=t8 then Dg (if x="sorted" then K4 else W9) r.sv else d
 |_,_,_,_=>d
def Ayd(G:k.Ok g X E)(q:Il g X E i j)(hd:WE[X][.Call f i a c][tF g E d]):WE X (.Call f i a c) tF[g][E][Ayc k f i j a d]:=by
 unfold Ayc;split
 .split
  .rename_i h;let(p,rfl,b1,b2,o,n,l,b):=h;cases q with|cons m _=>
   rw[fG,aQ] at b;let e:∀x,k.sc.names.lookup x=sr .globalImplicit->X.env.kindOf x=sr .globalImplicit:=λx z=>by rw[<-z,<-G.sc];rfl
   rcases p with rfl|rfl
   .exact Bdb[G.calm l][G.bi _ b1][G.bi _ b2][e _ o][e _ n][m.sv _ _ _ _ rfl][Kp b.1][Hr b.2]
   .exact Bis[G.calm l][G.bi _ b1][G.bi _ b2][e _ o][e _ n][m.sv _ _ _ _ rfl][Kp b.1][Hr b.2]
  omega
 omega
def Aye(Γ:Gm)(f:cM)(fr:Rd)(args:lg cM)(ars:lg Rd)(kws:lg iQ)(cpos:Pos):Rd:=
 let v:=Ayc Γ f args ars kws (Ax9 Γ f fr args ars kws cpos)
 (v,Ce v,Dq,Dq,Dq,Afn Γ f args ars kws Ea[v],Agv Γ f args ars kws (Afn Γ f args ars kws Ea[v]),if args.all noStar then vals ars else Dq)
def Bdi(G:k.Ok d X E)(hf:N6 d X E f l)(c:Il d X E j i):N6 d X E (.Call f j kws cpos) (Aye k f l j i kws cpos):=by
 let h:=Ayd G c (Ayb (kws:=kws) (cpos:=cpos) G hf c);let b:∀g,WI X g _ (tFi d E Ea[_]):=λg=>by exact Am4 G.hK h
 exact(h,Axr h Ar4[rfl],λa a a a=>Bw,λa a a a=>Vk,λa a a a=>Vk,λg=>Agw G c b[g],λa a a=>Ani G c (Agw G c b[_]),λa a a a e=>by
  cases e;dsimp only[Aye];split
  .rename_i z;exact Rj c z
  .exact Agu)
def Aai(Γ:Gm)(x:o8):o9 Nat:=if Apw Γ.sc x&&(Γ.fnB||decide[Γ.sc.names.lookup x=sr .local]) then Aus x Γ.N else sy
def Afo{i:Nat}(G:b.Ok d X E)(h:Aai b x=sr i):X.N[i]?=sr x/\Apw X.env.scope x=t8/\(X.fn x||decide[X.env.scope.names.lookup x=sr .local])=t8:=by
 unfold Aai at h;split at h
 .rename_i a;rw[aQ,fC] at a;refine(by rw[G.N];exact Ak0 h,by rw[G.sc];exact a.1,?_)
  rw[fC];rcases a.2 with z|z
  .exact .inl[G.fnB z x]
  .exact .inr (by rw[G.sc];omega)
 trivial
def slotsOf(Γ:Gm):lg cM->o9 lg[Nat]
 |[]=>sr []
 |.Name x _::es=>match Aai Γ x,slotsOf Γ es with
  |some i,sr is=>sr (i::is)
  |_,_=>sy
 |_::_=>sy
set_option tactic.hygienic true in
def Ayf(G:g.Ok w X E){a:lg cM}:∀{is:lg Nat},slotsOf g a=sr is->PGs X a Agm[is]/\(assignEach a X.env).length=is.length/\(assignEach a X.env).findIdx? (·.1)=sy:=by
 induction a with
 |nil=>intro is h;cases h;exact(by
   intro A s f H y z Q I r h;let(e,h):=h;subst e;cases r;exact assignInOrder_nil (f,H,I,h),rfl,rfl)
 |cons e a p=>
  intro is h;unfold slotsOf at h;split at h
  .rename_i d;cases d
  .rename_i x np u d;cases d;split at h
   .rename_i i c t q;cases h;let(o,n,m):=p q;let(l,k,j):=Afo G t;refine(Av6 (Arl dm[G.nd] l k j).un o,?_,?_)
    .show (assignEach a X.env).length+1=c.length+1;rw[n]
    .show aAk (·.1) ((u6 tu assign[.Name x np][X.env])::assignEach a X.env)=sy;rw[List.findIdx?_cons];simp only[kZ,if_false,m,Option.map_none]
   .cases h
  .cases h
def tgt(Γ:Gm):cM->o9 Tg
 |.Name x _=>(Aai Γ x).map Br
 |.Tuple es _ _=>if Γ.calm then (slotsOf Γ es).map Ae6 else sy
 |_=>sy
def tgG(K:aD)(Γ:Gm):cM->TG
 |.Name x _=>Aa8 ((Aai Γ x).getD 0)
 |.Tuple es _ _=>Bky K ((slotsOf Γ es).getD []).length Agm[(slotsOf Γ es).getD []]
 |_=>Aa8 0
def Aaj(G:f.Ok d X E)(h:tgt f g=sr s):WG X g (tgG d.K f g)/\GOk d s (tgG d.K f g):=by
 unfold tgt at h;split at h
 .let(i,c,rfl):=bA.mp h;let(t,q,p):=Afo G c;simp only[tgG,c,xR];exact(Arl dm[G.nd] t q p,Am3 i)
 .split at h
  .rename_i F;let(is,c,rfl):=bA.mp h;let(y,x,w):=Ayf G c;simp only[tgG,c,xR];rw[<-G.hK];exact(⟨by
     intro m s k H v u Q I r j;let(a,n,L,C,D,j):=j;subst L;cases r;let(z,l,B,O):=I.tuple C;refine assign_Tuple_tuple I.ok.hd[G.calm[F]] B (by simp[x,<-D,l.length]) w λJ A=>?_
     let N:Inv X m k H { s with heap:=J }:=I.kept (t':=s.toks) λb o e=>A b o bZ[aU[e]] e
     exact y m _ k H n _ Q N (by simpa using l) j⟩,Aru is rfl)
  .cases h
 .cases h
def Anj(out sc:jR):jR:=
 { sc with names:=sc.names.map λ(n,k)=>if (k==.free&&out.kind==.function&&out.names.lookup n==sr .cell) then (u6 n .cell) else (u6 n k) }
def ownOf:cM->lg o8
 |.Name x _=>[x]
 |.Tuple es _ _=>es.filterMap λe=>match e with
  |.Name x _=>sr x
  |_=>sy
 |_=>[]
def Abl(N:lg o8)(sc:jR):lg Nat:=sc.names.filterMap λ(n,k)=>if k==.free then Aus n N else sy
def Gm.inner(Γ:Gm)(tg:cM)(sc:jR):Gm:={ Γ with N:=ownOf tg ++ (Abl Γ.N sc).map (λj=>Γ.N.getD j ""),sc:=Anj Γ.sc sc,fnB:=false,loops:=false }
theorem Gm.Ok.inner{a:Gm}{scope:jR}(G:a.Ok e X E)(nd:(a.inner b scope).N.Nodup)(C:aL)(s:aO)(H:Hp)(ex:lg aL):(a.inner b scope).Ok e (X.comp scope ownOf[b] (Abl a.N scope) C s H ex) E0s where
 hK:=G.hK
 hu:=G.hu
 N:=by
  show ownOf b ++ (Abl a.N scope).map (λj=>X.N.getD j "")=_;rw[G.N];rfl
 nd:=by
  show (ownOf b ++ (Abl a.N scope).map (λj=>X.N.getD j "")).Nodup;rw[G.N];exact nd
 sc:=by
  show relabel scope X.env=Anj a.sc scope;rw[<-G.sc];rfl
 fn:=λx g h=>G.fn x g h
 ps:=Bbu
 px:=λz=>nomatch z
 con:=G.con
 bi:=G.bi
 fld:=G.fld
 isa:=G.isa
 calm:=G.calm
 fnB:=λz=>by cases z
 mdc:=G.mdc
 mt:=λc m i h=>⟨(G.mt c m i h).ex⟩
 mkc:=λx c i h=>((G.mkc x c i h).1,⟨(G.mkc x c i h).2.ex⟩)
def Gm.Ok.innerX{a:Gm}{scope:jR}{xe:aG->aO->Prop}{e:L2.St->XK}(G:a.Ok f X E)(nd:(a.inner b scope).N.Nodup)(C:aL)(s:aO)(H:Hp)(ex:lg aL)(ps:Ec[CXo X.prog X.w][X.compX scope ownOf[b] (Abl a.N scope) C s H ex xe][e]):(a.inner b scope).Ok f (X.compX scope ownOf[b] (Abl a.N scope) C s H ex xe) e:=(
 let I:=G.inner nd C s H ex
 (I.hK,I.hu,I.N,I.nd,I.sc,I.fn,ps,λz=>(nomatch z),I.con,I.bi,I.fld,I.isa,I.calm,I.fnB,I.mdc,λc m i h=>⟨(I.mt c m i h).ex⟩,λx c i h=>((I.mkc x c i h).1,⟨(I.mkc x c i h).2.ex⟩)))
def Bow:cM->Bool
 |.Attribute _ _ _=>t8
 |_=>tu
def Ar8:cM->Bool
 |.Call (.Attribute _ _ _) _ _ _=>t8
 |_=>tu
def Ayg:lg Rd->De->M Bool
 |[]=>λuu=>pure t8
 |[r]=>r.tst
 |_=>Dq
theorem Vm:∀{g:lg cM} {f:lg Rd},Il i X E g f->WTs X g (tFb i E Ayg[f])
 |_,_,.nil=>⟨λe s d H Q I ⟨Z,S,Y,R,k,q⟩=>Bb3.un e s d H Q I (Av.now (Rel:=λj j a b=>a=b) q R rfl)⟩
 |_,_,.cons h .nil=>⟨λe s d H Q I q=>wpAny_tests_one[h.tst.un e s d H Q I q]⟩
 |_,_,.cons _ (.cons _ _)=>⟨λ_ _ _ _ _ _ ⟨_,_,_,_,_,q⟩=>gF q⟩
def Ayh(Γ:Gm)(tg iter:cM)(isa:Int)(sc:jR):Bool:=
 decide[isa=0]&&Γ.calm&&Aje iter&&decide (Γ.inner tg sc).N.Nodup&&decide[sc.kind=.function]&&sc.names.all[λy=>decide[y.2≠.cell]]&&
 (Abl Γ.N sc).all (λj=>match Γ.N[j]? with|some x=>decide[sc.names.lookup x=sr .free]|none=>tu)&&
 sc.names.all[λy=>!decide (y.2=.local)||decide[sc.names.lookup y.1=sr .local]]&&
 sc.names.all[λy=>!decide (y.2=.free)||(decide[Γ.sc.names.lookup y.1=sr .cell]||decide[Γ.sc.names.lookup y.1=sr .free])]
def Ak1(tg:cM)(r:Rd):De->M Src:=match tg with
 |.Tuple _ _ _=>r.srcT
 |_=>r.src
def Xd(h:N6 a X E e r):WI X b e tFi[a][E][Ak1 b r]:=by
 unfold Ak1;split
 .exact h.srcT _ _ _
 .exact h.src _
def Ank(Γ:Gm)(elt tg iter:cM)(isa:Int)(sc:jR)(ri re:Rd)(rt:lg Rd):De->M W:=
 if Ayh Γ tg iter isa sc then match tgt (Γ.inner tg sc) tg with
  |some s=>if Bow iter then Arx (ownOf tg).length (Abl Γ.N sc) ri.val s Ayg[rt] re.val else (if Γ.loops&&Ar8 elt&&!Akz iter then compX else Cv) (ownOf tg).length (Abl Γ.N sc) (Ak1 tg ri) s Ayg[rt] re.val
  |none=>Dq
 else Dq
def Abm{K:aD}{b:Gm}{s:Tg}(h:tgt b c=sr s):GOk d s (tgG K b c):=by
 unfold tgt at h;split at h
 .let(i,a,rfl):=bA.mp h;simp[tgG,a];exact Am3 i
 .split at h
  .let(is,a,rfl):=bA.mp h;simp[tgG,a];exact Aru is rfl
  trivial
 trivial
set_option tactic.hygienic true in
def Ayi{j:Gm}{a b:cM}{g:lg cM}{isa:Int}{scope:jR}{ri re:Rd}{rt:lg Rd}(G:j.Ok c X E)(hi:N6 c X E a ri)(m:∀h e,(j.inner k scope).Ok c h e->N6 c h e b re)(l:∀h e,(j.inner k scope).Ok c h e->Il c h e g rt):
  WE X (.ListComp b [(k,a,g,isa)] scope x) tF[c][E][Ank j b k a isa scope ri re rt]:=by
 unfold Ank;split
 .rename_i n;unfold Ayh at n;simp only[aQ] at n;let((((((((b1,b2),v),y),u),t),r),q),o):=n;obtain rfl:=dg b1;let nd:=dg y;split
  .rename_i s d;split
   .exact Axu G.calm[b2] G.sc ⟨Arp hi.val.un⟩ (λC f H ex=>(Aaj (G.inner nd C f H ex) d).1) Am9[Abm[d]] (λC s H ex=>Vm l[_][_][G.inner nd C s H ex]) (λC s H ex=>(m _ _ (G.inner nd C s H ex)).val) (by rw[G.N];exact r) dg[u] t q o Xb[v]
   split
   .rename_i w;rw[aQ,aQ] at w;exact Bc6 G.px[w.1.1] G.calm[b2] G.sc Xd[hi] (λC f H ex=>(Aaj (G.inner nd C f H ex) d).1) Abm[d] (λC s H ex=>Vm l[_][_][G.inner nd C s H ex]) (λC s H ex xe e p=>(m _ _ (G.innerX nd C s H ex p)).val) (by rw[G.N];exact r) dg[u] t q o Xb[v]
   refine Axu G.calm[b2] G.sc Xd[hi] (λC f H ex=>(Aaj (G.inner nd C f H ex) d).1) Am8[Abm[d]] (λC s H ex=>Vm l[_][_][G.inner nd C s H ex]) (λC s H ex=>(m _ _ (G.inner nd C s H ex)).val) (by rw[G.N];exact r) dg[u] t q o Xb[v]
  .exact Bw
 .exact Bw
end
def ifR(c a b:Rd):Rd:={ Rd.of[Am0 c.tst a.val b.val] with tst:=Dq }
def atR(Γ:Gm)(o:cM)(f:o8)(r:Rd):Rd:={ Rd.of[Bi7 Γ o f r] with base:=r.val }
def Bi9(lo hi:o9 Rd)(st:o9 cM):Rd:=match st with
 |none=>{ Rd.no with lo:=Ax8 lo,hi:=Ax8 hi }
 |some _=>Rd.no
mutual
def ev:cM->Gm->Rd
 |.Constant c _ _,Γ=>Rd.of Ax3[c]
 |.Name x _,Γ=>Rd.of (Ax5 Γ x)
 |.BinOp a op b _,Γ=>Rd.of Biw[op][ev a Γ][ev b Γ]
 |.UnaryOp op a _,Γ=>unR op (ev a Γ)
 |.BoolOp op vs _,Γ=>Bgb op (evs vs Γ)
 |.Compare a ops bs _,Γ=>Bi0 ops bs (ev a Γ) (evs bs Γ)
 |.IfExp c a b _,Γ=>ifR (ev c Γ) (ev a Γ) (ev b Γ)
 |.Tuple es _ _,Γ=>Rd.of Bi2[es][evs es Γ]
 |.List es _,Γ=>Rd.of Bi3[es][evs es Γ]
 |.Dict ks vs _,Γ=>Rd.of Ax7[Bja ks Γ][evs vs Γ]
 |.Call f args kws pos,Γ=>Aye Γ f (ev f Γ) args (evs args Γ) kws pos
 |.Attribute o f _,Γ=>atR Γ o f (ev o Γ)
 |.Subscript o i _,Γ=>Rd.of subV[Γ][o][i][ev o Γ][ev i Γ]
 |.Slice lo hi st _,Γ=>Bi9 (evo lo Γ) (evo hi Γ) st
 |.ListComp elt [⟨tg,iter,ifs,isa⟩] sc _,Γ=>Rd.of (Ank Γ elt tg iter isa sc (ev iter Γ) ev[elt][Γ.inner tg sc] evs[ifs][Γ.inner tg sc])
 |_,_=>Rd.no
def evs:lg cM->Gm->lg Rd
 |[],_=>[]
 |e::es,Γ=>ev e Γ::evs es Γ
def evo:o9 cM->Gm->o9 Rd
 |none,_=>sy
 |some e,Γ=>sr[ev e Γ]
def Bja:lg o9[cM]->Gm->lg o9[Rd]
 |[],_=>[]
 |e::es,Γ=>evo e Γ::Bja es Γ
end
section
mutual
theorem Fw:∀(e:cM)(d:Gm)(X:Cx)(E:L2.St->XK),d.Ok v X E->N6 v X E e (ev e d)
 |.Constant c _ _,d,X,E,G=>Qp G.hK Ax4 rfl
 |.Name x _,d,X,E,G=>Qp G.hK Bdd[G] rfl
 |.BinOp a u b _,d,X,E,G=>Qp G.hK Bix[G][Fw a d X E G][Fw b d X E G] rfl
 |.UnaryOp u a _,d,X,E,G=>Bmm G (Fw a d X E G)
 |.BoolOp u l _,d,X,E,G=>Bde G (Qh l d X E G)
 |.Compare a y bs _,d,X,E,G=>Bi1 G (Fw a d X E G) (Qh bs d X E G)
 |.IfExp c a b _,d,X,E,G=>Xc G.hK (Bog (Fw c d X E G).tst (Fw a d X E G).val (Fw b d X E G).val) Aqa
 |.Tuple n _ _,d,X,E,G=>Qp G.hK Bi4[Qh n d X E G] rfl
 |.List n _,d,X,E,G=>Qp G.hK Bi5[Qh n d X E G] rfl
 |.Dict A l _,d,X,E,G=>Qp G.hK Bdf[Ak2 A d X E G][Qh l d X E G] rfl
 |.Call f k z w,d,X,E,G=>Bdi G (Fw f d X E G) (Qh k d X E G)
 |.Attribute o f _,d,X,E,G=>
  let h:=Fw o d X E G;let r:=Qp G.hK (Bi8 (f:=f) G h) rfl
  (r.val,r.tst,λg g g e=>by cases e;exact h.val,r.lo,r.hi,r.src,r.srcT,r.sv)
 |.Subscript o i _,d,X,E,G=>Qp G.hK Bi6[G][Fw o d X E G][Fw i d X E G] rfl
 |.Slice lo hi sy _,d,X,E,G=>(Bw,Aqa,λg g g g=>Bw,λg g g e=>by cases e;exact Ayj lo d X E G,λg g g e=>by cases e;exact Ayj hi d X E G,λg=>Agt,λg g g=>Agt,λg g g g g=>Agu)
 |.Slice _ _ (sr _) _,_,_,_,_=>Jm
 |.ListComp elt [⟨tg,iter,ifs,isa⟩] sc _,d,X,E,G=>Qp G.hK Ayi[G][Fw iter d X E G][λq t s=>Fw elt _ q t s][λq t s=>Qh ifs _ q t s] rfl
 |.ListComp _ [] _ _,_,_,_,_=>Jm
 |.ListComp _ (⟨_,_,_,_⟩::_::_) _ _,_,_,_,_=>Jm
 |.NamedExpr _ _ _,_,_,_,_=>Jm
 |.Lambda _ _ _ _,_,_,_,_=>Jm
 |.Set _ _ _,_,_,_,_=>Jm
 |.SetComp _ _ _ _,_,_,_,_=>Jm
 |.DictComp _ _ _ _ _,_,_,_,_=>Jm
 |.GeneratorExp _ _ _ _,_,_,_,_=>Jm
 |.Await _ _,_,_,_,_=>Jm
 |.Yield _ _,_,_,_,_=>Jm
 |.YieldFrom _ _,_,_,_,_=>Jm
 |.FormattedValue _ _ _ _,_,_,_,_=>Jm
 |.JoinedStr _ _,_,_,_,_=>Jm
 |.Starred _ _,_,_,_,_=>Jm
theorem Qh:∀(b:lg cM)(a:Gm)(X:Cx)(E:L2.St->XK),a.Ok d X E->Il d X E b (evs b a)
 |[],_,_,_,_=>.nil
 |e::b,a,X,E,G=>.cons[Fw e a X E G][Qh b a X E G]
theorem Ayj:∀(e:o9 cM)(a:Gm)(X:Cx)(E:L2.St->XK),a.Ok b X E->WO X e (tFo b E Ax8[evo e a])
 |none,_,_,_,_=>Axf
 |some e,a,X,E,G=>Bh7 (Fw e a X E G).val
theorem Ak2:∀(b:lg o9[cM])(a:Gm)(X:Cx)(E:L2.St->XK),a.Ok d X E->Vl d X E b (Bja b a)
 |[],_,_,_,_=>.nil
 |none::b,a,X,E,G=>.none (Ak2 b a X E G)
 |some e::b,a,X,E,G=>.some[Fw e a X E G][Ak2 b a X E G]
end
end
structure Gm.SOk(Θ:Th)(Γ:Gm)(X:Cx)(E:L2.St->XK):Prop where
 g:Γ.Ok Θ X E
 hp:Γ.loops=t8->xG (model X.prog X.w) X.A X.env X.xe
 hf:∀x,X.fn x=t8
def Jf:MS:=λuu uu=>.bad
section
def Cd{Θ:Th}{X:Cx}{E:L2.St->XK}{st:cQ}:WS X st (tS Θ E Jf):=⟨λ_ _ _ _ _ _ ⟨_,_,_,_,_,q⟩=>gF q⟩
def Bdj:WS X .Pass[pos] (tS Θ E Aj):=WS.weak ⟨λuu uu σ H uu I h=>wpAny_Pass (σ,H,I,h)⟩ λD σ H ⟨Z,S,Y,R,sl,q⟩=>q.nxt R sl
def Bgd(Γ:Gm)(sc:jR)(vp:Pos)(x:o8)(p:Pos):Bool:=((if Γ.sc.kind.isAnnotationScope then .function else Γ.sc.kind)==.function)&&(Γ.sc.names.lookup x==sr .local)&&p.line==vp.line&&!(sc.names.any λ(n,k)=>n==x&&(k==.local||k==.cell))
def Ayk{n:Nat}(G:b.Ok d X E):swapsWith (.ListComp elt gs sc vp) sr[.Name x p] n X.env=pure[Bgd b sc vp x p]:=by
 show pure _=_;unfold Env.blockKind Env.kindOf;rw[G.sc];rfl
def Ak3:cM->Bool
 |.ListComp e [_] _ _=>!Ar8 e
 |_=>tu
set_option tactic.hygienic true in
def Anl(h:Ak3 v=t8):∃b f a d isa sc e,v=.ListComp b [(f,a,d,isa)] sc e/\Ar8 b=tu:=by
 unfold Ak3 at h;split at h
 .rename_i b c sc e;let(f,a,d,isa):=c;exact(b,f,a,d,isa,sc,e,rfl,by simpa using h)
 trivial
def Bjb(Γ:Gm)(ts:lg cM)(v:cM)(rv:Rd):MS:=match ts with
 |[.Name x _]=>if Aky v||Ak3 v then match Aai Γ x with
   |some i=>Bq i rv.val
   |none=>Jf
  else Jf
 |[.Tuple es j p]=>match v,tgt Γ (.Tuple es j p) with
  |.Call _ _ _ _,sr t=>Bmh t rv.val
  |_,_=>Jf
 |[.Subscript o i _]=>Ij (ev o Γ).val (ev i Γ).val rv.val
 |[.Attribute o f _]=>Gh Γ.fld f (ev o Γ).val rv.val
 |_=>Jf
def Anm{Θ:Th}{X:Cx}{E:L2.St->XK}{st:cQ}{i:Nat}:WS X st tS[Θ][E][Bq i Dq]:=⟨λ_ _ _ _ _ _ ⟨_,_,_,_,_,q⟩=>gF q⟩
set_option tactic.hygienic true in
def Bdk{i:Nat}{isa:Int}(G:d.SOk w X E)(z:Ar8 b=tu)(hi:Aai d x=sr i)(e:swapsWith (.ListComp b [(f,a,c,isa)] scope y) sr[.Name x np] k.line X.env=pure t8):
  WS X .Assign[[.Name x np]][.ListComp b [(f,a,c,isa)] scope y][k] (tS w E Bq[i][Ank d b f a isa scope (ev a d) ev[b][d.inner f scope] evs[c][d.inner f scope]]):=by
 let(o,n,m):=Afo G.g hi;unfold Ank;simp[z];split
 .rename_i l;unfold Ayh at l;simp only[aQ] at l;let((((((((b1,b2),v),A),u),t),r),q),p):=l;obtain rfl:=dg b1;let nd:=dg A;split
  .rename_i s h;let hi:=Fw a d X E G.g;split
   .exact Ar0 G.g.calm[b2] G.g.sc ⟨Arp hi.val.un⟩ (λC j H ex=>(Aaj (G.g.inner nd C j H ex) h).1) Am9[Abm[h]] (λC s H ex=>Vm[Qh c _ _ _ (G.g.inner nd C s H ex)]) (λC s H ex=>(Fw b _ _ _ (G.g.inner nd C s H ex)).val) (by rw[G.g.N];exact r) dg[u] t q p Xb[v]
     (Arl dm[G.g.nd] o n m) e
   exact Ar0 G.g.calm[b2] G.g.sc Xd[hi] (λC j H ex=>(Aaj (G.g.inner nd C j H ex) h).1) Am8[Abm[h]] (λC s H ex=>Vm[Qh c _ _ _ (G.g.inner nd C s H ex)]) (λC s H ex=>(Fw b _ _ _ (G.g.inner nd C s H ex)).val) (by rw[G.g.N];exact r) dg[u] t q p Xb[v]
    (Arl dm[G.g.nd] o n m) e
  .exact Anm
 .exact Anm
set_option tactic.hygienic true in
def Bdl(G:a.SOk m X E):WS X (.Assign o v e) tS[m][E][Bjb a o v (ev v a)]:=by
 let hv:=Fw v a X E G.g;unfold Bjb;split
 .rename_i x np;split
  .rename_i k;split
   .rename_i i hi;let(j,h,u):=Afo G.g hi;by_cases d:Aky v=t8
    .exact Axj hv.val dm[G.g.nd] j h Ar3[d] G.hf[_]
    .rw[fC] at k;let(elt,q,b,f,isa,sc,vp,rfl,s):=Anl k.resolve_left[d];let c:=Ayk (elt:=elt) (gs:=[(q,b,f,isa)]) (sc:=sc) (vp:=vp) (p:=np) (x:=x) (n:=e.line) G.g;cases l:Bgd a sc vp x np with
     |false=>rw[l] at c;exact Axj hv.val dm[G.g.nd] j h c G.hf[_]
     |true=>rw[l] at c;exact Bdk G s hi c
   .exact Cd
  .exact Cd
 .split
  .rename_i r;let(d,t):=Aaj G.g r;exact Bik hv.val d t rfl rfl rfl
  .exact Cd
 .exact Bc5 G.g.hu (Fw _ a X E G.g).val (Fw _ a X E G.g).val hv.val (by cases v <;> rfl)
 .exact Bij G.g.hK G.g.fld (Fw _ a X E G.g).val hv.val (by cases v <;> rfl)
 .exact Cd
def Bjc(Γ:Gm)(tg iter:cM)(b:MS):MS:=if Γ.calm&&Aje iter&&Γ.loops then match tgt Γ tg with
  |some s=>Mu Ak1[tg][ev iter Γ] s b
  |none=>Jf
 else Jf
set_option tactic.hygienic true in
def Bdm(G:e.SOk d X E)(j:WSs X body (tS d E b)):WS X (.For f a body [] h) tS[d][E][Bjc e f a b]:=by
 unfold Bjc;split
 .rename_i c;rw[aQ,aQ] at c;split
  .rename_i s i;let(w,k):=Aaj G.g i;exact Bie G.hp[c.2] G.g.hK G.g.calm[c.1.1] Xd[Fw _ e X E G.g] w k j Xb[c.1.2]
  .exact Cd
 .exact Cd
end
def Box(Γ:Gm):o9 cM->MS
 |some e=>retS (ev e Γ).val
 |none=>Jf
def Bjd(m:MS):lg cQ->MS
 |[]=>m
 |_::_=>Jf
def Gm.inTry(Γ:Gm):Gm:={ Γ with loops:=false }
theorem Gm.SOk.inTry{a:Th}{X:Cx}{E e:L2.St->XK}{b:Gm}{pn:lg[aL×o7]}{xe:aG->aO->Prop}(G:b.SOk a X E)(hp:Ec[CXo X.prog X.w][X.tryB pn xe][e]):b.inTry.SOk a (X.tryB pn xe) e where
 g:={ hK:=G.g.hK,hu:=G.g.hu,N:=G.g.N,nd:=G.g.nd,sc:=G.g.sc,fn:=G.g.fn,ps:=hp,px:=λz=>(nomatch z),con:=G.g.con,bi:=G.g.bi,fld:=G.g.fld,isa:=G.g.isa,calm:=G.g.calm,fnB:=G.g.fnB,mdc:=G.g.mdc,mt:=λc m i h=>⟨(G.g.mt c m i h).ex⟩,mkc:=λx c i h=>((G.g.mkc x c i h).1,⟨(G.g.mkc x c i h).2.ex⟩) }
 hp:=λz=>by cases z
 hf:=G.hf
def Ayl(Γ:Gm)(e:cM):MS:=if Aky e then Hy (ev e Γ).val else Jf
mutual
def evS:cQ->Gm->MS
 |.Return e _,Γ=>Box Γ e
 |.Assign ts v _,Γ=>Bjb Γ ts v (ev v Γ)
 |.If c A B _,Γ=>ifS (ev c Γ).tst (Bk A Γ) (Bk B Γ)
 |.Try body [.ExceptHandler (sr _) sy _ _] [] [] _,Γ=>Agq (Bk body Γ.inTry)
 |.For tg it b els _,Γ=>Bjd (Bjc Γ tg it (Bk b Γ)) els
 |.Expr e _,Γ=>Ayl Γ e
 |.Pass _,_=>Aj
 |_,_=>Jf
def Bk:lg cQ->Gm->MS
 |[],_=>Aj
 |s::ss,Γ=>Ad[evS s Γ][Bk ss Γ]
end
section
mutual
theorem Bje:∀(st:cQ)(a:Gm)(X:Cx)(E:L2.St->XK),a.SOk d X E->WS X st tS[d][E][evS st a]
 |.Return (sr e) _,a,X,E,G=>Bib (Fw e a X E G.g).val
 |.Return sy _,_,_,_,_=>Cd
 |.Assign f v _,a,X,E,G=>Bdl G
 |.If c A B _,a,X,E,G=>Bme (Fw c a X E G.g).tst (Xe A a X E G) (Xe B a X E G)
 |.While _ _ _ _,_,_,_,_=>Cd
 |.For i j b [] _,a,X,E,G=>Bdm G (Xe b a X E G)
 |.For _ _ _ (_::_) _,_,_,_,_=>Cd
 |.Expr e _,a,X,E,G=>by
  show WS X _ tS[d][E][Ayl a e];unfold Ayl;split
  .rename_i h;exact Bcr (Fw e a X E G.g).val Ar3[h]
  .exact Cd
 |.Raise _ _ _,_,_,_,_=>Cd
 |.Pass _,_,_,_,_=>Bdj
 |.Break _,_,_,_,_=>Cd
 |.Continue _,_,_,_,_=>Cd
 |.FunctionDef _ _ _ _ _ _ _ _ _ _,_,_,_,_=>Cd
 |.AsyncFunctionDef _ _ _ _ _ _ _ _ _ _,_,_,_,_=>Cd
 |.ClassDef _ _ _ _ _ _ _ _ _ _ _,_,_,_,_=>Cd
 |.Delete _ _,_,_,_,_=>Cd
 |.TypeAlias _ _ _ _ _ _ _,_,_,_,_=>Cd
 |.AugAssign _ _ _ _,_,_,_,_=>Cd
 |.AnnAssign _ _ _ _ _,_,_,_,_=>Cd
 |.AsyncFor _ _ _ _ _,_,_,_,_=>Cd
 |.With _ _ _,_,_,_,_=>Cd
 |.AsyncWith _ _ _,_,_,_,_=>Cd
 |.Match _ _ _,_,_,_,_=>Cd
 |.Try _ [] _ _ _,_,_,_,_=>Cd
 |.Try _ (.ExceptHandler sy _ _ _::_::_) _ _ _,_,_,_,_=>Cd
 |.Try _ (.ExceptHandler (sr _) sy _ _::_::_) _ _ _,_,_,_,_=>Cd
 |.Try _ (.ExceptHandler (sr _) (sr _) _ _::_::_) _ _ _,_,_,_,_=>Cd
 |.Try _ [.ExceptHandler sy _ _ _] _ _ _,_,_,_,_=>Cd
 |.Try body [.ExceptHandler (sr _) sy _ _] [] [] _,a,X,E,G=>Bc8 λpn xe l hp=>Xe body _ _ _ G.inTry[hp]
 |.Try _ [.ExceptHandler (sr _) sy _ _] (_::_) _ _,_,_,_,_=>Cd
 |.Try _ [.ExceptHandler (sr _) sy _ _] [] (_::_) _,_,_,_,_=>Cd
 |.Try _ [.ExceptHandler (sr _) (sr _) _ _] _ _ _,_,_,_,_=>Cd
 |.TryStar _ _ _ _ _,_,_,_,_=>Cd
 |.Assert _ _ _,_,_,_,_=>Cd
 |.Import _ _,_,_,_,_=>Cd
 |.ImportFrom _ _ _ _,_,_,_,_=>Cd
 |.Global _ _,_,_,_,_=>Cd
 |.Nonlocal _ _,_,_,_,_=>Cd
theorem Xe:∀(b:lg cQ)(a:Gm)(X:Cx)(E:L2.St->XK),a.SOk d X E->WSs X b tS[d][E][Bk b a]
 |[],_,_,_,_=>Bia
 |s::e,a,X,E,G=>Bcq[Bje s a X E G][Xe e a X E G]
end
end
structure Md where
 con:o8->Option W
 bi:o8->Bool
 isa:Nat->W->Option Bool
 fld:Bool->Nat->o8->Bool
 mdc:o8->Option (List (o8×o8))
 mn:o8->Bool:=λuu=>tu
 mkl:o8->Option Nat:=λuu=>sy
def Md.gm(m:Md)(T:lg[o8×Fi])(N:lg o8)(sc:jR)(U:lg[(Nat×o8)×Fi]:=[]):Gm:=
 { N:=N,sc:=sc,fn:=λx=>T.lookup x,con:=m.con,bi:=m.bi,isa:=m.isa,fld:=m.fld,calm:=true,fnB:=true,mdc:=m.mdc,loops:=true,mt:=λc n=>U.lookup[u6 c n],mn:=m.mn,mkc:=λx=>(m.mkl x).bind λc=>(U.lookup[u6 c ("__init__":o8)]).map λi=>(u6 c i) }
structure Md.Ok(Θ:Th)(m:Md)(K:aD)(mg:o8->Option aG):Prop where
 hK:K=Θ.K
 con:∀x w,m.con x=sr w->∃v u,(∀Z H,RV Θ Z H w v)/\RelV v u/\(mg x=sr u\/(mg x=sy/\bootBuiltins x=sr u))
 bi:∀x,m.bi x=t8->mg x=sy
 fld:FOk Θ m.fld
 isa:Ary Θ m.isa
 mdc:∀x D,m.mdc x=sr D->∃a,Aur K a D/\mg x=sr (.ref a)
 mkl:∀x c,m.mkl x=sr c->mg x=sr (.ref (Θ.cl c))/\jC K (Θ.cl c)=t8/\eG K (.ref (Θ.cl c))=t8
def Tbl(Θ:Th)(P:cF)(w:dG)(K:aD)(mg:o8->o9 aG)(base:dY)(k:Nat)(T:lg[o8×Fi]):Prop:=
 ∀x i,T.lookup x=sr i->∃(fa:aL)(fd:eU)(ps:lg o8)(df:cQ),Xv K mg x df ps fa fd/\Ke P w K mg base (CXo P w) k fa fd ps (spF Θ i.g) t8/\∃dvs ds,Ci D.Gv i.dv=sr dvs/\Vals dvs ds/\Binds K fd ps ds
def MTb(Θ:Th)(P:cF)(w:dG)(K:aD)(mg:o8->o9 aG)(base:dY)(k:Nat)(U:lg[(Nat×o8)×Fi]):Prop:=
 ∀c n i,U.lookup[u6 c n]=sr i->∃(fa:aL)(fd:eU)(ps:lg o8),Cls K Θ.cl[c]/\Meth K Θ.cl[c] n fa/\Ke P w K mg base (CXo P w) k fa fd ps (spF Θ i.g) t8/\Binds K fd ps []/\∃dvs ds,Ci D.Gv i.dv=sr dvs/\Vals dvs ds/\Binds K fd ps ds
section
variable{Θ:Th}{P:cF}{w:dG}{K:aD}{mg:o8->o9 aG}{base:dY}{m:Md}{T:lg (o8×Fi)}{U:lg ((Nat×o8)×Fi)}{k j:Nat}
def Tbl.nil:Tbl Θ P w K mg base k []:=(λx i h=>by cases h)
def MTb.nil:MTb Θ P w K mg base k []:=(λc n i h=>by cases h)
theorem Tbl.body(J:Tbl Θ P w K mg base k T)(t:MTb Θ P w K mg base k U)(M:m.Ok Θ K mg)(nd:N.Nodup)(l:Ia (k+1) A.deeper[envOfC u sc s.heap.objs.size f d] t8):
  (m.gm T N sc U).SOk Θ (Ac1 (CXo P w) P w K mg base N u sc f d A outer s H E t8) (λa=>E) where
 g:={
  hK:=M.hK
  hu:=by have:=l.un;show (A.deeper[envOfC u sc s.heap.objs.size f d]).units+64 < cLine;omega
  N:=rfl
  nd:=nd
  sc:=rfl
  fn:=λx i h=>by
   let(b,fd,ps,Z,D,F,z):=J x i h;exact(k,b,fd,ps,Z,t8,D,F,l.mono gU[k],z)
  ps:=by
    intro aa σ H s e s' I h;let(Y,cls,H',o,rfl,F,G,q):=h;exact I.fly_on rfl rfl rfl F G λX F' r=>(Y,cls,H',o,rfl,F',r,q)
  px:=λa=>(rfl,rfl,rfl,Awl)
  con:=M.con
  bi:=M.bi
  fld:=M.fld
  isa:=M.isa
  calm:=λa=>rfl
  fnB:=λa a=>rfl
  mdc:=M.mdc
  mt:=λc n i h=>by
   let(b,fd,ps,C,p,F,z):=t c n i h;exact(k,b,fd,ps,t8,C,p,F,l.mono gU[k],z)
  mkc:=λx c i h=>by
   let(c',S,Q):=rM.mp h;let(i',O,L):=bA.mp Q;cases L;let(B,y,v):=M.mkl x c S;let(b,fd,ps,C,p,F,z):=t c _ i O;exact(B,k,b,fd,ps,t8,(y,p.at_,p.fn,v),F,l,z) }
 hp:=λa=>Aup
 hf:=λa=>rfl
def Tbl.up(a:Tbl Θ P w K mg base k T):Tbl Θ P w K mg base (k+2) T:=(λx i h=>by
 let(b,fd,ps,c,D,F,z):=a x i h;exact(b,fd,ps,c,D,F.mono[by simp],z))
def MTb.up(b:MTb Θ P w K mg base k U):MTb Θ P w K mg base (k+2) U:=(λc n i h=>by
 let(d,fd,ps,C,a,F,z):=b c n i h;exact(d,fd,ps,C,a,F.mono[by simp],z))
def Tbl.fnM{h g:o8}{st:cQ}{N ps:lg o8}{f:aL}{fd:eU}{b:MS}(n:Tbl Θ P w K mg base k T)(l:MTb Θ P w K mg base k U)(M:m.Ok Θ K mg)(F:Fun K h g st f fd)(c:Hn N ps Ac[st])(e:Bk[Ah st][m.gm T N Ac[st] U]=b):Ke P w K mg base (CXo P w) (k+2) f fd ps spF[Θ][Bj ps.length N.length b] t8:=by
 refine Bmg F c λo A outer s H E i=>?_;rw[<-e];exact Xe _ _ _ _ (n.body l M c.nd i)
def Tbl.fn{x:o8}{st:cQ}{N ps:lg o8}{f:aL}{fd:eU}{b:MS}(hT:Tbl Θ P w K mg base k T)(hU:MTb Θ P w K mg base k U)(M:m.Ok Θ K mg)(D:Xv K mg x st ps f fd)(Sc:Hn N ps Ac[st])(e:Bk[Ah st][m.gm T N Ac[st] U]=b):Ke P w K mg base (CXo P w) (k+2) f fd ps spF[Θ][Bj ps.length N.length b] t8:=hT.fnM hU M D.fn Sc e
def Tbl.cons{x:o8}{st:cQ}{N ps:lg o8}{f:aL}{fd:eU}{b:MS}{dv:lg W}{c:lg V}{g:lg aG}(n:Tbl Θ P w K mg base k T)(p:MTb Θ P w K mg base k U)(M:m.Ok Θ K mg)(D:Xv K mg x st ps f fd)(q:Hn N ps Ac[st])(hv:Ci _root_.D.Gv dv=sr c)(hd:Vals c g)(o:Binds K fd ps g)(e:Bk[Ah st][m.gm T N Ac[st] U]=b):Tbl Θ P w K mg base (k+2) ((u6 x (Bj ps.length N.length b,ps.length,dv))::T):=(λy i h=>by
 rw[dM] at h;split at h
 .rename_i d;let d:=by simpa using d
  subst d;cases h;exact(f,fd,ps,st,D,n.fn p M D q e,c,g,hv,hd,o)
 .exact n.up y i h)
def MTb.cons{c:Nat}{n u t:o8}{st:cQ}{N ps:lg o8}{f:aL}{fd:eU}{b:MS}{dv:lg W}{d:lg V}{o:lg aG}(r:MTb Θ P w K mg base k U)(y:Tbl Θ P w K mg base k T)(M:m.Ok Θ K mg)(C:Cls K Θ.cl[c])(v:Meth K Θ.cl[c] n f)(F:Fun K u t st f fd)(z:Hn N ps Ac[st])(g:Binds K fd ps [])(hv:Ci _root_.D.Gv dv=sr d)(hd:Vals d o)(x:Binds K fd ps o)(e:Bk[Ah st][m.gm T N Ac[st] U]=b):MTb Θ P w K mg base (k+2) ((u6 (u6 c n) (Bj ps.length N.length b,ps.length,dv))::U):=(λs q i h=>by
 rw[dM] at h;split at h
 .rename_i l;let l:(u6 s q)=(u6 c n):=by simpa using l
  cases l;cases h;exact(f,fd,ps,C,v,y.fnM r M F z e,g,d,o,hv,hd,x)
 .exact r.up s q i h)
end
def Aym(K:aD)(cl:Nat->aL)(xf:Nat->o9 o8):Th:=(K,cl,xf,λuu=>t8)
def Ayn(K:aD):Sp:=λvs H Q uu=>∃(l:aL)(ns:lg Int),vs=[.ref l]/\Scr (Aym K (λuu=>0) λuu=>sy) H l ns/\ns.length<=63/\∀H',Q .bl[t8] H'
def Bjf{xf:Nat->o9 o8}{P:cF}{w:dG}{K:aD}{mg:o8->o9 aG}{base:dY}{k:Nat}{f:aL}{fd:eU}{x:o8}{cl:Nat->aL}{g:lg W->M W}(m:∀ns:lg Int,ns.length<=63->∃o,g [.scr ns] []=.ok .bl[t8] o)(h:Ke P w K mg base (CXo P w) k f fd [x] spF[Aym K cl xf][g]):Ke P w K mg base (CXo P w) k f fd [x] Ayn[K]:=by
 refine(λp H Q E z=>?_,λA outer s H b r p Q E u B C hv z=>?_)
 .let(l,ns,rfl,_):=z;rfl
 .let(l,ns,rfl,sc,y,q):=z;let(o,e):=m ns y;refine h.run A outer s H b r _ Q E u B C hv ([],[],[.scr ns],(rfl,lM,λn a c h=>by simp at h),.cons .scr[sc] .nil,?_)
  rw[e];intro I F v p1 G J t;cases t;exact q F
def Ayo{l:sZ}{k:Nat}{q:cF}{loose:lg o8}{XP:(o8->o9 aG)->dY->Prop}{g:dG->dY->Prop}{d:DefRec}{K:Params->aD}{x:o8}(n:l.most=sr 63)(c:d.params.defaults=[])(m:Ia k callerA)(r:∀(w:dG)(h:dY),g w h->(K w.params).In h)(F:∀(w:dG)(mg:o8->o9 aG)(e:aL)(h:dY),(K w.params).In h->h.Ns mainGlobals mg->mg d.name=sr .ref[e]->
   ∃fd:eU,(∀(s:aO)(u:aG),wB s fd ([u],[]) [(x,u)])/\∀base:dY,(K w.params).In base->base.Ns mainGlobals mg->Ke l.prog w K[w.params] mg base (CXo l.prog w) k e fd [x] Ayn[K[w.params]]):
  aAd q loose XP g l.row.toRowW d [] (λf j=>zL f j):=(
 L2.Bbn n () c m r F (λw H a ns p v t=>(a,ns,rfl,by
  rcases t with (h|h)|h
  .rcases v a with z|⟨o,A,z⟩
   .simp_all
   simp_all
  .exact .inl h
  .exact .inr h,p,λB=>rfl)) λ_ _ _ _ _ ⟨_,_,_,_,_,_,_,z⟩=>z)
def AllP{α:Type}(P:o8->α->Prop):lg[o8×α]->Prop
 |[]=>True
 |p::l=>P p.1 p.2/\AllP P l
theorem AllP.at{d:Type}{P:o8->d->Prop}:∀{L:lg[o8×d]},AllP P L->∀x a,L.lookup x=sr a->P x a
 |[],_,x,a,h=>by cases h
 |(y,b)::l,hp,x,a,h=>by
  rw[dM] at h;split at h
  .rename_i e;let e:=by simpa using e
   subst e;cases h;exact hp.1
  .exact AllP.at hp.2 x a h
def AllB(P:o8->Prop):lg o8->Prop
 |[]=>True
 |p::l=>P p/\AllB P l
theorem AllB.at:∀{L:lg o8},AllB P L->∀x,L.contains x=t8->P x
 |[],_,x,h=>by trivial
 |y::l,hp,x,h=>by
  rw[List.contains_cons,fC] at h;rcases h with e|h
  .let e:=by simpa using e
   subst e;exact hp.1
  .exact AllB.at hp.2 x h
def Ayp(Θ:Th)(mg:o8->o9 aG)(x:o8)(w:W):Prop:=∃v u,(∀Z H,RV Θ Z H w v)/\RelV v u/\(mg x=sr u\/(mg x=sy/\bootBuiltins x=sr u))
section
def Ep{i:Int}{t:Tok}(h:mg x=sr[.int i t]):Ayp Θ mg x .int[i]:=(_,_,λuu uu=>.int i,(t,rfl),.inl h)
def Ar9{t:Tok}(h:mg x=sr[.str z t]):Ayp Θ mg x .str[z]:=(_,_,λuu uu=>.str z,(t,rfl),.inl h)
def Adc(h:mg x=sy)(hb:bootBuiltins x=sr .type[n]):Ayp Θ mg x .ty[n]:=(_,_,λuu uu=>.ty n,rfl,.inr (h,hb))
def Mw{c:Nat}(h:mg x=sr .ref[Θ.cl[c]]):Ayp Θ mg x .cls[c]:=(_,_,λuu uu=>.cls c,rfl,.inl h)
end
def addrs(cs:lg aL)(c:Nat):aL:=cs.getD c 0
def isB(o:o9 o9[aG])(n:String):Bool:=match o with
 |some (sr (.builtin m))=>m==n
 |_=>tu
def Aqc(h:isB o n=t8):o=sr sr[.builtin[n]]:=by
 unfold isB at h;split at h
 .rw[eq_of_beq h]
 trivial
def isN(o:o9 o9[aG]):Bool:=match o with
 |some sy=>t8
 |_=>tu
def Aqd(h:isN o=t8):o=sr sy:=by
 unfold isN at h;split at h
 .rfl
 trivial
def Asa(K:aD)(C:aL):Bool:=(uZ K C).isSome&&isB (cN K .ref[C] "__getattribute__") "BaseException.__getattribute__"&&isN[cN K .ref[C] "__getattr__"]&&
 isB (cN K .ref[C] "__class__") "object.__class__"&&decide[mJ K C .type["BaseException"]=sr t8]&&decide[mJ K C .type["object"]=sr t8]
def Asb{K:aD}{C:aL}(h:Asa K C=t8):Ae5 K C:=by
 unfold Asa at h;simp[dh] at h;let(((((a,b),c),d),e),f):=h;exact(a,Aqc b,Aqd c,Aqc d,e,f)
def Asc(K:aD)(cs:lg aL)(L:lg[Nat×Nat×Bool]):Bool:=L.all λt=>decide[jV K .ref[addrs cs t.1] .ref[addrs cs t.2.1]=sr t.2.2]
def Ayq(K:aD)(cs:lg aL)(L:lg Nat):Bool:=L.all λc=>Asa K (addrs cs c)&&decide[jV K .ref[addrs cs c] .type["ValueError"]=sr t8]
def Ayr(N:lg[Nat×Nat×Bool])(L:lg Nat)(c:Nat):W->o9 Bool
 |.cls k=>if L.contains c then (N.find? λt=>t.1==c&&t.2.1==k).map (·.2.2) else sy
 |.ty n=>if n=="ValueError"&&L.contains c then sr t8 else sy
 |_=>sy
set_option tactic.hygienic true in
def Bjg{xf:Nat->o9 o8}{K:aD}{g:lg aL}{N:lg[Nat×Nat×Bool]}{L:lg Nat}(p:Asc K g N=t8)(o:Ayq K g L=t8):Ary[Aym K addrs[g] xf][Ayr N L]:=(⟨λc k b h=>by
 let i:∀c,L.contains c=t8->Ae5 K (addrs g c)/\_:=λc a=>by
  let z:=bF.mp o c (by simpa using a)
  rw[aQ] at z;exact(Asb z.1,dg z.2)
 unfold Ayr at h;split at h
 .rename_i k;split at h
  .rename_i a;let(t,j,rfl):=bA.mp h;let m:=qK j;let hp:=yM j;rw[aQ] at hp;let r:t.1=c:=by simpa using hp.1
   let q:t.2.1=k:=by simpa using hp.2
   let z:=dg[bF.mp p t m];rw[r,q] at z;exact((i c a).1,_,rfl,z)
  .cases h
 .split at h
  .rename_i n a;rw[aQ] at a;let e:n="ValueError":=by simpa using a.1
   subst e;cases h;exact((i c a.2).1,_,rfl,(i c a.2).2)
  .cases h
 .cases h⟩)
def Aqe(K:aD)(C:aL):Bool:=nZ K C aDd&&lG K C&&qM K C&&isB (cN K .ref[C] "__setattr__") "object.__setattr__"
def Ays{K:aD}{C:aL}(h:Aqe K C=t8):Cls K C:=by
 unfold Aqe at h;simp[aQ] at h;let(((a,b),c),d):=h;exact(a,b,c,Aqc d)
def Asd(K:aD)(cs:lg aL)(L:lg[Nat×o8]):Bool:=L.all λp=>Aqe K (addrs cs p.1)&&isN[cN K .ref[addrs cs p.1] p.2]
def Ayt(K:aD)(cs:lg aL)(L:lg[Nat×o8]):Bool:=L.all λp=>Asa K (addrs cs p.1)&&lG K (addrs cs p.1)&&isN[cN K .ref[addrs cs p.1] p.2]
theorem mem_lookup{b:Type}{c:Nat}{f:b}:∀{L:lg[Nat×b]},L.lookup c=sr f->(u6 c f)∈L
 |[],h=>by cases h
 |(d,g)::L,h=>by
  rw[dM] at h;split at h
  .simp_all
  .exact bD _ mem_lookup[h]
theorem Bjh{K:aD}{g:lg aL}{L X:lg[Nat×o8]}(h:Asd K g L=t8)(i:Ayt K g X=t8):FOk[Aym K addrs[g] λc=>X.lookup c][λb c f=>if b then X.lookup c==sr f else L.contains[u6 c f]]:=(λc f a=>by
 let a:L.contains[u6 c f]=t8:=a;let z:=bF.mp[h][u6 c f][by simpa using a]
 rw[aQ] at z;exact(Ays z.1,Aqd z.2),λc f a=>by
 let e:=eq_of_beq a;let z:=bF.mp i (u6 c f) mem_lookup[e];rw[aQ,aQ] at z;exact(e,Asb z.1.1,z.1.2,Aqd z.2))
def Bdn{K:aD}{a:aL}{D:lg[o8×o8]}(h:aBz[aBf λb=>K.lookup b][λb=>K.lookup b][a][D.map λp=>(u6 p.1 pJ[.str[p.2]])]=t8):Aur K a D:=λhp x=>KTD.text_of_look (λb o q=>x b o q) h
def Eg(K:aD)(mg:o8->o9 aG)(x:o8)(st:cQ)(_:lg o8):Prop:=∃(f:aL)(kV dc pm:aG)(an:o9 aL)(cd ct:aG),Fun K x x st f (dR x x Fq[st] Ah[st] Ac[st] .none kV dc pm an cd ct)/\mg x=sr .ref[f]
def Kg(K:aD)(c:aL)(x q:o8)(st:cQ)(_:lg o8):Prop:=∃(f:aL)(kV dc pm:aG)(an:o9 aL)(cd ct:aG),Fun K x q st f (dR x q Fq[st] Ah[st] Ac[st] .none kV dc pm an cd ct)/\Meth K c x f
section
variable{K:aD}{mg:o8->o9 aG}{h:dY}{x q:o8}{st:cQ}{ps:lg o8}{f c:aL}{oc kV dc pm cd ct:aG}{od an:o9 aL}{sl:Array (o9 aG)}
def Bmo(X:K.In h)(G:h.Ns mainGlobals mg)(a:bB K mainGlobals x=sr sr[.ref[f]])(b:K.lookup f=sr (oc,od,.func[dR x x Fq[st] Ah[st] Ac[st] .none kV dc pm an cd ct],sl))(d:lL K cd x=t8)(e:eG K .ref[f]=t8):Eg K mg x st ps:=(
 (f,kV,dc,pm,an,cd,ct,Apo b d e,bJ X G a))
def Bmp(a:cN K .ref[c] x=sr sr[.ref[f]])(b:K.lookup f=sr (oc,od,.func[dR x q Fq[st] Ah[st] Ac[st] .none kV dc pm an cd ct],sl))(d:lL K cd q=t8)(e:eG K .ref[f]=t8)(g:rY K .ref[f]=t8):Kg K c x q st ps:=(
 (f,kV,dc,pm,an,cd,ct,Apo b d e,a,g,e))
end
structure TU(Θ:Th)(m:Md)(P:cF)(w:dG)(K:aD)(mg:o8->Option aG)(base:dY)(k:Nat)(T:List (o8×Fi))(U:List ((Nat×o8)×Fi)):Prop where
 t:Tbl Θ P w K mg base k T
 u:MTb Θ P w K mg base k U
 m:m.Ok Θ K mg
section
variable{Θ:Th}{m:Md}{P:cF}{w:dG}{K:aD}{mg:o8->o9 aG}{base:dY}{k:Nat}{T:lg (o8×Fi)}{U:lg ((Nat×o8)×Fi)}{x q:o8}{st:cQ}{N ps:lg o8}{b:MS}{f:aL}{fd:eU}{c:Nat}
def Boy(e:Bk[Ah st][m.gm T N Ac[st] U]=b)(h:TU Θ m P w K mg base k T U)(d:Xv K mg x st ps f fd)(Sc:Hn N ps Ac[st]:=by exact(rfl,rfl,rfl,(),rfl,(),())):Ke P w K mg base (CXo P w) (k+2) f fd ps spF[Θ][Bj ps.length N.length b] t8:=h.t.fn h.u h.m d Sc e
def Bmq(e:Bk[Ah st][m.gm T N Ac[st] U]=b)(h:TU Θ m P w K mg base k T U)(d:Xv K mg x st ps f fd)(hv:Ci _root_.D.Gv dv=sr a)(hd:Vals a i)(g:Binds K fd ps i)(j:Hn N ps Ac[st]:=by exact(rfl,rfl,rfl,(),rfl,(),())):TU Θ m P w K mg base (k+2) ((u6 x (Bj ps.length N.length b,ps.length,dv))::T) U:=(
 (h.t.cons h.u h.m d j hv hd g e,h.u.up,h.m))
def al0{p:lg aG->Prop}(f:p [])(d:lg aG)(h:d.length=0):p d:=by
 cases d;exact f;cases h
def alS{p:lg aG->Prop}{n:Nat}(f:∀x a,a.length=n->p (x::a))(a:lg aG)(h:a.length=n+1):p a:=by
 cases a;cases h;exact f _ _ aBe[h]
def En(e:Bk[Ah st][m.gm T N Ac[st] U]=b)(h:TU Θ m P w K mg base k T U)(d:Eg K mg x st ps)(r:Hn N ps Ac[st]:=by exact(rfl,rfl,rfl,(),rfl,(),()))(p:∀(kV i g:aG)(l:o9 aL)(j ct:aG)(a:lg aG),a.length=ps.length->bindArgs (dR x x Fq[st] Ah[st] Ac[st] .none kV i g l j ct) (a,[])=pure ps.zip[a]:=by intro _ _ _ _ _ _;(repeat refine alS λs=>?_);exact al0 rfl):
  TU Θ m P w K mg base (k+2) ((u6 x (Bj ps.length N.length b,ps.length,[]))::T) U:=by
 let(f,kV,i,g,l,j,ct,F,o):=d;let B:Binds K _ ps []:=Af9[p kV i g l j ct];exact Bmq e h (F,o,B) rfl .nil B r
def Lr(e:Bk[Ah st][m.gm T N Ac[st] U]=b)(h:TU Θ m P w K mg base k T U)(C:Aqe K Θ.cl[c]=t8)(d:Kg K Θ.cl[c] x q st ps)(r:Hn N ps Ac[st]:=by exact(rfl,rfl,rfl,(),rfl,(),()))(p:∀(kV i g:aG)(l:o9 aL)(j ct:aG)(a:lg aG),a.length=ps.length->bindArgs (dR x q Fq[st] Ah[st] Ac[st] .none kV i g l j ct) (a,[])=pure ps.zip[a]:=by intro _ _ _ _ _ _;(repeat refine alS λs=>?_);exact al0 rfl):
  TU Θ m P w K mg base (k+2) T ((u6 (u6 c x) (Bj ps.length N.length b,ps.length,[]))::U):=by
 let(f,kV,i,g,l,j,ct,F,o):=d;let B:Binds K _ ps []:=Af9[p kV i g l j ct];exact(h.t.up,h.u.cons h.t h.m Ays[C] o F r B rfl .nil B e,h.m)
end
structure SP where
 p:Store->Prop
 st:∀S G:Store,p S->p (S ++ G)
def SP.any:SP:=(λuu=>True,λuu uu h=>h)
def AtL(n:Nat)(ws:lg W)(S:Store):Prop:=S[n]?=sr .lst[ws]
def AtL.app{n:Nat}(h:AtL n a S)(G:Store):AtL n a (S ++ G):=by
 unfold AtL at h ⊢
 rw[aY (aC.mp h).1];omega
def SP.at(P:SP)(n:Nat)(ws:lg W):SP:=(λS=>P.p S/\AtL n ws S,λS G h=>(P.st S G h.1,h.2.app G))
def Pu{α:Type}(P:SP)(m:M α)(a:α):Prop:=∀S:Store,P.p S->∃G:Store,m S=.ok a (S ++ G)
def PuL(P:SP)(m:M W)(ws:lg W):Prop:=∀S:Store,P.p S->∃(G:Store)(n:Nat),m S=.ok[.ref n][S ++ G]/\(S ++ G)[n]?=sr .lst[ws]/\S.length<=n
def PuN(P:SP)(b:MS)(Y Y':De):Prop:=∀S:Store,P.p S->∃G:Store,b Y S=.nx Y' (S ++ G)
def PuR(P:SP)(b:MS)(Y:De)(w:W):Prop:=∀S:Store,P.p S->∃G:Store,b Y S=.rt w (S ++ G)
section
variable{P:SP}{α β:Type}{m:M α}{f:α->M β}{a:α}{b:β}{c:Nat×W}{Y Y' Y1:De}{w x y z:W}{ws us:lg W}
def Bm(S:Store):(m >>= f) S=match m S with|.ok a S1=>f a S1|.exc c S1=>.exc c S1|.bad=>.bad:=rfl
def Pu.pure:Pu P (pure a:M α) a:=(λS d=>([],by rw[cH];rfl))
def Pu.bind(h:Pu P m a)(k:Pu P f[a] b):Pu P (m >>= f) b:=(λS d=>by
 let(G,e):=h S d;let(g,i):=k[S ++ G][P.st _ _ d];exact(G ++ g,by rw[Bm];simp_all))
def Pu.cast{a':α}(h:Pu P m a)(e:a=a'):Pu P m a':=e ▸ h
variable{P:SP}{f g h:De->M W}{gs:De->M (lg W)}{t u:De->M Bool}{s:lg W->M W}{i:Nat}
def An:Pu P (kF w Y) w:=Pu.pure
def Ai(e:Y[i]?=sr sr[w]):Pu P (Aa i Y) w:=(λS d=>([],by unfold Aa;rw[e,cH];rfl))
def Af:Pu P nilF[Y] []:=Pu.pure
def Ab(h1:Pu P f[Y] w)(h2:Pu P gs[Y] ws):Pu P (Ds f gs Y) (w::ws):=h1.bind h2.bind[Pu.pure]
def Ae(h1:Pu P gs[Y] ws)(h2:Pu P s[ws] w):Pu P (Dg s gs Y) w:=h1.bind h2
def Bx(h1:Pu P f[Y] x)(h2:Pu P g[Y] y)(h3:Pu P (o.fn x y) z):Pu P (Bc o f g Y) z:=h1.bind h2.bind[h3]
def Aw(h1:Pu P f[Y] x)(h2:Pu P g[Y] y)(h3:Pu P (Ey op x y) z):Pu P (Er op f g Y) z:=h1.bind h2.bind[h3]
def Dp(h1:Pu P f[Y] .bl[t8])(h2:Pu P g[Y] w):Pu P (Jd f g Y) w:=h1.bind h2
def Bji(d:Pu P f[Y] .bl[p])(e:p=t8->Pu P g[Y] .bl[q]):Pu P (Jd f g Y) .bl[p&&q]:=by
 cases p
 .exact d.bind Pu.pure
 .exact Dp d e[rfl]
def Ak(h1:Pu P f[Y] .bl[p]):Pu P (Ce f Y) p:=h1.bind Pu.pure
end
section
variable{P:SP}{b b':MS}{Y Y' Y1:De}{w:W}{c:Nat×W}{f:De->M W}{t:De->M Bool}{i k n:Nat}{gs:De->M (lg W)}{ws:lg W}
def Ay:PuN P Aj Y Y:=(λS a=>([],by rw[cH];rfl))
def Aut(g:PuN P b Y Y1)(d:PuN P b' Y1 Y'):PuN P (Ad b b') Y Y':=(λS a=>by
 let(G,e):=g S a;let(h,j):=d[S ++ G][P.st _ _ a];exact(G ++ h,by unfold Ad;simp_all))
def Cu(g:PuN P b Y Y1)(d:PuR P b' Y1 w):PuR P (Ad b b') Y w:=(λS a=>by
 let(G,e):=g S a;let(h,j):=d[S ++ G][P.st _ _ a];exact(G ++ h,by unfold Ad;simp_all))
def Bh(d:PuR P b Y w):PuR P (Ad b b') Y w:=(λS a=>by
 let(G,e):=d S a;exact(G,by unfold Ad;rw[e]))
def Dh(h:Pu P f[Y] w):PuN P (Bq i f) Y (Y.set i sr[w]):=(λS a=>by
 let(G,e):=h S a;exact(G,by unfold Bq Ju;rw[e]))
def Bb(h:Pu P f[Y] w):PuR P retS[f] Y w:=(λS a=>by
 let(G,e):=h S a;exact(G,by unfold retS Ju;rw[e]))
def Boz(e:t Y S=.ok t8 S1)(h:b Y S1=r):ifS t b b' Y S=r:=by unfold ifS Ju;rw[e];exact h
def Bo0(e:t Y S=.ok tu S1)(h:b' Y S1=r):ifS t b b' Y S=r:=by unfold ifS Ju;rw[e];exact h
def Bo(a:ws.length=k)(h:PuR P b (Dn n ws) w):Pu P (Bj k n b ws) w:=(λS d=>by
 let(G,e):=h S d;exact(G,by unfold Bj;rw[di a,e]))
def Ak4:PuN P (Vh s b []) Y Y:=(λS a=>([],by rw[cH];rfl))
def Abn(l:s w Y=sr Y1)(g:PuN P b Y1 Y2)(d:PuN P (Vh s b ws) Y2 Y'):PuN P (Vh s b (w::ws)) Y Y':=(λS a=>by
 let(G,e):=g S a;let(j,m):=d[S ++ G][P.st _ _ a];exact(G ++ j,by unfold Vh;simp_all))
def Ak5(g:Pu P src[Y] .fix[ws])(d:PuN P (Vh s b ws) Y Y'):PuN P (Mu src s b) Y Y':=(λS a=>by
 let(G,e):=g S a;let(h,j):=d[S ++ G][P.st _ _ a];exact(G ++ h,by unfold Mu Ju;simp_all))
end
section
variable{P:SP}{Y:De}{cs:De}{t:De->M Bool}{e:De->M W}{f:W->W}{ws:lg W}
def Ade{b:Type}{m:M b}{a:b}(h:Pu P m a):Pu P noX[m] a:=(λS c=>by
 let(G,e):=h S c;exact(G,by unfold noX;rw[e]))
def Amw{j:Type}{c:lg j}{g i:j->W}(k:∀x,x∈c->Pu P (t (sr g[x]::cs)) t8/\Pu P (e (sr g[x]::cs)) i[x]):∀(d:o9 W)(a:lg W),a.length+c.length<=big->Pu[P][M7 Br[0] t e c.map[g] (d::cs) a][a ++ c.map i]:=by
 induction c with
 |nil=>intro d a _ S _;exact([],by simp[M7];rfl)
 |cons x c n=>
  intro d a p;rw[bL] at p;let l:=(k x bG);let r:=n (λm o=>k m (bD _ o)) sr[g[x]] (a ++ [i x]) (by rw[bH,cX];omega)
  rw[bN] at r;intro S q;have:=(Ade l.1).bind (f:=λb=>if b=t8 then _ >>= λy=>if a.length < big then M7 _ t e _ _ (a ++ [y]) else bad else M7 Br[0] t e c.map[g] (sr g[x]::cs) a) (b:=a ++ _) (by
   refine(Ade l.2).bind ?_;rw[di ()]
   omega)
  exact this S q
end
section
variable{P:SP}{Y:De}{t u:De->M Bool}{f g h:De->M W}{p q:Bool}{i j:Int}{x y z:o8}{w v o:W}{ws:lg W}{k:Nat}
def Dt(h1:Pu P t[Y] p):Pu[P][Gx t Y][!p]:=h1.bind Pu.pure
def Jw(a:Pu P t[Y] p)(b:Pu P u[Y] q):Pu[P][orT t u Y][p||q]:=(a.bind (by
 cases p
 .trivial
 .exact Pu.pure))
def Ase(a:Pu P t[Y] p)(b:Pu P u[Y] q):Pu[P][Vj t u Y][p&&q]:=(a.bind (by
 cases p
 .exact Pu.pure
 trivial))
def Abo(h1:Pu P f[Y] .bl[p])(h2:Pu P g[Y] .bl[q]):Pu P (Jd f g Y) .bl[p&&q]:=Bji h1 λuu=>h2
def Agx:Pu P (Ey .Lt .int[i] .int[j]) .bl[decide[i < j]]:=Pu.pure
def Vn:Pu P (Ey .LtE .int[i] .int[j]) .bl[decide[i<=j]]:=Pu.pure
def Xy:Pu P (Ey .Gt .int[i] .int[j]) .bl[decide[j < i]]:=Pu.pure
def Pb:Pu P (Bop.fn .add .int[i] .int[j]) .int[i+j]:=Pu.pure
def Afp:Pu P (Bop.fn .sub .int[i] .int[j]) .int[i - j]:=Pu.pure
def Ls{b:Type}[Decidable c]{m n:M b}{a:b}(d:c)(h:Pu P m a):Pu P (if c then m else n) a:=by simp_all
def Ft(hl:x.length+y.length<=big):Pu P (Bop.fn .add .str[x] .str[y]) .str[x ++ y]:=Ls hl Pu.pure
def Afq(hs:(small i||small j)=t8):Pu P (Bop.fn .mul .int[i] .int[j]) .int[i * j]:=Ls hs Pu.pure
def Aqf(hj:0<=j):Pu P (Bop.fn .shr .int[i] .int[j]) .int[i / 2 ^ j.toNat]:=Ls hj Pu.pure
def Ayu(hj:0 < j):Pu P (Bop.fn .mod .int[i] .int[j]) .int[i % j]:=Ls hj Pu.pure
def Ayv(hk:k<=big):Fj [.int (k:Int)]=pure .fix[(cO k).map λ(k:Nat)=>W.int[(0:Int)+(k:Int)]]:=by
 unfold Fj;dsimp only;rw[di (by
   let h:(k:Int)<=1000000:=Int.ofNat_le.mpr hk;let c:(0:Int)<=k:=vM k;let e:(2:Int) ^ 62=4611686018427387904:=by decide +kernel
   rw[e];omega),dW]
def Lj(b:Pu P gs[Y] [.int (k:Int)])(hk:k<=big):Pu P (Ii Fj gs Y) .fix[(cO k).map λ(k:Nat)=>W.int[(0:Int)+(k:Int)]]:=by
 refine Pu.bind b ?_;rw[Ayv hk];exact Pu.pure
def Rk:Pu P (Ey .Eq .int[i] .int[j]) .bl[i==j]:=(λS a=>([],by rw[cH];rfl))
def Cy(hx:sO x=t8)(hy:sO y=t8):Pu P (Ey .Eq .str[x] .str[y]) .bl[x==y]:=Pu.pure
def Fe:Pu P (Ey .Eq .str[x] .str[y]) .bl[x==y]:=Pu.pure
def Bjj:Pu P (Ey .NotEq .str[x] .str[y]) .bl[!(x==y)]:=Pu.pure
def Ayw:Pu P (Ey .Lt .str[x] .str[y]) .bl[Jt x y]:=Pu.pure
def Vo{b a:vD}{x y u:W}(m:Pu P f[Y] x)(l:Pu P g[Y] y)(e:Pu P (Ey b x y) .bl[p])(d:Pu P h[Y] u)(c:Pu P (Ey a y u) .bl[q]):Pu P (Ri b a f g h Y) .bl[p&&q]:=by
 refine m.bind l.bind[e.bind[?_]];cases p
 .exact Pu.pure
 .exact d.bind c
def Cr(h1:Pu P f[Y] o)(h2:Pu P g[Y] v)(h3:Pu P (ixW o v) w):Pu P (ixF f g Y) w:=h1.bind h2.bind[h3]
end
section
variable{P:SP}{b b':MS}{Y Y':De}{w:W}{c:Nat×W}{t:De->M Bool}{p:Bool}
def Fo(f:Pu P t[Y] p)(hp:p=tu)(d:PuN P b' Y Y'):PuN P (ifS t b b') Y Y':=by
  intro S a;let(G,e):=(hp ▸ f) S a;let(h,g):=d[S ++ G][P.st _ _ a];exact(G ++ h,Bo0 e (by rw[g,bN]))
def Aak(f:Pu P t[Y] p)(hp:p=t8)(d:PuR P b Y w):PuR P (ifS t b b') Y w:=by
  intro S a;let(G,e):=(hp ▸ f) S a;let(h,g):=d[S ++ G][P.st _ _ a];exact(G ++ h,Boz e (by rw[g,bN]))
end
section
variable{P:SP}{Y cs:De}{f:De->M W}{ws:lg W}{w:W}{op:lg W->M W}{mop:W->lg W->M W}{z:o8}
def Asf(h:Pu P m ws)(a:ws.length<=big):PuL P (m >>= Be) ws:=(λS b=>by
 let(G,e):=h S b;refine(G ++ [.lst ws],(S ++ G).length,?_,?_,by simp)
 .rw[Bm,e];dsimp only;unfold Be;rw[di a,bN]
 .rw[<-bN,aZ aN[_],fZ];rfl)
def Ann{b:Type}{m:M b}{a:b}{g:b->M W}(h:Pu P m a)(k:PuL P g[a] ws):PuL P (m >>= g) ws:=(λS c=>by
 let(G,e):=h S c;let(d,n,j,i,hf):=k[S ++ G][P.st _ _ c];exact(G ++ d,n,by rw[Bm];simp_all,by rw[<-bN];omega,by rw[bH] at hf;omega))
def Gy{b:Type}{xs:lg b}{φ ψ:b->W}{cap:lg Nat}(g:Pu P src[Y] .fix[xs.map[φ]])(d:Kf 1 cap Y=sy::cs)(i:xs.length<=big)(c:∀x,x∈xs->Pu P (t (sr φ[x]::cs)) t8/\Pu P (e (sr φ[x]::cs)) ψ[x]):PuL P (Cv 1 cap src Br[0] t e Y) xs.map[ψ]:=by
 refine Ann g ?_;rw[d];refine Asf ?_ (by simp_all)
 have:=Amw c sy [] (by simp_all)
 trivial
def Ak6(h:PuL P f[Y] ws)(a:∀(n:Nat)(S:Store),S[n]?=sr .lst[ws]->∃G,op [.ref n] S=.ok w (S ++ G)):Pu P Dg[op][Ds f nilF][Y] w:=(λS c=>by
 let(G,n,e,b,_):=h S c;let(g,i):=a n _ b;refine(G ++ g,?_);unfold Dg Ds;rw[Bm,Bm,e];show op _ _=_;simp_all)
theorem Asg:∀bs:lg Bool,Ci Bh9 bs.map[W.bl]=sr bs
 |[]=>rfl
 |b::bs=>by rw[bT,Ci,Asg bs];rfl
theorem Qt:∀bs:lg Int,Ci asInt bs.map[W.int]=sr bs
 |[]=>rfl
 |b::bs=>by rw[bT,Ci,Qt bs];rfl
theorem Agy:∀bs:lg o8,Ci Aja bs.map[W.str]=sr bs
 |[]=>rfl
 |b::bs=>by rw[bT,Ci,Agy bs];rfl
def Vp{bs:lg Bool}(h:PuL P f[Y] bs.map[W.bl]):Pu P Dg[Agi][Ds f nilF][Y] .bl[bs.all[id]]:=(Ak6 h λn S e=>([],by
 simp[Agi,e,Asg]))
def Bjk{is:lg Int}(h:PuL P f[Y] is.map[W.int]):Pu P Dg[Auo][Ds f nilF][Y] .int[is.sum]:=(Ak6 h λn S e=>([],by
 simp[Auo,e,Qt]))
def Bdo(h:PuL P f[Y] a.map[W.str])(c:(a.map (·.length)).sum+a.length * z.length<=big):Pu P (Mv .str Vi kF[.str[z]] (Ds f nilF) Y) .str[zW z a]:=(λS d=>by
 let(G,n,e,b,_):=h S d;refine(G,?_);let i:Ds f nilF Y S=.ok [.ref n] (S ++ G):=by unfold Ds;rw[Bm,e];rfl
 let g:Mv .str Vi kF[.str[z]] _ Y S=(Ds f nilF Y >>= _) S:=rfl;rw[g,Bm,i];simp only[Vi,b,Agy];exact di c)
def Ak7(hz:z.length<=big)(h:Pu P f[Y] .str[z]):Pu P (Ea f Y) .fix[chars[z]]:=h.bind[Ls hz Pu.pure]
def Ph(h:Pu P f[Y] .tup[ws]):Pu P (Ea f Y) .fix[ws]:=h.bind Pu.pure
end
structure Aig{β:Type}(s:Tg)(xs:List β)(φ:β->W)(Kd:De->Prop)(dx:β->De):Prop where
 set:∀x,x∈xs->∀Y,Kd Y->s (φ x) Y=sr (dx x)
 kd:∀x,x∈xs->Kd (dx x)
def Ayx(P:SP){β:Type}(t:De->M Bool)(e:De->M W)(xs:lg β)(dx:β->De)(τ:β->Bool)(ψ:β->W):Prop:=∀x,x∈xs->Pu P t[dx[x]] τ[x]/\(τ x=t8->Pu P e[dx[x]] ψ[x])
section
variable{β:Type}{xs:lg β}{φ ψ:β->W}{dx:β->De}{τ:β->Bool}
theorem Bdp:Aig Br[0] xs φ (λY=>∃d,Y=d::a) (λx=>sr φ[x]::a):=(λx _ Y ⟨d,h⟩=>by subst h;rfl,λx b=>(_,rfl))
theorem Aqg{a b:β->W}:Aig Ae6[[0,1]] xs (λx=>.tup [a x,b x]) (λY=>∃d c,Y=d::c::e) (λx=>sr a[x]::sr b[x]::e):=(λx _ Y ⟨d,c,h⟩=>by subst h;rfl,λx f=>(_,_,rfl))
def Aig.tail{x:β}(h:Aig s (x::xs) φ Kd dx):Aig s xs φ Kd dx:=(λy hy=>h.set y (bD _ hy),λy hy=>h.kd y (bD _ hy))
def Auu{x:β}:a ++ ([x].filter τ).map ψ ++ (xs.filter τ).map ψ=a ++ ((x::xs).filter τ).map ψ:=by
 cases b:τ x <;> simp[b]
def Abp{x:β}:(acc ++ ([x].filter τ).map ψ).length<=acc.length+1:=by
 cases a:τ x <;> simp[a]
def Ak8(c:Aig s xs φ Kd dx)(f:Ayx P t e xs dx τ ψ):∀(Y:De)(acc:lg W),Kd Y->acc.length+xs.length<=big->Pu[P][M7 s t e xs.map[φ] Y acc][acc ++ (xs.filter τ).map ψ]:=by
 induction xs with
 |nil=>intro Y acc _ _;simpa [M7,Je] using (Pu.pure (a:=acc))
 |cons x xs h=>
  intro Y acc hd j;rw[bL] at j;let d:=f x bG;let hk:=h c.tail (λy i=>f y (bD _ i)) dx[x] (acc ++ ([x].filter τ).map ψ) (c.kd x bG) (by have:=Abp (τ:=τ) (ψ:=ψ) (x:=x) (acc:=acc);omega)
  rw[Auu] at hk;rw[bT];unfold M7 Je;rw[c.set x bG Y hd];refine(Ade d.1).bind ?_;cases b:τ x with
  |false=>
   rw[dq cR];have:acc ++ ([x].filter τ).map ψ=acc:=by simp[b]
   rw[this] at hk;exact hk
  |true=>
   rw[di rfl];refine(Ade d.2[b]).bind ?_;rw[di ()]
   have:acc ++ ([x].filter τ).map ψ=acc ++ [ψ x]:=by simp[b]
   rw[this] at hk;exact hk
def Agz{gt:Store->Nat->o9 o9[W]}(n:Aig s xs φ Kd dx)(u:Ayx P t e xs dx τ ψ):∀(m i:Nat)(Y:De)(a:lg W)(S:Store),(∀(G:Store)(j:Nat),gt (S ++ G) j=sr[xs[j]?.map φ])->P.p S->xs.length+1<=i+m->i<=xs.length->Kd Y->a.length+(xs.length - i)<=big->
  ∃G,Ik s t e gt m i Y a S=.ok[a ++ ((xs.drop i).filter τ).map ψ][S ++ G]:=by
 intro m;induction m with
 |zero=>intro i Y a S h d hi z hd x;omega
 |succ m r=>
  intro i Y a S h d hi z hd x;unfold Ik;let b:=h [] i;rw[cH] at b;by_cases k:i < xs.length
  .let o:gt S i=sr sr[φ[getElem[xs][i][by get_elem_tactic]]]:=by rw[b,aM k];rfl
   simp only[o];let c:(getElem[xs][i][by get_elem_tactic])∈xs:=fY k;rw[n.set _ c Y hd];dsimp only;let y:a.length < big:=by omega
   let(g,B):=Ade (u _ c).1 S d;rw[Bm,B];dsimp only;let dr:xs.drop i=(getElem[xs][i][by get_elem_tactic])::xs.drop[i+1]:=(eV k);cases l:τ getElem[xs][i][by get_elem_tactic] with
   |false=>
    rw[dq cR];let(G,q):=r (i+1) dx[getElem[xs][i][by get_elem_tactic]] a (S ++ g) (λG j=>by rw[bN];exact h _ j) (P.st _ _ d) () () (n.kd _ c) ()
    refine(g ++ G,?_);rw[q,dr,gG,l,bN];rfl
   |true=>
    rw[di rfl];let(w,q):=Ade[(u _ c).2 l][S ++ g][P.st _ _ d];rw[Bm,q];dsimp only;rw[di y];let(G,A):=r (i+1) dx[getElem[xs][i][by get_elem_tactic]] (a ++ [ψ getElem[xs][i][by get_elem_tactic]]) (S ++ g ++ w) (λG j=>by rw[bN,bN];exact h _ j) P.st[_][_][P.st _ _ d] () () (n.kd _ c) (by rw[bH,cX];omega)
    refine(g ++ (w ++ G),?_);rw[A,dr,gG,l];simp[bN]
  .let o:gt S i=sr sy:=by rw[b,eE ()];rfl
   simp only[o];refine([],?_);rw[dX ()]
   simp
end
section
variable{β:Type}{xs:lg β}{φ ψ:β->W}{dx:β->De}{τ:β->Bool}{k:Nat}{cap:lg Nat}{n:Nat}
def Ayy(h:m S=.ok a (S ++ G))(c:a.length<=big):∃(b:Store)(n:Nat),(m >>= Be) S=.ok[.ref n][S ++ b]/\AtL n a (S ++ b)/\S.length<=n:=by
 refine(G ++ [.lst a],(S ++ G).length,?_,?_,by simp)
 .rw[Bm,h];dsimp only;unfold Be;rw[di c,bN]
 .unfold AtL;rw[<-bN,aZ aN[_],fZ];rfl
def Ash(d:Pu P src[Y] .fix[xs.map[φ]])(a:Aig s xs φ Kd dx)(c:Ayx P t e xs dx τ ψ)(hk:Kd[Kf k cap Y])(b:xs.length<=big):PuL[P][Cv k cap src s t e Y][(xs.filter τ).map ψ]:=by
 refine Ann d ?_;refine Asf ?_ (by rw[aB];exact aH (dF _ _) b)
 have:=Ak8 a c _ [] hk (by simp_all)
 trivial
def Bdq(q:∀S,P.p S->AtL n xs.map[φ] S)(o:Pu P src[Y] .liv[n])(h:Aig s xs φ Kd dx)(i:Ayx P t e xs dx τ ψ)(hk:Kd[Kf k cap Y])(d:xs.length<=big):PuL[P][Cv k cap src s t e Y][(xs.filter τ).map ψ]:=(λS b=>by
 let(G,u):=o S b;let a:=(q S b).app G;let(w,f):=Agz (gt:=liG n) h i (xs.length+1) 0 _ [] _ (λc j=>by
  let z:(S ++ G ++ c)[n]?=_:=a.app c;unfold liG;rw[z];exact congrArg sr aX) (P.st _ _ b) () () hk (by simpa using d)
 rw[lE,nQ] at f;let(c,g,r,m,l):=Ayy f (by rw[aB];exact aH (dF _ _) d)
 refine(_,g,?_,by rw[<-bN];exact m,by rw[bH] at l;omega)
 unfold Cv;rw[Bm,u];dsimp only;rw[a];dsimp only;rw[aB,r,bN])
def Bdr(v:∀S,P.p S->∃G n m,src Y S=.ok[.zl n m][S ++ G]/\AtL n us (S ++ G)/\AtL m vs (S ++ G))(l:∀j:Nat,xs[j]?.map φ=match us[j]?,vs[j]? with|some a,sr b=>sr .tup[[a,b]]|_,_=>sy)(hu:xs.length<=us.length)(o:Aig s xs φ Kd dx)(q:Ayx P t e xs dx τ ψ)(hk:Kd[Kf k cap Y])(d:xs.length<=big):PuL[P][Cv k cap src s t e Y][(xs.filter τ).map ψ]:=(λS f=>by
 let(G,n,m,x,h,y):=v S f;let(B,g):=Agz (gt:=zlG n m) o q (us.length+1) 0 (Kf k cap Y) [] (S ++ G) (λc j=>by
  let b1:=h.app c;let b2:=y.app c;unfold zlG;rw[b1,b2];dsimp only;rw[l j];cases us[j]? <;> cases vs[j]? <;> rfl) (P.st _ _ f) () () hk (by simpa using d)
 rw[lE,nQ] at g;let(c,i,w,u,r):=Ayy g (by rw[aB];exact aH (dF _ _) d)
 refine(G ++ c,i,?_,by rw[<-bN];exact u,by rw[bH] at r;omega)
 unfold Cv;rw[Bm,x];dsimp only;rw[h];dsimp only;rw[w,bN])
end
section
variable{i k n:Nat}
def Asi(c:∀S,P.p S->AtL n d S)(h:Pu P f[Y] .ref[n]):Pu P (Ea f Y) .liv[n]:=(λS b=>by
 let(G,e):=h S b;refine(G,?_);let a:=(c S b).app G;unfold AtL at a;unfold Ea;rw[Bm,e];show (match (S ++ G)[n]? with|some (.lst _)=>R.ok[Src.liv n][S ++ G]|_=>.bad)=_
 rw[a])
end
def Wm{α:Type}(m:M α)(S:Store)(Q:α->Store->Prop):Prop:=∃(a:α)(S':Store),m S=.ok a S'/\Q a S'
structure Wb(b:MS)(Y:De)(S:Store)(K:RS->Prop):Prop where
 un:K (b Y S)
structure Fr(L:List Nat)(S S':Store):Prop where
 len:S.length<=S'.length
 get:∀i,i < S.length->i∉L->S'[i]?=S[i]?
section
variable{L L':lg Nat}{S S1 S2 G:Store}{i n:Nat}{c:Cell}
def Fr.refl:Fr L S S:=(aN _,λuu uu uu=>rfl)
theorem Fr.app:Fr [] S (S ++ G):=(by simp,λi hi a=>aY hi)
theorem Fr.set:Fr [n] S (S.set n c):=(by simp,λi a hi=>fM[λe=>hi (by rw[e];exact aK.mpr rfl)])
theorem Fr.trans(a:Fr L S S1)(d:Fr L' S1 S2)(f:∀i∈L',i∈L\/S.length<=i):Fr L S S2:=(aH a.len d.len,λi hi b=>by
 rw[d.get[i][bC hi a.len][λe=>(f i e).elim b (λz=>absurd hi aCt.mpr[z])],a.get i hi b])
def Fr.then0(b:Fr L S S1)(a:Fr [] S1 S2):Fr L S S2:=(b.trans a λd h=>(nomatch h))
def Fr.same(h1:Fr L S S1)(h2:Fr L S1 S2):Fr L S S2:=h1.trans h2 λuu h=>.inl h
def Fr.mono(h:Fr L S S1)(hL:∀i∈L,i∈L'):Fr L' S S1:=(h.len,λi hi hn=>h.get i hi (λz=>hn[hL i z]))
def Fr.of0(h:Fr [] S S1):Fr L S S1:=(h.mono λa h=>(nomatch h))
def Fr.at(h:Fr L S S1)(e:S[i]?=sr c)(hi:i∉L):S1[i]?=sr c:=(h.get i (aC.mp e).1 hi).trans e
def Fr.at0(h:Fr [] S S1)(e:S[i]?=sr c):S1[i]?=sr c:=(h.at e (λz=>nomatch z))
def Fr.at1(h:Fr [n] S S1)(e:S[i]?=sr c)(hi:i≠n):S1[i]?=sr c:=h.at e (λz=>hi aK.mp[z])
def Cm(e:S[i]?=sr c):i < S.length:=(aC.mp e).1
def Ak9(h:i < S.length):(S.set i c)[i]?=sr c:=eX h
end
section
variable{α β:Type}{m:M α}{f:α->M β}{a:α}{S:Store}{Q Q2:α->Store->Prop}{Q':β->Store->Prop}{P:SP}{Y:De}{ws us:lg W}
def Ax(h:Wm m S λa d=>Wm f[a] d Q'):Wm (m >>= f) S Q':=by
 let(a,i,e,b,c,g,q):=h;exact(b,c,by rw[Bm,e];omega,q)
def Bp(q:Q a S):Wm pure[a] S Q:=(a,S,rfl,q)
def Ajf(h:Pu P m a)(c:P.p S)(k:∀b,Fr [] S b->Q a b):Wm m S Q:=by
 let(G,e):=h S c;exact(a,_,e,k _ .app)
def Cp(h:Pu SP.any m a)(k:∀S',Fr [] S S'->Q a S'):Wm m S Q:=Ajf h trivial k
def Ba(h:Wm m S Q)(k:∀a b,Q a b->Q2 a b):Wm m S Q2:=by
 let(a,b,e,q):=h;exact(a,b,e,k a b q)
def Ayz{m:M W}{Q:W->Store->Prop}(h:PuL P m ws)(d:P.p S)(k:∀n b,Fr [] S b->b[n]?=sr .lst[ws]->S.length<=n->Q .ref[n] b):Wm m S Q:=by
 let(G,n,e,c,hf):=h S d;exact(_,_,e,k n _ .app c hf)
def Ala(h:Wm m S Q):Wm noX[m] S Q:=by
 let(a,b,e,q):=h;exact(a,b,by unfold noX;rw[e],q)
def Lw{s:lg W->M W}{gs:De->M lg[W]}{Q:W->Store->Prop}(h:Wm gs[Y] S λws S'=>Wm s[ws] S' Q):Wm (Dg s gs Y) S Q:=Ax h
def Di{g:De->M W}{d:De->M lg[W]}{Q:lg W->Store->Prop}(h:Wm g[Y] S λw i=>Wm d[Y] i λws e=>Q (w::ws) e):Wm (Ds g d Y) S Q:=(
 Ax[Ba h λc c h=>Ax[Ba h λc c q=>Bp q]])
def Fx{Q:lg W->Store->Prop}(q:Q [] S):Wm nilF[Y] S Q:=Bp q
theorem Hf{i:Nat}{w:W}{Q:W->Store->Prop}(e:Y[i]?=sr sr[w])(q:Q w S):Wm (Aa i Y) S Q:=(w,S,by unfold Aa;rw[e];rfl,q)
def Tr{w:W}{Q:W->Store->Prop}(q:Q w S):Wm (kF w Y) S Q:=Bp q
def Ag0{o:Bop}{f g:De->M W}{Q:W->Store->Prop}(h:Wm f[Y] S λx S1=>Wm g[Y] S1 λy S2=>Wm (o.fn x y) S2 Q):Wm (Bc o f g Y) S Q:=Ax[Ba h λuu uu h=>Ax h]
def Ag1{o:vD}{f g:De->M W}{Q:W->Store->Prop}(h:Wm f[Y] S λx S1=>Wm g[Y] S1 λy S2=>Wm (Ey o x y) S2 Q):Wm (Er o f g Y) S Q:=Ax[Ba h λuu uu h=>Ax h]
def Bge{f g:De->M W}{Q:W->Store->Prop}(h:Wm f[Y] S λx S1=>Wm g[Y] S1 λy S2=>Wm (ixW x y) S2 Q):Wm (ixF f g Y) S Q:=Ax[Ba h λuu uu h=>Ax h]
def Asj{f:De->M W}{Q:Bool->Store->Prop}{p:Bool}(h:Wm f[Y] S λx c=>x=.bl p/\Q p c):Wm (Ce f Y) S Q:=(Ax (Ba h λ_ _ ⟨e,q⟩=>by subst e;exact Bp q))
def Ei{b:De->M lg[W]}{Q:W->Store->Prop}(h:Wm b[Y] S λws c=>ws.length<=big/\Q .tup[ws] c):Wm (Jr b Y) S Q:=(Ax[Ba h λws c ⟨hl,q⟩=>(_,_,by unfold Aw8;rw[di hl];rfl,q)])
theorem Xf{Q:W->Store->Prop}(b:ws.length<=big)(q:Q[.ref S.length][S ++ [.lst ws]]):Wm Be[ws] S Q:=(_,_,by unfold Be;simp_all,q)
def Hg:(S ++ [c])[S.length]?=sr c:=by rw[aZ aN[_],fZ];rfl
theorem Jx{n:Nat}{i:Int}{w:W}{Q:W->Store->Prop}(b:S[n]?=sr .lst[ws])(hi:atI ws i=sr w)(q:Q w S):Wm (ixW .ref[n] .int[i]) S Q:=(w,S,by
 unfold ixW;dsimp only;rw[b];dsimp only;rw[hi];rfl,q)
theorem Afr{n:Nat}{Q:W->Store->Prop}(c:S[n]?=sr .lst[ws])(q:Q .int[ws.length] S):Wm Dm[[.ref n]] S Q:=(_,S,by
 unfold Dm;simp_all,q)
theorem Auv{n:Nat}{Q:W->Store->Prop}(c:S[n]?=sr .lst[ws])(q:Q .tup[ws] S):Wm Vd[[.ref n]] S Q:=(_,S,by
 unfold Vd;simp_all,q)
theorem Auw{n:Nat}{w:W}{Q:W->Store->Prop}(b:S[n]?=sr .lst[ws])(d:ws.length < big)(q:Q .non (S.set n .lst[ws ++ [w]])):Wm (Abg .ref[n] [w]) S Q:=(_,_,by
 unfold Abg Am5 putL;dsimp only;rw[b];dsimp only;rw[di (by rw[bH,cX];omega)],q)
theorem Bds{a b:Nat}{ws us:lg W}{Q:W->Store->Prop}(h:S[a]?=sr .lst[ws])(g:S[b]?=sr .lst[us])(e:ws.length+us.length<=big)(q:Q[.ref S.length][S ++ [.lst[ws ++ us]]]):Wm (Bop.fn .add .ref[a] .ref[b]) S Q:=(_,_,by
 show addW .ref[a] .ref[b] S=_;unfold addW;simp_all,q)
end
section
variable{b b' b2:MS}{Y Y':De}{S:Store}{K:RS->Prop}{f:De->M W}{t:De->M Bool}{i k n:Nat}{P:SP}{ws:lg W}{p:Bool}
def Lx(b':MS)(K:RS->Prop):RS->Prop
 |.nx Y1 S1=>Wb b' Y1 S1 K
 |r=>K r
def K6(h:Wb b Y S (Lx b' K)):Wb (Ad b b') Y S K:=(⟨by
 let h:=h.un;unfold Ad;revert h;cases b Y S with
 |nx a c=>exact λh=>h.un
 |_=>exact λh=>h⟩)
def Iv{c:Type}{m:M c}{k:c->MS}(h:Wm m S λa d=>K[k a Y d]):K[Ju m k Y S]:=by
 let(a,d,e,q):=h;unfold Ju;simp_all
def Cz(h:Wm f[Y] S λw S'=>Wb b' (Y.set i sr[w]) S' K):Wb Ad[Bq i f][b'] Y S K:=K6 ⟨Iv h⟩
def Alb(h:Wm f[Y] S λuu S'=>Wb b' Y S' K):Wb (Ad Hy[f] b') Y S K:=K6 ⟨Iv h⟩
def Dc(h:Wm f[Y] S λw S'=>K[.rt w S']):Wb (Ad retS[f] b') Y S K:=K6 ⟨Iv h⟩
def Rm(h:K[.nx Y S]):Wb Aj Y S K:=⟨h⟩
def Ej(h:Wm t[Y] S λp a=>Wb (if p then b else b2) Y a (Lx b' K)):Wb Ad[ifS t b b2][b'] Y S K:=(K6 ⟨Iv (Ba h λp a q=>by cases p <;> exact q.un)⟩)
def Adf(h:Wm t[Y] S λp a=>p=t8/\Wb b Y a (Lx b' K)):Wb Ad[ifS t b b2][b'] Y S K:=(Ej (Ba h λp a ⟨e,q⟩=>by subst e;exact q))
def Jg(h:Wm t[Y] S λp a=>p=tu/\Wb b' Y a K):Wb Ad[ifS t b Aj][b'] Y S K:=(Ej (Ba h λp a ⟨e,q⟩=>by subst e;exact⟨q⟩))
def Aih(Q:W->Store->Prop):RS->Prop
 |.rt w S'=>Q w S'
 |.nx _ S'=>Q .non S'
 |_=>False
def Bt(a:ws.length=k)(h:Wb b (Dn n ws) S Aih[Q]):Wm (Bj k n b ws) S Q:=by
 let h:=h.un;unfold Wm Bj;rw[di a];revert h;cases b _ S with
 |nx Y c=>exact λh=>(_,_,rfl,h)
 |rt w c=>exact λh=>(_,_,rfl,h)
 |bk _ _=>exact λh=>h.elim
 |ct _ _=>exact λh=>h.elim
 |ex _ _ _=>exact λh=>h.elim
 |bad=>exact λh=>h.elim
def Ay0(J:De->Store->Prop)(K:RS->Prop):RS->Prop
 |.nx Y S=>J Y S
 |.ct Y S=>J Y S
 |.bk Y S=>K (.nx Y S)
 |r=>K r
def Asl{J:Nat->De->Store->Prop}(step:∀(i:Nat)(w:W)(Y:De)(S:Store),ws[i]?=sr w->J i Y S->∃l,s w Y=sr l/\Wb b l S (Ay0 J[i+1] K))(r:∀Y S,J ws.length Y S->K[.nx Y S])(y:J 0 Y S):Wb (Vh s b ws) Y S K:=by
 let o:∀(d:lg W)(i:Nat)(Y:De)(S:Store),ws.drop i=d->J i Y S->i<=ws.length->Wb (Vh s b d) Y S K:=by
  intro d;induction d with
  |nil=>
   intro i Y S hd q hi;have:i=ws.length:=by
    have:=uG.mp hd;omega
   subst this;exact⟨r Y S q⟩
  |cons w d u=>
   intro i Y S hd q hi;let c:i < ws.length:=by
    rcases wO i ws.length with h|h
    .exact h
    .rw[dX h] at hd;cases hd
   let g:=eV c;rw[hd] at g;let x:ws[i]?=sr w:=by rw[aM c,(jQ g).1]
   let(l,z,a):=step i w Y S x q;let a:=a.un;refine⟨?_⟩;unfold Vh;rw[z];dsimp only;revert a;cases b l S with
   |nx j m=>exact λa=>(u (i+1) j m (jQ g).2.symm a c).un
   |ct j m=>exact λa=>(u (i+1) j m (jQ g).2.symm a c).un
   |bk j m=>exact λa=>a
   |rt _ _=>exact λa=>a
   |ex _ _ _=>exact λa=>a
   |bad=>exact λa=>a
 exact o ws 0 Y S rfl y bI[_]
def Adg{J:Nat->De->lg W->Store->Prop}(step:∀(i:Nat)(w:W)(Y:De)(a:lg W)(S:Store),ws[i]?=sr w->J i Y a S->∃g,s w Y=sr g/\Wm t[g] S λp o=>if p=t8 then Wm e[g] o λy x=>a.length < big/\J (i+1) g (a ++ [y]) x else J (i+1) g a o)(v:∀Y a S,J ws.length Y a S->Q a S)(D:J 0 Y a S):Wm (Je s t e ws Y a) S Q:=by
 let q:∀(j:lg W)(i:Nat)(Y:De)(a:lg W)(S:Store),ws.drop i=j->J i Y a S->i<=ws.length->Wm (Je s t e j Y a) S Q:=by
  intro j;induction j with
  |nil=>
   intro i Y a S hd u hi;have:i=ws.length:=by
    have:=uG.mp hd;omega
   subst this;exact Bp (v Y a S u)
  |cons w j z=>
   intro i Y a S hd u hi;let d:i < ws.length:=by
    rcases wO i ws.length with h|h
    .exact h
    .rw[dX h] at hd;cases hd
   let m:=eV d;rw[hd] at m;let A:ws[i]?=sr w:=by rw[aM d,(jQ m).1]
   let(g,E,C):=step i w Y a S A u;unfold Je;rw[E];dsimp only;refine Ax Ala[Ba C λp o h=>?_];cases p with
   |false=>exact z (i+1) g a o (jQ m).2.symm h d
   |true=>
    refine Ax[Ba h λy x ⟨hl,hJ2⟩=>?_];rw[di hl];exact z (i+1) g (a ++ [y]) x (jQ m).2.symm hJ2 d
 exact q ws 0 Y a S rfl D bI[_]
def Abq{J:Nat->De->lg W->Store->Prop}(step:∀(i:Nat)(w:W)(Y:De)(a:lg W)(S:Store),ws[i]?=sr w->J i Y a S->∃c,s w Y=sr c/\Wm t[c] S λp j=>if p=t8 then Wm e[c] j λy u=>a.length < big/\J (i+1) c (a ++ [y]) u else J (i+1) c a j)(g:∀Y a S,J ws.length Y a S->Q a S)(q:J 0 Y a S):Wm (M7 s t e ws Y a) S Q:=(
 Adg (λi w Y a S m o=>by
  let(c,r,h):=step i w Y a S m o;refine(c,r,Ba h λp j h=>?_);cases p with
  |false=>exact h
  |true=>exact Ala h) g q)
theorem K7{J:Nat->De->lg W->Store->Prop}{gt:Store->Nat->o9 o9[W]}(there:∀i Y c S,J i Y c S->gt S i=sr ws[i]?)(step:∀(i:Nat)(w:W)(Y:De)(c:lg W)(S:Store),ws[i]?=sr w->J i Y c S->∃d,s w Y=sr d/\Wm t[d] S λp m=>if p=t8 then Wm e[d] m λy u=>c.length < big/\J (i+1) d (c ++ [y]) u else J (i+1) d c m)(j:∀Y c S,J ws.length Y c S->Q c S):∀(fuel i:Nat)(Y:De)(c:lg W)(S:Store),J i Y c S->i<=ws.length->ws.length < i+fuel->Wm (Ik s t e gt fuel i Y c) S Q
 |0,i,_,_,_,_,_,_=>by omega
 |fuel+1,i,Y,c,S,r,hi,hf=>by
  show ∃a B,_;unfold Ik;rw[there i Y c S r];by_cases o:i < ws.length
  .let v:=aM o;rw[v];dsimp only;let(d,A,z):=step i getElem[ws][i][by get_elem_tactic] Y c S v r;rw[A];dsimp only;refine Ax Ala[Ba z λp m h=>?_];cases p with
   |false=>exact K7 there step j fuel (i+1) d c m h o ()
   |true=>
    refine Ax Ala[Ba h λy u ⟨hl,hJ2⟩=>?_];rw[di hl];exact K7 there step j fuel (i+1) d (c ++ [y]) u hJ2 o ()
  .have:i=ws.length:=by omega
   subst this;rw[eE aN[_]];exact(_,_,rfl,j Y c S r)
def Asm{k:Nat}{a:lg Nat}(r:Pu P src[Y] .fix[ws])(m:P.p S)(o:∀d,Fr [] S d->Wm (M7 s t e ws (Kf k a Y) []) d λc h=>c.length<=big/\Q[.ref h.length][h ++ [.lst c]]):Wm (Cv k a src s t e Y) S Q:=(
 Ax[Ajf r m λd f=>Ax[Ba[o d f] λ_ _ ⟨hl,q⟩=>Xf hl q]])
def Ay1{k:Nat}{a:lg Nat}(r:Pu P src[Y] .fix[ws])(m:P.p S)(o:∀d,Fr [] S d->Wm (Je s t e ws (Kf k a Y) []) d λc h=>c.length<=big/\Q[.ref h.length][h ++ [.lst c]]):Wm (compX k a src s t e Y) S Q:=(
 Ax[Ajf r m λd f=>Ax[Ba[o d f] λ_ _ ⟨hl,q⟩=>Xf hl q]])
def Ano{k d:Nat}{c:lg Nat}(v:Pu P src[Y] .liv[d])(r:P.p S)(hd:S[d]?=sr .lst[ws])(u:∀h,Fr [] S h->Wm (Ik s t e liG[d] (ws.length+1) 0 (Kf k c Y) []) h λg l=>g.length<=big/\Q[.ref l.length][l ++ [.lst g]]):Wm (Cv k c src s t e Y) S Q:=by
 refine Ax[Ajf v r λh f=>?_];let(a,w,x,q):=Ax[Ba[u h f] λ_ _ ⟨o,q⟩=>Xf o q]
 refine(a,w,?_,q);show (match h[d]? with|some (.lst ws)=>_|_=>R.bad)=_
 rw[f.at0 hd];omega
end
section
variable{α β:Type}{Y:De}{S S':Store}{n:Nat}{c:Nat}{f g e:De->M W}{gs:De->M (lg W)}{t u:De->M Bool}{Q:W->Store->Prop}{K:RS->Prop}{b b':MS}{x y v w z:W}{ws us:lg W}{k:Key}{kvs:lg (Key×W)}{fs fs':lg (o8×W)}{m nm:o8}{ok:Bool->Nat->o8->Bool}
def Bjl{m:M α}{a:α}{Q:α->Store->Prop}(e:m S=.ok a S')(q:Q a S'):Wm m S Q:=(a,S',e,q)
def Ay2(h:Wm f[Y] S λx S1=>Wm (Te ok nm x) S1 Q):Wm (Dy ok nm f Y) S Q:=Ax h
theorem Asn(d:S[n]?=sr[.ins c fs])(a:ok tu c nm=t8)(hv:fs.lookup nm=sr w)(q:Q w S):Wm (Te ok nm .ref[n]) S Q:=(w,S,by
 unfold Te;dsimp only;rw[d];dsimp only;rw[di a,hv];rfl,q)
def Ag2{c0 c1:Cell}{P:Store->Prop}(hn:S[n]?=sr c0)(q:∀S',Fr [n] S S'->S'[n]?=sr c1->P S'):P[S.set n c1]:=q _ .set Ak9[Cm[hn]]
theorem Fv{Q:Unit->Store->Prop}(a:S[n]?=sr[.ins c fs])(h:(ok tu c nm&&decide[fs.length < 1000])=t8)(e:Km nm v fs=fs')(q:∀S',Fr [n] S S'->S'[n]?=sr[.ins c fs']->Q u9 S'):Wm (Ad8 ok nm .ref[n] v) S Q:=(u9,S.set n (.ins c fs'),by
 unfold Ad8;dsimp only;rw[a];dsimp only;rw[di h,e],Ag2 a q)
def Xg(h:Wm e[Y] S λy S1=>Wm g[Y] S1 λx S2=>Wm (Ad8 ok nm x y) S2 λuu S3=>Wb b' Y S3 K):Wb Ad[Gh ok nm g e][b'] Y S K:=K6 ⟨Iv Ax[Ba h λuu uu h=>Ax h]⟩
def Aqh(h:Wm e[Y] S λv S1=>Wm f[Y] S1 λx S2=>Wm g[Y] S2 λy S3=>Wm (Ad9 x y v) S3 λuu S4=>Wb b' Y S4 K):Wb Ad[Ij f g e][b'] Y S K:=K6 ⟨Iv Ax[Ba h λuu uu h=>Ax[Ba h λuu uu h=>Ax h]]⟩
theorem Jy{Q:Unit->Store->Prop}(a:S[n]?=sr .dct[kvs])(hk:Aag y=sr k)(h:kvs.length < big)(q:∀S',Fr [n] S S'->S'[n]?=sr .dct[Jl kvs k v]->Q u9 S'):Wm (Ad9 .ref[n] y v) S Q:=(u9,_,by
 unfold Ad9;dsimp only;rw[a,hk];dsimp only;rw[di h],Ag2 a q)
theorem Bdt{Q:Unit->Store->Prop}{i:Int}(a:S[n]?=sr .lst[ws])(h:0<=i)(hi:i < ws.length)(q:∀S',Fr [n] S S'->S'[n]?=sr .lst[ws.set i.toNat v]->Q u9 S'):Wm (Ad9 .ref[n] .int[i] v) S Q:=(u9,_,by
 unfold Ad9;dsimp only;rw[a];dsimp only;rw[di (by rw[dm h,dm hi];rfl)],Ag2 a q)
theorem Afs(a:S[n]?=sr .dct[kvs])(hk:Aag z=sr k)(hv:Abe kvs k=sr w)(q:∀S',Fr [n] S S'->S'[n]?=sr .dct[Ajc kvs k]->Q w S'):Wm (Xx .ref[n] [z]) S Q:=(w,_,by
 unfold Xx;dsimp only;rw[a,hk];dsimp only;rw[hv],Ag2 a q)
def Bdu(hn:S[n]?=sr .lst[ws])(hl:ws.length < big)(q:∀S',Fr [n] S S'->S'[n]?=sr .lst[ws ++ [w]]->Q .non S'):Wm (Abg .ref[n] [w]) S Q:=Auw hn hl (Ag2 hn q)
theorem Adh(a:S[n]?=sr .dct[kvs])(hk:Aag y=sr k)(hv:Abe kvs k=sr w)(q:Q w S):Wm (ixW .ref[n] y) S Q:=(w,S,by
 unfold ixW;dsimp only;rw[a];dsimp only;rw[hk];dsimp only;rw[hv];rfl,q)
def Aal{mt:Nat->o8->o9 Fi}(h:Wm f[Y] S λx S1=>Wm (Aea mt m x) S1 λi S2=>Wm gs[Y] S2 λws S3=>Wm (Ap7 i x ws) S3 Q):Wm (Bd mt m f gs Y) S Q:=Ax[Ba h λuu uu h=>Ax[Ba h λuu uu h=>Ax h]]
theorem Ly{mt:Nat->o8->o9 Fi}{i:Fi}{Q:Fi->Store->Prop}(a:S[n]?=sr[.ins c fs])(h:fs.lookup m=sy)(d:mt c m=sr i)(q:Q i S):Wm (Aea mt m .ref[n]) S Q:=(i,S,by
 unfold Aea;dsimp only;rw[a];dsimp only;rw[h,d],q)
def Ay3{g:lg W->M W}{np:Nat}{dv:lg W}(h:ws.length+1=np)(q:Wm (g (x::ws)) S Q):Wm (Ap7 (g,np,dv) x ws) S Q:=by
 unfold Ap7;rw[di h];exact q
def Ay4{T:Ty}{op:W->lg W->M W}(h:Wm f[Y] S λx S1=>T.is x S1=t8/\Wm gs[Y] S1 λws S2=>Wm (op x ws) S2 Q):Wm (Mv T op f gs Y) S Q:=Ax[Ba h λ_ _ ⟨e,h⟩=>Ax (u9,_,di e,Ax h)]
def Bjm(a:S[n]?=sr .dct[kvs]):Ty.is .dct .ref[n] S=t8:=by
 unfold Ty.is;dsimp only;rw[a]
def Bjn(a:S[n]?=sr .lst[ws]):Ty.is .lst .ref[n] S=t8:=by
 unfold Ty.is;dsimp only;rw[a]
def Dj(hl:ws.length<=big)(q:∀n S',Fr [] S S'->S'[n]?=sr .lst[ws]->S.length<=n->Q .ref[n] S'):Wm Be[ws] S Q:=Xf hl (q _ _ .app Hg aN[_])
def Aso(h:Wm gs[Y] S λws S1=>Wm Be[ws] S1 Q):Wm (Qq gs Y) S Q:=Ax h
def TB(Q:Bool->Store->Prop)(x:W)(S:Store):Prop:=∃p,x=.bl p/\Q p S
def tb{Q:Bool->Store->Prop}{p:Bool}(q:Q p S):TB Q .bl[p] S:=(p,rfl,q)
def Anp{Q:Bool->Store->Prop}(h:Wm f[Y] S TB[Q]):Wm (Ce f Y) S Q:=(Ax (Ba h λ_ _ ⟨p,e,q⟩=>by subst e;exact Bp q))
def Bgf{o:Bop}{a:W}(e:o.fn x y S=.ok a S')(q:Q a S'):Wm (o.fn x y) S Q:=(a,S',e,q)
def Bgg{o:vD}{a:W}(e:Ey o x y S=.ok a S')(q:Q a S'):Wm (Ey o x y) S Q:=(a,S',e,q)
def Ay5{a:W}(e:ixW x y S=.ok a S')(q:Q a S'):Wm (ixW x y) S Q:=(a,S',e,q)
def Asp{a:W}(e:Dm ws S=.ok a S')(q:Q a S'):Wm Dm[ws] S Q:=(a,S',e,q)
def Aeb{c:Prop}[Decidable c]{m n:M α}{Q:α->Store->Prop}(a:c)(h:Wm m S Q):Wm (if c then m else n) S Q:=by rw[di a];exact h
def Alc{i j:Int}(h:(small i||small j)=t8)(q:Q .int[i * j] S):Wm (Bop.fn .mul .int[i] .int[j]) S Q:=Aeb h Bp[q]
def Asq{i j:Int}(h:0 < j)(q:Q .int[i % j] S):Wm (Bop.fn .mod .int[i] .int[j]) S Q:=Aeb h Bp[q]
def Anq{i j:Int}(h:0 < j)(a:j < 1073741824)(q:Q .int[i / j] S):Wm (Bop.fn .fdiv .int[i] .int[j]) S Q:=(Aeb (by rw[dm h,dm a];rfl) Bp[q])
def Bdv{x y:o8}(h:x.length+y.length<=big)(q:Q .str[x ++ y] S):Wm (Bop.fn .add .str[x] .str[y]) S Q:=Aeb h Bp[q]
def Asr{x:o8}(h:x.length<=big)(q:Q .int[x.length] S):Wm Dm[[.str x]] S Q:=Aeb h Bp[q]
def Ay6{i j:Int}(q:Q .bl[decide[i < j]] S):Wm (Ey .Lt .int[i] .int[j]) S Q:=(_,S,rfl,q)
def Ay7{i j:Int}(q:Q .bl[decide[i<=j]] S):Wm (Ey .LtE .int[i] .int[j]) S Q:=(_,S,rfl,q)
def Ay8{i j:Int}(q:Q .bl[decide[j < i]] S):Wm (Ey .Gt .int[i] .int[j]) S Q:=(_,S,rfl,q)
def Ay9{i j:Int}(q:Q .bl[decide[j<=i]] S):Wm (Ey .GtE .int[i] .int[j]) S Q:=(_,S,rfl,q)
def Aza{i j:Int}(q:Q .bl[decide[i=j]] S):Wm (Ey .Eq .int[i] .int[j]) S Q:=(.bl decide[i=j],S,rfl,q)
def Azb{i j:Int}(q:Q .bl[!decide (i=j)] S):Wm (Ey .NotEq .int[i] .int[j]) S Q:=(.bl[!decide (i=j)],S,rfl,q)
def Bu(h:Wb b' Y S K):Wb Aj Y S (Lx b' K):=⟨h⟩
def K8{c:Prop}[Decidable c]{b2:MS}(d:c->Wb b Y S K)(a:¬ c->Wb b2 Y S K):Wb (if decide c=t8 then b else b2) Y S K:=by
 by_cases h:c
 .rw[dm h];exact d h
 .rw[dw h];exact a h
def Ass{Q:Bool->Store->Prop}(h:Wm t[Y] S λp S1=>Q (!p) S1):Wm (Gx t Y) S Q:=Ax[Ba h λuu uu q=>Bp q]
def Rn{Q:Bool->Store->Prop}(h:Wm t[Y] S λp d=>p=tu/\Wm u[Y] d Q):Wm (orT t u Y) S Q:=(Ax (Ba h λ_ _ ⟨e,q⟩=>by subst e;exact q))
def Bdw{Q:Bool->Store->Prop}(h:Wm t[Y] S λp d=>p=t8/\Q t8 d):Wm (orT t u Y) S Q:=(Ax (Ba h λ_ _ ⟨e,q⟩=>by subst e;exact Bp q))
theorem Ast(a:S[n]?=sr .dct[kvs])(q:Q .int[kvs.length] S):Wm Dm[[.ref n]] S Q:=(_,S,by
 unfold Dm;simp_all,q)
def Asu(d:S[n]?=sr .lst[ws])(h:ws.length<=big)(q:∀n S',Fr [] S S'->S'[n]?=sr .lst[ws]->S.length<=n->Q .ref[n] S'):Wm Ve[[.ref n]] S Q:=by
 let(a,i,e,z):=Dj h q;refine(a,i,?_,z);unfold Ve;dsimp only;rw[d];exact e
def Bjo(h:Wb b Y S (Lx b' K))(hk:∀c Y S,¬ Lx b' K (.ex c Y S)):Wb (Ad Agq[b] b') Y S K:=by
 refine K6 ⟨?_⟩;let h:=h.un;unfold Agq;revert h;cases b Y S with
 |ex c a d=>exact λz=>(hk _ _ _ z).elim
 |_=>exact λz=>z
def Ald{xs ys:lg W}(h:xs.length+ys.length<=big)(q:Q .tup[xs ++ ys] S):Wm (Bop.fn .add .tup[xs] .tup[ys]) S Q:=Aeb h Bp[q]
theorem Im{s:Tg}{gt:Store->Nat->o9 o9[W]}{J:Nat->De->Store->Prop}(there:∀i Y S,J i Y S->gt S i=sr ws[i]?)(step:∀(i:Nat)(w:W)(Y:De)(S:Store),ws[i]?=sr w->J i Y S->∃l,s w Y=sr l/\Wb b l S (Ay0 J[i+1] K))(d:∀Y S,J ws.length Y S->K[.nx Y S]):∀(fuel i:Nat)(Y:De)(S:Store),J i Y S->i<=ws.length->ws.length < i+fuel->Wb (Agn s b gt fuel i) Y S K
 |0,i,_,_,_,_,_=>by omega
 |fuel+1,i,Y,S,q,hi,hf=>by
  refine⟨?_⟩;unfold Agn;rw[there i Y S q];by_cases p:i < ws.length
  .let r:=aM p;let(l,A,a):=step i getElem[ws][i][by get_elem_tactic] Y S r q;rw[r];dsimp only;rw[A];dsimp only;let a:=a.un;revert a;cases b l S with
   |nx j o=>exact λa=>(Im there step d fuel (i+1) j o a p ()).un
   |ct j o=>exact λa=>(Im there step d fuel (i+1) j o a p ()).un
   |bk j o=>exact λa=>a
   |rt _ _=>exact λa=>a
   |ex _ _ _=>exact λa=>a
   |bad=>exact λa=>a
  .obtain rfl:i=ws.length:=by omega
   rw[eE aN[_]];exact d Y S q
def Xh{s:Tg}(h:Wm f[Y] S λx a=>∃n ws,x=.ref n/\a[n]?=sr .lst[ws]/\Wb (Agn s b liG[n] (ws.length+1) 0) Y a (Lx b' K)):Wb Ad[Mu Ea[f] s b][b'] Y S K:=by
 refine K6 ⟨Iv Ax[Ba h λx a ⟨n,ws,e,hn,hb⟩=>?_]⟩;subst e;refine(.liv n,a,?_,?_)
 .unfold Axm;dsimp only;rw[hn]
 .show Lx b' K (match a[n]? with|some (.lst ws)=>_|_=>_)
  rw[hn];exact hb.un
def Qu{b2:MS}(h:Wb b2 Y S K):Wb (if tu=t8 then b else b2) Y S K:=h
def Asv{b2:MS}(h:Wb b Y S K):Wb (if t8=t8 then b else b2) Y S K:=h
def Bjp{f g:De->M W}(h:Wm t[Y] S λp S1=>Wm (if p=t8 then f Y else g Y) S1 Q):Wm (Am0 t f g Y) S Q:=Ax h
def Bgh{f g:De->M W}(h:Wm g[Y] S Q):Wm (if tu=t8 then f Y else g Y) S Q:=h
def Bgi{f g:De->M W}(h:Wm f[Y] S Q):Wm (if t8=t8 then f Y else g Y) S Q:=h
def Ale{c:Prop}[Decidable c]{d a:M α}{Q:α->Store->Prop}(j:c->Wm d S Q)(i:¬ c->Wm a S Q):Wm (if decide c=t8 then d else a) S Q:=by
 by_cases h:c
 .rw[dm h];exact j h
 .rw[dw h];exact i h
end
section
variable{α β:Type}{Y:De}{S S':Store}{n:Nat}{c:Nat}{f g e:De->M W}{gs:De->M (lg W)}{t u:De->M Bool}{Q:W->Store->Prop}{K:RS->Prop}{b b':MS}{x y v w z:W}{ws us:lg W}{k:Key}{kvs:lg (Key×W)}
def Bmr{l h:De->M o9[Int]}(q:Wm f[Y] S λx S1=>Wm l[Y] S1 λlo S2=>Wm h[Y] S2 λhi S3=>Wm (slW x lo hi) S3 Q):Wm (slF f l h Y) S Q:=Ax[Ba q λuu uu q=>Ax[Ba q λuu uu q=>Ax q]]
def PI(Q:o9 Int->Store->Prop)(x:W)(S:Store):Prop:=∃i,x=.int i/\Q sr[i] S
def pi_{Q:o9 Int->Store->Prop}{i:Int}(q:Q sr[i] S):PI Q .int[i] S:=(i,rfl,q)
def Bdx{Q:o9 Int->Store->Prop}(h:Wm f[Y] S PI[Q]):Wm (Cw f Y) S Q:=(Ax (Ba h λ_ _ ⟨i,e,q⟩=>by subst e;exact Bp q))
def Bjq{Q:o9 Int->Store->Prop}(q:Q sy S):Wm Bs[Y] S Q:=Bp q
def Azc{z:o8}{lo hi:o9 Int}(hz:z.length<=big)(q:Q .str[dN z lo hi] S):Wm (slW .str[z] lo hi) S Q:=Aeb hz Bp[q]
def Alf{lo hi:o9 Int}(d:S[n]?=sr .lst[ws])(h:(Ac7 ws lo hi).length<=big)(q:∀n S',Fr [] S S'->S'[n]?=sr .lst[Ac7 ws lo hi]->S.length<=n->Q .ref[n] S'):Wm (slW .ref[n] lo hi) S Q:=by
 let(a,i,e,z):=Dj h q;refine(a,i,?_,z);unfold slW;dsimp only;rw[d];exact e
theorem Bjr(a:S[n]?=sr .dct[kvs])(hk:Aag x=sr k)(q:Q .bl[(Abe kvs k).isSome] S):Wm (Ey .In x .ref[n]) S Q:=(_,S,by
 show inW tu x .ref[n] S=_;unfold inW;dsimp only;rw[a];dsimp only;rw[hk];rfl,q)
theorem Bdy(a:S[n]?=sr .dct[kvs])(hk:Aag x=sr k)(q:Q .bl[!(Abe kvs k).isSome] S):Wm (Ey .NotIn x .ref[n]) S Q:=(_,S,by
 show inW t8 x .ref[n] S=_;unfold inW;dsimp only;rw[a];dsimp only;rw[hk];rfl,q)
def Ag3(d:S[n]?=sr .dct[kvs])(h:kvs.length<=big)(q:∀m S',Fr [] S S'->S'[m]?=sr .lst[kvs.map λp=>kW p.1]->S.length<=m->Q .ref[m] S'):Wm Ve[[.ref n]] S Q:=by
 let(a,i,e,z):=Dj (by rw[aB];exact h) q
 refine(a,i,?_,z);unfold Ve;dsimp only;rw[d];exact e
def Bdz{z:o8}{n:Int}(h:(decide[z.length<=16]&&decide[-1048576<=n]&&decide[n<=1048576])=t8)(q:Q .str[yP z n] S):Wm (Bop.fn .mul .str[z] .int[n]) S Q:=Aeb h Bp[q]
def Bd0{i j:Int}(q:Q (.int (if j > i then j else i)) S):Wm Ap4[[.int i,.int j]] S Q:=(_,S,rfl,q)
def Qv(q:∀m S',Fr [] S S'->S'[m]?=sr .dct[[]]->S.length<=m->Q .ref[m] S'):Wm (Mm [] Y) S Q:=(_,_,rfl,q _ _ .app Hg aN[_])
def Bd1{a:W->lg W->M W}(h:Wm f[Y] S λx d=>∃n kvs,x=.ref n/\d[n]?=sr .dct[kvs]/\Wm gs[Y] d λws l=>Wm (a x ws) l Q):Wm (Mv .dct a f gs Y) S Q:=(Ay4 (Ba h λ_ _ ⟨n,kvs,e,hn,h⟩=>by subst e;exact(Bjm hn,h)))
def Bd2{a:W->lg W->M W}(h:Wm f[Y] S λx d=>∃n ws,x=.ref n/\d[n]?=sr .lst[ws]/\Wm gs[Y] d λws l=>Wm (a x ws) l Q):Wm (Mv .lst a f gs Y) S Q:=(Ay4 (Ba h λ_ _ ⟨n,kvs,e,hn,h⟩=>by subst e;exact(Bjn hn,h)))
end
section
variable{α:Type}{Y:De}{S:Store}{f:De->M W}{t:De->M Bool}{e:De->M W}{Q:W->Store->Prop}{s:Tg}
def Azd{S:Store}{n:Nat}{c d:Cell}{G:Store}(h:S[n]?=sr c):((S.set n d) ++ G).set n c=S ++ G:=by
 let b:=Cm h;rw[List.set_append_left _ _ (by rw[gV];exact b),List.set_set]
 congr 1
 apply qU;intro i;by_cases hi:i=n
 .subst hi;rw[eX b,h]
 .rw[fM eO[hi]]
def Aze{k:Nat}{g:lg Nat}(h:Wm f[Y] S λx b=>∃n c d,x=.ref n/\b[n]?=sr .dct[c]/\Wm[M7 s t e (c.map λp=>kW p.1) (Kf k g Y) []][b.set n .dead][λa m=>a=d/\m=b.set n .dead]/\d.length<=big/\∀r i,Fr [] b i->i[r]?=sr .lst[d]->b.length<=r->Q .ref[r] i):Wm (Arx k g f s t e Y) S Q:=by
 refine Ax[Ba h ?_];rintro x b ⟨n,c,d,rfl,l,⟨a,m,v,rfl,rfl⟩,u,q⟩;refine(.ref b.length,b ++ [.lst a],?_,q _ _ .app Hg aN[_]);dsimp only;rw[l];dsimp only;have:(M7 s t e (c.map λp=>kW p.1) (Kf k g Y) [] >>= Be) (b.set n .dead)=.ok[.ref b.length][b.set n .dead ++ [.lst a]]:=by
  rw[Bm,v];unfold Be;dsimp only;rw[di u,gV]
 rw[this];dsimp only;rw[Azd l]
end
end D
namespace M1
open PySem PySem.Builtin.Str
def sgs:o8:="0123456789abcdefghijklmnopqrstuvwxyzABCDEFGHIJKLMNOPQRSTUVWXYZ+-"
def Azf:sgs.cps.toList=[48,49,50,51,52,53,54,55,56,57,97,98,99,100,101,102,103,104,105,106,107,108,109,110,111,112,113,114,115,116,117,118,119,120,121,122,65,66,67,68,69,70,71,72,73,74,75,76,77,78,79,80,81,82,83,84,85,86,87,88,89,90,43,45]:=by rfl
def Abr:sgs.cps.size=64:=by decide +kernel
def Aqi:sgs.length=64:=Abr
def sg(v:Nat):Nat:=sgs.cps.getD v 0
def one(c:Nat):o8:=⟨#[c]⟩
def Ag4(c:Nat):(one c).length=1:=rfl
def Aqj{v:Nat}(h:v < 64):sgs.cps.toList[v]?=sr sg[v]:=by
 let b:v < sgs.cps.size:=by rw[Abr];omega
 unfold sg;simp_all
def subAt_one{c i:Nat}(hi:i < x.cps.size)(h:subAt x one[c] i=t8):x.cps[i]?=sr c:=by
 let b:=congrArg[λa=>a[0]?][eq_of_beq h];rw[Array.getElem?_extract_of_lt (by rw[Ag4];omega)] at b
 rw[qH hi];trivial
def idx(c:Nat):Nat:=(occurrences sgs one[c] 0 sgs.length 1).headD 0
def inS(c:Nat):Bool:=!(occurrences sgs one[c] 0 sgs.length 1).isEmpty
def Anr{c:Nat}(h:inS c=t8):∃rest,occurrences sgs one[c] 0 sgs.length 1=idx c::rest:=by
 unfold inS at h;unfold idx;cases e:occurrences sgs _ 0 sgs.length 1 with
 |nil=>simp_all
 |cons i r=>exact(r,rfl)
def Ans{c:Nat}(h:inS c=t8):idx c < 64/\sgs.cps[idx c]?=sr c:=by
 let(r,e):=Anr h;let q:=StrLaws.occ_spec sgs _ 0 sgs.length 1 _ (by rw[e];exact bG)
 rw[Ag4,Aqi] at q;exact((),subAt_one (by rw[Abr];omega) q.2)
def Bjs{c:Nat}(h:inS c=t8):idx c < 64:=(Ans h).1
def Azg{v:Nat}(h:v < 64):inS sg[v]=t8:=by
 unfold inS one;rw[StrLaws.found_one];exact dm dO[Aqj[h]]
def Bjt{v:Nat}(h:v < 64):idx sg[v]=v:=by
 let(j,c):=Ans Azg[h];let a:sgs.cps.toList[idx sg[v]]?=sr sg[v]:=by rw[gC];exact c
 let b:=Aqj h;let(i,e):=aC.mp a;let(g,d):=aC.mp b;exact(jU (by
   rw[Azf];decide)).mp e.trans[d.symm]
def Dv:Nat->Int->o8
 |0,_=>⟨#[]⟩
 |k+1,n=>one sg[(n / 64 ^ k % 64).toNat] ++ Dv k n
def Aux(k:Nat)(n:Int):(Dv k n).cps.size=k:=by
 induction k with
 |zero=>rfl
 |succ k a=>
  show ((one _).cps ++ _).size=k+1;rw[wU,a];show 1+k=k+1;omega
def Azh:lg Nat->Int->Int
 |[],n=>n
 |c::r,n=>Azh r (n * 64+(idx c:Int))
def Ajg(k:Nat)(n:Int):(Dv (k+1) n).cps.toList=sg (n / 64 ^ k % 64).toNat::(Dv k n).cps.toList:=by
 show ((one _).cps ++ _).toList=_;rw[mG];rfl
def toNat_lt(n:Int):(n % 64).toNat < 64:=by omega
def Azi(n:Int){p q:Int}(hp:0 < p)(b:0 < q):n % (p * q)=(n / p % q) * p+n % p:=by
 let j:=tU n p;let i:=tU (n / p) q;let d:=jD[n / p][aBg b];let h:=lC (n / p) b;let c:=jD n aBg[hp];let g:=lC n hp;generalize n / p % q=r at *
 generalize n % p=t at *
 generalize n / p / q=m at *
 let f:n=(r * p+t)+(p * q) * m:=by
  grind
 rw[f,Int.add_mul_emod_self_left];refine wV Int.add_nonneg[Int.mul_nonneg d aBh[hp]][c] ?_;let e:(r+1) * p<=q * p:=Int.mul_le_mul_of_nonneg_right () aBh[hp]
 rw[aCa,Int.one_mul] at e;rw[aBi p q];omega
def Azj(k:Nat)(n a:Int)(_hn:0<=n):Azh (Dv k n).cps.toList a=a * 64 ^ k+n % 64 ^ k:=by
 induction k generalizing a with
 |zero=>show a=_;omega
 |succ k c=>
  rw[Ajg];show Azh (Dv k n).cps.toList _=_;rw[c,Bjt toNat_lt[_]];let e:_=n / 64 ^ k % 64:=iK[jD _ ()]
  rw[e];let d:n % 64 ^ (k+1)=(n / 64 ^ k % 64) * 64 ^ k+n % 64 ^ k:=by
   rw[wW];exact Azi n Int.pow_pos[by simp] (by simp)
  rw[d,wW,aCa,Int.mul_assoc,aBi 64 _];omega
def Bd3{k:Nat}{n:Int}(b:0<=n)(hk:n < 64 ^ k):Azh (Dv k n).cps.toList 0=n:=by
 rw[Azj k n 0 b,Int.zero_mul,sS];exact wV b hk
end M1
namespace M2
open PySem PySem.Builtin.Str M1
def okC(c:Nat):Bool:=decide[32<=c]&&decide[c<=126]&&decide[c≠37]
def Eb(x:o8):Bool:=x.cps.toList.all okC
def Bms(l:lg Nat)(k:Nat):Int:=((cO k).map λ(i:Nat)=>((l.getD i 0:Nat) - 32+1:Int) * ((i:Int)+1)).sum
def chk(l:lg Nat):Int:=Bms l l.length
def check(x:o8):o8:=Dv 2 (chk x.cps.toList % 4093)
def Bd4{c:Nat}:okC c=t8 ↔ 32<=c/\c<=126/\c≠37:=by
 unfold okC;simp[and_assoc]
def Bd5{l:lg Nat}{a:Nat}(h:l.all okC=t8)(c:a < l.length):okC[l.getD a 0]=t8:=by
 rw[cG,aM c];exact bF.mp h _ fY[c]
def Ant{b:Type}{p:b->Bool}{a:b}{l:lg b}(f:p a=t8)(h:∃c∈a::l,p c=tu):∃c∈l,p c=tu:=by grind
theorem Adi{b:Type}(p:b->Bool):∀l:lg b,(∃c∈l,p c=tu)->(l.takeWhile p).length < l.length
 |[],h=>by simp_all
 |a::l,h=>by
  rw[oX];cases f:p a with
  |false=>simp
  |true=>
   have:=Adi p l (Ant f h);simp_all
theorem Ajh{b:Type}(p:b->Bool):∀l:lg b,(∀c∈l,p c=t8)->l.takeWhile p=l
 |[],_=>rfl
 |a::l,h=>by
  rw[oX,h a .head[_],di rfl,Ajh p l (λc f=>h c (.tail _ f))]
theorem Aji{b:Type}(p:b->Bool):∀l:lg b,(∃c∈l,p c=tu)->∃c∈l.drop (l.takeWhile p).length,p c=tu
 |[],h=>by trivial
 |a::l,h=>by
  rw[oX];cases f:p a with
  |false=>trivial
  |true=>
   exact Aji p l (Ant f h)
def Auy(h:∀c∈x.cps.toList,y.cps.contains c=t8):iZ x y=⟨#[]⟩:=by
 let lo:stripLo y.cps.contains t8 x=x.cps.size:=by
  unfold stripLo;rw[di rfl,Ajh _ _ h,aW]
 unfold iZ aCb;split
 .rename_i a;unfold stripSame at a;rw[lo,aQ] at a;have:x.cps.size=0:=by simpa using a.1
  cases x with|mk d=>
  exact congrArg Str.mk oG[this]
 .unfold stripped;rw[lo];exact congrArg Str.mk oG[by simp]
def Auz(h:∃c∈x.cps.toList,y.cps.contains c=tu):iZ x y≠⟨#[]⟩:=by
 let i:x.cps.toList.length=x.cps.size:=aW;let a:stripLo y.cps.contains t8 x=(x.cps.toList.takeWhile y.cps.contains).length:=by
  rfl
 let k:=Adi _ _ h;let j:=Aji _ _ h;let f:∃c∈(x.cps.toList.drop (x.cps.toList.takeWhile y.cps.contains).length).reverse,y.cps.contains c=tu:=by
  simp_all
 let d:=Adi _ _ f;rw[List.length_reverse,dJ] at d;intro e;let e:=congrArg (λz:o8=>z.cps.size) e;unfold iZ aCb at e;split at e
 .let e:x.cps.size=0:=e;omega
 .unfold stripped at e;rw[a] at e;unfold stripHi at e;let e:(x.cps.extract (x.cps.toList.takeWhile y.cps.contains).length (x.cps.size - _)).size=0:=e;rw[Array.size_extract] at e;omega
def tsg:o8:=" !\"#$&'()*+,-./0123456789:;<=>?@ABCDEFGHIJKLMNOPQRSTUVWXYZ[\\]^_`abcdefghijklmnopqrstuvwxyz{|}~"
def Bd6:∀c,c < 127->tsg.cps.contains c=okC c:=by decide +kernel
def Bd7:tsg.cps.toList.all[λc=>decide[c < 127]]=t8:=by decide +kernel
def Azk(c:Nat):tsg.cps.contains c=okC c:=by
 by_cases h:c < 127
 .exact Bd6 c h
 .let e:okC c=tu:=by
   unfold okC;rw[dw (p:=c<=126) (),Bool.and_false,yU]
  rw[e];cases d:tsg.cps.contains c with
  |false=>rfl
  |true=>
   let b:c∈tsg.cps.toList:=by simpa using d
   exact absurd dg[bF.mp Bd7 c b] h
def Aqk(z:o8):(iZ z tsg==⟨#[]⟩)=Eb z:=by
 cases h:Eb z with
 |true=>
  rw[Auy (λc a=>by rw[Azk];exact bF.mp h c a)]
  exact beq_self_eq_true _
 |false=>
  rw[beq_eq_false_iff_ne];refine Auz ?_;let(c,a,hp):=List.all_eq_false.mp h;exact(c,a,by rw[Azk];exact rR _ ▸ hp)
end M2
namespace KX
open PySem PySem.Spec PyProof.Rows L2 D
abbrev kI(i:Int):=kF .int[i]
abbrev kS(z:o8):=kF .str[z]
abbrev kB(b:Bool):=kF .bl[b]
abbrev yA(f:De->M W):=Ds f nilF
abbrev yB(f g:De->M W):=Ds f yA[g]
abbrev yC(f g h:De->M W):=Ds f (yB g h)
abbrev yD(f g h i:De->M W):=Ds f (yC g h i)
abbrev zA(s:lg W->M W)(f:De->M W):=Dg s yA[f]
abbrev zB(s:lg W->M W)(f g:De->M W):=Dg s (yB f g)
abbrev zC(s:lg W->M W)(f g h:De->M W):=Dg s (yC f g h)
abbrev tQ(o:vD)(f g:De->M W):=Ce[Er o f g]
abbrev rQ(f:De->M W):=Ad retS[f] Aj
def top(i:Nat):cQ:=PySem.Challenge.pw_leafhouse_k10_whole_shelves_alike.main.body.getD i (.Pass (0,0,0,0))
def Bmt:lg[Nat×Nat×Bool]:=[(0,0,t8),(0,1,tu),(0,2,tu),(0,3,tu),(0,4,tu),(0,5,tu),(1,0,t8),(1,1,t8),(1,2,tu),(1,3,tu),(1,4,tu),(1,5,tu),(2,0,t8),(2,1,tu),(2,2,t8),(2,3,tu),(2,4,tu),(2,5,tu),(3,0,t8),(3,1,tu),(3,2,tu),(3,3,t8),(3,4,tu),(3,5,tu),(4,0,t8),(4,1,tu),(4,2,tu),(4,3,tu),(4,4,t8),(4,5,tu),(5,0,t8),(5,1,tu),(5,2,tu),(5,3,tu),(5,4,tu),(5,5,t8)]
def Bmu:lg Nat:=[0,1,2,3,4,5]
def isa:Nat->W->o9 Bool:=Ayr Bmt Bmu
def Bmv:lg[Nat×o8]:=[(8,"size"),(8,"page_texts"),(8,"row_texts"),(8,"begun"),(8,"off"),(8,"turns_left"),(8,"signs_done"),(6,"body"),(6,"place"),(7,"disk"),(7,"most"),(7,"at_hand"),(7,"unwritten"),(7,"read_so_far")]
def xfL:lg[Nat×o8]:=[(4,"number")]
def fld(b:Bool)(c:Nat)(f:o8):Bool:=if b then xfL.lookup c==sr f else Bmv.contains[u6 c f]
def mnL:lg o8:=["__init__","add","begin_write","changed","clear","end_write","fall","forget","held","hold","is_off","make_room","next_cell","next_key","next_keys","next_number","next_numbers","next_row","next_rows","next_signs","page","pages","put","read","reads","rows","up","write","writes"]
def mkL:lg[o8×Nat]:=[("BodyReader",6),("Shelf",7),("Disk",8)]
def Bmw:lg[o8×W]:=(u6 "SIGNS" .str["0123456789abcdefghijklmnopqrstuvwxyzABCDEFGHIJKLMNOPQRSTUVWXYZ+-"])::(u6 "BITS" .int[6])::(u6 "LOWEST_BITS" .int[63])::(u6 "MOST_SIGNS" .int[3])::(u6 "TEXT_SIGNS" .str[" !\"#$&'()*+,-./0123456789:;<=>?@ABCDEFGHIJKLMNOPQRSTUVWXYZ[\\]^_`abcdefghijklmnopqrstuvwxyz{|}~"])::(u6 "CODES_AHEAD" .int[31])::(u6 "CHECK_DIVISOR" .int[4093])::(u6 "CHECK_SIGNS" .int[2])::(u6 "MOST_KEY_SIGNS" .int[12])::(u6 "MOST_VALUE_SIGNS" .int[400])::(u6 "LEAST_SIZE" .int[64])::(u6 "MOST_SIZE" .int[200])::(u6 "MOST_NUMBER" .int[4095])::(u6 "MOST_ROWS" .int[63])::(u6 "MOST_CELL_SIGNS" .int[63])::(u6 "NUMBER_SIGNS" .int[2])::(u6 "SIGNS_BESIDE_BODY" .int[5])::(u6 "BODY_START" .int[3])::(u6 "LEAST_HELD" .int[2])::(u6 "MOST_HELD" .int[40])::(u6 "int" .ty["int"])::(u6 "bool" .ty["bool"])::(u6 "str" .ty["str"])::(u6 "tuple" .ty["tuple"])::(u6 "list" .ty["list"])::(u6 "ValueError" .ty["ValueError"])::(u6 "TableError" .cls[0])::(u6 "BadNumber" .cls[1])::(u6 "BadText" .cls[2])::(u6 "BadSize" .cls[3])::(u6 "BadPage" .cls[4])::(u6 "PowerGone" .cls[5])::(u6 "BodyReader" .cls[6])::(u6 "Shelf" .cls[7])::(u6 "Disk" .cls[8])::[]
def biL:lg o8:=["isinstance","len","ord","max","sum","all","tuple","list","sorted","range","zip","enumerate","set"]
def Qw:lg[o8×o8]:=[("head","h"),("leaf","l"),("fork","f"),("rest","r"),("free","e")]
def Bmx:lg[o8×lg[o8×o8]]:=[("LETTERS",Qw)]
def md:Md:={ con:=λx=>Bmw.lookup x,bi:=λx=>biL.contains x,isa:=isa,fld:=fld,mdc:=λx=>Bmx.lookup x,mn:=λx=>mnL.contains x,mkl:=λx=>mkL.lookup x }
def T_0:lg[o8×Fi]:=[]
def U_0:lg[(Nat×o8)×Fi]:=[]
abbrev Vq:cQ:=top 72
def Anu:lg o8:=["_law_script"]
def Aec:MS:=rQ Mm[[((kS "script"),(Aa 0)),((kS "at"),(kI 0)),((kS "seed"),(kI 7))]]
def Vr:lg W->M W:=Bj 1 1 Aec
def Anv:Bk[Ah Vq][md.gm T_0 Anu Ac[Vq] U_0]=Aec:=by rfl'
def Aed:lg[o8×Fi]:=(u6 "_law_tape" (Vr,1,[]))::T_0
abbrev Vs:cQ:=top 71
def Anw:lg o8:=["_law_tape_here","_law_many","_law_cell"]
def Aee:MS:=Ad (Bq 2 kI[0])
 (Ad (ifS tQ[.Lt][ixF Aa[0] kS["at"]][zA[Dm][ixF Aa[0] kS["script"]]] (Ad (Bq 2 ixF[ixF Aa[0] kS["script"]][ixF Aa[0] kS["at"]])
  Aj) Aj)
 (Ad (Ij Aa[0] kS["at"] Bc[.add][ixF Aa[0] kS["at"]][kI[1]])
 (Ad Ij[Aa 0][kS "seed"][Bc .mod Bc[.add][Bc .mul Bc[.add][ixF Aa[0] kS["seed"]][Aa[2]] kI[48271]][kI[11]] kI[2147483647]]
 (rQ[Bc .mod Bc[.fdiv][ixF Aa[0] kS["seed"]][kI[11]] Aa[1]]))))
def Aq:lg W->M W:=Bj 2 3 Aee
def Anx:Bk[Ah Vs][md.gm Aed Anw Ac[Vs] U_0]=Aee:=by rfl'
def Aef:lg[o8×Fi]:=(u6 "_law_draw" (Aq,2,[]))::Aed
abbrev Vt:cQ:=top 78
def Any:lg o8:=["_law_tape_here"]
def Aeg:MS:=rQ ixF[Qq[yD kI[64] kI[200] Bc[.add][kI[64]][zB Aq Aa[0] kI[137]] Bc[.add][kI[64]][zB Aq Aa[0] kI[20]]]][zB Aq Aa[0] kI[4]]
def Vu:lg W->M W:=Bj 1 1 Aeg
def Anz:Bk[Ah Vt][md.gm Aef Any Ac[Vt] U_0]=Aeg:=by rfl'
def Aeh:lg[o8×Fi]:=(u6 "_law_size" (Vu,1,[]))::Aef
abbrev Aam:cQ:=top 17
def Aql:lg o8:=["thing"]
def Ag5:MS:=rQ Jd[zB Aah[isa] Aa[0] kF[.ty["int"]]][Bl7[zB Aah[isa] Aa[0] kF[.ty["bool"]]]]
def Ff:lg W->M W:=Bj 1 1 Ag5
def Aqm:Bk[Ah Aam][md.gm Aeh Aql Ac[Aam] U_0]=Ag5:=by rfl'
def Ag6:lg[o8×Fi]:=(u6 "is_whole" (Ff,1,[]))::Aeh
abbrev Adj:cQ:=top 37
def Au0:lg o8:=["thing"]
def Ajj:MS:=rQ Jd[zA Ff Aa[0]][Ri .LtE .LtE kI[64] Aa[0] kI[200]]
def Qx:lg W->M W:=Bj 1 1 Ajj
def Au1:Bk[Ah Adj][md.gm Ag6 Au0 Ac[Adj] U_0]=Ajj:=by rfl'
def Adk:lg[o8×Fi]:=(u6 "is_size" (Qx,1,[]))::Ag6
abbrev Mi:cQ:=inClass top[69] 0
def Ae7:lg o8:=["self","size"]
def Ti:MS:=Ad (ifS Gx[Ce[zA Qx Aa[1]]] (Ad Jf
  Aj) Aj)
 (Ad (Gh fld "size" Aa[0] Aa[1])
 (Ad (Gh fld "page_texts" Aa[0] Qq[nilF])
 (Ad (Gh fld "row_texts" Aa[0] Qq[nilF])
 (Ad (Gh fld "begun" Aa[0] kI[0])
 (Ad (Gh fld "off" Aa[0] kB[tu])
 (Ad (Gh fld "turns_left" Aa[0] kI[0])
 (Ad (Gh fld "signs_done" Aa[0] kI[0])
 Aj)))))))
def Iw:lg W->M W:=Bj 2 2 Ti
def Ae8:Bk[Ah Mi][md.gm Adk Ae7 Ac[Mi] U_0]=Ti:=by rfl'
def Ar:lg[(Nat×o8)×Fi]:=(u6 (u6 8 "__init__") (Iw,2,[]))::U_0
abbrev Rp:cQ:=top 73
def Alh:lg o8:=["_law_signs_here"]
def Abs:MS:=Ad (Bq 0 kS[" !\"#$&'()*+,-./0123456789:;<=>?@ABCDEFGHIJKLMNOPQRSTUVWXYZ[\\]^_`"])
 (rQ[Bc .add Aa[0] kS["abcdefghijklmnopqrstuvwxyz{|}~"]])
def Rq:lg W->M W:=Bj 0 1 Abs
def Ali:Bk[Ah Rp][md.gm Adk Alh Ac[Rp] Ar]=Abs:=by rfl'
def Abt:lg[o8×Fi]:=(u6 "_law_signs" (Rq,0,[]))::Adk
abbrev Vv:cQ:=top 74
def An0:lg o8:=["_law_tape_here","_law_size_here","_law_first","_law_step"]
def Aei:MS:=Ad Bq[2][zB Aq Aa[0] kI[94]]
 (Ad (Bq 3 Bc[.add][kI[1]][zB Aq Aa[0] kI[93]])
 (rQ[Mv .str Vi kS[""] yA[Cv 1 [2,3] (Ii Fj yA[Aa[1]]) Br[0] (λuu=>pure t8) ixF[Dg Rq nilF][Bc .mod Bc[.add][Aa[1]][Bc .mul Aa[0] Aa[2]] kI[94]]]]))
def Jo:lg W->M W:=Bj 2 4 Aei
def An1:Bk[Ah Vv][md.gm Abt An0 Ac[Vv] Ar]=Aei:=by rfl'
def Aej:lg[o8×Fi]:=(u6 "_law_text" (Jo,2,[]))::Abt
abbrev Vw:cQ:=top 75
def An2:lg o8:=["_law_tape_here","_law_many","_law_base","_law_at","_law_size_here","_law_signs_here"]
def Aek:MS:=Ad Bq[2][zB Jo Aa[0] kI[12]]
 (Ad (ifS tQ[.Eq][zB Aq Aa[0] kI[3]][kI[0]] rQ[Cv[1][[2]][Ii Fj yA[Aa[1]]][Br 0][λuu=>pure t8][slF Aa[1] Bs Cw[Bc .add Aa[0] kI[1]]]] Aj)
 (Ad Bq[3][zB Aq Aa[0] kI[12]]
 (Ad Bq[4][Bc .add Aa[3] zB[Aq][Aa[0]][Bc .sub kI[13] Aa[3]]]
 (Ad (Bq 5 slF[zB Jo Aa[0] kI[94]][Bs][Cw[Aa[1]]])
 (rQ zA[K4][Cv 1 [3,2,4] Ea[Aa[5]] Br[0] (λuu=>pure t8) Bc[.add][Bc[.add][slF Aa[2] Bs Cw[Aa[1]]][Aa[0]]][slF Aa[2] Cw[Bc .add Aa[1] kI[1]] Cw[Aa[3]]]])))))
def Pj:lg W->M W:=Bj 2 6 Aek
def An3:Bk[Ah Vw][md.gm Aej An2 Ac[Vw] Ar]=Aek:=by rfl'
def Ael:lg[o8×Fi]:=(u6 "_law_keys" (Pj,2,[]))::Aej
abbrev Qi:cQ:=top 76
def Aii:lg o8:=["_law_tape_here","_law_page_here","_law_key","_law_size_here","_law_most","_law_cell"]
abbrev aB1:=rQ Jr[yB kS["leaf"] Bc[.add][ixF Aa[1] kI[1]][Jr[yA[Jr[yB Aa[2] Aa[5]]]]]]
def Xz:MS:=Ad (ifS tQ[.Eq][ixF Aa[1] kI[0]][kS["fork"]] rQ[Jr[yC kS["fork"] Bc[.add][ixF Aa[1] kI[1]][Jr[yA[Aa[2]]]] Bc[.add][ixF Aa[1] kI[2]][Jr[yA[Bc[.add][kI[1]][zB Aq Aa[0] Aa[4]]]]]]] Aj)
 (Ad (Bq 5 Jr[yC kS["out"] Bc[.add][kI[1]][zB Aq Aa[0] kI[400]] Bc[.add][kI[1]][zB Aq Aa[0] Aa[4]]])
 (Ad (ifS tQ[.Gt][zB Aq Aa[0] kI[3]][kI[0]] (Ad (Bq 5 Jr[yB kS["in"] zB[Jo][Aa[0]][zB Aq Aa[0] Bc[.add][Bc .fdiv Aa[3] kI[8]][kI[1]]]])
  Aj) Aj)
 aB1))
def Lk:lg W->M W:=Bj 5 6 Xz
def Aij:Bk[Ah Qi][md.gm Ael Aii Ac[Qi] Ar]=Xz:=by rfl'
def X3:lg[o8×Fi]:=(u6 "_law_longer" (Lk,5,[]))::Ael
abbrev Ag7:cQ:=top 19
def Azl:lg o8:=["number","many","text","left","place"]
abbrev aA3:=kS "0123456789abcdefghijklmnopqrstuvwxyzABCDEFGHIJKLMNOPQRSTUVWXYZ+-"
abbrev aA8:=Ad Bq[2][Bc .add ixF[aA3][Bc .and Aa[3] kI[63]] Aa[2]] (Ad Bq[3][Bc .shr Aa[3] kI[6]] Aj)
def An4:MS:=Ad (ifS orT[Gx Ce[zA Ff Aa[0]]][tQ .Lt Aa[0] kI[0]] (Ad Jf
  Aj) Aj)
 (Ad (ifS (orT Gx[Ce[zA Ff Aa[1]]] orT[tQ .Lt Aa[1] kI[1]][tQ .Gt Aa[1] kI[3]]) (Ad Jf
  Aj) Aj)
 (Ad (ifS (tQ .Gt Bc[.shr][Aa[0]][Bc .mul kI[6] Aa[1]] kI[0]) (Ad Jf
  Aj) Aj)
 (Ad (Bq 2 kS[""])
 (Ad (Bq 3 Aa[0])
 (Ad Mu[Ii Fj yA[Aa[1]]][Br[4]][aA8]
 (rQ Aa[2]))))))
def Hh:lg W->M W:=Bj 2 5 An4
def Azm:Bk[Ah Ag7][md.gm X3 Azl Ac[Ag7] Ar]=An4:=by rfl'
def An5:lg[o8×Fi]:=(u6 "digits" (Hh,2,[]))::X3
abbrev M9:cQ:=top 49
def Ag8:lg o8:=["numbers"]
def Vx:MS:=rQ[Mv .str Vi kS[""] yA[Cv 1 [] Ea[Aa[0]] Br[0] (λuu=>pure t8) (zB Hh Aa[0] kI[2])]]
def Fy:lg W->M W:=Bj 1 1 Vx
def Ag9:Bk[Ah M9][md.gm An5 Ag8 Ac[M9] Ar]=Vx:=by rfl'
def Vy:lg[o8×Fi]:=(u6 "numbers_text" (Fy,1,[]))::An5
abbrev Aan:cQ:=top 50
def Aqn:lg o8:=["key"]
def Aha:MS:=rQ[Bc .add zB[Hh][zA Dm Aa[0]][kI[1]] Aa[0]]
def Nb:lg W->M W:=Bj 1 1 Aha
def Aqo:Bk[Ah Aan][md.gm Vy Aqn Ac[Aan] Ar]=Aha:=by rfl'
def Ahb:lg[o8×Fi]:=(u6 "key_text" (Nb,1,[]))::Vy
abbrev Vz:cQ:=top 51
def An6:lg o8:=["cell"]
def Aem:MS:=Ad (ifS tQ[.Eq][ixF Aa[0] kI[0]][kS["in"]] rQ[Bc[.add][Bc[.add][kS["i"]][zB Hh zA[Dm][ixF Aa[0] kI[1]] kI[1]]][ixF Aa[0] kI[1]]] Aj)
 (rQ[Bc .add kS["o"] zA[Fy][slF Aa[0] Cw[kI[1]] Bs]])
def V0:lg W->M W:=Bj 1 1 Aem
def An7:Bk[Ah Vz][md.gm Ahb An6 Ac[Vz] Ar]=Aem:=by rfl'
def Aen:lg[o8×Fi]:=(u6 "cell_text" (V0,1,[]))::Ahb
abbrev Aao:cQ:=top 52
def Aqp:lg o8:=["row"]
def Ahc:MS:=rQ[Bc .add zA[Nb][ixF Aa[0] kI[0]] zA[V0][ixF Aa[0] kI[1]]]
def Rr:lg W->M W:=Bj 1 1 Ahc
def Aqq:Bk[Ah Aao][md.gm Aen Aqp Ac[Aao] Ar]=Ahc:=by rfl'
def Ahd:lg[o8×Fi]:=(u6 "row_text" (Rr,1,[]))::Aen
abbrev V1:cQ:=top 53
def An8:lg o8:=["page","keys"]
def Aeo:MS:=Ad (ifS tQ[.Eq][ixF Aa[0] kI[0]][kS["leaf"]] rQ[Bc[.add][zB Hh zA[Dm][ixF Aa[0] kI[1]] kI[1]][Mv .str Vi kS[""] yA[Cv 1 [] Ea[ixF Aa[0] kI[1]] Br[0] (λuu=>pure t8) (zA Rr Aa[0])]]] Aj)
 (Ad (ifS tQ[.Eq][ixF Aa[0] kI[0]][kS["fork"]] (Ad Bq[1][Mv .str Vi kS[""] yA[Cv 1 [] Ea[ixF Aa[0] kI[1]] Br[0] (λuu=>pure t8) (zA Nb Aa[0])]]
  (rQ[Bc .add Bc[.add][zB Hh zA[Dm][ixF Aa[0] kI[1]] kI[1]][Aa[1]] zA[Fy][ixF Aa[0] kI[2]]])) Aj)
 (Ad (ifS tQ[.Eq][ixF Aa[0] kI[0]][kS["rest"]] rQ[Bc[.add][zA[Fy][slF Aa[0] Cw[kI[2]] Bs]][ixF Aa[0] kI[1]]] Aj)
 (rQ zA[Fy][slF Aa[0] Cw[kI[1]] Bs])))
def Pk:lg W->M W:=Bj 1 2 Aeo
def An9:Bk[Ah V1][md.gm Ahd An8 Ac[V1] Ar]=Aeo:=by rfl'
def Aep:lg[o8×Fi]:=(u6 "body_text" (Pk,1,[]))::Ahd
abbrev Adl:cQ:=top 42
def Au2:lg o8:=["thing"]
def Ajk:MS:=Ad (ifS Vj[Ce[zB Aah[isa] Aa[0] kF[.ty["tuple"]]]][Vj tQ[.Gt][zA Dm Aa[0]][kI[0]] Ce[zB[Aah isa][ixF Aa[0] kI[0]][kF .ty["str"]]]] rQ[ixF Aa[0] kI[0]] Aj)
 (rQ kF[.non])
def Xi:lg W->M W:=Bj 1 1 Ajk
def Au3:Bk[Ah Adl][md.gm Aep Au2 Ac[Adl] Ar]=Ajk:=by rfl'
def Ajl:lg[o8×Fi]:=(u6 "word_of" (Xi,1,[]))::Aep
abbrev Adm:cQ:=top 18
def Au4:lg o8:=["thing"]
def Ajm:MS:=rQ Jd[zB Aah[isa] Aa[0] kF[.ty["str"]]][Er .Eq (Mv .str Akw Aa[0] yA[kS[" !\"#$&'()*+,-./0123456789:;<=>?@ABCDEFGHIJKLMNOPQRSTUVWXYZ[\\]^_`abcdefghijklmnopqrstuvwxyz{|}~"]]) kS[""]]
def Qy:lg W->M W:=Bj 1 1 Ajm
def Au5:Bk[Ah Adm][md.gm Ajl Au4 Ac[Adm] Ar]=Ajm:=by rfl'
def Ajn:lg[o8×Fi]:=(u6 "is_text" (Qy,1,[]))::Ajl
abbrev Ahe:cQ:=top 26
def Azn:lg o8:=["thing"]
def Aoa:MS:=rQ Jd[zA Qy Aa[0]][Ri .LtE .LtE kI[1] (zA Dm Aa[0]) kI[12]]
def V2:lg W->M W:=Bj 1 1 Aoa
def Azo:Bk[Ah Ahe][md.gm Ajn Azn Ac[Ahe] Ar]=Aoa:=by rfl'
def Aob:lg[o8×Fi]:=(u6 "is_key" (V2,1,[]))::Ajn
abbrev Jz:cQ:=top 43
def Abu:lg o8:=["keys"]
def Pn:MS:=Ad (ifS Gx[Ce[zA[Agi][Cv 1 [] Ea[Aa[0]] Br[0] (λuu=>pure t8) (zA V2 Aa[0])]]] rQ[kB[tu]] Aj)
 (rQ zA[Agi][Cv 2 [] Ana[yB[Aa 0][slF Aa[0] Cw[kI[1]] Bs]] Ae6[[0,1]] (λuu=>pure t8) (Er .Lt Aa[0] Aa[1])])
def Ef:lg W->M W:=Bj 1 1 Pn
def Abv:Bk[Ah Jz][md.gm Aob Abu Ac[Jz] Ar]=Pn:=by rfl'
def Pq:lg[o8×Fi]:=(u6 "are_rising_keys" (Ef,1,[]))::Aob
abbrev Qj:cQ:=top 41
def Aik:lg o8:=["thing","many"]
def X4:MS:=rQ Jd[zB Aah[isa] Aa[0] kF[.ty["tuple"]]][Er .Eq (zA Dm Aa[0]) Aa[1]]
def Io:lg W->M W:=Bj 2 2 X4
def Ail:Bk[Ah Qj][md.gm Pq Aik Ac[Qj] Ar]=X4:=by rfl'
def X5:lg[o8×Fi]:=(u6 "is_tuple_of" (Io,2,[]))::Pq
abbrev Rt:cQ:=top 40
def Alj:lg o8:=["thing","least","most"]
def Abw:MS:=rQ Jd[zA Qy Aa[0]][Ri .LtE .LtE Aa[1] (zA Dm Aa[0]) Aa[2]]
def Mx:lg W->M W:=Bj 3 3 Abw
def Alk:Bk[Ah Rt][md.gm X5 Alj Ac[Rt] Ar]=Abw:=by rfl'
def Abx:lg[o8×Fi]:=(u6 "is_text_of" (Mx,3,[]))::X5
abbrev Cg:cQ:=top 39
def Aoc:lg o8:=["thing","least"]
def Aeq:MS:=rQ Jd[zA Ff Aa[0]][Ri .LtE .LtE Aa[1] Aa[0] kI[4095]]
def Ek:lg W->M W:=Bj 2 2 Aeq
def Aod:Bk[Ah Cg][md.gm Abx Aoc Ac[Cg] Ar]=Aeq:=by rfl'
def Aer:lg[o8×Fi]:=(u6 "is_number" (Ek,2,[(.int 0)]))::Abx
abbrev Adn:cQ:=top 44
def Au6:lg o8:=["thing","word"]
def Ajo:MS:=Ad Bq[1][zA Xi Aa[0]]
 (Ad ifS[tQ .Eq Aa[1] kS["in"]][rQ[Jd[Er .Eq (zA Dm Aa[0]) kI[2]][zC Mx (ixF Aa[0] kI[1]) kI[0] kI[63]]]][Aj]
 (Ad ifS[tQ .Eq Aa[1] kS["out"]][rQ[Jd[Er .Eq (zA Dm Aa[0]) kI[3]][Jd zA[Ff][ixF Aa[0] kI[1]] Jd[Ri .LtE .LtE kI[1] (ixF Aa[0] kI[1]) kI[400]][zB Ek (ixF Aa[0] kI[2]) kI[1]]]]][Aj]
 (rQ kB[tu])))
def Xj:lg W->M W:=Bj 1 2 Ajo
def Au7:Bk[Ah Adn][md.gm Aer Au6 Ac[Adn] Ar]=Ajo:=by rfl'
def Ajp:lg[o8×Fi]:=(u6 "is_cell" (Xj,1,[]))::Aer
abbrev Aap:cQ:=top 45
def Aqr:lg o8:=["thing"]
def Ahf:MS:=Ad ifS[orT Gx[Ce[zB Aah[isa] Aa[0] kF[.ty["tuple"]]]] tQ[.Gt][zA Dm Aa[0]][kI[63]]][rQ[kB[tu]]][Aj]
 (Ad (ifS Gx[Ce[zA[Agi][Cv 1 [] Ea[Aa[0]] Br[0] (λuu=>pure t8) Jd[zB Io Aa[0] kI[2]][zA[Xj][ixF Aa[0] kI[1]]]]]] rQ[kB[tu]] Aj)
 (rQ zA[Ef][Cv 1 [] Ea[Aa[0]] Br[0] (λuu=>pure t8) (ixF Aa[0] kI[0])]))
def Aaq:lg W->M W:=Bj 1 1 Ahf
def Aqs:Bk[Ah Aap][md.gm Ajp Aqr Ac[Aap] Ar]=Ahf:=by rfl'
def Ahg:lg[o8×Fi]:=(u6 "are_rows" (Aaq,1,[]))::Ajp
abbrev Aar:cQ:=top 46
def Aqt:lg o8:=["thing"]
def Ahh:MS:=rQ Jd[zB Aah[isa] Aa[0] kF[.ty["tuple"]]][Jd[Er .LtE (zA Dm Aa[0]) kI[63]][zA Ef Aa[0]]]
def Aas:lg W->M W:=Bj 1 1 Ahh
def Aqu:Bk[Ah Aar][md.gm Ahg Aqt Ac[Aar] Ar]=Ahh:=by rfl'
def Ahi:lg[o8×Fi]:=(u6 "are_keys" (Aas,1,[]))::Ahg
abbrev Aat:cQ:=top 47
def Aqv:lg o8:=["thing","many"]
def Ahj:MS:=rQ Jd[zB Io Aa[0] Aa[1]][zA[Agi][Cv 1 [] Ea[Aa[0]] Br[0] (λuu=>pure t8) (zB Ek Aa[0] kI[1])]]
def Aau:lg W->M W:=Bj 2 2 Ahj
def Aqw:Bk[Ah Aat][md.gm Ahi Aqv Ac[Aat] Ar]=Ahj:=by rfl'
def Ahk:lg[o8×Fi]:=(u6 "are_kids" (Aau,2,[]))::Ahi
abbrev Ado:cQ:=top 48
def Au8:lg o8:=["thing","word"]
def Ajq:MS:=Ad Bq[1][zA Xi Aa[0]]
 (Ad ifS[tQ .Eq Aa[1] kS["head"]][rQ[Jd Er[.Eq][zA Dm Aa[0]][kI[5]] zA[Agi][Cv 1 [] Ea[slF Aa[0] Cw[kI[1]] Bs] Br[0] (λuu=>pure t8) zA[λws=>Ek[ws ++ [(.int 0)]]][Aa 0]]]][Aj]
 (Ad ifS[tQ .Eq Aa[1] kS["leaf"]][rQ[Jd Er[.Eq][zA Dm Aa[0]][kI[2]] zA[Aaq][ixF Aa[0] kI[1]]]][Aj]
 (Ad ifS[tQ .Eq Aa[1] kS["fork"]][rQ[Jd[Er .Eq (zA Dm Aa[0]) kI[3]][Jd zA[Aas][ixF Aa[0] kI[1]] zB[Aau][ixF Aa[0] kI[2]][Bc .add zA[Dm][ixF Aa[0] kI[1]] kI[1]]]]][Aj]
 (Ad ifS[tQ .Eq Aa[1] kS["rest"]][rQ[Jd Er[.Eq][zA Dm Aa[0]][kI[3]] Jd[zC Mx (ixF Aa[0] kI[1]) kI[1] kI[400]][zA[λws=>Ek[ws ++ [(.int 0)]]][ixF Aa[0] kI[2]]]]][Aj]
 (Ad ifS[tQ .Eq Aa[1] kS["free"]][rQ[Jd Er[.Eq][zA Dm Aa[0]][kI[2]] zA[λws=>Ek[ws ++ [(.int 0)]]][ixF Aa[0] kI[1]]]][Aj]
 (rQ kB[tu]))))))
def Qz:lg W->M W:=Bj 1 2 Ajq
def Au9:Bk[Ah Ado][md.gm Ahk Au8 Ac[Ado] Ar]=Ajq:=by rfl'
def Ajr:lg[o8×Fi]:=(u6 "is_page" (Qz,1,[]))::Ahk
abbrev Adp:cQ:=top 54
def Ava:lg o8:=["page"]
def Ajs:MS:=Ad (ifS Gx[Ce[zA Qz Aa[0]]] (Ad Jf
  Aj) Aj)
 (rQ[zA Pk Aa[0]])
def Q0:lg W->M W:=Bj 1 1 Ajs
def Avb:Bk[Ah Adp][md.gm Ajr Ava Ac[Adp] Ar]=Ajs:=by rfl'
def Ajt:lg[o8×Fi]:=(u6 "body_of" (Q0,1,[]))::Ajr
abbrev V3:cQ:=top 77
def Aoe:lg o8:=["_law_tape_here","_law_size_here","_law_most","_law_way","_law_some","_law_long","_law_page_here","_law_key","_law_more"]
abbrev aA2:=Ad Mu[Ea zB[Pj][Aa[0]][zB Aq Aa[0] kI[10]]][Br 7][Ad Bq[8][Dg Lk Ds[Aa 0][yD Aa[6] Aa[7] Aa[1] Aa[2]]] Ad[ifS tQ[.LtE][zA[Dm][zA Q0 Aa[8]]][Bc .sub Aa[1] kI[5]] Ad[Bq 6 Aa[8]][Aj] Aj][Aj]] rQ[Aa[6]]
def Aes:MS:=Ad Bq[3][zB Aq Aa[0] kI[6]]
 (Ad (ifS (tQ .Eq Aa[3] kI[0]) (Ad Bq[4][Cv 1 [2,0] (Ii Fj yA[kI[4]]) Br[0] (λuu=>pure t8) zB[Aq][Aa[2]][Bc .add Aa[1] kI[1]]]
  (rQ Jr[Ds kS["head"] yD[ixF Aa[4] kI[0]][ixF Aa[4] kI[1]][ixF Aa[4] kI[2]][ixF Aa[4] kI[3]]])) Aj)
 (Ad ifS[tQ .Eq Aa[3] kI[1]][rQ[Jr[yB kS["free"] zB[Aq][Aa[0]][Bc .add Aa[2] kI[1]]]]][Aj]
 (Ad (ifS (tQ .Eq Aa[3] kI[2]) (Ad (Bq 5 ixF[Qq yC[Bc .add kI[1] zB[Aq][Aa[0]][Bc .sub Aa[1] kI[7]]][Bc .sub Aa[1] kI[7]][kI 1]][zB Aq Aa[0] kI[3]])
  (rQ Jr[yC[kS "rest"][zB Jo Aa[0] Aa[5]][zB Aq Aa[0] (Bc .add Aa[2] kI[1])]])) Aj)
 (Ad (Bq 6 Jr[yB kS["leaf"] Jr[nilF]])
 (Ad (ifS (tQ .Eq Aa[3] kI[3]) (Ad (Bq 6 Jr[yC kS["fork"] Jr[nilF] Jr[yA[Bc[.add][kI[1]][zB Aq Aa[0] Aa[2]]]]])
  Aj) Aj)
 aA2)))))
def Lz:lg W->M W:=Bj 3 9 Aes
def Aof:Bk[Ah V3][md.gm Ajt Aoe Ac[V3] Ar]=Aes:=by rfl'
def Ma:lg[o8×Fi]:=(u6 "_law_page" (Lz,3,[]))::Ajt
abbrev J0:cQ:=inClass top[66] 4
def Aby:lg o8:=["self","unchanged","beyond","number"]
def Px:MS:=Ad Bq[1][Arx 1 [0] (Dy fld "at_hand" Aa[0]) Br[0] tQ[.NotIn][Aa[0]][Dy fld "unwritten" Aa[1]] Aa[0]]
 (Ad Bq[2][zB Ap4 Bc[.sub][zA[Dm][Dy fld "at_hand" Aa[0]]][Dy fld "most" Aa[0]] kI[0]]
 (Ad (Mu Ea[slF Aa[1] Bs Cw[Aa[2]]] Br[3] (Ad Hy[Mv .dct Xx (Dy fld "at_hand" Aa[0]) yA[Aa[3]]]
  Aj))
 Aj))
def Py:lg W->M W:=Bj 1 4 Px
def Abz:Bk[Ah J0][md.gm Ma Aby Ac[J0] Ar]=Px:=by rfl'
def Pz:lg[(Nat×o8)×Fi]:=(u6 (u6 7 "make_room") (Py,1,[]))::Ar
abbrev Jh:cQ:=inClass top[69] 8
def Aav:lg o8:=["self","text"]
def Nf:MS:=Ad (ifS Ce[Dy fld "off" Aa[0]] (Ad Jf
  Aj) Aj)
 (Ad (Gh fld "begun" Aa[0] Bc[.add][Dy fld "begun" Aa[0]][kI[1]])
 (Ad (ifS tQ[.Gt][Dy fld "turns_left" Aa[0]][kI[0]] (Ad (Gh fld "turns_left" Aa[0] Bc[.sub][Dy fld "turns_left" Aa[0]][kI[1]])
  (Ad (Gh fld "off" Aa[0] Er[.Eq][Dy fld "turns_left" Aa[0]][kI[0]])
  Aj)) Aj)
 (rQ Am0[Ce[Dy fld "off" Aa[0]]][Dy fld "signs_done" Aa[0]][zA Dm Aa[1]])))
def Ng:lg W->M W:=Bj 2 2 Nf
def Aaw:Bk[Ah Jh][md.gm Ma Aav Ac[Jh] Pz]=Nf:=by rfl'
def Nh:lg[(Nat×o8)×Fi]:=(u6 (u6 8 "begin_write") (Ng,2,[]))::Pz
abbrev K9:cQ:=inClass top[69] 9
def Adq:lg o8:=["self"]
def Q3:MS:=Ad (ifS Ce[Dy fld "off" Aa[0]] (Ad Jf
  Aj) Aj)
 Aj
def Q4:lg W->M W:=Bj 1 1 Q3
def Adr:Bk[Ah K9][md.gm Ma Adq Ac[K9] Nh]=Q3:=by rfl'
def Hs:lg[(Nat×o8)×Fi]:=(u6 (u6 8 "end_write") (Q4,1,[]))::Nh
abbrev Ib:cQ:=top 20
def Xn:lg o8:=["thing"]
def Mp:MS:=Ad (ifS orT[Gx Ce[zB Aah[isa] Aa[0] kF[.ty["str"]]]][orT tQ[.Lt][zA Dm Aa[0]][kI[1]] tQ[.Gt][zA Dm Aa[0]][kI[3]]] rQ[kB[tu]] Aj)
 (rQ zA[Agi][Cv 1 [] Ea[Aa[0]] Br[0] (λuu=>pure t8) (Er .In Aa[0] aA3)])
def Ie:lg W->M W:=Bj 1 1 Mp
def Xo:Bk[Ah Ib][md.gm Ma Xn Ac[Ib] Hs]=Mp:=by rfl'
def Mq:lg[o8×Fi]:=(u6 "is_written_number" (Ie,1,[]))::Ma
abbrev V4:cQ:=top 21
def Aog:lg o8:=["text","number","sign"]
def Aet:MS:=Ad (ifS Gx[Ce[zA Ie Aa[0]]] (Ad Jf
  Aj) Aj)
 (Ad (Bq 1 kI[0])
 (Ad (Mu Ea[Aa[0]] Br[2] (Ad (Bq 1 Bc[.add][Bc .shl Aa[1] kI[6]][Mv .str Ada aA3 yA[Aa[2]]])
  Aj))
 (rQ Aa[1])))
def P0:lg W->M W:=Bj 1 3 Aet
def Aoh:Bk[Ah V4][md.gm Mq Aog Ac[V4] Hs]=Aet:=by rfl'
def Dz:lg[o8×Fi]:=(u6 "number_of" (P0,1,[]))::Mq
abbrev G6:cQ:=inClass top[57] 0
def Tt:lg o8:=["self","body"]
def Kq:MS:=Ad (Gh fld "body" Aa[0] Aa[1])
 (Ad (Gh fld "place" Aa[0] kI[0])
 Aj)
def G7:lg W->M W:=Bj 2 2 Kq
def Tu:Bk[Ah G6][md.gm Dz Tt Ac[G6] Hs]=Kq:=by rfl'
def Kr:lg[(Nat×o8)×Fi]:=(u6 (u6 6 "__init__") (G7,2,[]))::Hs
abbrev Fz:cQ:=inClass top[57] 1
def Q5:lg o8:=["self","many","start"]
def Jp:MS:=Ad Bq[2][Dy fld "place" Aa[0]]
 (Ad (Gh fld "place" Aa[0] (Bc .add Aa[2] Aa[1]))
 (rQ slF[Dy fld "body" Aa[0]][Cw[Aa[2]]][Cw[Dy fld "place" Aa[0]]]))
def Jq:lg W->M W:=Bj 2 3 Jp
def Q6:Bk[Ah Fz][md.gm Dz Q5 Ac[Fz] Kr]=Jp:=by rfl'
def Ga:lg[(Nat×o8)×Fi]:=(u6 (u6 6 "next_signs") (Jq,2,[]))::Kr
abbrev Fg:cQ:=inClass top[57] 2
def Qk:lg o8:=["self","many"]
def Ip:MS:=rQ zA[P0][Bd (λc n=>Ga.lookup[u6 c n]) "next_signs" Aa[0] yA[Aa[1]]]
def Ir:lg W->M W:=Bj 2 2 Ip
def Ql:Bk[Ah Fg][md.gm Dz Qk Ac[Fg] Ga]=Ip:=by rfl'
def Dw:lg[(Nat×o8)×Fi]:=(u6 (u6 6 "next_number") (Ir,2,[]))::Ga
abbrev G8:cQ:=inClass top[57] 4
def Tv:lg o8:=["self"]
def Ku:MS:=rQ[Bd (λc n=>Dw.lookup[u6 c n]) "next_signs" Aa[0] yA[Bd (λc n=>Dw.lookup[u6 c n]) "next_number" Aa[0] yA[kI[1]]]]
def Kv:lg W->M W:=Bj 1 1 Ku
def Tw:Bk[Ah G8][md.gm Dz Tv Ac[G8] Dw]=Ku:=by rfl'
def G9:lg[(Nat×o8)×Fi]:=(u6 (u6 6 "next_key") (Kv,1,[]))::Dw
abbrev Gj:cQ:=inClass top[57] 5
def Ru:lg o8:=["self","many"]
def J1:MS:=rQ[zA Vd compX[1][[0]][Ii Fj yA[Aa[1]]][Br 0][λuu=>pure t8][Bd (λc n=>G9.lookup[u6 c n]) "next_key" Aa[1] nilF]]
def Gk:lg W->M W:=Bj 2 2 J1
def Rv:Bk[Ah Gj][md.gm Dz Ru Ac[Gj] G9]=J1:=by rfl'
def Gn:lg[(Nat×o8)×Fi]:=(u6 (u6 6 "next_keys") (Gk,2,[]))::G9
abbrev Es:cQ:=inClass top[57] 3
def N7:lg o8:=["self","many"]
def Hz:MS:=rQ[zA Vd compX[1][[0]][Ii Fj yA[Aa[1]]][Br 0][λuu=>pure t8][Bd (λc n=>Gn.lookup[u6 c n]) "next_number" Aa[1] yA[kI[2]]]]
def Et:lg W->M W:=Bj 2 2 Hz
def N8:Bk[Ah Es][md.gm Dz N7 Ac[Es] Gn]=Hz:=by rfl'
def Az:lg[(Nat×o8)×Fi]:=(u6 (u6 6 "next_numbers") (Et,2,[]))::Gn
abbrev Gp:cQ:=inClass top[57] 6
def Rw:lg o8:=["self"]
def J2:MS:=Ad (ifS tQ[.Eq][Bd (λc n=>Az.lookup[u6 c n]) "next_signs" Aa[0] yA[kI[1]]][kS["i"]] rQ[Jr[yB[kS "in"][Bd (λc n=>Az.lookup[u6 c n]) "next_signs" Aa[0] yA[Bd (λc n=>Az.lookup[u6 c n]) "next_number" Aa[0] yA[kI[1]]]]]] Aj)
 (rQ Bc[.add][Jr[yA[kS["out"]]]][Bd (λc n=>Az.lookup[u6 c n]) "next_numbers" Aa[0] yA[kI[2]]])
def J3:lg W->M W:=Bj 1 1 J2
def Rz:Bk[Ah Gp][md.gm Dz Rw Ac[Gp] Az]=J2:=by rfl'
def Cq:lg[(Nat×o8)×Fi]:=(u6 (u6 6 "next_cell") (J3,1,[]))::Az
abbrev Hc:cQ:=inClass top[57] 7
def Tz:lg o8:=["self","key"]
def Kw:MS:=Ad Bq[1][Bd (λc n=>Cq.lookup[u6 c n]) "next_key" Aa[0] nilF]
 (rQ Jr[yB[Aa 1][Bd (λc n=>Cq.lookup[u6 c n]) "next_cell" Aa[0] nilF]])
def Ky:lg W->M W:=Bj 1 2 Kw
def T8:Bk[Ah Hc][md.gm Dz Tz Ac[Hc] Cq]=Kw:=by rfl'
def Hd:lg[(Nat×o8)×Fi]:=(u6 (u6 6 "next_row") (Ky,1,[]))::Cq
abbrev Gq:cQ:=inClass top[57] 8
def R0:lg o8:=["self","many"]
def J4:MS:=rQ[zA Vd compX[1][[0]][Ii Fj yA[Aa[1]]][Br 0][λuu=>pure t8][Bd (λc n=>Hd.lookup[u6 c n]) "next_row" Aa[1] nilF]]
def Gr:lg W->M W:=Bj 2 2 J4
def R5:Bk[Ah Gq][md.gm Dz R0 Ac[Gq] Hd]=J4:=by rfl'
def Al:lg[(Nat×o8)×Fi]:=(u6 (u6 6 "next_rows") (Gr,2,[]))::Hd
abbrev V5:cQ:=top 58
def Aoi:lg o8:=["letter","body","reader","keys","after"]
def Aeu:MS:=Ad (Bq 2 zA[λws=>Ko 6 G7 ws][Aa 1])
 (Ad ifS[tQ .Eq Aa[0] kS["h"]][rQ[Bc[.add][Jr[yA[kS["head"]]]][Bd (λc n=>Al.lookup[u6 c n]) "next_numbers" Aa[2] yA[kI[4]]]]][Aj]
 (Ad ifS[tQ .Eq Aa[0] kS["l"]][rQ[Jr[yB[kS "leaf"][Bd (λc n=>Al.lookup[u6 c n]) "next_rows" Aa[2] yA[Bd (λc n=>Al.lookup[u6 c n]) "next_number" Aa[2] yA[kI[1]]]]]]][Aj]
 (Ad (ifS (tQ .Eq Aa[0] kS["f"]) (Ad Bq[3][Bd (λc n=>Al.lookup[u6 c n]) "next_keys" Aa[2] yA[Bd (λc n=>Al.lookup[u6 c n]) "next_number" Aa[2] yA[kI[1]]]]
  (rQ Jr[yC[kS "fork"][Aa 3][Bd (λc n=>Al.lookup[u6 c n]) "next_numbers" Aa[2] yA[Bc[.add][zA Dm Aa[3]][kI[1]]]]])) Aj)
 (Ad (ifS (tQ .Eq Aa[0] kS["r"]) (Ad Bq[4][Bd (λc n=>Al.lookup[u6 c n]) "next_number" Aa[2] yA[kI[2]]]
  (rQ Jr[yC[kS "rest"][Bd (λc n=>Al.lookup[u6 c n]) "next_signs" Aa[2] yA[Bc[.sub][zA Dm Aa[1]][kI[2]]]][Aa 4]])) Aj)
 (Ad ifS[tQ .Eq Aa[0] kS["e"]][rQ[Bc[.add][Jr[yA[kS["free"]]]][Bd (λc n=>Al.lookup[u6 c n]) "next_numbers" Aa[2] yA[kI[1]]]]][Aj]
 (rQ kF[.non]))))))
def V6:lg W->M W:=Bj 2 5 Aeu
def Aoj:Bk[Ah V5][md.gm Dz Aoi Ac[V5] Al]=Aeu:=by rfl'
def Aev:lg[o8×Fi]:=(u6 "told_page" (V6,2,[]))::Dz
abbrev Aax:cQ:=top 22
def Aqx:lg o8:=["text","total"]
def Ahl:MS:=Ad (ifS Gx[Ce[zA Qy Aa[0]]] (Ad Jf
  Aj) Aj)
 (Ad (Bq 1 zA[Auo][Cv 2 [] Axx[Aa[0]] Ae6[[0,1]] (λuu=>pure t8) (Bc .mul Bc[.sub][zA Aun Aa[1]][kI[31]] Aa[0])])
 (rQ zB[Hh][Bc .mod Aa[1] kI[4093]][kI[2]]))
def R6:lg W->M W:=Bj 1 2 Ahl
def Aqy:Bk[Ah Aax][md.gm Aev Aqx Ac[Aax] Al]=Ahl:=by rfl'
def Ahm:lg[o8×Fi]:=(u6 "check_of" (R6,1,[]))::Aev
abbrev J5:cQ:=top 59
def Ab0:lg o8:=["text"]
def Qa:MS:=rQ Er[.Eq][zA[R6][slF Aa[0] Bs Cw[Aqb[kI[2]]]]][slF Aa[0] Cw[Aqb[kI[2]]] Bs]
def J6:lg W->M W:=Bj 1 1 Qa
def Ab1:Bk[Ah J5][md.gm Ahm Ab0 Ac[J5] Al]=Qa:=by rfl'
def Qc:lg[o8×Fi]:=(u6 "has_right_check" (J6,1,[]))::Ahm
abbrev Ni:cQ:=top 60
def Ahn:lg o8:=["text","long"]
def V7:MS:=Ad (ifS Gx[Ce[zA J6 Aa[0]]] rQ[kF[.non]] Aj)
 (Ad (Bq 1 zA[P0][slF Aa[0] Cw[kI[1]] Cw[kI[3]]])
 (rQ zB[V6][ixF Aa[0] kI[0]][slF Aa[0] Cw[kI[3]] Cw[Bc .add kI[3] Aa[1]]]))
def Nj:lg W->M W:=Bj 1 2 V7
def Aho:Bk[Ah Ni][md.gm Qc Ahn Ac[Ni] Al]=V7:=by rfl'
def V8:lg[o8×Fi]:=(u6 "told_by_text" (Nj,1,[]))::Qc
abbrev La:cQ:=top 55
def Ads:lg o8:=["page","body","size","start"]
def Q7:MS:=Ad (Bq 3 Bc[.add][Bc .add mdF[Qw][ixF Aa[0] kI[0]] zB[Hh][zA Dm Aa[1]][kI[2]]][Aa[1]])
 (rQ[Mv .str Akv Aa[3] yB[Bc .sub Aa[2] kI[2]][kS "0"]])
def Ht:lg W->M W:=Bj 3 4 Q7
def Adt:Bk[Ah La][md.gm V8 Ads Ac[La] Al]=Q7:=by rfl'
def Q8:lg[o8×Fi]:=(u6 "unchecked_text" (Ht,3,[]))::V8
abbrev Adu:cQ:=top 61
def Avc:lg o8:=["text","page"]
def Aju:MS:=Ad (ifS (orT Gx[Ce[zB Aah[isa] Aa[0] kF[.ty["str"]]]] Gx[Ce[zA[Qx][zA Dm Aa[0]]]]) (Ad Jf
  Aj) Aj)
 (Ad (Agq (Ad Bq[1][zA Nj Aa[0]]
  Aj))
 (Ad (ifS Gx[Ce[zA Qz Aa[1]]] (Ad Jf
  Aj) Aj)
 (Ad (ifS tQ[.NotEq][zC[Ht][Aa 1][zA Pk Aa[1]][zA Dm Aa[0]]][slF Aa[0] Bs Cw[Aqb[kI[2]]]] (Ad Jf
  Aj) Aj)
 (rQ Aa[1]))))
def M4:lg W->M W:=Bj 1 2 Aju
def Avd:Bk[Ah Adu][md.gm Q8 Avc Ac[Adu] Al]=Aju:=by rfl'
def Ajv:lg[o8×Fi]:=(u6 "page_of" (M4,1,[]))::Q8
abbrev Nk:cQ:=top 68
def Ahp:lg o8:=["thing","size"]
def V9:MS:=Ad (Agq (Ad Hy[zA M4 Aa[0]]
  Aj))
 (rQ Er[.Eq][zA Dm Aa[0]][Aa[1]])
def Nm:lg W->M W:=Bj 2 2 V9
def Ahq:Bk[Ah Nk][md.gm Ajv Ahp Ac[Nk] Al]=V9:=by rfl'
def Np:lg[o8×Fi]:=(u6 "is_page_text" (Nm,2,[]))::Ajv
abbrev R7:cQ:=inClass top[69] 5
def Alm:lg o8:=["self","number","text","there","done"]
abbrev aA5:=Ij (Dy fld "page_texts" Aa[0]) Aa[1] Bc[.add][slF Aa[2] Bs Cw[Aa[4]]][slF ixF[Dy fld "page_texts" Aa[0]][Aa 1] Cw[Aa[4]] Bs]
def Ab2:MS:=Ad (Bq 3 zA[Dm][Dy fld "page_texts" Aa[0]])
 (Ad (ifS (orT Gx[Ce[zA Ff Aa[1]]] orT[tQ .Lt Aa[1] kI[0]][tQ .Gt Aa[1] Aa[3]]) (Ad Jf
  Aj) Aj)
 (Ad (ifS Gx[Ce[zB[Nm][Aa[2]][Dy fld "size" Aa[0]]]] (Ad Jf
  Aj) Aj)
 (Ad Bq[4][Bd (λc n=>Al.lookup[u6 c n]) "begin_write" Aa[0] yA[Aa[2]]]
 (Ad (ifS (tQ .Eq Aa[1] Aa[3]) (Ad Hy[Mv .lst Abg (Dy fld "page_texts" Aa[0]) yA[Bc[.mul][kS[" "]][Dy fld "size" Aa[0]]]]
  Aj) Aj)
 (Ad aA5
 (Ad Hy[Bd (λc n=>Al.lookup[u6 c n]) "end_write" Aa[0] nilF]
 Aj))))))
def Ab3:lg W->M W:=Bj 3 5 Ab2
def Aln:Bk[Ah R7][md.gm Np Alm Ac[R7] Al]=Ab2:=by rfl'
def Hu:lg[(Nat×o8)×Fi]:=(u6 (u6 8 "write") (Ab3,3,[]))::Al
abbrev Adv:cQ:=top 38
def Ave:lg o8:=["size"]
def Ajw:MS:=rQ[Bc .sub Aa[0] kI[5]]
def Adw:lg W->M W:=Bj 1 1 Ajw
def Avf:Bk[Ah Adv][md.gm Np Ave Ac[Adv] Hu]=Ajw:=by rfl'
def Ajx:lg[o8×Fi]:=(u6 "room_of" (Adw,1,[]))::Np
abbrev Wa:cQ:=top 56
def Aok:lg o8:=["page","size","body","text"]
def Aew:MS:=Ad Bq[2][zA Q0 Aa[0]]
 (Ad (ifS Gx[Ce[zA Qx Aa[1]]] (Ad Jf
  Aj) Aj)
 (Ad (ifS tQ[.Gt][zA Dm Aa[2]][zA Adw Aa[1]] (Ad Jf
  Aj) Aj)
 (Ad Bq[3][zC Ht Aa[0] Aa[2] Aa[1]]
 (rQ Bc[.add][Aa[3]][zA R6 Aa[3]]))))
def Hi:lg W->M W:=Bj 2 4 Aew
def Aol:Bk[Ah Wa][md.gm Ajx Aok Ac[Wa] Hu]=Aew:=by rfl'
def Qd:lg[o8×Fi]:=(u6 "page_text" (Hi,2,[]))::Ajx
abbrev Qm:cQ:=inClass top[66] 6
def Aim:lg o8:=["self","number"]
def X6:MS:=Ad (ifS tQ[.In][Aa[1]][Dy fld "unwritten" Aa[0]] (Ad Hy[Bd[λc n=>Hu.lookup[u6 c n]]["write"][Dy fld "disk" Aa[0]][yB[Aa 1][zB Hi ixF[Dy fld "at_hand" Aa[0]][Aa 1] Dy[fld]["size"][Dy fld "disk" Aa[0]]]]]
  (Ad Hy[Mv .dct Xx (Dy fld "unwritten" Aa[0]) yA[Aa[1]]]
  Aj)) Aj)
 (Ad Hy[Bd (λc n=>Hu.lookup[u6 c n]) "make_room" Aa[0] nilF]
 Aj)
def Ln:lg W->M W:=Bj 2 2 X6
def Ain:Bk[Ah Qm][md.gm Qd Aim Ac[Qm] Hu]=X6:=by rfl'
def X7:lg[(Nat×o8)×Fi]:=(u6 (u6 7 "write") (Ln,2,[]))::Hu
abbrev Lb:cQ:=inClass top[66] 0
def Adx:lg o8:=["self","disk","most"]
def Q9:MS:=Ad (ifS (orT Gx[Ce[zA Ff Aa[2]]] orT[tQ .Lt Aa[2] kI[2]][tQ .Gt Aa[2] kI[40]]) (Ad Jf
  Aj) Aj)
 (Ad (Gh fld "disk" Aa[0] Aa[1])
 (Ad (Gh fld "most" Aa[0] Aa[2])
 (Ad (Gh fld "at_hand" Aa[0] Mm[[]])
 (Ad (Gh fld "unwritten" Aa[0] Mm[[]])
 (Ad (Gh fld "read_so_far" Aa[0] kI[0])
 Aj)))))
def Du:lg W->M W:=Bj 3 3 Q9
def Ady:Bk[Ah Lb][md.gm Qd Adx Ac[Lb] X7]=Q9:=by rfl'
def Gb:lg[(Nat×o8)×Fi]:=(u6 (u6 7 "__init__") (Du,3,[]))::X7
abbrev Aay:cQ:=top 79
def Aqz:lg o8:=["_law_world","_law_number"]
def Ahr:MS:=Ad (ifS tQ[.In][Aa[1]][ixF Aa[0] kS["new"]] rQ[ixF[ixF Aa[0] kS["new"]][Aa 1]] Aj)
 (rQ ixF[ixF Aa[0] kS["old"]][Aa 1])
def Ld:lg W->M W:=Bj 2 2 Ahr
def Aq0:Bk[Ah Aay][md.gm Qd Aqz Ac[Aay] Gb]=Ahr:=by rfl'
def Le:lg[o8×Fi]:=(u6 "_law_due" (Ld,2,[]))::Qd
abbrev R8:cQ:=inClass top[66] 3
def Alo:lg o8:=["self","number","page"]
def Ab4:MS:=Ad (ifS tQ[.In][Aa[1]][Dy fld "at_hand" Aa[0]] (Ad Hy[Mv .dct Xx (Dy fld "at_hand" Aa[0]) yA[Aa[1]]]
  Aj) Aj)
 (Ad Ij[Dy fld "at_hand" Aa[0]][Aa 1][Aa 2]
 (Ad Hy[Bd (λc n=>Gb.lookup[u6 c n]) "make_room" Aa[0] nilF]
 Aj))
def Ab5:lg W->M W:=Bj 3 3 Ab4
def Alp:Bk[Ah R8][md.gm Le Alo Ac[R8] Gb]=Ab4:=by rfl'
def Ab6:lg[(Nat×o8)×Fi]:=(u6 (u6 7 "hold") (Ab5,3,[]))::Gb
abbrev R9:cQ:=inClass top[69] 1
def Alq:lg o8:=["self"]
def Ab7:MS:=rQ zA[Ve][Dy fld "page_texts" Aa[0]]
def Ab8:lg W->M W:=Bj 1 1 Ab7
def Alr:Bk[Ah R9][md.gm Le Alq Ac[R9] Ab6]=Ab7:=by rfl'
def Sd:lg[(Nat×o8)×Fi]:=(u6 (u6 8 "pages") (Ab8,1,[]))::Ab6
abbrev Sg:cQ:=inClass top[66] 2
def Als:lg o8:=["self","number","texts","page"]
def Ab9:MS:=Ad (Bq 2 Bd[λc n=>Sd.lookup[u6 c n]]["pages"][Dy fld "disk" Aa[0]][nilF])
 (Ad (ifS orT[tQ .Lt Aa[1] kI[0]][tQ .GtE Aa[1] (zA Dm Aa[2])] (Ad Jf
  Aj) Aj)
 (Ad (Agq (Ad (Bq 3 zA[M4][ixF Aa[2] Aa[1]])
  Aj))
 (Ad (Gh fld "read_so_far" Aa[0] Bc[.add][Dy fld "read_so_far" Aa[0]][kI[1]])
 (rQ Aa[3]))))
def Aca:lg W->M W:=Bj 2 4 Ab9
def Alu:Bk[Ah Sg][md.gm Le Als Ac[Sg] Sd]=Ab9:=by rfl'
def J7:lg[(Nat×o8)×Fi]:=(u6 (u6 7 "read") (Aca,2,[]))::Sd
abbrev Sq:cQ:=inClass top[66] 1
def Alv:lg o8:=["self","number","page"]
def Acb:MS:=Ad (ifS Gx[Ce[zA Ff Aa[1]]] (Ad Jf
  Aj) Aj)
 (Ad (Bq 2 Am0[tQ[.In][Aa[1]][Dy fld "at_hand" Aa[0]]][ixF[Dy fld "at_hand" Aa[0]][Aa 1]][Bd (λc n=>J7.lookup[u6 c n]) "read" Aa[0] yA[Aa[1]]])
 (Ad Hy[Bd[λc n=>J7.lookup[u6 c n]]["hold"][Aa 0][yB Aa[1] Aa[2]]]
 (rQ Aa[2])))
def Hv:lg W->M W:=Bj 2 3 Acb
def Alw:Bk[Ah Sq][md.gm Le Alv Ac[Sq] J7]=Acb:=by rfl'
def J8:lg[(Nat×o8)×Fi]:=(u6 (u6 7 "page") (Hv,2,[]))::J7
abbrev Mj:cQ:=top 80
def Ae9:lg o8:=["_law_shelves","_law_world","_law_number","_law_due_here"]
def Tj:MS:=Ad (Mu (Ii Fj yA[ixF Aa[1] kS["many"]]) Br[2] (Ad (ifS orT[tQ .In Aa[2] (ixF Aa[1] kS["new"])][tQ .Lt Aa[2] zA[Dm][ixF Aa[1] kS["old"]]] (Ad Bq[3][zB Ld Aa[1] Aa[2]]
   (Ad (ifS tQ[.NotEq][Cv 1 [2] Ea[Aa[0]] Br[0] (λuu=>pure t8) (Bd (λc n=>J8.lookup[u6 c n]) "page" Aa[0] yA[Aa[1]])][Bc[.mul][Qq[yA[Aa[3]]]][zA Dm Aa[0]]] rQ[kB[tu]] Aj)
   Aj)) Aj)
  Aj))
 (rQ kB[t8])
def Iz:lg W->M W:=Bj 2 4 Tj
def Afa:Bk[Ah Mj][md.gm Le Ae9 Ac[Mj] J8]=Tj:=by rfl'
def Ja:lg[o8×Fi]:=(u6 "_law_all_told" (Iz,2,[]))::Le
abbrev Wc:cQ:=inClass top[69] 2
def Aom:lg o8:=["self"]
def Aex:MS:=rQ zA[Ve][Dy fld "row_texts" Aa[0]]
def Aey:lg W->M W:=Bj 1 1 Aex
def Aon:Bk[Ah Wc][md.gm Ja Aom Ac[Wc] J8]=Aex:=by rfl'
def Aez:lg[(Nat×o8)×Fi]:=(u6 (u6 8 "rows") (Aey,1,[]))::J8
abbrev Qn:cQ:=inClass top[69] 3
def Aio:lg o8:=["self"]
def X8:MS:=rQ[Dy fld "begun" Aa[0]]
def Aaa:lg W->M W:=Bj 1 1 X8
def Aip:Bk[Ah Qn][md.gm Ja Aio Ac[Qn] Aez]=X8:=by rfl'
def El:lg[(Nat×o8)×Fi]:=(u6 (u6 8 "writes") (Aaa,1,[]))::Aez
abbrev Ji:cQ:=top 81
def Aaz:lg o8:=["_law_disks","_law_world","_law_begun","_law_due_here","_law_disk"]
def Nq:MS:=Ad Bq[3][Cv 1 [1] Ea[ixF Aa[1] kS["old"]] Br[0] (λuu=>pure t8) zB[Hi][Aa[0]][ixF Aa[1] kS["size"]]]
 (Ad (Mu Ea[Aa[0]] Br[4] (Ad (ifS orT[tQ .NotEq (Bd (λc n=>El.lookup[u6 c n]) "pages" Aa[4] nilF) Aa[3]][orT tQ[.NotEq][Bd (λc n=>El.lookup[u6 c n]) "rows" Aa[4] nilF][Qq[nilF]] tQ[.NotEq][Bd (λc n=>El.lookup[u6 c n]) "writes" Aa[4] nilF][Aa[2]]] rQ[kB[tu]] Aj)
  Aj))
 (rQ kB[t8]))
def Df:lg W->M W:=Bj 3 5 Nq
def Aa0:Bk[Ah Ji][md.gm Ja Aaz Ac[Ji] El]=Nq:=by rfl'
def Nr:lg[o8×Fi]:=(u6 "_law_disks_right" (Df,3,[]))::Ja
abbrev Aa1:cQ:=top 65
def Aq1:lg o8:=["number","page","size","text"]
def Ahs:MS:=Ad (ifS Gx[Ce[zA[λws=>Ek[ws ++ [(.int 0)]]][Aa 0]]] (Ad Jf
  Aj) Aj)
 (Ad (Agq (Ad Bq[3][zB Hi Aa[1] Aa[2]]
  Aj))
 (rQ[zA M4 Aa[3]]))
def Aa2:lg W->M W:=Bj 3 4 Ahs
def Aq2:Bk[Ah Aa1][md.gm Nr Aq1 Ac[Aa1] El]=Ahs:=by rfl'
def Aa3:lg[o8×Fi]:=(u6 "own_page" (Aa2,3,[]))::Nr
abbrev We:cQ:=inClass top[66] 5
def Aoo:lg o8:=["self","number","page","own"]
def Ae0:MS:=Ad Bq[3][zC Aa2 Aa[1] Aa[2] Dy[fld]["size"][Dy fld "disk" Aa[0]]]
 (Ad Ij[Dy fld "unwritten" Aa[0]][Aa 1][kB t8]
 (Ad Hy[Bd[λc n=>El.lookup[u6 c n]]["hold"][Aa 0][yB Aa[1] Aa[3]]]
 Aj))
def Qe:lg W->M W:=Bj 3 4 Ae0
def Aop:Bk[Ah We][md.gm Aa3 Aoo Ac[We] El]=Ae0:=by rfl'
def Em:lg[(Nat×o8)×Fi]:=(u6 (u6 7 "put") (Qe,3,[]))::El
abbrev Ig:cQ:=top 84
def Xp:lg o8:=["_law_tape_here","_law_shelves","_law_world","_law_way","_law_number","_law_due_here","_law_page_here"]
def Mr:MS:=Ad (Bq 4 zB[Aq][Aa[0]][ixF Aa[2] kS["many"]])
 (Ad (ifS (tQ .Lt Aa[3] kI[3]) (Ad Bq[5][zB Ld Aa[2] Aa[4]]
  (rQ Er[.Eq][Cv 1 [4] Ea[Aa[1]] Br[0] (λuu=>pure t8) (Bd (λc n=>Em.lookup[u6 c n]) "page" Aa[0] yA[Aa[1]])][Qq[yB Aa[5] Aa[5]]])) Aj)
 (Ad Bq[4][ixF Qq[yB[Aa 4][ixF Aa[2] kS["many"]]] Bc[.fdiv][zB Aq Aa[0] kI[5]][kI[4]]]
 (Ad Bq[6][zC Lz Aa[0] (ixF Aa[2] kS["size"]) kI[60]]
 (Ad Ij[ixF Aa[2] kS["new"]][Aa 4][Aa 6]
 (Ad (Ij Aa[2] kS["many"] zB[Ap4][ixF Aa[2] kS["many"]][Bc .add Aa[4] kI[1]])
 (rQ Er[.Eq][Cv 1 [4,6] Ea[Aa[1]] Br[0] (λuu=>pure t8) Bd[λc n=>Em.lookup[u6 c n]]["put"][Aa 0][yB Aa[1] Aa[2]]][Qq[yB kF[.non] kF[.non]]]))))))
def Eh:lg W->M W:=Bj 4 7 Mr
def Xq:Bk[Ah Ig][md.gm Aa3 Xp Ac[Ig] Em]=Mr:=by rfl'
def Ms:lg[o8×Fi]:=(u6 "_law_asked_or_put" (Eh,4,[]))::Aa3
abbrev Ss:cQ:=top 83
def Alx:lg o8:=["_law_shelves","_law_world","_law_numbers","_law_many","_law_number","_law_shelf","_law_page_here"]
abbrev aA1:=ifS tQ[.In][Aa[4]][ixF Aa[1] kS["new"]] (Ad Bq[6][Mv .dct Xx (ixF Aa[1] kS["new"]) yA[Aa[4]]] Ad[Ij Aa[1] kS["old"] Bc[.add][Bc .add slF[ixF Aa[1] kS["old"]][Bs][Cw[Aa[4]]] Qq[yA[Aa[6]]]][slF[ixF Aa[1] kS["old"]][Cw[Bc .add Aa[4] kI[1]]][Bs]]][Ad Bq[3][Bc .add Aa[3] kI[1]] Aj]) Aj
def Acd:MS:=Ad (Bq 3 kI[0])
 (Ad (Mu Ea[Aa[2]] Br[4] (Ad (Mu Ea[Aa[0]] Br[5] (Ad Hy[Bd (λc n=>Em.lookup[u6 c n]) "write" Aa[5] yA[Aa[4]]]
   Aj))
  (Ad aA1
  Aj)))
 (rQ Aa[3]))
def My:lg W->M W:=Bj 3 7 Acd
def Aly:Bk[Ah Ss][md.gm Ms Alx Ac[Ss] Em]=Acd:=by rfl'
def Ace:lg[o8×Fi]:=(u6 "_law_write" (My,3,[]))::Ms
abbrev Nt:cQ:=top 86
def Aht:lg o8:=["_law_tape_here","_law_disks","_law_shelves","_law_world","_law_some","_law_third"]
abbrev aB2:=Ij Aa[3] kS["begun"] Bc[.add][ixF Aa[3] kS["begun"]][zC My Aa[2] Aa[3] Aa[4]]
def Wg:MS:=Ad Bq[4][zA Li zA[Ve][ixF Aa[3] kS["new"]]]
 (Ad (ifS tQ[.Eq][zB Aq Aa[0] kI[2]][kI[0]] (Ad (Bq 4 slF[Cv 1 [3] Ea[Aa[4]] Br[0] (tQ .LtE Aa[0] zA[Dm][ixF Aa[1] kS["old"]]) Aa[0]][Bs][Cw[kI[1]]])
  Aj) Aj)
 (Ad aB2
 (Ad (Bq 5 zB[λws=>Ko 7 Du ws][ixF[Aa 1][zB Aq Aa[0] kI[2]]][Bc[.add][kI[2]][zB Aq Aa[0] kI[39]]])
 (rQ Er[.Eq][compX[1][[5]][Ii Fj yA[zA[Dm][ixF Aa[3] kS["old"]]]][Br 0][λuu=>pure t8][Bd (λc n=>Em.lookup[u6 c n]) "page" Aa[1] yA[Aa[0]]]][ixF Aa[3] kS["old"]]))))
def Hj:lg W->M W:=Bj 4 6 Wg
def Ahu:Bk[Ah Nt][md.gm Ace Aht Ac[Nt] Em]=Wg:=by rfl'
def J9:lg[o8×Fi]:=(u6 "_law_written" (Hj,4,[]))::Ace
abbrev Su:cQ:=inClass top[66] 8
def Alz:lg o8:=["self"]
def Acf:MS:=rQ zA[Ve][Dy fld "at_hand" Aa[0]]
def Acg:lg W->M W:=Bj 1 1 Acf
def Al0:Bk[Ah Su][md.gm J9 Alz Ac[Su] Em]=Acf:=by rfl'
def Ach:lg[(Nat×o8)×Fi]:=(u6 (u6 7 "held") (Acg,1,[]))::Em
abbrev Nv:cQ:=inClass top[66] 10
def Ahv:lg o8:=["self"]
def Wh:MS:=Ad (Gh fld "at_hand" Aa[0] Mm[[]])
 (Ad (Gh fld "unwritten" Aa[0] Mm[[]])
 Aj)
def Ny:lg W->M W:=Bj 1 1 Wh
def Ahw:Bk[Ah Nv][md.gm J9 Ahv Ac[Nv] Ach]=Wh:=by rfl'
def Hl:lg[(Nat×o8)×Fi]:=(u6 (u6 7 "forget") (Ny,1,[]))::Ach
abbrev Lg:cQ:=top 85
def Adz:lg o8:=["_law_shelves","_law_world"]
def Ra:MS:=Ad (Ij Aa[1] kS["new"] Mm[[]])
 (Ad (Ij Aa[1] kS["many"] zA[Dm][ixF Aa[1] kS["old"]])
 (rQ Jd[Er .Eq (Cv 1 [] Ea[Aa[0]] Br[0] (λuu=>pure t8) (Bd (λc n=>Hl.lookup[u6 c n]) "forget" Aa[0] nilF)) Qq[yB kF[.non] kF[.non]]][Er .Eq Bd[λc n=>Hl.lookup[u6 c n]]["held"][ixF Aa[0] kI[0]][nilF] Qq[nilF]]))
def Gd:lg W->M W:=Bj 2 2 Ra
def Ad0:Bk[Ah Lg][md.gm J9 Adz Ac[Lg] Hl]=Ra:=by rfl'
def Lh:lg[o8×Fi]:=(u6 "_law_forgotten" (Gd,2,[]))::J9
abbrev Ml:cQ:=inClass top[66] 7
def Afb:lg o8:=["self"]
def Tn:MS:=rQ zA[Li][Dy fld "unwritten" Aa[0]]
def Tq:lg W->M W:=Bj 1 1 Tn
def Afc:Bk[Ah Ml][md.gm Lh Afb Ac[Ml] Hl]=Tn:=by rfl'
def Ex:lg[(Nat×o8)×Fi]:=(u6 (u6 7 "changed") (Tq,1,[]))::Hl
abbrev Ka:cQ:=top 82
def Aci:lg o8:=["_law_shelves","_law_world","_law_shelf","_law_most","_law_held","_law_new"]
def Qf:MS:=Ad (Mu Ana[yB[Aa 0][ixF Aa[1] kS["most"]]] Ae6[[2,3]] (Ad Bq[4][Bd (λc n=>Ex.lookup[u6 c n]) "held" Aa[2] nilF]
  (Ad Bq[5][zA Li zA[Ve][ixF Aa[1] kS["new"]]]
  (Ad ifS[orT tQ[.NotEq][Bd (λc n=>Ex.lookup[u6 c n]) "changed" Aa[2] nilF][Aa[5]] tQ[.NotEq][Cv 1 [4] Ea[Aa[5]] Br[0] (tQ .NotIn Aa[0] Aa[1]) Aa[0]][Qq[nilF]]][rQ[kB[tu]]][Aj]
  (Ad ifS[orT tQ[.Gt][zA Dm Aa[4]][zB[Ap4][Aa[3]][zA Dm Aa[5]]] tQ[.Lt][zA W9 Aa[4]][zA Dm Aa[4]]][rQ[kB[tu]]][Aj]
  Aj)))))
 (rQ kB[t8])
def Ez:lg W->M W:=Bj 2 6 Qf
def Acj:Bk[Ah Ka][md.gm Lh Aci Ac[Ka] Ex]=Qf:=by rfl'
def Ack:lg[o8×Fi]:=(u6 "_law_held_right" (Ez,2,[]))::Lh
abbrev Ajy:cQ:=top 87
def Bmy:lg o8:=["_law_script","_law_tape_here","_law_size_here","_law_disks","_law_old","_law_number","_law_page_here","_law_disk","_law_world","_law_shelves","_law_turn","_law_way"]
abbrev aA6:=ifS Vj[tQ .Eq Aa[11] kI[9]][Vj tQ[.Eq][zB Aq Aa[1] kI[4]][kI[0]] Gx[Ce[zB Gd Aa[9] Aa[8]]]] rQ[kB[tu]] Aj
abbrev aA7:=ifS (orT Gx[Ce[zB Ez Aa[9] Aa[8]]] Gx[Ce[zC Df Aa[3] Aa[8] (ixF Aa[8] kS["begun"])]]) rQ[kB[tu]] Aj
abbrev aA9:=ifS Vj[tQ .Lt Aa[11] kI[8]][Gx Ce[Dg[Eh][yD Aa[1] Aa[9] Aa[8] Aa[11]]]] rQ[kB[tu]] Aj
abbrev aB0:=ifS Vj[tQ .Eq Aa[11] kI[8]][Gx Ce[Dg[Hj][yD Aa[1] Aa[3] Aa[9] Aa[8]]]] rQ[kB[tu]] Aj
abbrev aA0:=Ad Mu[Ii Fj yA[Bc[.add][kI[4]][zB Aq Aa[1] kI[27]]]][Br 10][Ad Bq[11][zB Aq Aa[1] kI[10]] Ad[aA9][Ad aB0 Ad[aA6][Ad aA7 Aj]]] rQ[Jd[zB Iz Aa[9] Aa[8]][zC Df Aa[3] Aa[8] (ixF Aa[8] kS["begun"])]]
def Bgj:MS:=Ad Bq[1][zA Vr Aa[0]]
 (Ad Bq[2][zA Vu Aa[1]]
 (Ad (Bq 3 Qq[yB zA[λws=>Ko 8 Iw ws][Aa 2] zA[λws=>Ko 8 Iw ws][Aa 2]])
 (Ad (Bq 4 Cv[1][[2,1]][Ii Fj yA[Bc[.add][kI[2]][zB Aq Aa[1] kI[11]]]][Br 0][λuu=>pure t8][zC Lz Aa[2] Aa[1] kI[60]])
 (Ad (Mu Agr[Aa[4]] Ae6[[5,6]] (Ad (Mu Ea[Aa[3]] Br[7] (Ad Hy[Bd (λc n=>Ex.lookup[u6 c n]) "write" Aa[7] yB[Aa 5][zB Hi Aa[6] Aa[2]]]
   Aj))
  Aj))
 (Ad (Bq 8 Mm[[((kS "size"),(Aa 2)),((kS "old"),(Aa 4)),((kS "new"),(Mm [])),((kS "many"),(zA Dm Aa[4])),((kS "begun"),(zA Dm Aa[4]))]])
 (Ad (Ij Aa[8] kS["most"] Qq[yB kI[2] Bc[.add][kI[2]][zB Aq Aa[1] kI[39]]])
 (Ad Bq[9][Cv 1 [3,8] (Ii Fj yA[kI[2]]) Br[0] (λuu=>pure t8) zB[λws=>Ko 7 Du ws][ixF Aa[1] Aa[0]][ixF[ixF Aa[2] kS["most"]][Aa 0]]]
 aA0)))))))
def Asw:lg W->M W:=Bj 1 12 Bgj
def Bmz:Bk[Ah Ajy][md.gm Ack Bmy Ac[Ajy] Ex]=Bgj:=by rfl'
def all_mk{l:sZ}{w:dG}{K:aD}{h:dY}{mg:o8->o9 aG}{fa:aL}{Q O N J I H j f m:aL}{B:aL}{od22 z:o9 aL}{sl22:Array o9[aG]}{oc22 q u o k y:aG}{A:aL}{do22:aG}{dd22:o9 aL}{dn22:Nat}{dz22:Array o9[aG]}{r:Tok}{tk0 tk1 tk2 tk3 tk4 tk5 tk6 tk7 tk8 tk9 tk10 tk11 tk12 tk13 tk14 tk15 Z Y U T:Tok}{m0:aL}(X:K.In h)(G:h.Ns mainGlobals mg)(hfa:mg "law"=sr .ref[fa])(law:∀ns:lg Int,ns.length<=63->∃S',Asw [.scr ns] []=.ok .bl[t8] S')(C0:bB K mainGlobals "TableError"=sr sr[.ref[Q]])(C1:bB K mainGlobals "BadNumber"=sr sr[.ref[O]])(C2:bB K mainGlobals "BadText"=sr sr[.ref[N]])(C3:bB K mainGlobals "BadSize"=sr sr[.ref[J]])(C4:bB K mainGlobals "BadPage"=sr sr[.ref[I]])(C5:bB K mainGlobals "PowerGone"=sr sr[.ref[H]])(C6:bB K mainGlobals "BodyReader"=sr sr[.ref[j]])(C7:bB K mainGlobals "Shelf"=sr sr[.ref[f]])(C8:bB K mainGlobals "Disk"=sr sr[.ref[m]])(D0:Eg K mg "_law_tape" Vq ["_law_script"])(D1:Eg K mg "_law_draw" Vs ["_law_tape_here","_law_many"])(D2:Eg K mg "_law_size" Vt ["_law_tape_here"])(D3:Eg K mg "is_whole" Aam ["thing"])(D4:Eg K mg "is_size" Adj ["thing"])(D5:Kg K m "__init__" "Disk.__init__" Mi ["self","size"])(D6:Eg K mg "_law_signs" Rp [])(D7:Eg K mg "_law_text" Vv ["_law_tape_here","_law_size_here"])(D8:Eg K mg "_law_keys" Vw ["_law_tape_here","_law_many"])(D9:Eg K mg "_law_longer" Qi ["_law_tape_here","_law_page_here","_law_key","_law_size_here","_law_most"])(D10:Eg K mg "digits" Ag7 ["number","many"])(D11:Eg K mg "numbers_text" M9 ["numbers"])(D12:Eg K mg "key_text" Aan ["key"])(D13:Eg K mg "cell_text" Vz ["cell"])(D14:Eg K mg "row_text" Aao ["row"])(D15:Eg K mg "body_text" V1 ["page"])(D16:Eg K mg "word_of" Adl ["thing"])(D17:Eg K mg "is_text" Adm ["thing"])(D18:Eg K mg "is_key" Ahe ["thing"])(D19:Eg K mg "are_rising_keys" Jz ["keys"])(D20:Eg K mg "is_tuple_of" Qj ["thing","many"])(D21:Eg K mg "is_text_of" Rt ["thing","least","most"])(ca22:bB K mainGlobals "is_number"=sr sr[.ref[B]])(cl22:K.lookup B=sr (oc22,od22,.func[dR "is_number" "is_number" Fq[Cg] Ah[Cg] Ac[Cg] .ref[A] q u o z k y],sl22))(cc22:lL K k "is_number"=t8)(ck22:eG K .ref[B]=t8)(C:K.lookup A=sr (do22,dd22,.seq #[(.int 0 r)] dn22,dz22))(D23:Eg K mg "is_cell" Adn ["thing"])(D24:Eg K mg "are_rows" Aap ["thing"])(D25:Eg K mg "are_keys" Aar ["thing"])(D26:Eg K mg "are_kids" Aat ["thing","many"])(D27:Eg K mg "is_page" Ado ["thing"])(D28:Eg K mg "body_of" Adp ["page"])(D29:Eg K mg "_law_page" V3 ["_law_tape_here","_law_size_here","_law_most"])(D30:Kg K f "make_room" "Shelf.make_room" J0 ["self"])(D31:Kg K m "begin_write" "Disk.begin_write" Jh ["self","text"])(D32:Kg K m "end_write" "Disk.end_write" K9 ["self"])(D33:Eg K mg "is_written_number" Ib ["thing"])(D34:Eg K mg "number_of" V4 ["text"])(D35:Kg K j "__init__" "BodyReader.__init__" G6 ["self","body"])(D36:Kg K j "next_signs" "BodyReader.next_signs" Fz ["self","many"])(D37:Kg K j "next_number" "BodyReader.next_number" Fg ["self","many"])(D38:Kg K j "next_key" "BodyReader.next_key" G8 ["self"])(D39:Kg K j "next_keys" "BodyReader.next_keys" Gj ["self","many"])(D40:Kg K j "next_numbers" "BodyReader.next_numbers" Es ["self","many"])(D41:Kg K j "next_cell" "BodyReader.next_cell" Gp ["self"])(D42:Kg K j "next_row" "BodyReader.next_row" Hc ["self"])(D43:Kg K j "next_rows" "BodyReader.next_rows" Gq ["self","many"])(D44:Eg K mg "told_page" V5 ["letter","body"])(D45:Eg K mg "check_of" Aax ["text"])(D46:Eg K mg "has_right_check" J5 ["text"])(D47:Eg K mg "told_by_text" Ni ["text"])(D48:Eg K mg "unchecked_text" La ["page","body","size"])(D49:Eg K mg "page_of" Adu ["text"])(D50:Eg K mg "is_page_text" Nk ["thing","size"])(D51:Kg K m "write" "Disk.write" R7 ["self","number","text"])(D52:Eg K mg "room_of" Adv ["size"])(D53:Eg K mg "page_text" Wa ["page","size"])(D54:Kg K f "write" "Shelf.write" Qm ["self","number"])(D55:Kg K f "__init__" "Shelf.__init__" Lb ["self","disk","most"])(D56:Eg K mg "_law_due" Aay ["_law_world","_law_number"])(D57:Kg K f "hold" "Shelf.hold" R8 ["self","number","page"])(D58:Kg K m "pages" "Disk.pages" R9 ["self"])(D59:Kg K f "read" "Shelf.read" Sg ["self","number"])(D60:Kg K f "page" "Shelf.page" Sq ["self","number"])(D61:Eg K mg "_law_all_told" Mj ["_law_shelves","_law_world"])(D62:Kg K m "rows" "Disk.rows" Wc ["self"])(D63:Kg K m "writes" "Disk.writes" Qn ["self"])(D64:Eg K mg "_law_disks_right" Ji ["_law_disks","_law_world","_law_begun"])(D65:Eg K mg "own_page" Aa1 ["number","page","size"])(D66:Kg K f "put" "Shelf.put" We ["self","number","page"])(D67:Eg K mg "_law_asked_or_put" Ig ["_law_tape_here","_law_shelves","_law_world","_law_way"])(D68:Eg K mg "_law_write" Ss ["_law_shelves","_law_world","_law_numbers"])(D69:Eg K mg "_law_written" Nt ["_law_tape_here","_law_disks","_law_shelves","_law_world"])(D70:Kg K f "held" "Shelf.held" Su ["self"])(D71:Kg K f "forget" "Shelf.forget" Nv ["self"])(D72:Eg K mg "_law_forgotten" Lg ["_law_shelves","_law_world"])(D73:Kg K f "changed" "Shelf.changed" Ml ["self"])(D74:Eg K mg "_law_held_right" Ka ["_law_shelves","_law_world"])(D75:Eg K mg "law" Ajy ["_law_script"])(g0:bB K mainGlobals "SIGNS"=sr sr[.str "0123456789abcdefghijklmnopqrstuvwxyzABCDEFGHIJKLMNOPQRSTUVWXYZ+-" tk0])(g1:bB K mainGlobals "BITS"=sr sr[.int 6 tk1])(g2:bB K mainGlobals "LOWEST_BITS"=sr sr[.int 63 tk2])(g3:bB K mainGlobals "MOST_SIGNS"=sr sr[.int 3 tk3])(g4:bB K mainGlobals "TEXT_SIGNS"=sr sr[.str " !\"#$&'()*+,-./0123456789:;<=>?@ABCDEFGHIJKLMNOPQRSTUVWXYZ[\\]^_`abcdefghijklmnopqrstuvwxyz{|}~" tk4])(g5:bB K mainGlobals "CODES_AHEAD"=sr sr[.int 31 tk5])(g6:bB K mainGlobals "CHECK_DIVISOR"=sr sr[.int 4093 tk6])(g7:bB K mainGlobals "CHECK_SIGNS"=sr sr[.int 2 tk7])(g8:bB K mainGlobals "MOST_KEY_SIGNS"=sr sr[.int 12 tk8])(g9:bB K mainGlobals "MOST_VALUE_SIGNS"=sr sr[.int 400 tk9])(g10:bB K mainGlobals "LEAST_SIZE"=sr sr[.int 64 tk10])(g11:bB K mainGlobals "MOST_SIZE"=sr sr[.int 200 tk11])(g12:bB K mainGlobals "MOST_NUMBER"=sr sr[.int 4095 tk12])(g13:bB K mainGlobals "MOST_ROWS"=sr sr[.int 63 tk13])(g14:bB K mainGlobals "MOST_CELL_SIGNS"=sr sr[.int 63 tk14])(g15:bB K mainGlobals "NUMBER_SIGNS"=sr sr[.int 2 tk15])(g16:bB K mainGlobals "SIGNS_BESIDE_BODY"=sr sr[.int 5 Z])(g17:bB K mainGlobals "BODY_START"=sr sr[.int 3 Y])(g18:bB K mainGlobals "LEAST_HELD"=sr sr[.int 2 U])(g19:bB K mainGlobals "MOST_HELD"=sr sr[.int 40 T])(z0:bB K mainGlobals "isinstance"=sr sy)(z1:bB K mainGlobals "len"=sr sy)(z2:bB K mainGlobals "ord"=sr sy)(z3:bB K mainGlobals "max"=sr sy)(z4:bB K mainGlobals "sum"=sr sy)(z5:bB K mainGlobals "all"=sr sy)(z6:bB K mainGlobals "tuple"=sr sy)(z7:bB K mainGlobals "list"=sr sy)(z8:bB K mainGlobals "sorted"=sr sy)(z9:bB K mainGlobals "range"=sr sy)(z10:bB K mainGlobals "zip"=sr sy)(z11:bB K mainGlobals "enumerate"=sr sy)(z12:bB K mainGlobals "set"=sr sy)(z13:bB K mainGlobals "int"=sr sy)(z14:bB K mainGlobals "bool"=sr sy)(z15:bB K mainGlobals "str"=sr sy)(z16:bB K mainGlobals "ValueError"=sr sy)(isL:Asc K [Q,O,N,J,I,H,j,f,m] Bmt=t8)(veL:Ayq K [Q,O,N,J,I,H,j,f,m] Bmu=t8)(mg0:bB K mainGlobals "LETTERS"=sr sr[.ref[m0]])(mt0:aBz[aBf λb=>K.lookup b][λb=>K.lookup b][m0][Qw.map λp=>(u6 p.1 pJ[.str[p.2]])]=t8)(cm6:jC K j=t8)(cy6:eG K .ref[j]=t8)(i:Aqe K j=t8)(cm7:jC K f=t8)(cy7:eG K .ref[f]=t8)(d:Aqe K f=t8)(cm8:jC K m=t8)(cy8:eG K .ref[m]=t8)(n:Aqe K m=t8)(fl:Asd K [Q,O,N,J,I,H,j,f,m] Bmv=t8)(xl:Ayt K [Q,O,N,J,I,H,j,f,m] xfL=t8): ∃fd:eU,(∀(s:aO)(v:aG),wB s fd ([v],[]) [("_law_script",v)])/\∀base:dY,K.In base->base.Ns mainGlobals mg->Ke l.prog w K mg base (CXo l.prog w) 154 fa fd ["_law_script"] Ayn[K]:=by
 let(fL,kV,dc,pm,an,cd,ct,Fl,hm):=D75;let e:fa=fL:=aAe cA[hfa.symm.trans[hm]];rw[e];let F22:=Apo (st:=Cg) cl22 cc22 ck22;let b22:Binds K (dR "is_number" "is_number" Fq[Cg] Ah[Cg] Ac[Cg] .ref[A] q u o z k y) ["thing","least"] []:=λs E KX hl=>by
  let F:E.length=2:=by simpa using hl
  exact match E,F with|[_,_],_=>.of_defaults rfl (KX _ _ C) rfl rfl rfl
 let v22:Binds K (dR "is_number" "is_number" Fq[Cg] Ah[Cg] Ac[Cg] .ref[A] q u o z k y) ["thing","least"] [(.int 0 r)]:=λs E KX hl=>by
  let F:E.length=1:=by simpa using hl
  exact match E,F with|[_],_=>.of_defaults rfl (KX _ _ C) rfl rfl rfl
 let D22:Xv K mg "is_number" Cg ["thing","least"] B (dR "is_number" "is_number" Fq[Cg] Ah[Cg] Ac[Cg] .ref[A] q u o z k y):=(F22,bJ X G ca22,b22);refine(dR "law" "law" Fq[Ajy] Ah[Ajy] Ac[Ajy] .none kV dc pm an cd ct,λs v=>.of_eq rfl,λbase uu uu=>Bjf (xf:=λc=>xfL.lookup c) (cl:=addrs [Q,O,N,J,I,H,j,f,m]) (g:=Asw) law ?_);letI S:=Aym K addrs[[Q,O,N,J,I,H,j,f,m]] λc=>xfL.lookup c;let M:md.Ok S K mg:={
  hK:=rfl
  con:=AllP.at (L:=Bmw) (P:=Ayp S mg) (Ar9[bJ X G g0],Ep[bJ X G g1],Ep[bJ X G g2],Ep[bJ X G g3],Ar9[bJ X G g4],Ep[bJ X G g5],Ep[bJ X G g6],Ep[bJ X G g7],Ep[bJ X G g8],Ep[bJ X G g9],Ep[bJ X G g10],Ep[bJ X G g11],Ep[bJ X G g12],Ep[bJ X G g13],Ep[bJ X G g14],Ep[bJ X G g15],Ep[bJ X G g16],Ep[bJ X G g17],Ep[bJ X G g18],Ep[bJ X G g19],Adc[bU X G z13][by rfl'],Adc[bU X G z14][by rfl'],Adc[bU X G z15][by rfl'],Adc[bU X G z6][by rfl'],Adc[bU X G z7][by rfl'],Adc[bU X G z16][by rfl'],Mw[bJ X G C0],Mw[bJ X G C1],Mw[bJ X G C2],Mw[bJ X G C3],Mw[bJ X G C4],Mw[bJ X G C5],Mw[bJ X G C6],Mw[bJ X G C7],Mw[bJ X G C8],trivial)
  bi:=AllB.at (L:=biL) (P:=λx=>mg x=sy) (bU X G z0,bU X G z1,bU X G z2,bU X G z3,bU X G z4,bU X G z5,bU X G z6,bU X G z7,bU X G z8,bU X G z9,bU X G z10,bU X G z11,bU X G z12,trivial)
  fld:=Bjh fl xl
  isa:=Bjg isL veL
  mdc:=AllP.at (L:=Bmx) (P:=λx D=>∃a,Aur K a D/\mg x=sr .ref[a]) ((_,Bdn mt0,bJ X G mg0),trivial)
  mkl:=AllP.at (L:=mkL) (P:=λx c=>mg x=sr .ref[S.cl[c]]/\jC K S.cl[c]=t8/\eG K .ref[S.cl[c]]=t8) ((bJ X G C6,cm6,cy6),(bJ X G C7,cm7,cy7),(bJ X G C8,cm8,cy8),trivial) }
 let t:TU S md l.prog w K mg base 2 T_0 U_0:=(Tbl.nil,MTb.nil,M);let t:=En Anv t D0;let t:=En Anx t D1;let t:=En Anz t D2;let t:=En Aqm t D3;let t:=En Au1 t D4;let t:=Lr (c:=8) Ae8 t n D5;let t:=En Ali t D6;let t:=En An1 t D7;let t:=En An3 t D8;let t:=En Aij t D9;let t:=En Azm t D10;let t:=En Ag9 t D11;let t:=En Aqo t D12;let t:=En An7 t D13;let t:=En Aqq t D14;let t:=En An9 t D15;let t:=En Au3 t D16;let t:=En Au5 t D17;let t:=En Azo t D18;let t:=En Abv t D19;let t:=En Ail t D20;let t:=En Alk t D21;let t:=Bmq (dv:=[(.int 0)]) Aod t D22 rfl ((.cons (_,rfl) .nil)) v22;let t:=En Au7 t D23;let t:=En Aqs t D24;let t:=En Aqu t D25;let t:=En Aqw t D26;let t:=En Au9 t D27;let t:=En Avb t D28;let t:=En Aof t D29;let t:=Lr (c:=7) Abz t d D30;let t:=Lr (c:=8) Aaw t n D31;let t:=Lr (c:=8) Adr t n D32;let t:=En Xo t D33;let t:=En Aoh t D34;let t:=Lr (c:=6) Tu t i D35;let t:=Lr (c:=6) Q6 t i D36;let t:=Lr (c:=6) Ql t i D37;let t:=Lr (c:=6) Tw t i D38;let t:=Lr (c:=6) Rv t i D39;let t:=Lr (c:=6) N8 t i D40;let t:=Lr (c:=6) Rz t i D41;let t:=Lr (c:=6) T8 t i D42;let t:=Lr (c:=6) R5 t i D43;let t:=En Aoj t D44;let t:=En Aqy t D45;let t:=En Ab1 t D46;let t:=En Aho t D47;let t:=En Adt t D48;let t:=En Avd t D49;let t:=En Ahq t D50;let t:=Lr (c:=8) Aln t n D51;let t:=En Avf t D52;let t:=En Aol t D53;let t:=Lr (c:=7) Ain t d D54;let t:=Lr (c:=7) Ady t d D55;let t:=En Aq0 t D56;let t:=Lr (c:=7) Alp t d D57;let t:=Lr (c:=8) Alr t n D58;let t:=Lr (c:=7) Alu t d D59;let t:=Lr (c:=7) Alw t d D60;let t:=En Afa t D61;let t:=Lr (c:=8) Aon t n D62;let t:=Lr (c:=8) Aip t n D63;let t:=En Aa0 t D64;let t:=En Aq2 t D65;let t:=Lr (c:=7) Aop t d D66;let t:=En Xq t D67;let t:=En Aly t D68;let t:=En Ahu t D69;let t:=Lr (c:=7) Al0 t d D70;let t:=Lr (c:=7) Ahw t d D71;let t:=En Ad0 t D72;let t:=Lr (c:=7) Afc t d D73;let t:=En Acj t D74;exact Boy Bmz t (Fl,hm,Af9 λE h=>match E,h with|[_],_=>rfl)
section
def G3(i:Int):Pu P Ff[[.int i]] .bl[t8]:=(λS b=>([],by rw[cH];rfl))
def Bd8(v:Int)(b:0<=v)(h:v < 64):Pu P (ixW .str["0123456789abcdefghijklmnopqrstuvwxyzABCDEFGHIJKLMNOPQRSTUVWXYZ+-"] .int[v]) .str[M1.one[M1.sg[v.toNat]]]:=by
 let(k,rfl):=Int.eq_ofNat_of_zero_le b;let hk:k < 64:=by omega
 let e:atI M1.sgs.cps.toList k=sr M1.sg[k]:=by
  unfold atI ixN;rw[di b,di (by rw[aW,M1.Abr];exact h)]
  show M1.sgs.cps.toList[_]?=_;rw[dW,M1.Aqj hk]
 show Pu P (if M1.sgs.length<=big then Aif[(atI M1.sgs.cps.toList (k:Int)).map _] else bad) _
 rw[e];exact Ls () Pu.pure
def Ahx{n:Int}(f:0<=n)(e:t.length<=10):PuN P aA8
  [a,b,sr .str[t],sr .int[n],c] [a,b,sr .str[M1.one M1.sg[(n % 64).toNat] ++ t],sr .int[n / 64],c]:=by
 refine Aut Dh[Bx Cr[An][Bx Ai[rfl] An Pu.pure][?_] Ai[rfl] Ft[?_]] (Aut Dh[Bx Ai[rfl] An Aqf[by simp]] Ay)
 .rw[bitAnd_m6 _];exact Bd8 _ () ()
 .show 1+_<=big;unfold big;omega
def Bd9{n:Int}(a:0<=n)(c:n < 64):Pu P Hh[[.int n,.int 1]] .str[M1.Dv 1 n]:=by
 apply Bo rfl;refine Cu Fo[Jw Dt[Ak[Ae[Ab Ai[rfl] Af][G3 n]]] Ak[Aw Ai[rfl] An Agx]][by simp_all][Ay] ?_
 refine Cu (Fo Jw[Dt Ak[Ae[Ab Ai[rfl] Af][G3 1]]][Jw Ak[Aw Ai[rfl] An Agx] Ak[Aw Ai[rfl] An Xy]] rfl Ay) ?_;refine Cu (Fo Ak[Aw Bx[Ai[rfl]][Bx An Ai[rfl] Afq[by rfl]][Aqf[by simp]] An Xy] (by
  grind) Ay) ?_
 refine Cu[Dh An][Cu Dh[Ai[rfl]] ?_];refine Cu Ak5[Lj (Ab Ai[rfl] Af) ()][Abn rfl Ahx[a][by trivial] Ak4] Bh[Bb[Pu.cast Ai[rfl] ?_]]
 show W.str[_ ++ ⟨#[]⟩]=W.str[_ ++ ⟨_⟩];simp
def Al1{n:Int}(b:0<=n)(c:n < 4096):Pu P Hh[[.int n,.int 2]] .str[M1.Dv 2 n]:=by
 apply Bo rfl;refine Cu (Fo (Jw Dt[Ak[Ae[Ab Ai[rfl] Af][G3 n]]] Ak[Aw Ai[rfl] An Agx]) (by simp;omega) Ay) ?_
 refine Cu (Fo Jw[Dt Ak[Ae[Ab Ai[rfl] Af][G3 2]]][Jw Ak[Aw Ai[rfl] An Agx] Ak[Aw Ai[rfl] An Xy]] rfl Ay) ?_;refine Cu (Fo Ak[Aw Bx[Ai rfl][Bx An Ai[rfl] (Afq ())][Aqf ()] An Xy] (by
  simp;show n / 4096<=0;omega) Ay) ?_
 refine Cu[Dh An][Cu Dh[Ai[rfl]] ?_];refine Cu (Ak5 (Lj (k:=2) (Ab Ai[rfl] Af) ()) Abn[rfl][Ahx b ()][Abn[rfl][Ahx () (by show 1+0<=10;decide)][Ak4]]) Bh[Bb[Pu.cast Ai[rfl] ?_]]
 show _=W.str[M1.one M1.sg[(n / 64 ^ 1 % 64).toNat] ++ (M1.one M1.sg[(n / 64 ^ 0 % 64).toNat] ++ ⟨#[]⟩)];rw[Int.pow_zero,Int.ediv_one];rfl
end
section
def Bea{c:Nat}:Pu P Aun[[.str ⟨#[c]⟩]] (.int (c:Nat)):=Pu.pure
def Aq3(g:Pu P f[Y] .str[z])(e:Pu P h[Y] b)(d:Pu P (c .str[z] b) w):Pu P (Mv .str c f h Y) w:=by
 refine g.bind (Pu.bind (a:=u9) (λS i=>([],?_)) e.bind[d]);rw[cH];rfl
def Avg:("":o8)=⟨#[]⟩:=rfl
def Al2(z:o8)(a:z.length<=big):Pu P Qy[[.str z]] .bl[M2.Eb[z]]:=by
 apply Bo rfl;apply Bh;apply Bb;refine Pu.cast (Aw Aq3[Ai rfl][Ab An Af][Ls a Pu.pure] An Fe) ?_;show W.bl[iZ z M2.tsg==_]=_;rw[Avg,M2.Aqk]
def len_str(hz:z.length<=big):Pu P Dm[[.str z]] .int[z.length]:=Ls hz Pu.pure
def Gs:Pu P Dm[[.tup ws]] .int[ws.length]:=Pu.pure
def Al3:Pu P (Aah isa [.str z,.ty "str"]) .bl[t8]:=(λS a=>([],by rw[cH];rfl))
def Aft:Pu P (Aah isa [.tup a,.ty "tuple"]) .bl[t8]:=(λS b=>([],by rw[cH];rfl))
def isKey(z:o8):Bool:=M2.Eb z&&(decide[1<=z.length]&&decide[z.length<=12])
def Azp(z:o8)(a:z.length<=big):Pu P V2[[.str z]] .bl[isKey[z]]:=by
 apply Bo rfl;apply Bh;apply Bb;refine Pu.cast Abo[Ae[Ab Ai[rfl] Af][Al2 z a]][Vo An Ae[Ab Ai[rfl] Af][len_str a] Vn An Vn] ?_
 congr 3
 .exact decide_eq_decide.mpr ()
 .exact decide_eq_decide.mpr ()
def Ge(n k:Int):Bool:=decide[k<=n]&&decide[n<=4095]
def Aq4(n k:Int):Pu P Ek[[.int n,.int k]] .bl[Ge n k]:=Bo rfl Bh[Bb[Dp[Ae[Ab Ai[rfl] Af][G3 n]][Vo Ai[rfl] Ai[rfl] Vn An Vn]]]
def Ajz(z:o8)(a b:Int)(hz:z.length<=big):Pu P Mx[[.str z,.int a,.int b]] .bl[M2.Eb z&&(decide[a<=z.length]&&decide[(z.length:Int)<=b])]:=Bo rfl Bh[Bb[Abo[Ae[Ab Ai[rfl] Af][Al2 z hz]][Vo Ai[rfl] Ae[Ab Ai[rfl] Af][len_str hz] Vn Ai[rfl] Vn]]]
def Aoq(ws:lg W)(n:Int):Pu P Io[[.tup ws,.int n]] .bl[(ws.length:Int)==n]:=Bo rfl Bh[Bb[Dp[Ae Ab[Ai rfl][Ab An Af] Aft][Aw Ae[Ab Ai[rfl] Af][Gs] Ai[rfl] Rk]]]
def Bl{i:Int}(h:atI a i=sr w):Pu P (ixW .tup[a] .int[i]) w:=by
 show Pu P Aif[_] w;rw[h];exact Pu.pure
def Sv(z:o8)(a:lg W):Pu P Xi[[.tup (.str z::a)]] .str[z]:=by
 let e:atI (W.str z::a) 0=sr W.str[z]:=by
  unfold atI ixN;simp
 apply Bo rfl;apply Bh;apply Aak
 .apply Ase
  .exact Ak[Ae Ab[Ai rfl][Ab An Af] Aft]
  apply Ase
  .exact Ak[Aw Ae[Ab Ai[rfl] Af][Gs] An Xy]
  .exact Ak[Ae Ab[Cr Ai[rfl] An Bl[e]][Ab An Af] Al3]
 .simp
 .exact Bh Bb[Cr Ai[rfl] An Bl[e]]
end
inductive Cl where
 |inn (t:o8)
 |out (n p:Int)
def Cl.w:Cl->W
 |.inn t=>.tup [.str "in",.str t]
 |.out n p=>.tup [.str "out",.int n,.int p]
def Cl.ok:Cl->Bool
 |.inn t=>M2.Eb t&&decide (t.length<=63)
 |.out n p=>decide[1<=n]&&decide[n<=400]&&Ge p 1
inductive Pg where
 |head (a b c d:Int)
 |leaf (rs:List (o8×Cl))
 |fork (ks:List o8) (ps:List Int)
 |rest (t:o8) (n:Int)
 |free (n:Int)
def Xr(r:o8×Cl):W:=.tup [.str r.1,r.2.w]
def Pg.w:Pg->W
 |.head a b c d=>.tup [.str "head",.int a,.int b,.int c,.int d]
 |.leaf rs=>.tup [.str "leaf",.tup rs.map[Xr]]
 |.fork ks ps=>.tup [.str "fork",.tup ks.map[W.str],.tup ps.map[W.int]]
 |.rest t n=>.tup [.str "rest",.str t,.int n]
 |.free n=>.tup [.str "free",.int n]
section
def Cl.sm:Cl->Prop
 |.inn t=>t.length<=400
 |.out _ _=>True
def Bju(c:Cl)(h:c.sm):Pu P Xj[[c.w]] .bl[c.ok]:=by
 cases c with
 |inn t=>
  apply Bo rfl;refine Cu Dh[Ae[Ab Ai[rfl] Af][Sv _ _]] Bh[Aak Ak[Aw[Ai[rfl]][An][Cy () ()]] () Bh[Bb[?_]]]
  refine Pu.cast Dp[Aw Ae[Ab Ai[rfl] Af][Gs] An Rk][Ae[Ab[Cr Ai[rfl] An Bl[rfl]][Ab[An][Ab An Af]]][Ajz t 0 63 (aH h ())]] ?_
  unfold Cl.ok;rw[dm (by omega:(0:Int)<=t.length),mQ,decide_eq_decide.mpr (by omega:((t.length:Int)<=63 ↔ t.length<=63))]
 |out n p=>
  apply Bo rfl;refine Cu Dh[Ae[Ab Ai[rfl] Af][Sv _ _]] Cu[Fo Ak[Aw[Ai[rfl]][An][Cy () ()]] () Ay][Bh[Aak Ak[Aw[Ai[rfl]][An][Cy () ()]] () Bh[Bb[?_]]]]
  exact Dp (Aw Ae[Ab Ai[rfl] Af][Gs] An Rk) Dp[Ae Ab[Cr Ai[rfl] An Bl[rfl]][Af] G3[n]][Abo[Vo An (Cr Ai[rfl] An Bl[rfl]) Vn An Vn][Ae[Ab[Cr Ai[rfl] An Bl[rfl]][Ab An Af]][Aq4 p 1]]]
end
def Rb(ks:lg o8):Bool:=(ks.zip ks.drop[1]).all λp=>Jt p.1 p.2
def Bm0(a:lg W):Ac7 a sr[1] sy=a.drop 1:=by
 unfold Ac7;cases a with
 |nil=>rfl
 |cons w a=>
  show (a.drop 0).take ((w::a).length - 1)=a.drop 0;simp
def zip_get(d c:lg o8)(j:Nat):(d.zip c)[j]?.map (λp=>W.tup [.str p.1,.str p.2])=match (d.map W.str)[j]?,(c.map W.str)[j]? with|some a,sr b=>sr .tup[[a,b]]|_,_=>sy:=by
 rw[aX,aX,aDk,tR];cases d[j]? <;> cases c[j]? <;> rfl
section
def Ahy{a:Type}(f:a->Bool)(l:lg a):(l.map f).all id=l.all f:=by simp
def Bm1{n:Nat}(g:∀S,P.p S->AtL n a.map[W.str] S)(q:a.length<=big)(hk:∀k∈a,k.length<=big):Pu P Ef[[.ref n]] .bl[a.all isKey&&Rb a]:=by
 let h:=Bdq (P:=P) (xs:=a) (φ:=W.str) (ψ:=λk=>W.bl isKey[k]) (τ:=λb=>t8) (s:=Br 0) (t:=λb=>pure t8) (e:=Dg V2 yA[Aa[0]]) (k:=1) (cap:=[]) (Y:=Dn 1 [.ref n]) (src:=Ea Aa[0]) (n:=n) g
  (λS f=>([],by
   have:=g S f;unfold AtL at this;show (match S[n]? with|some (.lst _)=>R.ok Src.liv[n] S|_=>.bad)=_
   rw[this,cH])) Bdp (λk d=>(Pu.pure,λb=>Ae (Ab Ai[rfl] Af) Azp[k][hk k d])) (sy,rfl) q
 rw[gQ.mpr[λb b=>rfl]] at h;let c:=Dt (Ak (Vp (bs:=a.map isKey) (by rw[cL];exact h)))
 rw[Ahy] at c;apply Bo (ws:=[.ref n]) rfl;cases l:a.all isKey with
 |false=>exact Bh (Aak c (by rw[l];rfl) Bh[Bb[An]])
 |true=>
 rw[mQ];apply Cu
 .exact Fo c (by rw[l];rfl) Ay
 .apply Bh;apply Bb;refine Pu.cast (Vp (bs:=(a.zip a.drop[1]).map λp=>Jt p.1 p.2) ?_) ?_
  .let h:=Bdr (P:=P) (xs:=a.zip a.drop[1]) (φ:=λp=>W.tup [.str p.1,.str p.2]) (ψ:=λp=>W.bl[Jt p.1 p.2]) (τ:=λb=>t8) (s:=Ae6 [0,1]) (t:=λb=>pure t8) (e:=Er .Lt Aa[0] Aa[1]) (k:=2) (cap:=[]) (Y:=Dn 1 [.ref n]) (src:=Ana yB[Aa 0][slF Aa[0] Cw[kI[1]] Bs]) (us:=a.map W.str) (vs:=(a.drop 1).map W.str)
    (λS f=>by
     let i:=g S f;let o:=i;unfold AtL at o;refine([.lst[(a.drop 1).map W.str]],n,S.length,?_,i.app _,?_)
     .let v:slF Aa[0] Cw[kI[1]] Bs (Dn 1 [.ref n]) S=.ok[.ref S.length][S ++ [.lst[(a.drop 1).map W.str]]]:=by
       show (match S[n]? with|some (.lst ws)=>Be (Ac7 ws sr[1] sy) S|_=>.bad)=_
       rw[o];dsimp only;unfold Be;rw[Bm0,<-rF,di (by rw[aB,dJ];omega)]
      let u:(yB[Aa 0][slF Aa[0] Cw[kI[1]] Bs]) (Dn 1 [.ref n]) S=.ok [.ref n,.ref S.length] (S ++ [.lst[(a.drop 1).map W.str]]):=by
       let r:yA[slF Aa[0] Cw[kI[1]] Bs][Dn 1 [.ref n]][S]=.ok [.ref S.length] (S ++ [.lst[(a.drop 1).map W.str]]):=by
        unfold yA Ds;rw[Bm,v];rfl
       unfold yB Ds;rw[Bm,show Aa 0 (Dn 1 [.ref n]) S=.ok .ref[n] S from rfl];dsimp only;rw[Bm,r];rfl
      unfold Ana;rw[Bm,u];show Axz [.ref n,.ref S.length] _=_;let m:=i.app [.lst[(a.drop 1).map W.str]];unfold AtL at m;unfold Axz;dsimp only;rw[m,aZ aN[_],fZ];rfl
     .unfold AtL;rw[aZ aN[_],fZ];rfl) (λj=>zip_get _ _ j) (by rw[tH,aB];omega) Aqg (λp b=>(Pu.pure,λb=>Aw Ai[rfl] Ai[rfl] Ayw)) (sy,sy,rfl) (by rw[tH];omega)
   rw[gQ.mpr[λb b=>rfl]] at h;rw[cL];exact h
  .unfold Rb;rw[aBj];rfl
end
section
def Wi{l h:De->M o9[Int]}{lo hi:o9 Int}(h1:Pu P f[Y] x)(h2:Pu P l[Y] lo)(h3:Pu P h[Y] hi)(h4:Pu P (slW x lo hi) w):Pu P (slF f l h Y) w:=h1.bind h2.bind[h3.bind[h4]]
def Fb{i:Int}(h:Pu P f[Y] .int[i]):Pu P (Cw f Y) sr[i]:=h.bind Pu.pure
def Gf:Pu P Bs[Y] sy:=Pu.pure
def Bm2(i:a.length<=big)(hk:∀k∈a,k.length<=big):Pu P Ef[[.tup a.map[W.str]]] .bl[a.all isKey&&Rb a]:=by
 let h:=Gy (P:=P) (xs:=a) (φ:=W.str) (ψ:=λk=>W.bl isKey[k]) (t:=λb=>pure t8) (e:=Dg V2 yA[Aa[0]]) (cs:=[]) (cap:=[]) (Y:=Dn 1 [.tup a.map[W.str]]) (src:=Ea Aa[0]) Ph[Ai[rfl]] rfl i (λk f=>(Pu.pure,Ae (Ab Ai[rfl] Af) Azp[k][hk k f]));let d:=Dt (Ak (Vp (bs:=a.map isKey) (by rw[cL];exact h)))
 rw[Ahy] at d;apply Bo (ws:=[.tup a.map[W.str]]) rfl;cases g:a.all isKey with
 |false=>exact Bh (Aak d (by rw[g];rfl) Bh[Bb[An]])
 |true=>
 rw[mQ];apply Cu
 .exact Fo d (by rw[g];rfl) Ay
 .apply Bh;apply Bb;refine Pu.cast (Vp (bs:=(a.zip a.drop[1]).map λp=>Jt p.1 p.2) ?_) ?_
  .let j:Auq[a.map W.str][(a.map W.str).drop 1]=(a.zip a.drop[1]).map λp=>W.tup [.str p.1,.str p.2]:=by
    unfold Auq aDk;rw[<-rF,List.map_zipWith,List.zipWith_map]
   let h:=Ash (P:=P) (xs:=a.zip a.drop[1]) (φ:=λp=>W.tup [.str p.1,.str p.2]) (ψ:=λp=>W.bl[Jt p.1 p.2]) (τ:=λb=>t8) (s:=Ae6 [0,1]) (t:=λb=>pure t8) (e:=Er .Lt Aa[0] Aa[1]) (k:=2) (cap:=[]) (Y:=Dn 1 [.tup a.map[W.str]]) (src:=Ana yB[Aa 0][slF Aa[0] Cw[kI[1]] Bs])
    (by
     rw[<-j,<-Bm0];exact Pu.bind (Ab Ai[rfl] Ab[Wi Ai[rfl] Fb[An] Gf Pu.pure][Af]) Pu.pure) Aqg (λp b=>(Pu.pure,λb=>Aw Ai[rfl] Ai[rfl] Ayw)) (sy,sy,rfl) (by rw[tH];omega)
   rw[gQ.mpr[λb b=>rfl]] at h;rw[cL];exact h
  .unfold Rb;rw[aBj];rfl
end
section
def keysAt(b:a.length<=big)(hk:∀k∈a,k.length<=big)(n:Nat)(S:Store)(h:S[n]?=sr .lst[a.map[W.str]]):∃G,Ef [.ref n] S=.ok .bl[a.all isKey&&Rb a] (S ++ G):=(
 Bm1 (P:=SP.any.at n _) (λd h=>h.2) b hk S (trivial,h))
def Aor(rs:lg[o8×Cl]):Bool:=rs.all (·.2.ok)&&((rs.map (·.1)).all isKey&&Rb (rs.map (·.1)))
def Bjv(j:a.length<=63)(i:∀r∈a,r.1.length<=400/\r.2.sm):Pu P Aaq[[.tup a.map[Xr]]] .bl[Aor[a]]:=by
 let f:a.length<=big:=aH j ()
 let h:=Gy (P:=P) (xs:=a) (φ:=Xr) (ψ:=λr=>W.bl r.2.ok) (t:=λg=>pure t8) (e:=Jd (zB Io Aa[0] kI[2]) zA[Xj][ixF Aa[0] kI[1]]) (cs:=[]) (cap:=[]) (Y:=Dn 1 [.tup a.map[Xr]]) (src:=Ea Aa[0]) Ph[Ai[rfl]] rfl f
  (λr b=>(Pu.pure,Dp Ae[Ab[Ai rfl][Ab An Af]][Aoq [.str r.1,r.2.w] 2] Ae[Ab[Cr Ai[rfl] An Bl[rfl]][Af]][Bju r.2 (i r b).2]))
 let d:=Dt (Ak (Vp (bs:=a.map (·.2.ok)) (by rw[cL];exact h)))
 rw[Ahy] at d;apply Bo rfl;apply Cu
 .refine Fo (Jw Dt[Ak[Ae Ab[Ai rfl][Ab An Af] Aft]] Ak[Aw Ae[Ab Ai[rfl] Af][Gs] An Xy]) ?_ Ay;simp;omega
 unfold Aor;cases c:a.all (·.2.ok) with
 |false=>exact Bh (Aak d (by rw[c];rfl) Bh[Bb[An]])
 |true=>
 rw[mQ];refine Cu[Fo d (by rw[c];rfl) Ay][Bh Bb[Ak6[?_][keysAt (by rw[aB];exact f) λk hk=>?_]]]
 .let h:=Gy (P:=P) (xs:=a) (φ:=Xr) (ψ:=λr=>W.str r.1) (t:=λg=>pure t8) (e:=ixF Aa[0] kI[0]) (cs:=[]) (cap:=[]) (Y:=Dn 1 [.tup a.map[Xr]]) (src:=Ea Aa[0]) Ph[Ai[rfl]] rfl f (λr g=>(Pu.pure,Cr Ai[rfl] An Bl[rfl]));rw[cL];exact h
 .let(r,b,rfl):=bK.mp hk;exact aH (i r b).1 ()
def Beb(b:a.length<=63)(hk:∀k∈a,k.length<=400):Pu P Aas[[.tup a.map[W.str]]] .bl[a.all isKey&&Rb a]:=(Bo rfl Bh[Bb[Dp[Ae Ab[Ai rfl][Ab An Af] Aft][Dp[(Aw Ae[Ab Ai[rfl] Af][Gs] An Vn).cast (by simp;omega)][Ae[Ab Ai[rfl] Af][Bm2[aH b ()] λk h=>aH (hk k h) ()]]]]])
def Bjw{ps:lg Int}{m:Int}(c:(ps.length:Int)=m)(d:ps.length<=big):Pu P Aau[[.tup ps.map[W.int],.int m]] .bl[ps.all λp=>Ge p 1]:=by
 apply Bo rfl;exact Bh (Bb (Dp ((Ae Ab[Ai rfl][Ab Ai[rfl] Af] (Aoq ps.map[W.int] m)).cast (by simp[c])) (Pu.cast (Vp (by rw[cL];exact(Gy (P:=P) (cs:=[]) Ph[Ai[rfl]] rfl d
  (λp e=>(Pu.pure,Ae Ab[Ai rfl][Ab An Af] (Aq4 p 1)))))) (by rw[Ahy]))))
end
def Pg.word:Pg->o8
 |.head ..=>"head"
 |.leaf ..=>"leaf"
 |.fork ..=>"fork"
 |.rest ..=>"rest"
 |.free ..=>"free"
def Pg.okB:Pg->Bool
 |.head a b c d=>[a,b,c,d].all λn=>Ge n 0
 |.leaf rs=>Aor rs
 |.fork ks ps=>(ks.all isKey&&Rb ks)&&ps.all λp=>Ge p 1
 |.rest t n=>(M2.Eb t&&(decide[1<=t.length]&&decide[t.length<=400]))&&Ge n 0
 |.free n=>Ge n 0
def Pg.sm:Pg->Prop
 |.head ..=>True
 |.leaf rs=>rs.length<=63/\∀r∈rs,r.1.length<=400/\r.2.sm
 |.fork ks ps=>ks.length<=63/\(∀k∈ks,k.length<=400)/\ps.length=ks.length+1
 |.rest t _=>t.length<=400
 |.free _=>True
def Bjx(rs:lg[o8×Cl]):Prop:=rs.length<=63/\(∀r∈rs,isKey r.1=t8/\r.2.ok=t8)/\Rb (rs.map (·.1))=t8
def Pg.ok:Pg->Prop
 |.head a b c d=>Ge a 0=t8/\Ge b 0=t8/\Ge c 0=t8/\Ge d 0=t8
 |.leaf rs=>Bjx rs
 |.fork ks ps=>(ks.length<=63/\(∀k∈ks,isKey k=t8)/\Rb ks=t8)/\ps.length=ks.length+1/\∀p∈ps,Ge p 1=t8
 |.rest t n=>M2.Eb t=t8/\1<=t.length/\t.length<=400/\Ge n 0=t8
 |.free n=>Ge n 0=t8
def Ahz(h:isKey k=t8):k.length<=400:=by
 unfold isKey at h;simp[dh] at h;exact aH h.2.2 (by simp)
def Bec(h:isKey k=t8):k.length<=big:=(aH Ahz[h] ())
def Bgk{p:Pg}(h:p.ok):p.sm/\p.okB=t8:=by
 cases p with
 |head=>let(d,a,b,f):=h;exact(trivial,by simp[Pg.okB,d,a,b,f])
 |leaf i=>
  let(d,a,b):=h;refine((d,λr c=>(Ahz (a r c).1,?_)),?_)
  .have:=(a r c).2;cases e:r.2 with
   |out=>trivial
   |inn t=>
    rw[e] at this;unfold Cl.ok at this;simp only[aQ,dh] at this;exact aH this.2 ()
  .show Aor i=t8;unfold Aor;rw[b,bF.mpr λr c=>(a r c).2,bF.mpr λk hk=>by let(r,c,rfl):=bK.mp hk;exact(a r c).1]
   rfl
 |fork g ps=>
  let((d,a,b),f,j):=h;refine((d,λk hk=>Ahz[a k hk],f),?_);show ((g.all isKey&&Rb g)&&_)=t8;rw[bF.mpr a,b,bF.mpr j];rfl
 |rest t n=>
  let(d,a,b,f):=h;refine(b,?_);show (_&&Ge n 0)=t8;simp_all
 |free n=>exact(trivial,h)
section
def Bed(n:Int):Pu P ((λws=>Ek[ws ++ [.int 0]]) [.int n]) .bl[Ge n 0]:=Aq4 n 0
def Bjy{p:Pg}(h:p.sm):Pu P Qz[[p.w]] .bl[p.okB]:=by
 cases p with
 |head a b c d=>
  apply Bo (ws:=[Pg.w[.head a b c d]]) rfl;refine Cu Dh[Ae[Ab Ai[rfl] Af][Sv _ _]] Bh[Aak Ak[Aw[Ai[rfl]][An][Cy () ()]] () Bh[Bb[Dp[(Aw Ae[Ab Ai[rfl] Af][Gs] An Rk).cast rfl][?_]]]]
  let h:=Gy (P:=P) (xs:=[a,b,c,d]) (φ:=W.int) (ψ:=λn=>W.bl[Ge n 0]) (t:=λj=>pure t8) (e:=Dg[λws=>Ek[ws ++ [(.int 0)]]][yA Aa[0]]) (cs:=[]) (cap:=[]) (Y:=(Dn 2 [Pg.w[.head a b c d]]).set 1 sr[.str["head"]]) (src:=Ea[slF Aa[0] Cw[kI[1]] Bs]) Ph[Wi Ai[rfl] Fb[An] Gf Pu.pure] rfl (show 4<=big by decide)
   (λn j=>(Pu.pure,Ae[Ab Ai[rfl] Af][Bed n]))
  exact Pu.cast (Vp (bs:=[a,b,c,d].map λn=>Ge n 0) (by rw[cL];exact h)) (by rw[Ahy];rfl)
 |leaf k=>
  apply Bo (ws:=[Pg.w .leaf[k]]) rfl;refine Cu Dh[Ae[Ab Ai[rfl] Af][Sv _ _]] Cu[Fo Ak[Aw[Ai[rfl]][An][Cy () ()]] () Ay][Bh[Aak Ak[Aw[Ai[rfl]][An][Cy () ()]] () Bh[Bb[Dp[(Aw Ae[Ab Ai[rfl] Af][Gs] An Rk).cast rfl][?_]]]]]
  exact Ae Ab[Cr Ai[rfl] An Bl[rfl]][Af] (Bjv h.1 h.2)
 |fork l ps=>
  apply Bo (ws:=[Pg.w[.fork l ps]]) rfl;refine Cu Dh[Ae[Ab Ai[rfl] Af][Sv _ _]] Cu[Fo Ak[Aw[Ai[rfl]][An][Cy () ()]] () Ay][Cu[Fo Ak[Aw[Ai[rfl]][An][Cy () ()]] () Ay][Bh[Aak Ak[Aw[Ai[rfl]][An][Cy () ()]] () Bh[Bb[Dp[(Aw Ae[Ab Ai[rfl] Af][Gs] An Rk).cast rfl][?_]]]]]]
  let(i,m,g):=h;exact Abo Ae[Ab[Cr Ai[rfl] An Bl[rfl]][Af]][Beb i m] Ae[Ab[Cr Ai[rfl] An Bl[rfl]][Ab Bx[Ae Ab[Cr Ai[rfl] An Bl[rfl]][Af] Gs][An][Pb] Af]][Bjw (by rw[aB,g];rfl) (by rw[g];exact aH lV[i] ())]
 |rest t n=>
  apply Bo (ws:=[Pg.w[.rest t n]]) rfl;refine Cu Dh[Ae[Ab Ai[rfl] Af][Sv _ _]] Cu[Fo Ak[Aw[Ai[rfl]][An][Cy () ()]] () Ay][Cu[Fo Ak[Aw[Ai[rfl]][An][Cy () ()]] () Ay][Cu[Fo Ak[Aw[Ai[rfl]][An][Cy () ()]] () Ay][Bh[Aak Ak[Aw[Ai[rfl]][An][Cy () ()]] () Bh[Bb[Dp[(Aw Ae[Ab Ai[rfl] Af][Gs] An Rk).cast rfl][?_]]]]]]]
  refine Abo[(Ae Ab[Cr Ai[rfl] An Bl[rfl]][Ab[An][Ab An Af]] (Ajz t 1 400 (aH h ()))).cast ?_][Ae Ab[Cr Ai[rfl] An Bl[rfl]][Af] Bed[n]]
  rw[decide_eq_decide.mpr (by omega:((1:Int)<=t.length ↔ 1<=t.length)),decide_eq_decide.mpr (by omega:((t.length:Int)<=400 ↔ t.length<=400))]
 |free n=>
  apply Bo (ws:=[Pg.w .free[n]]) rfl;refine Cu Dh[Ae[Ab Ai[rfl] Af][Sv _ _]] Cu[Fo Ak[Aw[Ai[rfl]][An][Cy () ()]] () Ay][Cu[Fo Ak[Aw[Ai[rfl]][An][Cy () ()]] () Ay][Cu[Fo Ak[Aw[Ai[rfl]][An][Cy () ()]] () Ay][Cu[Fo Ak[Aw[Ai[rfl]][An][Cy () ()]] () Ay][Bh[Aak Ak[Aw[Ai[rfl]][An][Cy () ()]] () Bh[Bb[Dp[(Aw Ae[Ab Ai[rfl] Af][Gs] An Rk).cast rfl][?_]]]]]]]]
  exact Ae Ab[Cr Ai[rfl] An Bl[rfl]][Af] Bed[n]
end
abbrev jn(ys:lg o8):o8:=zW "" ys
def Mf(ps:lg Int):o8:=jn ps.map[M1.Dv[2]]
def Sx(k:o8):o8:=M1.Dv 1 k.length ++ k
def Cl.t:Cl->o8
 |.inn t=>"i" ++ M1.Dv 1 t.length ++ t
 |.out n p=>"o" ++ Mf [n,p]
def Acl(r:o8×Cl):o8:=Sx r.1 ++ r.2.t
def Pg.body:Pg->o8
 |.head a b c d=>Mf [a,b,c,d]
 |.leaf rs=>M1.Dv 1 rs.length ++ jn rs.map[Acl]
 |.fork ks ps=>M1.Dv 1 ks.length ++ jn ks.map[Sx] ++ Mf ps
 |.rest t n=>Mf [n] ++ t
 |.free n=>Mf [n]
def len_app(x y:o8):(x ++ y).length=x.length+y.length:=by
 show (x.cps ++ y.cps).size=_;rw[wU];rfl
def Dd(k:Nat)(n:Int):(M1.Dv k n).length=k:=M1.Aux k n
def Azq{a:lg o8}{c:Nat}(h:∀y∈a,y.length<=c):(a.map (·.length)).sum<=a.length * c:=by
 induction a with
 |nil=>simp
 |cons y a e=>
  let j:=h y bG;let i:=e λz f=>h z (bD _ f);rw[bT,rG,bL,Nat.succ_mul];omega
def Aq5:jn []=⟨#[]⟩:=rfl
def Gi(x:o8):x ++ (⟨#[]⟩:o8)=x:=rfl
def Qg(y:o8)(a:lg o8):jn (y::a)=y ++ jn a:=by
 let e:∀l,jn l=_:=λl=>StrLaws.glued_eq_join "" l;rw[e,e];cases a with
 |nil=>rfl
 |cons z d=>
  rfl
theorem Ad1:∀a:lg o8,(jn a).length=(a.map (·.length)).sum
 |[]=>rfl
 |y::a=>by rw[Qg,len_app,Ad1 a,bT,rG]
section
def Afu{Y:De}{f:De->M W}{a:lg o8}{c:Nat}(h:PuL P f[Y] a.map[W.str])(d:∀y∈a,y.length<=c)(i:a.length * c<=big):Pu P (Mv .str Vi kS[""] yA[f] Y) .str[jn[a]]:=(
 Bdo h (by
  have:=Azq d;show _+a.length * 0<=big;omega))
def Acm{ps:lg Int}(hp:∀p∈ps,0<=p/\p < 4096)(b:ps.length<=1000):Pu P Fy[[.tup ps.map[W.int]]] .str[Mf[ps]]:=by
 apply Bo rfl;apply Bh;apply Bb;refine Afu ?_ (λy d=>?_) (by rw[aB];exact aH (lN 2 b) ())
 .rw[cL];exact Gy (cs:=[]) Ph[Ai[rfl]] rfl (aH b ())
   (λp a=>(Pu.pure,Ae Ab[Ai rfl][Ab An Af] (Al1 (hp p a).1 (hp p a).2)))
 .let(p,_,rfl):=bK.mp d;exact lR[Dd 2 p]
def Gz{n k:Int}(h:Ge n k=t8)(hk:0<=k):0<=n/\n < 4096:=by
 unfold Ge at h;simp[dh] at h;omega
def Bee{n:Nat}(h:n<=63):Pu P Hh[[.int (n:Int),.int 1]] .str[M1.Dv 1 n]:=(Bd9 (by simp) ())
def Asx(h:isKey k=t8):Pu P Nb[[.str k]] .str[Sx[k]]:=by
 let hk:=Bec h;unfold isKey at h;simp[dh] at h;exact Bo rfl Bh[Bb[Bx Ae[Ab[Ae[Ab Ai[rfl] Af][len_str hk]][Ab An Af]][Bee ()] Ai[rfl] Ft[aH (iM h.2.2 1) ()]]]
def Azr{c:Cl}(h:c.ok=t8):Pu P V0[[c.w]] .str[c.t]:=by
 cases c with
 |inn t=>
  unfold Cl.ok at h;rw[aQ,dh] at h;let b:t.length<=big:=aH h.2 ()
  apply Bo (ws:=[Cl.w .inn[t]]) rfl;apply Bh;apply Aak
  .exact Ak Aw[Cr Ai[rfl] An Bl[rfl]][An][Cy () ()]
  .decide +kernel
  .apply Bh;apply Bb;exact Bx Bx[An][Ae Ab[Ae Ab[Cr Ai[rfl] An Bl[rfl]][Af] len_str[b]][Ab An Af] Bee[h.2]][Ft (by rw[Dd];decide)] (Cr Ai[rfl] An Bl[rfl]) (Ft (by
    rw[len_app,Dd];exact aH (iM h.2 _) ()))
 |out n p=>
  unfold Cl.ok at h;rw[aQ,aQ,dh,dh] at h;apply Bo (ws:=[Cl.w[.out n p]]) rfl;apply Cu
  .exact Fo Ak[Aw[Cr Ai[rfl] An Bl[rfl]][An][Cy () ()]] () Ay
  .apply Bh;apply Bb;exact Bx An (Ae Ab[Wi Ai[rfl] Fb[An] Gf Pu.pure][Af] (Acm (ps:=[n,p]) (λq a=>by
    simp only[aV,cD,or_false] at a;rcases a with rfl|rfl
    .omega
    .exact Gz h.2 ()) (show 2<=1000 by decide))) (Ft (by
     unfold Mf;rw[Ad1];show 1+((M1.Dv 2 n).length+((M1.Dv 2 p).length+0))<=big;rw[Dd,Dd];decide))
end
section
def Acn(h:isKey k=t8):(Sx k).length<=13:=by
 unfold isKey at h;simp[dh] at h;unfold Sx;rw[len_app,Dd];omega
def Aj0{c:Cl}(h:c.ok=t8):c.t.length<=65:=by
 cases c with
 |inn t=>
  unfold Cl.ok at h;rw[aQ,dh] at h;unfold Cl.t;rw[len_app,len_app,Dd];show 1+1+t.length<=65;omega
 |out n p=>
  unfold Cl.t Mf;rw[len_app,Ad1];show 1+((M1.Dv 2 n).length+((M1.Dv 2 p).length+0))<=65;rw[Dd,Dd];decide
def Aos(b:isKey r.1=t8)(a:r.2.ok=t8):(Acl r).length<=78:=by
 unfold Acl;rw[len_app];have:=Acn b;have:=Aj0 a;omega
def Bef{r:o8×Cl}(b:isKey r.1=t8)(a:r.2.ok=t8):Pu P Rr[[Xr r]] .str[Acl[r]]:=(Bo rfl (Bh (Bb (Bx (Ae Ab[Cr Ai[rfl] An Bl[rfl]][Af] Asx[b]) (Ae Ab[Cr Ai[rfl] An Bl[rfl]][Af] Azr[a]) (Ft (by
  have:=Acn b;have:=Aj0 a;exact aH (Nat.add_le_add ‹_› ‹_›) ()))))))
def Asy{c n:Nat}(h:∀y∈ys,y.length<=c)(a:ys.length<=n):(jn ys).length<=n * c:=by
 rw[Ad1];exact aH[Azq h][lN c a]
def Hw(ps:lg Int):(Mf ps).length=2 * ps.length:=by
 unfold Mf;rw[Ad1,cL];induction ps with
 |nil=>rfl
 |cons p ps b=>
  rw[bT,rG,b,bL];show (M1.Dv 2 p).length+_=_;rw[Dd];omega
def Asz{p:Pg}(h:p.ok):Pu P Pk[[p.w]] .str[p.body]:=by
 cases p with
 |head a b c d=>
  let(f,i,s,v):=h;apply Bo (ws:=[Pg.w[.head a b c d]]) rfl;apply Cu
  .exact Fo Ak[Aw[Cr Ai[rfl] An Bl[rfl]][An][Cy () ()]] () Ay
  apply Cu
  .exact Fo Ak[Aw[Cr Ai[rfl] An Bl[rfl]][An][Cy () ()]] () Ay
  apply Cu
  .exact Fo Ak[Aw[Cr Ai[rfl] An Bl[rfl]][An][Cy () ()]] () Ay
  apply Bh;apply Bb;exact Ae Ab[Wi Ai[rfl] Fb[An] Gf Pu.pure][Af] (Acm (ps:=[a,b,c,d]) (λq g=>by
   simp only[aV,cD,or_false] at g;rcases g with rfl|rfl|rfl|rfl <;> exact Gz ‹_› ()) (show 4<=1000 by decide))
 |leaf l=>
  let(f,i,s):=h;apply Bo (ws:=[Pg.w .leaf[l]]) rfl;apply Bh;apply Aak
  .exact Ak Aw[Cr Ai[rfl] An Bl[rfl]][An][Cy () ()]
  .decide +kernel
  .apply Bh;apply Bb;let o:∀y∈l.map Acl,y.length<=78:=λy u=>by
    let(r,m,rfl):=bK.mp u;exact Aos (i r m).1 (i r m).2
   refine Bx (y:=.str jn[l.map[Acl]]) (Ae Ab[(Ae Ab[Cr Ai[rfl] An Bl[rfl]][Af] Gs).cast (by rw[aB])][Ab An Af] Bee[f]) ?_ (Ft (by
    rw[Dd];exact aH iM[Asy o (by rw[aB];exact f)][1] ()))
   refine Afu (c:=78) ?_ o (by rw[aB];exact aH (lN 78 f) ())
   let h:=Gy (P:=P) (xs:=l) (φ:=Xr) (ψ:=λr=>W.str Acl[r]) (t:=λx=>pure t8) (e:=Dg Rr yA[Aa[0]]) (cs:=[]) (cap:=[]) (Y:=Dn 2 [Pg.w .leaf[l]]) (src:=Ea[ixF Aa[0] kI[1]]) Ph[Cr Ai[rfl] An Bl[rfl]] rfl (aH f ())
    (λr m=>(Pu.pure,Ae[Ab Ai[rfl] Af][Bef (i r m).1 (i r m).2]))
   rw[cL];exact h
 |fork j ps=>
  let((f,i,s),v,A):=h;let o:∀y∈j.map Sx,y.length<=13:=λy u=>by
   let(k,hk,rfl):=bK.mp u;exact Acn[i k hk]
  let z:(jn j.map[Sx]).length<=63 * 13:=Asy o (by rw[aB];exact f)
  apply Bo (ws:=[Pg.w[.fork j ps]]) rfl;apply Cu
  .exact Fo Ak[Aw[Cr Ai[rfl] An Bl[rfl]][An][Cy () ()]] () Ay
  apply Bh;apply Aak
  .exact Ak Aw[Cr Ai[rfl] An Bl[rfl]][An][Cy () ()]
  .decide +kernel
  .refine Cu (Dh (w:=.str jn[j.map[Sx]]) ?_) ?_
   .refine Afu (c:=13) ?_ o (by rw[aB];exact aH (lN 13 f) ())
    let h:=Gy (P:=P) (xs:=j) (φ:=W.str) (ψ:=λk=>W.str Sx[k]) (t:=λx=>pure t8) (e:=Dg Nb yA[Aa[0]]) (cs:=[]) (cap:=[]) (Y:=Dn 2 [Pg.w[.fork j ps]]) (src:=Ea[ixF Aa[0] kI[1]]) Ph[Cr Ai[rfl] An Bl[rfl]] rfl (aH f ())
     (λk hk=>(Pu.pure,Ae (Ab Ai[rfl] Af) Asx[i k hk]))
    rw[cL];exact h
   .apply Bh;apply Bb;refine Bx Bx[Ae Ab[(Ae Ab[Cr Ai[rfl] An Bl[rfl]][Af] Gs).cast (by rw[aB])][Ab An Af] Bee[f]][Ai rfl][Ft ?_] Ae[Ab[Cr Ai[rfl] An Bl[rfl]][Af]][Acm (λq g=>Gz (A q g) ()) ()] Ft[?_]
    .rw[Dd];exact aH (iM z 1) ()
    .rw[len_app,Dd,Hw];have:1+(jn j.map[Sx]).length+2 * ps.length<=1+63 * 13+128:=by omega
     exact aH this ()
 |rest t n=>
  let(f,i,s,v):=h;apply Bo (ws:=[Pg.w[.rest t n]]) rfl;apply Cu
  .exact Fo Ak[Aw[Cr Ai[rfl] An Bl[rfl]][An][Cy () ()]] () Ay
  apply Cu
  .exact Fo Ak[Aw[Cr Ai[rfl] An Bl[rfl]][An][Cy () ()]] () Ay
  apply Bh;apply Aak
  .exact Ak Aw[Cr Ai[rfl] An Bl[rfl]][An][Cy () ()]
  .decide +kernel
  .apply Bh;apply Bb;exact Bx (Ae Ab[Wi Ai[rfl] Fb[An] Gf Pu.pure][Af] (Acm (ps:=[n]) (λq g=>by
    rw[aK] at g;subst g;exact Gz v ()) (show 1<=1000 by decide))) (Cr Ai[rfl] An Bl[rfl]) (Ft (by
     rw[Hw];exact aH (iM s _) (show 2 * 1+400<=big by decide)))
 |free n=>
  apply Bo (ws:=[Pg.w .free[n]]) rfl;apply Cu
  .exact Fo Ak[Aw[Cr Ai[rfl] An Bl[rfl]][An][Cy () ()]] () Ay
  apply Cu
  .exact Fo Ak[Aw[Cr Ai[rfl] An Bl[rfl]][An][Cy () ()]] () Ay
  apply Cu
  .exact Fo Ak[Aw[Cr Ai[rfl] An Bl[rfl]][An][Cy () ()]] () Ay
  apply Bh;apply Bb;exact Ae Ab[Wi Ai[rfl] Fb[An] Gf Pu.pure][Af] (Acm (ps:=[n]) (λq g=>by
   rw[aK] at g;subst g;exact Gz h ()) (show 1<=1000 by decide))
end
section
def Aj1{k:Nat}(h:k<=1000001):small (k:Int)=t8:=by
 unfold small
 grind
def Aot(d:z.length<=big)(g:M2.Eb z=t8):Pu P R6[[.str z]] .str[M2.check[z]]:=by
 let f:z.cps.toList.length=z.length:=aW;apply Bo (ws:=[.str z]) rfl;apply Cu
 .exact Fo Dt[Ak[Ae[Ab Ai[rfl] Af][Al2 z d]]] (by rw[g];rfl) Ay
 refine Cu (Dh (w:=.int M2.chk[z.cps.toList]) ?_) ?_
 .refine Pu.cast (Bjk (is:=(cO z.length).map λ(i:Nat)=>(((z.cps.getD i 0:Nat):Int) - 31) * ((i:Int)+1)) ?_) ?_
  .let h:=Ash (P:=P) (xs:=cO z.length) (φ:=λ(i:Nat)=>W.tup [.int[(i:Int)+1],.str ⟨#[z.cps.getD i 0]⟩]) (ψ:=λ(i:Nat)=>W.int[(((z.cps.getD i 0:Nat):Int) - 31) * ((i:Int)+1)]) (τ:=λc=>t8) (s:=Ae6 [0,1]) (t:=λc=>pure t8) (e:=Bc .mul Bc[.sub][zA Aun Aa[1]][kI[31]] Aa[0]) (k:=2) (cap:=[]) (Y:=Dn 2 [.str z]) (src:=Axx Aa[0])
    (Pu.bind Ai[rfl] Pu.pure) Aqg (λi hi=>(Pu.pure,λc=>Bx (Bx Ae[Ab Ai[rfl] Af][Bea] An Afp) Ai[rfl] (Afq (by
     have:i < z.length:=iC.mp hi;let j:small (((i+1:Nat):Nat):Int)=t8:=Aj1 (by unfold big at d;omega)
     rw[fC];exact .inr j)))) (sy,sy,rfl) (by rw[bM];exact d)
   rw[gQ.mpr[λc c=>rfl]] at h;rw[cL];exact h
  .congr 1
   unfold M2.chk M2.Bms;rw[f]
   congr 1
   refine mH λi hi=>?_;rw[show z.cps.toList.getD i 0=z.cps.getD i 0 from by rw[cG,gC,pI]]
   rw[show (((z.cps.getD i 0:Nat):Int) - 32+1)=((z.cps.getD i 0:Nat):Int) - 31 by omega]
 .apply Bh;apply Bb;exact Ae Ab[Bx Ai[rfl] An (Ayu ())][Ab An Af] (Al1 () ())
end
def Ih(x y:o8):M2.Eb[x ++ y]=(M2.Eb x&&M2.Eb y):=by
 unfold M2.Eb;show ((x.cps ++ y.cps).toList).all _=_;rw[mG,yN]
def Bm3:∀v,v < 64->M2.okC M1.sg[v]=t8:=by decide +kernel
def Aq6(c:Nat):M2.Eb M1.one[c]=M2.okC c:=by
 unfold M2.Eb M1.one;simp
def Aa4(k:Nat)(n:Int):M2.Eb[M1.Dv k n]=t8:=by
 induction k with
 |zero=>rfl
 |succ k a=>
  show M2.Eb[_ ++ _]=t8;rw[Ih,a,Aq6,Bm3 _ ()]
  rfl
theorem Aou:∀{a:lg o8},(∀y∈a,M2.Eb y=t8)->M2.Eb jn[a]=t8
 |[],_=>rfl
 |y::a,h=>by
  rw[Qg,Ih,h y bG,Aou λz c=>h z (bD _ c)];rfl
def Aco(ps:lg Int):M2.Eb Mf[ps]=t8:=(Aou λy b=>by
 let(p,_,rfl):=bK.mp b;exact Aa4 2 p)
def Ah0(h:isKey k=t8):M2.Eb k=t8:=by
 unfold isKey at h;rw[aQ] at h;exact h.1
def Azs(h:isKey k=t8):M2.Eb Sx[k]=t8:=by
 unfold Sx;rw[Ih,Aa4,Ah0 h];rfl
def Beg{c:Cl}(h:c.ok=t8):M2.Eb c.t=t8:=by
 cases c with
 |inn t=>
  unfold Cl.ok at h;rw[aQ] at h;unfold Cl.t;rw[Ih,Ih,Aa4,h.1];decide +kernel
 |out n p=>
  unfold Cl.t;rw[Ih,Aco];decide +kernel
def Beh{p:Pg}(h:p.ok):M2.Eb p.body=t8:=by
 cases p with
 |head a b c d=>exact Aco _
 |leaf g=>
  unfold Pg.body;rw[Ih,Aa4,Aou λy e=>by
   let(r,f,rfl):=bK.mp e;unfold Acl;rw[Ih,Azs (h.2.1 r f).1,Beg (h.2.1 r f).2];rfl]
  rfl
 |fork i ps=>
  unfold Pg.body;rw[Ih,Ih,Aa4,Aco,Aou λy e=>by
   let(k,hk,rfl):=bK.mp e;exact Azs[h.1.2.1 k hk]]
  rfl
 |rest t n=>
  unfold Pg.body;rw[Ih,Aco,h.1];rfl
 |free n=>exact Aco _
def Pg.letter:Pg->o8
 |.head ..=>"h"
 |.leaf ..=>"l"
 |.fork ..=>"f"
 |.rest ..=>"r"
 |.free ..=>"e"
def Pg.start(p:Pg):o8:=p.letter ++ M1.Dv 2 p.body.length ++ p.body
def Pg.unch(p:Pg)(size:Int):o8:=sJ p.start (size - 2) 48
def Pg.text(p:Pg)(size:Int):o8:=p.unch size ++ M2.check p.unch[size]
def Nz(p:Pg):p.letter.length=1:=by cases p <;> rfl
def Avh(p:Pg):p.start.length=3+p.body.length:=by
 unfold Pg.start;rw[len_app,len_app,Nz,Dd]
def As0(p:Pg)(a:Int):∃n,(p.unch a).cps=p.start.cps ++ jE n 48:=by
 unfold Pg.unch sJ;split
 .simp
 .refine((a - 2).toNat - p.start.length,?_);show jE 0 48 ++ p.start.cps ++ _=_;simp
section
def Bei(p:Pg):∃a,p.w=.tup (.str p.word::a):=by cases p <;> exact(_,rfl)
def ix0:atI (w::a) 0=sr w:=by
 unfold atI ixN;simp
def Avi(p:Pg):Pu P (mdW Qw .str[p.word]) .str[p.letter]:=by
 let e:Qw.lookup p.word=sr p.letter:=by
  cases p
  .rfl
  .rfl
  .rfl
  .rfl
  rfl
 unfold mdW;simp[e];exact Pu.pure
def Bm4(h1:Pu P g[Y] k)(h2:Pu P (mdW D k) w):Pu P (mdF D g Y) w:=h1.bind h2
def As1{p:Pg}{a:Int}(c:p.body.length < 4096)(i:64<=a)(h:a<=200):Pu P Ht[[p.w,.str p.body,.int a]] .str[p.unch[a]]:=by
 let(g,d):=Bei p;rw[d];apply Bo rfl;refine Cu (Dh (w:=.str p.start) ?_) ?_
 .refine Bx[Bx Bm4[Cr Ai[rfl] An Bl[ix0]][Avi p] Ae[Ab[Ae[Ab Ai[rfl] Af][len_str[aH gK[c] ()]]][Ab An Af]][Al1 () ()] Ft[?_]][Ai rfl][Ft ?_]
  .rw[Nz,Dd];decide
  .rw[len_app,Nz,Dd];exact aH (iM gK[c] _) ()
 .apply Bh;apply Bb;refine Aq3 Ai[rfl] Ab[Bx Ai[rfl] An Afp][Ab An Af] (Ls ?_ Pu.pure);rw[aQ];refine(?_,())
  let e:∀k:Nat,k<=200->PadOk (k:Int)=t8:=by decide +kernel
  have:=e (a - 2).toNat ()
  rw[iK ()] at this
  exact this
def Avj(p:Pg):M2.Eb p.letter=t8:=by
 cases p
 .rfl
 .rfl
 .rfl
 .rfl
 rfl
def Azt{p:Pg}(h:M2.Eb p.body=t8)(a:Int):M2.Eb p.unch[a]=t8:=by
 let(n,e):=As0 p a;unfold M2.Eb;rw[e,mG,yN];let b:M2.Eb p.start=t8:=by
  unfold Pg.start;rw[Ih,Ih,Aa4,h,Avj p];rfl
 unfold M2.Eb at b;rw[b,Array.toList_replicate,mQ];rw[bF];intro c f;let(_,rfl):=List.mem_replicate.mp f;decide
def Acp{p:Pg}{a:Int}(c:(p.body.length:Int)<=a - 5):(p.unch a).length=(a - 2).toNat:=by
 unfold Pg.unch sJ;have:=Avh p;split
 .omega
 .show (_ ++ p.start.cps ++ _).size=_;simp;show p.start.length+_=_;omega
def Al4(i:Int):Pu P Qx[[.int i]] .bl[decide[64<=i]&&decide[i<=200]]:=Bo rfl Bh[Bb[Dp[Ae[Ab Ai[rfl] Af][G3 i]][Vo An Ai[rfl] Vn An Vn]]]
def Aj2(x:o8):(M2.check x).length=2:=Dd 2 _
end
def cut(z:o8)(i j:Nat):o8:=⟨((z.cps.toList.drop i).take (j - i)).toArray⟩
def Ad2{i j:Nat}(d:i<=j)(c:j<=z.length):dN[z][sr (i:Int)][sr (j:Int)]=cut z i j:=by
 rw[eq_of_beq[zX (by simp) () ()]]
 unfold cut;simp
def N5{j:Nat}(c:j<=z.length):dN z sy (sr (j:Int))=cut z 0 j:=by
 rw[eq_of_beq[xW (by simp) ()]]
 rfl
def Acq{i j:Nat}(d:i<=j)(c:j<=z.length):(cut z i j).length=j - i:=by
 let b:_=z.length:=aW;show ((z.cps.toList.drop i).take _).toArray.size=_;rw[bV,bQ,dJ];omega
def Al5{i j:Nat}(h:M2.Eb z=t8):M2.Eb[cut z i j]=t8:=by
 unfold M2.Eb at h ⊢
 rw[bF] at h ⊢
 exact λc a=>h c uH[fU[a]]
def dk(keys:lg o8):lg[Key×W]:=keys.map λz=>(u6 .inr[z] .bl[t8])
abbrev Wn(ks:lg o8):Prop:=ks.Pairwise λa b=>Jt a b=t8
theorem Ah1:∀{c:lg o8},Wn c->Rb c=t8
 |[],_=>rfl
 |[a],_=>rfl
 |a::b::c,h=>by
  let h:=eY.mp h;let d:=Ah1 h.2;unfold Rb at d ⊢
  show (Jt a b&&((b::c).zip ((b::c).drop 1)).all _)=_;rw[d,h.1 b (bG),Bool.and_self]
def Avk(h:leS a b=t8)(ne:a≠b):Jt a b=t8:=by
 cases c:Jt a b with
 |true=>rfl
 |_=>
  let d:leS b a=t8:=by
   unfold leS;unfold Jt at c;rw[c];rfl
  exact absurd (Agd a b h d) ne
def Aiq(h:ks.Nodup):Wn M6[ks]:=((Pa ks).and ((Eu ks).nodup_iff.mpr h)).imp λ⟨a,b⟩=>Avk a b
def Bv(x y z:o8):x ++ y ++ z=x ++ (y ++ z):=by
 show (⟨x.cps ++ y.cps ++ z.cps⟩:o8)=⟨x.cps ++ (y.cps ++ z.cps)⟩;simp
theorem As2:∀(a:lg o8)(y:o8),jn[a ++ [y]]=jn a ++ y
 |[],y=>by
  show y=⟨#[] ++ y.cps⟩;simp
 |x::a,y=>by rw[rO,Qg,As2 a y,Qg,Bv]
def Bej(P:SP)(n:Nat)(c:Cell):SP:=(λS=>P.p S/\S[n]?=sr c,λS G h=>(P.st S G h.1,by rw[aY (aC.mp h.2).1];exact h.2))
def Azu{i:Int}(h:Pu P f[Y] .int[i]):Pu P (Aqb f Y) .int[-i]:=h.bind Pu.pure
def Aj7{j:Nat}(a:z.length<=big)(f:j < z.length):Pu P (ixW .str[z] .int[0+(j:Int)]) .str[⟨#[z.cps.toList.getD j 0]⟩]:=by
 let d:z.cps.toList.length=z.length:=aW;let e:atI z.cps.toList (0+j)=sr[z.cps.toList.getD j 0]:=by
  unfold atI ixN;simp_all
 unfold ixW;dsimp only;rw[e];exact Ls a Pu.pure
def As3{p:Pg}(h:p.ok):Pu P Qz[[p.w]] .bl[t8]:=(Bjy (Bgk h).1).cast (congrArg W.bl (Bgk h).2)
def Al6{p:Pg}(h:p.ok)(size:Int):M2.Eb p.unch[size]=t8:=Azt Beh[h] size
theorem Aq7:∀(k:Nat)(n:Int)(c:Nat),c∈(M1.Dv k n).cps.toList->M1.inS c=t8
 |0,_,c,h=>by cases h
 |k+1,n,c,h=>by
  rw[M1.Ajg] at h;rcases aV.mp h with h|h
  .subst h;exact M1.Azg ()
  .exact Aq7 k n c h
section
variable{P:SP}
abbrev aB3:=kF .str["0123456789abcdefghijklmnopqrstuvwxyzABCDEFGHIJKLMNOPQRSTUVWXYZ+-"]
def Aq8{k:Nat}{n:Int}(m:1<=k)(i:k<=3):Pu P Ie[[.str[M1.Dv k n]]] .bl[t8]:=by
 let f:=Dd k n;let a:(M1.Dv k n).length<=big:=by rw[f];exact aH i ()
 apply Bo (ws:=[.str[M1.Dv k n]]) rfl;refine Cu (Fo Jw[Dt Ak[Ae Ab[Ai rfl][Ab An Af] Al3]][Jw Ak[Aw Ae[Ab Ai[rfl] Af][len_str a] An Agx] Ak[Aw Ae[Ab Ai[rfl] Af][len_str a] An Xy]] (by
  rw[f,dw (),dw ()];rfl) Ay) ?_
 let h:=Gy (P:=P) (xs:=(M1.Dv k n).cps.toList) (φ:=λc=>W.str ⟨#[c]⟩) (ψ:=λd=>W.bl t8) (t:=λd=>pure t8) (e:=Er .In Aa[0] aB3) (cs:=[]) (cap:=[]) (Y:=Dn 1 [.str[M1.Dv k n]]) (src:=Ea Aa[0]) (Ak7 a Ai[rfl]) rfl (by rw[aW];exact a)
  (λc g=>(Pu.pure,Aw Ai[rfl] An (Pu.cast Pu.pure congrArg[W.bl][Aq7 k n c g])))
 refine Bh (Bb ((Vp (bs:=(M1.Dv k n).cps.toList.map λd=>t8) (by rw[cL];exact h)).cast ?_))
 rw[show ((M1.Dv k n).cps.toList.map λd=>t8).all id=t8 from bF.mpr λb a=>by let(_,_,rfl):=bK.mp a;rfl]
def Bek{i:Int}(c:0<=i)(b:i < 1000000):Pu P (Bop.fn .shl .int[i] .int[6]) .int[i * 64]:=(Pu.cast (Ls (by rw[aQ];exact((),dm ())) Pu.pure) rfl)
abbrev aA4:=Ad (Bq 1 Bc[.add][Bc .shl Aa[1] kF[.int[6]]][Mv .str Ada aB3 (Ds Aa[2] nilF)]) Aj
def Azv{z:o8}{a:Int}{c:Nat}(f:M1.inS c=t8)(h:0<=a)(g:a < 1000000):PuN P aA4
  [sr .str[z],sr .int[a],sr .str[⟨#[c]⟩]] [sr .str[z],sr .int[a * 64+(M1.idx c:Int)],sr .str[⟨#[c]⟩]]:=by
 refine Aut (Dh (Bx Bx[Ai[rfl]][An][Bek h g] (Aq3 (w:=.int (M1.idx c:Nat)) An (Ab Ai[rfl] Af) ?_) Pb)) Ay;let(r,e):=M1.Anr f;show Pu P (match dB M1.sgs M1.one[c] 0 M1.sgs.length 1 with|i::_=>pure[W.int (i:Nat)]|[]=>bad) _
 rw[e];exact Pu.pure
def Aj3{k:Nat}{n:Int}(e:1<=k)(o:k<=3)(r:0<=n)(hk:n < 64 ^ k):Pu P P0[[.str[M1.Dv k n]]] .int[n]:=by
 let t:=Dd k n;let u:(M1.Dv k n).length<=big:=by rw[t];exact aH o ()
 apply Bo (ws:=[.str[M1.Dv k n]]) rfl;refine Cu[Fo Dt[Ak[Ae[Ab Ai[rfl] Af][Aq8 e o]]] rfl Ay][Cu Dh[An] ?_];let h:∀(l:lg Nat)(a:Int)(m:Nat)(x:o9 W),(∀c∈l,M1.inS c=t8)->0<=a->a < 64 ^ m->m+l.length<=3->∃y,PuN P Vh[Br[2]][aA4][l.map λc=>W.str ⟨#[c]⟩]
   [sr .str[M1.Dv k n],sr .int[a],x] [sr .str[M1.Dv k n],sr .int[M1.Azh l a],y]:=by
  intro l;induction l with
  |nil=>exact λa m x g g g g=>(x,Ak4)
  |cons c l q=>
   intro a m x j w e s;let hi:=M1.Bjs[j c bG];rw[bL] at s;let hp:(64:Int) ^ (m+1)=64 ^ m * 64:=wW 64 m;let(y,i):=q (a * 64+(M1.idx c:Int)) (m+1) sr[.str[⟨#[c]⟩]] (λd hd=>j d (bD _ hd)) () (by rw[hp];omega) ()
   let v:a < 1000000:=by
    have:m=0\/m=1\/m=2:=by omega
    rcases this with rfl|rfl|rfl
    .exact wX e ()
    .exact wX e ()
    .exact wX e ()
   exact(y,Abn rfl Azv[j c bG][w][v] i)
 let(y,i):=h (M1.Dv k n).cps.toList 0 0 sy (Aq7 k n) () () (by rw[aW];show 0+(M1.Dv k n).length<=3;omega)
 refine Cu Ak5[Ak7 u Ai[rfl]][i] Bh[Bb[Pu.cast Ai[rfl] ?_]];rw[M1.Bd3 r hk]
end
def rdr(B:o8)(k:Nat):Cell:=.ins 6 [("body",.str B),("place",.int (k:Int))]
def Rx(n:Nat)(m:M W)(x:o8)(w:W):Prop:=∀(B a r:o8)(S:Store),B=a ++ (x ++ r)->B.length<=400->S[n]?=sr[rdr B a.length]->Wm m S λv S'=>v=w/\S'[n]?=sr[rdr B (a ++ x).length]/\Fr [n] S S'
def Ah2(x y:o8):(x ++ y).cps.toList=x.cps.toList ++ y.cps.toList:=by
 show (x.cps ++ y.cps).toList=_;rw[mG]
def Acr(a x r:o8):cut[a ++ (x ++ r)][a.length][a.length+x.length]=x:=by
 unfold cut;rw[Ah2,Ah2,show a.length=a.cps.toList.length from aW.symm,show x.length=x.cps.toList.length from aW.symm,List.drop_left,Nat.add_sub_cancel_left,List.take_left]
theorem Azw:∀b a:lg o8,jn[b ++ a]=jn b ++ jn a
 |[],a=>by
  rw[lE,Aq5];show jn a=⟨#[] ++ (jn a).cps⟩;rw[vO]
 |x::b,a=>by rw[rO,Qg,Qg,Azw b a,Bv]
def Bel{B:o8}{k b:Int}:Km "place" .int[b] [(("body":o8),W.str B),("place",.int k)]=[(("body":o8),W.str B),("place",.int b)]:=by
 unfold Km;rw[dq ()]
 unfold Km;rw[di rfl]
section
variable{P:SP}{n k:Nat}{B x:o8}{Y:De}{S:Store}{Q:W->Store->Prop}{w:W}
def Rx.use{m:M W}{a r:o8}(h:Rx n m x w)(i:B=a ++ (x ++ r))(g:B.length<=400)(f:S[n]?=sr[rdr B a.length])(q:∀b,b[n]?=sr[rdr B (a ++ x).length]->Fr [n] S b->Q w b):Wm m S Q:=(
 Ba[h B a r S i g f] λv b ⟨e,q1,q2⟩=>by subst e;exact q b q1 q2)
def Ah3{j:Nat}(h:Y[j]?=sr sr[w]):Aa j Y S=.ok w S:=by unfold Aa;rw[h];rfl
def Aov{j:Nat}(h:Y[j]?=sr sr[.ref[n]]):Pu[Bej P n (rdr B k)][Dy fld "place" Aa[j] Y][.int (k:Int)]:=(λS a=>([],by
 unfold Dy;rw[Bm,Ah3 h];show Te fld "place" .ref[n] S=_;unfold Te;dsimp only;rw[a.2,cH];rfl))
def Bem{j:Nat}(h:Y[j]?=sr sr[.ref[n]]):Pu[Bej P n (rdr B k)][Dy fld "body" Aa[j] Y][.str B]:=(λS a=>([],by
 unfold Dy;rw[Bm,Ah3 h];show Te fld "body" .ref[n] S=_;unfold Te;dsimp only;rw[a.2,cH];rfl))
def Azx{k':Nat}{h:De->M W}{c:MS}{K:RS->Prop}(g:Pu[Bej SP.any n (rdr B k)][h Y][.int (k':Int)])(hv:Y[0]?=sr sr[.ref[n]])(f:S[n]?=sr[rdr B k])(q:∀d,Fr [n] S d->d[n]?=sr[rdr B k']->Wb c Y d K):Wb Ad[Gh fld "place" Aa[0] h][c] Y S K:=by
 let(G,e):=g S (trivial,f);let a:(S ++ G)[n]?=sr[rdr B k]:=Fr.app.at0 f;refine K6 ⟨?_⟩;refine Iv (K:=Lx c K) (u9,(S ++ G).set n (rdr B k'),?_,q _ ?_ Ak9[Cm[a]])
 .rw[Bm,e];dsimp only;rw[Bm,Ah3 hv];dsimp only;unfold Ad8;dsimp only;rw[a];show (if _ then R.ok u9 ((S ++ G).set n (.ins 6 Km["place"][.int (k':Int)][[("body",.str B),("place",.int (k:Int))]])) else .bad)=_
  rw[Bel];exact di rfl
 .exact(Fr.of0 Fr.app).same Fr.set
def Al7{mt:Nat->o8->o9 Fi}{m:o8}{j:Nat}{h:De->M lg[W]}{i:Fi}(hv:Y[j]?=sr sr[.ref[n]])(s:S[n]?=sr[rdr B k])(d:∀(B:o8)(k:Int),([(("body":o8),W.str B),("place",.int k)]:lg[o8×W]).lookup m=sy)(o:mt 6 m=sr i)(r:Wm h[Y] S λc l=>c.length+1=i.np/\Wm (i.g (.ref n::c)) l Q):Wm (Bd mt m Aa[j] h Y) S Q:=by
 unfold Bd;refine Ax[Hf hv ?_];refine Ax (i,S,?_,?_)
 .unfold Aea;dsimp only;rw[s];show (match jG m [(("body":o8),W.str B),("place",.int (k:Int))],mt 6 m with|none,sr i=>R.ok i S|_,_=>.bad)=_
  rw[d,o]
 .refine Ax[Ba r λc l ⟨hl,q⟩=>?_];unfold Ap7;rw[di hl];exact q
def Wo{m:Nat}(l:x.length=m):Rx n Jq[[.ref n,.int (m:Int)]] x .str[x]:=(λB a r S f o h=>by
 refine Bt rfl ?_;refine Cz (Ajf (Aov (P:=SP.any) rfl) (trivial,h) λu j=>?_);let e:=j.at0 h;refine Azx (k':=(a ++ x).length) (Pu.cast (Bx Ai[rfl] Ai[rfl] Pb) (by rw[len_app,l];simp)) rfl e λt p b=>?_
 let d:B.length<=big:=aH o ()
 refine Dc (Ajf (a:=.str x) (P:=Bej SP.any n (rdr B (a ++ x).length)) ?_ (trivial,b) λs i=>(rfl,i.at0 b,((j.of0).same p).then0 i));refine Wi Bem[rfl] Fb[Ai[rfl]] Fb[Aov[rfl]] ?_;let q:B.length=a.length+(x.length+r.length):=by rw[f,len_app,len_app]
 show Pu _ (if B.length<=big then pure W.str[dN[B][sr (a.length:Int)][sr (((a ++ x).length:Nat):Int)]] else bad) _
 rw[Ad2 (by rw[len_app];omega) (by rw[len_app];omega),len_app,f,Acr]
 exact Ls (by rw[<-f];exact d) Pu.pure)
def Rc{k:Nat}{i:Int}(j:1<=k)(h:k<=3)(hi:0<=i)(hk:i < 64 ^ k):Rx n Ir[[.ref n,.int (k:Int)]] (M1.Dv k i) .int[i]:=(λB a r S m g d=>by
 refine Bt rfl ?_;refine Dc Lw[Di[?_]];refine Al7 rfl d (λf f=>rfl) rfl ?_;refine Di Hf[rfl][Fx (rfl,?_)];refine(Wo[Dd k i]).use m g d λq b l=>?_;refine Fx ?_;exact Cp[Aj3 j h hi hk] λp e=>(rfl,e.at0 b,l.then0 e))
def Al8{o:Type}{b:lg o}{c:o->o8}{m:o->W}{e:De->M W}(v:b.length<=100)(C:∀x∈b,∀d,Rx n e[[sr d,sr .ref[n]]] c[x] m[x]):
  Rx n (Dg Vd Ds[compX 1 [0] Ii[Fj][Ds Aa[1] nilF] Br[0] (λI=>pure t8) e][nilF] [sr .ref[n],sr[.int (b.length:Int)]]) jn[b.map[c]] .tup[b.map[m]]:=(λB a r S F E D=>by
 let f:b.length<=big:=aH v ()
 refine Lw Di[?_];refine Ay1 (P:=SP.any) (Lj (k:=b.length) (Ab Ai[rfl] Af) f) trivial λN y=>?_;refine Adg (J:=λi Y h T=>i<=b.length/\h=(b.take i).map m/\(∃d,Y=[d,sr .ref[n]])/\T[n]?=sr[rdr B (a ++ jn[(b.take i).map c]).length]/\Fr [n] S T) ?_ ?_ ?_
 .rintro i w Y h T A ⟨hi,rfl,⟨d,rfl⟩,l,s⟩;let g:i < b.length:=by
   let z:=(aC.mp A).1
   rwa [aB,bM] at z
  let u:b.take[i+1]=b.take i ++ [(getElem[b][i][by get_elem_tactic])]:=(dH g).symm;refine([sr w,sr .ref[n]],rfl,Bp ?_);rw[di rfl];let t:B=(a ++ jn[(b.take i).map c]) ++ (c getElem[b][i][by get_elem_tactic] ++ (jn[(b.drop[i+1]).map c] ++ r)):=by
   let z:b.map c=(b.take i).map c ++ (c getElem[b][i][by get_elem_tactic]::(b.drop[i+1]).map c):=by
    rw[<-bT,<-cB,List.getElem_cons_drop,jA]
   rw[F,z,Azw,Qg,Bv,Bv,Bv]
  refine(C getElem[b][i][by get_elem_tactic] fY[g] w).use t E l λL p q=>?_;refine(?_,g,?_,(_,rfl),?_,s.same q)
  .rw[aB,bQ];exact eZ aH[rK _ _][v] ()
  .rw[u,cB];rfl
  .rw[u,cB,bT,sI,As2,<-Bv];exact p
 .rintro Y h T ⟨_,rfl,_,l,s⟩;simp only[aB,bM,fX] at l ⊢
  refine(f,?_);refine Fx ?_;refine Auv Hg (rfl,Fr.app.at0 l,s.then0 Fr.app)
 .exact(bI _,rfl,(sy,rfl),by rw[zY,sI,Aq5,Gi];exact y.at0 D,y.of0))
end
section
variable{P:SP}{n:Nat}{B x x1 x2:o8}{Y:De}{S:Store}{w:W}
def Al9{f:De->M W}{b':MS}{kk nn:Nat}{ws:lg W}(hl:ws.length=kk)(h:Rx n f[Dn nn ws] x w):Rx n (Bj kk nn (Ad retS[f] b') ws) x w:=λB a r S eB hB hS=>Bt hl Dc[h B a r S eB hB hS]
def Hx{mt:Nat->o8->o9 Fi}{m:o8}{j:Nat}{o:De->M lg[W]}{g:lg W->M W}{np:Nat}{dv e:lg W}(hv:Y[j]?=sr sr[.ref[n]])(i:∀(B:o8)(k:Int),([(("body":o8),W.str B),("place",.int k)]:lg[o8×W]).lookup m=sy)(p:mt 6 m=sr (g,np,dv))(s:Pu SP.any o[Y] e)(q:e.length+1=np)(h:Rx n (g (.ref n::e)) x w):Rx n (Bd mt m Aa[j] o Y) x w:=(λB a r S y t l=>
 Al7 hv l i p (Cp s λC f=>(q,h.use y t f.at0[l] λA u v=>(rfl,u,f.of0.same v))))
def Acs{mt:Nat->o8->o9 Fi}{m:o8}{j:Nat}{f:De->M W}{g:lg W->M W}{np:Nat}{dv:lg W}{u:W}(hv:Y[j]?=sr sr[.ref[n]])(e:∀(B:o8)(k:Int),([(("body":o8),W.str B),("place",.int k)]:lg[o8×W]).lookup m=sy)(q:mt 6 m=sr (g,np,dv))(s:2=np)(v:Rx n f[Y] x1 u)(t:Rx n g[[.ref n,u]] x2 w):Rx n (Bd mt m Aa[j] (Ds f nilF) Y) (x1 ++ x2) w:=(λB a r S l p o=>by
 refine Al7 hv o e q Di[?_];rw[Bv] at l;refine v.use l p o λD i z=>?_;refine Fx (s,?_);refine t.use (by rw[l,<-Bv]) p i λC h y=>(rfl,?_,z.same y)
 rw[<-Bv];exact h)
def As4{is:lg Int}(h:∀i∈is,0<=i/\i < 4096)(e:is.length<=100):Rx n Et[[.ref n,.int (is.length:Int)]] Mf[is] .tup[is.map[W.int]]:=(
 Al9 rfl (Al8 e λi hi d=>Hx rfl (λc c=>rfl) rfl (Ab An Af) rfl (Rc (k:=2) () () (h i hi).1 (h i hi).2)))
def Bm5{k:o8}(h:isKey k=t8):k.length<=12:=by
 unfold isKey at h;simp only[aQ,dh] at h;exact h.2.2
def Azy{k:o8}(h:isKey k=t8):Rx n Kv[[.ref n]] Sx[k] .str[k]:=by
 let d:=Bm5 h;exact Al9 rfl (Acs rfl (λa a=>rfl) rfl rfl (Hx rfl (λa a=>rfl) rfl (Ab An Af) rfl (Rc (k:=1) (i:=(k.length:Int)) () () () ())) Wo[rfl])
def Ben{ks:lg o8}(h:∀k∈ks,isKey k=t8)(c:ks.length<=100):Rx n Gk[[.ref n,.int (ks.length:Int)]] jn[ks.map[Sx]] .tup[ks.map[W.str]]:=(
 Al9 rfl (Al8 c λk hk d=>Hx rfl (λb b=>rfl) rfl Af rfl Azy[h k hk]))
def Beo{c:Cl}(l:c.ok=t8):Rx n J3[[.ref n]] c.t c.w:=(λB a r S d q D=>by
 let h:∀z:o8,z.length=1->Rx n Bd[λc n=>Az.lookup[u6 c n]]["next_signs"][Aa 0][Ds kF[.int[1]] nilF][Dn 1 [.ref n]] z .str[z]:=λz G=>Hx rfl (λe e=>rfl) rfl (Ab An Af) rfl (Wo (m:=1) G);cases c with
 |inn t=>
  let N:t.length<=63:=by
   unfold Cl.ok at l;rw[aQ,dh] at l;exact l.2
  let y:Cl.t .inn[t]=("i":o8) ++ (M1.Dv 1 t.length ++ t):=Bv _ _ _;rw[y] at d ⊢
  rw[Bv] at d;refine Bt rfl ?_;refine Adf (Asj (p:=true) Ag1[?_]);refine(h ("i":o8) ()).use d q D λJ g v=>?_
  refine Tr[Cp Fe.cast[congrArg W.bl ()] λI o=>(rfl,rfl,?_)]
  refine Dc Ei[Di[Tr[Di[?_]]]];let s:Rx n Bd[λc n=>Az.lookup[u6 c n]]["next_signs"][Aa 0][Ds Bd[λc n=>Az.lookup[u6 c n]]["next_number"][Aa 0][Ds kF[.int[1]] nilF] nilF][Dn 1 [.ref n]] (M1.Dv 1 t.length ++ t) .str[t]:=
   Acs rfl (λe e=>rfl) rfl rfl (Hx rfl (λe e=>rfl) rfl (Ab An Af) rfl (Rc (k:=1) (i:=(t.length:Int)) () () () ())) Wo[rfl]
  refine s.use (by rw[d,<-Bv]) q o.at0[g] λF f u=>?_
  refine Fx (show 2<=big by decide,rfl,?_,(v.then0 o).same u)
  rw[<-Bv];exact f
 |out i p=>
  let H:∀j∈[i,p],0<=j/\j < 4096:=by
   unfold Cl.ok Ge at l;simp only[aQ,dh] at l;intro j C;simp only[aV,cD,or_false] at C;rcases C with rfl|rfl <;> omega
  let y:Cl.t[.out i p]=("o":o8) ++ Mf [i,p]:=rfl;rw[y] at d ⊢
  rw[Bv] at d;refine Bt rfl ?_;refine Jg (Asj (p:=false) Ag1[?_]);refine(h ("o":o8) ()).use d q D λJ g v=>?_
  refine Tr[Cp Fe.cast[congrArg W.bl ()] λI o=>(rfl,rfl,?_)]
  refine Dc Ag0[Ei[Di[Tr[Fx (show 1<=big by decide,?_)]]]]
  let s:Rx n Bd[λc n=>Az.lookup[u6 c n]]["next_numbers"][Aa 0][Ds kF[.int[2]] nilF][Dn 1 [.ref n]] Mf[[i,p]] .tup[[.int i,.int p]]:=by
   let E:=As4 (n:=n) (is:=[i,p]) H nW[rfl];simp only[bL,sY,aBk,Nat.reduceAdd,bT,sI,Int.cast_ofNat_Int] at E;exact Hx rfl (λe e=>rfl) rfl (Ab An Af) rfl E
  refine s.use (by rw[d,<-Bv]) q o.at0[g] λF f u=>?_
  refine(.tup [.str "out",.int i,.int p],F,rfl,rfl,?_,(v.then0 o).same u);rw[<-Bv];exact f)
def Bjz{z:o8×Cl}(hk:isKey z.1=t8)(h:z.2.ok=t8):Rx n Ky[[.ref n]] Acl[z] Xr[z]:=(λB a r S b g i=>by
 unfold Acl at b ⊢
 rw[Bv] at b;refine Bt rfl ?_;let k:Rx n Bd[λc n=>Cq.lookup[u6 c n]]["next_key"][Aa[0]][nilF][Dn 2 [.ref n]] Sx[z.1] .str[z.1]:=Hx rfl (λd d=>rfl) rfl Af rfl Azy[hk];refine Cz[k.use b g i λq f m=>?_];let j:Rx n Bd[λc n=>Cq.lookup[u6 c n]]["next_cell"][Aa[0]][nilF][(Dn 2 [.ref n]).set 1 sr[.str[z.1]]] z.2.t z.2.w:=Hx rfl (λd d=>rfl) rfl Af rfl Beo[h];refine Dc Ei[Di[Hf rfl Di[?_]]];refine j.use (by rw[b,<-Bv]) g f λp e l=>?_
 refine Fx (show 2<=big by decide,rfl,?_,m.same l)
 rw[<-Bv];exact e)
def Bep{rs:lg[o8×Cl]}(h:∀z∈rs,isKey z.1=t8/\z.2.ok=t8)(e:rs.length<=100):Rx n Gr[[.ref n,.int (rs.length:Int)]] jn[rs.map[Acl]] .tup[rs.map[Xr]]:=(
 Al9 rfl (Al8 e λz a d=>Hx rfl (λc c=>rfl) rfl Af rfl (Bjz (h z a).1 (h z a).2)))
end
def Ama(x:o8):(⟨#[]⟩:o8) ++ x=x:=by
 show (⟨#[] ++ x.cps⟩:o8)=x;rw[vO]
def Bj0{S a:Store}(h:D.Fr [] S a):∃G,a=S ++ G:=by
 refine(a.drop S.length,?_);apply qU;intro i;by_cases hi:i < S.length
 .rw[aY hi,h.get i hi (λz=>nomatch z)]
 .rw[aZ (),vP,Nat.add_sub_cancel' ()]
theorem Azz{S a:Store}{n:Nat}(h:D.Fr [n] S a)(d:S.length<=n):D.Fr [] S a:=(h.len,λi hi c=>h.get i hi λz=>by
 have:=aK.mp z;omega)
section
variable{P:SP}{n:Nat}{B x:o8}{Y:De}{S:Store}{w:W}{Q:W->Store->Prop}
def Az0{m:M W}(h:∀S,P.p S->Wm m S λv a=>v=w/\D.Fr [] S a):Pu P m w:=(λS b=>by
 let(v,a,e,rfl,f):=h S b;let(G,rfl):=Bj0 f;exact(G,e))
def As5{f:o8}{c:Nat}{fs:lg[o8×W]}{v:W}{h:De->M W}{a:MS}{K:RS->Prop}(i:h Y S=.ok v S)(hv:Y[0]?=sr sr[.ref[n]])(g:S[n]?=sr[.ins c fs])(hok:fld tu c f=t8)(e:fs.length < 1000)(q:Wb a Y (S.set n .ins[c][Km f v fs]) K):
  Wb Ad[Gh fld f Aa[0] h][a] Y S K:=by
 refine K6 ⟨?_⟩;refine Iv (K:=Lx a K) (u9,S.set n .ins[c][Km f v fs],?_,q);rw[Bm,i];dsimp only;rw[Bm,Ah3 hv];dsimp only;unfold Ad8;dsimp only;rw[g];exact di (by rw[hok,dm e];rfl)
def Az1{v:W}:Km "body" v []=[(("body":o8),v)]:=rfl
def Avl{v u:W}:Km "place" u [(("body":o8),v)]=[(("body":o8),v),("place",u)]:=by
 unfold Km;rw[dq ()]
 rfl
def Beq(q:∀a,D.Fr [] S a->a[S.length]?=sr[rdr B 0]->Q .ref[S.length] a):Wm (Ko 6 G7 [.str B]) S Q:=by
 let c:(S ++ [Cell.ins 6 []])[S.length]?=sr[.ins 6 []]:=Hg;let b:=Cm c;unfold Ko;refine Ax (.ref S.length,S ++ [.ins 6 []],rfl,?_);refine Ax[Bt rfl ?_];refine As5 (v:=.str B) Ah3[rfl] rfl c () () ?_
 rw[Az1];refine As5 (v:=.int 0) rfl rfl Ak9[b] () (show 1 < 1000 by decide) ?_
 rw[Avl];refine Rm Bp[q[_][?_][Ak9 (by rw[gV];exact b)]]
 exact Azz (((Fr.app.of0 (L:=[S.length])).same Fr.set).same Fr.set) aN[_]
def read0{m:M W}{r:o8}{k:Nat}(h:Rx n m x w)(g:B=x ++ r)(e:B.length<=400)(hk:k=0)(d:S[n]?=sr[rdr B k])(q:∀b,b[n]?=sr[rdr B x.length]->D.Fr [n] S b->Q w b):Wm m S Q:=by
 subst hk;refine h.use (a:=⟨#[]⟩) (r:=r) (by rw[Ama];exact g) e d λb c f=>q b ?_ f
 rw[Ama] at c;exact c
abbrev mtR:Nat->o8->o9 Fi:=λc n=>Al.lookup[u6 c n]
def As6{i:Int}(hv:Y[2]?=sr sr[.ref[n]])(c:0<=i)(b:i < 64):Rx[n][Bd mtR "next_number" Aa[2] (Ds kF[.int[1]] nilF) Y][M1.Dv 1 i][.int i]:=(Hx hv (λa a=>rfl) rfl (Ab An Af) rfl (Rc (k:=1) () () c b))
def Ber{i:Int}(hv:Y[2]?=sr sr[.ref[n]])(c:0<=i)(b:i < 4096):Rx[n][Bd mtR "next_number" Aa[2] (Ds kF[.int[2]] nilF) Y][M1.Dv 2 i][.int i]:=(Hx hv (λa a=>rfl) rfl (Ab An Af) rfl (Rc (k:=2) () () c b))
def Amb{f:De->M W}{is:lg Int}(hv:Y[2]?=sr sr[.ref[n]])(hf:Pu SP.any f[Y] (.int (is.length:Int)))(h:∀i∈is,0<=i/\i < 4096)(d:is.length<=100):Rx n (Bd mtR "next_numbers" Aa[2] (Ds f nilF) Y) Mf[is] .tup[is.map[W.int]]:=(
 Hx (g:=Et) hv (λc c=>rfl) rfl (Ab hf Af) rfl (As4 (n:=n) (is:=is) h d))
def Az2{f:De->M W}(hv:Y[2]?=sr sr[.ref[n]])(hf:Pu SP.any f[Y] (.int (x.length:Int))):Rx n (Bd mtR "next_signs" Aa[2] (Ds f nilF) Y) x .str[x]:=Hx hv (λuu uu=>rfl) rfl (Ab hf Af) rfl Wo[rfl]
abbrev aB4:=Ds (Bd mtR "next_number" Aa[2] (Ds kF[.int[1]] nilF)) nilF
def Bes{rs:lg[o8×Cl]}(hv:Y[2]?=sr sr[.ref[n]])(h:∀z∈rs,isKey z.1=t8/\z.2.ok=t8)(d:rs.length<=63):Rx[n][Bd mtR "next_rows" Aa[2] aB4 Y][M1.Dv 1 rs.length ++ jn rs.map[Acl]][.tup rs.map[Xr]]:=(
 Acs (g:=Gr) hv (λb b=>rfl) rfl rfl (As6 hv () ()) (Bep (n:=n) (rs:=rs) h ()))
def Bet{ks:lg o8}(hv:Y[2]?=sr sr[.ref[n]])(h:∀k∈ks,isKey k=t8)(d:ks.length<=63):Rx[n][Bd mtR "next_keys" Aa[2] aB4 Y][M1.Dv 1 ks.length ++ jn ks.map[Sx]][.tup ks.map[W.str]]:=(
 Acs (g:=Gk) hv (λb b=>rfl) rfl rfl (As6 hv () ()) (Ben (n:=n) (ks:=ks) h ()))
def Beu{p:Pg}(h:p.ok)(k:p.body.length<=400):Pu P V6[[.str p.letter,.str p.body]] p.w:=(Az0 λS uu=>by
 let y:∀{Z q:Store},D.Fr [] S Z->D.Fr [S.length] Z q->D.Fr [] S q:=λm e=>Azz[(m.of0).same e][aN _];refine Bt rfl ?_;refine Cz Lw[Di[Hf rfl Fx[?_]]];refine Beq λZ m g=>?_;cases p with
 |head a b c d=>
  let L:∀i∈[a,b,c,d],0<=i/\i < 4096:=by
   let(I,H,T,v):=h;intro i hi;simp only[aV,cD,or_false] at hi;rcases hi with rfl|rfl|rfl|rfl
   .exact Gz I ()
   .exact Gz H ()
   .exact Gz T ()
   .exact Gz v ()
  refine Adf[Cp[(Ak[Aw Ai[rfl] An Fe]).cast (by rfl')] λq e=>(rfl,?_)]
  refine Dc Ag0[Ei[Di[Tr[Fx (show 1<=big by decide,?_)]]]]
  refine read0 (r:=⟨#[]⟩) (Amb (is:=[a,b,c,d]) rfl (Pu.cast An rfl) L nW[rfl]) (Gi _).symm k rfl e.at0[g] λo O f=>?_;exact(.tup [.str "head",.int a,.int b,.int c,.int d],o,rfl,rfl,y m.then0[e] f)
 |free i=>
  let L:∀j∈[i],0<=j/\j < 4096:=by
   intro j hj;rw[aK.mp hj];exact Gz h ()
  refine Jg[Cp[(Ak[Aw Ai[rfl] An Fe]).cast (by rfl')] λq e=>(rfl,?_)]
  refine Jg[Cp[(Ak[Aw Ai[rfl] An Fe]).cast (by rfl')] λo f=>(rfl,?_)]
  refine Jg[Cp[(Ak[Aw Ai[rfl] An Fe]).cast (by rfl')] λX l=>(rfl,?_)]
  refine Jg[Cp[(Ak[Aw Ai[rfl] An Fe]).cast (by rfl')] λS5 C=>(rfl,?_)]
  refine Adf[Cp[(Ak[Aw Ai[rfl] An Fe]).cast (by rfl')] λS6 A=>(rfl,?_)]
  let E:=((((e.then0 f).then0 l).then0 C).then0 A);refine Dc Ag0[Ei[Di[Tr[Fx (show 1<=big by decide,?_)]]]]
  refine read0 (r:=⟨#[]⟩) (Amb (is:=[i]) rfl (Pu.cast An rfl) L nW[rfl]) (Gi _).symm k rfl E.at0[g] λo O f=>?_;exact(.tup [.str "free",.int i],o,rfl,rfl,y m.then0[E] f)
 |leaf rs=>
  refine Jg[Cp[(Ak[Aw Ai[rfl] An Fe]).cast (by rfl')] λq e=>(rfl,?_)]
  refine Adf[Cp[(Ak[Aw Ai[rfl] An Fe]).cast (by rfl')] λo f=>(rfl,?_)]
  refine Dc Ei[Di[Tr[Di[?_]]]];let hl:rs.length<=63:=h.1;refine read0 (r:=⟨#[]⟩) Bes[rfl][λz hz=>h.2.1 z hz][hl] (Gi _).symm k rfl ((e.then0 f).at0 g) λX hS4 l=>?_;exact Fx (show 2<=big by decide,rfl,y m.then0[e.then0[f]] l)
 |fork J ps=>
  let((I,H,T),v,h5):=h;refine Jg[Cp[(Ak[Aw Ai[rfl] An Fe]).cast (by rfl')] λq e=>(rfl,?_)]
  refine Jg[Cp[(Ak[Aw Ai[rfl] An Fe]).cast (by rfl')] λo f=>(rfl,?_)]
  refine Adf[Cp[(Ak[Aw Ai[rfl] An Fe]).cast (by rfl')] λX l=>(rfl,?_)]
  let G:=(e.then0 f).then0 l;refine Cz ?_;refine read0 (r:=Mf ps) (Bet rfl H I) rfl k rfl G.at0[g] λS5 N C=>?_;refine Dc Ei[Di[Tr[Di[Hf rfl Di[?_]]]]];refine(Amb (is:=ps) rfl ((Bx Ae[Ab Ai[rfl] Af][Gs] An Pb).cast (congrArg W.int (show ((J.map W.str).length:Int)+1=(ps.length:Int) by rw[aB,v];rfl))) (λi hi=>Gz (h5 i hi) ()) ()).use (a:=M1.Dv 1 J.length ++ jn J.map[Sx]) (r:=⟨#[]⟩) (by rw[Gi];rfl) k N λS6 u A=>?_
  exact Fx (show 3<=big by decide,rfl,y m.then0[G] C.same[A])
 |rest t i=>
  let(I,H,T,v):=h;let hi:=Gz v ()
  let U:Pg.body[.rest t i]=M1.Dv 2 i ++ t:=by
   show jn [M1.Dv 2 i] ++ t=_;rw[Qg,Aq5,Gi]
  refine Jg[Cp[(Ak[Aw Ai[rfl] An Fe]).cast (by rfl')] λq e=>(rfl,?_)]
  refine Jg[Cp[(Ak[Aw Ai[rfl] An Fe]).cast (by rfl')] λo f=>(rfl,?_)]
  refine Jg[Cp[(Ak[Aw Ai[rfl] An Fe]).cast (by rfl')] λX l=>(rfl,?_)]
  refine Adf[Cp[(Ak[Aw Ai[rfl] An Fe]).cast (by rfl')] λS5 C=>(rfl,?_)]
  let F:=((e.then0 f).then0 l).then0 C;refine Cz ?_;refine read0 (r:=t) (Ber rfl hi.1 hi.2) U k rfl F.at0[g] λS6 u A=>?_;refine Dc Ei[Di[Tr[Di[?_]]]];let hl:(Pg.body[.rest t i]).length=2+t.length:=by rw[U,len_app,Dd]
  refine(Az2 (x:=t) rfl ((Bx Ae[Ab Ai[rfl] Af][len_str[aH k ()]] An Afp).cast (congrArg W.int (show ((Pg.body[.rest t i]).length:Int) - 2=((t.length:Nat):Int) by omega)))).use (a:=M1.Dv 2 i) (r:=⟨#[]⟩) (by rw[Gi];exact U) k u λS7 hS7 f7=>?_
  exact Di Hf[rfl][Fx (show 3<=big by decide,rfl,y m.then0[F] A.same[f7])])
end
def Avm{z:o8}(h:2<=z.length):dN z sy sr[-2]=cut z 0 (z.length - 2):=by
 let q:=eq_of_beq (wY (x:=z) (j:=-2) (k:=-2+z.length) () () rfl)
 rw[q];unfold cut;rw[show ((-2:Int)+z.length - 0).toNat=z.length - 2 - 0 by omega]
 rfl
def Avn{z:o8}(h:2<=z.length):dN z sr[-2] sy=cut z (z.length - 2) z.length:=by
 let q:=eq_of_beq (vQ (x:=z) (i:=-2) (a:=-2+z.length) (b:=z.length) () () rfl rfl)
 rw[q];unfold cut;rw[show ((-2:Int)+z.length).toNat=z.length - 2 by omega,show ((z.length:Int) - (-2+z.length)).toNat=z.length - (z.length - 2) by omega]
def Avo(a r:o8):cut (a ++ r) 0 a.length=a:=by
 let h:=Acr ⟨#[]⟩ a r;rw[Ama] at h;show cut (a ++ r) 0 a.length=a;let e:(⟨#[]⟩:o8).length=0:=rfl;rw[e,aBk] at h;exact h
def Bev(a r:o8):cut (a ++ r) a.length (a ++ r).length=r:=by
 let h:=Acr a r ⟨#[]⟩;rw[Gi] at h;rw[len_app];exact h
section
variable{P:SP}
def Az3{Y:De}{f:De->M W}{z:o8}(h:Pu P f[Y] .str[z])(b:2<=z.length)(a:z.length<=big):Pu P (slF f Bs Cw[Aqb[kF[.int[2]]]] Y) .str[cut[z][0][z.length - 2]]:=by
 refine Wi h Gf Fb[Azu[An]] ?_;show Pu P (if z.length<=big then pure W.str[dN z sy sr[-2]] else bad) _
 rw[Avm b];exact Ls a Pu.pure
def Bj1{Y:De}{f:De->M W}{z:o8}(h:Pu P f[Y] .str[z])(b:2<=z.length)(a:z.length<=big):Pu P (slF f Cw[Aqb[kF[.int[2]]]] Bs Y) .str[cut[z][z.length - 2][z.length]]:=by
 refine Wi h Fb[Azu[An]] Gf ?_;show Pu P (if z.length<=big then pure W.str[dN z sr[-2] sy] else bad) _
 rw[Avn b];exact Ls a Pu.pure
def Az4{Y:De}{f g h:De->M W}{z:o8}{i j:Nat}(k:Pu P f[Y] .str[z])(hi:Pu P g[Y] (.int (i:Int)))(e:Pu P h[Y] (.int (j:Int)))(c:i<=j)(b:j<=z.length)(d:z.length<=big):Pu P (slF f Cw[g] Cw[h] Y) .str[cut z i j]:=by
 refine Wi k Fb[hi] Fb[e] ?_;show Pu P (if z.length<=big then pure W.str[dN[z][sr (i:Int)][sr (j:Int)]] else bad) _
 rw[Ad2 c b];exact Ls d Pu.pure
def Az5{z:o8}(b:2<=z.length)(a:z.length<=big)(c:M2.Eb cut[z][0][z.length - 2]=t8):Pu P J6[[.str z]] .bl[M2.check cut[z][0][z.length - 2]==cut z (z.length - 2) z.length]:=by
 apply Bo (ws:=[.str z]) rfl;apply Bh;apply Bb;exact Aw Ae[Ab[Az3 Ai[rfl] b a][Af]][Aot (by rw[Acq bI[_] ()];omega) c] (Bj1 Ai[rfl] b a) Fe
def Ah4(h:PuN P b Y Y'):PuN P Agq[b] Y Y':=(λS a=>by
 let(G,e):=h S a;exact(G,by unfold Agq;rw[e]))
def Aq9(p:Pg):∃c,p.letter=⟨#[c]⟩:=by cases p <;> exact(_,rfl)
def Az6{z r:o8}{c:Nat}(a:z.length<=big)(e:z=⟨#[c]⟩ ++ r):Pu P (ixW .str[z] .int[0]) .str[⟨#[c]⟩]:=by
 let b:0 < z.length:=by rw[e,len_app];exact bC (show 0 < 1 by decide) (lX _ _)
 let h:=Aj7 (P:=P) a b;let d:z.cps.toList.getD 0 0=c:=by rw[e,Ah2];rfl
 rw[d] at h;exact h
def text_len{p:Pg}{a:Int}(d:64<=a)(c:(p.body.length:Int)<=a - 5):(p.text a).length=a.toNat:=by
 unfold Pg.text;rw[len_app,Acp c,Aj2];omega
def Ah5{p:Pg}{a:Int}(h:p.ok)(g:64<=a)(o:a<=200)(m:(p.body.length:Int)<=a - 5):Pu P M4[[.str p.text[a]]] p.w:=by
 let r:=text_len g m;let hu:=Acp m;let b:(p.text a).length<=big:=by rw[r];exact aH (show a.toNat<=200 by omega) ()
 let el:((p.text a).length:Int)=a:=by omega
 let l:cut p.text[a] 0 ((p.text a).length - 2)=p.unch a:=by
  let e:=Avo p.unch[a] M2.check[p.unch[a]];rw[show (p.text a).length - 2=(p.unch a).length by omega]
  exact e
 let x:cut p.text[a] ((p.text a).length - 2) (p.text a).length=M2.check p.unch[a]:=by
  let e:=Bev p.unch[a] M2.check[p.unch[a]];rw[show (p.text a).length - 2=(p.unch a).length by omega]
  exact e
 let(n,s):=As0 p a;let t:p.unch a=p.start ++ ⟨jE n 48⟩:=by
  show p.unch a=⟨p.start.cps ++ jE n 48⟩;rw[<-s]
 let k:p.text a=p.letter ++ (M1.Dv 2 p.body.length ++ (p.body ++ (⟨jE n 48⟩ ++ M2.check p.unch[a]))):=by
  show p.unch a ++ M2.check p.unch[a]=_;rw[t];unfold Pg.start;rw[Bv,Bv,Bv]
 let(c,q):=Aq9 p;let v:cut p.text[a] 1 3=M1.Dv 2 p.body.length:=by
  let e:=Acr[p.letter][M1.Dv 2 p.body.length][p.body ++ (⟨jE n 48⟩ ++ M2.check p.unch[a])];rw[<-k,Nz,Dd] at e;exact e
 let u:cut p.text[a] 3 (3+p.body.length)=p.body:=by
  let e:=Acr[p.letter ++ M1.Dv 2 p.body.length][p.body][⟨jE n 48⟩ ++ M2.check p.unch[a]];rw[Bv,<-k,len_app,Nz,Dd] at e;exact e
 let f:Pu P Nj[[.str p.text[a]]] p.w:=by
  apply Bo (ws:=[.str p.text[a]]) rfl;apply Cu
  .refine Fo Dt[Ak[Ae[Ab Ai[rfl] Af][Az5 () b (by rw[l];exact Al6 h a)]]] ?_ Ay
   rw[l,x,beq_self_eq_true];rfl
  .refine Cu (Dh (w:=.int (p.body.length:Int)) (Ae (Ab ((Az4 (i:=1) (j:=3) Ai[rfl] An An () () b).cast (by rw[v])) Af) (Aj3 () () () (show (p.body.length:Int) < 64 ^ 2 by omega)))) ?_
   refine Bh (Bb (Ae (Ab Cr[Ai[rfl]][An][(Az6 b k.trans[by rw[q]]).cast (by rw[q])] (Ab ((Az4 (i:=3) (j:=3+p.body.length) Ai[rfl] An ((Bx An Ai[rfl] Pb).cast (congrArg W.int ())) () () b).cast (by rw[u])) Af)) (Beu h ())))
 apply Bo (ws:=[.str p.text[a]]) rfl;apply Cu
 .refine Fo (Jw Dt[Ak[Ae Ab[Ai rfl][Ab An Af] Al3]] Dt[Ak[Ae[Ab Ae[Ab Ai[rfl] Af][len_str b] Af][Al4 _]]]) ?_ Ay;rw[el,dm g,dm o];rfl
 refine Cu Ah4[Aut Dh[Ae[Ab Ai[rfl] Af][f]] Ay] ?_;refine Cu (Fo Dt[Ak[Ae[Ab Ai[rfl] Af][As3 h]]] rfl Ay) ?_;apply Cu
 .refine Fo Ak[Aw[Ae[Ab[Ai rfl][Ab Ae[Ab Ai[rfl] Af][Asz h] Ab[(Ae[Ab Ai[rfl] Af][len_str b]).cast (by rw[el])][Af]]][As1 () g o]][(Az3 Ai[rfl] () b).cast (by rw[l])][Bjj]] ?_ Ay
  rw[beq_self_eq_true];rfl
 .exact Bh Bb[Ai[rfl]]
end
section
def Aj4{p:Pg}(h:p.ok):Pu P Q0[[p.w]] .str[p.body]:=Bo rfl Cu[Fo Dt[Ak[Ae[Ab Ai[rfl] Af][As3 h]]] rfl Ay][Bh Bb[Ae[Ab Ai[rfl] Af][Asz h]]]
def Bew(i:Int):Pu P Adw[[.int i]] .int[i - 5]:=Bo rfl Bh[Bb[Bx Ai[rfl] An Afp]]
def Fits(size:Int)(p:Pg):Prop:=p.ok/\(p.body.length:Int)<=size - 5
def Siz(size:Int):Prop:=64<=size/\size<=200
def Mz{p:Pg}{a:Int}(h:Fits a p)(e:Siz a):Pu P Hi[[p.w,.int a]] .str[p.text[a]]:=by
 let(h,b):=h;let(d,c):=e;let hu:(p.unch a).length<=big:=by rw[Acp b];exact aH (show (a - 2).toNat<=200 by omega) ()
 refine Bo rfl (Cu Dh[Ae[Ab Ai[rfl] Af][Aj4 h]] ?_);refine Cu (Fo Dt[Ak[Ae[Ab Ai[rfl] Af][Al4 a]]] (by rw[dm d,dm c];rfl) Ay) ?_
 refine Cu Fo[Ak[Aw Ae[Ab Ai[rfl] Af][len_str[aH (show p.body.length<=195 by omega) ()]] Ae[Ab Ai[rfl] Af][Bew a] Xy]][dw ()][Ay] ?_
 refine Cu Dh[Ae[Ab Ai[rfl] Ab[Ai rfl][Ab Ai[rfl] Af]][As1 () d c]] ?_
 exact Bh (Bb (Bx Ai[rfl] Ae[Ab Ai[rfl] Af][Aot[hu][Al6 h a]] (Ft (by
  rw[Aj2,Acp b];exact aH (show (a - 2).toNat+2<=400 by omega) ()))))
def Ad3{p:Pg}{size:Int}(h:Fits size p)(hs:Siz size):Pu P M4[[.str p.text[size]]] p.w:=Ah5 h.1 hs.1 hs.2 h.2
def Ad4{p:Pg}{size:Int}(h:Fits size p)(hs:Siz size):(p.text size).length=size.toNat:=text_len hs.1 h.2
end
local macro_rules|`(tactic| array_mem_dec)=>`(tactic| first|assumption|(apply Fr.at0;assumption;array_mem_dec)|(apply Fr.at1;assumption;array_mem_dec;first|assumption|omega))
local macro_rules|`(tactic| array_get_dec)=>`(tactic| first|with_reducible refine Tr ?_|((with_reducible apply Hf);exact rfl)|with_reducible refine Bge ?_|with_reducible refine Ag0 ?_|with_reducible refine Ag1 ?_|with_reducible refine Di ?_|with_reducible refine Fx ?_|with_reducible refine Ay2 ?_|with_reducible refine Anp ?_|with_reducible refine Ass ?_|with_reducible refine Aal ?_|with_reducible refine Aso ?_|with_reducible refine Lw ?_|with_reducible refine Cz ?_|with_reducible refine Dc ?_|with_reducible refine Alb ?_|with_reducible refine Xg ?_|with_reducible refine Aqh ?_|with_reducible refine Bu ?_|with_reducible refine Rm ?_|((with_reducible apply Asn);array_mem_dec;exact rfl;exact rfl)|((with_reducible apply Adh);array_mem_dec;exact rfl;exact rfl)|((with_reducible apply Ly);array_mem_dec;exact rfl;exact rfl)|((with_reducible refine Ay3 ?_ ?_);exact rfl)|with_reducible refine tb ?_|with_reducible refine Asq (by first|assumption|omega) ?_|with_reducible refine Anq () () ?_|with_reducible refine Alc () ?_|((with_reducible apply Afr);array_mem_dec)|((with_reducible apply Ast);array_mem_dec)|with_reducible refine Ay6 ?_|with_reducible refine Ay7 ?_|with_reducible refine Ay8 ?_|with_reducible refine Ay9 ?_|with_reducible refine Aza ?_|with_reducible refine Azb ?_|((with_reducible apply Bgf);exact rfl)|((with_reducible apply Bgg);exact rfl)|((with_reducible apply Ay5);exact rfl)|((with_reducible apply Asp);exact rfl))
def Bj2(ns:lg Int)(k s:Int):Cell:=.dct [(.inr "script",.scr ns),(.inr "at",.int k),(.inr "seed",.int s)]
def Tp(n:Nat)(S:Store):Prop:=∃ns k s,0<=k/\0<=s/\S[n]?=sr[Bj2 ns k s]
section
def Bj3:Jl [(.inr "script",.scr ns),(.inr "at",.int k),(.inr "seed",.int s)] .inr["at"] .int[j]=[(.inr "script",.scr ns),(.inr "at",.int j),(.inr "seed",.int s)]:=by rfl'
def Az7:Jl [(.inr "script",.scr ns),(.inr "at",.int k),(.inr "seed",.int s)] .inr["seed"] .int[j]=[(.inr "script",.scr ns),(.inr "at",.int k),(.inr "seed",.int j)]:=by rfl'
def Bj4{ns:lg Int}{k:Int}(c:0<=k)(h:k < ns.length):∃v,atI ns k=sr v:=by
 unfold atI ixN;rw[di c,di h];exact(_,aM ())
def By{m:Int}(h:Tp n S)(f:0 < m)(q:∀i S',Fr [n] S S'->Tp n S'->0<=i->i < m->Q .int[i] S'):Wm Aq[[.ref n,.int m]] S Q:=by
 let(ns,k,s,g,p,h):=h;unfold Bj2 at h;refine Bt rfl ?_;let go:∀v:Int,Wb Ad[Ij Aa[0] kS["at"] Bc[.add][ixF Aa[0] kS["at"]][kI[1]]][Ad Ij[Aa 0][kS "seed"][Bc .mod Bc[.add][Bc .mul Bc[.add][ixF Aa[0] kS["seed"]][Aa[2]] kI[48271]][kI[11]] kI[2147483647]] rQ[Bc .mod Bc[.fdiv][ixF Aa[0] kS["seed"]][kI[11]] Aa[1]]] [sr .ref[n],sr .int[m],sr .int[v]] S Aih[Q]:=λv=>by
  repeat array_get_dec
  refine Jy h rfl (show 3 < big by decide) λt l c=>?_
  rw[Bj3] at c
  repeat array_get_dec
  refine Alc (by rw[show small 48271=t8 by decide +kernel,aBl]) ?_
  repeat array_get_dec
  refine Jy c rfl (show 3 < big by decide) λr j e=>?_
  rw[Az7] at e
  repeat array_get_dec
  exact q _ _ l.same[j] (_,_,_,(),jD _ (),e) (jD _ ()) (lC _ f)
 refine Cz Tr[Ej[?_]]
 repeat array_get_dec
 refine K8[λhk=>?_] λo=>Rm go[0];let(v,hv):=Bj4 g hk
 repeat array_get_dec
 refine Bjl (a:=.int v) (S':=S) (by show Aif ((atI ns k).map W.int) S=_;rw[hv];rfl) ?_
 exact Rm go[v]
end
def Avp:o8:=(" !\"#$&'()*+,-./0123456789:;<=>?@ABCDEFGHIJKLMNOPQRSTUVWXYZ[\\]^_`":o8) ++ ("abcdefghijklmnopqrstuvwxyz{|}~":o8)
def Ah6:Avp.length=94:=by decide +kernel
def Bex:M2.Eb Avp=t8:=by decide +kernel
def Bey(i:Int):Nat:=Avp.cps.toList.getD i.toNat 0
def Bez{i:Int}(b:0<=i)(h:i < 94):M2.okC Bey[i]=t8:=(M2.Bd5 Bex (by show _ < Avp.length;rw[Ah6];omega))
def Be0(a b:Int)(size:Nat):o8:=jn[(cO size).map λ(k:Nat)=>(⟨#[Bey[(a+(0+(k:Int)) * b) % 94]]⟩:o8)]
def Be1(a b:Int)(c:Nat):M2.Eb[Be0 a b c]=t8:=(Aou λy d=>by
 let(k,_,rfl):=bK.mp d;exact(Aq6 _).trans Bez[jD _ ()][lC _ ()])
def Az8(a b:Int)(c:Nat):(Be0 a b c).length=c:=by
 unfold Be0;rw[Ad1];have:∀l:lg Nat,(l.map[(λx:o8=>x.length) ∘ λ(k:Nat)=>(⟨#[Bey[(a+(0+(k:Int)) * b) % 94]]⟩:o8)]).sum=l.length:=by
  intro l;induction l with
  |nil=>rfl
  |cons x l h=>
   rw[bT,rG,h,bL];show 1+_=_;omega
 rw[cL,this,bM]
section
def Az9:Pu P Rq[[]] .str[Avp]:=(Bo rfl (Cu Dh[An] Bh[Bb[Bx[Ai[rfl]][An][Ft ()]]]))
def Bj5{i:Int}(a:0<=i)(h:i < 94):Pu P (ixW .str[Avp] .int[i]) .str[⟨#[Bey i]⟩]:=by
 have:=Aj7 (P:=P) (j:=i.toNat) (by rw[Ah6];decide) (by rw[Ah6];omega)
 rw[sS,iK a] at this;exact this
def Avq{i:Int}(a:0<=i)(c:i<=1000000):small i=t8:=by
 have:=Aj1 (k:=i.toNat) ()
 rw[iK a] at this;exact this
def Afv{m:Int}(h:Tp n S)(D:0<=m)(C:m<=1000)(q:∀z g,Fr [n] S g->Tp n g->(z.length:Int)=m->M2.Eb z=t8->Q .str[z] g):Wm Jo[[.ref n,.int m]] S Q:=by
 obtain⟨k,rfl⟩:∃k:Nat,m=k:=(m.toNat,())
 refine Bt rfl Cz[?_]
 repeat array_get_dec
 refine By h () λa J A v G F=>?_
 repeat array_get_dec
 refine By v () λb I w u E b1=>?_
 repeat array_get_dec
 refine Cp (a:=.str Be0[a][1+b][k]) ?_ λH o=>?_
 .refine Afu (c:=1) ?_ (λy s=>?_) (by rw[aB,bM];exact aH (show k * 1<=1000 by omega) ())
  .let l:k<=big:=aH (show k<=1000 by omega) ()
   rw[cL];refine Gy (t:=λB=>pure t8) (xs:=cO k) (φ:=λ(k:Nat)=>W.int[(0:Int)+(k:Int)]) Lj[Ab Ai[rfl] Af][l] rfl (by rw[bM];exact l) λi hi=>(Pu.pure,?_)
   let hi:=iC.mp hi;exact Cr (Ae Af Az9) (Bx (Bx Ai[rfl] (Bx Ai[rfl] Ai[rfl] (Afq (by rw[Avq (i:=0+(i:Int)) () ()];rfl))) Pb) An (Ayu ())) Bj5[jD _ ()][lC _ ()]
  .let(k,_,rfl):=bK.mp s;exact aN 1
 .let(x,y,z,r,p,e):=u;exact q _ _ ((A.same w).then0 o) (x,y,z,r,p,o.at0 e) (by rw[Az8]) (Be1 _ _ _)
def Tp.at0(h:Tp n S)(f:Fr [] S S'):Tp n S':=by
 let(x,y,z,b,a,e):=h;exact(x,y,z,b,a,f.at0 e)
def Tp.lt(h:Tp n S):n < S.length:=by
 let(_,_,_,_,_,e):=h;exact Cm e
def Tp.mv(h:Tp n S)(f:Fr L S S')(c:n∉L):Tp n S':=by
 let(x,y,z,b,a,e):=h;exact(x,y,z,b,a,f.at e c)
def Bm6{a b c:Int}(j:0<=a)(i:a < 137)(g:0<=b)(b1:b < 20)(f:0<=c)(e:c < 4):∃z,atI [W.int 64,.int 200,.int[64+a],.int[64+b]] c=sr .int[z]/\Siz z:=by
 let h:c=0\/c=1\/c=2\/c=3:=by omega
 rcases h with rfl|rfl|rfl|rfl
 .exact(_,rfl,(),())
 .exact(_,rfl,(),())
 .exact(_,rfl,(),())
 .exact(_,rfl,(),())
def Be2(h:Tp n S)(q:∀z f,Fr [n] S f->Tp n f->Siz z->Q .int[z] f):Wm Vu[[.ref n]] S Q:=by
 refine Bt rfl Dc[?_]
 repeat array_get_dec
 refine By h () λa D s o x w=>?_
 repeat array_get_dec
 refine By o () λb C p g v b1=>?_
 repeat array_get_dec
 refine Dj (show 4<=big by decide) λr B j l y=>?_
 repeat array_get_dec
 refine By g.at0[j] () λc A i m u t=>?_
 let(z,e,k):=Bm6 x w v b1 u t;exact Jx (i.at1 l (by have:=g.lt;omega)) e (q _ _ (((s.same p).then0 j).same i) m k)
structure Ks(ks:List o8):Prop where
 ok:∀k∈ks,isKey k=t8
 ri:Wn ks
def Baa{j:Nat}(d:0 < z.length):dN[z][sr ((j+1:Nat):Int)][sr (j:Int)]=⟨#[]⟩:=by
 let e:pK (sr ((j+1:Nat):Int)) (sr (j:Int)) 1 z.length=[]:=by
  unfold pK sliceRange;let c:∀j:Nat,(if ((j:Int)) < 0 then (j:Int)+(z.length:Int) else (j:Int))=j:=λj=>dq ()
  simp only[c,show (1:Int) > 0 by decide,if_true]
  rw[dq ()]
  rfl
 unfold dN;rw[e,dq (by simp;omega)]
 rfl
def Avr{z:o8}{i j:Nat}(c:M2.Eb z=t8)(hi:i<=j+1)(b:j<=z.length)(d:0 < z.length):(dN[z][sr (i:Int)][sr (j:Int)]).length=j - i/\M2.Eb dN[z][sr (i:Int)][sr (j:Int)]=t8:=by
 by_cases h:i<=j
 .rw[Ad2 h b];exact(Acq h b,Al5 c)
 .obtain rfl:i=j+1:=by omega
  rw[Baa d];exact(by show 0=_;omega,rfl)
end
theorem As7:∀{l:lg Nat} {i j:Nat},i < j->j<=l.length->l.take i < l.take j
 |[],_,_,h,c=>by simp at c;omega
 |a::l,0,j+1,h,c=>by rw[zY,oY];exact List.nil_lt_cons _ _
 |a::l,i+1,j+1,h,c=>by
  rw[oY,oY,List.cons_lt_cons_iff];exact .inr (rfl,As7 () (by simpa using c))
def Bj6{z:o8}{i j:Nat}(h:i < j)(a:j<=z.length):Jt[cut z 0 i][cut z 0 j]=t8:=by
 unfold Jt cut;exact dm[As7 h (by rw[nQ,aW];exact a)]
theorem Ara:∀l:lg o8,(ddS l).length<=l.length
 |[]=>aN _
 |a::l=>by
  unfold ddS;have:=Ara l;split
  .rw[bL];omega
  .rw[bL,bL];omega
section
def Be3{b:lg o8}(f:S[r]?=sr .lst[b.map[W.str]])(g:b.length < 64)(q:∀n c,Fr [] S c->c[n]?=sr .lst[(M6 ddS[b]).map W.str]->S.length<=n->Q .ref[n] c):Wm K4[[.ref r]] S Q:=by
 let hd:=Ara b;let(a,i,e,z):=Dj (ws:=(M6 ddS[b]).map W.str) (by rw[aB,(Eu _).length_eq];exact aH (show (ddS b).length<=64 by omega) ()) q
 refine(a,i,?_,z);unfold K4;dsimp only;rw[f];dsimp only;rw[di (by rw[aB];exact g),Agy]
 exact e
def Be4{z:o8}{k:Nat}(d:z.length=12)(a:M2.Eb z=t8)(f:1<=k)(e:k<=12):isKey[cut z 0 k]=t8:=by
 unfold isKey;rw[Al5 a,Acq bI[_] ()]
 simp;omega
theorem Bj7{z:o8}{m:Nat}(e:z.length=12)(d:M2.Eb z=t8)(l:m<=12):Ks[(cO m).map λk=>cut z 0 (k+1)] where
 ok:=λk hk=>by
  let(i,hi,rfl):=bK.mp hk;have:=iC.mp hi;exact Be4 e d () ()
 ri:=by
  unfold Wn;rw[List.pairwise_map];refine aAn (R:=λa b=>a < b) (λ{a b} ha hb h=>?_) List.pairwise_lt_range;have:=iC.mp hb;exact Bj6 () ()
def Bab{f:De->M W}{l h:De->M o9[Int]}{lo hi:o9 Int}{z:o8}(h1:Pu P f[Y] .str[z])(h2:Pu P l[Y] lo)(h3:Pu P h[Y] hi)(hz:z.length<=big):Pu P (slF f l h Y) .str[dN z lo hi]:=Wi h1 h2 h3 (Ls hz Pu.pure)
def Bac(z:o8)(a b:Nat)(c:Nat):o8:=dN z sy (sr (a:Int)) ++ ⟨#[c]⟩ ++ dN[z][sr ((a+1:Nat):Int)][sr (b:Int)]
def As8{z:o8}{a b c:Nat}(q:z.length=12)(f:M2.Eb z=t8)(s:a < 12)(k:a<=b)(r:b<=12)(h:M2.okC c=t8):isKey[Bac z a b c]=t8/\(dN z sy (sr (a:Int))).length=a/\(dN[z][sr ((a+1:Nat):Int)][sr (b:Int)]).length<=12:=by
 let(o,n):=Avr (i:=a+1) (j:=b) f () () ()
 let g:(dN z sy (sr (a:Int))).length=a:=by rw[N5 (),Acq () ()];rfl
 let m:M2.Eb dN[z][sy][sr (a:Int)]=t8:=by rw[N5 ()];exact Al5 f
 let l:(Bac z a b c).length=a+1+(b - (a+1)):=by
  unfold Bac;rw[len_app,len_app,o,g];rfl
 refine(?_,g,())
 unfold isKey;rw[l];unfold Bac;rw[Ih,Ih,n,m,show M2.Eb ⟨_⟩=t8 from (Aq6 c).trans h];simp;omega
def Bj8{ss:lg o8}(h:∀k∈ss,isKey k=t8):Ks M6[ddS[ss]]:=(λk hk=>h k Abi.mp[(Eu _).mem_iff.mp hk],Aiq W8)
def Be5{m:Int}(h:Tp n S)(h0:0<=m)(hm:m<=9)(q:∀w r s,Fr [n] S s->Tp n s->s[r]?=sr .lst[w.map[W.str]]->S.length<=r->Ks w->w.length<=9->Q .ref[r] s):Wm Pj[[.ref n,.int m]] S Q:=by
 obtain⟨k,rfl⟩:∃k:Nat,m=k:=(m.toNat,())
 let hk:k<=big:=aH (show k<=9 by omega) ()
 refine Bt rfl Cz[?_]
 repeat array_get_dec
 refine Afv h () () λz S1 p h1 g v=>?_
 let g:z.length=12:=by omega
 let E:z.length<=big:=by rw[g];decide
 refine Ej ?_
 repeat array_get_dec
 refine By h1 () λa S2 o I a0 a1=>?_
 repeat array_get_dec
 refine K8[λu=>?_] λu=>Bu ?_
 .refine Dc (Ayz (P:=SP.any) (ws:=((cO k).map λk=>cut z 0 (k+1)).map W.str) ?_ trivial λr S3 l B U=>?_)
  .rw[cL];refine Gy (t:=λu=>pure t8) (xs:=cO k) (φ:=λ(k:Nat)=>W.int[(0:Int)+(k:Int)]) Lj[Ab Ai[rfl] Af][hk] rfl (by rw[bM];exact hk) λi hi=>(Pu.pure,?_)
   let hi:=iC.mp hi;refine Pu.cast (Bab Ai[rfl] Gf Fb[Bx Ai[rfl] An Pb] E) ?_;rw[show (0+(i:Int)+1)=((i+1:Nat):Int) by omega,N5 ()]
   rfl
  .exact q _ _ _ ((p.same o).then0 l) I.at0[l] B (by have:=p.len;have:=o.len;omega) (Bj7 g v ()) (by rw[aB,bM];omega)
 repeat array_get_dec
 refine By I () λb S3 l Z b0 b1=>?_
 repeat array_get_dec
 refine By Z () λc S4 N Y c0 c1=>?_
 repeat array_get_dec
 obtain⟨b,rfl⟩:∃k:Nat,b=k:=(b.toNat,())
 obtain⟨c,rfl⟩:∃k:Nat,c=k:=(c.toNat,())
 refine Ax Lw[?_]
 repeat array_get_dec
 refine Afv Y () () λy S5 L X F ty=>?_
 let F:y.length=94:=by omega
 let by_:y.length<=big:=by rw[F];decide
 refine Cp (a:=.str[cut y 0 k]) Pu.bind[Gf][Pu.bind Fb[Ai[rfl]] Pu.cast[Ls by_ Pu.pure][by rw[N5 ()]]] λS6 D=>?_
 let G:(cut y 0 k).length=k:=by rw[Acq () ()];rfl
 repeat array_get_dec
 let H:∀x∈(cut y 0 k).cps.toList,M2.okC x=t8:=by
  have:=Al5 (i:=0) (j:=k) ty;unfold M2.Eb at this;exact bF.mp this
 refine Ayz (P:=SP.any) (ws:=(((cut y 0 k).cps.toList.map Bac[z][b][b+c])).map W.str) ?_ trivial λr S7 C B U=>?_
 .rw[cL];refine Gy (t:=λu=>pure t8) (xs:=(cut y 0 k).cps.toList) (φ:=λc=>W.str ⟨#[c]⟩) (Ak7 (by rw[G];exact hk) Ai[rfl]) rfl (by rw[aW];show (cut y 0 k).length<=big;rw[G];exact hk) λi hi=>(Pu.pure,?_)
  let(_,O,e2):=As8 (a:=b) (b:=b+c) g v () () () (H i hi)
  refine Bx Bx[Bab Ai[rfl] Gf Fb[Ai[rfl]] E][Ai rfl][Ft ?_] (Bab Ai[rfl] Fb[Bx Ai[rfl] An Pb] Fb[Ai[rfl]] E) Ft[?_]
  .rw[O];exact aH (show b+1<=13 by omega) ()
  .rw[len_app,O];exact aH (show b+1+(dN[z][sr ((b+1:Nat):Int)][sr ((b+c:Nat):Int)]).length<=30 by omega) ()
 refine Fx[Be3 B (by rw[aB,aW];show (cut y 0 k).length < 64;omega) λr2 S8 J A T=>?_]
 refine q _ _ _ ((((((p.same o).same l).same N).same L).then0 D).then0 C.then0[J]) (((X.at0 D).at0 C).at0 J) A ?_ (Bj8 λk hk=>?_) ?_
 .have:=p.len;have:=o.len;have:=l.len;have:=N.len;have:=L.len;have:=D.len;have:=C.len;omega
 .let(i,hi,rfl):=bK.mp hk;exact(As8 g v () () () (H i hi)).1
 .rw[(Eu _).length_eq];refine aH Ara[_] ?_;rw[aB,aW];show (cut y 0 k).length<=9;omega
end
def Gw(pre:lg o8):Pg->Prop
 |.leaf rs=>Wn (rs.map (·.1))/\(∀r∈rs,r.1∈pre/\r.2.ok=t8)/\rs.length<=pre.length
 |.fork ks ps=>Wn ks/\(∀k∈ks,k∈pre)/\ks.length<=pre.length/\ps.length=ks.length+1/\∀p∈ps,Ge p 1=t8
 |_=>False
section
def Gw.ok{p:Pg}(h:Gw pre p)(hk:∀k∈pre,isKey k=t8)(c:pre.length<=63):p.ok:=by
 cases p with
 |leaf d=>exact(aH h.2.2 c,λr b=>(hk _ (h.2.1 r b).1,(h.2.1 r b).2),Ah1 h.1)
 |fork e ps=>exact((aH h.2.2.1 c,λk a=>hk _ (h.2.1 k a),Ah1 h.1),h.2.2.2)
 |_=>exact h.elim
def Gw.more{p:Pg}(h:Gw pre p):Gw (pre ++ [k]) p:=by
 let b:pre.length<=(pre ++ [k]).length:=by simp
 cases p with
 |leaf c=>exact(h.1,λr a=>(fK _ (h.2.1 r a).1,(h.2.1 r a).2),aH h.2.2 b)
 |fork d ps=>exact(h.1,λk hk=>fK _ (h.2.1 k hk),aH h.2.2.1 b,h.2.2.2)
 |_=>exact h.elim
def As9{c:lg o8}(h:Wn c)(hk:∀a∈c,Jt a k=t8):Wn[c ++ [k]]:=(
 lO.mpr (h,rW _ _,λa f b e=>by rw[aK.mp e];exact hk a f))
def Avs{p:Pg}{l:Int}(h:Tp n S)(I:Siz l)(g:Gw pre p)(hl:pre.length<=60)(hk:∀a∈pre,Jt a k=t8)(q:∀E D,Fr [n] S D->Tp n D->Gw (pre ++ [k]) E->Q E.w D):Wm Lk[[.ref n,p.w,.str k,.int l,.int 60]] S Q:=by
 let(s1,s2):=I;refine Bt rfl Ej[?_];cases p with
 |fork y ps=>
  let(C,o,B,U,T):=g;let m:∀i:Nat,i<=100->i<=big:=λi hi=>aH hi ()
  refine Cp (a:=true) Ak[Aw[Cr Ai[rfl] An Bl[rfl]][An][Fe]] λS1 x=>?_;rw[di rfl];refine Dc Ei[?_]
  repeat array_get_dec
  refine Ei ?_
  repeat array_get_dec
  refine(show 1<=big by decide,Ald (by rw[aB];exact m _ (by simp;omega)) ?_)
  repeat array_get_dec
  refine Ei ?_
  repeat array_get_dec
  refine By h.at0[x] () λa s v u a0 a1=>?_
  repeat array_get_dec
  refine(show 1<=big by decide,Ald (by rw[aB];exact m _ (by simp;omega)) ?_)
  repeat array_get_dec
  refine(show 3<=big by decide,?_)
  let e:W.tup [.str "fork",.tup[y.map W.str ++ [.str k]],.tup[ps.map W.int ++ [.int[1+a]]]]=(Pg.fork[y ++ [k]][ps ++ [1+a]]).w:=by
   show _=W.tup [.str "fork",.tup[(y ++ [k]).map W.str],.tup[(ps ++ [1+a]).map W.int]];rw[cB,cB];rfl
  rw[e];refine q _ _ (Fr.same x.of0 v) u (As9 C λa A=>hk a (o a A),λb m=>?_,by simp;exact B,by simp;exact U,λb m=>?_)
  .rcases bR.mp m with z|z
   .exact fK _ (o b z)
   .exact cC _ z
  .rcases bR.mp m with z|z
   .exact T b z
   .rw[aK.mp z];unfold Ge;rw[dm (),dm ()]
    rfl
 |leaf t=>
  let(C,o,B):=g;let go:∀(c:Cl) s,c.ok=t8->Fr [n] S s->Tp n s->Wb aB1 [sr .ref[n],sr Pg.w[.leaf[t]],sr .str[k],sr .int[l],sr .int[60],sr c.w] s Aih[Q]:=λc s L v u=>by
   refine Dc Ei[?_]
   repeat array_get_dec
   refine Ei ?_
   repeat array_get_dec
   refine Ei ?_
   repeat array_get_dec
   refine(show 2<=big by decide,?_)
   repeat array_get_dec
   refine(show 1<=big by decide,Ald (by rw[aB];exact aH (show t.length+1<=100 by omega) ()) ?_)
   repeat array_get_dec
   refine(show 2<=big by decide,?_)
   let e:W.tup [.str "leaf",.tup[t.map Xr ++ [.tup [.str k,c.w]]]]=(Pg.leaf[t ++ [wZ k c]]).w:=by
    show _=W.tup [.str "leaf",.tup[(t ++ [wZ k c]).map Xr]];rw[cB];rfl
   rw[e];refine q _ _ v u (?_,λb m=>?_,by simp;exact B)
   .rw[cB];exact As9 C λa A=>by
     let(r,J,rfl):=bK.mp A;exact hk _ (o r J).1
   .rcases bR.mp m with z|z
    .exact(fK _ (o b z).1,(o b z).2)
    .rw[aK.mp z];exact(cC _ aK.mpr[rfl],L)
  refine Cp (a:=false) Ak[Aw[Cr Ai[rfl] An Bl[rfl]][An][Fe]] λS1 x=>?_;rw[dq ()]
  refine Bu Cz[Ei[?_]]
  repeat array_get_dec
  refine By h.at0[x] () λa s v u a0 a1=>?_
  repeat array_get_dec
  refine By u () λb S3 f3 P b0 b1=>?_
  repeat array_get_dec
  refine(show 3<=big by decide,Ej ?_)
  repeat array_get_dec
  refine By P () λc S4 Z F c0 c1=>?_
  let f:=((Fr.same x.of0 v).same f3).same Z
  repeat array_get_dec
  refine K8[λG=>Cz Ei[?_]] λG=>Bu (go .out[1+a][1+b] S4 ?_ f F)
  .repeat array_get_dec
   refine By F () λd S5 Y O d0 d1=>?_
   repeat array_get_dec
   refine Afv O d0 () λz S6 X N lz H=>?_
   repeat array_get_dec
   refine(show 2<=big by decide,Bu[go .inn[z] S6 ?_ ((f.same Y).same X) N])
   show (M2.Eb z&&decide[z.length<=63])=t8;rw[H,dm ()]
   rfl
  .show (decide[1<=1+a]&&decide[1+a<=400]&&(decide[1<=1+b]&&decide[1+b<=4095]))=t8;rw[dm (),dm (),dm (),dm ()]
   rfl
 |_=>exact g.elim
end
section
def Wq{i k:Int}(b:k<=i)(a:i<=4095):Ge i k=t8:=by
 unfold Ge;rw[dm b,dm a];rfl
def Bae{p:Pg}(h:p.ok):p.body.length<=big:=by
 refine aH (m:=10000) ?_ ()
 cases p with
 |head a b c d=>rw[show (Pg.head a b c d).body.length=8 from Hw [a,b,c,d]];decide
 |leaf f=>
  have:=Asy (ys:=f.map Acl) (c:=78) (n:=63) (λy i=>by
   let(r,j,rfl):=bK.mp i;exact Aos (h.2.1 r j).1 (h.2.1 r j).2) (by rw[aB];exact h.1)
  let e:(Pg.leaf f).body.length=1+(jn f.map[Acl]).length:=(len_app _ _).trans (congrArg (·+_) (Dd 1 _));omega
 |fork g ps=>
  have:=Asy (ys:=g.map Sx) (c:=13) (n:=63) (λy i=>by
   let(k,hk,rfl):=bK.mp i;exact Acn[h.1.2.1 k hk]) (by rw[aB];exact h.1.1)
  let e:(Pg.fork g ps).body.length=1+(jn g.map[Sx]).length+2 * ps.length:=by
   show (_ ++ _ ++ Mf ps).length=_;rw[len_app,len_app,Dd,Hw]
  have:=h.1.1;have:=h.2.1;omega
 |rest t n=>
  rw[show (Pg.rest t n).body.length=2+t.length from (len_app _ _).trans (congrArg (·+_) Hw[[n]])];have:=h.2.2.1;omega
 |free n=>rw[show (Pg.free n).body.length=2 from Hw [n]];decide
def at3{x y z:W}{c:Int}(d:0<=c)(b:c < 3):∃w,atI [x,y,z] c=sr w/\(w=x\/w=y\/w=z):=by
 let h:c=0\/c=1\/c=2:=by omega
 rcases h with rfl|rfl|rfl
 .exact(_,rfl,.inl rfl)
 .exact(_,rfl,.inr .inl[rfl])
 .exact(_,rfl,.inr .inr[rfl])
def Ata{j:Int}(h:Tp n S)(hs:Siz j)(q:∀p S',Fr [n] S S'->Tp n S'->Fits j p->Q p.w S'):Wm Lz[[.ref n,.int j,.int 60]] S Q:=by
 let s1:=hs.1;let s2:=hs.2;refine Bt rfl Cz[?_]
 repeat array_get_dec
 refine By h () λa S1 Z O a0 a1=>?_
 refine Ej ?_
 repeat array_get_dec
 refine K8[λm=>Cz ?_] λm=>Bu Ej[?_]
 .refine Asm (P:=SP.any) (ws:=(cO 4).map λ(k:Nat)=>W.int[(0:Int)+(k:Int)]) (Lj (k:=4) (Ab An Af) ()) trivial λS2 t=>?_
  refine Abq (J:=λi Y F T=>(∃d,Y=[d,sr .int[60],sr .ref[n]])/\(∃is:lg Int,F=is.map W.int/\is.length=i/\∀k∈is,Ge k 0=t8)/\Fr [n] S T/\Tp n T) ?_ ?_ ((_,rfl),([],rfl,rfl,λm h=>nomatch h),Z.then0 t,O.at0 t)
  .rintro i w Y F T hw ⟨⟨d,rfl⟩,⟨is,rfl,v,hi⟩,o,s⟩;refine(_,rfl,Bp ?_);rw[di rfl]
   repeat array_get_dec
   refine By s () λb T2 U l E b1=>(?_,(_,rfl),(is ++ [b],by rw[cB];rfl,by simp;exact v,λk hk=>?_),o.same U,l)
   .have:=(aC.mp hw).1;rw[aB,bM] at this;rw[aB,v];exact bC this ()
   .rcases bR.mp hk with z|z
    .exact hi k z
    .rw[aK.mp z];exact Wq E ()
  .rintro Y F T ⟨⟨d,rfl⟩,⟨is,rfl,v,hi⟩,o,s⟩;rw[aB,bM] at v;refine(by rw[aB,v];decide,Dc Ei[?_])
   match is,v,hi with
   |[x,y,z,u],_,hi=>
    repeat array_get_dec
    refine Jx Hg (w:=.int x) rfl ?_
    repeat array_get_dec
    refine Jx Hg (w:=.int y) rfl ?_
    repeat array_get_dec
    refine Jx Hg (w:=.int z) rfl ?_
    repeat array_get_dec
    refine Jx Hg (w:=.int u) rfl ?_
    repeat array_get_dec
    let hl:(Pg.head x y z u).body.length=8:=Hw [x,y,z,u];exact(show 5<=big by decide,q (.head x y z u) _ o.then0[.app] s.at0[.app] ((hi x (by simp),hi y (by simp),hi z (by simp),hi u (by simp)),()))
 repeat array_get_dec
 refine K8[λm=>Dc Ei[?_]] λm=>Bu Ej[?_]
 .repeat array_get_dec
  refine By O () λb S2 t l E b1=>?_
  repeat array_get_dec
  let hl:(Pg.free b).body.length=2:=Hw [b];exact(show 2<=big by decide,q .free[b] _ Z.same[t] l (Wq E (),()))
 repeat array_get_dec
 refine K8[λm=>Cz ?_] λm=>Bu ?_
 .repeat array_get_dec
  refine By O () λb S2 t l E b1=>?_
  repeat array_get_dec
  refine Dj (show 3<=big by decide) λr S3 f3 A lr=>?_
  repeat array_get_dec
  refine By l.at0[f3] () λc S4 f4 h4 c0 c1=>?_
  obtain⟨L,e,hL⟩:∃L,atI [W.int[1+b],.int[j - 7],.int 1] c=sr .int[L]/\1<=L/\L<=j - 7:=by
   let(w,e,z):=at3 (x:=W.int[1+b]) (y:=.int[j - 7]) (z:=.int 1) c0 c1;rcases z with rfl|rfl|rfl
   .exact(_,e,(),())
   .exact(_,e,(),())
   .exact(_,e,(),())
  refine Jx (f4.at1 A (by have:=l.lt;omega)) e Dc[Ei[?_]]
  repeat array_get_dec
  refine Afv h4 () () λz S5 f5 h5 lz tz=>?_
  repeat array_get_dec
  refine By h5 () λd S6 f6 h6 d0 d1=>?_
  repeat array_get_dec
  let hl:(Pg.rest z d).body.length=2+z.length:=(len_app _ _).trans (congrArg (·+_) Hw[[d]]);exact(show 3<=big by decide,q (.rest z d) _ (((((Z.same t).then0 f3).same f4).same f5).same f6) h6 ((tz,(),(),Wq d0 ()),()))
 let B:∀(I:Pg)(T:Store),Gw [] I->Fits j I->Fr [n] S T->Tp n T->Wb aA2
   [sr .ref[n],sr .int[j],sr .int[60],sr .int[a],sy,sy,sr I.w,sy,sy] T Aih[Q]:=λI T g0 X o s=>by
  refine Xh ?_
  repeat array_get_dec
  refine By s () λb S2 t l E b1=>?_
  repeat array_get_dec
  refine Be5 l E () λC r S3 f3 h3 A lr hk lk=>(_,_,rfl,A,?_)
  let hrn:r≠n:=by have:=l.lt;omega
  refine Im (ws:=C.map W.str) (J:=λi Y T=>∃p x7 x8,Y=[sr .ref[n],sr .int[j],sr .int[60],sr .int[a],sy,sy,sr Pg.w[p],x7,x8]/\Gw C.take[i] p/\Fits j p/\Fr [n] S T/\Tp n T/\T[r]?=sr .lst[C.map[W.str]]) ?_ ?_ ?_ _ _ _ _ (I,_,_,rfl,g0,X,(o.same t).same f3,h3,A) bI[_] ()
  .rintro i Y T ⟨p,x7,x8,rfl,g,ft,o,s,A⟩;unfold liG;rw[A]
  .rintro i w Y T hw ⟨p,x7,x8,rfl,g,ft,o,s,A⟩;rw[aX] at hw;let(k,hk',rfl):=bA.mp hw;let(v,ek):=aC.mp hk';let tk:C.take[i+1]=C.take i ++ [k]:=by rw[<-ek];exact(dH v).symm
   let tl:(C.take i).length<=9:=by rw[bQ];omega
   refine(_,rfl,Cz ?_)
   repeat array_get_dec
   refine Avs (pre:=C.take i) s hs g () ?_ λp' T2 U l gw=>?_
   .intro x hx;have:=hk.ri;rw[<-jA i C] at this;refine(lO.mp this).2.2 x hx k ?_;rw[<-ek,eV v];exact bG
   let D:p'.ok:=gw.ok (λy hy=>hk.ok y fU[tk ▸ hy]) (by simp;omega)
   let N:=U.at1 A hrn;refine Ej ?_
   repeat array_get_dec
   refine Cp Aj4[D] λT3 H=>?_
   repeat array_get_dec
   refine Asr Bae[D] ?_
   repeat array_get_dec
   refine K8[λhb=>Cz ?_] λm=>?_
   .repeat array_get_dec
    refine(p',_,_,rfl,tk ▸ gw,(D,hb),(o.same U).then0 H,l.at0 H,H.at0 N)
   .repeat array_get_dec
    refine(p,_,_,rfl,tk ▸ g.more,ft,(o.same U).then0 H,l.at0 H,H.at0 N)
  .rintro Y T ⟨p,x7,x8,rfl,g,ft,o,s,A⟩;refine Dc ?_
   repeat array_get_dec
   exact q p T o s ft
 let hl:(Pg.leaf []).body.length=1:=rfl;refine Cz Ei[?_]
 repeat array_get_dec
 refine Ei[Fx (show 0<=big by decide,?_)]
 repeat array_get_dec
 refine(show 2<=big by decide,Ej ?_)
 repeat array_get_dec
 refine K8[λm=>Cz Ei[?_]] λm=>Bu[B .leaf[[]] _ (.nil,(λm h=>nomatch h),aN _) (((),(λm h=>nomatch h),rfl),()) Z O]
 repeat array_get_dec
 refine Ei[Fx (show 0<=big by decide,?_)]
 repeat array_get_dec
 refine Ei ?_
 repeat array_get_dec
 refine By O () λb S2 t l E b1=>?_
 repeat array_get_dec
 refine(show 1<=big by decide,?_)
 repeat array_get_dec
 let hf:(Pg.fork [] [1+b]).body.length=3:=rfl;let hn:∀p∈[1+b],Ge p 1=t8:=λp hp=>by rw[aK.mp hp];exact Wq () ()
 exact(show 3<=big by decide,Bu[B (.fork [] [1+b]) _ (.nil,(λm h=>nomatch h),aN _,rfl,hn) ((((),(λm h=>nomatch h),rfl),rfl,hn),()) Z.same[t] l])
end
abbrev Be6(sz:Int)(t r:Nat)(b:Int):lg[o8×W]:=[("size",.int sz),("page_texts",.ref t),("row_texts",.ref r),("begun",.int b),("off",.bl tu),("turns_left",.int 0),("signs_done",.int 0)]
def Wr(sz:Int)(t r:Nat)(b:Int):Cell:=.ins 8 (Be6 sz t r b)
def txs(sz:Int)(ps:lg Pg):lg W:=ps.map λp=>.str p.text[sz]
structure Dk(sz:Int)(ps:List Pg)(b:Int)(d t r:Nat)(S:Store):Prop where
 at_:S[d]?=sr (Wr sz t r b)
 tx:S[t]?=sr (.lst (txs sz ps))
 ro:S[r]?=sr (.lst [])
 dt:d≠t
 dr:d≠r
 tr:t≠r
section
def Dk.mv{sz b:Int}{ps:lg Pg}{d t r:Nat}(h:Dk sz ps b d t r S)(f:Fr L S S')(hd:d∉L)(ht:t∉L)(hr:r∉L):Dk sz ps b d t r S':=(f.at h.at_ hd,f.at h.tx ht,f.at h.ro hr,h.dt,h.dr,h.tr)
def Bgl{c:Nat}{g:lg W->M W}{d:lg W}(h:∀b,Fr [] S b->b[S.length]?=sr[.ins c []]->Wm (g (.ref S.length::d)) b λv f=>v=.non/\Q .ref[S.length] f):Wm (Ko c g d) S Q:=(
 Ax (.ref S.length,_,rfl,Ax (Ba[h _ .app Hg] λ_ _ ⟨e,q⟩=>by subst e;exact Bp q)))
def Atb{sz:Int}(n:Siz sz)(q:∀d t r j,Fr [] S j->Dk sz [] 0 d t r j->S.length<=d->d < t->t < r->r < j.length->Q .ref[d] j):Wm (Ko 8 Iw [.int sz]) S Q:=by
 refine Bgl λS1 I G=>Bt rfl Jg[Cp Dt[Ak[Ae[Ab Ai[rfl] Af][Al4 sz]]] λS2 w=>(by rw[dm n.1,dm n.2];rfl,?_)]
 generalize hd:S.length=d at *
 let F:=w.at0 G
 repeat array_get_dec
 refine Fv F (by rfl') rfl λS3 H s=>?_
 repeat array_get_dec
 refine Dj bI[_] λt S4 v m lt=>?_
 repeat array_get_dec
 refine Fv v.at0[s] (by rfl') rfl λS5 l p=>?_
 repeat array_get_dec
 refine Dj bI[_] λr S6 h o U=>?_
 repeat array_get_dec
 refine Fv h.at0[p] (by rfl') rfl λS7 g E=>?_
 repeat array_get_dec
 refine Fv E (by rfl') rfl λZ f D=>?_
 repeat array_get_dec
 refine Fv D (by rfl') rfl λY e C=>?_
 repeat array_get_dec
 refine Fv C (by rfl') rfl λX c B=>?_
 repeat array_get_dec
 refine Fv B (by rfl') rfl λx b A=>?_
 repeat array_get_dec
 let T:=Cm s;let P:=Cm m;let O:=Cm h.at0[p];let k:=l.at1 m ()
 let y:=l.len;let u:Fr [d] S x:=((((((((Fr.same (L:=[d]) (I.then0 w).of0 H).then0 v).same l).then0 h).same g).same f).same e).same c).same b;refine(rfl,q d t r x (u.len,λi hi N=>u.get i hi λz=>by rw[aK.mp z] at hi;omega) (A,?_,?_,(),(),by have:=Cm k;omega) () () (by have:=Cm k;omega) (by have:=Cm o;have:=g.len;have:=f.len;have:=e.len;have:=c.len;have:=b.len;omega))
 .exact b.at1 (c.at1 (e.at1 (f.at1 (g.at1 h.at0[k] ()) ()) ()) ()) ()
 .exact b.at1 (c.at1 (e.at1 (f.at1 (g.at1 o ()) ()) ()) ()) ()
end
local macro_rules|`(tactic| array_get_dec)=>`(tactic| first|with_reducible refine Tr ?_|((with_reducible apply Hf);exact rfl)|with_reducible refine Bge ?_|with_reducible refine Ag0 ?_|with_reducible refine Ag1 ?_|with_reducible refine Di ?_|with_reducible refine Fx ?_|with_reducible refine Ay2 ?_|with_reducible refine Anp ?_|with_reducible refine Ass ?_|with_reducible refine Aal ?_|with_reducible refine Aso ?_|with_reducible refine Lw ?_|with_reducible refine Bmr ?_|with_reducible refine Bdx ?_|with_reducible refine pi_ ?_|with_reducible refine Bjq ?_|with_reducible refine Bd0 ?_|with_reducible refine Cz ?_|with_reducible refine Ej ?_|with_reducible refine Qu ?_|with_reducible refine Asv ?_|with_reducible refine Bjp ?_|with_reducible refine Bgh ?_|with_reducible refine Bgi ?_|with_reducible refine Dc ?_|with_reducible refine Alb ?_|with_reducible refine Xg ?_|with_reducible refine Aqh ?_|with_reducible refine Bu ?_|with_reducible refine Rm ?_|((with_reducible apply Asn);array_mem_dec;exact rfl;exact rfl)|((with_reducible apply Adh);array_mem_dec;exact rfl;exact rfl)|((with_reducible apply Bjr);array_mem_dec;exact rfl)|((with_reducible apply Bdy);array_mem_dec;exact rfl)|((with_reducible refine Bd1 ?_))|((with_reducible refine Bd2 ?_))|((with_reducible apply Ly);array_mem_dec;exact rfl;exact rfl)|((with_reducible refine Ay3 ?_ ?_);exact rfl)|with_reducible refine tb ?_|with_reducible refine Asq (by first|assumption|omega) ?_|with_reducible refine Anq () () ?_|with_reducible refine Alc () ?_|((with_reducible apply Afr);array_mem_dec)|((with_reducible apply Ast);array_mem_dec)|with_reducible refine Ay6 ?_|with_reducible refine Ay7 ?_|with_reducible refine Ay8 ?_|with_reducible refine Ay9 ?_|with_reducible refine Aza ?_|with_reducible refine Azb ?_|((with_reducible apply Bgf);exact rfl)|((with_reducible apply Bgg);exact rfl)|((with_reducible apply Ay5);exact rfl)|((with_reducible apply Asp);exact rfl))
section
def Be7{sz b a:Int}{t r:Nat}:Km "begun" .int[a] (Be6 sz t r b)=Be6 sz t r a:=by rfl'
def Baf{sz b:Int}{d t r:Nat}{z:o8}(h:S[d]?=sr[Wr sz t r b])(e:z.length<=big)(q:∀c,Fr [d] S c->c[d]?=sr[Wr sz t r (b+1)]->Q .int[z.length] c):Wm Ng[[.ref d,.str z]] S Q:=by
 unfold Wr at h;refine Bt rfl Ej[?_]
 repeat array_get_dec
 refine Fv h (by rfl') Be7 λj g f=>?_
 repeat array_get_dec
 refine K8[λh=>absurd h ()] λm=>?_
 repeat array_get_dec
 exact Asr e (q j g f)
def Bj9{sz b:Int}{d t r:Nat}(h:S[d]?=sr[Wr sz t r b])(q:Q .non S):Wm Q4[[.ref d]] S Q:=by
 unfold Wr at h;refine Bt rfl Ej[?_]
 repeat array_get_dec
 exact q
def Bag{f:De->M W}(h:Pu P f[Y] w):PuN P Hy[f] Y Y:=(λS a=>by
 let(G,e):=h S a;exact(G,by unfold Hy Ju;rw[e]))
def Be8{p:Pg}{sz:Int}(h:Fits sz p)(a:Siz sz):Pu P Nm[[.str p.text[sz],.int sz]] .bl[t8]:=by
 let c:=Ad4 h a;have:=a.1;have:=a.2;refine Bo rfl (Cu Ah4[Aut Bag[Ae[Ab Ai[rfl] Af][Ad3 h a]] Ay] Bh[Bb[Pu.cast[Aw Ae[Ab Ai[rfl] Af][len_str (by rw[c];exact aH (show sz.toNat<=200 by omega) ())] Ai[rfl] Rk][?_]]])
 rw[c,show ((sz.toNat:Nat):Int)=sz by omega,beq_self_eq_true]
def wr(ps:lg Pg)(k:Nat)(p:Pg):lg Pg:=ps.take k ++ p::ps.drop[k+1]
def Avt{z:o8}{j:Int}(h:(z.length:Int)=j):dN z sy sr[j]=z:=by
 subst h;rw[N5 aN[_]];unfold cut;rw[wL,nQ,lB (by rw[aW];exact aN _)]
def Avu{z:o8}{j:Int}(h:(z.length:Int)=j):dN z sr[j] sy=⟨#[]⟩:=by
 subst h;rw[eq_of_beq (xF (b:=z.length) (by simp) xX[_] rfl)]
 simp
def Be9(x:o8):x ++ (⟨#[]⟩:o8)=x:=rfl
def Bfa(n:Int):(yP " " n).length=n.toNat:=by
 show (yP ⟨#[32]⟩ n).cps.size=_;rw[<-aW,mul_one_list,dC]
def Bka{sz:Int}{ps:lg Pg}{p:Pg}{k:Nat}(h:k < ps.length):(txs sz ps).set k .str[p.text[sz]]=txs sz (wr ps k p):=by
 unfold txs wr;rw[List.set_eq_take_append_cons_drop,di (by rw[aB];exact h),cB,oK,bT,rF]
def Bfb{sz:Int}{ps:lg Pg}{p:Pg}{w:W}:(txs sz ps ++ [w]).set ps.length .str[p.text[sz]]=txs sz (wr ps ps.length p):=by
 unfold txs wr;rw[fX,dX gU[_],cB,List.set_append_right _ _ (by rw[aB];exact aN _),aB,fZ]
 rfl
def Amc{c:Type}{a:lg c}{k:Nat}(h:k < a.length):atI a (k:Int)=a[k]?:=by
 unfold atI ixN;rw[di (),di ()]
 rfl
def Aow{sz b:Int}{ps:lg Pg}{d t r k:Nat}{p:Pg}(h:Dk sz ps b d t r S)(o:Siz sz)(s:Fits sz p)(hk:k<=ps.length)(Z:ps.length<=1000)(hp:∀p∈ps,Fits sz p)(q:∀G,Fr [d,t] S G->Dk sz (wr ps k p) (b+1) d t r G->Q .non G):Wm Ab3[[.ref d,.int (k:Int),.str p.text[sz]]] S Q:=by
 let s1:=o.1;let s2:=o.2;let lt:=Ad4 s o;let A:(p.text sz).length<=big:=by rw[lt];exact aH (show sz.toNat<=200 by omega) ()
 let L:=h.at_;let h2:=h.tx;unfold Wr at L;refine Bt rfl Cz[?_]
 repeat array_get_dec
 let I:(txs sz ps).length=ps.length:=aB _;refine Cp (a:=false) (Pu.cast Jw[Dt Ak[Ae[Ab Ai[rfl] Af][G3 _]]][Jw Ak[Aw Ai[rfl] An Agx] Ak[Aw Ai[rfl] Ai[rfl] Xy]] (by rw[dw (),dw ()];rfl)) λS1 E=>?_
 repeat array_get_dec
 refine Cp[Be8 s o] λS2 D=>?_
 repeat array_get_dec
 refine Qu Bu[?_]
 repeat array_get_dec
 refine Baf D.at0[E.at0[L]] A λX O C=>?_;unfold Wr at C;let g:=O.at1 D.at0[E.at0[h2]] h.dt.symm;let go:∀(x:lg W)(y:o8)(l:Store),Fr [d,t] S l->l[d]?=sr .ins[8][Be6 sz t r (b+1)]->l[t]?=sr .lst[x]->x[k]?=sr .str[y]->y.length=sz.toNat->x.set k .str[p.text[sz]]=txs sz (wr ps k p)->Wb (Ad aA5
   (Ad Hy[Bd (λc n=>Al.lookup[u6 c n]) "end_write" Aa[0] nilF] Aj)) [sr .ref[d],sr[.int (k:Int)],sr .str[p.text[sz]],sr .int[(txs sz ps).length],sr .int[(p.text sz).length]] l Aih[Q]:=λx y l z a4 P B H Y=>by
  repeat array_get_dec
  refine Azc A ?_
  repeat array_get_dec
  refine Jx P (by rw[Amc (aC.mp B).1];exact B) ?_
  repeat array_get_dec
  refine Azc (by rw[H];exact aH (show sz.toNat<=200 by omega) ()) ?_
  rw[Avt rfl,Avu[by rw[H,lt]]]
  refine Bdv (by rw[show (⟨#[]⟩:o8).length=0 from rfl];exact A) ?_
  repeat array_get_dec
  refine Bdt P () (by have:=(aC.mp B).1;omega) λU N J=>?_
  rw[dW,Be9,Y] at J;let T:=N.at1 a4 h.dt
  repeat array_get_dec
  refine Bj9 T ?_
  repeat array_get_dec
  let u:Fr [d,t] S U:=z.same (N.mono λi hi=>by rw[aK.mp hi];simp)
  exact q U u (T,J,u.at h.ro (by have:=h.dr;have:=h.tr;simp;omega),h.dt,h.dr,h.tr)
 let v:Fr [d,t] S X:=Fr.same (E.then0 D).of0 (O.mono λi hi=>by rw[aK.mp hi];simp)
 repeat array_get_dec
 refine K8 (c:=(k:Int)=(txs sz ps).length) (λe=>?_) λe=>?_
 .repeat array_get_dec
  refine(_,_,rfl,g,?_)
  repeat array_get_dec
  refine Bdz (by rw[dm (by omega:-1048576<=sz),dm (by omega:sz<=1048576)];rfl) ?_
  repeat array_get_dec
  refine Bdu g (by rw[I];exact eZ Z ()) λl z h4=>Bu ?_
  obtain rfl:k=ps.length:=by omega
  exact go _ _ l (v.same (z.mono λi hi=>by rw[aK.mp hi];simp)) (z.at1 C h.dt) h4 (by rw[<-I,aZ aN[_],fZ];rfl) Bfa[_] Bfb
 .let j:k < ps.length:=by omega
  refine Bu[go _ ((getElem[ps][k][by get_elem_tactic]).text sz) X v C g ?_ ?_ Bka[j]]
  .unfold txs;rw[aX,aM j];rfl
  .exact Ad4 (hp _ fY[j]) o
end
section
variable{α:Type}{φ:α->W}{l:lg (Int×α)}{k:Int}{v:α}
def mpW(φ:α->W)(l:lg[Int×α]):lg[Key×W]:=l.map λx=>(u6 .inl[x.1] φ[x.2])
def get(l:lg[Int×α])(k:Int):o9 α:=(l.find? λx=>decide[x.1=k]).map (·.2)
def drop(l:lg[Int×α])(k:Int):lg[Int×α]:=l.filter λx=>decide[x.1≠k]
def put(l:lg[Int×α])(k:Int)(v:α):lg[Int×α]:=if l.any[λx=>decide[x.1=k]] then l.map[λx=>if x.1=k then (u6 x.1 v) else x] else l ++ [wZ k v]
def keys(l:lg[Int×α]):lg Int:=l.map (·.1)
def Amd{i k:Int}:((.inl i:Key)=.inl k)=(i=k):=(propext (λh=>by cases h;rfl,λh=>by rw[h]))
def Jj:Abe[mpW φ l][.inl k]=(get l k).map φ:=by
 unfold Abe get mpW;rw[List.find?_map,uF,uF];simp only[jO,Amd]
def Afw:Ajc[mpW φ l][.inl k]=mpW φ (drop l k):=by
 unfold Ajc drop mpW;rw[yO];simp only[jO,ne_eq,Amd]
def Arb:Jl[mpW φ l][.inl k][φ v]=mpW φ (put l k v):=by
 unfold Jl put mpW;rw[List.any_map];simp only[jO,Amd];split
 .rw[cL,cL];refine mH λx b=>?_;simp only[jO,Amd];split <;> rfl
 .rw[cB];rfl
def Afx:(mpW φ l).map (λp=>kW p.1)=(keys l).map W.int:=by
 unfold mpW keys;rw[cL,cL];rfl
def Ws:(mpW φ l).length=l.length:=aB _
def Mg(h:k∈keys l):∃v,get l k=sr v:=by
 let(x,b,rfl):=bK.mp h;unfold get;cases e:l.find? λy=>decide[y.1=x.1] with
 |none=>exact absurd (List.find?_eq_none.mp e x b) (by simp)
 |some y=>exact(_,rfl)
def Gu(h:get l k=sr v):(u6 k v)∈l:=by
 unfold get at h;let(x,a,rfl):=bA.mp h;let e:=yM a;let m:=qK a;rw[<-dg e];exact m
def Kc(h:(u6 k v)∈l):k∈keys l:=bK.mpr (_,h,rfl)
def Hm:get l k=sy ↔ k∉keys l:=by
 constructor
 .intro h hk;let(v,e):=Mg hk;rw[h] at e;cases e
 .intro h;cases e:get l k with
  |none=>rfl
  |some v=>exact absurd Kc[Gu[e]] h
def Ah7:(get l k).isSome=decide[k∈keys l]:=by
 cases e:get l k with
 |none=>rw[dw Hm.mp[e]];rfl
 |some v=>rw[dm Kc[Gu[e]]];rfl
theorem Bm7:∀{l:lg[Int×α]} {k:Int} {v w:α},(keys l).Nodup->(u6 k v)∈l->(u6 k w)∈l->v=w
 |x::l,k,v,w,nd,h,m=>by
  let a:=fV.mp nd;rcases aV.mp h with rfl|h'
  .rcases aV.mp m with h2|h2
   .cases h2;rfl
   .exact absurd Kc[h2] a.1
  .rcases aV.mp m with rfl|h2
   .exact absurd Kc[h'] a.1
   .exact Bm7 a.2 h' h2
def Bah(nd:(keys l).Nodup)(h:(u6 k v)∈l):get l k=sr v:=by
 let(w,e):=Mg Kc[h];rw[e,Bm7 nd Gu[e] h]
def Wt{x:Int×α}:x∈drop l k ↔ x∈l/\x.1≠k:=by
 unfold drop;rw[cP,decide_eq_true_iff]
def G4:keys[drop l k]=(keys l).filter λi=>decide[i≠k]:=by
 unfold keys drop;rw[yO];rfl
def Acu(nd:(keys l).Nodup):(keys[drop l k]).Nodup:=by
 rw[G4];exact nd.filter _
def Aab(l:lg[Int×α])(ks:lg Int):lg[Int×α]:=ks.foldl drop l
theorem Xk:∀{f:lg Int} {l:lg[Int×α]} {x:Int×α},x∈Aab l f ↔ x∈l/\x.1∉f
 |[],l,x=>by simp[Aab]
 |k::f,l,x=>by
  show x∈Aab (drop l k) f ↔ _;rw[Xk,Wt,aV];constructor
  .rintro⟨⟨a,b⟩,c⟩;exact(a,λz=>z.elim b c)
  .rintro⟨a,b⟩;exact((a,λz=>b .inl[z]),λz=>b .inr[z])
theorem Aox:∀{ks:lg Int} {l:lg[Int×α]},(keys l).Nodup->(keys[Aab l ks]).Nodup
 |[],_,h=>h
 |_::ks,_,h=>Aox (ks:=ks) Acu[h]
def Bai(nd:(keys l).Nodup)(h:k∈keys l):(drop l k).length+1=l.length:=by
 induction l with
 |nil=>cases h
 |cons x l b=>
  let a:=fV.mp nd;unfold drop;rw[gG];by_cases e:x.1=k
  .subst e;rw[dq[by simp]]
   have:l.filter[λy=>decide[y.1≠x.1]]=l:=gQ.mpr λy c=>dm λz=>a.1 (show x.1∈keys l by rw[<-z];exact Kc c)
   rw[this,bL]
  .rw[di[by simpa using e],bL,bL]
   let d:k∈keys l:=by
    rcases aV.mp h with z|z
    .exact absurd z.symm e
    .exact z
   have:=b a.2 d;unfold drop at this;omega
theorem Aj5:∀{ks:lg Int} {l:lg[Int×α]},(keys l).Nodup->ks.Nodup->(∀k∈ks,k∈keys l)->(Aab l ks).length+ks.length=l.length
 |[],_,_,_,_=>rfl
 |k::ks,l,nd,nk,h=>by
  let a:=fV.mp nk;have:=Aj5 (ks:=ks) (l:=drop l k) Acu[nd] a.2 λi hi=>by
   rw[G4,cP];exact(h i (bD _ hi),dm λz=>a.1[z ▸ hi])
  have:=Bai nd (h k bG);rw[bL];show (Aab (drop l k) ks).length+_=_;omega
end
abbrev shF(d:Nat)(m:Int)(a u:Nat)(r:Int):lg[o8×W]:=[("disk",.ref d),("most",.int m),("at_hand",.ref a),("unwritten",.ref u),("read_so_far",.int r)]
structure Sh(m:Int)(hand new:List (Int×Pg))(d s a u:Nat)(S:Store):Prop where
 at_:∃r,S[s]?=sr (.ins 7 (shF d m a u r))
 hd:S[a]?=sr (.dct (mpW Pg.w hand))
 un:S[u]?=sr (.dct (mpW (λuu=>.bl t8) new))
 sa:s≠a
 su:s≠u
 au:a≠u
section
def Sh.mv{m:Int}{b new:lg[Int×Pg]}{d s a u:Nat}(h:Sh m b new d s a u S)(f:Fr L S S')(g:s∉L)(i:a∉L)(hu:u∉L):Sh m b new d s a u S':=by
 let((r,p),o,n,l,k,j):=h;exact((r,f.at p g),f.at o i,f.at n hu,l,k,j)
def unch(new hand:lg[Int×Pg]):lg Int:=(keys hand).filter λk=>decide[k∉keys new]
def room(m:Int)(new hand:lg[Int×Pg]):lg[Int×Pg]:=Aab hand ((unch new hand).take ((hand.length:Int) - m).toNat)
def Aa5{a:lg W}{j:Int}(h:0<=j):Ac7 a sy sr[j]=a.take j.toNat:=by
 show ((a.drop 0).take ((if j < 0 then _ else min j.toNat a.length) - 0))=_
 rw[dq (),nQ,wL]
 rcases aBm j.toNat a.length with h|h
 .rw[oU h]
 .rw[xT h,fX,lB h]
def Atc{m:Int}{b new:lg[Int×Pg]}{d s a u:Nat}(h:Sh m b new d s a u S)(nd:(keys b).Nodup)(hl:b.length<=1000)(h0:0<=m)(q:∀U,Fr [a] S U->U[a]?=sr .dct[mpW[Pg.w][room m new b]]->Q .non U):Wm Py[[.ref s]] S Q:=by
 let((r,h1),p,h3,sa,su,au):=h;let bl:b.length<=big:=aH hl ()
 refine Bt rfl Cz[Aze[?_]]
 repeat array_get_dec
 refine(_,_,(unch new b).map W.int,rfl,p,?_,?_,λr2 S1 C L lr=>?_)
 .rw[Afx];refine Abq (J:=λi Y l T=>(∃x,Y=[x,sr .ref[s]])/\l=(((keys b).take i).filter λk=>decide[k∉keys new]).map W.int/\T=S.set a .dead) ?_ ?_ ((_,rfl),rfl,rfl)
  .rintro i w Y l T o ⟨⟨x,rfl⟩,rfl,rfl⟩;rw[aX] at o;let(k,hk,rfl):=bA.mp o;let(B,D):=aC.mp hk;let A:(keys b).take (i+1)=(keys b).take i ++ [k]:=by rw[<-D];exact(dH B).symm
   let g1:(S.set a .dead)[s]?=sr .ins[7][shF d m a u r]:=Fr.set.at1 h1 sa;let g3:(S.set a .dead)[u]?=sr .dct[mpW[λuu=>.bl t8][new]]:=Fr.set.at1 h3 au.symm;refine(_,rfl,?_)
   repeat array_get_dec
   rw[Jj,eQ,Ah7,A,vR];by_cases n:k∈keys new
   .rw[dm n,dq ()]
    exact((_,rfl),by simp[n],rfl)
   .rw[dw n,di ()]
    repeat array_get_dec
    refine(?_,(_,rfl),by simp[n],rfl)
    rw[aB];have:=dF[λk=>decide[k∉keys new]][(keys b).take i];rw[bQ] at this;let lk:(keys b).length=b.length:=aB _;exact bC (show _ < 1001 by omega) ()
  .rintro Y l T ⟨⟨x,rfl⟩,rfl,rfl⟩;rw[aB,fX];exact(rfl,rfl)
 .have:=dF[λk=>decide[k∉keys new]][keys b];let lk:(keys b).length=b.length:=aB _;rw[aB];unfold unch;omega
 .repeat array_get_dec
  generalize hj:(if 0 > ((mpW Pg.w b).length:Int) - m then 0 else ((mpW Pg.w b).length:Int) - m)=j
  let I:0<=j:=by rw[<-hj];split <;> omega
  let ej:j.toNat=((b.length:Int) - m).toNat:=by rw[<-hj,Ws];split <;> omega
  let l1:((unch new b).map W.int).length<=big:=by
   have:=dF[λk=>decide[k∉keys new]][keys b];let lk:(keys b).length=b.length:=aB _;rw[aB];unfold unch;omega
  refine Xh ?_
  repeat array_get_dec
  refine Alf L (by rw[Aa5 I,bQ];omega) λr3 S2 P g lr2=>(_,_,rfl,g,?_)
  rw[Aa5 I,<-oK,ej];rw[Aa5 I,<-oK,ej] at g;let a2:=P.at0 C.at0[p];let s2:=P.at0 C.at0[h1];let ra:r3≠a:=by have:=Cm p;have:=C.len;omega
  let sub:∀k∈(unch new b).take ((b.length:Int) - m).toNat,k∈keys b:=λk hk=>(cP.mp fU[hk]).1;let H:((unch new b).take ((b.length:Int) - m).toNat).Nodup:=(nF _ _).nodup nd.filter[_];unfold room at q;generalize (unch new b).take ((b.length:Int) - m).toNat=f at *
  refine Im (ws:=f.map W.int) (J:=λi Y T=>(∃G F E,Y=[sr .ref[s],G,F,E])/\Fr [a] S T/\T[s]?=sr .ins[7][shF d m a u r]/\T[a]?=sr .dct[mpW[Pg.w][Aab b f.take[i]]]/\T[r3]?=sr .lst[f.map[W.int]]) ?_ ?_ ?_ _ _ _ _ ((_,_,_,rfl),(C.then0 P).of0,s2,a2,g) bI[_] ()
  .rintro i Y T ⟨_,_,_,_,L⟩;unfold liG;rw[L]
  .rintro i w Y T o ⟨⟨G,F,E,rfl⟩,O,X,t,Z⟩;rw[aX] at o;let(k,hk,rfl):=bA.mp o;let(B,D):=aC.mp hk;let A:f.take[i+1]=f.take i ++ [k]:=by rw[<-D];exact(dH B).symm
   let kin:k∈keys[Aab b f.take[i]]:=by
    let(x,n,ex):=bK.mp sub[k][D ▸ fY B];refine bK.mpr (x,Xk.mpr (n,λz=>?_),ex);rw[ex] at z;have:=H;rw[<-jA (i+1) f,A] at this;have:=(gB.mp (gB.mp this).1).2.2 k z k aK.mpr[rfl];exact this rfl
   let(v,ev):=Mg kin;refine(_,rfl,?_)
   repeat array_get_dec
   refine(_,_,rfl,t,?_)
   repeat array_get_dec
   refine Afs t rfl (w:=Pg.w v) (by rw[Jj,ev];rfl) λT2 N p=>?_
   repeat array_get_dec
   refine((_,_,_,rfl),O.same N,N.at1 X sa,?_,N.at1 Z ra);rw[p,Afw,A];unfold Aab;rw[List.foldl_append];rfl
  .rintro Y T ⟨⟨G,F,E,rfl⟩,O,X,t,Z⟩;rw[aB,fX] at t;exact Rm[q T O t]
end
section
variable{m:Int}{hand new:lg (Int×Pg)}{d s a u t r:Nat}{sz b:Int}{ps:lg Pg}{k:Int}{p:Pg}
def hold(m:Int)(new hand:lg[Int×Pg])(k:Int)(p:Pg):lg[Int×Pg]:=room m new (drop hand k ++ [wZ k p])
def Bfc{c:Type}{l:lg[Int×c]}{v:c}(h:k∉keys l):put l k v=l ++ [wZ k v]:=by
 unfold put;rw[dq];intro z;let(x,g,e):=lY.mp z;exact h[bK.mpr (x,g,dg e)]
def Acv{e:Type}{l:lg[Int×e]}:k∉keys[drop l k]:=by
 rw[G4];intro z;exact dg (cP.mp z).2 rfl
def Bfd{α:Type}{l:lg[Int×α]}(h:k∉keys l):drop l k=l:=gQ.mpr λx hx=>dm λz=>h[z ▸ bK.mpr (x,hx,rfl)]
def Atd(nd:(keys hand).Nodup):(keys[drop hand k ++ [wZ k p]]).Nodup:=by
 unfold keys;rw[cB,gB];exact(Acu nd,fV.mpr ((λz=>nomatch z),lM),λx f y c e=>by
  obtain rfl:y=k:=aK.mp c;subst e;exact Acv f)
def Ate(h:Sh m hand new d s a u S)(nd:(keys hand).Nodup)(I:hand.length<=900)(E:0<=m)(q:∀x,Fr [a] S x->Sh m (hold m new hand k p) new d s a u x->Q .non x):Wm Ab5[[.ref s,.int k,p.w]] S Q:=by
 let((r,D),i,C,sa,su,au):=h;let H:(drop hand k).length<=hand.length:=dF _ _;let go:∀f,Fr [a] S f->f[a]?=sr .dct[mpW[Pg.w][drop hand k]]->Wb Ad[Ij[Dy fld "at_hand" Aa[0]][Aa 1][Aa 2]][Ad Hy[Bd (λc n=>Gb.lookup[u6 c n]) "make_room" Aa[0] nilF] Aj] [sr .ref[s],sr .int[k],sr p.w] f Aih[Q]:=λf g o=>by
  let B:=g.at1 D sa
  repeat array_get_dec
  refine Jy o rfl (by rw[Ws];exact eZ (show _<=900 by omega) ()) λJ l A=>?_
  rw[Arb,Bfc Acv] at A;let z:=l.at1 B sa;let y:=l.at1 (g.at1 C au.symm) au.symm
  repeat array_get_dec
  refine Atc ((r,z),A,y,sa,su,au) Atd[nd] (by rw[bH,cX];omega) E λG j F=>?_
  repeat array_get_dec
  exact q G ((g.same l).same j) ((r,j.at1 z sa),F,j.at1 y au.symm,sa,su,au)
 refine Bt rfl Ej[?_]
 repeat array_get_dec
 rw[Jj,eQ,Ah7];refine K8[λhk=>?_] λhk=>Bu[go S .refl (by rw[Bfd hk];exact i)]
 let(v,ev):=Mg hk
 repeat array_get_dec
 refine(_,_,rfl,i,?_)
 repeat array_get_dec
 refine Afs i rfl (w:=Pg.w v) (by rw[Jj,ev];rfl) λf g o=>Bu go[f][g][by rw[o,Afw]]
def Aoy(h:Dk sz ps b d t r S)(f:ps.length<=1000)(q:∀n e,Fr [] S e->e[n]?=sr .lst[txs sz ps]->S.length<=n->Q .ref[n] e):Wm Ab8[[.ref d]] S Q:=by
 let g:=h.at_;unfold Wr at g;refine Bt rfl Dc[?_]
 repeat array_get_dec
 exact Asu h.tx (by unfold txs;rw[aB];exact aH f ()) q
def Bkb{r c:Int}:Km "read_so_far" .int[c] (shF d m a u r)=shF d m a u c:=by rfl'
def Bfe(h:Sh m hand new d s a u S)(D:Dk sz ps b d t r S)(A:Siz sz)(C:ps.length<=1000){k:Nat}(hk:ps[k]?=sr p)(e:Fits sz p)(q:∀g,Fr [s] S g->Sh m hand new d s a u g->Q p.w g):Wm Aca[[.ref s,.int (k:Int)]] S Q:=by
 let((r,G),F,E,sa,su,au):=h;let I:=D.at_;unfold Wr at I;let O:=(aC.mp hk).1;let N:(txs sz ps).length=ps.length:=aB _;refine Bt rfl Cz[?_]
 repeat array_get_dec
 refine Aoy D C λn T l B ln=>?_;refine Jg ?_;refine Rn ?_
 repeat array_get_dec
 refine(dw (),?_)
 repeat array_get_dec
 refine(dw (),?_)
 let y:=l.at0 G;refine Bjo Cz[?_] λi i i z=>z
 repeat array_get_dec
 refine Jx B (w:=.str p.text[sz]) (by rw[Amc ()];unfold txs;rw[aX,hk];rfl) ?_
 repeat array_get_dec
 refine Cp[Ad3 e A] λP j=>?_;let x:=j.at0 y
 repeat array_get_dec
 refine Fv x (by rfl') Bkb λo H v=>?_
 repeat array_get_dec
 let f:Fr [s] S o:=(l.then0 j).of0.same H;exact q o f ((_,v),f.at1 F sa.symm,f.at1 E su.symm,sa,su,au)
end
section
variable{m:Int}{hand new:lg (Int×Pg)}{d s a u t r:Nat}{sz b:Int}{ps:lg Pg}{k:Int}{p:Pg}
def fr2{x y:Nat}(f:Fr [x] S S'):Fr [x,y] S S':=(f.mono λi hi=>by rw[aK.mp hi];simp)
def Bm8{x y:Nat}(f:Fr [y] S S'):Fr [x,y] S S':=(f.mono λi hi=>by rw[aK.mp hi];simp)
def Acw{i x y:Nat}(e:i≠x)(c:i≠y):i∉[x,y]:=by simp;exact(e,c)
def Aoz(h:Sh m hand new d s a u S)(D:Dk sz ps b d t r S)(B:Siz sz)(nd:(keys hand).Nodup)(C:hand.length<=900)(H:0<=m)(pl:ps.length<=1000)(due:get hand k=sr p\/(get hand k=sy/\∃i:Nat,k=i/\ps[i]?=sr p/\Fits sz p))(q:∀A,Fr [s,a] S A->Sh m (hold m new hand k p) new d s a u A->Q p.w A):Wm Hv[[.ref s,.int k]] S Q:=by
 let E:=h;let((r,G),F,O,sa,su,au):=h;let go:∀j,Fr [s] S j->Sh m hand new d s a u j->Wb (Ad Hy[Bd[λc n=>J7.lookup[u6 c n]]["hold"][Aa 0][yB Aa[1] Aa[2]]] rQ[Aa[2]]) [sr .ref[s],sr .int[k],sr p.w] j Aih[Q]:=λj g l=>by
  let(N,z):=l.at_
  repeat array_get_dec
  refine Ate l nd C H λy x o=>?_
  repeat array_get_dec
  exact q y ((fr2 g).same Bm8[x]) o
 refine Bt rfl Jg[Cp Dt[Ak[Ae[Ab Ai[rfl] Af][G3 _]]] λj g=>(rfl,?_)];let l:=E.mv[g][λz=>nomatch z][λz=>nomatch z][λz=>nomatch z];let I:=g.at0 F;let L:=g.at0 G
 repeat array_get_dec
 rw[Jj,eQ];rcases due with e|⟨e,i,rfl,hi,v⟩
 .rw[e];refine Bgi ?_
  repeat array_get_dec
  refine Adh I rfl (w:=p.w) (by rw[Jj,e];rfl) (go j g.of0 l)
 .rw[e];refine Bgh ?_
  repeat array_get_dec
  exact Bfe l D.mv[g][λz=>nomatch z][λz=>nomatch z][λz=>nomatch z] B pl hi v λy x o=>go y g.of0.same[x] o
def Bkc(h:Fits sz p)(c:Siz sz)(f:0<=k)(e:k<=4095):Pu P Aa2[[.int k,p.w,.int sz]] p.w:=by
 refine Bo rfl Cu[Fo Dt[Ak[Ae[Ab Ai[rfl] Af][Bed k]]] (by rw[Wq f e];rfl) Ay][?_]
 refine Cu Ah4[Aut Dh[Ae[Ab[Ai rfl][Ab Ai[rfl] Af]][Mz h c]] Ay] ?_;exact Bh Bb[Ae[Ab Ai[rfl] Af][Ad3 h c]]
def Bkd(h:Sh m hand new d s a u S)(D:Dk sz ps b d t r S)(y:Siz sz)(nd:(keys hand).Nodup)(z:hand.length<=900)(nl:new.length<=900)(E:0<=m)(f:Fits sz p)(x:0<=k)(o:k<=4095)(q:∀i,Fr [a,u] S i->Sh m (hold m (put new k p) hand k p) (put new k p) d s a u i->Q .non i):Wm Qe[[.ref s,.int k,p.w]] S Q:=by
 let((r,C),B,A,sa,su,au):=h;let H:=D.at_;unfold Wr at H;refine Bt rfl Cz[?_]
 repeat array_get_dec
 refine Cp[Bkc f y x o] λN e=>?_;let n:=e.at0 C
 repeat array_get_dec
 refine Jy e.at0[A] rfl (by rw[Ws];exact eZ nl ()) λL g j=>?_
 rw[Arb (φ:=λJ=>W.bl t8) (v:=p)] at j;let l:=g.at1 n su
 repeat array_get_dec
 refine Ate ((r,l),g.at1 e.at0[B] au,j,sa,su,au) nd z E λI G F=>?_
 repeat array_get_dec
 exact q I (Fr.same e.of0.same[Bm8[g]] fr2[G]) F
end
section
variable{m:Int}{hand new:lg (Int×Pg)}{d s a u t r:Nat}{sz b:Int}{ps:lg Pg}{k:Int}{p:Pg}
def Avv(h:Sh m hand new d s a u S)(D:Dk sz ps b d t r S)(I:Siz sz)(nd:(keys hand).Nodup)(hl:hand.length<=900)(h0:0<=m)(pl:ps.length<=1000)(hp:∀p∈ps,Fits sz p){i:Nat}(U:(i:Int)∈keys new)(X:get hand i=sr p)(e:Fits sz p)(hi:i<=ps.length)(P:s≠d)(O:s≠t)(F:a≠d)(E:a≠t)(C:u≠d)(B:u≠t)(N:r≠a)(L:r≠u)(q:∀n,Fr [d,t,a,u] S n->Sh m room[m][drop new i][hand] (drop new i) d s a u n->Dk sz (wr ps i p) (b+1) d t r n->Q .non n):Wm Ln[[.ref s,.int (i:Int)]] S Q:=by
 let((rd,Z),J,Y,sa,su,au):=h;let d1:=D.at_;unfold Wr at d1;let(v,ev):=Mg U;refine Bt rfl Ej[?_]
 repeat array_get_dec
 rw[Jj,eQ,ev];refine Asv ?_
 repeat array_get_dec
 refine Adh J rfl (w:=p.w) (by rw[Jj,X];rfl) ?_
 repeat array_get_dec
 refine Cp[Mz e I] λS1 f=>?_
 repeat array_get_dec
 refine Aow D.mv[f][λz=>nomatch z][λz=>nomatch z][λz=>nomatch z] I e hi pl hp λS2 l D2=>?_;let T:=l.at[f.at0 Z][Acw P O];let a2:=l.at[f.at0 J][Acw F E];let G:=l.at[f.at0 Y][Acw C B]
 repeat array_get_dec
 refine(_,_,rfl,G,?_)
 repeat array_get_dec
 refine Afs G rfl (w:=.bl t8) (by rw[Jj,ev];rfl) λS3 j o=>?_
 rw[Afw] at o;let H:=j.at1 T su
 repeat array_get_dec
 refine Atc ((rd,H),j.at1 a2 au,o,sa,su,au) nd () h0 λy g a4=>?_
 repeat array_get_dec
 let fL:Fr [d,t,a,u] S y:=((f.of0.same (l.mono λi hi=>by simp at hi ⊢;omega)).same (j.mono λi hi=>by simp at hi ⊢;omega)).same (g.mono λi hi=>by simp at hi ⊢;omega)
 let x:Fr [a,u] S2 y:=(j.mono λi hi=>by simp at hi ⊢;omega).same (g.mono λi hi=>by simp at hi ⊢;omega)
 exact q y fL ((rd,g.at1 H sa),a4,g.at1 o au.symm,sa,su,au) D2.mv[x][Acw F.symm C.symm][Acw E.symm B.symm][Acw N L]
theorem Ae1{e:Type}{c:e->W}:∀l:lg[Int×e],Ci Agj (mpW c l)=sr keys[l]
 |[]=>rfl
 |x::l=>by
  show Ci Agj ((u6 oZ[x.1] c[x.2])::mpW c l)=_;rw[Ci,Ae1 l];rfl
def Ao0{α:Type}{φ:α->W}{x:Int×α}{l:lg[Int×α]}:Ci Akt (mpW φ (x::l))=sy:=rfl
def Baj{f:Type}{j:f->W}{l:lg[Int×f]}{n:Nat}(h:S[n]?=sr .dct[mpW j l])(o:l.length < 64)(q:∀m g,Fr [] S g->g[m]?=sr .lst[(Js keys[l]).map W.int]->S.length<=m->Q .ref[m] g):Wm Li[[.ref n]] S Q:=by
 let(a,v,e,z):=Dj (ws:=(Js keys[l]).map W.int) (by rw[aB,(Do _).length_eq,show (keys l).length=l.length from aB _];exact aH (show l.length<=64 by omega) ()) q
 refine(a,v,?_,z);unfold Li;dsimp only;rw[h];dsimp only;rw[di (by rw[Ws];exact o)]
 cases l with
 |nil=>
  rw[show keys ([]:lg[Int×f])=[] from rfl,(Do []).eq_nil] at e;show Be ((M6 []).map W.str) S=_;rw[(Eu []).eq_nil];exact e
 |cons x l=>
  rw[Ao0,Ae1];exact e
def Arc(h:Sh m hand new d s a u S)(f:new.length < 64)(q:∀m e,Fr [] S e->e[m]?=sr .lst[(Js keys[new]).map W.int]->S.length<=m->Q .ref[m] e):Wm Tq[[.ref s]] S Q:=by
 let((rd,j),i,g,sa,su,au):=h;refine Bt rfl Dc[?_]
 repeat array_get_dec
 exact Baj g f q
def Atf(h:Sh m hand new d s a u S)(f:hand.length<=900)(q:∀m e,Fr [] S e->e[m]?=sr .lst[(keys hand).map W.int]->S.length<=m->Q .ref[m] e):Wm Acg[[.ref s]] S Q:=by
 let((rd,j),g,i,sa,su,au):=h;refine Bt rfl Dc[?_]
 repeat array_get_dec
 refine Ag3 g (by rw[Ws];exact aH f ()) ?_
 rw[Afx];exact q
def Bke{r:Int}{c:Nat}:Km "at_hand" .ref[c] (shF d m a u r)=shF d m c u r:=by rfl'
def Bkf{r:Int}{c:Nat}:Km "unwritten" .ref[c] (shF d m a u r)=shF d m a c r:=by rfl'
def Avw(h:Sh m hand new d s a u S)(q:∀f e n,Fr [s] S n->Sh m [] [] d s f e n->S.length<=f->S.length<=e->Q .non n):Wm Ny[[.ref s]] S Q:=by
 let((rd,o),I,H,sa,su,au):=h;refine Bt rfl Xg[?_];refine Qv λf N l C A=>?_;let z:=l.at0 o
 repeat array_get_dec
 refine Fv z (by rfl') Bke λL j y=>?_
 let G:=Cm o;let v:=j.at1 C ()
 refine Xg ?_;refine Qv λe J i B F=>?_;let x:=i.at0 y
 repeat array_get_dec
 refine Fv x (by rfl') Bkf λD g w=>?_
 have:=l.len;have:=j.len;let E:=Cm v
 repeat array_get_dec
 exact q f e D (((l.of0.same j).then0 i).same g) ((rd,w),g.at1 i.at0[v] (),g.at1 B (),(),(),()) A ()
def Ao1(Z:2<=m)(Y:m<=40)(q:∀s a u g,Fr [] S g->Sh m [] [] d s a u g->S.length<=s->s < a->a < u->u < g.length->Q .ref[s] g):Wm (Ko 7 Du [.ref d,.int m]) S Q:=by
 refine Bgl λS1 y N=>Bt rfl (Jg (Cp (a:=false) (Pu.cast Jw[Dt Ak[Ae[Ab Ai[rfl] Af][G3 _]]][Jw Ak[Aw Ai[rfl] An Agx] Ak[Aw Ai[rfl] An Xy]] (by rw[dw (),dw ()];rfl)) λS2 n=>(rfl,?_)))
 generalize hd:S.length=s at *
 let J:=n.at0 N
 repeat array_get_dec
 refine Fv J (by rfl') rfl λS3 x I=>?_
 repeat array_get_dec
 refine Fv I (by rfl') rfl λS4 w o=>?_
 refine Xg[Qv λa S5 l C T=>?_];let H:=l.at0 o
 repeat array_get_dec
 refine Fv H (by rfl') rfl λS6 j G=>?_
 refine Xg[Qv λu S7 h hu P=>?_];let F:=h.at0 G
 repeat array_get_dec
 refine Fv F (by rfl') rfl λS8 f E=>?_
 repeat array_get_dec
 refine Fv E (by rfl') rfl λB e D=>?_
 repeat array_get_dec
 let X:=Cm o;let A:=j.at1 C ()
 let U:=Cm A;let v:Fr [s] S B:=((((((Fr.same (L:=[s]) (y.then0 n).of0 x).same w).then0 l).same j).then0 h).same f).same e;have:=w.len;have:=x.len;have:=n.len;have:=y.len;have:=j.len;have:=l.len;exact(rfl,q s a u B (v.len,λi hi O=>v.get i hi λz=>by rw[aK.mp z] at hi;omega) ((_,D),e.at1 (f.at1 h.at0[A] ()) (),e.at1 (f.at1 hu ()) (),(),(),()) () () () (by have:=Cm hu;have:=f.len;have:=e.len;omega))
end
inductive Ro where
 |wd|old|new|most|shs|dks
 |dsk (j:Bool)|tx (j:Bool)|ro (j:Bool)|shf (j:Bool)|hnd (j:Bool)|unw (j:Bool)
structure Wd(n:Nat)(A:Ro->Nat)(C:Ro->Cell)(S:Store):Prop where
 inj:∀x y,A x=A y->x=y
 at_:∀x,S[A x]?=sr (C x)
 tp:Tp n S
 nt:∀x,A x≠n
structure St where
 sz:Int
 old:List Pg
 new:List (Int×Pg)
 many:Int
 beg:Int
 m:Bool->Int
 ps:Bool->List Pg
 bg:Bool->Int
 hd:Bool->List (Int×Pg)
 un:Bool->List (Int×Pg)
 rd:Bool->Int
def wdK(sz:Int)(o n:Nat)(many beg:Int)(mm:Nat):lg[Key×W]:=[(.inr "size",.int sz),(.inr "old",.ref o),(.inr "new",.ref n),(.inr "many",.int many),(.inr "begun",.int beg),(.inr "most",.ref mm)]
def cel(A:Ro->Nat)(s:St):Ro->Cell
 |.wd=>.dct (wdK s.sz A[.old] A[.new] s.many s.beg A[.most])
 |.old=>.lst s.old.map[Pg.w]
 |.new=>.dct (mpW Pg.w s.new)
 |.most=>.lst [.int s.m[tu],.int s.m[t8]]
 |.shs=>.lst [.ref A[.shf[tu]],.ref A[.shf[t8]]]
 |.dks=>.lst [.ref A[.dsk[tu]],.ref A[.dsk[t8]]]
 |.dsk j=>Wr s.sz A[.tx[j]] A[.ro[j]] s.bg[j]
 |.tx j=>.lst (txs s.sz s.ps[j])
 |.ro _=>.lst []
 |.shf j=>.ins 7 (shF A[.dsk[j]] s.m[j] A[.hnd[j]] A[.unw[j]] s.rd[j])
 |.hnd j=>.dct (mpW Pg.w s.hd[j])
 |.unw j=>.dct mpW[λuu=>.bl t8][s.un j]
def upd{α:Type}(f:Bool->α)(j:Bool)(v:α):Bool->α:=λi=>if i=j then v else f i
noncomputable def upA(A:Ro->Nat)(x0:Ro)(a:Nat):Ro->Nat:=λx=>@ite _ (x=x0) aAr[_] a A[x]
section
variable{n:Nat}{A:Ro->Nat}{C C':Ro->Cell}{s:St}{x0 x1 x2 x3 x4:Ro}{j:Bool}
def Gg{a:Nat}{x:Ro}(h:x≠x0):upA A x0 a x=A x:=dq h
def Sy{a:Nat}:upA A x0 a x0=a:=di rfl
def Am{α:Type}{f:Bool->α}{v:α}:upd f j v j=v:=di rfl
def Ao{α:Type}{f:Bool->α}{v:α}{i:Bool}(h:i≠j):upd f j v i=f i:=dq h
def Wd.ne(W:Wd n A C S){x y:Ro}(h:x≠y):A x≠A y:=λe=>h[W.inj _ _ e]
def Wd.lt(W:Wd n A C S)(x:Ro):A x < S.length:=Cm W.at_[x]
def Wd.draw(W:Wd n A C S)(f:Fr [n] S S')(h:Tp n S'):Wd n A C S':=(W.inj,λx=>f.at1 W.at_[x] W.nt[x],h,W.nt)
def Wd.grow(W:Wd n A C S)(f:Fr [] S S'):Wd n A C S':=(W.inj,λx=>f.at0 W.at_[x],W.tp.at0 f,W.nt)
theorem Wd.re{a:Nat}(W:Wd n A C S)(f:Fr [A x1] S S')(l:S.length<=a)(i:S'[a]?=sr C'[x0])(g:S'[A x1]?=sr C'[x1])(ne:x1≠x0)(h:∀x,x≠x0->x≠x1->C' x=C x):Wd n (upA A x0 a) C' S' where
 inj:=λx y e=>by
  by_cases ex:x=x0
  .by_cases b:y=x0
   .rw[ex,b]
   .subst ex;rw[Sy,Gg b] at e;have:=W.lt y;omega
  .by_cases b:y=x0
   .subst b;rw[Sy,Gg ex] at e;have:=W.lt x;omega
   .rw[Gg ex,Gg b] at e;exact W.inj _ _ e
 nt:=λx e=>by
  by_cases ex:x=x0
  .subst ex;rw[Sy] at e;have:=W.tp.lt;omega
  .rw[Gg ex] at e;exact W.nt x e
 tp:=W.tp.mv f λz=>W.nt x1 (aK.mp z).symm
 at_:=λx=>by
  by_cases ex:x=x0
  .subst ex;rw[Sy];exact i
  .rw[Gg ex];by_cases c:x=x1
   .subst c;exact g
   .rw[h x ex c];exact f.at1 W.at_[x] W.ne[c]
theorem Wd.sh(W:Wd n A (cel A s) S)(j:Bool):Sh s.m[j] s.hd[j] s.un[j] A[.dsk[j]] A[.shf[j]] A[.hnd[j]] A[.unw[j]] S:=((_,W.at_ .shf[j]),W.at_ .hnd[j],W.at_ .unw[j],W.ne[λh=>nomatch h],W.ne[λh=>nomatch h],W.ne[λh=>nomatch h])
theorem Wd.dk(W:Wd n A (cel A s) S)(j:Bool):Dk s.sz s.ps[j] s.bg[j] A[.dsk[j]] A[.tx[j]] A[.ro[j]] S:=(W.at_ .dsk[j],W.at_ .tx[j],W.at_ .ro[j],W.ne[λh=>nomatch h],W.ne[λh=>nomatch h],W.ne[λh=>nomatch h])
end
section
variable{n:Nat}{A:Ro->Nat}{s:St}{j:Bool}{k:Int}{p:Pg}
def St.shl(s:St)(j:Bool)(hd un:lg[Int×Pg])(rd:Int):St:={ s with hd:=upd s.hd j hd,un:=upd s.un j un,rd:=upd s.rd j rd }
def Atg{hd un:lg[Int×Pg]}{rd:Int}{x:Ro}(f:x≠.shf j)(d:x≠.hnd j)(c:x≠.unw j):cel A (s.shl j hd un rd) x=cel A s x:=by
 cases x with
 |shf i=>simp only[cel,St.shl,Ao (show i≠j from λe=>f[e ▸ rfl])]
 |hnd i=>simp only[cel,St.shl,Ao (show i≠j from λe=>d[e ▸ rfl])]
 |unw i=>simp only[cel,St.shl,Ao (show i≠j from λe=>c[e ▸ rfl])]
 |_=>rfl
def Wd.shl{hd un:lg[Int×Pg]}(W:Wd n A (cel A s) S)(f:Fr L S S')(g:∀i∈L,i=A .shf[j]\/i=A .hnd[j]\/i=A .unw[j])(h:Sh s.m[j] hd un A[.dsk[j]] A[.shf[j]] A[.hnd[j]] A[.unw[j]] S'):∃rd,Wd n A cel[A][s.shl j hd un rd] S':=by
 let((rd,r),q,o,_,_,_):=h;let v:S'[A .shf[j]]?=sr cel[A][s.shl j hd un rd][.shf[j]]:=by
  rw[r];simp only[cel,St.shl,Am]
 let u:S'[A .hnd[j]]?=sr cel[A][s.shl j hd un rd][.hnd[j]]:=by
  rw[q];simp only[cel,St.shl,Am]
 let t:S'[A .unw[j]]?=sr cel[A][s.shl j hd un rd][.unw[j]]:=by
  rw[o];simp only[cel,St.shl,Am]
 refine(rd,W.inj,λx=>?_,W.tp.mv f λz=>?_,W.nt)
 .by_cases d:x=.shf j
  .rw[d];exact v
  by_cases c:x=.hnd j
  .rw[c];exact u
  by_cases b:x=.unw j
  .rw[b];exact t
  rw[Atg d c b];refine f.at W.at_[x] λz=>?_;rcases g _ z with e|e|e
  .exact d[W.inj _ _ e]
  .exact c[W.inj _ _ e]
  .exact b[W.inj _ _ e]
 .rcases g _ z with e|e|e
  .exact W.nt _ e.symm
  .exact W.nt _ e.symm
  .exact W.nt _ e.symm
def Bff(W:Wd n A (cel A s) S)(b:Siz s.sz)(nd:(keys s.hd[j]).Nodup)(c:(s.hd j).length<=900)(d:0<=s.m j)(pl:(s.ps j).length<=1000)(due:get s.hd[j] k=sr p\/(get s.hd[j] k=sy/\∃i:Nat,k=i/\(s.ps j)[i]?=sr p/\Fits s.sz p))(q:∀rd a,Fr [A .shf[j],A .hnd[j]] S a->Wd n A cel[A][s.shl j (hold s.m[j] s.un[j] s.hd[j] k p) s.un[j] rd] a->Q p.w a):Wm Hv[[.ref A[.shf[j]],.int k]] S Q:=(
 Aoz W.sh[j] W.dk[j] b nd c d pl due λa f h=>by
  let(rd,g):=W.shl f (λi hi=>by simp at hi;rcases hi with e|e;exact .inl e;exact .inr .inl[e]) h
  exact q rd a f g)
def Bkg(W:Wd n A (cel A s) S)(g:Siz s.sz)(nd:(keys s.hd[j]).Nodup)(l:(s.hd j).length<=900)(nl:(s.un j).length<=900)(o:0<=s.m j)(b:Fits s.sz p)(d:0<=k)(c:k<=4095)(q:∀rd a,Wd n A (cel A s.shl[j][hold s.m[j] (put s.un[j] k p) s.hd[j] k p][put s.un[j] k p][rd]) a->S.length<=a.length->Fr [A .hnd[j],A .unw[j]] S a->Q .non a):Wm Qe[[.ref A[.shf[j]],.int k,p.w]] S Q:=(
 Bkd W.sh[j] W.dk[j] g nd l nl o b d c λa f h=>by
  let(rd,r):=W.shl f (λi hi=>by simp at hi;rcases hi with e|e;exact .inr .inl[e];exact .inr .inr[e]) h
  exact q rd a r f.len f)
def St.dsl(s:St)(j:Bool)(ps:lg Pg)(b:Int):St:={ s with ps:=upd s.ps j ps,bg:=upd s.bg j b }
def Bfg{ps:lg Pg}{b:Int}{x:Ro}(d:x≠.dsk j)(c:x≠.tx j):cel A (s.dsl j ps b) x=cel A s x:=by
 cases x with
 |dsk i=>simp only[cel,St.dsl,Ao (show i≠j from λe=>d[e ▸ rfl])]
 |tx i=>simp only[cel,St.dsl,Ao (show i≠j from λe=>c[e ▸ rfl])]
 |_=>rfl
def Bak(W:Wd n A (cel A s) S)(t:Siz s.sz)(nd:(keys s.hd[j]).Nodup)(v:(s.hd j).length<=900)(F:0<=s.m j)(pl:(s.ps j).length<=1000)(hp:∀p∈s.ps j,Fits s.sz p){i:Nat}(u:(i:Int)∈keys s.un[j])(w:get s.hd[j] i=sr p)(l:Fits s.sz p)(hi:i<=(s.ps j).length)(q:∀rd a,Wd n A cel[A][(s.shl j room[s.m j][drop s.un[j] i][s.hd j] (drop s.un[j] i) rd).dsl j (wr s.ps[j] i p) (s.bg j+1)] a->Fr [A .dsk[j],A .tx[j],A .hnd[j],A .unw[j]] S a->Q .non a):Wm Ln[[.ref A[.shf[j]],.int (i:Int)]] S Q:=by
 let ne:=λ{x y:Ro} (h:x≠y)=>W.ne h;refine Avv W.sh[j] W.dk[j] t nd v F pl hp u w l hi ne[λh=>nomatch h] ne[λh=>nomatch h] ne[λh=>nomatch h] ne[λh=>nomatch h] ne[λh=>nomatch h] ne[λh=>nomatch h] ne[λh=>nomatch h] ne[λh=>nomatch h] λa f h D=>?_;let((rd,E),C,B,_,_,_):=h;refine q rd a (W.inj,λx=>?_,W.tp.mv f λz=>?_,W.nt) f
 .by_cases r:x=.shf j
  .rw[r,E];simp only[cel,St.shl,St.dsl,Am]
  by_cases g:x=.hnd j
  .rw[g,C];simp only[cel,St.shl,St.dsl,Am]
  by_cases d:x=.unw j
  .rw[d,B];simp only[cel,St.shl,St.dsl,Am]
  by_cases c:x=.dsk j
  .rw[c,D.at_];simp only[cel,St.shl,St.dsl,Am]
  by_cases b:x=.tx j
  .rw[b,D.tx];simp only[cel,St.shl,St.dsl,Am]
  rw[Bfg c b,Atg r g d];refine f.at W.at_[x] λz=>?_;simp only[aV,cD,or_false] at z;rcases z with e|e|e|e
  .exact c[W.inj _ _ e]
  .exact b[W.inj _ _ e]
  .exact g[W.inj _ _ e]
  .exact d[W.inj _ _ e]
 .simp only[aV,cD,or_false] at z;rcases z with e|e|e|e
  .exact W.nt _ e.symm
  .exact W.nt _ e.symm
  .exact W.nt _ e.symm
  .exact W.nt _ e.symm
end
section
variable{α:Type}{m:Int}{old:lg Pg}{new hd:lg (Int×Pg)}{k:Int}{p:Pg}
theorem Bal:∀{l l':lg Int},l.Nodup->(∀k∈l,k∈l')->l.length<=l'.length
 |[],_,_,_=>bI _
 |a::l,l',nd,h=>by
  let c:=fV.mp nd;let d:=h a bG;have:=Bal (l:=l) (l':=l'.erase a) c.2 λk hk=>(List.mem_erase_of_ne[λ(e:k=a)=>c.1[e ▸ hk]]).mpr h[k][bD _ hk];let e:=List.length_erase_of_mem d;have:0 < l'.length:=List.length_pos_of_mem d;rw[bL];omega
theorem Abp(f:Int->Bool):∀l:lg Int,(l.filter f).length+(l.filter λx=>!f x).length=l.length
 |[]=>rfl
 |a::l=>by
  have:=Abp f l;rw[gG,gG,bL];cases f a <;> simp <;> omega
def Acx{l:lg[Int×α]}:(keys l).length=l.length:=aB _
def Bgm(nd:(keys hd).Nodup)(hv:∀k∈keys new,k∈keys hd):(keys[room m new hd]).Nodup/\(∀x∈room m new hd,x∈hd)/\(∀k∈keys new,k∈keys[room m new hd])/\((room m new hd).length:Int)<=max m new.length:=by
 let sub:∀k∈(unch new hd).take ((hd.length:Int) - m).toNat,k∈unch new hd:=λk hk=>fU hk;refine(Aox nd,λx b=>(Xk.mp b).1,λk hk=>?_,?_)
 .let(x,b,rfl):=bK.mp[hv k hk];exact bK.mpr (x,Xk.mpr (b,λz=>dg (cP.mp[sub _ z]).2 hk),rfl)
 .let e:=Aj5 (ks:=(unch new hd).take ((hd.length:Int) - m).toNat) nd ((nF _ _).nodup nd.filter[_]) λk hk=>(cP.mp[sub k hk]).1;unfold room;rw[bQ] at e;let c:(unch new hd).length+((keys hd).filter λk=>decide[k∈keys new]).length=(keys hd).length:=by
   have:=Abp[λk=>decide[k∈keys new]][keys hd];unfold unch;let g:((keys hd).filter λk=>decide[k∉keys new])=(keys hd).filter λk=>!decide (k∈keys new):=by
    refine List.filter_congr λx i=>?_;by_cases h:x∈keys new
    .simp[h]
    .simp[h]
   rw[g];omega
  let d:((keys hd).filter λk=>decide[k∈keys new]).length<=(keys new).length:=Bal nd.filter[_] λk hk=>dg (cP.mp hk).2;rw[Acx] at c d;omega
def due(old:lg Pg)(new:lg[Int×Pg])(k:Int):o9 Pg:=match get new k with
 |some p=>sr p
 |none=>if 0<=k then old[k.toNat]? else sy
structure Hk(old:List Pg)(new:List (Int×Pg))(m:Int)(hd:List (Int×Pg)):Prop where
 nd:(keys hd).Nodup
 du:∀x∈hd,due old new x.1=sr x.2
 hv:∀k∈keys new,k∈keys hd
 ln:(hd.length:Int)<=max m new.length
theorem Hk.nil(h:0<=m):Hk old [] m []:=(.nil,(λa h=>nomatch h),(λa h=>nomatch h),by simp;omega)
def Hk.hold{un:lg[Int×Pg]}(nd:(keys hd).Nodup)(du:∀x∈hd,x.1≠k->due old un x.1=sr x.2)(hp:due old un k=sr p)(hv:∀i∈keys un,i=k\/i∈keys hd):Hk old un m (KX.hold m un hd k p):=by
 let(a,b,c,d):=Bgm (m:=m) (new:=un) (Atd (k:=k) (p:=p) nd) λi hi=>by
  unfold keys;rw[cB,bR];by_cases e:i=k
  .exact .inr (by rw[e];exact aK.mpr rfl)
  .refine .inl ?_;let(x,f,rfl):=bK.mp[(hv i hi).resolve_left e];exact bK.mpr (x,Wt.mpr (f,e),rfl)
 refine(a,λx f=>?_,c,d);rcases bR.mp[b x f] with z|z
 .let z:=Wt.mp z;exact du x z.1 z.2
 .rw[aK.mp z];exact hp
def Hk.page(h:Hk old new m hd)(hp:due old new k=sr p):Hk old new m (KX.hold m new hd k p):=Hk.hold h.nd (λx hx uu=>h.du x hx) hp λi hi=>.inr[h.hv i hi]
def Rf{l:lg[Int×α]}{v:α}{i:Int}:i∈keys[put l k v] ↔ i=k\/i∈keys l:=by
 unfold put;split
 .rename_i h;let e:keys[l.map λx=>if x.1=k then (u6 x.1 v) else x]=keys l:=by
   unfold keys;rw[cL];refine mH λx d=>?_;simp only[jO];split <;> rfl
  rw[e];constructor
  .exact .inr
  .rintro(rfl|h')
   .let(x,c,e):=lY.mp h;exact bK.mpr (x,c,dg e)
   .exact h'
 .unfold keys;rw[cB,bR];simp;exact Or.comm
def Bam{l:lg[Int×α]}{v:α}(nd:(keys l).Nodup):(keys[put l k v]).Nodup:=by
 unfold put;split
 .let e:keys[l.map λx=>if x.1=k then (u6 x.1 v) else x]=keys l:=by
   unfold keys;rw[cL];refine mH λx g=>?_;simp only[jO];split <;> rfl
  rw[e];exact nd
 .rename_i h;unfold keys;rw[cB,gB];refine(nd,fV.mpr ((λz=>nomatch z),lM),λx d y c e=>h lY.mpr[?_]);let(z,b,rfl):=bK.mp d;exact(z,b,dm e.trans[aK.mp[c]])
def Ath{l:lg[Int×α]}{v:α}{x:Int×α}(h:x∈put l k v):x=(u6 k v)\/(x∈l/\x.1≠k):=by
 unfold put at h;split at h
 .let(y,c,rfl):=bK.mp h;split
  .rename_i e;exact .inl[by rw[e]]
  .rename_i e;exact .inr (c,e)
 .rename_i d;rcases bR.mp h with z|z
  .exact .inr (z,λe=>d[lY.mpr (x,z,dm e)])
  .exact .inl aK.mp[z]
def Bkh{l:lg[Int×α]}{v:α}{x:Int×α}(h:x∈l)(e:x.1≠k):x∈put l k v:=by
 unfold put;split
 .exact bK.mpr (x,h,dq e)
 .exact fK _ h
def Bfh{l:lg[Int×α]}{v:α}(nd:(keys l).Nodup):get (put l k v) k=sr v:=by
 let(w,e):=Mg (Rf (l:=l) (v:=v).mpr (.inl (rfl:k=k)));rcases Ath Gu[e] with z|z
 .rw[e];cases z;rfl
 .exact absurd rfl z.2
def Ard{l:lg[Int×α]}{v:α}{i:Int}(nd:(keys l).Nodup)(h:i≠k):get (put l k v) i=get l i:=by
 cases e:get l i with
 |none=>exact Hm.mpr λz=>(Rf.mp z).elim h Hm.mp[e]
 |some w=>exact Bah[Bam nd][Bkh Gu[e] h]
def Ao2{l:lg[Int×α]}{i:Int}(nd:(keys l).Nodup)(h:i≠k):get (drop l k) i=get l i:=by
 cases e:get l i with
 |none=>exact Hm.mpr λz=>Hm.mp e (by rw[G4] at z;exact(cP.mp z).1)
 |some w=>exact Bah[Acu nd][Wt.mpr (Gu e,h)]
def Hk.put(h:Hk old new m hd)(nd:(keys new).Nodup):Hk old (put new k p) m (KX.hold m (put new k p) hd k p):=(
 Hk.hold h.nd (λx a e=>by
  rw[<-h.du x a];unfold due;rw[Ard nd e]) (by unfold due;rw[Bfh nd]) λi hi=>(Rf.mp hi).imp id h.hv[i])
def Bki{i:Nat}(hi:i<=old.length):(wr old i p)[i]?=sr p:=by
 unfold wr;rw[aZ (by rw[bQ];omega),bQ,oU hi,fZ]
 rfl
def Bm9{i j:Nat}(hi:i<=old.length)(h:j≠i)(c:j < old.length):(wr old i p)[j]?=old[j]?:=by
 unfold wr;rcases Nat.lt_or_gt_of_ne h with z|z
 .rw[aY (by rw[bQ];omega),qX z]
 .rw[aZ (by rw[bQ];omega),bQ,oU hi,show j - i=(j - i - 1)+1 by omega,List.getElem?_cons_succ,vP]
  congr 1
  omega
def Hk.write{i:Nat}(h:Hk old new m hd)(nd:(keys new).Nodup)(g:get new i=sr p)(hi:i<=old.length):Hk[wr old i p][drop new i][m][room m (drop new i) hd]:=by
 let(a,b,c,d):=Bgm (m:=m) (new:=drop new i) h.nd λk hk=>h.hv k (by rw[G4] at hk;exact(cP.mp hk).1)
 refine(a,λx f=>?_,c,d);let e:=h.du x (b x f);unfold due at e ⊢
 by_cases z:x.1=i
 .rw[z,g] at e;rw[z,Hm.mpr Acv];dsimp only at e ⊢
  rw[di (),dW,Bki hi]
  exact e
 .rw[Ao2 nd z];revert e;cases get new x.1 with
  |some v=>exact id
  |none=>
   dsimp only;intro e;split at e
   .rename_i j;rw[di j,Bm9 hi () (aC.mp e).1]
    exact e
   .cases e
end
def clD:Cl->kO
 |.inn t=>.tuple [.str "in",.str t]
 |.out n p=>.tuple [.str "out",.int n,.int p]
def pgD:Pg->kO
 |.head a b c d=>.tuple [.str "head",.int a,.int b,.int c,.int d]
 |.leaf rs=>.tuple [.str "leaf",.tuple[rs.map λr=>.tuple [.str r.1,clD r.2]]]
 |.fork ks ps=>.tuple [.str "fork",.tuple ks.map[vU],.tuple ps.map[sU]]
 |.rest t n=>.tuple [.str "rest",.str t,.int n]
 |.free n=>.tuple [.str "free",.int n]
theorem Tc{b:Type}{n:Nat}{f:b->W}{g:b->kO}(h:∀x,Dl S n f[x]=sr g[x]):∀a:lg b,Ci[Dl S n][a.map f]=sr a.map[g]
 |[]=>rfl
 |x::a=>by rw[bT,Ci,h,Tc h a];rfl
def Ban(S:Store)(p:Pg)(n:Nat):Dl S (n+5) p.w=sr pgD[p]:=by
 cases p with
 |head a b c d=>rfl
 |rest t n=>rfl
 |free n=>rfl
 |leaf h=>
  let e:=Tc (S:=S) (n:=n+3) (f:=Xr) (g:=λr=>.tuple [.str r.1,clD r.2]) (λr=>by let(k,c):=r;cases c <;> rfl) h
  show (Ci Dl[S][n+4] _).map nO=_;let j:Dl S (n+4) .tup[h.map[Xr]]=sr .tuple[h.map λr=>.tuple [.str r.1,clD r.2]]:=by
   show (Ci Dl[S][n+3] h.map[Xr]).map nO=_;rw[e];rfl
  rw[Ci,Ci,j];rfl
 |fork i ps=>
  let m:Dl S (n+4) .tup[i.map[W.str]]=sr .tuple[i.map[vU]]:=by
   show (Ci Dl[S][n+3] i.map[W.str]).map nO=_;rw[Tc (f:=W.str) (g:=vU) λl=>rfl];rfl
  let j:Dl S (n+4) .tup[ps.map[W.int]]=sr .tuple[ps.map[sU]]:=by
   show (Ci Dl[S][n+3] ps.map[W.int]).map nO=_;rw[Tc (f:=W.int) (g:=sU) λl=>rfl];rfl
  show (Ci Dl[S][n+4] _).map nO=_;rw[Ci,Ci,m,Ci,j];rfl
def Bao(h:M2.Eb x=t8):sO x=t8:=by
 unfold sO;unfold M2.Eb at h;rw[<-Array.all_toList];rw[bF] at h ⊢
 exact λc a=>dm (by have:=M2.Bd4.mp[h c a];omega)
def lay(m:Nat)(x:kO):Prop:=PyData.canLay0 x=t8/\PyData.depth x<=m
def Jb{m:Nat}(h:∀x∈xs,lay m x):lay[m+1][.tuple xs]:=by
 let a:∀xs,(∀x∈xs,lay m x)->PyData.canLayAll0 xs=t8/\PyData.depthAll xs<=m:=λxs=>by
  induction xs with
  |nil=>exact λj=>(rfl,bI _)
  |cons x xs f=>
   intro h;let(c,g):=jN.mp h;let i:=f g;show (_&&_)=t8/\_;rw[c.1,i.1];exact(rfl,Nat.max_le.mpr (c.2,i.2))
 let(e,d):=a xs h;exact(e,lV d)
def Jc{m:Nat}(h:M2.Eb t=t8):lay m .str[t]:=(Bao h,bI _)
def Lp{m:Nat}{n:Int}:lay m .int[n]:=(rfl,bI _)
def M3{m:Nat}:∀x∈([]:lg kO),lay m x:=by simp
def Cj{m:Nat}(h:lay m x)(h2:∀x∈xs,lay m x):∀y∈x::xs,lay m y:=jN.mpr (h,h2)
def Bkj(h:p.ok):lay 4 pgD[p]:=by
 cases p with
 |head a b c d=>exact Jb Cj[Jc ()][Cj[Lp][Cj Lp Cj[Lp][Cj Lp M3]]]
 |free n=>exact Jb Cj[Jc ()][Cj Lp M3]
 |rest t n=>exact Jb Cj[Jc ()][Cj[Jc h.1][Cj Lp M3]]
 |leaf l=>
  refine Jb Cj[Jc ()][Cj[Jb λx f=>?_][M3]]
  let(r,j,rfl):=bK.mp f;let hk:=h.2.1 r j;refine Jb Cj[Jc Ah0[hk.1]][Cj ?_ M3];let g:=hk.2;cases e:r.2 with
  |inn t=>
   rw[e] at g;let g:(M2.Eb t&&_)=t8:=g;rw[aQ] at g;exact Jb Cj[Jc[by rfl]][Cj Jc[g.1] M3]
  |out n q=>exact Jb (Cj Jc[by rfl] Cj[Lp][Cj Lp M3])
 |fork m ps=>
  refine Jb Cj[Jc ()][Cj[Jb λx f=>?_][Cj[Jb λx f=>?_][M3]]]
  .let(k,hk,rfl):=bK.mp f;exact Jc Ah0[h.1.2.1 k hk]
  .let(i,hi,rfl):=bK.mp f;exact Lp
def Bfi{m:Nat}{xs:lg kO}(h:∀x∈xs,lay m x):lay[m+1][.list xs]:=Jb (xs:=xs) h
def Bap{a b:Nat}{d:lg W}{g:lg kO}{neg:Bool}(m:S[a]?=sr .lst[d])(k:S[b]?=sr .lst[d])(hd:Ci (Dl S 15) d=sr g)(j:∀x∈g,lay 4 x):eqD neg .ref[a] .ref[b] S=.ok .bl[!neg] S:=by
 let l:=Bfi j;let sh:nP .list[g]=t8:=by
  unfold nP;rw[l.1,dm aH[l.2][by simp]]
  rfl
 let e:∀c,S[c]?=sr .lst[d]->Dl S 16 .ref[c]=sr .list[g]:=λc h=>by
  show (match S[c]? with|some (.lst d)=>_|some (.dct [])=>_|_=>_)=_
  rw[h];dsimp only;rw[hd];rfl
 unfold eqD;rw[e a m,e b k];dsimp only;rw[sh,SeqAt.eqv_refl _ SeqAt.canLay_of_shaped[sh]];cases neg <;> rfl
def Ah8{a b:Nat}{ws:lg W}{ds:lg kO}(ha:S[a]?=sr .lst[ws])(hb:S[b]?=sr .lst[ws])(hd:Ci (Dl S 15) ws=sr ds)(hl:∀x∈ds,lay 4 x)(q:Q .bl[t8] S):Wm (Ey .Eq .ref[a] .ref[b]) S Q:=(_,S,Bap (neg:=false) ha hb hd hl,q)
def Ah9{a b:Nat}{ws:lg W}{ds:lg kO}(ha:S[a]?=sr .lst[ws])(hb:S[b]?=sr .lst[ws])(hd:Ci (Dl S 15) ws=sr ds)(hl:∀x∈ds,lay 4 x)(q:Q .bl[tu] S):Wm (Ey .NotEq .ref[a] .ref[b]) S Q:=(_,S,Bap (neg:=true) ha hb hd hl,q)
def Baq{S:Store}(ps:lg Pg):Ci[Dl S 15][ps.map Pg.w]=sr ps.map[pgD]:=Tc (λp=>Ban S p 10) ps
def Bgn{ps:lg Pg}(h:∀p∈ps,p.ok):∀x∈ps.map pgD,lay 4 x:=(λx b=>by
 let(p,hp,rfl):=bK.mp b;exact Bkj[h p hp])
def Bkk{S:Store}(is:lg Int):Ci[Dl S 15][is.map W.int]=sr is.map[sU]:=Tc (λuu=>rfl) is
def Bkl{is:lg Int}:∀x∈is.map sU,lay 4 x:=(λx b=>by
 let(p,hp,rfl):=bK.mp b;exact Lp)
def Bna{S:Store}{sz:Int}(ps:lg Pg):Ci[Dl S 15][txs sz ps]=sr[ps.map λp=>.str p.text[sz]]:=Tc (λuu=>rfl) ps
def Bnb{sz:Int}{ps:lg Pg}(h:∀p∈ps,p.ok):∀x∈ps.map[λp=>vU p.text[sz]],lay 4 x:=(λx b=>by
 let(p,hp,rfl):=bK.mp b;refine Jc ?_;unfold Pg.text;rw[Ih,Al6[h p hp],show M2.Eb M2.check[_]=t8 from Aa4 2 _];rfl)
structure Sk(s:St)(j:Bool):Prop where
 ps:s.ps j=s.old
 bg:s.bg j=s.beg
 un:s.un j=s.new
 hk:Hk s.old s.new (s.m j) (s.hd j)
structure Ok(s:St)(B:Nat):Prop where
 sz:Siz s.sz
 fo:∀p∈s.old,Fits s.sz p
 fn:∀x∈s.new,Fits s.sz x.2
 nk:(keys s.new).Nodup
 nr:∀k∈keys s.new,0<=k/\k < s.many
 cov:∀k:Nat,(k:Int) < s.many->(k:Int)∈keys s.new\/k < s.old.length
 om:(s.old.length:Int)<=s.many
 o1:0 < s.old.length
 mb:s.many<=B
 nl:s.new.length<=B
 bb:B<=60
 mm:∀j,2<=s.m j/\s.m j<=40
structure Sm(s s':St):Prop where
 sz:s'.sz=s.sz
 old:s'.old=s.old
 new:s'.new=s.new
 many:s'.many=s.many
 beg:s'.beg=s.beg
 m:s'.m=s.m
section
variable{n:Nat}{A:Ro->Nat}{s s' s2:St}{j:Bool}{k:Int}{p:Pg}{B:Nat}
def Sm.refl:Sm s s:=(rfl,rfl,rfl,rfl,rfl,rfl)
def Sm.trans(h:Sm s s')(h2:Sm s' s2):Sm s s2:=(h2.sz.trans h.sz,h2.old.trans h.old,h2.new.trans h.new,h2.many.trans h.many,h2.beg.trans h.beg,h2.m.trans h.m)
def Ok.sm(h:Ok s B)(e:Sm s s'):Ok s' B:=by
 let(f,d,c,b,y,a):=e;let(x,w,v,u,t,r,q,o,m,l,i,g):=h;constructor <;> (try simp only[f,d,c,b,a]) <;> assumption
def Ame(h:Ok s B)(e:due s.old s.new k=sr p):Fits s.sz p:=by
 unfold due at e;cases g:get s.new k with
 |some v=>
  rw[g] at e;cases e;exact h.fn _ Gu[g]
 |none=>
  rw[g] at e;dsimp only at e;split at e
  .exact h.fo _ dO[e]
  .cases e
def Bar(h:Ok s B)(a:0<=k)(b:k < s.many):∃p,due s.old s.new k=sr p:=by
 unfold due;cases g:get s.new k with
 |some v=>exact(v,rfl)
 |none=>
  dsimp only;rw[di a];rcases h.cov k.toNat () with z|z
  .rw[iK a] at z;exact absurd z Hm.mp[g]
  .exact(_,aM z)
def Sk.ask(K:Sk s j)(O:Ok s B)(e:due s.old s.new k=sr p):get s.hd[j] k=sr p\/(get s.hd[j] k=sy/\∃i:Nat,k=i/\(s.ps j)[i]?=sr p/\Fits s.sz p):=by
 cases g:get s.hd[j] k with
 |some v=>
  have:=K.hk.du _ Gu[g];rw[e] at this;exact .inl this.symm
 |none=>
  refine .inr (rfl,?_);let f:=Ame O e;let a:get s.new k=sy:=Hm.mpr λz=>Hm.mp g (K.hk.hv k z);unfold due at e;rw[a] at e;dsimp only at e;split at e
  .rename_i c;exact(k.toNat,(),by rw[K.ps];exact e,f)
  .cases e
def Sk.len(K:Sk s j)(O:Ok s B):(s.hd j).length<=60:=by
 have:=K.hk.ln;have:=(O.mm j).2;have:=O.nl;have:=O.bb;omega
def Ok.pl(O:Ok s B):s.old.length<=60:=by
 have:=O.om;have:=O.mb;have:=O.bb;omega
def Sk.shl{i:Bool}{hd un:lg[Int×Pg]}{rd:Int}(K:Sk s i)(h:i≠j):Sk (s.shl j hd un rd) i:=by
 refine(K.ps,K.bg,?_,?_)
 .show upd s.un j un i=s.new;rw[Ao h];exact K.un
 .show Hk s.old s.new s.m[i] (upd s.hd j hd i);rw[Ao h];exact K.hk
def Bkm(W:Wd n A (cel A s) S)(O:Ok s B)(K:∀j,Sk s j)(e:due s.old s.new k=sr p)(q:∀s' a,Wd n A (cel A s') a->Sm s s'->(∀j,Sk s' j)->S.length<=a.length->Fr [A .shf[j],A .hnd[j]] S a->Q p.w a):Wm Hv[[.ref A[.shf[j]],.int k]] S Q:=by
 let c:=(K j).len O;refine Bff W O.sz (K j).hk.nd () (by have:=(O.mm j).1;omega) (by rw[(K j).ps];have:=O.pl;omega) ((K j).ask O e) λrd a f b=>q _ a b (rfl,rfl,rfl,rfl,rfl,rfl) (λi=>?_) f.len f
 by_cases h:i=j
 .subst h;refine((K i).ps,(K i).bg,?_,?_)
  .show upd s.un i s.un[i] i=s.new;rw[Am];exact(K i).un
  .show Hk s.old s.new s.m[i] (upd s.hd i _ i);rw[Am,(K i).un];exact(K i).hk.page e
 .exact(K i).shl h
def Bkn(W:Wd n A (cel A s) S)(O:Ok s B)(e:due s.old s.new k=sr p)(q:Q p.w S):Wm Ld[[.ref A[.wd],.int k]] S Q:=by
 let w:=W.at_ .wd;let c:=W.at_ .new;let b:=W.at_ .old;unfold cel at w c b;unfold wdK at w;refine Bt rfl Ej[?_]
 repeat array_get_dec
 rw[Jj,eQ];unfold due at e;cases g:get s.new k with
 |some v=>
  rw[g] at e;cases e;refine Asv ?_
  repeat array_get_dec
  exact Adh c rfl (by rw[Jj,g];rfl) q
 |none=>
  rw[g] at e;dsimp only at e;split at e
  .refine Qu ?_
   repeat array_get_dec
   rename_i d;let(l,_):=aC.mp e;refine Jx b (w:=p.w) ?_ q;rw[<-iK d,Amc (by rw[aB];exact l),aX,e]
   rfl
  .cases e
end
section
variable{n:Nat}{A:Ro->Nat}{s s' s2:St}{j:Bool}{k:Int}{p:Pg}{B:Nat}
def Amf{f:Bool->W}{i:Nat}{w:W}(h:[f tu,f t8][i]?=sr w):i < 2/\∃j,w=f j:=by
 match i,h with
 |0,h=>cases h;exact((),tu,rfl)
 |1,h=>cases h;exact((),t8,rfl)
def Bfj{J:Store->Prop}{v:W}{e:De->M W}{i:Nat}{c:lg Nat}{rest:De}(g:∀T,J T->T[A .shs]?=sr .lst[[.ref A[.shf[tu]],.ref A[.shf[t8]]]])(step:∀j T,J T->∀z:W->Store->Prop,(∀b,J b->S.length<=b.length->z v b)->S.length<=T.length->Wm (e (sr .ref[A[.shf[j]]]::rest)) T z)(hv:Y[i]?=sr sr[.ref[A[.shs]]])(F:Kf 1 c Y=sy::rest)(l:J S)(u:∀T b,J T->Fr [] T b->J b)(q:∀r m,J m->m[r]?=sr .lst[[v,v]]->S.length<=r->Q .ref[r] m):Wm (Cv 1 c Ea[Aa[i]] Br[0] (λH=>pure t8) e Y) S Q:=by
 refine Ano (P:=SP.any.at A[.shs] [.ref A[.shf[tu]],.ref A[.shf[t8]]]) Asi[λS h=>h.2][Ai hv] (trivial,g S l) (g S l) λI y=>?_;rw[F];refine K7 (ws:=[.ref A[.shf[tu]],.ref A[.shf[t8]]]) (J:=λi Y a T=>(∃x,Y=x::rest)/\a=bO i v/\J T/\S.length<=T.length) ?_ ?_ ?_ _ _ _ _ _ ((_,rfl),rfl,u _ _ l y,y.len) bI[_] (by simp)
 .rintro i Y a T ⟨_,_,h,_⟩;unfold liG;rw[g T h]
 .rintro i w Y a T E ⟨⟨x,rfl⟩,rfl,h,t⟩;let(D,j,rfl):=Amf (f:=λj=>.ref A[.shf[j]]) E
  refine(_,rfl,Bp ?_);rw[di rfl];refine step j T h _ (λb G d=>?_) t;refine(by rw[dC];exact bC D (),(_,rfl),?_,G,d)
  rw[uI]
 .rintro Y a T ⟨⟨x,rfl⟩,rfl,h,t⟩;exact(show 2<=big by decide,q _ _ (u _ _ h .app) Hg ())
def Wk(n:Nat)(A:Ro->Nat)(s:St)(S:Store):Prop:=∃s',Wd n A (cel A s') S/\Sm s s'/\∀j,Sk s' j
def Wk.grow(h:Wk n A s S)(f:Fr [] S S'):Wk n A s S':=by
 let(s',W,m,K):=h;exact(s',W.grow f,m,K)
def Wk.shs(h:Wk n A s S):S[A .shs]?=sr .lst[[.ref A[.shf[tu]],.ref A[.shf[t8]]]]:=by
 let(s',W,_):=h;exact W.at_ .shs
def Ati{mt:Nat->o8->o9 Fi}{i:Nat}{b:lg Nat}(v:mt 7 "page"=sr (Hv,2,[]))(h:Wk n A s S)(O:Ok s B)(e:due s.old s.new k=sr p)(hv:Y[i]?=sr sr[.ref[A[.shs]]])(y:Kf 1 b Y=[sy,sr .int[k]])(q:∀r d,Wk n A s d->d[r]?=sr .lst[[p.w,p.w]]->S.length<=r->Q .ref[r] d):Wm (Cv 1 b Ea[Aa[i]] Br[0] (λo=>pure t8) (Bd mt "page" Aa[0] yA[Aa[1]]) Y) S Q:=by
 refine Bfj (A:=A) (J:=Wk n A s) (λT h=>h.shs) (λj T h H t F=>?_) hv y h (λT G h f=>h.grow f) q;let(s',W,m,K):=h;let g:=W.at_ .shf[j];unfold cel at g;refine Aal Hf[rfl][Ly g rfl v ?_]
 repeat array_get_dec
 refine Bkm W O.sm[m] K (by rw[m.old,m.new];exact e) λs2 C z u E x o=>t C (s2,z,m.trans u,E) ()
end
section
variable{n:Nat}{A:Ro->Nat}{s s' s2:St}{j:Bool}{k:Int}{p:Pg}{B:Nat}
def Wk.wd(h:Wk n A s S):S[A .wd]?=sr .dct[[(.inr "size",.int s.sz),(.inr "old",.ref A[.old]),(.inr "new",.ref A[.new]),(.inr "many",.int s.many),(.inr "begun",.int s.beg),(.inr "most",.ref A[.most])]]:=by
 let(s',W,m,_):=h;have:=W.at_ .wd;unfold cel wdK at this;rw[m.sz,m.many,m.beg] at this;exact this
def Wk.new(h:Wk n A s S):S[A .new]?=sr .dct[mpW Pg.w s.new]:=by
 let(s',W,m,_):=h;have:=W.at_ .new;unfold cel at this;rw[m.new] at this;exact this
def Wk.old(h:Wk n A s S):S[A .old]?=sr .lst[s.old.map[Pg.w]]:=by
 let(s',W,m,_):=h;have:=W.at_ .old;unfold cel at this;rw[m.old] at this;exact this
def Wk.most(h:Wk n A s S):S[A .most]?=sr .lst[[.int s.m[tu],.int s.m[t8]]]:=by
 let(s',W,m,_):=h;have:=W.at_ .most;unfold cel at this;rw[m.m] at this;exact this
def Bas(h:Wk n A s S)(O:Ok s B)(e:due s.old s.new k=sr p)(q:Q p.w S):Wm Ld[[.ref A[.wd],.int k]] S Q:=by
 let(s',W,m,_):=h;exact Bkn W O.sm[m] (by rw[m.old,m.new];exact e) q
def Atj{gs:De->M lg[W]}{t:Tg}{b i:MS}{K:RS->Prop}(h:Wm gs[Y] S λg d=>∃k:Nat,g=[.int (k:Int)]/\k<=big/\∀l,Fr [] d l->Wb Vh[t][b][(cO k).map λ(k:Nat)=>W.int[(0:Int)+(k:Int)]] Y l (Lx i K)):Wb (Ad Mu[Ii Fj gs][t][b] i) Y S K:=by
 let(g,d,q,k,rfl,hk,o):=h;let(G,e):=Lj (P:=SP.any) (gs:=λm=>(pure [.int (k:Int)]:M lg[W])) (Y:=Y) Pu.pure hk d trivial
 unfold Ii at e;rw[Bm,show (λm=>(pure [.int (k:Int)]:M lg[W]):De->M lg[W]) Y d=.ok [.int (k:Int)] d from rfl] at e;refine K6 ⟨Iv (.fix[(cO k).map λ(k:Nat)=>W.int[(0:Int)+(k:Int)]],d ++ G,?_,(o _ .app).un)⟩;unfold Ii;rw[Bm,q];exact e
theorem Bfk{a:Nat}{b:lg W}{i:Int}(e:S[a]?=sr .lst[b])(h:(decide[-(2 ^ 63)<=i]&&decide[i < 2 ^ 63]&&decide[b.length * i.toNat<=big])=t8)(q:∀r c,Fr [] S c->c[r]?=sr .lst[(bO i.toNat b).flatten]->S.length<=r->Q .ref[r] c):Wm (Bop.fn .mul .ref[a] .int[i]) S Q:=(.ref S.length,S ++ [.lst (bO i.toNat b).flatten],by
 show Aw9 .ref[a] .int[i] S=_;unfold Aw9;dsimp only;rw[e];dsimp only;rw[di h],q _ _ .app Hg aN[_])
def Bgo(h:p.ok):∀x∈[p,p].map pgD,lay 4 x:=(Bgn λq hq=>by
 rcases aV.mp hq with rfl|hq
 .exact h
 .rw[aK.mp hq];exact h)
def Are(h:Wk n A s S)(O:Ok s B)(q:∀D,Wk n A s D->Q .bl[t8] D):Wm Iz[[.ref A[.shs],.ref A[.wd]]] S Q:=by
 obtain⟨M,I⟩:∃M:Nat,s.many=M:=(s.many.toNat,by have:=O.om;omega)
 let G:=h.wd;refine Bt rfl Atj[?_]
 repeat array_get_dec
 refine(M,by rw[I],aH (m:=60) (by have:=O.mb;have:=O.bb;omega) (),λS f=>?_)
 let h:=h.grow f;refine Asl (J:=λi Y T=>(∃l g,Y=[sr .ref[A[.shs]],sr .ref[A[.wd]],l,g])/\Wk n A s T) ?_ ?_ ((_,_,rfl),h)
 .rintro i w Y T hi ⟨⟨l,g,rfl⟩,b⟩;let y:=(aC.mp hi).1;rw[aB,bM] at y;rw[aX,iJ y] at hi;cases hi;let G:=b.wd;let hn:=b.new;let Z:=b.old;let(p,e):=Bar O (k:=0+(i:Int)) () ()
  let v:=Ame O e;refine(_,rfl,Ej ?_);let go:Wb (Ad Bq[3][zB Ld Aa[1] Aa[2]] Ad[ifS tQ[.NotEq][Cv 1 [2] Ea[Aa[0]] Br[0] (λN=>pure t8) (Bd (λc n=>J8.lookup[u6 c n]) "page" Aa[0] yA[Aa[1]])][Bc[.mul][Qq[yA[Aa[3]]]][zA Dm Aa[0]]] rQ[kB[tu]] Aj][Aj]) [sr .ref[A[.shs]],sr .ref[A[.wd]],sr .int[0+(i:Int)],g] T
    (Lx Aj Ay0[λY T=>(∃l g,Y=[sr .ref[A[.shs]],sr .ref[A[.wd]],l,g])/\Wk n A s T][Lx rQ[kB[t8]] Aih[Q]]):=by
   repeat array_get_dec
   refine Bas b O e ?_
   repeat array_get_dec
   refine Ati rfl b O e rfl rfl λr T2 z H X=>?_
   repeat array_get_dec
   refine Dj (show 1<=big by decide) λU T3 x u F=>?_
   let h3:=(z.grow x).shs
   repeat array_get_dec
   refine Bfk u (by rfl') λP T4 C t E=>?_
   refine Ah9 (ws:=[p.w,p.w]) C.at0[x.at0[H]] t Baq[[p,p]] Bgo[v.1] ?_
   repeat array_get_dec
   exact((_,_,rfl),(z.grow x).grow C)
  by_cases o:(0+(i:Int))∈keys s.new
  .refine Bdw ?_
   repeat array_get_dec
   rw[Jj,eQ,Ah7,dm o];exact(rfl,go)
  .refine Rn ?_
   repeat array_get_dec
   rw[Jj,eQ,Ah7,dw o];refine(rfl,?_)
   repeat array_get_dec
   rw[aB,dm (by
    have:=(O.cov i ()).resolve_left (by rw[<-sS (i:Int)];exact o)
    omega)]
   exact go
 .rintro Y T ⟨⟨l,g,rfl⟩,b⟩;refine Dc ?_
  repeat array_get_dec
  exact q T b
end
section
variable{n:Nat}{A:Ro->Nat}{s s' s2:St}{j:Bool}{k:Int}{p:Pg}{B:Nat}
def Aia{c:Nat}{l:lg Nat}{f e:De->M W}{t:De->M Bool}{g:Tg}(h:Wm f[Y] S λx i=>∃d o,x=.ref d/\i[d]?=sr .lst[o]/\Wm (Ik g t e liG[d] (o.length+1) 0 (Kf c l Y) []) i λb u=>b.length<=big/\∀r m,Fr [] u m->m[r]?=sr .lst[b]->u.length<=r->Q .ref[r] m):Wm (Cv c l Ea[f] g t e Y) S Q:=by
 let(x,i,E,d,o,rfl,hd,h):=h;let C:Ea f Y S=.ok .liv[d] i:=by
  unfold Ea;rw[Bm,E];show (match i[d]? with|some (.lst _)=>_|_=>_)=_
  rw[hd]
 let(a,m,D,q):=Ax (f:=Be) (Ba h λb u ⟨z,q⟩=>Dj z q)
 refine(a,m,?_,q);unfold Cv;rw[Bm,C];show (match i[d]? with|some (.lst o)=>_|_=>R.bad)=_
 rw[hd];exact D
def Atk(h:Wk n A s S)(j:Bool):Dk s.sz s.old s.beg A[.dsk[j]] A[.tx[j]] A[.ro[j]] S:=by
 let(s',W,m,K):=h;have:=W.dk j;rw[(K j).ps,(K j).bg,m.sz,m.old,m.beg] at this;exact this
def Bgp(h:Wk n A s S)(j:Bool):∃hd,Sh s.m[j] hd s.new A[.dsk[j]] A[.shf[j]] A[.hnd[j]] A[.unw[j]] S/\Hk s.old s.new s.m[j] hd:=by
 let(s',W,m,K):=h;have:=W.sh j;let hk:=(K j).hk;rw[(K j).un,m.new,m.m] at this;rw[m.new,m.m,m.old] at hk;exact(_,this,hk)
def Wk.dks(h:Wk n A s S):S[A .dks]?=sr .lst[[.ref A[.dsk[tu]],.ref A[.dsk[t8]]]]:=by
 let(s',W,_):=h;exact W.at_ .dks
def Bfl{sz b:Int}{ps:lg Pg}{d t r:Nat}(h:Dk sz ps b d t r S)(q:∀n c,Fr [] S c->c[n]?=sr .lst[[]]->S.length<=n->Q .ref[n] c):Wm Aey[[.ref d]] S Q:=by
 let f:=h.at_;unfold Wr at f;refine Bt rfl Dc[?_]
 repeat array_get_dec
 exact Asu h.ro bI[_] q
def Avx{sz b:Int}{ps:lg Pg}{d t r:Nat}(h:Dk sz ps b d t r S)(q:Q .int[b] S):Wm Aaa[[.ref d]] S Q:=by
 let e:=h.at_;unfold Wr at e;refine Bt rfl Dc[?_]
 repeat array_get_dec
 exact q
def Ao3(h:Wk n A s S)(O:Ok s B)(q:∀y,Wk n A s y->Q .bl[t8] y):Wm Df[[.ref A[.dks],.ref A[.wd],.int s.beg]] S Q:=by
 let d:=h.wd;let ok:∀p∈s.old,p.ok:=λp hp=>(O.fo p hp).1;let pl:=O.pl;refine Bt rfl Cz[Aia[?_]]
 repeat array_get_dec
 refine(_,_,rfl,h.old,?_);refine K7 (ws:=s.old.map Pg.w) (J:=λi Y c T=>(∃x,Y=[x,sr .ref[A[.wd]]])/\c=txs s.sz s.old.take[i]/\Wk n A s T) ?_ ?_ ?_ _ _ _ _ _ ((_,rfl),rfl,h) bI[_] ()
 .rintro i Y c T ⟨_,_,h⟩;unfold liG;rw[h.old]
 .rintro i w Y c T d ⟨⟨x,rfl⟩,rfl,h⟩;rw[aX] at d;let(p,hp,rfl):=bA.mp d;let(G,H):=aC.mp hp;let z:s.old.take[i+1]=s.old.take i ++ [p]:=by rw[<-H];exact(dH G).symm
  refine(_,rfl,Bp ?_);rw[di rfl];let d:=h.wd
  repeat array_get_dec
  refine Cp Mz[O.fo p dO[hp]][O.sz] λv b=>(?_,(_,rfl),?_,h.grow b)
  .unfold txs;rw[aB,bQ];exact eZ (show _<=60 by omega) ()
  .rw[z];unfold txs;rw[cB];rfl
 .rintro Y c T ⟨⟨x,rfl⟩,rfl,h⟩;rw[aB,fX];refine(by unfold txs;rw[aB];exact aH (show _<=60 by omega) (),λr v b e X=>?_)
  let u:=h.grow b;refine Xh ?_
  repeat array_get_dec
  refine(_,_,rfl,u.dks,?_);refine Im (ws:=[.ref A[.dsk[tu]],.ref A[.dsk[t8]]]) (J:=λi Y T=>(∃x,Y=[sr .ref[A[.dks]],sr .ref[A[.wd]],sr .int[s.beg],sr .ref[r],x])/\Wk n A s T/\T[r]?=sr .lst[txs s.sz s.old]) ?_ ?_ ?_ _ _ _ _ ((_,rfl),u,e) bI[_] (by simp)
  .rintro i Y T ⟨_,h,_⟩;unfold liG;rw[h.dks]
  .rintro i w Y T d ⟨⟨x,rfl⟩,h,e⟩;let(_,j,rfl):=Amf (f:=λj=>.ref A[.dsk[j]]) d
   let D:=Atk h j;let I:=D.at_;unfold Wr at I;refine(_,rfl,Ej Rn[?_])
   repeat array_get_dec
   refine Aoy D () λU v b o F=>?_
   repeat array_get_dec
   refine Ah9 o b.at0[e] Bna[s.old] Bnb[ok] ?_
   repeat array_get_dec
   refine(rfl,Rn ?_)
   repeat array_get_dec
   refine Bfl[Atk h.grow[b] j] λP T3 t m E=>?_
   repeat array_get_dec
   refine Dj bI[_] λN Z g l C=>?_;refine Ah9 (ws:=[]) g.at0[m] l rfl (λL h=>nomatch h) ?_
   repeat array_get_dec
   refine(rfl,?_)
   repeat array_get_dec
   refine Avx Atk[((h.grow b).grow t).grow g][j] ?_
   repeat array_get_dec
   rw[dm rfl];refine Qu ?_
   repeat array_get_dec
   exact((_,rfl),((h.grow b).grow t).grow g,g.at0 t.at0[b.at0[e]])
  .rintro Y T ⟨⟨x,rfl⟩,h,e⟩;refine Dc ?_
   repeat array_get_dec
   exact q T h
end
section
variable{n:Nat}{A:Ro->Nat}{s s' s2:St}{j:Bool}{k:Int}{p:Pg}{B:Nat}
theorem Qt:∀is:lg Int,Ci asInt is.map[W.int]=sr is
 |[]=>rfl
 |i::is=>by rw[bT,Ci,Qt is];rfl
def Ao4{is:lg Int}{a:Nat}(h:S[a]?=sr .lst[is.map[W.int]])(d:is.length < 64)(q:∀m b,Fr [] S b->b[m]?=sr .lst[(Js is).map W.int]->S.length<=m->Q .ref[m] b):Wm Li[[.ref a]] S Q:=by
 let(w,f,e,z):=Dj (ws:=(Js is).map W.int) (by rw[aB,(Do _).length_eq];exact aH (show is.length<=64 by omega) ()) q
 refine(w,f,?_,z);unfold Li;dsimp only;rw[h];dsimp only;rw[di (by rw[aB];exact d)]
 cases is with
 |nil=>
  rw[(Do []).eq_nil] at e;show Be ((M6 []).map W.str) S=_;rw[(Eu []).eq_nil];exact e
 |cons x l=>
  show (match Ci asInt ((x::l).map W.int) with|some is=>_|none=>_)=_
  rw[Qt];exact e
def Bfm{is:lg Int}{k:Int}:(is.map W.int).any (eqF · (.int k))=decide[k∈is]:=by
 induction is with
 |nil=>rfl
 |cons i is c=>
  rw[bT,qZ,c];show (i==k||_)=_;by_cases h:i=k
  .subst h;simp
  .have:(i==k)=tu:=by simpa using h
   rw[this,vB];simp[eO h]
theorem Bfn{is:lg Int}{a:Nat}(h:S[a]?=sr .lst[is.map[W.int]])(q:Q .bl[!decide (k∈is)] S):Wm (Ey .NotIn .int[k] .ref[a]) S Q:=(_,S,by
 show inW t8 .int[k] .ref[a] S=_;unfold inW;dsimp only;rw[h];dsimp only;unfold Bce;rw[di (by
  show (t8&&_)=t8;rw[mQ,bF];intro x c;let(i,_,rfl):=bK.mp c;rfl),Bfm]
 rfl,q)
theorem Ao5:∀{l b:lg Int},(b ++ l).Nodup->l.foldl gH b=b ++ l
 |[],b,_=>(cH b).symm
 |a::l,b,h=>by
  let f:a∉b:=λz=>(gB.mp h).2.2 a z a bG rfl;let e:gH b a=b ++ [a]:=by
   unfold gH;rw[dq];intro z;let(x,d,ex):=lY.mp z;exact f[eq_of_beq ex ▸ d]
  rw[xZ,e,Ao5 (by rw[bN];exact h),bN]
  rfl
theorem Avy{is:lg Int}{a:Nat}(h:S[a]?=sr .lst[is.map[W.int]])(c:is.length < 4000)(nd:is.Nodup)(q:Q .int[is.length] S):Wm W9[[.ref a]] S Q:=(_,S,by
 unfold W9;dsimp only;rw[h];dsimp only;rw[di (by rw[aB];exact c),Qt]
 dsimp only;rw[Ao5 (by rw[lE];exact nd),lE],q)
def Bfo{m:De->M lg[W]}{t:Tg}{b g:MS}{K:RS->Prop}(h:Wm m[Y] S λq a=>∃c d f i,q=[.ref c,.ref d]/\a[c]?=sr .lst[f]/\a[d]?=sr .lst[i]/\Wb Agn[t][b][zlG c d][f.length+1][0] Y a (Lx g K)):Wb Ad[Mu Ana[m] t b][g] Y S K:=by
 refine K6 ⟨Iv Ax[Ba h λx a ⟨c,d,f,i,e,hc,hd,hb⟩=>?_]⟩;subst e;refine(.zl c d,a,?_,?_)
 .unfold Axz;dsimp only;rw[hc,hd]
 .show Lx g K (Aku t b (zlG c d) c Y a);unfold Aku;rw[hc];exact hb.un
def Bat(h:Wk n A s S)(O:Ok s B)(q:∀S',Wk n A s S'->Q .bl[t8] S'):Wm Ez[[.ref A[.shs],.ref A[.wd]]] S Q:=by
 let g:=h.wd;let nl:=O.nl;let bb:=O.bb;let lk:(keys s.new).length=s.new.length:=Acx;refine Bt rfl Bfo[?_]
 repeat array_get_dec
 refine(_,_,_,_,rfl,h.shs,h.most,?_);refine Im (ws:=[.tup [.ref A[.shf[tu]],.int s.m[tu]],.tup [.ref A[.shf[t8]],.int s.m[t8]]]) (J:=λi Y T=>(∃v u t r,Y=[sr .ref[A[.shs]],sr .ref[A[.wd]],v,u,t,r])/\Wk n A s T) ?_ ?_ ?_ _ _ _ _ ((_,_,_,_,rfl),h) bI[_] (by simp)
 .rintro i Y T ⟨_,h⟩;unfold zlG;rw[h.shs,h.most]
  match i with
  |0=>rfl
  |1=>rfl
  |_+2=>rfl
 .rintro i w Y T g ⟨⟨v,u,t,r,rfl⟩,h⟩;let(_,j,rfl):=Amf (f:=λj=>.tup [.ref A[.shf[j]],.int s.m[j]]) g
  let(hd,sh,hk):=Bgp h j;let(rd,sj):=sh.at_;let lh:hd.length<=60:=by
   have:=hk.ln;have:=(O.mm j).2;omega
  let z:(keys hd).length=hd.length:=Acx;let g:=h.wd;refine(_,rfl,?_)
  repeat array_get_dec
  refine Atf sh () λr1 T1 Z F lr1=>?_
  let H:=h.grow Z;let hw1:=H.wd
  repeat array_get_dec
  refine Ag3 H.new (by rw[Ws];exact aH (show _<=60 by omega) ()) λr2 T2 N l lr2=>?_
  rw[Afx] at l
  repeat array_get_dec
  refine Ao4 l () λr3 T3 L b lr3=>?_
  let U:=(H.grow N).grow L;let sj3:=L.at0 N.at0[Z.at0[sj]];let d:=L.at0 N.at0[F];let(hd',y,hk'):=Bgp U j;refine Ej Rn[?_]
  repeat array_get_dec
  refine Arc y () λr4 T4 I E lr4=>?_
  repeat array_get_dec
  refine Ah9 E I.at0[b] Bkk[_] Bkl ?_
  repeat array_get_dec
  refine(rfl,?_)
  repeat array_get_dec
  refine Aia ?_
  repeat array_get_dec
  refine(_,_,rfl,I.at0 b,?_);refine K7 (ws:=(Js keys[s.new]).map W.int) (J:=λi Y c T=>(∃x,Y=[x,sr .ref[r1]])/\c=[]/\Fr [] T3 T) ?_ ?_ ?_ _ _ _ _ _ ((_,rfl),rfl,I) bI[_] ()
  .rintro i Y c T ⟨_,_,f⟩;unfold liG;rw[f.at0 b]
  .rintro i w Y c T g ⟨⟨x,rfl⟩,rfl,f⟩;rw[aX] at g;let(k,G,rfl):=bA.mp g;let km:k∈keys hd:=hk.hv k ((Do _).mem_iff.mp dO[G]);refine(_,rfl,?_)
   repeat array_get_dec
   refine Bfn f.at0[d] ?_
   repeat array_get_dec
   rw[dm km,dq ()]
   exact((_,rfl),rfl,f)
  .rintro Y c T ⟨⟨x,rfl⟩,rfl,f⟩;refine(bI _,λr5 T5 f5 D lr5=>?_)
   repeat array_get_dec
   refine Dj bI[_] λr6 T6 X C lr6=>?_;refine Ah9 (ws:=[]) X.at0[D] C rfl (λuu h=>nomatch h) ?_
   repeat array_get_dec
   let e:Fr [] T3 T6:=(f.then0 f5).then0 X;let o:=e.at0 d;let P:=e.at0 b;refine Rn ?_
   repeat array_get_dec
   refine(dw ?_,?_)
   .have:=hk.ln;rw[aB,aB,(Do _).length_eq,lk,z];split <;> omega
   repeat array_get_dec
   refine Avy o () hk.nd ?_
   repeat array_get_dec
   rw[aB,dw ()]
   refine Qu ?_
   repeat array_get_dec
   exact((_,_,_,_,rfl),U.grow e)
 .rintro Y T ⟨⟨v,u,t,r,rfl⟩,h⟩;refine Dc ?_
  repeat array_get_dec
  exact q T h
end
section
variable{n:Nat}{A:Ro->Nat}{s s' s2:St}{j:Bool}{k:Int}{p:Pg}{B:Nat}
def Wk.draw(h:Wk n A s S)(f:Fr [n] S S')(t:Tp n S'):Wk n A s S':=by
 let(s',W,m,K):=h;exact(s',W.draw f t,m,K)
def Wk.tp(h:Wk n A s S):Tp n S:=by
 let(s',W,m,K):=h;exact W.tp
def dn(i:Nat)(j:Bool):Prop:=(if j then 2 else 1)<=i
def Arf{i:Nat}{w:W}{f:Bool->W}(h:[f tu,f t8][i]?=sr w):∃j,w=f j/\¬ dn i j/\dn (i+1) j/\∀a,a≠j->(dn (i+1) a ↔ dn i a):=by
 match i,h with
 |0,h=>cases h;exact(tu,rfl,by unfold dn;simp,by unfold dn;simp,λa h=>by cases a with|false=>exact absurd rfl h|true=>unfold dn;simp)
 |1,h=>cases h;exact(t8,rfl,by unfold dn;simp,by unfold dn;simp,λa h=>by cases a with|true=>exact absurd rfl h|false=>unfold dn;simp)
def Ao6{J:Nat->Store->Prop}{v:W}{e:De->M W}{i:Nat}{c:lg Nat}{rest:De}(m:∀i T,J i T->T[A .shs]?=sr .lst[[.ref A[.shf[tu]],.ref A[.shf[t8]]]])(step:∀i j T,¬ dn i j->dn (i+1) j->(∀g,g≠j->(dn (i+1) g ↔ dn i g))->J i T->∀D:W->Store->Prop,(∀b,J (i+1) b->S.length<=b.length->D v b)->S.length<=T.length->Wm (e (sr .ref[A[.shf[j]]]::rest)) T D)(hv:Y[i]?=sr sr[.ref[A[.shs]]])(G:Kf 1 c Y=sy::rest)(o:J 0 S)(z:∀i T b,J i T->Fr [] T b->J i b)(q:∀r t,J 2 t->t[r]?=sr .lst[[v,v]]->S.length<=r->Q .ref[r] t):Wm (Cv 1 c Ea[Aa[i]] Br[0] (λO=>pure t8) e Y) S Q:=by
 refine Ano (P:=SP.any.at A[.shs] [.ref A[.shf[tu]],.ref A[.shf[t8]]]) Asi[λS h=>h.2][Ai hv] (trivial,m 0 S o) (m 0 S o) λU C=>?_;rw[G];refine K7 (ws:=[.ref A[.shf[tu]],.ref A[.shf[t8]]]) (J:=λi Y a T=>(∃x,Y=x::rest)/\a=bO i v/\J i T/\S.length<=T.length) ?_ ?_ ?_ _ _ _ _ _ ((_,rfl),rfl,z _ _ _ o C,C.len) bI[_] (by simp)
 .rintro i Y a T ⟨_,_,h,_⟩;unfold liG;rw[m i T h]
 .rintro i w Y a T u ⟨⟨x,rfl⟩,rfl,h,y⟩;let(F,_):=Amf (f:=λj=>.ref A[.shf[j]]) u
  let(j,rfl,N,L,I):=Arf (f:=λj=>.ref A[.shf[j]]) u
  refine(_,rfl,Bp ?_);rw[di rfl];refine step i j T N L I h _ (λb H l=>?_) y;refine(by rw[dC];exact bC F (),(_,rfl),?_,H,l)
  rw[uI]
 .rintro Y a T ⟨⟨x,rfl⟩,rfl,h,y⟩;exact(show 2<=big by decide,q _ _ (z _ _ _ h .app) Hg ())
structure Pr(s s2:St)(j:Bool):Prop where
 ps:s2.ps j=s.old
 bg:s2.bg j=s.beg
 un:s2.un j=s.new
 hk:Hk s.old s.new (s.m j) (s2.hd j)
def Wj(n:Nat)(A:Ro->Nat)(s s1:St)(i:Nat)(S:Store):Prop:=∃s2,Wd n A (cel A s2) S/\Sm s1 s2/\∀j,(dn i j->Sk s2 j)/\(¬ dn i j->Pr s s2 j)
def Wj.grow{a:St}{i:Nat}(h:Wj n A s a i S)(f:Fr [] S S'):Wj n A s a i S':=by
 let(s',W,m,K):=h;exact(s',W.grow f,m,K)
def Wj.shs{a:St}{i:Nat}(h:Wj n A s a i S):S[A .shs]?=sr .lst[[.ref A[.shf[tu]],.ref A[.shf[t8]]]]:=by
 let(s',W,_):=h;exact W.at_ .shs
def Wj.all{a:St}(h:Wj n A s a 2 S):Wk n A a S:=by
 let(s',W,m,K):=h;exact(s',W,m,λj=>(K j).1 (by unfold dn;split <;> omega))
def St.ptd(s:St)(k:Int)(p:Pg):St:={ s with new:=put s.new k p,many:=if k+1 > s.many then k+1 else s.many }
theorem Ok.ptd(O:Ok s B)(b:Fits s.sz p)(g:0<=k)(f:k<=s.many)(d:B+1<=60):Ok[s.ptd k p][B+1] where
 sz:=O.sz
 fo:=O.fo
 fn:=λx c=>by
  rcases Ath c with rfl|h
  .exact b
  .exact O.fn x h.1
 nk:=Bam O.nk
 nr:=λi hi=>by
  show 0<=i/\i < if k+1 > s.many then k+1 else s.many
  rcases Rf.mp hi with rfl|h
  .split <;> omega
  .have:=O.nr i h;split <;> omega
 cov:=λi hi=>by
  let hi:(i:Int) < if k+1 > s.many then k+1 else s.many:=hi
  by_cases e:(i:Int)=k
  .exact .inl Rf.mpr[.inl[e]]
  .rcases O.cov i (by split at hi <;> omega) with z|z
   .exact .inl Rf.mpr[.inr[z]]
   .exact .inr z
 om:=by
  show _<=if k+1 > s.many then k+1 else s.many
  have:=O.om;show (s.old.length:Int)<=_;split <;> omega
 o1:=O.o1
 mb:=by
  show (if k+1 > s.many then k+1 else s.many)<=_
  have:=O.mb;split <;> omega
 nl:=by
  show (put s.new k p).length<=_;have:=O.nl;unfold put;split
  .rw[aB];omega
  .rw[bH,cX];omega
 bb:=d
 mm:=O.mm
end
section
variable{n:Nat}{A:Ro->Nat}{s s' s2:St}{j:Bool}{k:Int}{p:Pg}{B:Nat}
def Bnc{S:Store}:Ci (Dl S 15) [W.non,.non]=sr [uJ,uJ]:=rfl
def Bnd:∀x∈[uJ,uJ],lay 4 x:=Cj (rfl,bI _) (Cj (rfl,bI _) M3)
def Ao7{sz many a beg:Int}{o w m:Nat}:Jl[wdK sz o w many beg m][.inr "many"][.int a]=wdK sz o w a beg m:=by rfl'
def Bko{f:St}{i:Nat}(h:Wj n A s f i S)(O:Ok s B)(H:Ok f B')(b:f=s.ptd k p)(o:Fits s.sz p)(x:0<=k)(v:k<=4095)(D:¬ dn i j)(C:dn (i+1) j)(t:∀a,a≠j->(dn (i+1) a ↔ dn i a))(q:∀d,Wj n A s f (i+1) d->S.length<=d.length->Q .non d):Wm Qe[[.ref A[.shf[j]],.int k,p.w]] S Q:=by
 let(s2,W,m,K):=h;let P:=(K j).2 D;let c:s2.sz=s.sz:=by rw[m.sz,b];rfl
 let r:s2.m=s.m:=by rw[m.m,b];rfl
 let G:(s2.hd j).length<=60:=by
  have:=P.hk.ln;have:=(O.mm j).2;have:=O.nl;have:=O.bb;omega
 refine Bkg W (by rw[c];exact O.sz) P.hk.nd () (by rw[P.un];have:=O.nl;have:=O.bb;omega) (by rw[r];have:=(O.mm j).1;omega) (by rw[c];exact o) x v λrd d E l u=>q d (_,E,(m.sz,m.old,m.new,m.many,m.beg,m.m),λa=>?_) l
 by_cases e:a=j
 .subst e;refine(λu=>(?_,?_,?_,?_),λz=>absurd C z)
  .show s2.ps a=s2.old;rw[P.ps,m.old,b];rfl
  .show s2.bg a=s2.beg;rw[P.bg,m.beg,b];rfl
  .show upd s2.un a _ a=s2.new;rw[Am,P.un,m.new,b];rfl
  .show Hk s2.old s2.new s2.m[a] (upd s2.hd a _ a);rw[Am,P.un,m.old,m.new,r,b];exact P.hk.put O.nk
 .refine(λz=>((K a).1 ((t a e).mp z)).shl e,λz=>?_);let g:=(K a).2 λy=>z[(t a e).mpr y];refine(g.ps,g.bg,?_,?_)
  .show upd s2.un j _ a=_;rw[Ao e];exact g.un
  .show Hk _ _ _ (upd s2.hd j _ a);rw[Ao e];exact g.hk
def Bkp{D:Int}(h:Wk n A s S)(O:Ok s B)(Z:B+1<=60)(q:∀s' S',Wk n A s' S'->Ok s' (B+1)->s'.beg=s.beg->Q .bl[t8] S'):Wm Eh[[.ref n,.ref A[.shs],.ref A[.wd],.int D]] S Q:=by
 let o1:=O.o1;let om:=O.om;let bb:=O.bb;let mb:=O.mb;let hw:=h.wd;let up:Ok s (B+1):={ O with mb:=by omega,nl:=by have:=O.nl;omega,bb:=Z }
 refine Bt rfl Cz[?_]
 repeat array_get_dec
 refine By h.tp () λa S1 f1 t1 a0 a1=>?_
 let l:=h.draw f1 t1;let hw1:=l.wd
 repeat array_get_dec
 refine K8[λX=>?_] λX=>Bu ?_
 .let(p,e):=Bar O a0 a1;let g:=Ame O e
  repeat array_get_dec
  refine Bas l O e ?_
  repeat array_get_dec
  refine Ati rfl l O e rfl rfl λr S2 h2 I lr=>?_
  repeat array_get_dec
  refine Dj (show 2<=big by decide) λF S3 t d o=>?_
  exact Ah8 (ws:=[p.w,p.w]) t.at0[I] d Baq[[p,p]] Bgo[g.1] (q s S3 h2.grow[t] up rfl)
 .repeat array_get_dec
  refine Dj (show 2<=big by decide) λF S2 f2 d o=>?_
  repeat array_get_dec
  refine By (l.grow f2).tp () λc S3 t t3 c0 c1=>?_
  let N:=(l.grow f2).draw t t3;let hw3:=N.wd
  repeat array_get_dec
  obtain⟨k,ek,Y,k1⟩:∃k,atI [W.int a,.int s.many] (c / 4)=sr .int[k]/\0<=k/\k<=s.many:=by
   have:c / 4=0\/c / 4=1:=by omega
   rcases this with e|e <;> rw[e]
   .exact(a,rfl,a0,())
   .exact(s.many,rfl,(),())
  let rn:F≠n:=by have:=l.tp.lt;omega
  refine Jx (t.at1 d rn) ek ?_
  repeat array_get_dec
  refine Ata N.tp O.sz λp S4 f4 t4 g=>?_;let L:=N.draw f4 t4;let H:=L.wd
  repeat array_get_dec
  refine Jy L.new rfl (by rw[Ws];exact eZ (show _<=60 by have:=O.nl;omega) ()) λS5 U g5=>?_
  rw[Arb] at g5;let(s2,W,m,K):=L;let G:=U.at1 H W.ne[λh=>nomatch h]
  repeat array_get_dec
  refine Jy G rfl (show 6 < big by decide) λS6 P u=>?_
  let u:S6[A .wd]?=sr .dct[Jl[wdK s.sz A[.old] A[.new] s.many s.beg A[.most]][.inr "many"][.int (if k+1 > s.many then k+1 else s.many)]]:=u
  rw[Ao7] at u;let W6:Wj n A s (s.ptd k p) 0 S6:=by
   refine({ s2 with new:=put s.new k p,many:=if k+1 > s.many then k+1 else s.many },(W.inj,λx=>?_,(W.tp.mv U λz=>W.nt _ (aK.mp z).symm).mv P λz=>W.nt _ (aK.mp z).symm,W.nt),(m.sz,m.old,rfl,rfl,m.beg,m.m),λj=>(λz=>absurd z (by unfold dn;split <;> omega),λX=>((K j).ps.trans m.old,(K j).bg.trans m.beg,(K j).un.trans m.new,?_)))
   .by_cases C:x=.wd
    .rw[C,u];show _=sr Cell.dct[wdK s2.sz _ _ _ s2.beg _];rw[m.sz,m.beg]
    by_cases y:x=.new
    .rw[y];exact P.at1 g5 W.ne[λh=>nomatch h]
    let e:cel A { s2 with new:=put s.new k p,many:=if k+1 > s.many then k+1 else s.many } x=cel A s2 x:=by
     cases x with
     |wd=>exact absurd rfl C
     |new=>exact absurd rfl y
     |_=>rfl
    rw[e];exact P.at1[U.at1 W.at_[x] W.ne[y]][W.ne C]
   .have:=(K j).hk;rw[m.old,m.new,m.m] at this;exact this
  let O1:=O.ptd g Y k1 Z
  repeat array_get_dec
  refine Ao6 (J:=Wj n A s (s.ptd k p)) (v:=.non) (λi T h=>h.shs) (λi j T d1 d2 d3 hT Q' q' hl=>?_) rfl rfl W6 (λi T T' h f=>h.grow f) λr S7 h7 I lr=>?_
  .let E:∃fs,T[A .shf[j]]?=sr[.ins 7 fs]/\fs.lookup ("put":o8)=sy:=by
    let(s2,W,_):=hT;exact(_,W.at_ .shf[j],rfl)
   let(fs,E,lk):=E;refine Aal Hf[rfl][Ly E lk rfl ?_]
   repeat array_get_dec
   exact Bko hT O O1 rfl g Y () d1 d2 d3 λT' h' l'=>q' T' h' ()
  .repeat array_get_dec
   refine Dj (show 2<=big by decide) λF S8 f8 d o=>?_
   exact Ah8 (ws:=[.non,.non]) f8.at0[I] d Bnc Bnd (q _ S8 h7.all.grow[f8] O1 rfl)
end
section
variable{n:Nat}{A A':Ro->Nat}{s s' s1 s2:St}{j:Bool}{k:Int}{p:Pg}{B a u:Nat}
def Wd.fg(W:Wd n A (cel A s) S)(f:Fr [A .shf[j]] S S')(h:Sh s.m[j] [] [] A[.dsk[j]] A[.shf[j]] a u S')(H:S.length<=a)(G:S.length<=u):∃rd,Wd n upA[upA A .hnd[j] a][.unw[j]][u] cel[upA (upA A .hnd[j] a) .unw[j] u][s.shl j [] [] rd] S':=by
 let((rd,F),E,D,_,_,au):=h;let b:∀x,x≠.hnd j->x≠.unw j->upA (upA A .hnd[j] a) .unw[j] u x=A x:=λx C w=>by rw[Gg w,Gg C]
 let q:upA (upA A .hnd[j] a) .unw[j] u .hnd[j]=a:=by rw[Gg (x:=.hnd j) (x0:=.unw j) (λh=>nomatch h),Sy]
 let o:upA (upA A .hnd[j] a) .unw[j] u .unw[j]=u:=Sy;refine(rd,λx y e=>?_,λx=>?_,W.tp.mv f λz=>W.nt _ (aK.mp z).symm,λx e=>?_)
 .by_cases d:x=.hnd j
  .by_cases l:y=.hnd j
   .rw[d,l]
   .by_cases g:y=.unw j
    .rw[d,g,q,o] at e;exact absurd e au
    .rw[d,q,b y l g] at e;have:=W.lt y;omega
  .by_cases c:x=.unw j
   .by_cases l:y=.hnd j
    .rw[c,l,q,o] at e;exact absurd e.symm au
    .by_cases g:y=.unw j
     .rw[c,g]
     .rw[c,o,b y l g] at e;have:=W.lt y;omega
   .by_cases l:y=.hnd j
    .rw[l,q,b x d c] at e;have:=W.lt x;omega
    .by_cases g:y=.unw j
     .rw[g,o,b x d c] at e;have:=W.lt x;omega
     .rw[b x d c,b y l g] at e;exact W.inj _ _ e
 .by_cases d:x=.hnd j
  .rw[d,q,E];simp only[cel,St.shl,Am]
  by_cases c:x=.unw j
  .rw[c,o,D];simp only[cel,St.shl,Am]
  rw[b x d c];by_cases r:x=.shf j
  .rw[r,F];simp only[cel,St.shl,Am,q,o,b[.dsk j][λh=>nomatch h][λh=>nomatch h]]
  have:cel upA[upA A .hnd[j] a][.unw[j]][u] (s.shl j [] [] rd) x=cel A s x:=by
   cases x with
   |shf i=>
    let t:i≠j:=λe=>r[e ▸ rfl];simp only[cel,St.shl,Ao t,b[.dsk i][λh=>nomatch h][λh=>nomatch h],b[.hnd i][λh=>t (by cases h;rfl)][λh=>nomatch h],b[.unw i][λh=>nomatch h][λh=>t (by cases h;rfl)]]
   |hnd i=>simp only[cel,St.shl,Ao (show i≠j from λe=>d[e ▸ rfl])]
   |unw i=>simp only[cel,St.shl,Ao (show i≠j from λe=>c[e ▸ rfl])]
   |wd=>simp only[cel,St.shl,b[.old][λh=>nomatch h][λh=>nomatch h],b[.new][λh=>nomatch h][λh=>nomatch h],b[.most][λh=>nomatch h][λh=>nomatch h]]
   |shs=>simp only[cel,St.shl,b[.shf tu][λh=>nomatch h][λh=>nomatch h],b[.shf t8][λh=>nomatch h][λh=>nomatch h]]
   |dks=>simp only[cel,St.shl,b[.dsk tu][λh=>nomatch h][λh=>nomatch h],b[.dsk t8][λh=>nomatch h][λh=>nomatch h]]
   |dsk i=>simp only[cel,St.shl,b[.tx i][λh=>nomatch h][λh=>nomatch h],b[.ro i][λh=>nomatch h][λh=>nomatch h]]
   |_=>rfl
  rw[this];exact f.at1 W.at_[x] W.ne[r]
 .by_cases d:x=.hnd j
  .rw[d,q] at e;have:=W.tp.lt;omega
  by_cases c:x=.unw j
  .rw[c,o] at e;have:=W.tp.lt;omega
  rw[b x d c] at e;exact W.nt x e
structure Ag(A A':Ro->Nat):Prop where
 shs:A' .shs=A .shs
 wd:A' .wd=A .wd
 dks:A' .dks=A .dks
 shf:∀j,A' (.shf j)=A (.shf j)
 dsk:∀j,A' (.dsk j)=A (.dsk j)
def Ag.refl:Ag A A:=(rfl,rfl,rfl,λuu=>rfl,λuu=>rfl)
def Ag.trans{A2:Ro->Nat}(h:Ag A A')(h2:Ag A' A2):Ag A A2:=(h2.shs.trans h.shs,h2.wd.trans h.wd,h2.dks.trans h.dks,λj=>(h2.shf j).trans h.shf[j],λj=>(h2.dsk j).trans h.dsk[j])
def Ag.up{x:Ro}(h1:x≠.shs)(h2:x≠.wd)(h3:x≠.dks)(h4:∀j,x≠.shf j)(h5:∀j,x≠.dsk j):Ag A (upA A x a):=(Gg h1.symm,Gg h2.symm,Gg h3.symm,λj=>Gg (h4 j).symm,λj=>Gg (h5 j).symm)
def Wf(n:Nat)(A:Ro->Nat)(s s1:St)(i:Nat)(S:Store):Prop:=∃A',Ag A A'/\∃s2,Wd n A' (cel A' s2) S/\Sm s1 s2/\∀j,(dn i j->Sk s2 j/\s2.hd j=[])/\(¬ dn i j->s2.ps j=s.old/\s2.bg j=s.beg)
def Wf.grow{i:Nat}(h:Wf n A s s1 i S)(f:Fr [] S S'):Wf n A s s1 i S':=by
 let(A',g,s',W,m,K):=h;exact(A',g,s',W.grow f,m,K)
def Wf.shs{i:Nat}(h:Wf n A s s1 i S):S[A .shs]?=sr .lst[[.ref A[.shf[tu]],.ref A[.shf[t8]]]]:=by
 let(A',g,s',W,_):=h;have:=W.at_ .shs;unfold cel at this;rw[g.shs,g.shf,g.shf] at this;exact this
def St.fgt(s:St):St:={ s with new:=[],many:=s.old.length }
def Ok.fgt(O:Ok s B):Ok s.fgt B:=({ O with
 fn:=λx b=>nomatch b
 nk:=lM
 nr:=λx b=>nomatch b
 cov:=λk hk=>.inr (by have:(k:Int) < s.old.length:=hk;show k < s.old.length;omega)
 om:=xX _
 mb:=by show (s.old.length:Int)<=B;have:=O.om;have:=O.mb;omega
 nl:=bI _ })
def Avz{i:Nat}(h:Wf n A s s.fgt i S)(O:Ok s B)(o:¬ dn i j)(C:dn (i+1) j)(l:∀b,b≠j->(dn (i+1) b ↔ dn i b))(q:∀c,Wf n A s s.fgt (i+1) c->S.length<=c.length->Q .non c):Wm Ny[[.ref A[.shf[j]]]] S Q:=by
 let(A',g,s2,W,m,K):=h;rw[<-g.shf];refine Avw W.sh[j] λa u c f h t r=>q c ?_ f.len;let(rd,D):=W.fg f h t r;refine(_,(g.trans (Ag.up (x:=.hnd j) (λh=>nomatch h) (λh=>nomatch h) (λh=>nomatch h) (λd h=>nomatch h) (λd h=>nomatch h))).trans (Ag.up (x:=.unw j) (λh=>nomatch h) (λh=>nomatch h) (λh=>nomatch h) (λd h=>nomatch h) (λd h=>nomatch h)),_,D,(m.sz,m.old,m.new,m.many,m.beg,m.m),λb=>?_);by_cases e:b=j
 .subst e;refine(λd=>((((K b).2 o).1.trans m.old.symm,((K b).2 o).2.trans m.beg.symm,?_,?_),?_),λz=>absurd C z)
  .show upd s2.un b [] b=s2.new;rw[Am,m.new];rfl
  .show Hk s2.old s2.new s2.m[b] (upd s2.hd b [] b);rw[Am,m.new,m.m];exact Hk.nil (by have:=(O.mm b).1;show 0<=s.m b;omega)
  .show upd s2.hd b [] b=[];rw[Am]
 .refine(λz=>?_,λz=>(K b).2 λy=>z[(l b e).mpr y]);let(w,v):=(K b).1 ((l b e).mp z);refine(w.shl e,?_);show upd s2.hd j [] b=[];rw[Ao e];exact v
end
section
variable{n:Nat}{A A':Ro->Nat}{s s' s1 s2:St}{j:Bool}{k:Int}{p:Pg}{B a u:Nat}
def Bau{b x:Ro}(g:b=.new\/b=.old)(f:x≠.wd):cel (upA A b a) s x=cel A s x:=by
 let e:∀y,y≠.new->y≠.old->upA A b a y=A y:=λy d c=>Gg λz=>by
  rcases g with h|h
  .exact d z.trans[h]
  .exact c z.trans[h]
 cases x with
 |shf i=>simp only[cel,e[.dsk i][λh=>nomatch h][λh=>nomatch h],e[.hnd i][λh=>nomatch h][λh=>nomatch h],e[.unw i][λh=>nomatch h][λh=>nomatch h]]
 |wd=>exact absurd rfl f
 |shs=>simp only[cel,e[.shf tu][λh=>nomatch h][λh=>nomatch h],e[.shf t8][λh=>nomatch h][λh=>nomatch h]]
 |dks=>simp only[cel,e[.dsk tu][λh=>nomatch h][λh=>nomatch h],e[.dsk t8][λh=>nomatch h][λh=>nomatch h]]
 |dsk i=>simp only[cel,e[.tx i][λh=>nomatch h][λh=>nomatch h],e[.ro i][λh=>nomatch h][λh=>nomatch h]]
 |_=>rfl
def Bav{sz many beg:Int}{o w b m:Nat}:Jl[wdK sz o w many beg m][.inr "new"][.ref b]=wdK sz o b many beg m:=by rfl'
def Baw{sz many beg:Int}{o b w m:Nat}:Jl[wdK sz o w many beg m][.inr "old"][.ref b]=wdK sz b w many beg m:=by rfl'
def Bax{sz many beg b:Int}{o w m:Nat}:Jl[wdK sz o w many beg m][.inr "begun"][.int b]=wdK sz o w many b m:=by rfl'
def Ag.new:Ag A (upA A .new a):=(Ag.up[λh=>nomatch h][λh=>nomatch h][λh=>nomatch h][λb h=>nomatch h][λb h=>nomatch h])
def Ag.old:Ag A (upA A .old a):=(Ag.up[λh=>nomatch h][λh=>nomatch h][λh=>nomatch h][λb h=>nomatch h][λb h=>nomatch h])
def Amg(h:Wk n A s S)(O:Ok s B)(q:∀A' S',Ag A A'->Wk n A' s.fgt S'->Q .bl[t8] S'):Wm Gd[[.ref A[.shs],.ref A[.wd]]] S Q:=by
 let hw:=h.wd;let ho:=h.old;let(s2,W,m,K):=h;refine Bt rfl Aqh[Qv λa S1 E g1 l1=>?_]
 repeat array_get_dec
 refine Jy E.at0[hw] rfl (show 6 < big by decide) λS2 D l=>?_
 let l:S2[A .wd]?=sr .dct[Jl[wdK s.sz A[.old] A[.new] s.many s.beg A[.most]][.inr "new"][.ref a]]:=l;rw[Bav] at l;unfold wdK at l;let lw:=W.lt .wd;let o2:=D.at1 E.at0[ho] W.ne[λh=>nomatch h];let n2:=D.at1 g1 ()
 repeat array_get_dec
 refine Jy l rfl (show 6 < big by decide) λS3 X e=>?_
 rw[aB] at e;let e:S3[A .wd]?=sr .dct[Jl[wdK s.sz A[.old] a s.many s.beg A[.most]][.inr "many"][.int s.old.length]]:=e;rw[Ao7] at e;let W3:Wf n A s s.fgt 0 S3:=by
  refine(upA A .new a,Ag.new,{ s2 with new:=[],many:=s.old.length },W.re (x1:=.wd) ((E.of0.same D).same X) l1 (X.at1 n2 ()) ?_ (λh=>nomatch h) λx x1 H=>?_,(m.sz,m.old,rfl,rfl,m.beg,m.m),λj=>(λz=>absurd z (by unfold dn;split <;> omega),λuu=>((K j).ps.trans m.old,(K j).bg.trans m.beg)))
  .rw[e];show _=sr Cell.dct[wdK[s2.sz][upA A .new a .old][upA A .new a .new][s.old.length][s2.beg][upA A .new a .most]];rw[Gg (x:=.old) (x0:=.new) (λh=>nomatch h),Sy,Gg (x:=.most) (x0:=.new) (λh=>nomatch h),m.sz,m.beg]
  .rw[Bau .inl[rfl] H];cases x with
   |wd=>exact absurd rfl H
   |new=>exact absurd rfl x1
   |_=>rfl
 repeat array_get_dec
 refine Ax Ag1[?_];refine Ao6 (J:=Wf n A s s.fgt) (v:=.non) (λi T h=>h.shs) (λi j T d1 d2 d3 L Q' q' hl=>?_) rfl rfl W3 (λi T Y h f=>h.grow f) λr S4 h4 hr lr=>?_
 .let c:∃fs,T[A .shf[j]]?=sr[.ins 7 fs]/\fs.lookup ("forget":o8)=sy:=by
   let(A',g,s2,W,_):=L;rw[<-g.shf];exact(_,W.at_ .shf[j],rfl)
  let(fs,c,o):=c;refine Aal Hf[rfl][Ly c o rfl ?_]
  repeat array_get_dec
  exact Avz L O d1 d2 d3 λY h' l'=>q' Y h' ()
 .repeat array_get_dec
  refine Dj (show 2<=big by decide) λr2 Z U C lr2=>?_
  refine Ah8 (ws:=[.non,.non]) U.at0[hr] C Bnc Bnd ?_;let N:=h4.grow U;let t:=N.shs;let(A',g,s3,F,m5,K5):=N;let I:=(K5 tu).1 (by unfold dn;simp)
  let c:∃fs,Z[A .shf[tu]]?=sr[.ins 7 fs]/\fs.lookup ("held":o8)=sy:=by
   rw[<-g.shf];exact(_,F.at_ .shf[tu],rfl)
  let(fs,c,o):=c;show Wm (Er .Eq _ _ _) Z Q
  repeat array_get_dec
  refine Jx t (w:=.ref A[.shf[tu]]) rfl ?_;refine Ly c o rfl ?_
  repeat array_get_dec
  rw[<-g.shf];refine Atf F.sh[tu] (by rw[I.2];exact bI _) λr3 S6 f6 d lr3=>?_
  rw[I.2] at d
  repeat array_get_dec
  refine Dj bI[_] λr4 S7 P y lr4=>?_;exact Ah8 (ws:=[]) P.at0[d] y rfl (λuu h=>nomatch h) (q A' S7 g (s3,(F.grow f6).grow P,m5,λj=>((K5 j).1 (by unfold dn;split <;> omega)).1))
end
section
variable{n:Nat}{A A':Ro->Nat}{s s' s1 s2:St}{j:Bool}{p:Pg}{B a u k:Nat}
structure Sw(s s2:St)(c:Int)(j:Bool):Prop where
 ps:s2.ps j=s.old
 bg:s2.bg j=s.beg+c
 un:s2.un j=s.new
 hk:Hk s.old s.new (s.m j) (s2.hd j)
def Ww(n:Nat)(A:Ro->Nat)(s:St)(c:Int)(S:Store):Prop:=∃s2,Wd n A (cel A s2) S/\Sm s s2/\∀j,Sw s s2 c j
def St.wtn(s:St)(k:Nat)(p:Pg):St:={ s with new:=drop s.new k,old:=wr s.old k p }
def Arh(h:k<=s.old.length):(wr s.old k p).length=max s.old.length (k+1):=by
 unfold wr;rw[bH,bL,bQ,dJ];omega
theorem Ok.wtn(O:Ok s B)(c:get s.new k=sr p)(hk:k<=s.old.length):Ok (s.wtn k p) B where
 sz:=O.sz
 fo:=λq f=>by
  let g:=O.fn _ Gu[c];rcases bR.mp f with z|z
  .exact O.fo q fU[z]
  .rcases aV.mp z with rfl|z
   .exact g
   .exact O.fo q uH[z]
 fn:=λx d=>O.fn x (Wt.mp d).1
 nk:=Acu O.nk
 nr:=λi hi=>O.nr i (by let hi:i∈keys[drop s.new k]:=hi;rw[G4] at hi;exact(cP.mp hi).1)
 cov:=λi hi=>by
  show (i:Int)∈keys[drop s.new k]\/i < (wr s.old k p).length;rw[Arh hk];by_cases e:i=k
  .exact .inr ()
  .rcases O.cov i hi with z|z
   .exact .inl (by rw[G4];exact cP.mpr (z,dm ()))
   .exact .inr ()
 om:=by
  show ((wr s.old k p).length:Int)<=s.many;rw[Arh hk];have:=O.om;have:=(O.nr k Kc[Gu[c]]).2;omega
 o1:=by
  show 0 < (wr s.old k p).length;rw[Arh hk];omega
 mb:=O.mb
 nl:=by
  show (drop s.new k).length<=B;have:=dF (λx:Int×Pg=>decide[x.1≠k]) s.new;have:=O.nl;unfold drop;omega
 bb:=O.bb
 mm:=O.mm
def Wv(n:Nat)(A:Ro->Nat)(s:St)(c:Int)(k:Nat)(p:Pg)(i:Nat)(S:Store):Prop:=∃s2,Wd n A (cel A s2) S/\Sm s s2/\∀j,(¬ dn i j->Sw s s2 c j)/\(dn i j->Sw (s.wtn k p) s2 (c+1) j)
def Wv.shs{c:Int}{i:Nat}(h:Wv n A s c k p i S):S[A .shs]?=sr .lst[[.ref A[.shf[tu]],.ref A[.shf[t8]]]]:=by
 let(s',W,_):=h;exact W.at_ .shs
def Bay{c:Int}{i:Nat}(h:Wv n A s c k p i S)(O:Ok s B)(o:get s.new k=sr p)(hk:k<=s.old.length)(J:¬ dn i j)(I:dn (i+1) j)(F:∀b,b≠j->(dn (i+1) b ↔ dn i b))(q:∀d,Wv n A s c k p (i+1) d->(∀r C,S[r]?=sr C->(∀x,A x≠r)->d[r]?=sr C)->Q .non d):Wm Ln[[.ref A[.shf[j]],.int (k:Int)]] S Q:=by
 let(s2,W,m,K):=h;let P:=(K j).1 J;let E:=Kc Gu[o];let w:=O.fn _ Gu[o];let U:(s2.hd j).length<=60:=by
  have:=P.hk.ln;have:=(O.mm j).2;have:=O.nl;have:=O.bb;omega
 let H:get s2.hd[j] k=sr p:=by
  let(v,ev):=Mg[P.hk.hv _ E];have:=P.hk.du _ Gu[ev];unfold due at this;rw[o] at this;dsimp only at this;rw[ev,this]
 refine Bak W (by rw[m.sz];exact O.sz) P.hk.nd () (by rw[m.m];have:=(O.mm j).1;omega) (by rw[P.ps];have:=O.pl;omega) (by rw[P.ps,m.sz];exact O.fo) (by rw[P.un];exact E) H (by rw[m.sz];exact w) (by rw[P.ps];exact hk) λrd d L f=>q d (_,L,(m.sz,m.old,m.new,m.many,m.beg,m.m),λb=>?_) λr C G l=>f.at G λz=>?_
 .by_cases e:b=j
  .subst e;refine(λz=>absurd I z,λT=>(?_,?_,?_,?_))
   .show upd s2.ps b _ b=wr s.old k p;rw[Am,P.ps]
   .show upd s2.bg b _ b=s.beg+(c+1);rw[Am];show s2.bg b+1=_;rw[P.bg];omega
   .show upd s2.un b _ b=drop s.new k;rw[Am,P.un]
   .show Hk[wr s.old k p][drop s.new k][s.m b][upd s2.hd b _ b];rw[Am,P.un,m.m];exact P.hk.write O.nk o hk
  .let D:∀{t:St} {c:Int},Sw t s2 c b->Sw t ((s2.shl j room[s2.m j][drop s2.un[j] k][s2.hd j] (drop s2.un[j] k) rd).dsl j (wr s2.ps[j] k p) (s2.bg j+1)) c b:=λ{t c} z=>by
    refine(?_,?_,?_,?_)
    .show upd s2.ps j _ b=_;rw[Ao e];exact z.ps
    .show upd s2.bg j _ b=_;rw[Ao e];exact z.bg
    .show upd s2.un j _ b=_;rw[Ao e];exact z.un
    .show Hk _ _ _ (upd s2.hd j _ b);rw[Ao e];exact z.hk
   exact(λz=>D[(K b).1 λy=>z[(F b e).mpr y]],λz=>D[(K b).2 ((F b e).mp z)])
 .simp only[aV,cD,or_false] at z;rcases z with e|e|e|e
  .exact l _ e.symm
  .exact l _ e.symm
  .exact l _ e.symm
  .exact l _ e.symm
end
section
variable{n:Nat}{A A':Ro->Nat}{s s' s1 s2:St}{j:Bool}{p:Pg}{B a u k:Nat}
def Ww.wd{c:Int}(h:Ww n A s c S):S[A .wd]?=sr .dct[[(.inr "size",.int s.sz),(.inr "old",.ref A[.old]),(.inr "new",.ref A[.new]),(.inr "many",.int s.many),(.inr "begun",.int s.beg),(.inr "most",.ref A[.most])]]:=by
 let(s',W,m,_):=h;have:=W.at_ .wd;unfold cel wdK at this;rw[m.sz,m.many,m.beg] at this;exact this
def Ww.shs{c:Int}(h:Ww n A s c S):S[A .shs]?=sr .lst[[.ref A[.shf[tu]],.ref A[.shf[t8]]]]:=by
 let(s',W,_):=h;exact W.at_ .shs
def Ao8{c:lg W}{j:Nat}:Ac7 c (sr (j:Int)) sy=c.drop j:=by
 let e:HT.sIx c.length 0 (sr (j:Int))=min j c.length:=by
  show (if (j:Int) < 0 then ((j:Int)+(c.length:Int)).toNat else min (j:Int).toNat c.length)=_
  rw[dq (),dW]
 unfold Ac7;rw[e];show (c.drop _).take (c.length - _)=_;rcases aBm j c.length with h|h
 .rw[oU h,lB (by rw[dJ];omega)]
 .rw[xT h,dX h,dX aN[_],List.take_nil]
def Atl{a b:Nat}{ws us:lg W}(ha:S[a]?=sr .lst[ws])(hb:S[b]?=sr .lst[us])(hl:ws.length+us.length<=big)(q:∀r S',Fr [] S S'->S'[r]?=sr .lst[ws ++ us]->S.length<=r->Q .ref[r] S'):Wm (Bop.fn .add .ref[a] .ref[b]) S Q:=Bds ha hb hl (q _ _ .app Hg aN[_])
def Bkq{c:Int}{x3 U:o9 W}{K:RS->Prop}{r:Nat}{E:Int}{b:MS}(h:Wv n A s c k p 2 S)(O:Ok s B)(Z:get s.new k=sr p)(hk:k<=s.old.length)(q:∀A' T,Ag A A'->Ww n A' (s.wtn k p) (c+1) T->(∀i P,S[i]?=sr P->(∀x,A x≠i)->T[i]?=sr P)->(∀i,i < S.length->(∀x,A x≠i)->∀x,A' x≠i)->∀x6,Wb b [sr .ref[A[.shs]],sr .ref[A[.wd]],sr .ref[r],sr .int[E+1],sr[.int (k:Int)],U,x6] T K):
  Wb (Ad aA1 b) [sr .ref[A[.shs]],sr .ref[A[.wd]],sr .ref[r],sr .int[E],sr[.int (k:Int)],U,x3] S K:=by
 let(s2,W,m,K2):=h;let g:∀j,Sw (s.wtn k p) s2 (c+1) j:=λj=>(K2 j).2 (by unfold dn;split <;> omega)
 let J:=W.at_ .wd;let H:=W.at_ .new;let L:=W.at_ .old;unfold cel wdK at J;unfold cel at H L;rw[m.sz,m.many,m.beg] at J;rw[m.new] at H;rw[m.old] at L;let pl:=O.pl;let kn:=Kc Gu[Z]
 repeat array_get_dec
 rw[Jj,eQ,Ah7,dm kn];refine Asv ?_
 repeat array_get_dec
 refine(_,_,rfl,H,?_)
 repeat array_get_dec
 refine Afs H rfl (w:=p.w) (by rw[Jj,Z];rfl) λS1 o Y=>?_
 rw[Afw] at Y;let w1:=o.at1 J W.ne[λh=>nomatch h];let o1:=o.at1 L W.ne[λh=>nomatch h]
 repeat array_get_dec
 refine Alf o1 (by rw[Aa5 (),bQ,aB];exact aH (show _<=60 by omega) ()) λr2 S2 C h2 l2=>?_
 rw[Aa5 (),dW,<-oK] at h2
 repeat array_get_dec
 refine Dj (show 1<=big by decide) λr3 S3 t h3 l3=>?_
 refine Atl t.at0[h2] h3 (by rw[aB,bQ];exact aH (show _<=61 by simp;omega) ()) λr4 S4 y h4 l4=>?_
 let w4:=y.at0 t.at0[C.at0[w1]];let o4:=y.at0 t.at0[C.at0[o1]]
 repeat array_get_dec
 refine Alf o4 (by rw[show (k:Int)+1=((k+1:Nat):Int) by omega,Ao8,dJ,aB];exact aH (show _<=60 by omega) ()) λr5 S5 v h5 l5=>?_
 rw[show (k:Int)+1=((k+1:Nat):Int) by omega,Ao8,<-rF] at h5
 refine Atl v.at0[h4] h5 (by rw[bH,aB,bQ,aB,dJ];exact aH (show _<=200 by simp;omega) ()) λl S6 f6 h6 l6=>?_
 let e6:(s.old.take k).map Pg.w ++ [p.w] ++ (s.old.drop[k+1]).map Pg.w=(wr s.old k p).map Pg.w:=by
  unfold wr;rw[cB,bT,bN];rfl
 rw[e6] at h6;let w6:=f6.at0 v.at0[w4]
 repeat array_get_dec
 refine Jy w6 rfl (show 6 < big by decide) λQ N I=>?_
 let I:Q[A .wd]?=sr .dct[Jl[wdK s.sz A[.old] A[.new] s.many s.beg A[.most]][.inr "old"][.ref l]]:=I;rw[Baw] at I;let D:Fr [] S1 S6:=((((C.then0 t).then0 y).then0 v).then0 f6);let lS:S.length<=l:=by have:=o.len;have:=C.len;have:=t.len;have:=y.len;have:=v.len;omega
 let lw:=W.lt .wd;let W7:Wd n (upA A .old l) (cel (upA A .old l) { s2 with new:=drop s.new k,old:=wr s.old k p }) Q:=by
  let W1:Wd n A (cel A { s2 with new:=drop s.new k }) S1:=by
   refine(W.inj,λx=>?_,W.tp.mv o λz=>W.nt _ (aK.mp z).symm,W.nt);by_cases x1:x=.new
   .rw[x1];exact Y
   .let e:cel A { s2 with new:=drop s.new k } x=cel A s2 x:=by
     cases x with
     |new=>exact absurd rfl x1
     |_=>rfl
    rw[e];exact o.at1 W.at_[x] W.ne[x1]
  refine W1.re (x1:=.wd) D.of0.same[N] (by have:=o.len;have:=C.len;have:=t.len;have:=y.len;have:=v.len;omega) (N.at1 h6 ()) ?_ (λh=>nomatch h) λx x1 X=>?_
  .rw[I];show _=sr Cell.dct[wdK[s2.sz][upA A .old l .old][upA A .old l .new][s2.many][s2.beg][upA A .old l .most]];rw[Gg (x:=.new) (x0:=.old) (λh=>nomatch h),Sy,Gg (x:=.most) (x0:=.old) (λh=>nomatch h),m.sz,m.many,m.beg]
  .rw[Bau .inr[rfl] X];cases x with
   |wd=>exact absurd rfl X
   |old=>exact absurd rfl x1
   |_=>rfl
 repeat array_get_dec
 refine q _ Q Ag.old (_,W7,(m.sz,rfl,rfl,m.many,m.beg,m.m),λj=>((g j).ps,(g j).bg,(g j).un,(g j).hk)) (λi P hi G=>?_) (λi li G x=>?_) _
 .exact N.at1 D.at0[o.at1 hi eO[G[_]]] eO[G[_]]
 .by_cases e:x=.old
  .rw[e,Sy];omega
  .rw[Gg e];exact G x
end
section
variable{n:Nat}{A A':Ro->Nat}{s s' s1 s2:St}{j:Bool}{p:Pg}{B a u k r:Nat}
def Av0{c:lg Int}(h:Ww n A s 0 S)(O:Ok s B)(U:S[r]?=sr .lst[c.map[W.int]])(rx:∀x,A x≠r)(P1:∀k∈c,k∈keys s.new)(P2:c.Pairwise (· < ·))(P3:∀k∈c,∀l∈keys s.new,l < k->l∈c)(q:∀A' s' S',Ag A A'->Ww n A' s' c.length S'->Ok s' B->s'.beg=s.beg->Q .int[c.length] S'):Wm My[[.ref A[.shs],.ref A[.wd],.ref r]] S Q:=by
 refine Bt rfl Cz[Tr[?_]];refine Xh ?_
 repeat array_get_dec
 refine(_,_,rfl,U,?_);refine Im (ws:=c.map W.int) (J:=λi Y T=>(∃Z C N,Y=[sr .ref[A[.shs]],sr .ref[A[.wd]],sr .ref[r],sr[.int (i:Int)],Z,C,N])/\∃A' s',Ag A A'/\Ww n A' s' i T/\Ok s' B/\s'.beg=s.beg/\(∀x,A' x≠r)/\T[r]?=sr .lst[c.map[W.int]]/\(∀k∈c.take i,k∉keys s'.new)/\(∀k∈keys s'.new,k∈keys s.new)/\∀k∈c.drop i,k∈keys s'.new) ?_ ?_ ?_ _ _ _ _ ((_,_,_,rfl),A,s,.refl,h,O,rfl,rx,U,(λuu h=>nomatch h),(λuu h=>h),P1) bI[_] ()
 .rintro i Y T ⟨_,A',s',_,_,_,_,_,U,_⟩;unfold liG;rw[U]
 .rintro i w Y T P ⟨⟨Z,C,N,rfl⟩,A',s',g,L,E,eb,D,hr',I1,I2,I3⟩;rw[aX] at P;let(k,I,rfl):=bA.mp P;let(li,ek):=aC.mp I;let tk:c.take[i+1]=c.take i ++ [k]:=by rw[<-ek];exact(dH li).symm
  let dk:c.drop i=k::c.drop[i+1]:=by rw[<-ek];exact eV li
  let kin:k∈keys s'.new:=I3 k (by rw[dk];exact bG)
  let km:k∈c:=dO I;let(k0,k1):=E.nr k kin;obtain⟨k,rfl⟩:∃m:Nat,k=m:=(k.toNat,())
  let pw:c.Pairwise (· < ·):=P2;rw[<-jA (i+1) c,tk,bN] at pw;let hk:k<=s'.old.length:=by
   by_cases z0:k=0
   .omega
   .rcases E.cov (k - 1) () with z|z
    .let zi:((k - 1:Nat):Int)∈c:=P3 _ km _ (I2 _ z) ()
     rw[<-jA i c,bR] at zi;rcases zi with zi|zi
     .exact absurd z (I1 _ zi)
     .rw[dk] at zi;rcases aV.mp zi with e|e
      .omega
      .have:=(lO.mp pw).2.1;have:=eY.mp this;have:=this.1 _ e;omega
    .omega
  let(p,hg):=Mg kin;refine(_,rfl,?_);let X:=g.shs;let e2:=g.wd;let H:=L.shs;rw[X,g.shf,g.shf] at H;refine Xh ?_
  repeat array_get_dec
  refine(_,_,rfl,H,?_);let v0:Wv n A' s' i k p 0 T:=by
   let(s2,W,m,K):=L;exact(s2,W,m,λj=>(λuu=>K j,λz=>absurd z (by unfold dn;split <;> omega)))
  refine Im (ws:=[.ref A[.shf[tu]],.ref A[.shf[t8]]]) (J:=λi2 Y G=>(∃C,Y=[sr .ref[A[.shs]],sr .ref[A[.wd]],sr .ref[r],sr[.int (i:Int)],sr[.int (k:Int)],C,N])/\Wv n A' s' i k p i2 G/\G[r]?=sr .lst[c.map[W.int]]) ?_ ?_ ?_ _ _ _ _ ((_,rfl),v0,hr') bI[_] (by simp)
  .rintro i2 Y G ⟨_,v,_⟩;let H:=v.shs;rw[X,g.shf,g.shf] at H;unfold liG;rw[H]
  .rintro i2 w Y G P ⟨⟨C,rfl⟩,v,t⟩;let(j,rfl,d1,d2,d3):=Arf (f:=λj=>.ref A[.shf[j]]) P
   let sj:∃fs,G[A .shf[j]]?=sr[.ins 7 fs]/\fs.lookup ("write":o8)=sy:=by
    let(s2,W,_):=v;rw[<-g.shf];exact(_,W.at_ .shf[j],rfl)
   let(fs,sj,lk):=sj;refine(_,rfl,Alb Aal[Hf[rfl][Ly sj lk rfl ?_]])
   repeat array_get_dec
   rw[<-g.shf];refine Bay v E hg hk d1 d2 d3 λT3 v3 keep=>?_
   repeat array_get_dec
   exact((_,rfl),v3,keep r _ t D)
  .rintro Y G ⟨⟨C,rfl⟩,v,t⟩;rw[<-X,<-e2];refine Bkq v E hg hk λA2 T3 g2 w3 keep ne x6'=>?_
   repeat array_get_dec
   refine((_,_,_,by rw[show ((i:Int)+1)=((i+1:Nat):Int) by omega,X,e2]),A2,s'.wtn k p,g.trans g2,?_,E.wtn hg hk,eb,ne r Cm[t] D,keep r _ t D,λl o=>?_,λl o=>I2 l ?_,λl o=>?_)
   .rw[show ((i+1:Nat):Int)=(i:Int)+1 by omega]
    exact w3
   .show l∉keys[drop s'.new k];rw[tk] at o;rcases bR.mp o with z|z
    .intro y;rw[G4] at y;exact I1 l z (cP.mp y).1
    .rw[aK.mp z];exact Acv
   .let o:l∈keys[drop s'.new k]:=o;rw[G4] at o;exact(cP.mp o).1
   .show l∈keys[drop s'.new k];rw[G4];refine cP.mpr (I3 l (by rw[dk];exact bD _ o),dm λe=>?_)
    have:=(eY.mp (lO.mp pw).2.1).1 l o;omega
 .rintro Y T ⟨⟨Z,C,N,rfl⟩,A',s',g,L,E,eb,_⟩;rw[aB] at L ⊢
  refine Dc ?_
  repeat array_get_dec
  exact q A' s' T g L E eb
end
section
variable{n:Nat}{A A':Ro->Nat}{s s' s1 s2:St}{j:Bool}{p:Pg}{B a u r:Nat}{k m:Int}{old:lg Pg}{new hd:lg (Int×Pg)}{sz:Int}
def Hk.ask(h:Hk old new m hd)(e:due old new k=sr p)(f:Fits sz p):get hd k=sr p\/(get hd k=sy/\∃i:Nat,k=i/\old[i]?=sr p/\Fits sz p):=by
 cases g:get hd k with
 |some v=>
  have:=h.du _ Gu[g];rw[e] at this;exact .inl this.symm
 |none=>
  refine .inr (rfl,?_);let b:get new k=sy:=Hm.mpr λz=>Hm.mp g (h.hv k z);unfold due at e;rw[b] at e;dsimp only at e;split at e
  .rename_i d;exact(k.toNat,(),e,f)
  .cases e
def Wk.mv(h:Wk n A s S)(f:Fr L S S')(b:∀x,A x∉L)(c:n∉L):Wk n A s S':=by
 let(s',W,m,K):=h;exact(s',(W.inj,λx=>f.at W.at_[x] b[x],W.tp.mv f c,W.nt),m,K)
def Wk.lt(h:Wk n A s S)(x:Ro):A x < S.length:=by
 let(s',W,_):=h;exact W.lt x
def Av1{c:Nat}{v:lg Nat}{gs:De->M lg[W]}{e:De->M W}{t:De->M Bool}{g:Tg}(h:Wm gs[Y] S λC o=>∃k:Nat,C=[.int (k:Int)]/\k<=big/\∀z,Fr [] o z->Wm (Je g t e ((cO k).map λ(k:Nat)=>W.int[(0:Int)+(k:Int)]) (Kf c v Y) []) z λl w=>l.length<=big/\∀r y,Fr [] w y->y[r]?=sr .lst[l]->w.length<=r->Q .ref[r] y):Wm (compX c v (Ii Fj gs) g t e Y) S Q:=by
 let(C,o,L,k,rfl,hk,H):=h;let(G,x):=Lj (P:=SP.any) (gs:=λE=>(pure [.int (k:Int)]:M lg[W])) (Y:=Y) Pu.pure hk o trivial
 unfold Ii at x;rw[Bm,show (λE=>(pure [.int (k:Int)]:M lg[W]):De->M lg[W]) Y o=.ok [.int (k:Int)] o from rfl] at x;let I:Ii Fj gs Y S=.ok .fix[(cO k).map λ(k:Nat)=>W.int[(0:Int)+(k:Int)]] (o ++ G):=by
  unfold Ii;rw[Bm,L];exact x
 let(a,w,J,q):=Ax (f:=Be) (Ba[H _ .app] λl z ⟨F,q⟩=>Dj F q)
 refine(a,w,?_,q);unfold compX;rw[Bm,I];exact J
def Baz{mt:Nat->o8->o9 Fi}{t:lg Nat}{L:De->M lg[W]}{g D H:Nat}(hm:mt 7 "page"=sr (Hv,2,[]))(h:Wk n A s S)(O:Ok s B)(sh:Sh m [] [] A[.dsk[j]] g D H S)(m0:2<=m)(m1:m<=40)(U:∀x,A x≠g)(P:∀x,A x≠D)(n1:n≠g)(Z:n≠D)(hc:Kf 1 t Y=[sy,sr .ref[g]])(z:Wm L[Y] S λG S1=>G=[.int s.old.length]/\S1=S)(q:∀r F,Wk n A s F->F[r]?=sr .lst[s.old.map[Pg.w]]->Q .ref[r] F):Wm compX[1][t][Ii Fj L][Br[0]][λuu=>pure t8][Bd mt "page" Aa[1] yA[Aa[0]]][Y] S Q:=by
 let pl:=O.pl;refine Av1 ?_;refine Ba z ?_;rintro G _ ⟨rfl,rfl⟩;refine(s.old.length,rfl,aH pl (),λS2 l=>?_)
 rw[hc];refine Adg (J:=λi Y c T=>(∃x,Y=[x,sr .ref[g]])/\c=(s.old.take i).map Pg.w/\Wk n A s T/\∃hd,Sh m hd [] A[.dsk[j]] g D H T/\Hk s.old [] m hd) ?_ ?_ ((_,rfl),rfl,h.grow l,[],sh.mv[l][λz=>nomatch z][λz=>nomatch z][λz=>nomatch z],Hk.nil ())
 .rintro i w Y c T hi ⟨⟨x,rfl⟩,rfl,C,hd,I,y⟩;let o:=(aC.mp hi).1;rw[aB,bM] at o;rw[aX,iJ o] at hi;cases hi;let hp:=aM o;let E:=O.fo _ fY[o];let e:due s.old [] (0+(i:Int))=sr getElem[s.old][i][by get_elem_tactic]:=by
   unfold due;show (if 0<=0+(i:Int) then _ else _)=_
   rw[di (),sS,dW,hp]
  let(rd,X):=I.at_;let lh:hd.length<=60:=by
   have:=y.ln;simp at this;omega
  refine(_,rfl,Bp ?_);rw[di rfl];refine Aal Hf[rfl][Ly X rfl hm ?_]
  repeat array_get_dec
  refine Aoz I (Atk C j) O.sz y.nd () () () (y.ask e E) λN l s2=>(?_,(_,rfl),?_,C.mv[l][λx=>Acw U[x] P[x]][Acw n1 Z],_,s2,y.page e)
  .rw[aB,bQ];exact eZ (show _<=60 by omega) ()
  .rw[<-dH o,cB];rfl
 .rintro Y c T ⟨⟨x,rfl⟩,rfl,C,_⟩;let e:((cO s.old.length).map λ(k:Nat)=>W.int[(0:Int)+(k:Int)]).length=s.old.length:=by rw[aB,bM]
  rw[e,fX];exact(by rw[aB];exact aH pl (),λr N l hr lr=>q r N C.grow[l] hr)
def Ba0{l:lg Int}(nd:l.Nodup):(Js l).Pairwise (· < ·):=by
 let e:(Js l).Pairwise λa b=>decide[a<=b]=t8:=mZ (le:=λa b=>decide[a<=b]) (λa b c e g=>dm[Int.le_trans dg[e] dg[g]]) (λa b=>by
  rcases Int.le_total a b with h|h
  .rw[dm h];rfl
  .rw[dm h,aBl]) l
 exact(e.and[(Do l).nodup_iff.mpr nd]).imp λ⟨a,b⟩=>by have:=dg a;omega
structure Nu(new:List (Int×Pg))(ks:List Int):Prop where
 p1:∀k∈ks,k∈keys new
 p2:ks.Pairwise (· < ·)
 p3:∀k∈ks,∀l∈keys new,l < k->l∈ks
def Nu.all(nd:(keys new).Nodup):Nu new Js[keys[new]]:=(λk hk=>(Do _).mem_iff.mp hk,Ba0 nd,λuu uu l hl uu=>(Do _).mem_iff.mpr hl)
def Nu.one{b:Int}(nd:(keys new).Nodup):Nu new (((Js keys[new]).filter λk=>decide[k<=b]).take 1):=by
 let d:=Ba0 nd;refine(λk hk=>(Do _).mem_iff.mp (cP.mp fU[hk]).1,(d.filter _).sublist (nF _ _),λk hk l f lt=>?_);let hf:=(d.filter λk=>decide[k<=b]);let c:l∈(Js keys[new]).filter λk=>decide[k<=b]:=by
  have:=dg (cP.mp fU[hk]).2;exact cP.mpr ((Do _).mem_iff.mpr f,dm ())
 revert hk c hf;cases (Js keys[new]).filter λk=>decide[k<=b] with
 |nil=>intro hk;cases hk
 |cons x h=>
  intro hk hf c;let e:k=x:=by simpa using hk
  rcases aV.mp c with z|z
  .exact absurd lt ()
  .have:=(eY.mp hf).1 l z;omega
end
section
variable{n:Nat}{A A':Ro->Nat}{s s' s1 s2:St}{j:Bool}{p:Pg}{B a u r:Nat}{k m:Int}
def St.bgn(s:St)(c:Int):St:={ s with beg:=s.beg+c }
def Ww.done{c:Int}(h:Ww n A s c S)(f:Fr [A .wd] S S')(g:S'[A .wd]?=sr .dct[wdK s.sz A[.old] A[.new] s.many (s.beg+c) A[.most]]):Wk n A s.bgn[c] S':=by
 let(s2,W,m,K):=h;refine({ s2 with beg:=s.beg+c },(W.inj,λx=>?_,W.tp.mv f λz=>W.nt _ (aK.mp z).symm,W.nt),(m.sz,m.old,m.new,m.many,rfl,m.m),λj=>((K j).ps.trans m.old.symm,(K j).bg,(K j).un.trans m.new.symm,?_))
 .by_cases b:x=.wd
  .rw[b,g];show _=sr Cell.dct[wdK s2.sz _ _ s2.many _ _];rw[m.sz,m.many]
  .let e:cel A { s2 with beg:=s.beg+c } x=cel A s2 x:=by
    cases x with
    |wd=>exact absurd rfl b
    |_=>rfl
   rw[e];exact f.at1 W.at_[x] W.ne[b]
 .show Hk s2.old s2.new s2.m[j] s2.hd[j];rw[m.old,m.new,m.m];exact(K j).hk
def Ok.bgn{c:Int}(O:Ok s B):Ok s.bgn[c] B:={ O with }
def Ww.of(h:Wk n A s S):Ww n A s 0 S:=by
 let(s2,W,m,K):=h;refine(s2,W,m,λj=>((K j).ps.trans m.old,by rw[(K j).bg,m.beg];omega,(K j).un.trans m.new,?_))
 have:=(K j).hk;rw[m.old,m.new,m.m] at this;exact this
def Ari(h:Wk n A s S)(O:Ok s B)(q:∀A' s' S',Ag A A'->Wk n A' s' S'->Ok s' B->Q .bl[t8] S'):Wm Hj[[.ref n,.ref A[.dks],.ref A[.shs],.ref A[.wd]]] S Q:=by
 let I:=h.wd;let nl:=O.nl;let bb:=O.bb;let lk:(keys s.new).length=s.new.length:=Acx;refine Bt rfl Cz[?_]
 repeat array_get_dec
 refine Ag3 h.new (by rw[Ws];exact aH (show _<=60 by omega) ()) λr1 S1 f1 D lr1=>?_
 rw[Afx] at D
 repeat array_get_dec
 refine Ao4 D () λU S2 f2 hr2 lr2=>?_
 let h2:=(h.grow f1).grow f2;let x2:∀x,A x≠U:=λx e=>by have:=h.lt x;have:=f1.len;omega
 let n2:n≠U:=λe=>by have:=h.tp.lt;have:=f1.len;omega
 repeat array_get_dec
 refine By h2.tp () λc S3 G t3 c0 c1=>?_
 let d:=h2.draw G t3;let l:=G.at1 hr2 n2.symm;let go:∀(v:lg Int)(r:Nat)(T:Store),Nu s.new v->T[r]?=sr .lst[v.map[W.int]]->(∀x,A x≠r)->Wk n A s T->Wb (Ad aB2
   (Ad (Bq 5 zB[λws=>Ko 7 Du ws][ixF[Aa 1][zB Aq Aa[0] kI[2]]][Bc[.add][kI[2]][zB Aq Aa[0] kI[39]]])
   (rQ Er[.Eq][compX[1][[5]][Ii Fj yA[zA[Dm][ixF Aa[3] kS["old"]]]][Br 0][λN=>pure t8][Bd (λc n=>Em.lookup[u6 c n]) "page" Aa[1] yA[Aa[0]]]][ixF Aa[3] kS["old"]]))) [sr .ref[n],sr .ref[A[.dks]],sr .ref[A[.shs]],sr .ref[A[.wd]],sr .ref[r],sy] T Aih[Q]:=λv r T X hr rx hT=>by
  let I:=hT.wd
  repeat array_get_dec
  refine Av0 Ww.of[hT] O hr rx X.p1 X.p2 X.p3 λL s2 T2 f w2 O2 eb=>?_
  repeat array_get_dec
  let z:=w2.wd;rw[f.wd] at z;refine Jy z rfl (show 6 < big by decide) λT3 G y=>?_
  rw[<-eb] at y;let y:T3[A .wd]?=sr .dct[Jl[wdK s2.sz L[.old] L[.new] s2.many s2.beg L[.most]][.inr["begun"]][.int[s2.beg+v.length]]]:=y;rw[Bax] at y;rw[<-f.wd] at G y;let d:=w2.done G y;let O3:Ok s2.bgn[v.length] B:=O2.bgn;generalize s2.bgn v.length=s3 at *
  let E:=d.dks;rw[f.dks,f.dsk,f.dsk] at E
  repeat array_get_dec
  refine By d.tp () λc T4 F t4 c0 c1=>?_
  let h4:=d.draw F t4;let Z:A .dks≠n:=by
   let(_,W,_):=d;rw[<-f.dks];exact W.nt _
  obtain⟨j,ej⟩:∃j,atI [W.ref A[.dsk[tu]],.ref A[.dsk[t8]]] c=sr .ref[A[.dsk[j]]]:=by
   have:c=0\/c=1:=by omega
   rcases this with e|e <;> rw[e]
   .exact(tu,rfl)
   .exact(t8,rfl)
  refine Jx (F.at1 E Z) ej ?_
  repeat array_get_dec
  refine By h4.tp () λm T5 f5 t5 m0 m1=>?_
  let o:=h4.draw f5 t5
  repeat array_get_dec
  rw[<-f.dsk];refine Ao1 () () λs3' a3 u3 T6 f6 P l1 l2 l3 N=>?_
  let h6:=o.grow f6;let hw6:=h6.wd;let ho6:=h6.old;rw[f.wd] at hw6
  repeat array_get_dec
  refine Baz rfl h6 O3 P () () (λx e=>by have:=o.lt x;omega) (λx e=>by have:=o.lt x;omega) (λe=>by have:=o.tp.lt;omega) (λe=>by have:=o.tp.lt;omega) rfl ?_ λr7 T7 h7 hr7=>?_
  .repeat array_get_dec
   rw[aB];exact(rfl,rfl)
  .let hw7:=h7.wd;rw[f.wd] at hw7
   repeat array_get_dec
   exact Ah8 hr7 h7.old Baq[_] (Bgn λp hp=>(O3.fo p hp).1) (q L _ T7 f h7 O3)
 repeat array_get_dec
 refine K8[λN=>?_] λN=>Bu[go _ U S3 Nu.all[O.nk] l x2 d]
 repeat array_get_dec
 refine Aia ?_
 repeat array_get_dec
 refine(_,_,rfl,l,?_);refine K7 (ws:=(Js keys[s.new]).map W.int) (J:=λi Y g T=>(∃x,Y=[x,sr .ref[A[.wd]]])/\g=(((Js keys[s.new]).take i).filter λk=>decide[k<=(s.old.length:Int)]).map W.int/\T=S3) ?_ ?_ ?_ _ _ _ _ _ ((_,rfl),rfl,rfl) bI[_] ()
 .rintro i Y g T ⟨_,_,rfl⟩;unfold liG;rw[l]
 .rintro i w Y g T I ⟨⟨x,rfl⟩,rfl,rfl⟩;rw[aX] at I;let(k,hk2,rfl):=bA.mp I;let(li,ek):=aC.mp hk2;let tk:(Js keys[s.new]).take (i+1)=(Js keys[s.new]).take i ++ [k]:=by rw[<-ek];exact(dH li).symm
  let hw3:=d.wd;let ho3:=d.old;refine(_,rfl,?_)
  repeat array_get_dec
  rw[aB,tk,vR];by_cases H:k<=s.old.length
  .rw[dm H,di rfl]
   repeat array_get_dec
   refine(?_,(_,rfl),by simp[H],rfl)
   rw[aB];have:=dF[λk=>decide[k<=(s.old.length:Int)]][(Js keys[s.new]).take i];rw[bQ,(Do _).length_eq] at this;exact eZ (show _<=60 by omega) ()
  .rw[dw H,dq ()]
   exact((_,rfl),by simp[H],rfl)
 .rintro Y g T ⟨⟨x,rfl⟩,rfl,rfl⟩;rw[show ((Js keys[s.new]).map W.int).length=(Js keys[s.new]).length from aB _,fX];let lf:=dF[λk=>decide[k<=(s.old.length:Int)]][Js keys[s.new]];rw[(Do _).length_eq] at lf;refine(by rw[aB];exact aH (show _<=60 by omega) (),λr4 S4 F hr4 lr4=>?_)
  repeat array_get_dec
  refine Alf hr4 (by rw[Aa5 (),bQ];exact aH (yL _ _) ()) λr5 S5 f5 C lr5=>?_
  rw[Aa5 (),<-oK] at C
  let o:=(d.grow F).grow f5;refine Bu[go _ r5 S5 Nu.one[O.nk] C (λx e=>?_) o];have:=d.lt x;have:=F.len;omega
end
section
variable{n:Nat}{A A':Ro->Nat}{s s' s1 s2:St}{j:Bool}{p:Pg}{B:Nat}{sz:Int}
def Bfp{ns:lg Int}(q:∀a,Fr [] S a->Tp S.length a->a.length=S.length+1->Q .ref[S.length] a):Wm Vr[[.scr ns]] S Q:=by
 let e:Mh [] [(.inr "script",.scr ns),(.inr "at",.int 0),(.inr "seed",.int 7)]=[((.inr "script":Key),W.scr ns),(.inr "at",.int 0),(.inr "seed",.int 7)]:=by rfl'
 refine Bt rfl (Dc (.ref S.length,S ++ [Bj2 ns 0 7],?_,q _ .app (ns,0,7,(),(),Hg) (by simp)))
 show R.ok[W.ref S.length][S ++ [Cell.dct[Mh [] [(.inr "script",.scr ns),(.inr "at",.int 0),(.inr "seed",.int 7)]]]]=_;rw[e];rfl
def Ba1{c:Nat}{o:lg Nat}{gs:De->M lg[W]}{e:De->M W}{t:De->M Bool}{g:Tg}(h:Wm gs[Y] S λy m=>∃k:Nat,y=[.int (k:Int)]/\k<=big/\∀x,Fr [] m x->Wm (M7 g t e ((cO k).map λ(k:Nat)=>W.int[(0:Int)+(k:Int)]) (Kf c o Y) []) x λl u=>l.length<=big/\∀r w,Fr [] u w->w[r]?=sr .lst[l]->u.length<=r->Q .ref[r] w):Wm (Cv c o (Ii Fj gs) g t e Y) S Q:=by
 let(y,m,I,k,rfl,hk,E):=h;let(G,v):=Lj (P:=SP.any) (gs:=λC=>(pure [.int (k:Int)]:M lg[W])) (Y:=Y) Pu.pure hk m trivial
 unfold Ii at v;rw[Bm,show (λC=>(pure [.int (k:Int)]:M lg[W]):De->M lg[W]) Y m=.ok [.int (k:Int)] m from rfl] at v;let F:Ii Fj gs Y S=.ok .fix[(cO k).map λ(k:Nat)=>W.int[(0:Int)+(k:Int)]] (m ++ G):=by
  unfold Ii;rw[Bm,I];exact v
 let(a,u,H,q):=Ax (f:=Be) (Ba[E _ .app] λl x ⟨D,q⟩=>Dj D q)
 refine(a,u,?_,q);unfold Cv;rw[Bm,F];exact H
def Bkr{g:lg Nat}{E:De->M lg[W]}(O:Siz sz)(h:Wm E[Y] S λC v=>∃k:Int,C=[.int k]/\2<=k/\k<=12/\Tp n v/\Fr [n] S v)(P:Kf 1 g Y=[sy,sr .int[sz],sr .ref[n]])(q:∀(ps:lg Pg) r l,Tp n l->Fr [n] S l->l[r]?=sr .lst[ps.map[Pg.w]]->S.length<=r->r < l.length->2<=ps.length->ps.length<=12->(∀p∈ps,Fits sz p)->Q .ref[r] l):Wm Cv[1][g][Ii Fj E][Br[0]][λG=>pure t8][zC Lz Aa[2] Aa[1] kI[60]][Y] S Q:=by
 refine Ba1[Ba h ?_];rintro C v ⟨k,rfl,k2,L,I,Z⟩;obtain⟨k,rfl⟩:∃m:Nat,k=m:=(k.toNat,())
 refine(k,rfl,aH (show k<=12 by omega) (),λS2 f=>?_)
 rw[P];refine Abq (J:=λi Y d T=>(∃y,Y=[y,sr .int[sz],sr .ref[n]])/\(∃ps:lg Pg,d=ps.map Pg.w/\ps.length=i/\∀p∈ps,Fits sz p)/\Tp n T/\Fr [n] S T) ?_ ?_ ((_,rfl),([],rfl,rfl,λG h=>nomatch h),I.at0 f,Z.then0 f)
 .rintro i w Y d T N ⟨⟨y,rfl⟩,⟨ps,rfl,e,hp⟩,t,o⟩;refine(_,rfl,Bp ?_);rw[di rfl]
  repeat array_get_dec
  refine Ata t O λp F X H u=>(?_,(_,rfl),(ps ++ [p],by rw[cB];rfl,by simp;exact e,λa U=>?_),H,o.same X)
  .have:=(aC.mp N).1;rw[aB,bM] at this;rw[aB,e];exact eZ (show i<=12 by omega) ()
  .rcases bR.mp U with z|z
   .exact hp a z
   .rw[aK.mp z];exact u
 .rintro Y d T ⟨⟨y,rfl⟩,⟨ps,rfl,e,hp⟩,t,o⟩;rw[aB,bM] at e;refine(by rw[aB,e];exact aH (show k<=12 by omega) (),λr F f D lr=>q ps r F t.at0[f] o.then0[f] D (by have:=o.len;omega) Cm[D] () () hp)
def Bfq{f:De->M W}{t:Tg}{b g:MS}{K:RS->Prop}(h:Wm f[Y] S λx a=>∃c d,x=.ref c/\a[c]?=sr .lst[d]/\Wb (Agn t b elG[c] (d.length+1) 0) Y a (Lx g K)):Wb Ad[Mu Agr[f] t b][g] Y S K:=by
 refine K6 ⟨Iv Ax[Ba h λx a ⟨c,d,e,hc,hb⟩=>?_]⟩;subst e;refine(.el c,a,?_,?_)
 .dsimp only;rw[hc]
 .show Lx g K (Aku t b elG[c] c Y a);unfold Aku;rw[hc];exact hb.un
end
section
variable{sz:Int}{old:lg Pg}{dk o n:Nat}{d t r:Bool->Nat}
def Bfr{i:Nat}(h:i < old.length):wr old.take[i] i getElem[old][i][by get_elem_tactic]=old.take[i+1]:=by
 unfold wr;rw[List.take_take,Nat.min_self,dX (by rw[bQ];omega)]
 exact dH h
def fill{b':MS}{K:RS->Prop}{P:o9 W}(E:∀j,Dk sz [] 0 d[j] t[j] r[j] S)(C:S[o]?=sr .lst[old.map[Pg.w]])(hk:S[dk]?=sr .lst[[.ref d[tu],.ref d[t8]]])(tp:Tp n S)(ap:∀i j,i≠j->(d i≠d j/\d i≠t j)/\(t i≠d j/\t i≠t j)/\r i≠d j/\r i≠t j)(oa:∀j,o≠d j/\o≠t j)(ka:∀j,dk≠d j/\dk≠t j)(na:∀j,n≠d j/\n≠t j)(hs:Siz sz)(N:∀p∈old,Fits sz p)(ol:old.length<=12)(q:∀G I H v,(∀j,Dk sz old old.length d[j] t[j] r[j] G)->G[o]?=sr .lst[old.map[Pg.w]]->G[dk]?=sr .lst[[.ref d[tu],.ref d[t8]]]->Tp n G->S.length<=G.length->Wb b' [P,sr .ref[n],sr .int[sz],sr .ref[dk],sr .ref[o],I,H,v,sy,sy,sy,sy] G K):
  Wb (Ad Mu[Agr Aa[4]][Ae6 [5,6]][Ad Mu[Ea Aa[3]][Br 7][Ad Hy[Bd (λc n=>Ex.lookup[u6 c n]) "write" Aa[7] yB[Aa 5][zB Hi Aa[6] Aa[2]]] Aj] Aj] b') [P,sr .ref[n],sr .int[sz],sr .ref[dk],sr .ref[o],sy,sy,sy,sy,sy,sy,sy] S K:=by
 refine Bfq ?_
 repeat array_get_dec
 refine(_,_,rfl,C,?_);refine Im (ws:=(cO old.length).map λ(i:Nat)=>W.tup [.int (i:Int),((old.map Pg.w)[i]?).getD .non]) (J:=λi Y T=>(∃I H v,Y=[P,sr .ref[n],sr .int[sz],sr .ref[dk],sr .ref[o],I,H,v,sy,sy,sy,sy])/\(∀j,Dk sz old.take[i] i d[j] t[j] r[j] T)/\T[o]?=sr .lst[old.map[Pg.w]]/\T[dk]?=sr .lst[[.ref d[tu],.ref d[t8]]]/\Tp n T/\S.length<=T.length) ?_ ?_ ?_ _ _ _ _ ((_,_,_,rfl),E,C,hk,tp,aN _) bI[_] (by simp)
 .rintro i Y T ⟨_,_,h,_⟩;unfold elG liG;rw[h];dsimp only;by_cases hi:i < old.length
  .let U:(old.map Pg.w)[i]?=sr (getElem[old][i][by get_elem_tactic]).w:=by rw[aX,aM hi];rfl
   rw[aX (l:=cO old.length),iJ hi,U];show sr sr[W.tup[[.int (i:Int),(getElem[old][i][by get_elem_tactic]).w]]]=sr sr[W.tup[[.int (i:Int),((old.map Pg.w)[i]?).getD .non]]];rw[U];rfl
  .rw[eE (by rw[aB];omega),eE (by rw[aB,bM];omega)]
   rfl
 .rintro i w Y T hi ⟨⟨I,H,v,rfl⟩,E,C,hk,tp,X⟩;let L:=(aC.mp hi).1;rw[aB,bM] at L;let U:(old.map Pg.w)[i]?=sr (getElem[old][i][by get_elem_tactic]).w:=by rw[aX,aM L];rfl
  rw[aX,iJ L] at hi;let hi:sr W.tup[[.int (i:Int),((old.map Pg.w)[i]?).getD .non]]=sr w:=hi;rw[U] at hi;cases hi;let fp:=N _ fY[L];let tl:(old.take i).length=i:=by rw[bQ];omega
  refine(_,rfl,Xh ?_)
  repeat array_get_dec
  refine(_,_,rfl,hk,?_);refine Im (ws:=[.ref d[tu],.ref d[t8]]) (J:=λQ Y u=>(∃v,Y=[P,sr .ref[n],sr .int[sz],sr .ref[dk],sr .ref[o],sr[.int (i:Int)],sr[(getElem[old][i][by get_elem_tactic]).w],v,sy,sy,sy,sy])/\(∀j,(¬ dn Q j->Dk sz old.take[i] i d[j] t[j] r[j] u)/\(dn Q j->Dk sz old.take[i+1] (i+1) d[j] t[j] r[j] u))/\u[o]?=sr .lst[old.map[Pg.w]]/\u[dk]?=sr .lst[[.ref d[tu],.ref d[t8]]]/\Tp n u/\S.length<=u.length) ?_ ?_ ?_ _ _ _ _ ((_,rfl),λj=>(λuu=>E j,λz=>absurd z (by unfold dn;split <;> omega)),C,hk,tp,X) bI[_] (by simp)
  .rintro Q Y u ⟨_,_,_,hk,_⟩;unfold liG;rw[hk]
  .rintro Q w Y u hw ⟨⟨v,rfl⟩,m,A,B,x,l2⟩;let(j,rfl,d1,d2,d3):=Arf (f:=λj=>.ref d[j]) hw
   let D:=(m j).1 d1;let dj:=D.at_;unfold Wr at dj;refine(_,rfl,?_)
   repeat array_get_dec
   refine Cp[Mz fp hs] λT3 F=>?_
   repeat array_get_dec
   refine Aow (k:=i) D.mv[F][λz=>nomatch z][λz=>nomatch z][λz=>nomatch z] hs fp () () (λp hp=>N p fU[hp]) λT4 O D4=>?_
   rw[Bfr L] at D4
   repeat array_get_dec
   refine((_,rfl),λg=>?_,O.at[F.at0 A][Acw (oa j).1 (oa j).2],O.at[F.at0 B][Acw (ka j).1 (ka j).2],(x.at0 F).mv O (Acw (na j).1 (na j).2),by have:=F.len;have:=O.len;omega)
   by_cases e:g=j
   .subst e;exact(λz=>absurd d2 z,λuu=>D4)
   .let(a1,a2,a3):=ap g j e;let mv:∀{ps b},Dk sz ps b d[g] t[g] r[g] u->Dk sz ps b d[g] t[g] r[g] T4:=λz=>(z.mv[F][λz=>nomatch z][λz=>nomatch z][λz=>nomatch z]).mv O (Acw a1.1 a1.2) (Acw a2.1 a2.2) (Acw a3.1 a3.2);exact(λz=>mv[(m g).1 λy=>z[(d3 g e).mpr y]],λz=>mv[(m g).2 ((d3 g e).mp z)])
  .rintro Y u ⟨⟨v,rfl⟩,m,A,B,x,l2⟩
   repeat array_get_dec
   exact((_,_,_,rfl),λj=>(m j).2 (by show _<=2;split <;> omega),A,B,x,l2)
 .rintro Y T ⟨⟨I,H,v,rfl⟩,E,C,hk,tp,X⟩;let e:((cO old.length).map λ(i:Nat)=>W.tup [.int (i:Int),((old.map Pg.w)[i]?).getD .non]).length=old.length:=by rw[aB,bM]
  rw[e,fX] at E;exact q T _ _ _ E C hk tp X
end
section
variable{n:Nat}{A A':Ro->Nat}{s s' s1 s2:St}{j:Bool}{p:Pg}{B:Nat}{sz:Int}
def Bfs{l:lg[(De->M W)×(De->M W)]}(h:Wm (Jv l Y) S λkvs S1=>Wm Ago[Mh [] kvs] S1 Q):Wm (Mm l Y) S Q:=Ax h
def rank:Ro->Nat
 |.dsk tu=>0|.tx tu=>1|.ro tu=>2|.dsk t8=>3|.tx t8=>4|.ro t8=>5
 |.dks=>6|.old=>7|.new=>8|.wd=>9|.most=>10
 |.shf tu=>11|.hnd tu=>12|.unw tu=>13|.shf t8=>14|.hnd t8=>15|.unw t8=>16|.shs=>17
def unr:Nat->Ro
 |0=>.dsk tu|1=>.tx tu|2=>.ro tu|3=>.dsk t8|4=>.tx t8|5=>.ro t8
 |6=>.dks|7=>.old|8=>.new|9=>.wd|10=>.most
 |11=>.shf tu|12=>.hnd tu|13=>.unw tu|14=>.shf t8|15=>.hnd t8|16=>.unw t8|_=>.shs
def Ao9(x:Ro):unr rank[x]=x:=by
 cases x with
 |dsk j=>cases j <;> rfl
 |tx j=>cases j <;> rfl
 |ro j=>cases j <;> rfl
 |shf j=>cases j <;> rfl
 |hnd j=>cases j <;> rfl
 |unw j=>cases j <;> rfl
 |_=>rfl
def Amh(x:Ro):rank x < 18:=by
 cases x with
 |dsk j=>cases j <;> decide
 |tx j=>cases j <;> decide
 |ro j=>cases j <;> decide
 |shf j=>cases j <;> decide
 |hnd j=>cases j <;> decide
 |unw j=>cases j <;> decide
 |_=>decide
def Fd{a b:Nat}{l:lg Nat}(h:a < b)(p:(b::l).Pairwise (· < ·)):(a::b::l).Pairwise (· < ·):=by
 rw[eY];refine(λc f=>?_,p);rcases aV.mp f with rfl|z
 .exact h
 .exact aAu h ((eY.mp p).1 c z)
def adr(L:lg Nat)(x:Ro):Nat:=L.getD rank[x] 0
def Bft{L:lg Nat}(a:L.length=18)(p:L.Pairwise (· < ·))(x y:Ro)(e:adr L x=adr L y):x=y:=by
 let d:rank x < L.length:=by rw[a];exact Amh x
 let c:rank y < L.length:=by rw[a];exact Amh y
 unfold adr at e;let g:∀i (h:i < L.length),L.getD i 0=(getElem[L][i][by get_elem_tactic]):=λi h=>by rw[cG,aM h];rfl
 rw[g _ d,g _ c] at e;let nd:L.Nodup:=p.imp λh=>bZ h;rw[<-Ao9 x,<-Ao9 y,(jU nd).mp e]
def Afy{t u:De->M Bool}{Q:Bool->Store->Prop}(h:Wm t[Y] S λp S1=>Wm (if p=t8 then u Y else pure tu) S1 Q):Wm (Vj t u Y) S Q:=Ax h
def Wl(n:Nat)(A:Ro->Nat)(B:Nat)(S:Store):Prop:=∃A' s',Ag A A'/\Wk n A' s' S/\Ok s' B
def Wl.up(h:Wl n A B S)(a:B+1<=60):Wl n A (B+1) S:=by
 let(A',s',g,h,O):=h;exact(A',s',g,h,{ O with mb:=by have:=O.mb;omega,nl:=by have:=O.nl;omega,bb:=a })
def Wl.draw(h:Wl n A B S)(f:Fr [n] S S')(t:Tp n S'):Wl n A B S':=by
 let(A',s',g,h,O):=h;exact(A',s',g,h.draw f t,O)
def Wl.tp(h:Wl n A B S):Tp n S:=by
 let(A',s',g,h,O):=h;exact h.tp
abbrev slt(x0:o9 W)(n:Nat)(sz:Int)(A:Ro->Nat)(x4 x5 x6 x7 x10 x11:o9 W):De:=[x0,sr .ref[n],sr .int[sz],sr .ref[A[.dks]],x4,x5,x6,x7,sr .ref[A[.wd]],sr .ref[A[.shs]],x10,x11]
def Bne{o:MS}{K:RS->Prop}{c:Int}{k i f e d b:o9 W}(h:Wl n A B S)(m:B+1<=60)(q:∀r,Wl n A (B+1) r->Wb o (slt k n sz A i f e d b sr[.int[c]]) r K):Wb (Ad aA9 o) (slt k n sz A i f e d b sr[.int[c]]) S K:=by
 refine Ej Afy[?_]
 repeat array_get_dec
 refine Ale[λl=>?_] λl=>Bp Qu[Bu[q S h.up[m]]];let(A',s',g,h,O):=h
 repeat array_get_dec
 rw[<-g.shs,<-g.wd];refine Bkp h O m λs2 u t v l=>?_
 repeat array_get_dec
 exact Qu Bu[q u (A',s2,g,t,v)]
def Bnf{l:MS}{K:RS->Prop}{c:Int}{k i f e d b:o9 W}(h:Wl n A B S)(q:∀m,Wl n A B m->Wb l (slt k n sz A i f e d b sr[.int[c]]) m K):Wb (Ad aB0 l) (slt k n sz A i f e d b sr[.int[c]]) S K:=by
 refine Ej Afy[?_]
 repeat array_get_dec
 refine Ale[λo=>?_] λo=>Bp Qu[Bu[q S h]];let(A',s',g,h,O):=h
 repeat array_get_dec
 rw[<-g.shs,<-g.wd,<-g.dks];refine Ari h O λx s2 u t r v=>?_
 repeat array_get_dec
 exact Qu Bu[q u (x,s2,g.trans t,r,v)]
def Bng{o:MS}{K:RS->Prop}{d:Int}{m l k i f b:o9 W}(h:Wl n A B S)(q:∀r,Wl n A B r->Wb o (slt m n sz A l k i f b sr[.int[d]]) r K):Wb (Ad aA6 o) (slt m n sz A l k i f b sr[.int[d]]) S K:=by
 refine Ej Afy[?_]
 repeat array_get_dec
 refine Ale[λe=>Afy ?_] λe=>Bp Qu[Bu[q S h]]
 repeat array_get_dec
 refine By h.tp () λc y w t e e=>?_
 let h:=h.draw w t
 repeat array_get_dec
 refine Ale[λe=>?_] λe=>Bp Qu[Bu[q y h]];let(A',s',g,h,O):=h
 repeat array_get_dec
 rw[<-g.shs,<-g.wd];refine Amg h O λC x v u=>?_
 repeat array_get_dec
 exact Qu Bu[q x (C,_,g.trans v,u,O.fgt)]
def Bnh{m:MS}{K:RS->Prop}{k i f e d c b:o9 W}(h:Wl n A B S)(q:∀o,Wl n A B o->Wb m (slt k n sz A i f e d c b) o K):Wb (Ad aA7 m) (slt k n sz A i f e d c b) S K:=by
 let(A',s',g,h,O):=h;refine Ej Rn[?_]
 repeat array_get_dec
 rw[<-g.shs,<-g.wd];refine Bat h O λv l=>?_;let r:=l.wd
 repeat array_get_dec
 refine(rfl,?_);rw[g.wd] at r
 repeat array_get_dec
 rw[<-g.dks,<-g.wd];refine Ao3 l O λu t=>?_
 repeat array_get_dec
 exact Qu Bu[q u (A',s',g,t,O)]
end
section
variable{n:Nat}{A A':Ro->Nat}{s s' s1 s2:St}{j:Bool}{p:Pg}{B:Nat}{sz:Int}
def wd5(sz:Int)(o w k:Nat):lg[Key×W]:=[(.inr "size",.int sz),(.inr "old",.ref o),(.inr "new",.ref w),(.inr "many",.int k),(.inr "begun",.int k)]
def Wu{f g:De->M W}{r:lg[(De->M W)×(De->M W)]}{Q:lg[Key×W]->Store->Prop}(h:Wm f[Y] S λk l=>Wm g[Y] l λv i=>Wm (Jv r Y) i λa d=>∃c,Aag k=sr c/\Q ((u6 c v)::a) d):Wm (Jv ((u6 f g)::r) Y) S Q:=by
 refine Ax[Ba h λk l h=>Ax[Ba h λv i h=>Ax[Ba h λa d ⟨c,e,q⟩=>?_]]];rw[e];exact Bp q
def Bfu{Q:lg[Key×W]->Store->Prop}(q:Q [] S):Wm (Jv [] Y) S Q:=Bp q
def Ba2{a:lg W}{o:Nat}(k:Y[2]?=sr sr[.int[sz]])(d:Y[4]?=sr sr[.ref[o]])(i:S[o]?=sr .lst[a])(q:∀w v b,Fr [] S b->b[w]?=sr .dct[[]]->b[v]?=sr .dct[wd5 sz o w a.length]->S.length<=w->w < v->v < b.length->Q .ref[v] b):Wm (Mm [((kS "size"),(Aa 2)),((kS "old"),(Aa 4)),((kS "new"),(Mm [])),((kS "many"),(zA Dm Aa[4])),((kS "begun"),(zA Dm Aa[4]))] Y) S Q:=by
 refine Bfs Wu[Tr[Hf k ?_]];refine Wu Tr[Hf d ?_];refine Wu Tr[Qv λw c f e h=>?_];let o1:=f.at0 i;refine Wu Tr[Lw[Di[Hf d Fx[Afr o1 ?_]]]];refine Wu Tr[Lw[Di[Hf d Fx[Afr o1 ?_]]]];refine Bfu (_,rfl,_,rfl,_,rfl,_,rfl,_,rfl,?_);let l:Mh [] (wd5 sz o w a.length)=wd5 sz o w a.length:=by rfl'
 refine(.ref c.length,c ++ [.dct[wd5 sz o w a.length]],?_,q w _ _ f.then0[.app] Fr.app.at0[e] Hg h Cm[e] (by simp))
 show R.ok[W.ref c.length][c ++ [.dct Mh[[]][wd5 sz o w a.length]]]=_;rw[l]
def Bks{I:lg Nat}{dk v mm:Nat}{d:Bool->Nat}{m:Bool->Int}{fs:lg[Key×W]}(hc:Kf 1 I Y=[sy,sr .ref[dk],sr .ref[v]])(hk:S[dk]?=sr .lst[[.ref d[tu],.ref d[t8]]])(hv:S[v]?=sr .dct[fs])(hm:Abe fs .inr["most"]=sr .ref[mm])(hmm:S[mm]?=sr .lst[[.int m[tu],.int m[t8]]])(hb:∀j,2<=m j/\m j<=40)(q:∀c f e s1 y t r G,Fr [] S G->Sh m[tu] [] [] d[tu] c f e G->Sh m[t8] [] [] d[t8] s1 y t G->S.length<=c->c < f->f < e->e < s1->s1 < y->y < t->t < r->r < G.length->G[r]?=sr .lst[[.ref c,.ref s1]]->Q .ref[r] G):
  Wm (Cv 1 I (Ii Fj yA[kI[2]]) Br[0] (λO=>pure t8) zB[λws=>Ko 7 Du ws][ixF Aa[1] Aa[0]][ixF[ixF Aa[2] kS["most"]][Aa 0]] Y) S Q:=by
 refine Asm (P:=SP.any) (ws:=(cO 2).map λ(k:Nat)=>W.int[(0:Int)+(k:Int)]) (Lj (k:=2) (Ab An Af) ()) trivial λS1 f1=>?_
 rw[hc];let one:∀(x:o9 W)(j:Bool)(T:Store)(Q':W->Store->Prop),Fr [] S T->(∀s a u F,Fr [] T F->Sh m[j] [] [] d[j] s a u F->T.length<=s->s < a->a < u->u < F.length->Q' .ref[s] F)->Wm zB[λws=>Ko 7 Du ws][ixF Aa[1] Aa[0]][ixF[ixF Aa[2] kS["most"]][Aa 0]][[sr[.int (if j then 1 else 0)],sr .ref[dk],sr .ref[v]]] T Q':=λx j T Q' l q'=>by
  let k1:=l.at0 hk;let v1:=l.at0 hv;let m1:=l.at0 hmm
  repeat array_get_dec
  refine Jx k1 (w:=.ref d[j]) (by cases j <;> rfl) ?_
  repeat array_get_dec
  refine Adh v1 rfl hm ?_
  repeat array_get_dec
  refine Jx m1 (w:=.int m[j]) (by cases j <;> rfl) ?_
  repeat array_get_dec
  exact Ao1 (hb j).1 (hb j).2 q'
 refine Abq (J:=λi Y o T=>(∃x,Y=[x,sr .ref[dk],sr .ref[v]])/\Fr [] S T/\(i=0->o=[])/\(i=1->∃c f e,o=[.ref c]/\Sh m[tu] [] [] d[tu] c f e T/\S.length<=c/\c < f/\f < e/\e < T.length)/\(i=2->∃c f e s1 y t,o=[.ref c,.ref s1]/\Sh m[tu] [] [] d[tu] c f e T/\Sh m[t8] [] [] d[t8] s1 y t T/\S.length<=c/\c < f/\f < e/\e < s1/\s1 < y/\y < t/\t < T.length)) ?_ ?_ ((_,rfl),f1,(λO=>rfl),(λh=>nomatch h),(λh=>nomatch h))
 .rintro i w Y o T H ⟨⟨x,rfl⟩,l,h0,h1,_⟩
  match i,H with
  |0,H=>
   cases H;obtain rfl:=h0 rfl;refine(_,rfl,Bp ?_);rw[di rfl];exact one x tu T _ l λs a u F g sh l1 l2 Z X=>((),(_,rfl),l.then0 g,(λh=>nomatch h),λO=>(s,a,u,rfl,sh,by have:=l.len;omega,l2,Z,X),(λh=>nomatch h))
  |1,H=>
   cases H;let(c,f,e,rfl,D,b1,b2,b3,b4):=h1 rfl;refine(_,rfl,Bp ?_);rw[di rfl];exact one x t8 T _ l λs a u F g sh l1 l2 Z X=>(show 1 < big by decide,(_,rfl),l.then0 g,(λh=>nomatch h),(λh=>nomatch h),λO=>(c,f,e,s,a,u,rfl,D.mv[g][λz=>nomatch z][λz=>nomatch z][λz=>nomatch z],sh,b1,b2,b3,(),l2,Z,X))
 .rintro Y o T ⟨⟨x,rfl⟩,l,_,_,h2⟩;let(c,f,e,s1,y,t,rfl,D,U,b1,b2,b3,b4,b5,b6,b7):=h2 rfl;exact(show 2<=big by decide,q c f e s1 y t _ _ l.then0[.app] D.mv[.app][λz=>nomatch z][λz=>nomatch z][λz=>nomatch z] U.mv[.app][λz=>nomatch z][λz=>nomatch z][λz=>nomatch z] b1 b2 b3 b4 b5 b6 b7 (by simp) Hg)
end
section
variable{n:Nat}{A A':Ro->Nat}{s s' s1 s2:St}{j:Bool}{p:Pg}{B:Nat}{sz:Int}
def Ba3{f g:De->M W}(h:Wm f[Y] S λx a=>x=.bl t8/\Wm g[Y] a Q):Wm (Jd f g Y) S Q:=(Ax (Ba h λx a ⟨e,q⟩=>by subst e;exact q))
def Ba4{o w k m:Nat}:Jl[wd5 sz o w k][.inr "most"][.ref m]=wdK sz o w k k m:=by rfl'
def Apa(a b:Nat):Bool->Nat
 |false=>a
 |true=>b
def Av2{ns:lg Int}{o:Nat}{u t r:o9 W}(h:Wl n A 12 S):Wb aA0 (slt sr[.scr[ns]] n sz A sr[.ref[o]] u t r sy sy) S (Aih λw v=>w=.bl t8):=by
 refine Atj ?_
 repeat array_get_dec
 refine By h.tp () λc S1 N D Z X=>?_
 let H:=h.draw N D
 repeat array_get_dec
 obtain⟨c,rfl⟩:∃m:Nat,c=m:=(c.toNat,())
 refine(4+c,by rw[show ((4+c:Nat):Int)=4+(c:Int) by omega],aH (show 4+c<=30 by omega) (),λU L=>?_)
 let e:Wl n A 12 U:=by
  let(A',s',g,h,O):=H;exact(A',s',g,h.grow L,O)
 refine Asl (J:=λi Y T=>(∃d b,Y=slt sr[.scr[ns]] n sz A sr[.ref[o]] u t r d b)/\Wl n A (12+i) T) ?_ ?_ ((_,_,rfl),e)
 .rintro i w Y T q ⟨⟨d,b,rfl⟩,l⟩;let E:=(aC.mp q).1;rw[aB,bM] at E;refine(_,rfl,?_)
  repeat array_get_dec
  refine By l.tp () λz T1 I C v v=>?_
  refine Bne (l.draw I C) () λQ e=>?_
  refine Bnf e λP x=>?_;refine Bng x λT4 G=>?_;refine Bnh G λT5 F=>?_;exact Rm ((_,_,rfl),F)
 .rintro Y T ⟨⟨d,b,rfl⟩,A',s',g,l,O⟩;refine Dc Ba3[?_]
  repeat array_get_dec
  rw[<-g.shs,<-g.wd];refine Are l O λQ e=>(rfl,?_);let q:=e.wd;rw[g.wd] at q
  repeat array_get_dec
  rw[<-g.dks,<-g.wd];exact Ao3 e O λP x=>rfl
end
section
def St.ini(sz:Int)(old:lg Pg)(m:Bool->Int)(rd:Bool->Int):St:=(sz,old,[],old.length,old.length,m,λuu=>old,λuu=>old.length,λuu=>[],λuu=>[],rd)
theorem Ok.ini{sz:Int}{old:lg Pg}{m rd:Bool->Int}(f:Siz sz)(b:∀p∈old,Fits sz p)(l:2<=old.length)(i:old.length<=12)(g:∀j,2<=m j/\m j<=40):Ok (St.ini sz old m rd) 12 where
 sz:=f
 fo:=b
 fn:=λe h=>nomatch h
 nk:=lM
 nr:=λe h=>nomatch h
 cov:=λk hk=>.inr (by have:(k:Int) < old.length:=hk;show k < old.length;omega)
 om:=xX _
 o1:=by show 0 < old.length;omega
 mb:=by show (old.length:Int)<=_;omega
 nl:=bI _
 bb:=by decide
 mm:=g
def Bkt{a:Nat}{l:lg Nat}(f:(a::l).length=18)(p:(a::l).Pairwise (· < ·))(x:Ro):a<=adr (a::l) x:=by
 let c:rank x < (a::l).length:=by rw[f];exact Amh x
 let g:adr (a::l) x∈a::l:=by
  unfold adr;rw[cG,aM c];exact fY c
 rcases aV.mp g with e|e
 .omega
 .exact gK[(eY.mp p).1 _ e]
def law_holds(ns:lg Int)(_:ns.length<=63):∃S',Asw [.scr ns] []=.ok .bl[t8] S':=by
 suffices h:Wm Asw[[.scr ns]] [] (λw uu=>w=.bl t8) by
  let(w,S',e,rfl):=h;exact(S',e)
 refine Bt rfl Cz[?_]
 repeat array_get_dec
 refine Bfp λS1 f1 t1 l1=>?_;generalize hn:([]:Store).length=n at *
 let hn:n=0:=hn.symm
 repeat array_get_dec
 refine Be2 t1 λsz S2 f2 t2 Q=>?_;let l2:=f2.len
 repeat array_get_dec
 refine Atb Q λy A C S3 f3 D0 a1 a2 a3 a4=>?_
 repeat array_get_dec
 refine Atb Q λs f B S4 f4 D1 b1 b2 b3 b4=>?_
 repeat array_get_dec
 refine Dj (show 2<=big by decide) λdk S5 f5 hk lk=>?_
 let lk2:=Cm hk;let l5:=f5.len;refine Cz (Bkr (n:=n) Q ?_ rfl λps o S6 t6 f6 ho lo lo2 p2 O U=>?_)
 .repeat array_get_dec
  refine By (((t2.at0 f3).at0 f4).at0 f5) () λc T g u c0 c1=>?_
  repeat array_get_dec
  exact(_,rfl,(),(),u,g)
 let D0':=(D0.mv[f4][λz=>nomatch z][λz=>nomatch z][λz=>nomatch z]).mv f5 (λz=>nomatch z) (λz=>nomatch z) (λz=>nomatch z);let D1':=D1.mv[f5][λz=>nomatch z][λz=>nomatch z][λz=>nomatch z];let l3:=f3.len;let l4:=f4.len;let l6:=f6.len;let b:∀{i:Nat},i≠n->i∉[n]:=λh z=>h aK.mp[z];let Y:=D0'.mv[f6][b ()][b ()][b ()]
 let X:=D1'.mv[f6][b ()][b ()][b ()]
 let hk6:=f6.at1 hk ()
 refine fill (d:=Apa y s) (t:=Apa A f) (r:=Apa C B) (λj=>by cases j with|false=>exact Y|true=>exact X) ho hk6 t6 (λi j h=>?_) (λj=>by cases j <;> (show _≠_/\_≠_;dsimp only[Apa];omega)) (λj=>by cases j <;> (dsimp only[Apa];omega)) (λj=>by cases j <;> (dsimp only[Apa];omega)) Q U O λS7 x5 x6 x7 D S hk7 t7 l7=>?_
 .cases i <;> cases j <;> first|exact absurd rfl h|(dsimp only[Apa];omega)
 refine Cz[Ba2 rfl rfl S λw v S8 N hw8 P l8 l8' l8''=>?_];rw[aB] at P
 repeat array_get_dec
 refine By t7.at0[N] () λc S9 F t9 c0 c1=>?_
 let v9:=F.at1 P ()
 repeat array_get_dec
 refine Dj (show 2<=big by decide) λmm Sa E ha la=>?_
 repeat array_get_dec
 let va:=E.at0 v9;refine Jy va rfl (show 5 < big by decide) λSb q gb=>?_
 rw[Ba4] at gb;let la2:=Cm ha;let l9:=F.len;let lb:=q.len;let mb:=q.at1 ha ()
 let kb:=q.at1 E.at0[F.at1 N.at0[hk7] ()] ()
 refine Cz (Bks (d:=Apa y s) (m:=λj=>if j then 2+c else 2) rfl kb gb rfl mb (λj=>by cases j with|false=>exact(by show (2:Int)<=2;omega,by show (2:Int)<=40;omega)|true=>exact(by show 2<=2+c;omega,by show 2+c<=40;omega)) λs0 a0 u0 s1 l Z sh Sc p H G c1 c2 c3 c4 c5 c6 c7 c8 hsh=>?_)
 let(rd0,e0):=H.at_;let(rd1,e1):=G.at_;let d7:=λj=>((D j).mv N (λz=>nomatch z) (λz=>nomatch z) (λz=>nomatch z));let J:=(((((D tu).mv N (λz=>nomatch z) (λz=>nomatch z) (λz=>nomatch z)).mv F (b (show y≠n by omega)) (b (show A≠n by omega)) (b (show C≠n by omega))).mv E (λz=>nomatch z) (λz=>nomatch z) (λz=>nomatch z)).mv q (λz=>(show y≠v by omega) aK.mp[z]) (λz=>(show A≠v by omega) aK.mp[z]) (λz=>(show C≠v by omega) aK.mp[z])).mv p (λz=>nomatch z) (λz=>nomatch z) (λz=>nomatch z)
 let I:=(((((D t8).mv N (λz=>nomatch z) (λz=>nomatch z) (λz=>nomatch z)).mv F (b (show s≠n by omega)) (b (show f≠n by omega)) (b (show B≠n by omega))).mv E (λz=>nomatch z) (λz=>nomatch z) (λz=>nomatch z)).mv q (λz=>(show s≠v by omega) aK.mp[z]) (λz=>(show f≠v by omega) aK.mp[z]) (λz=>(show B≠v by omega) aK.mp[z])).mv p (λz=>nomatch z) (λz=>nomatch z) (λz=>nomatch z)
 let of:=p.at0[q.at1 E.at0[F.at1 N.at0[S] ()] ()]
 let wf:=p.at0[q.at1 E.at0[F.at1 hw8 ()] ()]
 let kf:=p.at0 kb;let vf:=p.at0 gb;let mf:=p.at0 mb;let tf:Tp n Sc:=((t9.at0 E).mv q λz=>(show n≠v by omega) aK.mp[z]).at0 p
 let pw:[y,A,C,s,f,B,dk,o,w,v,mm,s0,a0,u0,s1,l,Z,sh].Pairwise (· < ·):=Fd () (Fd () (Fd () (Fd () (Fd () (Fd () (Fd () (Fd () (Fd () (Fd () (Fd () (Fd () (Fd () (Fd () (Fd () (Fd () (Fd () (rW _ _)))))))))))))))))
 let W:Wd n adr[[y,A,C,s,f,B,dk,o,w,v,mm,s0,a0,u0,s1,l,Z,sh]] (cel adr[[y,A,C,s,f,B,dk,o,w,v,mm,s0,a0,u0,s1,l,Z,sh]] St.ini[sz][ps][λj=>if j then 2+c else 2][λj=>if j then rd1 else rd0]) Sc:=by
  refine(Bft rfl pw,λx=>?_,tf,λx e=>?_)
  .cases x with
   |wd=>exact vf
   |old=>exact of
   |new=>exact wf
   |most=>exact mf
   |shs=>exact hsh
   |dks=>exact kf
   |dsk j=>cases j with|false=>exact J.at_|true=>exact I.at_
   |tx j=>cases j with|false=>exact J.tx|true=>exact I.tx
   |ro j=>cases j with|false=>exact J.ro|true=>exact I.ro
   |shf j=>cases j with|false=>exact e0|true=>exact e1
   |hnd j=>cases j with|false=>exact H.hd|true=>exact G.hd
   |unw j=>cases j with|false=>exact H.un|true=>exact G.un
  .have:=Bkt rfl pw x;omega
 let L:Wl n adr[[y,A,C,s,f,B,dk,o,w,v,mm,s0,a0,u0,s1,l,Z,sh]] 12 Sc:=(_,_,.refl,(_,W,.refl,λj=>(rfl,rfl,rfl,Hk.nil[by cases j with|false=>exact(by decide:(0:Int)<=2)|true=>exact(show (0:Int)<=2+c by omega)])),Ok.ini Q U p2 O (λj=>by cases j with|false=>exact(by show (2:Int)<=2;omega,by show (2:Int)<=40;omega)|true=>exact(by show 2<=2+c;omega,by show 2+c<=40;omega)))
 exact Av2 L
end
end KX
open PySem PySem.W PyProof.Rows
set_option maxRecDepth 100000 in
set_option maxHeartbeats 0 in
theorem PySem.Challenge.cw_leafhouse_k10_whole_shelves_alike_holds : PySem.Challenge.rw_leafhouse_k10_whole_shelves_alike.Holds := by
 w_on;o_law;k_head;(case hw=>w_witness2)
 k_fill
 refine D.Ayo (l:=PySem.Challenge.rw_leafhouse_k10_whole_shelves_alike) (k:=154) (x:="_law_script") rfl rfl ⟨λ_=>rfl,by decide,by decide⟩ (λw h e=>PySem.W.kIn_of e) ?F
 case F=>
  intro w mg i h d G a;apply KX.all_mk d G a KX.law_holds
  all_goals try first|apply D.Bmo d G|apply D.Bmp
  all_goals try k_is
  all_goals kernel_rfl
