import PyProof.Rows.All
import Wide.All
import OpenK.AllK
import Wide.FinOn
import Lean
import PyProof.EqAt
import PyProof.EqKinds
import PyProof.TupleCall
import PyProof.SetNew
import KE.KLam
import KE.KNestM
import PyProof.Conv_int_bool
import PySem.Challenge.RW_leafhouse_k08_falls_amid_a_write
set_option Elab.async false
set_option linter.all false
set_option maxRecDepth 100000
set_option maxHeartbeats 8000000
set_option autoImplicit true
set_option relaxedAutoImplicit true
set_option genSizeOf false
set_option compiler.extract_closed false
set_option bootstrap.genMatcherCode false
set_option tactic.hygienic false
noncomputable section
open PySem renaming Str->t6,Obj->tu
local macro_rules|`(tactic|let $x:ident:=$e)=>`(tactic|have $x:ident:=$e)|`(tactic|let $x:ident $t:typeSpec:=$e)=>`(tactic|have $x:ident $t:typeSpec:=$e)
abbrev lg:=List
abbrev o9:=Option
def dg:=@of_decide_eq_true
def dh:=@decide_eq_true_eq
def di:=@if_pos
def dj:=@decide_eq_true
def dm:=@if_neg
def dq:=@decide_eq_false
local macro_rules|`(tactic|rfl')=>`(tactic|kernel_rfl)
local macro_rules|`(tactic|omega)=>`(tactic|lia)
def p8:Nat->Lean.Term->Array Lean.Term->Lean.MacroM Lean.Term
|0,_,_=>Lean.Macro.throwUnsupported
|n+1,s,a=>match s with
 |`($f[$x])=>p8 n f (#[x]++a)
 |_=>pure (Lean.Syntax.mkApp s a)
local macro_rules|`($f[$x])=>p8 99 f #[x]
open Unit renaming unit->u9
open Prod renaming mk->u6
def u5:Nat->Lean.Syntax->Lean.MacroM (Lean.TSyntax `rcasesPat)
|0,_=>Lean.Macro.throwUnsupported
|n+1,s=>match s with
 |`(($a,$b,*))=>do `(rcasesPat|⟨$[$(←(#[a]++b.getElems).mapM λx=>do `(Lean.Parser.Tactic.rcasesPatLo|$(←u5 n x):rcasesPat))],*⟩)
 |`(_)=>`(rcasesPat|_)
 |`($i:ident)=>`(rcasesPat|$i:ident)
 |_=>Lean.Macro.throwUnsupported
local macro_rules|`(tactic|let ($a,$b,*):=$e)=>do `(tactic|obtain $(←u5 9 (←`(($a,$b,*)))):rcasesPat :=$e)
local macro_rules|`(($a,$b,*))=>`(⟨$a,$b,*⟩)|`(())=>`(by first|decide +kernel|omega|simpa)
local macro_rules|`(def $i:declId $s:optDeclSig :=$v)=>Lean.MonadRef.withRef .missing do if v.raw.isOfKind ``Lean.Parser.Term.byTactic||v.raw.isOfKind ``Lean.Parser.Term.paren then `(theorem $i $(Lean.mkNode ``Lean.Parser.Command.declSig #[s.raw.getArg 0,(s.raw.getArg 1).getArg 0]) :=$v) else `(noncomputable def $i:declId $s:optDeclSig :=$v)
local macro_rules|`(def $i:declId $s:optDeclSig $v:declValEqns)=>Lean.MonadRef.withRef .missing `(noncomputable def $i:declId $s:optDeclSig $v:declValEqns)
local macro_rules|`(nonrec def $i:declId $s:optDeclSig :=$v)=>`(set_option tactic.hygienic true in def $i:declId $s:optDeclSig :=$v)
local macro_rules|`(tactic|ac_rfl)=>`(tactic|exact(show False from $(Lean.mkIdent `h)).elim)
open Option renaming some->sr,none->sy
open Bool renaming true->t8,false->t7
open PySem renaming wpAny_bind->aA,Value->aD,Addr->aG,wpAny_pure->aH,Shared->aN,Expr->bW,Program->bY,Stmt->cF,wpAny_mono->cQ,wpAny_callSpecial?_slot->cX,Heap->dD,wpAny_field->dG,strKind->dI,World->dO,wpAny_call_entry->dY,FuncData->eN,wpAny_newObj_type->eO,Around->eU,wpAny_Call_Name_kw->eV,wpAny_loadPart_at->fK,wpAny_setField->fU,wpAny_holding->fW,codeAny_call_builtin->gH,mem_of_lookup->gP,codeAny_mono->gU,wpAny_truthy_bool->iB,Keyword->iC,wpAny_seqItems->iD,codeAny_builtin->iH,wpAny_standAt->iM,Scope->iV,wpAny_setField_rec->jE,wpAny_execs_nil->jL,wpAny_setState_of->jT,wpAny_call->jX,Builtin->jY,wpAny_setEntries_of->kJ,wpAny_askSetting->lE,NameKind->lV,Paired->lZ,PyData->mO,wpAny_isInstance->mY,ExceptHandler->nO,wpAny_attempt->nP,wpAny_passesOwn->nR,wpAny_ite_split->nY,tupleKind_room_in1->oA,wpAny_pyIter_list->oK,wpAny_typeOf->oO,plainObj_wpAny_Assign_Attribute->oY,codeAny_handlers_test->pA,wpAny_Try_except->pK,wpAny_rule->pM,IsPair->pN,plainId_quiet->pQ,wpAny_updateSeq_pair->pW,codeAny_of_tree->pZ,wpAny_handleBy_cons->qH,wpAny_isSubtype_exc->qI,wpAny_pyIter_tuple->qR,wpAny_fieldsOf->rB,sizeLine_eq->rK,wpAny_sequenceKey->rO,wpAny_of_eq->rR,fits_of_scanBound->rW,wpAny_onRaise->sH,noFill_tuple_add->sV,TriplesOk->tD,IsPart->tM,codeAny_handlers_suite->tR,weight_type_call_type->uG,GenState->uL,wpAny_throw->uN,wpAny_newFunctionEnv->uO,IsZip->uP,isSubtype_stop->uQ,SetTable->uR,isSubtype_type->uU,Arguments->vA,seq_tuple_add->vN,wpAny_handled->vV,CmpOp->vW,Within->wO,concat_meets->wW,wpAny_pyIter_strU->wY,wpAny_pyIter_enum->xF,ExcBaseFacts->xJ,wpAny_storeSet_of->xK,wpAny_pyIter_slot->xN,wpAny_setEpoch_of->xO,slot_dict_getitem->xT,wpAny_execs_cons->yH,PassesOwn->yI,wpAny_lookBehind->yJ,pastItsLine_dict->yK,take_succ_filter->yM,wpAny_pyIter_zip->yQ,entryFor_of_tree->yR,wpAny_letGo->yX,wpAny_updateSeq->zN,BindsTo->zV,OwnTail->zW,wpAny_Name->zX,wpAny_load->zY,wpAny_loadPart->aAa,typeIs_str->aAe,typeIs_int->aAg,call_meets->aAh,wpAny_newTuple->aAk,arm_exec_Raise->aAl,wpAny_runValue->aAm,entryFor_alias->aAp,intBits_le_64->aAy,call_list_seq->aAz,evalPart_none->aBb,Drawn->aBl,wpAny_nsSet1->aBt,seqIndex_neg->aBu,OsState->aBv,ElemsOf->aBw,sub_set_self->aBx,Operator->aCu,call->aDm,Walks->aDx,Meets->aDy
open PySem.W renaming Frag->aB,mg_of->aU,nsIn->aY,mg_none_of->bR,findIn->bZ,keepIn->cG,fnOf->cL,hideAll->cP,exmOne->dN,hideAll_get->eG,codeHdIn->fJ,kia_one->fQ,typeIn->iT,codeIn->iU,callWith_K->jC,kla_obj->jM,kitOne->lA,of_hideAll->lJ,envX->lN,instObj->lR,makesIn->lU,mroIn->lY,hasDictIn->mC,emptyDict->mF,hideAll_none->mK,tabObj->mQ,callWith_K0->nG,funFrames_hide->oR,kitAny->oX,plainGet->pI,plainGet_of->qG,lookIn->qU,plainOver->rM,specialIn->rN,clsIn->sG,isFn->tK,cellsFrom_some->tL,takerIn->uA,exm_one->uC,findObj_own->vD,codeHd_of_K->vK,excIn->vP,Looks->vQ,isNs_of_in->wC,tail_of_in->wF,kitx_list->wR,kitx_dict->wU,readsIn->zK,findCls->zL,OpenLaw->zQ,noTabs->aAt
open PySem.Heap renaming get?_push_of_some->aC,get?_push_size->aR,lt_size->aV,get?_update_other->bN,get?_update_self->bQ,size_push->fP,SameBut->gM,get?_none_of_le->gV,FlyingW->jA,MadeExcOf->mL,get?_update_ne->vJ,NotedW->yW,ExtBut->aCs,update->aCt,HeldW->aDn
open Nat renaming le_trans->aF,le_refl->aM,lt_of_lt_of_le->aO,ne_of_lt->bM,zero_le->dM,lt_irrefl->eQ,le_succ->fM,sub_self->gB,le_succ_of_le->gC,le_of_lt->gK,lt_succ_self->gY,add_le_add_left->iZ,lt_of_le_of_lt->jG,ne_of_gt->jP,succ_le_succ->lC,lt_add_right->lF,min_eq_left->lX,mul_le_mul_right->mR,add_le_add->mU,le_add_right->mZ,min_eq_right->nA,le_of_eq->oM,le_of_ble_eq_true->pG,min_le_right->pJ,succ_ne_self->sX,lt_or_ge->xP,lt_succ_of_le->yE,sub_zero->aCa,zero_add->aCi,le_total->aCk,mod_lt->aDs,not_lt->aDt
open List renaming getElem?_eq_some_iff->aJ,length_map->aK,prefix_refl->aP,getElem?_eq_getElem->aQ,getElem?_append_left->aW,mem_singleton->aZ,getElem?_append_right->bA,all_eq_true->bB,mem_cons_of_mem->bC,length_append->bD,mem_cons_self->bF,mem_cons->bH,getElem?_map->bJ,prefix_append->bK,getD_eq_getElem?_getD->bL,append_nil->bU,replicate->bV,map_cons->cB,size_toArray->cC,length_range->cD,append_assoc->cM,mem_append_right->cN,mem_append->cU,getElem?_set_ne->cW,lookup_cons->cY,not_mem_nil->cZ,drop_eq_nil_of_le->dC,map_append->dJ,take_of_length_le->dR,map_map->dU,length_take->dW,length_drop->dX,length_cons->dZ,all_cons->eX,length_replicate->fB,mem_map->fC,range->fD,getElem?_set_self->fO,length_singleton->fY,mem_filterMap->gF,mem_of_getElem?->gG,length_set->gJ,drop_eq_getElem_cons->gO,getElem?_eq_none->gR,mem_append_left->gW,getElem?_eq_none_iff->iJ,mem_range->iR,getElem_mem->jB,lookup->jQ,forall_mem_cons->jV,filter_eq_self->jZ,getElem_of_mem->kO,getElem?_replicate->lB,eq_nil_of_length_eq_zero->lH,mem_of_mem_take->mV,getElem_inj->mW,nodup_cons->nU,nil_append->nW,pairwise_cons->oE,nodup_append->oV,take_append_drop->pD,length_filter_le->pF,take_length->pL,mem_of_mem_drop->pX,length_nil->pY,filterMap_cons->qF,getElem?_range->qK,takeWhile_cons->qL,contains_cons->qZ,length_eraseIdx_of_lt->rA,drop_zero->rE,not_lt->rT,map_drop->sO,sum_cons->sS,take_append_getElem->sU,cons_append->sY,map_nil->tW,of_mem_zip->uB,forIn_cons->uD,all_append->uF,getElem?_zipWith->uI,set_append_right->uK,take_succ->uT,drop_eq_nil_iff->uV,take_zero->uW,pairwise_append->uX,replicate_succ->vH,length_zipWith->vL,take_succ_cons->vM,any_cons->vO,mem_replicate->wJ,all_replicate->wL,ext_getElem?->xR,zipIdx_cons->yO,filter_cons->yU,mem_filter->zE,zipIdx_nil->zJ,find?_cons->zO,length_zip->zR,forIn_nil->aAj,mapM_cons->aAs,map->aAv,findIdx?->aBf,map_take->aBj,drop_nil->aBk,all_map->aCh,foldl->aDl,zip->aEk
open Bool renaming and_eq_true->aL,and_eq_true_iff->bO,false_ne_true->cR,or_eq_true->fV,not_eq_true'->iW,false_eq_true->jF,eq_false_iff->jR,not_true->pP,true_and->pR,or_eq_true_iff->qJ,not_eq_true->tG,or_true->tV,false_and->zZ,false_or->aBc,or_false->aBd
open Array renaming length_toList->aX,getElem?_eq_some_iff->fG,toList_append->iY,getElem?_toList->jK,replicate->jO,eq_empty_of_size_eq_zero->lG,append_empty->lK,getElem?_eq_none_iff->qY,getElem?_eq_getElem->rG,size_eq_one_iff->uH,append_assoc->vZ,toList_push->xM,size_append->xU,toList->aBs
open Option renaming map_eq_some_iff->bG,isSome_iff_exists->nJ,bind_eq_some_iff->oH,isSome_map->rP,getD_none->yL,getD_some->yS,map->aDq
open PySem.Value renaming ref->bI,none->gD,builtin->iQ,type->pH,isStrOf->rY,bool->tH,isStrOf_shape->vC,int->yF,str->yG,isInt->aCm,float->aCn
open False renaming elim->bT
open Option.some renaming inj->cA,injEq->gQ
open PySem.NameKind renaming free->cJ,cell->vR
open PySem.Txt renaming slice->cO,stripChars->jJ,mul->mJ,ljustF->tX,slice_le->xG,join->aAr,stripBy->aCz
open PySem.Obj renaming data_mapFields->cV,mapFields->fX,isFreed_of_fields->fZ,cls_mapFields->mH,mapSeq->nZ,putSet->aAn
open PySem.Builtin.Str renaming occurrences->dH,strSliceIndices->eY
open Ne renaming symm->eF
open PyProof.Rows renaming slot_tuple_getitem->eZ,callWith_type1->mG,slice_closes_fromL->oZ,StrsAre->pO,AllBare->qM,subscriptTail_builtinR->tO,IntsAre->vB,entry_tuple_getitem->vG,args_tuple_getitem->wB,slice_closes_from_neg->wK,IsTup->wN,slice_closes_to_neg->xY,mul_one_list->xZ,callWith_builtin1->yN,slice_closes_toL->yZ,slicePart_none->aAb,tail_any->aAd,slice_closesL->aAu,printed_star->aAx,Constant_none->aBe,isnot_bool->aBp,slice_beyond->aCj,is_bool->aCv
open PySem.F renaming excBase_ValueError->fH,slot_tuple_iterator_next->jD,called_set->lM,plainAttrs_str->lO,args_tuple_add_2->nM,entry_tuple_add->oG,slot_tuple_add->oN,attr_ValueError->oU,typeOf_object_class->pB,args_tuple_iterator_next_1->qC,slot_zip_next->qD,entry_tuple_iterator_next->qN,called_enumerate->qX,plain_extend_loop->rH,slot_dict_getitem->rJ,store_ValueError->sI,plain_list_iadd->sZ,slot_gs_get->vU,entry_type_call->wX,args_zip_next_1->xH,entry_zip_next->yP,slot_int_rmul->zG,entry_bexc_ga->zH,plain_set_new->zM
open Int renaming toNat_natCast->gA,emod_nonneg->jN,toNat_of_nonneg->kY,emod_lt_of_pos->lQ,eq_ofNat_of_zero_le->oJ,fdiv_eq_ediv_of_nonneg->rD,zero_add->tZ,mul_ediv_add_emod->uJ,le_refl->uY,natCast_nonneg->wH,emod_eq_of_lt->xV,pow_succ->xW,lt_trans->xX,toNat->aBr,ne_of_gt->aCe,le_of_lt->aCf,mul_comm->aCg,add_mul->aCy
open PySem.Calls renaming Name_function_global->gZ,loadGlobal_global->kZ,evalArgs_plain->pU,callWith_builtin->tU,spliced_cons->wA,spliced_nil->wV
open PySem.Heap.SameBut renaming update->iG,refl->aEa
open True renaming intro->iK
open PySem.SetTable renaming below->jH,grown->lD
open PySem.Around renaming under_plainId->jU,frames_deeper->uM,under_plain->wG
open PySem.Builtin.Tuple renaming tupleExact->jW,tupleItemsOf->qW,tupleIsExact->aAq
open PySem.Code renaming quiet_builtin->lL
open ForInStep renaming yield->lW
open PySem.Str renaming ofString->mX,empty->aEd,mk->aEj
open PySem.Builtin.Slice renaming slicePlaces->nF,sliceAdjust->rF,slicePartIndex->zF,sliceApplied->aAc
open List.cons renaming inj->nQ
open PySem.SeqAt renaming shaped->oW,EqAt->aAf
open PySem.Builtin.List renaming listLengthHint->qO,listExtendWith->qP,listTooLong->sE,listSameRef->sJ,listFitsIndex->aAi
open PyProof.Rows.KTD.Dat renaming flat->qQ
open PySem.Paired renaming length->rZ,snoc->aCr
open PySem.W.Looks renaming ld->sW,here->aDi
open PySem.PyData renaming strOk->tY,eqv->wI,str->aDu
open PySem.Data renaming cell->uZ,fields->yV,seq->aEh
open PySem.EntryCells renaming newEntry->vI
open PySem.SeqAt.EqAt renaming int_str->vX,str_int->vY,tuple_none->aCl,none_bool->aCo,bool_none->aCp,bool_bool->aCq,none_int->aDa,none_str->aDb,bool_int->aDc,bool_str->aDd,int_none->aDe,int_bool->aDf,str_none->aDg,str_bool->aDh,int_int->aDj,str_str->aDk,same->aEf
open PySem.AutoListH renaming list___mul___list_int_3->wM
open PySem.Heap.Ns1 renaming of_empty->wQ
open PySem.WalksT renaming enumerateD->wZ
open PySem.SetTable.below renaming go->xQ
open Sum renaming inl->zT,inr->zU
open PySem.Builtin.Frozenset renaming newClass->aAo,sizeOf->aBh,slot0->aBo
open Classical renaming byContradiction->aAw,propDecidable->aBq
open PySem.Value.ref renaming inj->aBa
open PySem.Shared renaming TypeIs->aBg
open List.Pairwise renaming imp_of_mem->aBi,nil->aDw
open PySem.Builtin.Range renaming rangeSize->aBm
open PyProof.Rows.IsTup renaming new->aBn
open PySem.Manifest.Receiver renaming self->aBy,none->aBz
open Nat.succ renaming inj->aCb
open PySem.AutoIntOps renaming pow_4->aCc
open PyProof.Rows.KTD renaming datLooks->aCd,datumAt->aCw,tabLook->aCx
open PySem.Heap.IsSliceOf renaming new->aDo
open List.Perm renaming cons_inv->aDp,swap->aEi
open PySem.Walks renaming list->aDr
open PySem.Within renaming cons->aDv
open PySem.Heap.IsTuple renaming push->aDz
open PySem.PassesOwn renaming leaving->aEb
open PySem.DictEntry renaming refKey->aEc
open PySem.IsL renaming update->aEe
open PySem.Heap.DictOf renaming new->aEg
open Prod renaming mk->aEm
structure PySem.W.Fast:Prop where(tw16405470385895089784 tw15840048170285627359 tw12046730573635024983 tw13898222800853201461 tw11815380045557500812 tw12379038266614622188 tw3440405204719512570 tw4794282344519303530 tw3695526469451678663 tw2338341808947980309 tw17141350296277644946 tw8981338222981476566 tw16699311485146944324 tw13354568158748189611 tw12791710591931547131 tw15019293678508281014 tw10093753191819921092 tw6150131125694814281 tw4704567369125159515 tw5051739647074577065 tw9314381710019657409 tw10406674118524192865 tw9264245445143310480 tw14281619079614514193 tw8311228999536729345 tw10840667605229700596 tw11759382190223955271 tw5855616525648889032 tw15587476669389580246 tw862877468045949825 tw4952309480951896572 tw11173223890444370723 tw6332122540143350447 tw1562915900709645817 tw4047931119486421515 tw12567009362558171340 tw10855196236362180429 tw17564568407603659361 tw6190540039639770656 tw10574852748723732408 tw1801781010564604954 tw3016055649525574145 tw1540686722842931863 tw15160651306066139532 tw3126505234408795820 tw7189852517070567767 tw1841322359629646955 tw12902972609504028550 tw3035118951883259285 tw16709476960466911411 tw9158890203937729214 tw11191308023061636184 tw8594494271072464500 tw15775007036116113835 tw4703303444159492195 tw13424084902529224891 tw12861042614057169082 tw915469834195464718 tw2518071817585962733 tw16485869051902632562 tw13310420398238074127 tw1207468741645529508 tw720309202299696335 tw15169471308263170796 tw13958193512575968837 tw11852069175115986779 tw17359023619073832138 tw6121194328086991053 tw16765699617376648862 tw17624483721168293058 tw5368595303866811210 tw17253178616284783296 tw739120682065428449 tw3519862828870817229 tw9930285705216234403 tw171619020702876343 tw7139836566695623398 tw4142536164566445899 tw15858396185364753423 tw9228158483798710015 tw8168746635526804269 tw15977167520616794558 tw5280695160069173877 tw12500188343542862814 tw15858817044592390068 tw17614355481027875338 tw926671690119572322 tw3700663393156423028 tw1598443102158139275 tw17461389936779590062 tw16286026551958114786 tw20652749115009447 tw17427867539339744256 tw948523946347752684 tw5996365579760537040 tw11750720064185658836 tw18258201675557357252 tw299419396968514498 tw11264492986112549885 tw5360106323720344630 tw11261032865560181286 tw6344782957848471453 tw14699419168411779022 tw15753119870856385950 tw16728489971185772799 tw16158848898665088350 tw6893486633741419330 tw4146016898575208864 tw10991540757926568143 tw7531693511437899231 tw13698451144979305316 tw7513682234302394310 tw12345884398982668930 tw15379711558585192769 tw3899854011459598026 tw8050535455491925937 tw3686587619689076760 tw10892901541909342954 tw425052183876610331 tw5744085058363142907 tw5014001390161539211 tw11484601461174528114 tw5016536849543936433 tw445287978609213511 tw2140283921724522305 tw11306114751964641650 tw5663978503299804762 tw804185263867986467 tw2678661609843060544 tw6867512010377344096 tw7686210054239297028 tw11717563325366744451 tw12330677944471360609 tw9303130264478506533 tw3203970809676204005 tw114036128481985433 tw15246078551392828855 tw1134166824183035823 tw14613093767747167871 tw5909000710064824964 tw8313541935261291699 tw5544571620610236340 tw5357775906005967785 tw14772068699801458144 tw16221581514335632899 tw14994374016491217300 tw8867948743853772130 tw12266194402415985495 tw8998369008890751616 tw16450965319580418229 tw10166487252483762833 tw2293301099353591450 tw10087078185207337214 tw16092939304797917384 tw5511045554520410530 tw16349407766385431652 tw12899068907773936319 tw1360087707762924286 tw535103704728201822 tw8542346240213253978 tw6550506622518258870 tw18234886417404137999 tw18273100249884110879 tw8168423926752278567 tw3092404754029371515 tw6655597654102678941 tw9286566779755390567 tw13919711453615207899 tw9251029565189614969 tw15228707784750921367 tw1372060618352467392 tw16502382563280803617 tw17136017778190599041 tw7071658681846381041 tw2078870535551441711 tw1213136191935857583 tw17193031845669063714 tw9222950638204777739 tw16510485488009444109 tw18081725019438734223 tw6709340639241192773 tw4357708932508187775 tw7278417617074687848 tw8968915614735875818 tw8633340197648559676 tw10138066294918308671 tw11000092486354488977 tw1008904234607135772 tw4484375375387062698 tw13240348199334990508 tw2056423335402230693 tw6999512975535517510 tw17942236005953366733 tw8017783863483491333 tw9674465590649210092 tw8983780971026940703 tw14714901366030557391 tw3489999449830012621 tw2288951166273387330 tw7667965973619101965 tw14298770614883066434 tw317366296330568603 tw15551559116186148985 tw743570119564980356 tw11857706914344550964 tw2751626016910164253 tw4127515906215511110 tw8077619542463647696 tw5529409688284622046 tw7365889039957866456 tw2134105794037064120 tw13802118186247896668 tw12154374474053089409 tw9982408464816940010 tw12023659372542690473 tw15744203785153185680 tw2520427942297035663 tw16038207271321514004 tw9417555828637964153 tw6819683052856890588 tw13815951374387936327 tw12067967795864810032 tw8303843111407801582 tw17119001048619295766 tw13246872821685033047 tw3100768093079139682 tw15254230867138490861 tw12681854919389994238 tw10720081142803769263 tw18255104358942655705 tw1604803448147334322 tw35533645734201176 tw17500095838660189025 tw2126669381870656969 tw6934998440867970787 tw16461555883032433440 tw13089254200880449345 tw600154991220866970 tw14609695610097658822 tw5785423715352789683 tw9722270439637256689 tw3553056995808142567 tw6379440558307745049 tw1641429510697694816 tw10135641865090544175 tw356604071433702323 tw4911004626795766109 tw9221967434369895821 tw13911913596498288875 tw2584437104593222504 tw3073161599993863205 tw8885963830648085532 tw18165951897647582910 tw5010585332695555197 tw16588568736763672474 tw9273043293466208982 tw5747676057106210228 tw9292812045948287856 tw16778280615330295177 tw8824540279738007871 tw17266025570050973699 tw4965816956648637444 tw13360411243497263092 tw18112363323817911814 tw6159198385219222505 tw15782438200501037766 tw885224742287400460 tw222122449535098270 tw12215128508674569704 tw763100321521689496 tw5406086410239901508 tw8804927780870877444 tw13899378284402674916 tw13100707530471049428 tw3675531343095910155 tw13320829068564480603 tw12503742860594893211 tw15639970113002404062 tw8037254484818349746 tw989198531626193286 tw13599139849392008471 tw9724823543097346699 tw5584612615082096632 tw8305145354248251063 tw5931585658748096081 tw11924655318465994115 tw10780718576469856451 tw12648259838675111258 tw5403858043732518039 tw3793312039833073228 tw513422067200017430 tw2604099061116596504 tw11359220437906819018 tw4710586158434422784 tw3945878554382570484 tw18098710204894221880 tw10937816304333029420 tw6261631104910924142 tw6805060212800897340 tw7885110760757114204 tw11475454153607771183 tw582867324544875729 tw13676208101746814395 tw350461884144509944 tw12484046823096107026 tw10724639209798552497 tw15927404342009078816 tw3935515241306200009 tw9764526697579523163 tw18382344346550437529 tw17846081585958278628 tw16747969355231470943 tw13261310822314331293 tw7890066421966506794 tw13960873844921405247 tw11496950252283442953 tw4045992491595603022 tw2140965320879629854 tw11201969975022152226 tw2321701431193936397:True)
namespace L2
open PySem PySem.Spec PyProof.Rows
abbrev Key:=Sum Int t6
def Ahz:Key->aD->Bool
 |.inl k,v=>aCm k v
 |.inr x,v=>rY x v
def Bor(w:dO):Key->Int
 |.inl k=>hashInt k
 |.inr x=>hashStr w x
theorem Es:∀{k:Key} {v:aD},Ahz k v=t8->(∃i t,k=zT i/\v=yF i t)\/(∃x t,k=zU x/\v=yG x t)
 |.inl i,v,h=>by
  let(t,e):=Value.isInt_shape h;exact .inl (i,t,rfl,e)
 |.inr x,v,h=>by
  let(t,e):=vC h;exact .inr (x,t,rfl,e)
def Ati(i:Int)(t:Tok):Ahz[.inl i][.int i t]=t8:=by simp[Ahz,aCm]
def Atj(x:t6)(t:Tok):Ahz[.inr x][.str x t]=t8:=by simp[Ahz,rY]
def Bhg(a b:Int):decide[(zT a:Key)=zT b]=(a==b):=by
 by_cases e:a=b
 .simp_all
 simp_all
def Bhh(a b:t6):decide[(zU a:Key)=zU b]=decide[a=b]:=by simp
def Bhi(a:Int)(b:t6):decide[(zT a:Key)=zU b]=t7:=rfl
def Bhj(a:t6)(b:Int):decide[(zU a:Key)=zT b]=t7:=rfl
def Hk(prog:bY)(w:dO):PySem.KeyKind prog w Key where
 is:=Ahz
 hash:=Bor w
 inj:=λv a b ha hb=>by
  rcases Es ha with ⟨i,t,rfl,rfl⟩|⟨x,t,rfl,rfl⟩
  .rcases Es hb with ⟨j,u,rfl,e⟩|⟨y,u,rfl,e⟩
   .injection e with e1 _;rw[e1]
   .exact nomatch e
  .rcases Es hb with ⟨j,u,rfl,e⟩|⟨y,u,rfl,e⟩
   .exact nomatch e
   .injection e with e1 _;rw[e1]
 byValue:=λk v h=>by
  rcases Es h with ⟨i,t,rfl,rfl⟩|⟨x,t,rfl,rfl⟩ <;> rfl
 pyHash:=λhv h=>by
  rcases Es hv with ⟨i,t,rfl,rfl⟩|⟨x,t,rfl,rfl⟩
  .exact wpAny_pyHash_int h
  .exact wpAny_pyHash_str h
 eqBool:=λhu hv h=>by
  rcases Es hu with ⟨i,t,rfl,rfl⟩|⟨x,t,rfl,rfl⟩
  .rcases Es hv with ⟨j,u,rfl,rfl⟩|⟨y,u,rfl,rfl⟩
   .rw[Bhg] at h;exact wpAny_eqBool_int h
   .rw[Bhi] at h;exact vX i t y u _ _ _ _ h
  .rcases Es hv with ⟨j,u,rfl,rfl⟩|⟨y,u,rfl,rfl⟩
   .rw[Bhj] at h;exact vY x t j u _ _ _ _ h
   .rw[Bhh] at h;exact wpAny_eqBool_str h
 «strs»:=λk x t v h=>by
  rcases Es h with ⟨i,u,rfl,e⟩|⟨y,u,rfl,e⟩
  .exact nomatch e
  .injection e with e1 _
   subst e1;cases v <;> rfl
inductive V where
 |non|bl (b:Bool)|int (i:Int)|str (x:t6)|byt (b:Array UInt8)|flt (b:UInt64)|ref (a:aG)|ty (n:String)
 deriving DecidableEq
def RelV:V->aD->Prop
 |.non,u=>u=gD
 |.bl b,u=>u=tH b
 |.int i,u=>∃t,u=yF i t
 |.str x,u=>∃t,u=yG x t
 |.byt b,u=>∃t,u=Value.bytes b t
 |.flt b,u=>∃t,u=aCn b t
 |.ref a,u=>u=bI a
 |.ty n,u=>u=pH n
abbrev Vals:lg V->lg aD->Prop:=lZ RelV
def Vals.length{xs:lg V}{us:lg aD}(r:Vals xs us):xs.length=us.length:=rZ r
theorem Vals.get:∀{xs:lg V} {b:lg aD} {i:Nat} {x:V},Vals xs b->xs[i]?=sr x->∃u,b[i]?=sr u/\RelV x u
 |_,_,_,_,.nil,e=>by trivial
 |_,_,0,_,.cons r _,e=>by simp at e;subst e;exact(_,rfl,r)
 |_,_,i+1,x,.cons _ t,e=>by
  let(u,f,c):=Vals.get t (by trivial)
  exact(u,by trivial,c)
theorem Vals.set(r:RelV x u):∀{xs:lg V} {b:lg aD} (i:Nat),Vals xs b->Vals (xs.set i x) (b.set i u)
 |_,_,_,.nil=>.nil
 |_,_,0,.cons _ t=>.cons r t
 |_,_,i+1,.cons q t=>.cons q (Vals.set r i t)
theorem Vals.append:∀{xs b:lg V} {d c:lg aD},Vals xs d->Vals b c->Vals (xs ++ b) (d ++ c)
 |_,_,_,_,.nil,s=>s
 |_,_,_,_,.cons r t,s=>.cons r (Vals.append t s)
theorem Vals.take:∀{xs:lg V} {b:lg aD} (n:Nat),Vals xs b->Vals xs.take[n] b.take[n]
 |_,_,0,_=>.nil
 |_,_,_+1,.nil=>.nil
 |_,_,n+1,.cons r t=>.cons r (Vals.take n t)
theorem Vals.drop:∀{xs:lg V} {b:lg aD} (n:Nat),Vals xs b->Vals xs.drop[n] b.drop[n]
 |_,_,0,r=>r
 |_,_,_+1,.nil=>.nil
 |_,_,n+1,.cons _ t=>Vals.drop n t
def Vx:o9 V->o9 aD->Prop
 |some v,sr u=>RelV v u
 |none,sy=>True
 |_,_=>False
def KV{κ:Type}:lg[κ×V]->lg[κ×aD]->Prop:=lZ λ(p:κ×V) (q:κ×aD)=>p.1=q.1/\RelV p.2 q.2
def kV:Key->V
 |.inl i=>.int i
 |.inr x=>.str x
inductive HO where
 |lst (xs:List V)
 |tup (xs:List V)
 |dK (kvs:List (Key×V))|dT (kvs:List (List Key×V))
 |set (S:Int->Bool) (n:Nat)
 |ins (C dx:aG) (fs:List (t6×V))
 |own (x:aG)
 |xd (fs:List (t6×V))
 |met (f x:aG)
 |rng (lo hi:Int)
 |frz (o:tu) (u:HO)
 |tbl (ps:Array aD)
 |ext (φ:dD->Prop)
abbrev Hp:=aG->o9 HO
def upd(H:Hp)(a:aG)(o:HO):Hp:=λb=>if b=a then sr o else H b
def An:upd H a o a=sr o:=by unfold upd;simp
def Ah(h:b≠a):upd H a o b=H b:=by unfold upd;simp_all
def Bbp:upd (upd H a o) a u=upd H a u:=by
 unfold upd;simp_all
def Bm{H:Hp}{a b:aG}{o:HO}(h:H a=sr o)(c:H b=sy):a≠b:=by
 intro e;simp_all
section
variable(P:bY)(w:dO)
def Ed(H:Hp)(h:dD)(a:aG):HO->Prop
 |.lst xs=>xs.length<=sizeLine/\∃(its:lg aD)(n:Nat),Vals xs its/\h.get? a=sr { cls:=.type "list",data:=.seq its.toArray n }
 |.tup xs=>xs.length<=sizeLine/\∃its:lg aD,Vals xs its/\wN h a its.toArray
 |.dK kvs=>kvs.length<=sizeLine/\(a==sysModules)=t7/\∃vs,KV kvs vs/\h.DictOf (Hk P w) a vs
 |.dT kvs=>kvs.length<=sizeLine/\(a==sysModules)=t7/\∃xs:lg[lg Key×aG×aD],
   lZ (λ(p:lg Key×V) (q:lg Key×aG×aD)=>p.1=q.1/\H q.2.1=sr .tup[p.1.map[kV]]/\RelV p.2 q.2.2) kvs xs/\
   ∃o es ep,h.get? a=sr o/\o.ExactDict/\o.data=.dict es ep/\es.toList=xs.map entryOfKey[tupleKind[Hk P w]]/\(xs.map (·.1)).Nodup
 |.set S n=>h.SetOf (intKind P w) a S n
 |.ins C dx fs=>H dx=sr .own[a]/\fs.length<=1000/\dx≠a/\h.get? a=sr[lR C dx]/\
   ∃mA,h.Ns1 dx mA/\(∀f,Vx fs.lookup[f] mA[f])/\wO mA (fs.map (·.1))
 |.own _=>∃o,h.get? a=sr o
 |.xd fs=>∃mA,h.Ns1 a mA/\∀f,Vx fs.lookup[f] mA[f]
 |.rng lo hi=>∃t u v,h.get? a=sr { cls:=.type "range",data:=.fields #[.int lo t,.int hi u,.int 1 v] }
 |.frz o u=>h.get? a=sr o/\Ed H h a u
 |.tbl ps=>h.get? a=sr { cls:=.none,data:=.fields ps }
 |.met f x=>h.get? a=sr (PySem.W.methodObj .ref[f] .ref[x])
 |.ext φ=>φ h/\(∃o,h.get? a=sr o)/\∀h1 h2:dD,φ h1->(∀o,h1.get? a=sr o->h2.get? a=sr o)->φ h2
def HOk(H:Hp)(h:dD):Prop:=∀a o,H a=sr o->Ed P w H h a o
end
section
def Ed.lt(x:Ed P w H h a o):a < h.objs.size:=by
 cases o with
 |lst xs=>let(_,_,_,_,e):=x;exact aV e
 |tup xs=>let(_,_,_,p):=x;exact p.lt
 |dK b=>let(_,_,_,_,o,_,_,e,_):=x;exact aV e
 |dT b=>let(_,_,_,_,o,_,_,e,_):=x;exact aV e
 |set S n=>let(o,_,_,_,e,_):=x;exact aV e
 |ins C d fs=>let(_,_,_,e,_):=x;exact aV e
 |own y=>let(_,e):=x;exact aV e
 |xd fs=>let(_,(_,_,_,e,_),_):=x;exact aV e
 |rng lo hi=>let(_,_,_,e):=x;exact aV e
 |frz ob u=>let(e,_):=x;exact aV e
 |tbl ps=>exact aV (x)
 |met f y=>exact aV (x)
 |ext c=>let(_,(_,e),_):=x;exact aV e
theorem Paired.mapP{h g:Type}{F G:h->g->Prop}:∀{d:lg h} {c:lg g},lZ F d c->(∀a b,F a b->G a b)->lZ G d c
 |_,_,.nil,_=>.nil
 |_,_,.cons r t,f=>.cons[f _ _ r][Paired.mapP t f]
def Ed.stay(x:Ed P w H h a o)(k:∀b u,(b=a\/H b=sr .own[a])->h.get? b=sr u->I.get? b=sr u)(G:∀b,H b=sr .own[a]->H' b=sr .own[a])(F:∀b xs,H b=sr .tup[xs]->H' b=sr .tup[xs]):Ed P w H' I a o:=by
 induction o with
 |lst xs=>let(z,j,n,r,e):=x;exact(z,j,n,r,k _ _ .inl[rfl] e)
 |tup xs=>let(z,j,r,ob,e,c):=x;exact(z,j,r,ob,k _ _ .inl[rfl] e,c)
 |dK s=>let(z,y,B,r,ob,g,i,e,c):=x;exact(z,y,B,r,ob,g,i,k _ _ .inl[rfl] e,c)
 |dT s=>
  let(z,y,xs,r,ob,g,i,e,c):=x;exact(z,y,xs,Paired.mapP r λp q z=>(z.1,F _ _ z.2.1,z.2.2),ob,g,i,k _ _ .inl[rfl] e,c)
 |set S n=>let(ob,g,i,t,e,c):=x;exact(ob,g,i,t,k _ _ .inl[rfl] e,c)
 |ins C N fs=>
  let(d,z,ne,e,m,(l,g,i,J,c),r):=x;exact(G _ d,z,ne,k _ _ .inl[rfl] e,m,(l,g,i,k _ _ .inr[d] J,c),r)
 |own y=>let(ob,e):=x;exact(ob,k _ _ .inl[rfl] e)
 |xd fs=>let(m,(l,g,i,e,c),r):=x;exact(m,(l,g,i,k _ _ .inl[rfl] e,c),r)
 |rng lo hi=>let(t,u,v,e):=x;exact(t,u,v,k _ _ .inl[rfl] e)
 |frz ob u E=>let(e,q):=x;exact(k _ _ .inl[rfl] e,E q)
 |tbl ps=>
  let e:=x;exact k a _ .inl[rfl] e
 |met f y=>
  let e:=x;exact k a _ .inl[rfl] e
 |ext L=>let(p,(o,e),st):=x;exact(st _ _ p λo q=>k _ _ .inl[rfl] q,(o,k _ _ .inl[rfl] e),st)
def HOk.lt(x:HOk P w H h)(e:H a=sr o):a < h.objs.size:=(x a o e).lt
def HOk.fresh(x:HOk P w H h)(e:h.objs.size<=a):H a=sy:=by
 cases q:H a with
 |none=>rfl
 |some u=>exact absurd[aO x.lt[q] e][eQ _]
def HOk.kept(x:HOk P w H h)(k:∀b u,h.get? b=sr u->d.get? b=sr u):HOk P w H d:=(λa o e=>
 (x a o e).stay (λb u c q=>k b u q) (λc q=>q) λc c q=>q)
def HOk.laid(x:HOk P w H h)(k:∀b u,h.get? b=sr u->g.get? b=sr u)(hp:h.objs.size<=a)(new:Ed P w (upd H a o) g a o):HOk P w (upd H a o) g:=(λb u e=>by
 let d:=x.fresh hp;by_cases f:b=a
 .subst f;rw[An] at e;simp_all
 .rw[Ah f] at e;exact(x b u e).stay (λc v i q=>k c v q) (λc q=>by rw[Ah[Bm q d]];omega) λc xs q=>by rw[Ah[Bm q d]];omega)
end
def Rd(H:Hp)(a:aG)(u:HO):Prop:=H a=sr u\/∃o,H a=sr[.frz o u]
def Rd.of(h:H a=sr u):Rd H a u:=.inl h
def Rd.ok(r:Rd H a u)(x:HOk P w H h):Ed P w H h a u:=by
 rcases r with r|⟨o,r⟩
 .exact x a u r
 .let(_,q):=x a _ r;omega
def Mut:o9 HO->Prop
 |some (.lst _)=>True
 |some (.dK _)=>True
 |some (.dT _)=>True
 |some (.set _ _)=>True
 |some (.ins _ _ _)=>True
 |some (.ext _)=>True
 |_=>False
section
def HOk.write(ok:HOk P w H h)(g:Mut H[x])(p:e=x\/H e=sr .own[x])(k:∀b u,b≠e->h.get? b=sr u->l.get? b=sr u)(i:∃u,l.get? e=sr u)(new:Ed P w (upd H x n) l x n):HOk P w (upd H x n) l:=(λb u q=>by
 let f:∀c y,H c=sr .own[y]->c≠x:=λc y r z=>by subst z;rw[r] at g;exact g
 let d:∀c xs,H c=sr .tup[xs]->c≠x:=λc xs r z=>by subst z;rw[r] at g;exact g
 by_cases j:b=x
 .subst j;rw[An] at q;simp_all
 .rw[Ah j] at q;by_cases a:b=e
  .let m:H b=sr .own[x]:=by
    rcases p with z|z
    .exact absurd a.trans[z] j
    .rwa [a]
   rw[q] at m;cases m;let(v,o):=i;exact(v,a ▸ o)
  .refine(ok b u q).stay (λc v s r=>k c v ?_ r) (λc r=>(Ah[f c b r]) ▸ r) λc xs r=>(Ah[d c xs r]) ▸ r
   grind)
end
structure Un(fs ex:List aG)(H H':Hp)(h h':dD):Prop where
 keep:∀b o,h.get? b=sr o->H b=sy->b∉fs->b∉ex->h'.get? b=sr o
 slot:∀b o,h.get? b=sr o->H b=sy->b∈fs->b∉ex->∃sl,h'.get? b=sr { o with slots:=sl }
 free:∀b o,h.get? b=sr o->H b=sy->b∉ex->H' b=sy
 there:∀b o,h.get? b=sr o->b∉ex->∃o',h'.get? b=sr o'
 tups:∀b xs,H b=sr (.tup xs)->H' b=sr (.tup xs)
 frzs:∀b o u,H b=sr (.frz o (.lst u))->H' b=sr (.frz o (.lst u))
 tbls:∀b ps,H b=sr (.tbl ps)->∃more,H' b=sr (.tbl (ps ++ more))
section
def Un.any(u:Un fs ex H H1 h e)(q:h.get? b=sr ob)(n:H b=sy)(a:b∉ex):∃d,e.get? b=sr { ob with slots:=d }:=by
 by_cases c:b∈fs
 .exact u.slot b ob q n c a
 .exact(ob.slots,u.keep b ob q n c a)
def Un.kept(k:∀b u,h.get? b=sr u->c.get? b=sr u):Un fs ex H H h c:=(
 (λb ob q a a a=>k b ob q,λb ob q a a a=>(ob.slots,k b ob q),λa a a n a=>n,λb ob q a=>(ob,k b ob q),λa a q=>q,λa a a q=>q,λa ps q=>(#[],by trivial)))
def Un.refl:Un fs ex H H h h:=Un.kept λuw uw q=>q
theorem Un.laid(k:∀b u,h.get? b=sr u->e.get? b=sr u)(hp:h.objs.size<=a)(d:H a=sy):Un fs ex H (upd H a o) h e where
 keep:=λb u q c c c=>k b u q
 slot:=λb u q c c c=>(u.slots,k b u q)
 free:=λb u q n c=>by rw[Ah bM[aO aV[q] hp]];exact n
 there:=λb u q c=>(u,k b u q)
 tups:=λb xs q=>by rw[Ah[Bm q d]];exact q
 frzs:=λb u xs q=>by rw[Ah[Bm q d]];exact q
 tbls:=λb ps q=>(#[],by rw[Ah[Bm q d],q];simp)
def Un.write(f:Mut H[x])(p:e=x\/H e=sr .own[x])(k:∀b u,b≠e->h.get? b=sr u->i.get? b=sr u)(l:∃u,i.get? e=sr u):Un fs ex H (upd H x o) h i:=by
 let j:∀b,H b=sy->b≠x:=λb n z=>by subst z;rw[n] at f;exact f
 let g:∀b,H b=sy->b≠e:=λb n z=>by simp_all
 let c:∀b u,H b=sr u->¬ Mut sr[u]->b≠x:=λb u q m z=>by simp_all
 refine(λb u q n a a=>k b u (g b n) q,λb u q n a a=>(u.slots,k b u (g b n) q),λb u q n a=>(Ah[j b n]) ▸ n,λb u q a=>?_,
  λb xs q=>(Ah[c b _ q λz=>z]) ▸ q,λb u xs q=>(Ah[c b _ q λz=>z]) ▸ q,λb ps q=>(#[],by rw[Ah[c b _ q λz=>z],q];simp))
 by_cases d:b=e
 .simp_all
 .exact(u,k b u d q)
end
def trk(h:dD)(H:Hp):lg aG:=(fD h.objs.size).filter λa=>(H a).isSome
def Ajv(h:dD)(H:Hp):dD:=cP h (trk h H)
def Awb(e:h.get? b=sr o)(n:H b=sy):(Ajv h H).get? b=sr o:=(
 eG _ e λa=>by
  let q:=(zE.mp a).2;simp_all)
def Bbq(e:(Ajv h H).get? b=sr o):h.get? b=sr o/\H b=sy:=by
 let a:=lJ _ e;refine(a,?_);cases q:H b with
 |none=>rfl
 |some x=>
  let z:(Ajv h H).get? b=sy:=mK _ (zE.mpr (iR.mpr aV[a],by simp[q]))
  simp_all
def Bbr(g h:dD)(L:aG):lg[aG×tu]:=(fD h.objs.size).filterMap λa=>if a=L\/(g.get? a).isSome=t8 then sy else (h.get? a).map λo=>(u6 a o)
def rest(g h:dD)(L d:aG):lg[aG×tu]:=(Bbr g h L).filter λp=>decide[p.1≠d]
structure Mod(K:aB)(mg:t6->Option aD)(base:dD):Prop where
 kin:K.In base
 glob:base.Ns mainGlobals mg
 blt:∃mb,base.Ns builtinsNs mb/\∀x:t6,x≠"__name__"->mb x=bootBuiltins x
 nolimit:base.NoLimit
structure Cx where
 prog:bY
 w:dO
 K:aB
 mg:t6->Option aD
 base:dD
 A:eU
 N:List t6
 s₀:aN
 H₀:Hp
 env:Env
 outer:List Env
 stack:List Env
 ex:List aG
 fn:t6->Bool
 calm:Bool
 pn:List (aG×tu)
 xe:aD->aN->Prop
def frs(l:lg Env):lg aG:=l.filterMap (·.frame)
abbrev Cx.fs(X:Cx):lg aG:=frs X.outer
def Vis(sc:iV)(x:t6):Prop:=sc.names.lookup x=sr .local\/sc.names.lookup x=sr .cell\/sc.names.lookup x=sr .free
def Loc(sc:iV)(x:t6):Prop:=sc.names.lookup x=sr .local\/sc.names.lookup x=sr .cell
def Look(env:Env)(h:dD)(m:t6->o9 aD)(x:t6)(u:aD):Prop:=
 (env.kindOf x=sr .local/\m x=sr u)\/((env.kindOf x=sr .cell\/env.kindOf x=sr .free)/\∃c,env.cells.lookup x=sr c/\h.IsCell c sr[u])
structure Cx.Ok(X:Cx):Prop where
 mod:Mod X.K X.mg X.base
 kind:X.env.scope.kind=.function
 glob:X.env.globals=mainGlobals
 blt:X.env.builtins=builtinsNs
 above:X.s₀.heap.objs.size<=X.env.locals
 inj:∀x y c,X.env.cells.lookup x=sr c->X.env.cells.lookup y=sr c->x=y
 has:∀x,(X.env.kindOf x=sr .cell\/X.env.kindOf x=sr .free)->∃c,X.env.cells.lookup x=sr c
 cab:∀x c,X.fn x=t8->X.env.cells.lookup x=sr c->X.s₀.heap.objs.size<=c
 hd:X.calm=t8->X.A.handled=sy
 frames:X.A.frames=sr X.stack
 stk:X.stack=X.outer\/(X.stack=X.env::X.outer/\X.env.frame=sr X.env.locals)
 exf:∀b∈X.ex,b≠X.env.locals/\∀x c,X.env.cells.lookup x=sr c->c≠b
 bs:∀b o,X.base.get? b=sr o->X.s₀.heap.get? b=sr o/\X.H₀ b=sy
 bsz:X.base.objs.size<=X.s₀.heap.objs.size
 noex:∀b o,X.base.get? b=sr o->b∉X.ex
 exfs:∀b∈X.ex,b∉X.fs
 funs:X.s₀.heap.FunFrames X.base X.outer
 frf:∀b∈X.fs,X.H₀ b=sy
structure Inv(X:Cx)(aa:List (aG×tu))(σ:List (Option V))(H:Hp)(s:aN):Prop where
 ok:X.Ok
 os:s.os=X.s₀.os
 bare:qM s.gens
 base:Un X.fs X.ex X.H₀ H X.s₀.heap s.heap
 loc:∃m,s.heap.Ns X.env.locals m/\∀(i:Nat)(x:t6)(v:V),X.N[i]?=sr x->σ[i]?=sr (sr v)->Vis X.env.scope x->∃u,RelV v u/\Look X.env s.heap m x u
 cell:∀x c,X.env.cells.lookup x=sr c->∃v,s.heap.IsCell c v
 free:H X.env.locals=sy
 freeC:∀x c,X.env.cells.lookup x=sr c->H c=sy
 pin:∀p∈X.pn ++ aa,s.heap.get? p.1=sr p.2/\H p.1=sy/\p.1≠X.env.locals/\p.1∉X.fs/\∀v,p.2.data≠.cell v
 hok:HOk X.prog X.w H s.heap
 len:σ.length=X.N.length
section
def Inv.bs(I:Inv X d c H s):∀b o,X.base.get? b=sr o->s.heap.get? b=sr o/\H b=sy:=(λb o e=>
 (I.base.keep b o (I.ok.bs b o e).1 (I.ok.bs b o e).2 (by
   intro a;have:=(I.ok.funs.mem a).1;rw[e] at this;cases this) (I.ok.noex b o e),I.base.free b o (I.ok.bs b o e).1 (I.ok.bs b o e).2 (I.ok.noex b o e)))
def Inv.bk(I:Inv X aa σ H s):∀b o,X.base.get? b=sr o->s.heap.get? b=sr o:=λb o e=>(I.bs b o e).1
def Inv.mod(I:Inv X aa σ H s):Mod X.K X.mg X.base:=I.ok.mod
def Inv.kIn(I:Inv X aa σ H s):X.K.In s.heap:=I.ok.mod.kin.keeps I.bk
def Inv.lt(I:Inv X c b H s):X.env.locals < s.heap.objs.size:=(let ⟨_,a,_⟩:=I.loc;a.lt)
def Inv.sz(I:Inv X aa σ H s):X.s₀.heap.objs.size<=s.heap.objs.size:=aF I.ok.above gK[I.lt]
def Inv.nofs(I:Inv X e d H s)(h:s.heap.objs.size<=a):a∉X.fs:=(λc=>by
 let(_,o,b,_):=I.ok.funs.mem c;exact absurd aO[aV b][aF I.sz h] eQ[_])
def Inv.cne(I:Inv X k d H s):∀x c,X.env.cells.lookup x=sr c->c≠X.env.locals:=(λx c e z=>by
 let(v,o,g,hd):=I.cell x c e;let(m,(f,h,j,a,b,_),_):=I.loc
 grind)
def Inv.funs(I:Inv X p k H s):s.heap.FunFrames X.base X.outer:=by
 let all:∀(l:_),(∀b∈frs l,b∈X.fs)->X.s₀.heap.FunFrames X.base l->s.heap.FunFrames X.base l:=by
  intro l;induction l with
  |nil=>intro _ _;trivial
  |cons env r d=>
   rintro hs ⟨j,⟨L,o,hf,h,g,hd⟩,f⟩;let c:=hs L (by unfold frs;rw[qF,hf];exact bF)
   let(n,e):=I.base.slot L o g (I.ok.frf L c) c λz=>I.ok.exfs L z c
   exact(j,(L,_,hf,h,e,hd),d (λb a=>hs b (by unfold frs;rw[qF,hf];exact bC _ a)) f)
 exact all X.outer (λm a=>a) I.ok.funs
def Inv.stack(I:Inv X c b H s):s.heap.FunFrames X.base X.stack:=by
 rcases I.ok.stk with e|⟨e,hf⟩
 .exact e ▸ I.funs
 .rw[e];let(m,a,_):=I.loc;exact .cons (by rw[I.ok.kind];simp) hf a gV[aF I.ok.bsz I.ok.above] I.funs
def Inv.stkSub(I:Inv X d c H s):∀b∈frs X.stack,b∈X.env.locals::X.fs:=(λb a=>by
 rcases I.ok.stk with e|⟨e,hf⟩
 .rw[e] at a;exact bC _ a
 .rw[e] at a;unfold frs at a;rw[qF,hf] at a;trivial)
def Inv.stkFree(I:Inv X d c H s):∀b∈frs X.stack,H b=sy:=(λb hb=>by
 rcases bH.mp[I.stkSub b hb] with e|hb
 .exact e ▸ I.free
 .let(_,o,a,_):=I.ok.funs.mem hb;exact I.base.free b o a (I.ok.frf b hb) λz=>I.ok.exfs b z hb)
def Inv.step{g':Array uL}{t':Nat}{d':aBl}{ch:lg aG}(I:Inv X N P H s)(g:∀b∈ch,(b∈X.ex\/X.s₀.heap.objs.size<=b)/\b≠X.env.locals/\(∀x c,X.env.cells.lookup x=sr c->c≠b)/\∀p∈X.pn ++ N,p.1≠b)(keep:∀b o,b≠X.env.locals->b∉X.fs->b∉ch->s.heap.get? b=sr o->H b=sy->h'.get? b=sr o)(slot:∀b o,b≠X.env.locals->b∈X.fs->b∉ch->s.heap.get? b=sr o->H b=sy->∃G,h'.get? b=sr { o with slots:=G })(free:∀b o,b∉ch->s.heap.get? b=sr o->H b=sy->H' b=sy)(there:∀b o,b∉ch->s.heap.get? b=sr o->∃A,h'.get? b=sr A)(tups:∀b xs,H b=sr .tup[xs]->H' b=sr .tup[xs])(frzs:∀b o u,H b=sr[.frz o .lst[u]]->H' b=sr[.frz o .lst[u]])(tbls:∀b ps,H b=sr .tbl[ps]->∃more,H' b=sr .tbl[ps ++ more])(ns:∀m,s.heap.Ns X.env.locals m->h'.Ns X.env.locals m)(hok:HOk X.prog X.w H' h')(Y:qM g'):
  Inv X N P H' { s with heap:=h',gens:=g',drawn:=d',toks:=t' }:=by
 let B:∀b o,X.s₀.heap.get? b=sr o->b≠X.env.locals:=λb o e=>bM[aO aV[e] I.ok.above];let h:∀b o,X.s₀.heap.get? b=sr o->b∉X.ex->b∉ch:=λb o e a t=>by
  rcases(g b t).1 with z|z
  .exact a z
  .exact absurd[aO aV[e] z][eQ _]
 let cellK:∀x c,X.env.cells.lookup x=sr c->∀v,s.heap.IsCell c v->h'.IsCell c v:=λx c e v ⟨o,y,hd⟩=>by
  let f:c∉ch:=λz=>(g c z).2.2.1 x c e rfl;by_cases L:c∈X.fs
  .let(G,q):=slot c o (I.cne x c e) L f y (I.freeC x c e);exact(_,q,hd)
  .exact(o,keep c o (I.cne x c e) L f y (I.freeC x c e),hd)
 refine(I.ok,I.os,Y,(λb o e n t a=>?_,λb o e n t a=>?_,λb o e n a=>?_,λb o e a=>?_,λb xs e=>tups b xs (I.base.tups b xs e),λb o xs e=>frzs b o xs (I.base.frzs b o xs e),λb ps e=>?_),?_,λx c e=>?_,?_,λx c e=>?_,λp hp=>?_,hok,I.len)
 .exact keep[b][o][B b o e][t][h b o e a][I.base.keep b o e n t a][I.base.free b o e n a]
 .let(G,j):=I.base.slot b o e n t a;let(F,C):=slot b _ (B b o e) t (h b o e a) j (I.base.free b o e n a);exact(F,C)
 .let(A,j):=I.base.there b o e a;exact free b A (h b o e a) j (I.base.free b o e n a)
 .let(A,j):=I.base.there b o e a;exact there b A (h b o e a) j
 .let(S,j):=I.base.tbls b ps e;let(Q,C):=tbls b _ j;exact(S ++ Q,by rw[C,vZ])
 .let(m,T,U):=I.loc;refine(m,ns m T,λi x v j C Z=>?_);let(u,r,l):=U i x v j C Z;refine(u,r,?_);rcases l with l|⟨k,c,e,z⟩
  .exact .inl l
  .exact .inr (k,c,e,cellK x c e _ z)
 .let(v,z):=I.cell x c e;exact(v,cellK x c e v z)
 .let(m,(o,_,_,y,_),_):=I.loc;exact free _ o (λz=>(g _ z).2.1 rfl) y I.free
 .let(v,o,y,hd):=I.cell x c e;exact free c o (λz=>(g c z).2.2.1 x c e rfl) y (I.freeC x c e)
 .let(e,n,ne,J,d):=I.pin p hp;let f:p.1∉ch:=λz=>(g p.1 z).2.2.2 p hp rfl;exact(keep p.1 p.2 ne J f e n,free p.1 p.2 f e n,ne,J,d)
def Inv.un{p:Nat}(I:Inv X A l H s)(u:Un X.fs [] H H' s.heap j)(hok:HOk X.prog X.w H' j):Inv X A l H' { s with heap:=j,toks:=p }:=by
 let(m,(o,G,J,h,r),_):=id I.loc;let(C,y):=u.any h I.free ()
 exact I.step (ch:=[]) (λa z=>nomatch z) (λb o a d a e n=>u.keep b o e n d ()) (λb o a d a e n=>u.slot b o e n d ()) (λb o a e n=>u.free b o e n ()) (λb o a e=>u.there b o e ()) u.tups u.frzs u.tbls (λF t=>by
  let(E,f,g,c,q):=t;rw[h] at c;cases c;exact(_,f,g,y,q)) hok I.bare
def Inv.call{q:Array uL}{F:Nat}{O:aBl}{t:lg aG}(I:Inv X y C H s)(u:Un frs[X.stack] t H H' s.heap l)(hok:HOk X.prog X.w H' l)(L:qM q)(f:∀b∈t,(b∈X.ex\/X.s₀.heap.objs.size<=b)/\b≠X.env.locals/\(∀x c,X.env.cells.lookup x=sr c->c≠b)/\∀p∈X.pn ++ y,p.1≠b):
  Inv X y C H' { s with heap:=l,gens:=q,drawn:=O,toks:=F }:=by
 let(m,(o,U,Y,k,r),_):=id I.loc;let(Q,g):=u.any k I.free λz=>(f _ z).2.1 rfl
 exact I.step f (λb o g N a e n=>u.keep b o e n (λz=>(bH.mp[I.stkSub b z]).elim g N) a) (λb o E E a e n=>u.any e n a) (λb o a e n=>u.free b o e n a) (λb o a e=>u.there b o e a) u.tups u.frzs u.tbls (λT J=>by
  let(S,h,j,d,G):=J;rw[k] at d;cases d;exact(_,h,j,g,G)) hok L
def Inv.turned{t':Nat}{d:aG}(I:Inv X h j H s)(k:∀b o,b≠d->s.heap.get? b=sr o->A.get? b=sr o)(F:H d=sy)(y:d≠X.env.locals)(L:d∈X.ex\/X.s₀.heap.objs.size<=d)(J:∀x c,X.env.cells.lookup x=sr c->c≠d)(G:∀p∈X.pn ++ h,p.1≠d):Inv X h j H { s with heap:=A,toks:=t' }:=by
 let g:∀b u,H b=sr u->b≠d:=λb u e z=>by simp_all
 refine I.step (g':=s.gens) (d':=s.drawn) (ch:=[d]) (λb w=>?_) (λb o a a f e a=>k b o (λz=>f[by simp[z]]) e) (λb o a a f e a=>(o.slots,k b o (λz=>f[by simp[z]]) e)) (λa a a a n=>n)
  (λb o f e=>(o,k b o (λz=>f[by simp[z]]) e)) (λa a e=>e) (λa a a e=>e) (λb ps e=>(#[],by trivial)) (λm t=>?_) (λb u e=>?_) I.bare
 .let e:b=d:=by simpa using w
  subst e;trivial
 .let(o,B,C,l,r):=t;exact(o,B,C,k _ o eF[y] l,r)
 .refine(I.hok b u e).stay (λc v f q=>k c v ?_ q) (λa q=>q) λa a q=>q;rcases f with z|z
  .exact z ▸ g b u e
  .exact g c _ z
def Inv.tok(I:Inv X aa σ H s)(t:Nat):Inv X aa σ H { s with toks:=t }:=I.un Un.refl I.hok
def Inv.kept{t':Nat}(I:Inv X aa σ H s)(k:∀b u,s.heap.get? b=sr u->h'.get? b=sr u):Inv X aa σ H { s with heap:=h',toks:=t' }:=I.un Un.kept[k] I.hok.kept[k]
def Inv.laid{t':Nat}(I:Inv X e d H s)(k:∀b u,s.heap.get? b=sr u->c.get? b=sr u)(hp:s.heap.objs.size<=a)(new:Ed X.prog X.w (upd H a o) c a o):
  Inv X e d (upd H a o) { s with heap:=c,toks:=t' }:=(I.un[Un.laid k hp I.hok.fresh[hp]][I.hok.laid k hp new])
def Inv.write{t':Nat}(I:Inv X aa σ H s)(mu:Mut H[x])(he:e=x\/H e=sr .own[x])(k:∀b u,b≠e->s.heap.get? b=sr u->h'.get? b=sr u)(heo:∃u,h'.get? e=sr u)(new:Ed X.prog X.w (upd H x o) h' x o):Inv X aa σ (upd H x o) { s with heap:=h',toks:=t' }:=I.un[Un.write mu he k heo][I.hok.write mu he k heo new]
def Inv.pins_of(I:Inv X c b H s)(h:∀p∈pins',s.heap.get? p.1=sr p.2/\H p.1=sy/\p.1≠X.env.locals/\p.1∉X.fs/\∀v,p.2.data≠.cell v):Inv X pins' b H s:=(
 (I.ok,I.os,I.bare,I.base,I.loc,I.cell,I.free,I.freeC,λp hp=>(cU.mp hp).elim (λz=>I.pin p (gW _ z)) h[p],I.hok,I.len))
def Aex{N:lg t6}(hN:N.Nodup){i j:Nat}{x:t6}(a:N[i]?=sr x)(b:N[j]?=sr x):i=j:=by
 let(k,f):=aJ.mp a;let(h,e):=aJ.mp b;exact(mW hN).mp f.trans[e.symm]
def Atk{M:Model}{A:eU}{E:aD->aN->Prop}{i:Nat}{x:t6}{v:V}{u:aD}{Q:Unit->aN->Prop}(I:Inv X aa σ H s)(hN:X.N.Nodup)(hi:X.N[i]?=sr x)(g:Loc X.env.scope x)(r:RelV v u)(h:∀s',Inv X aa (σ.set i sr[v]) H s'->(∃a,gM a s.heap s'.heap/\(a=X.env.locals\/X.env.cells.lookup x=sr a))->Q u9 s')(hf:X.fn x=t8\/X.env.scope.names.lookup x=sr .local:=by first|exact .inl rfl|exact .inr rfl|assumption):wpAny M A (storeName X.env x u) Q E s:=by
 let(m,hn,hl):=id I.loc;let O:(X.env.scope.kind==.class||(X.env.scope.kind==.module&&X.env.locals != X.env.globals))=t7:=by rw[I.ok.kind];rfl
 let t:i < σ.length:=I.len ▸ (aJ.mp hi).1;let cne:=I.cne;let tracked:∀{a:aG} {G:dD},(∃o,s.heap.get? a=sr o/\H a=sy)->gM a s.heap G->HOk X.prog X.w H G:=λ{a G} ha hs b ob e=>by
  let(_,_,az):=ha;refine(I.hok b ob e).stay (λc T hc q=>(hs.2 c ?_).trans q) (λuw q=>q) λuw uw q=>q;rintro rfl;rcases hc with rfl|hc
  .rw[az] at e;cases e
  .rw[az] at hc;cases hc
 rcases g with hk|hk
 .refine wpAny_storeName_local hk hn (λG hn' hs=>?_) O;let(oL,_,_,hoL,_):=id hn;refine h _ (I.ok,I.os,I.bare,(λb o e n F g=>?_,λb o e n F g=>?_,I.base.free,λb o e g=>?_,I.base.tups,I.base.frzs,I.base.tbls),(_,hn',λj y Y f l e3=>?_),λy c e=>?_,I.free,I.freeC,λp hp=>?_,tracked (oL,hoL,I.free) hs,by simpa using I.len) (_,hs,.inl rfl)
  .exact(hs.2 b bM[aO aV[e] I.ok.above]).trans (I.base.keep b o e n F g)
  .let(sl,f):=I.base.slot b o e n F g;exact(sl,(hs.2 b bM[aO aV[e] I.ok.above]).trans f)
  .let(o',f):=I.base.there b o e g;exact(o',(hs.2 b bM[aO aV[e] I.ok.above]).trans f)
  .by_cases B:j=i
   .subst B;rw[hi] at f;cases f;rw[fO t] at l;cases l;exact(u,r,.inl (hk,()))
   .rw[cW eF[B]] at l;let(Z,r',q):=hl j y Y f l e3;refine(Z,r',?_);rcases q with ⟨k,e⟩|⟨k,c,e,z⟩
    .refine .inl (k,?_);have:y≠x:=λe=>B Aex[hN][f][e ▸ hi];simp[this,e]
    .exact .inr (k,c,e,z.sameBut hs (cne y c e))
  .let(T,z):=I.cell y c e;exact(T,z.sameBut hs (cne y c e))
  .let(e,n,ne,nf,d):=I.pin p hp;exact((hs.2 p.1 ne).trans e,n,ne,nf,d)
 .let C:X.fn x=t8:=by simp_all
  let(c,hc):=I.ok.has x .inl[hk];let(T,z):=I.cell x c hc;refine wpAny_storeName_cell I.ok.kind hk hc z (λG S hs=>?_);let(oc,L,J):=id z;refine h { s with heap:=G } (I.ok,I.os,I.bare,(λb o e n F g=>?_,λb o e n F g=>?_,I.base.free,λb o e g=>?_,I.base.tups,I.base.frzs,I.base.tbls),(m,hn.sameBut hs eF[cne x c hc],λj y Y f l e3=>?_),λy U e=>?_,I.free,I.freeC,λp hp=>?_,tracked (oc,L,I.freeC x c hc) hs,by simpa using I.len) (c,hs,.inr hc)
  .exact(hs.2 b bM[aO[aV e][I.ok.cab x c C hc]]).trans (I.base.keep b o e n F g)
  .let(sl,f):=I.base.slot b o e n F g;exact(sl,(hs.2 b bM[aO[aV e][I.ok.cab x c C hc]]).trans f)
  .let(o',f):=I.base.there b o e g;exact(o',(hs.2 b bM[aO[aV e][I.ok.cab x c C hc]]).trans f)
  .by_cases B:j=i
   .subst B;rw[hi] at f;cases f;rw[fO t] at l;cases l;exact(u,r,.inr (.inl hk,c,hc,S))
   .rw[cW eF[B]] at l;let(Z,r',q):=hl j y Y f l e3;refine(Z,r',?_);rcases q with q|⟨k,U,e,z'⟩
    .exact .inl q
    .refine .inr (k,U,e,z'.sameBut hs ?_);rintro rfl;exact B Aex[hN][f][I.ok.inj _ _ _ e hc ▸ hi]
  .by_cases P:U=c
   .subst P;exact(_,S)
   .let(w2,z2):=I.cell y U e;exact(w2,z2.sameBut hs P)
  .let(e,n,ne,nf,d):=I.pin p hp;refine((hs.2 p.1 ?_).trans e,n,ne,nf,d);intro q;rw[q,L] at e;let q':oc=p.2:=cA e;exact d T (q' ▸ J)
def Aey{i:Nat}(I:Inv X d b H s)(hN:X.N.Nodup)(hi:X.N[i]?=sr x)(c:Loc X.env.scope x)(r:RelV v u)(h:∀a,Inv X d (b.set i sr[v]) H a->Q u9 a)(hf:X.fn x=t8\/X.env.scope.names.lookup x=sr .local:=by first|exact .inl rfl|exact .inr rfl|assumption):wpAny M A (storeName X.env x u) Q E s:=(
 Atk I hN hi c r (λa f g=>h a f) hf)
def Inv.call'(I:Inv X d f H s)(g:s'.os=s.os)(u:Un frs[X.stack] ch H H' s.heap s'.heap)(hok:HOk X.prog X.w H' s'.heap)(h:qM s'.gens)(a:∀b∈ch,(b∈X.ex\/X.s₀.heap.objs.size<=b)/\b≠X.env.locals/\(∀x c,X.env.cells.lookup x=sr c->c≠b)/\∀p∈X.pn ++ d,p.1≠b):Inv X d f H' s':=by
 let(l,m,n,j,k):=s';subst g;exact I.call u hok h a
end
abbrev XK:=aD->o9[Nat×o9 aG]->Hp->Prop
abbrev St:=lg o9[V]
abbrev VK:=V->Hp->Prop
abbrev TE:=St->Hp->VK->Prop
abbrev TT:=St->Hp->(Bool->Hp->Prop)->Prop
abbrev TA:=St->Hp->(lg V->Hp->Prop)->Prop
structure Ends where
 nx:St->Hp->Prop
 rt:VK
 bk:St->Hp->Prop:=λuw uw=>False
 ct:St->Hp->Prop:=λuw uw=>False
abbrev TS:=Ends->St->Hp->Prop
inductive EP(X:Cx)(aa:List (aG×tu))(σ:St)(Q:VK)(u:aD)(s':aN):Prop
 |mk (v:V) (H':Hp) (I:Inv X aa σ H' s') (r:RelV v u) (q:Q v H'):EP X aa σ Q u s'
inductive TP(X:Cx)(aa:List (aG×tu))(σ:St)(Q:Bool->Hp->Prop)(b:Bool)(s':aN):Prop
 |mk (H':Hp) (I:Inv X aa σ H' s') (q:Q b H'):TP X aa σ Q b s'
inductive AP(X:Cx)(aa:List (aG×tu))(σ:St)(Q:List V->Hp->Prop)(us:List aD)(s':aN):Prop
 |mk (vs:List V) (H':Hp) (I:Inv X aa σ H' s') (r:Vals vs us) (q:Q vs H'):AP X aa σ Q us s'
def SP(X:Cx)(aa:lg[aG×tu])(D:Ends)(f:Flow)(s':aN):Prop:=
 match f with
 |.next=>∃σ' H',Inv X aa σ' H' s'/\D.nx σ' H'
 |.brk=>∃σ' H',Inv X aa σ' H' s'/\D.bk σ' H'
 |.cont=>∃σ' H',Inv X aa σ' H' s'/\D.ct σ' H'
 |.ret u=>∃v σ' H',Inv X aa σ' H' s'/\RelV v u/\D.rt v H'
def PE(X:Cx)(e:bW)(t:TE):Prop:=
 ∀(aa:lg[aG×tu])(s:aN)(σ:St)(H:Hp)(Q:VK),Inv X aa σ H s->t σ H Q->wpAny (model X.prog X.w) X.A (eval e X.env) (EP X aa σ Q) X.xe s
def PT(X:Cx)(e:bW)(t:TT):Prop:=
 ∀(aa:lg[aG×tu])(s:aN)(σ:St)(H:Hp)(Q:Bool->Hp->Prop),Inv X aa σ H s->t σ H Q->wpAny (model X.prog X.w) X.A isTrue[e][X.env][eval e X.env] (TP X aa σ Q) X.xe s
def PW(X:Cx)(e:bW)(t:TT):Prop:=
 ∀(whole:Sem aD)(aa:lg[aG×tu])(s:aN)(σ:St)(H:Hp)(Q:Bool->Hp->Prop),Inv X aa σ H s->t σ H Q->wpAny (model X.prog X.w) X.A (isTrue e X.env whole) (TP X aa σ Q) X.xe s
def PA(X:Cx)(es:lg bW)(t:TA):Prop:=
 ∀(pos:Pos)(aa:lg[aG×tu])(s:aN)(σ:St)(H:Hp)(Q:lg V->Hp->Prop),Inv X aa σ H s->t σ H Q->wpAny (model X.prog X.w) X.A spliced[backTo[pos][starEach es X.env]] (AP X aa σ Q) X.xe s
def PS(X:Cx)(st:cF)(t:TS):Prop:=
 ∀(aa:lg[aG×tu])(s:aN)(σ:St)(H:Hp)(D:Ends),Inv X aa σ H s->t D σ H->wpAny (model X.prog X.w) X.A (exec st X.env) (SP X aa D) X.xe s
def PSs(X:Cx)(st:lg cF)(t:TS):Prop:=
 ∀(aa:lg[aG×tu])(s:aN)(σ:St)(H:Hp)(D:Ends),Inv X aa σ H s->t D σ H->wpAny (model X.prog X.w) X.A (execs st X.env) (SP X aa D) X.xe s
def thn{α:Type}{t:Sem α}{Q Q':α->aN->Prop}(h:wpAny M A t Q E s)(hQ:∀a s,Q a s->Q' a s):wpAny M A t Q' E s:=cQ h hQ λuw uw x=>x
section
def Bhk(i:Nat):TE:=λσ H Q=>∃v,σ[i]?=sr sr[v]/\Q v H
def tC(v:V):TE:=λuw H Q=>Q v H
def Aez{i:Nat}(hN:X.N[i]?=sr x)(n:Vis X.env.scope x)(hd:(x==("__debug__":t6))=t7:=by decide)(b:(x==("__classdict__":t6))=t7:=by decide):PE X (.Name x pos) Bhk[i]:=by
 rintro t s j H Q I ⟨v,e,h⟩;let(m,o,q):=I.loc;let(u,r,l):=q i x v hN e n;let a:EP X t j Q u s:=(v,H,I,r,h);rcases l with ⟨hk,p⟩|⟨hk,c,f,g⟩
 .exact zX (wpAny_loadName_local I.ok.kind hk o p a) hd
 .rcases hk with hk|hk
  .exact zX (wpAny_loadName_cell I.ok.kind hk f g a) hd
  .exact zX (wpAny_loadName_free I.ok.kind hk f g a b) hd
def Awc{i j pos}:PE X (.Constant .int[i] j pos) tC[.int[i]]:=λuw uw uw H uw I h=>wpAny_Constant_int (.int i,H,I.tok _,(_,rfl),h)
def Bli{b j pos}:PE X (.Constant .bool[b] j pos) tC[.bl[b]]:=λuw uw uw H uw I h=>Constant_bool (.bl b,H,I,rfl,h)
def Bhl{x j pos}:PE X (.Constant .str[x] j pos) tC[.str[x]]:=λuw uw uw H uw I h=>Calls.Constant_str (.str x,H,I.tok _,(_,rfl),h)
def Gl(X:Cx)(x:t6):Prop:=X.env.kindOf x=sr .globalImplicit
def Kv(I:Inv X g f H s)(d:Gl X x)(c:X.mg x=sr u)(h:Q u s)(hd:(x==("__debug__":t6))=t7:=by decide):wpAny (model X.prog X.w) X.A eval[.Name x pos][X.env] Q E s:=(
 gZ I.ok.kind d kZ[I.ok.glob ▸ I.mod.glob.keeps I.bk][c][h] hd)
def Abg(I:Inv X l k H s)(f:Gl X x)(e:X.mg x=sy)(c:bootBuiltins x=sr u)(h:Q u s)(d:x≠"__name__":=by decide)(hd:(x==("__debug__":t6))=t7:=by decide):wpAny (model X.prog X.w) X.A eval[.Name x pos][X.env] Q E s:=by
 let(mb,i,g):=I.mod.blt;exact gZ I.ok.kind f Calls.loadGlobal_builtin[I.ok.glob ▸ I.mod.glob.keeps I.bk][e][I.ok.blt ▸ i.keeps I.bk][(g x d).trans c][h] hd
def tB(t:TE):TT:=λσ H Q=>t σ H λx H1=>∃c,x=.bl c/\Q c H1
def Bos(t u:TT):TT:=λσ H Q=>t σ H λc H1=>if c=t8 then u σ H1 Q else Q t7 H1
def tOr(t u:TT):TT:=λσ H Q=>t σ H λc H1=>if c=t8 then Q t8 H1 else u σ H1 Q
def Blj(ta tb:TE):TE:=λσ H Q=>ta σ H λx H1=>∃c,x=.bl c/\if c=t8 then tb σ H1 Q else Q .bl[t7] H1
def Bll(ta:TE):TE:=λσ H Q=>ta σ H λx H1=>∃c,x=.bl c/\Q .bl[!c] H1
def tIf(t:TT)(ta tb:TE):TE:=λσ H Q=>t σ H λc H1=>if c=t8 then ta σ H1 Q else tb σ H1 Q
end
def SqL(K:aB)(H:Hp)(a:aG)(xs:lg V):Prop:=
 Rd H a .lst[xs]\/
  ∃(o:tu)(its:Array aD)(n:Nat),K.lookup a=sr o/\o.cls=.type "list"/\o.dict=sy/\o.data=.seq its n/\its.size<=sizeLine/\Vals xs its.toList
def SqT(K:aB)(H:Hp)(a:aG)(xs:lg V):Prop:=
 Rd H a .tup[xs]\/
  ∃(o:tu)(its:Array aD)(n:Nat),K.lookup a=sr o/\o.cls=.type "tuple"/\o.data=.seq its n/\its.size<=sizeLine/\Vals xs its.toList
def Bot:aD->o9 V
 |.none=>sr .non
 |.bool b=>sr .bl[b]
 |.int i _=>sr .int[i]
 |.str x _=>sr .str[x]
 |.bytes b _=>sr .byt[b]
 |.float b _=>sr .flt[b]
 |.ref a=>sr .ref[a]
 |.type n=>sr .ty[n]
 |_=>sy
def RelV.abs(r:RelV x u):Bot u=sr x:=by
 cases x with
 |non=>cases r;rfl
 |bl _=>cases r;rfl
 |int _=>let(t,rfl):=r;rfl
 |str _=>let(t,rfl):=r;rfl
 |byt _=>let(t,rfl):=r;rfl
 |flt _=>let(t,rfl):=r;rfl
 |ref _=>cases r;rfl
 |ty _=>cases r;rfl
def RelV.inj(r:RelV x u)(q:RelV y u):x=y:=cA r.abs.symm.trans[q.abs]
theorem Vals.inj:∀{xs b:lg V} {c:lg aD},Vals xs c->Vals b c->xs=b
 |_,_,_,.nil,.nil=>rfl
 |_,_,_,.cons r t,.cons e d=>by rw[r.inj e,Vals.inj t d]
section
def SqT.of{K:aB}(h:H a=sr .tup[xs]):SqT K H a xs:=.inl .inl[h]
def Inv.list(I:Inv X k g H s)(h:SqL X.K H a xs):∃b:lg aD,Vals xs b/\PlainL s.heap a b.toArray/\xs.length<=sizeLine:=by
 rcases h with h|⟨o,b,n,d,f,hd,hs,j,r⟩
 .let(z,b,n,r,e):=h.ok I.hok;exact(b,r,(_,n,e,rfl,rfl,rfl),z)
 .refine(b.toList,r,(o,n,I.kIn a o d,f,hd,()),?_)
  let e:=r.length;simp_all
def Inv.tuple(I:Inv X k g H s)(h:SqT X.K H a xs):∃b:lg aD,Vals xs b/\wN s.heap a b.toArray/\xs.length<=sizeLine:=by
 rcases h with h|⟨o,b,n,d,f,hs,j,r⟩
 .let(z,b,r,p):=h.ok I.hok;exact(b,r,p,z)
 .refine(b.toList,r,(o,I.kIn a o d,f,n,()),?_)
  let e:=r.length;simp_all
def Inv.list_inj(I:Inv X u p H s)(h:SqL X.K H a xs)(l:SqL X.K H a g):xs=g:=by
 let(k,r,(o,n,e,_,_,d),_):=I.list h;let(b,j,(q,t,c,_,_,f),_):=I.list l;rw[e] at c;cases c;rw[d] at f;injection f with d1 _
 have:=by simpa using congrArg aBs d1
 subst this;exact r.inj j
def Inv.tuple_inj(I:Inv X u p H s)(h:SqT X.K H a xs)(l:SqT X.K H a g):xs=g:=by
 let(k,r,(o,e,_,n,d),_):=I.tuple h;let(b,j,(q,c,_,t,f),_):=I.tuple l;rw[e] at c;cases c;rw[d] at f;injection f with d1 _
 have:=by simpa using congrArg aBs d1
 subst this;exact r.inj j
end
abbrev Cx.wish(X:Cx)(E:aD->aN->Prop):Cx:={ X with xe:=E }
abbrev Cx.nox(X:Cx):Cx:=X.wish λuw uw=>False
def Cx.Ok.wish{X:Cx}(ok:X.Ok)(E:aD->aN->Prop):(X.wish E).Ok:=(
 (ok.mod,ok.kind,ok.glob,ok.blt,ok.above,ok.inj,ok.has,ok.cab,ok.hd,ok.frames,ok.stk,ok.exf,ok.bs,ok.bsz,ok.noex,ok.exfs,ok.funs,ok.frf))
def Cx.Ok.unwish{X:Cx}{E:aD->aN->Prop}(ok:(X.wish E).Ok):X.Ok:=(
 (ok.mod,ok.kind,ok.glob,ok.blt,ok.above,ok.inj,ok.has,ok.cab,ok.hd,ok.frames,ok.stk,ok.exf,ok.bs,ok.bsz,ok.noex,ok.exfs,ok.funs,ok.frf))
section
def Inv.wish(I:Inv X aa σ H s)(E:aD->aN->Prop):Inv X.wish[E] aa σ H s:=(I.ok.wish E,I.os,I.bare,I.base,I.loc,I.cell,I.free,I.freeC,I.pin,I.hok,I.len)
def Inv.unwish(I:Inv X.wish[E] aa σ H s):Inv X aa σ H s:=(I.ok.unwish,I.os,I.bare,I.base,I.loc,I.cell,I.free,I.freeC,I.pin,I.hok,I.len)
def PE.nox(h:PE X.nox e t):PE X e t:=(λd s a H Q I c=>
 cQ[h d s a H Q I.wish[_] c][λ_ _ ⟨v,H',I',r,q⟩=>(v,H',I'.unwish,r,q)] λb b z=>bT z)
end
section
def Bou(t u:TS):TS:=λD σ H=>t { D with nx:=u D } σ H
def Al6{X:Cx}{st:cF}{rest:lg cF}{t u:TS}(i:PS X st t)(g:PSs X rest u):PSs X (st::rest) (Bou t u):=by
 intro b s d H D I h;refine yH (thn (i b s d H { D with nx:=u D } I h) λf e q=>?_)
 cases f with
 |next=>
  let(a,k,j,q):=q;exact g b e a k D j q
 |ret v=>exact q
 |brk=>exact q
 |cont=>exact q
def Aq2{X:Cx}{st:cF}{t:TS}(b:PS X st t):PSs X [st] t:=by
 intro c s a H D I h;refine yH[thn[b c s a H D I h] λf d q=>?_];cases f with
 |next=>exact jL q
 |ret v=>omega
 |brk=>omega
 |cont=>omega
def Inv.quiet(I:Inv X b a H s):interactive X.env=t7:=by simp[interactive,I.ok.kind]
def Blm(te:TE):TS:=λD σ H=>te σ H λuw H1=>D.nx σ H1
def Aq3(he:PE X e te)(hs:swapsWith e sy pos.line X.env=pure t7:=by rfl):PS X (.Expr e pos) Blm[te]:=λaa s σ H D I h=>wpAny_Expr_any (thn[he aa s σ H _ I h] λv s1 ⟨x,H1,I1,r1,q1⟩=>(σ,H1,I1,q1)) I.quiet hs
def Bov(te:TE):TS:=λD σ H=>te σ H D.rt
def Bhm(he:PE X e te):PS X (.Return sr[e] pos) Bov[te]:=λaa s σ H D I h=>wpAny_Return_some[thn[he aa s σ H _ I h] λv s1 ⟨x,H1,I1,r1,q1⟩=>(x,σ,H1,I1,r1,q1)]
def Bow(c:TT)(t u:TS):TS:=λD σ H=>c σ H λb H1=>if b=t8 then t D σ H1 else u D σ H1
end
abbrev TG:=V->St->Hp->(St->Hp->Prop)->Prop
abbrev TGs:=lg V->St->Hp->(St->Hp->Prop)->Prop
def PG(X:Cx)(target:bW)(t:TG):Prop:=
 ∀(aa:lg[aG×tu])(s:aN)(σ:St)(H:Hp)(v:V)(u:aD)(Q:St->Hp->Prop),Inv X aa σ H s->RelV v u->t v σ H Q->
  wpAny (model X.prog X.w) X.A (assign target X.env u) (λuw s'=>∃σ' H',Inv X aa σ' H' s'/\Q σ' H') X.xe s
def PGs(X:Cx)(ts:lg bW)(t:TGs):Prop:=
 ∀(aa:lg[aG×tu])(s:aN)(σ:St)(H:Hp)(vs:lg V)(us:lg aD)(Q:St->Hp->Prop),Inv X aa σ H s->Vals vs us->t vs σ H Q->
  wpAny (model X.prog X.w) X.A (assignInOrder ((assignEach ts X.env).map (·.2)) us) (λuw s'=>∃σ' H',Inv X aa σ' H' s'/\Q σ' H') X.xe s
section
def Xj(i:Nat):TG:=λv σ H Q=>Q (σ.set i sr[v]) H
def Box:TGs:=λvs σ H Q=>vs=[]/\Q σ H
def Bgo(t:TG)(u:TGs):TGs:=λvs σ H Q=>∃v r,vs=v::r/\t v σ H λσ' H'=>u r σ' H' Q
def Awd(k:PG X e t)(j:PGs X b u)(hs:(assignEach (e::b) X.env).map (·.2)=assign e X.env::(assignEach b X.env).map (·.2):=by rfl):PGs X (e::b) (Bgo t u):=by
 rintro c s d H o q Q I r ⟨v,p,l,h⟩;subst l;cases r with
 |cons r g=>
  exact hs ▸ assignInOrder_cons[thn[k c s d H _ _ _ I r h] λ_ f ⟨σ1,H1,I1,q1⟩=>j c f σ1 H1 _ _ Q I1 g q1]
def Bln(K:aB)(n:Nat)(t:TGs):TG:=λv σ H Q=>∃a xs,v=.ref a/\SqT K H a xs/\xs.length=n/\t xs σ H Q
def Bhn(te:TE)(g:TG):TS:=λD σ H=>te σ H λx H1=>g x σ H1 D.nx
def Bho(n:PE X e f)(m:PG X a g)(hs:swapsWithSole [a] e b.line X.env=pure t7:=by rfl)(l:swappedStores [a] e X.env=pure sy:=by rfl)(o:(assignEach [a] X.env).map (·.2)=[assign a X.env]:=by rfl):PS[X][.Assign [a] e b][Bhn f g]:=by
 intro d s c H D I h;refine wpAny_Assign_stores (thn[n d s c H _ I h] λv i ⟨x,H1,I1,r1,q1⟩=>?_) hs l;exact o ▸ thn[m d i c H1 x v _ I1 r1 q1] λt u q=>q
end
structure It where
 go:Nat->Hp->Prop
 yld:Nat->Hp->V->Hp->Prop
 stop:Nat->Hp->Prop
def Ad3(X:Cx)(aa:lg[aG×tu])(H:Hp)(b:aG):Prop:=
 H b=sy/\b≠X.env.locals/\b∉X.fs/\(b∈X.ex\/X.s₀.heap.objs.size<=b)/\(∀x c,X.env.cells.lookup x=sr c->c≠b)/\∀p∈X.pn ++ aa,p.1≠b
def Inv.fpOk(I:Inv X f h H s)(a:s.heap.objs.size<=b)(d:H' b=sy):Ad3 X f H' b:=by
 refine(d,jP[aO I.lt a],I.nofs a,.inr[aF I.sz a],λx c e z=>?_,λp hp z=>absurd aO[aV (I.pin p hp).1][by simp_all] eQ[_])
 .let(v,q):=I.cell x c e;exact absurd aO[q.lt][by simp_all] eQ[_]
structure Turn(P:bY)(w:dO)(K:aB)(tg:bW)(J:It)(fp:List aG)(it:aG)(tn:Nat->dD->Prop):Prop where
 mem:it∈fp
 obj:∀i h,tn i h->∀b∈fp,∃o,h.get? b=sr o/\∀v,o.data≠.cell v
 keep:∀i h h',tn i h->(∀b∈fp,∀o,h.get? b=sr o->h'.get? b=sr o)->tn i h'
 item:∀(X:Cx),X.prog=P->X.w=w->X.K=K->X.calm=t8->∀(i:Nat)(aa:List (aG×tu))(s:aN)(σ:St)(H:Hp)(E:aD->aN->Prop),Inv X aa σ H s->(∀b∈fp,Ad3 X aa H b)->tn i s.heap->J.go i H->
  wpAny (model P w) X.A (pyNext (.ref it)) (λr s1=>∃u,r=sr u/\
   wpAny (model P w) X.A (letOwnedTupleGo tg (.ref it) u) (λuw s2=>∃x H',Inv X aa σ H' s2/\RelV x u/\J.yld i H x H'/\tn (i+1) s2.heap/\∀b∈fp,H' b=sy) E s1) E s
 done:∀(X:Cx),X.prog=P->X.w=w->X.K=K->X.calm=t8->∀(i:Nat)(aa:List (aG×tu))(s:aN)(σ:St)(H:Hp)(E:aD->aN->Prop),Inv X aa σ H s->(∀b∈fp,Ad3 X aa H b)->tn i s.heap->J.stop i H->
  wpAny (model P w) X.A (pyNext (.ref it)) (λr s1=>r=sy/\Inv X aa σ H s1) E s
 self:∀(A:eU)(i:Nat)(s:aN)(Q:aD->aN->Prop)(E:aD->aN->Prop),tn i s.heap->Q (.ref it) s->wpAny (model P w) A (pyIter (.ref it)) Q E s
abbrev TI:=St->Hp->(It->Hp->Prop)->Prop
def PIE(X:Cx)(aa:lg[aG×tu])(σ:St)(tg:bW)(R:It->Hp->Prop)(itv:aD)(s2:aN):Prop:=
 ∃(it:aG)(fp:lg aG)(tn:Nat->dD->Prop)(J:It)(H':Hp),itv=.ref it/\Inv X aa σ H' s2/\Turn X.prog X.w X.K tg J fp it tn/\tn 0 s2.heap/\(∀b∈fp,Ad3 X aa H' b)/\R J H'
def PI(X:Cx)(tg iter:bW)(wi:TI):Prop:=
 ∀(aa:lg[aG×tu])(s:aN)(σ:St)(H:Hp)(R:It->Hp->Prop),Inv X aa σ H s->wi σ H R->
  wpAny (model X.prog X.w) X.A (eval iter X.env) (λv s1=>wpAny (model X.prog X.w) X.A pyIter[v] (PIE X aa σ tg R) X.xe s1) X.xe s
def Aq4(d:s.heap.get? c=sr o)(f:o.cls=.type n)(hd:o.data=.fields g)(e:["enumerate","zip","dict_itemiterator","dict_reverseitemiterator","odict_iterator","itertools.zip_longest","itertools.pairwise"].contains n=t7)(a:Q u9 s):wpAny M A (letOwnedTupleGo b .ref[c] u) Q E s:=by
 cases b <;> first
  |exact aH a
  |(cases u <;> first
    |exact aH a
    |(refine aA[zY d ?_];rw[f,hd];show wpAny M A (if _ then _ else _) Q E s;rw[dm (by intro h;rw[e,zZ] at h;cases h)];exact aH a))
def Itl(K:aB)(a:aG):It:=
 (λi H=>∃xs x,SqL K H a xs/\xs[i]?=sr x,λi H x H'=>H'=H/\∀xs,SqL K H a xs->xs[i]?=sr x,λi H=>∃xs,SqL K H a xs/\xs.length<=i)
def Itt(K:aB)(a:aG):It:=
 (λi H=>∃xs x,SqT K H a xs/\xs[i]?=sr x,λi H x H'=>H'=H/\∀xs,SqT K H a xs->xs[i]?=sr x,λi H=>∃xs,SqT K H a xs/\xs.length<=i)
def Itr(lo:Int)(n:Nat):It:=(λi uw=>i < n,λi H x H'=>H'=H/\x=.int[lo+i],λi uw=>n<=i)
theorem Atl{P:bY}{w:dO}{K:aB}{S:bW}(a f:aG):Turn P w K S (Itl K a) [f] f (λi h=>h.IsListIter f a i) where
 mem:=by simp
 obj:=λi h st b g=>by
  let e:b=f:=by simpa using g
  subst e;let(o,e,c,d):=st;exact(o,e,λv z=>by rw[d] at z;cases z)
 keep:=λi h n st k=>st.at λo e=>k f () o e
 item:=by
  intro X B y hK O i Q s N H E I hf st A;subst B y hK;let(xs,x,m,t):=A;let(r,q,p,Y):=I.list m;let(u,hu,U):=q.get t;let(L,J,f2,G,F,C):=hf f ()
  refine wpAny_pyNext_list_item st p.isList (x:=u) (by simpa using hu) λn j T=>?_
  let I1:Inv X Q N H { s with heap:=n }:=I.turned (t':=s.toks) (λb o g e=>(T.2 b g).trans e) L J G F C
  let(o,e,c,d):=id j;exact(u,rfl,Aq4 (s:={ s with heap:=n }) e c d () (x,H,I1,U,(rfl,λys Z=>by rw[I.list_inj Z m];exact t),j,λb g=>(hf b g).1))
 done:=by
  intro X B y hK O i Q s N H E I hf st A;subst B y hK;let(xs,m,t):=A;let(r,q,p,Y):=I.list m;let(L,J,f2,G,F,C):=hf f ()
  let hl:=q.length;exact wpAny_pyNext_list_end I.ok.hd[O] st p.isList (by simp;omega) λn eb=>(rfl,I.turned (t':=s.toks) (λb o g e=>eb b o g e) L J G F C)
 self:=λl l l l l st h=>wpAny_pyIter_listiter st h
theorem Ao2{P:bY}{w:dO}{K:aB}{S:bW}(a g:aG):Turn P w K S (Itt K a) [g] g (λi h=>h.IsTupleIter g a i) where
 mem:=by simp
 obj:=λi h st b j=>by
  let e:b=g:=by simpa using j
  subst e;let(o,e,c,d):=st;exact(o,e,λv z=>by rw[d] at z;cases z)
 keep:=λi h q st k=>st.at λo e=>k g () o e
 item:=by
  intro X B y hK O i Q s N H E I hf st A;subst B y hK;let(xs,x,n,t):=A;let(f,r,p,Y):=I.tuple n;let(u,hu,U):=r.get t;let(L,J,f2,G,F,C):=hf g ()
  refine wpAny_pyNext_tuple_item st (show s.heap.IsTuple a f.toArray from p) (x:=u) (by simpa using hu) λq l T=>?_
  let I1:Inv X Q N H { s with heap:=q }:=I.turned (t':=s.toks) (λb o j e=>(T.2 b j).trans e) L J G F C
  let(o,e,c,d):=id l;exact(u,rfl,Aq4 (s:={ s with heap:=q }) e c d () (x,H,I1,U,(rfl,λys Z=>by rw[I.tuple_inj Z n];exact t),l,λb j=>(hf b j).1))
 done:=by
  intro X B y hK O i Q s N H E I hf st A;subst B y hK;let(xs,n,t):=A;let(f,r,p,Y):=I.tuple n;let(L,J,f2,G,F,C):=hf g ()
  let hl:=r.length;exact wpAny_pyNext_tuple_end I.ok.hd[O] st (show s.heap.IsTuple a f.toArray from p) (by simp;omega) λq eb=>(rfl,I.turned (t':=s.toks) (λb o j e=>eb b o j e) L J G F C)
 self:=λm m m m m st h=>wpAny_pyIter_tupleiter st h
theorem Ao3{P:bY}{w:dO}{K:aB}{J:bW}(a:aG)(lo:Int)(n:Nat):Turn P w K J (Itr lo n) [a] a (λi h=>IsRangeIter h a (lo+(i:Nat) * 1) ((n:Int) - (i:Nat)) 1) where
 mem:=by simp
 obj:=λi h st b c=>by
  let e:b=a:=by simpa using c
  subst e;exact(_,st,λv z=>by
   let G:yV _=uZ v:=z;cases G)
 keep:=λi h l st k=>k a () _ st
 item:=by
  intro X r m hK q i F s C H E I hf st p;subst r m hK;let(B,A,O,y,x,u):=hf a ()
  let W:=Walks.range (prog:=X.prog) (w:=X.w) I.ok.hd[q] a lo 1 n;refine W.item i s _ _ p st λv l tk N d L=>?_;let(t,rfl):=N;let S:Inv X F C H { s with heap:=l,toks:=tk }:=I.turned (λb o c e=>L b o (by simpa using c) e) B A y x u
  refine(_,rfl,Aq4 (s:={ s with heap:=l,toks:=tk }) (n:="range_iterator") d rfl rfl () (.int[lo+i],H,S,(t,?_),(rfl,rfl),d,λb c=>(hf b c).1))
  rw[Int.mul_one]
 done:=by
  intro X r m hK q i F s C H E I hf st p;subst r m hK;let(B,A,O,y,x,u):=hf a ()
  exact wpAny_pyNext_range_end I.ok.hd[q] st (by have:n<=i:=p;omega) λl Q=>(rfl,I.turned (t':=s.toks) (λb o c e=>Q b o c e) B A y x u)
 self:=λj j j j j st h=>wpAny_pyIter_rangeiter st h
section
def Blo(K:aB)(tl:TE):TI:=λσ H R=>tl σ H λx H1=>∃a,x=.ref a/\(∃xs,SqL K H1 a xs)/\R (Itl K a) H1
def Boy(K:aB)(tl:TE):TI:=λσ H R=>tl σ H λx H1=>∃a,x=.ref a/\(∃xs,SqT K H1 a xs)/\R (Itt K a) H1
def Bbs{l:bW}{tl:TE}(m:PE X l tl):PI X u l (Blo X.K tl):=by
 intro r s d H R I h;refine thn[m r s d H _ I h] λv f ⟨x,H1,I1,r1,q1⟩=>?_;let(a,e,(xs,k),q):=q1;subst e;cases r1;let(j,w,p,y):=I1.list k;apply oK p.isList;refine(f.heap.objs.size,_,_,_,H1,rfl,I1.kept λb o e=>aC _ e,Atl a _,(_,aR _ rfl,rfl,rfl),λb n=>?_,q);let e:=by simpa using n
 subst e;exact I1.fpOk aM[_] I1.hok.fresh[aM[_]]
def Bhp{l:bW}{tl:TE}(m:PE X l tl):PI X u l (Boy X.K tl):=by
 intro r s d H R I h;refine thn[m r s d H _ I h] λv f ⟨x,H1,I1,r1,q1⟩=>?_;let(a,e,(xs,k),q):=q1;subst e;cases r1;let(j,w,p,y):=I1.tuple k;apply qR[p];refine(f.heap.objs.size,_,_,_,H1,rfl,I1.kept λb o e=>aC _ e,Ao2 a _,(_,aR _ rfl,rfl,rfl),λb n=>?_,q);let e:=by simpa using n
 subst e;exact I1.fpOk aM[_] I1.hok.fresh[aM[_]]
def Awe{lo hi:Int}{t u v:Tok}{tk:Nat}(I:Inv X g f H s)(l:-(2 ^ 62)<=lo)(k:lo < 2 ^ 62)(j:-(2 ^ 62)<=hi)(i:hi < 2 ^ 62)(q:R (Itr lo (hi - lo).toNat) H):wpAny (model X.prog X.w) X.A pyIter[.ref[s.heap.objs.size]] (PIE X g f r R) E { s with heap:=s.heap.push { cls:=.type "range",data:=.fields #[.int lo t,.int hi u,.int 1 v] },toks:=tk }:=by
 refine wpAny_pyIter_range[IsRange.new ..][small_one l k j i][?_];let d:Inv X g f H { s with heap:=s.heap.push { cls:=.type "range",data:=.fields #[.int lo t,.int hi u,.int 1 v] },toks:=tk }:=I.kept λb o e=>aC _ e
 refine(_,_,_,_,H,rfl,
  d.kept λb o e=>aC _ e,Ao3 _ lo _,?_,λb h=>?_,q)
 .let n:lo+(0:Nat) * 1=lo:=by simp
  let m:((hi - lo).toNat:Nat) - ((0:Nat):Int)=aBm lo hi 1:=by rw[rangeSize_one];split <;> omega
  rw[n,m];exact aR _ rfl
 .let e:b=(s.heap.push { cls:=.type "range",data:=.fields #[.int lo t,.int hi u,.int 1 v] }).objs.size:=by simpa using h
  subst e;exact d.fpOk aM[_] d.hok.fresh[aM[_]]
def Blp(ta:TA):TI:=λσ H R=>ta σ H λvs H1=>∃j:Int,vs=[.int j]/\-(2 ^ 62)<=j/\j < 2 ^ 62/\R (Itr 0 j.toNat) H1
def Boz(wi:TI)(g:TG)(tb:TS):TS:=λD σ H=>wi σ H λJ H1=>∃W:Nat->Nat->St->Hp->Prop,(∃m,W 0 m σ H1)/\∀i m σ H,W i m σ H->
 (J.stop i H/\D.nx σ H)\/(J.go i H/\∃N:St->Hp->Prop,(∀σ' H',N σ' H'->∃m',m' < m/\W (i+1) m' σ' H')/\∀x H',J.yld i H x H'->g x σ H' λσ2 H2=>tb { D with nx:=N,ct:=N,bk:=D.nx } σ2 H2)
def Ae0(fp:lg aG)(h:dD):lg[aG×tu]:=fp.filterMap λb=>(h.get? b).map λo=>(u6 b o)
def Mg(a:b∈c)(e:h.get? b=sr o):(u6 b o)∈Ae0 c h:=(gF.mpr (b,a,by simp_all))
def Atm(hp:p∈Ae0 a h):p.1∈a/\h.get? p.1=sr p.2:=by
 let(b,d,e):=gF.mp hp;cases q:h.get? b with
 |none=>simp_all
 |some o=>
  rw[q] at e;let c:=cA e;subst c;trivial
def Inv.pinned(I:Inv X c f H s)(hf:∀b∈fp,Ad3 X c H b)(g:∀b∈fp,∃o,s.heap.get? b=sr o/\∀v,o.data≠.cell v):Inv X (c ++ Ae0 fp s.heap) f H s:=(
 I.pins_of λp hp=>(cU.mp hp).elim (λz=>I.pin p (cN _ z)) λz=>by
  let(a,e):=Atm z;let(k,j,h,_):=hf p.1 a;let(o,l,d):=g p.1 a;simp_all)
def Inv.unpinned(I:Inv X (aa ++ pl) σ H s):Inv X aa σ H s:=I.pins_of λp hp=>I.pin p cN[_][gW _ hp]
def Bhq(hp:yI (model X.prog X.w) X.A X.env X.xe)(hc:X.calm=t8)(hi:PI X tg z wi)(hg:PG X tg g)(l:PSs X body tb)(hs:∀x,foldedSetIterable z X.env x=pure x:=by intro _;rfl):PS[X][.For tg z body [] pos][Boz wi g tb]:=by
 intro C s σ H D I h;refine wpAny_For (thn[hi C s σ H _ I h] λv s1 h1=>thn h1 λitv s2 h2=>?_) hs;let(it,O,tn,J,H2,e,I2,T,S,f2,W,(m0,w0),E):=h2;subst e;let k:∀{t:Hp},(∀b∈O,t b=sy)->∀b∈O,Ad3 X C t b:=λhn b l=>(hn b l,(f2 b l).2);refine codeAny_forLoop_any (λn s'=>∃i j t,Inv X C j t s'/\tn i s'.heap/\(∀b∈O,t b=sy)/\W i n j t) ?_ m0 (0,σ,H2,I2,S,λb l=>(f2 b l).1,w0);rintro n s3 ⟨i,c,P,I3,F,L,w3⟩;rcases E i n c P w3 with ⟨stop,qn⟩|⟨go,N,hN,step⟩
 .refine nR hp (thn[T.done X rfl rfl rfl hc i C s3 c P X.xe I3 k[L] F stop] λr s4 ⟨hr,I4⟩=>?_);subst hr;exact jL (c,P,I4,qn)
 .refine nR hp (thn[T.item X rfl rfl rfl hc i C s3 c P X.xe I3 k[L] F go] λr s4 ⟨u,hr,h4⟩=>?_);subst hr;refine nR hp (thn h4 λ_ s5 ⟨x,H5,I5,r5,y5,st5,fr5⟩=>?_);let I5':=I5.pinned[k fr5][T.obj _ _ st5];refine nR hp (thn[hg _ s5 c H5 x u _ I5' r5 (step x H5 y5)] λ_ s6 ⟨σ6,H6,I6,q6⟩=>?_);refine nR hp (thn[l _ s6 σ6 H6 _ I6 q6] λf U y=>?_);let again:∀{a:St} {q:Hp},Inv X (C ++ Ae0 O s5.heap) a q U->N a q->∃m,m < n/\∃i j t,Inv X C j t U/\tn i U.heap/\(∀b∈O,t b=sy)/\W i m j t:=λ{a q} p G=>by
   let(m',hm,w7):=hN a q G;refine(m',hm,i+1,a,q,p.unpinned,T.keep _ _ _ st5 λb l o e=>(p.pin[u6 b o][cN _ cN[_][Mg l e]]).1,λb l=>?_,w7);let(o,e,d):=T.obj _ _ st5 b l;exact(p.pin[u6 b o][cN _ cN[_][Mg l e]]).2.1
  cases f with
  |next=>let(a,q,p,G):=y;exact again p G
  |cont=>let(a,q,p,G):=y;exact again p G
  |brk=>let(a,q,p,y):=y;exact(a,q,p.unpinned,y)
  |ret v=>let(x7,a,q,p,r7,y):=y;exact(x7,a,q,p.unpinned,r7,y)
end
abbrev R2:=V->V->Hp->VK->Prop
def OpR(X:Cx)(f:aD->aD->Sem aD)(r:R2):Prop:=
 ∀(aa:lg[aG×tu])(s:aN)(σ:St)(H:Hp)(x y:V)(v u:aD)(Q:VK),Inv X aa σ H s->RelV x v->RelV y u->r x y H Q->
  wpAny (model X.prog X.w) X.A (f v u) (EP X aa σ Q) X.xe s
def UnR(X:Cx)(f:aD->Sem aD)(r:V->Hp->VK->Prop):Prop:=
 ∀(aa:lg[aG×tu])(s:aN)(σ:St)(H:Hp)(x:V)(v:aD)(Q:VK),Inv X aa σ H s->RelV x v->r x H Q->
  wpAny (model X.prog X.w) X.A f[v] (EP X aa σ Q) X.xe s
def Jm(X:Cx)(f:aD)(r:lg V->Hp->VK->Prop):Prop:=
 ∀(aa:lg[aG×tu])(s:aN)(σ:St)(H:Hp)(xs:lg V)(us:lg aD)(Q:VK),Inv X aa σ H s->Vals xs us->r xs H Q->
  wpAny (model X.prog X.w) X.A (call f us) (EP X aa σ Q) X.xe s
def tOp(r:R2)(ta tb:TE):TE:=λσ H Q=>ta σ H λx H1=>tb σ H1 λy H2=>r x y H2 Q
def rI(C:Int->Int->Prop)(g:Int->Int->V):R2:=λx y H Q=>∃i j,x=.int i/\y=.int j/\C i j/\Q (g i j) H
def rI0(g:Int->Int->V):R2:=λx y H Q=>∃i j,x=.int i/\y=.int j/\Q (g i j) H
def rU(g:Int->V):V->Hp->VK->Prop:=λx H Q=>∃i,x=.int i/\Q g[i] H
section
def Bhr(B:PE X a n)(z:PE X b tb){k:lg[aG×tu]}{s:aN}{c:St}{H:Hp}{R:V->V->Hp->Prop}(I:Inv X k c H s)(h:n c H λx l=>tb c l λy d=>R x y d){Q:aD->aN->Prop}{f:aD->aD->Sem aD}(hf:∀v u j x y d,Inv X k c d j->RelV x v->RelV y u->R x y d->wpAny (model X.prog X.w) X.A (f v u) Q X.xe j):
  wpAny (model X.prog X.w) X.A (eval a X.env) (λv g=>wpAny (model X.prog X.w) X.A (eval b X.env) (λu e=>wpAny (model X.prog X.w) X.A (f v u) Q X.xe e) X.xe g) X.xe s:=(thn[B k s c H _ I h] λv o ⟨x,l,I1,r1,q1⟩=>thn[z k o c l _ I1 q1] λu j ⟨y,d,I2,r2,q2⟩=>hf v u j x y d I2 r1 r2 q2)
def opI{C:Int->Int->Prop}{g:Int->Int->Int}(b:∀(i j:Int)(t u:Tok)(s:aN)(Q:aD->aN->Prop)(E:aD->aN->Prop),C i j->Q .int[g i j][s.toks] { s with toks:=s.toks+1 }->wpAny (model X.prog X.w) X.A f[.int i t][.int j u] Q E s):
  OpR X f (rI C λi j=>.int[g i j]):=by
 rintro m s l H x y v u Q I e d ⟨i,j,rfl,rfl,h,q⟩;let(t,rfl):=e;let(c,rfl):=d;exact b i j t c s _ _ h (.int _,H,I.tok _,(_,rfl),q)
def Bhs{g:Int->Int->Int}(b:∀(i j:Int)(t u:Tok)(s:aN)(Q:aD->aN->Prop)(E:aD->aN->Prop),Q .int[g i j][s.toks] { s with toks:=s.toks+1 }->wpAny (model X.prog X.w) X.A f[.int i t][.int j u] Q E s):
  OpR X f (rI0 λi j=>.int[g i j]):=by
 rintro l s k H x y v u Q I e d ⟨i,j,rfl,rfl,q⟩;let(t,rfl):=e;let(c,rfl):=d;exact b i j t c s _ _ (.int _,H,I.tok _,(_,rfl),q)
def Bbt{g:Int->Int->Bool}(a:∀(i j:Int)(t u:Tok)(s:aN)(Q:aD->aN->Prop)(E:aD->aN->Prop),Q .bool[g i j] s->wpAny (model X.prog X.w) X.A f[.int i t][.int j u] Q E s):
  OpR X f (rI0 λi j=>.bl[g i j]):=by
 rintro m s l H x y v u Q I h e ⟨i,j,rfl,rfl,q⟩;let(t,rfl):=h;let(d,rfl):=e;exact a i j t d s _ _ (.bl _,H,I,rfl,q)
def Bo0(i j:Int):Prop:=0 < j/\j < 1073741824
def Bo1(i j:Int):Prop:=0<=j/\j<=1000000/\i.natAbs < 2 ^ 64
def Bbu(i j:Int):Prop:=(-(2 ^ 64) < i/\i < 2 ^ 64)\/(-(2 ^ 64) < j/\j < 2 ^ 64)
def Bbu.ok{i j:Int}(h:Bbu i j):IntMulOk i j:=by
 rcases h with ⟨b,a⟩|⟨b,a⟩
 .exact .of_left[aAy b a]
 .exact .of_right[aAy b a]
def Bht:OpR X binaryOp[.Add] (rI0 λi j=>.int[i+j]):=Bhs λuw uw uw uw uw uw uw q=>add_int q
def Bhu:OpR X binaryOp[.Sub] (rI0 λi j=>.int[i - j]):=Bhs λuw uw uw uw uw uw uw q=>sub_int q
def Bhv:OpR X binaryOp[.Mult] (rI Bbu λi j=>.int[i * j]):=opI λuw uw uw uw uw uw uw hc q=>mul_int q hc.ok
def unI{g:Int->Int}(a:∀(i:Int)(t:Tok)(s:aN)(Q:aD->aN->Prop)(E:aD->aN->Prop),Q (.int g[i] s.toks) { s with toks:=s.toks+1 }->wpAny (model X.prog X.w) X.A f[.int i t] Q E s):
  UnR X f (rU λi=>.int g[i]):=by
 rintro h s e H x v Q I c ⟨i,rfl,q⟩;let(t,rfl):=c;exact a i t s _ _ (.int _,H,I.tok _,(_,rfl),q)
end
section
def Ir(I:Inv X c a H s)(q:Q .bl[k] H)(e:k=b):EP X c a Q .bool[b] s:=by
 subst e;exact(.bl k,H,I,rfl,q)
def Blq:OpR X compareOp[.Lt] (rI0 λi j=>.bl decide[i < j]):=Bbt λuw uw uw uw uw uw uw q=>lt_int q
def Blr:OpR X compareOp[.LtE] (rI0 λi j=>.bl decide[i<=j]):=Bbt λuw uw uw uw uw uw uw q=>le_int q
def Bls:OpR X compareOp[.Gt] (rI0 λi j=>.bl decide[j < i]):=Bbt λuw uw uw uw uw uw uw q=>gt_int q
def Blt:OpR X compareOp[.GtE] (rI0 λi j=>.bl decide[j<=i]):=Bbt λuw uw uw uw uw uw uw q=>ge_int q
def Atn:OpR X compareOp[.In] (λx y H Q=>∃i j,x=.str i/\y=.str j/\Q .bl[!(dH j i 0 j.length 1).isEmpty] H):=by
 rintro e s c H x y v u Q I b a ⟨i,j,rfl,rfl,q⟩;let(t,rfl):=b;let(d,rfl):=a;exact in_str[Ir I q rfl]
def Bhw:OpR X compareOp[.Is] (λx y H Q=>y=.non/\Q .bl[decide[x=.non]] H):=by
 rintro d s c H x y v u Q I b a ⟨rfl,q⟩;cases a;refine is_none_gen[Ir I q ?_];cases x <;> first
  |rfl
  |(let(t,rfl):=b;rfl)
def Bbv:OpR X compareOp[.IsNot] (λx y H Q=>y=.non/\Q .bl[!decide (x=.non)] H):=by
 rintro d s c H x y v u Q I b a ⟨rfl,q⟩;cases a;refine isnot_none_gen[Ir I q ?_];cases x <;> first
  |rfl
  |(let(t,rfl):=b;rfl)
def isObj:HO->Bool
 |.lst _=>t8
 |.ins _ _ _=>t8
 |_=>t7
def Vk{f:lg[aG×tu]}{s:aN}{c:St}{H:Hp}{a:aG}{o:HO}(I:Inv X f c H s)(h:H a=sr o)(p:isObj o=t8):∃ob,s.heap.get? a=sr ob/\ob.cls≠.type "tuple":=by
 cases o with
 |lst xs=>
  obtain⟨_,d,n,_,e⟩:_:=I.hok a _ h;exact(_,e,(by show pH "list"≠_;trivial))
 |ins C i fs=>
  let(_,_,_,e,_):=I.hok a _ h;exact(_,e,())
 |_=>exact absurd (show t7=t8 from p) cR
def OpR.or(h:OpR X f r)(g:OpR X f e):OpR X f (λx y H Q=>r x y H Q\/e x y H Q):=by
 intro d s a H x y v u Q I c b q;rcases q with q|q
 .exact h d s a H x y v u Q I c b q
 .exact g d s a H x y v u Q I c b q
def Blu(t:TE):TT:=λσ H Q=>t σ H λx H'=>∃k,x=.bl k/\Q k H'
def Ao4(r r':R2)(ta tb tc:TE):TE:=λσ H Q=>ta σ H λx H1=>tb σ H1 λy H2=>r x y H2 λz H3=>∃k,z=.bl k/\
 (if k=t8 then tc σ H3 λw' H4=>r' y w' H4 Q else Q .bl[t7] H3)
def Awf(U:OpR X compareOp[n] r)(j:OpR X compareOp[g] N)(ha:PE X a A)(hb:PE X b tb)(Z:PE X c w)(Y:lastMarks [n,g] [b,c]=t7:=by with_unfolding_all rfl):PE[X][.Compare a [n,g] [b,c] pos][Ao4 r N A tb w]:=by
 intro i s f H Q I h;refine Compare_chain (thn[ha i s f H _ I h] λv F ⟨x,H1,I1,r1,q1⟩=>chain_link (thn[hb i F f H1 _ I1 q1] λu E ⟨y,H2,I2,r2,q2⟩=>
  thn[U i E f H2 x y v u _ I2 r1 r2 q2] λd C ⟨z,H3,I3,r3,k,e,q3⟩=>?_)) Y
 subst e;cases r3;apply iB;cases k with
 |false=>exact ite_ff (.bl t7,H3,I3,rfl,q3)
 |true=>exact ite_tt chain_last[thn[Z i C f H3 _ I3 q3] λt B ⟨z',H4,I4,r4,q4⟩=>j i B f H4 y z' u t Q I4 r2 r4 q4]
def Awg(ho:OpR X compareOp[n] r)(j:OpR X compareOp[g] O)(ha:PE X a A)(hb:PE X b tb)(hc:PE X c w)(hm:lastMarks [n,g] [b,c]=t7:=by with_unfolding_all rfl):PT X (.Compare a [n,g] [b,c] pos) Blu[Ao4 r O A tb w]:=by
 intro i s f H Q I h;refine isTrue_chain (thn[ha i s f H _ I h] λv F ⟨x,H1,I1,r1,q1⟩=>test_link (thn[hb i F f H1 _ I1 q1] λu E ⟨y,H2,I2,r2,q2⟩=>
  thn[ho i E f H2 x y v u _ I2 r1 r2 q2] λd C ⟨z,H3,I3,r3,k,e,q3⟩=>?_)) hm
 subst e;cases r3;apply iB;cases k with
 |false=>
  let(k',e',Y):=q3;cases e';exact ite_ff (H3,I3,Y)
 |true=>
  refine ite_tt test_last[thn[hc i C f H3 _ I3 q3] λt B ⟨z',H4,I4,r4,q4⟩=>thn[j i B f H4 y z' u t _ I4 r2 r4 q4] λd' s5 ⟨z2,H5,I5,r5,k2,e2,q5⟩=>?_];subst e2;cases r5;exact iB (H5,I5,q5)
def Ae1:(sizeLine:Nat) < 2 ^ 63:=by decide
def Ao5:OpR X binaryOp[.Add] (λx y H Q=>∃i j,x=.str i/\y=.str j/\i.length+j.length<=sizeLine/\Q .str[i ++ j] H):=by
 rintro f s e H x y v u Q I c b ⟨i,j,rfl,rfl,d,q⟩;let(t,rfl):=c;let(a,rfl):=b;exact add_str (λa tk=>(.str _,H,I.tok _,(_,rfl),q)) d
def vals1(r:Vals [x] a):∃u,a=[u]/\RelV x u:=by
 cases r with
 |cons c b=>cases b;exact(_,rfl,c)
def vals2(r:Vals [x,y] b):∃u a,b=[u,a]/\RelV x u/\RelV y a:=by
 cases r with
 |cons f e=>
  cases e with
  |cons d c=>cases c;exact(_,_,rfl,f,d)
def Bo2(K:aB)(x:V)(H:Hp)(n:Nat):Prop:=
 match x with
 |.str y=>y.length<=sizeLine/\n=y.length
 |.byt y=>y.size<=sizeLine/\n=y.size
 |.ref p=>(∃xs,SqL K H p xs/\n=xs.length)\/∃xs,SqT K H p xs/\n=xs.length
 |_=>False
def Awh:Jm X .builtin["len"] (λxs H Q=>∃x n,xs=[x]/\Bo2 X.K x H n/\Q .int[n] H):=by
 rintro m s j H xs k Q I r ⟨x,n,rfl,e,q⟩;let(u,rfl,c):=vals1 r;let l:=Ae1;let hs:sizeLine=16777216:=rK;cases x with
 |str y=>
  let(t,rfl):=c;obtain⟨i,b⟩:_:=e;subst b;exact len_str () (.int _,H,I.tok _,(_,rfl),q)
 |byt y=>
  let(t,rfl):=c;obtain⟨i,b⟩:_:=e;subst b;exact PySem.W.len_bytes () (.int _,H,I.tok _,(_,rfl),q)
 |ref p=>
  cases c;let b:=e;rcases b with ⟨xs,g,b⟩|⟨xs,g,b⟩
  .subst b;let(f,d,pl,h):=I.list g;let a:=d.length;exact Calls.call_len_list pl.isList (by simp only[cC];omega) (.int xs.length,H,I.tok _,(_,by simp only[cC];rw[a]),q)
  .subst b;let(f,d,pl,h):=I.tuple g;let a:=d.length;exact len_tuple pl (by simp only[cC];omega) (.int xs.length,H,I.tok _,(_,by simp only[cC];rw[a]),q)
 |_=>exact bT e
end
structure Ato(h:dD)(x dx C:aG)(mA:t6->Option aD):Prop where
 obj:h.get? x=sr (lR C dx)
 ns:h.Ns1 dx mA
 ne:dx≠x
nonrec def Ah0{h:dD}{g:aG}{d:t6->o9 aD}(n:h.Ns1 g d):∃c,h.get? g=sr c/\∀name,qU name c=sr d[name]:=by
 let(o,f,s,k,hd,m,_,l):=n;refine(o,k,λname=>?_);let e:=l name;unfold nsFind findBy at e;rw[<-Array.find?_toList] at e;unfold qU;rw[hd];dsimp only;split
 .rename_i y q;rw[q] at e;exact congrArg sr e
 .rename_i q;rw[q] at e;let a:f.toList.any (·.refKey)=t7:=by
   rw[List.any_eq_false];intro y j;let(z,t,b):=m y Array.mem_toList_iff.mp[j];simp[aEc,b]
  let p:¬ f.toList.any (·.refKey)=t8:=by rw[a];simp
  rw[dm p];exact congrArg sr e
def Ato.look(I:Ato h x e C b):∃a,PySem.W.InstAt h x (lR C e) C sr[a]/\∀name,qU name a=sr b[name]:=(
 let ⟨a,c,d⟩:=Ah0 I.ns
 (a,(I.obj,rfl,rfl,c),d))
section
def Awi{prog:bY}{w:dO}{A:eU}{E:aD->aN->Prop}{s:aN}{K:aB}{x g C f:aG}{b:t6->o9 aD}{name:t6}(X:K.In s.heap)(I:Ato s.heap x g C b)(c:pI K C name=t8)(hf:bZ K .ref[C] name=sr sr[.ref[f]])(e:tK K .ref[f]=t8)(i:b name=sy)(h:Q (u6 .ref[f] [.ref x]) s):
  wpAny (model prog w) A (getMethod .ref[x] name pl) Q E s:=by
 let(d,J,j):=I.look;exact PySem.W.method_fn X J (qG c).1 (qG c).2 hf beq_iff_eq.mp[e] (by show (qU name d).map _=_;simp_all) h
def Bbw{prog:bY}{w:dO}{A:eU}{E:aD->aN->Prop}{s:aN}{K:aB}{x f C:aG}{g:t6->o9 aD}{name:t6}{v:aD}(X:K.In s.heap)(I:Ato s.heap x f C g)(hs:bZ K .ref[C] "__setattr__"=sr sr[.builtin["object.__setattr__"]])(hp:rM K C=t8)(o:uA K C name=sr sy)(q:mC K C=t8)(n:wO g ns)(p:ns.length<=sizeLine)(h:∀e,Ato e x f C (λy=>if y=name then sr v else g y)->gM f s.heap e->Q u9 { s with heap:=e,toks:=s.toks+2 }):
  wpAny (model prog w) A (setAttr .ref[x] name v) Q E s:=by
 let(B,J,G):=I.look;refine PySem.W.set_plain X J hs (PySem.W.osa_open (r:=sy) X J hp o λb=>?_);let(H,t,k):=PySem.W.any_some q;refine aA aH[aA[aA[aAa I.obj aA[aDi[PySem.W.looks_clsIn X t][?_]]]]];rw[k];refine aH (a:=sr f) aA[aH[aA[?_]]];refine aBt I.ns λe d c=>?_;let(F,u,z,i,j,l):=d.count[aDv name v n];refine aA yJ[i][j ▸ yK aF[l][by grind]][?_]
 exact aH[h _ ((c.2 _ eF[I.ne]).trans I.obj,d,I.ne) c]
def Awj{prog:bY}{w:dO}{A:eU}{s:aN}{K:aB}{C f:aG}(X:K.In s.heap)(c:lU K C=t8)(hi:bZ K .ref[C] "__init__"=sr sr[.ref[f]])(hf:iT K .ref[f]=sr .type["function"])(h:codeAny (model prog w) A.under[.builtin "type.__call__" (.ref C::a,b)] (.call .ref[f] (.ref[s.heap.objs.size+1]::a,b)) PySem.W.InitBack[s.heap.objs.size+1][R]
   { s with heap:=(s.heap.push mF).push (lR C s.heap.objs.size) }):
  codeAny (model prog w) A (.call .ref[C] (a,b)) R s:=(PySem.W.make_core[PySem.W.makes_of X c][PySem.W.looks_findIn X hi][λself=>PySem.W.bind_fn X self hf][.inl rfl][h])
end
def Vy(f:t6)(v:V):lg[t6×V]->lg (t6×V)
 |[]=>[(f,v)]
 |(g,x)::r=>if g=f then (u6 g v)::r else (u6 g x)::Vy f v r
theorem Acb(f g:t6)(v:V):∀fs:lg[t6×V],(Vy f v fs).lookup g=if g=f then sr v else fs.lookup g
 |[]=>by
  show jQ g [(f,v)]=_;by_cases h:g=f
  .let a:(g==f)=t8:=beq_iff_eq.mpr h;simp only[jQ,a,di h]
  .let a:(g==f)=t7:=beq_eq_false_iff_ne.mpr h;simp only[jQ,a,dm h]
 |(k,x)::r=>by
  rw[show Vy f v ((u6 k x)::r)=(if k=f then (u6 k v)::r else _) from rfl]
  by_cases b:k=f
  .rw[di b];by_cases h:g=k
   .let a:(g==k)=t8:=beq_iff_eq.mpr h;simp only[jQ,a,di h.trans[b]]
   .let a:(g==k)=t7:=beq_eq_false_iff_ne.mpr h;simp only[jQ,a,dm (λe:g=f=>h e.trans[b.symm])]
  .rw[dm b];by_cases h:g=k
   .let a:(g==k)=t8:=beq_iff_eq.mpr h;simp only[jQ,a,dm (λe:g=f=>b h.symm.trans[e])]
   .let a:(g==k)=t7:=beq_eq_false_iff_ne.mpr h;simp only[jQ,a];exact Acb f g v r
theorem Abh(f:t6)(v:V):∀fs:lg[t6×V],f∈(Vy f v fs).map (·.1)/\∀g,g∈fs.map (·.1)->g∈(Vy f v fs).map (·.1)
 |[]=>(by simp[Vy],λg h=>by simp_all)
 |(k,x)::r=>by
  let(d,c):=Abh f v r;rw[show Vy f v _=(if k=f then _ else _) from rfl]
  grind
theorem Acd(f:t6)(v:V):∀fs:lg[t6×V],(Vy f v fs).length<=fs.length+1
 |[]=>by simp[Vy]
 |(k,x)::r=>by
  let c:=Acd f v r;rw[show Vy f v _=(if k=f then _ else _) from rfl]
  grind
def Vx.some_of(r:Vx sr[v] o):∃u,o=sr u/\RelV v u:=by
 cases o with
 |none=>trivial
 |some u=>exact(u,rfl,r)
def Vx.none_of(r:Vx sy o):o=sy:=by
 cases o with
 |none=>rfl
 |some u=>trivial
def Ah1(r:RelV v u):PySem.W.handedIn u=t8:=by
 cases v with
 |non=>cases (r);rfl
 |bl b=>cases (r);rfl
 |int i=>let(t,e):=(r);cases e;rfl
 |str x=>let(t,e):=(r);cases e;rfl
 |byt b=>let(t,e):=(r);cases e;rfl
 |flt b=>let(t,e):=(r);cases e;rfl
 |ref a=>cases (r);rfl
 |ty n=>cases (r);rfl
section
def Aec(hok:HOk P w H h)(e:H a=sr[.ins C c fs]):∃b,Ato h a c C b/\(∀f,Vx fs.lookup[f] b[f])/\wO b (fs.map (·.1))/\fs.length<=1000/\H c=sr .own[a]:=by
 let(d,z,ne,ob,b,n,r,q):=(hok a _ e);exact(b,(ob,n,ne),r,q,z,d)
end
structure Cls(K:aB)(C:aG):Prop where
 pg:pI K C aEd=t8
 hd:mC K C=t8
 po:rM K C=t8
 sa:bZ K (.ref C) "__setattr__"=sr (sr (.builtin "object.__setattr__"))
def Cls.get{K:aB}{C:aG}(c:Cls K C)(f:t6):pI K C f=t8:=c.pg
def Qi(K:aB)(C:aG)(f:t6):Prop:=bZ K .ref[C] f=sr sy
def Qi.taker{K:aB}{C:aG}{f:t6}(n:Qi K C f):uA K C f=sr sy:=by
 unfold uA;rw[n];rfl
structure Meth(K:aB)(C:aG)(m:t6)(f:aG):Prop where
 at_:bZ K (.ref C) m=sr (sr (.ref f))
 fn:tK K (.ref f)=t8
 kp:cG K (.ref f)=t8
section
def Ao6(I:Inv X k i H s)(e:H a=sr[.ins C q fs])(c:Cls X.K C)(n:Qi X.K C f)(l:fs.lookup f=sr v)(h:∀u d,Inv X k i H d->RelV v u->Q u d):wpAny (model X.prog X.w) A (getAttr .ref[a] f b) Q E s:=by
 let(j,O,r,_,_,_):=Aec I.hok e;let(u,hu,g):=Vx.some_of (v:=v) (o:=j f) (l ▸ r f);let(m,J,p):=O.look;exact PySem.W.get_value I.kIn J (qG c.get[f]).1 (vD c.hd n rfl (by simp_all)) Ah1[g] (h u _ I.tok[_] g)
def Ae2(I:Inv X i b H s)(e:H a=sr[.ins C f fs])(c:Cls X.K C)(k:Meth X.K C m g)(l:fs.lookup m=sy)(h:Q (u6 .ref[g] [.ref a]) s):wpAny (model X.prog X.w) A (getMethod .ref[a] m pl) Q E s:=by
 let(d,O,r,_,_,_):=Aec I.hok e;exact Awi I.kIn O c.get[m] k.at_ k.fn (Vx.none_of (by rw[<-l];simp_all)) h
def Ao7(I:Inv X J m H s)(e:H a=sr[.ins C d fs])(c:Cls X.K C)(n:Qi X.K C f)(P:fs.length < 1000)(L:RelV y u)(h:∀k,Inv X J m (upd H a .ins[C][d][Vy f y fs]) k->Q u9 k):wpAny (model X.prog X.w) A (setAttr .ref[a] f u) Q E s:=by
 let(N,O,r,j,_,l):=Aec I.hok e;let t:(fs.map (·.1)).length<=sizeLine:=by rw[aK,rK];omega
 refine Bbw I.kIn O c.sa c.po n.taker c.hd j t λF i p=>h _ ?_;let hd:∃o,F.get? d=sr o:=let ⟨o,_,_,G,_⟩:=i.ns;(o,G);apply I.write (x:=a) (e:=d) (e ▸ iK) .inr[l] (λb q B z=>(p.2 b B).trans z) hd;refine((Ah O.ne) ▸ l,?_,O.ne,i.obj,_,i.ns,λg=>?_,λg v=>?_)
 .have:=Acd f y fs;omega
 .rw[Acb];by_cases q:g=f
  .rwa [di q,di q]
  simp_all
 .by_cases q:g=f
  .exact q ▸ (Abh f y fs).1
  .refine(Abh f y fs).2 g (j g λz=>v ?_);simp_all
def Inv.made(I:Inv X k f H s):Inv X k f upd[upd H s.heap.objs.size .own[s.heap.objs.size+1]][s.heap.objs.size+1][.ins C s.heap.objs.size []]
  { s with heap:=(s.heap.push mF).push (lR C s.heap.objs.size) }:=by
 let d:_=sr mF:=aR s.heap rfl;let j:=by
  have:=aR s.heap.push[mF] (o:=lR C s.heap.objs.size) rfl
  rwa [fP] at this
 let l:=I.laid (a:=s.heap.objs.size) (o:=.own[s.heap.objs.size+1]) (t':=s.toks) (λb u q=>aC _ q) aM[_] (_,d);refine l.laid (λb u q=>aC _ q) oM[fP ..] ?_;let ne:s.heap.objs.size≠s.heap.objs.size+1:=bM gY[_];refine(by rw[Ah ne,An],dM _,ne,j,λc=>sy,(wQ (mF,#[],_,d,rfl,(λe h=>absurd h ()),λc=>rfl)).at λo q=>aC _ q,λc=>iK,λy g=>absurd rfl g)
end
def Bo3(K:aB)(ta tv:TE)(f:t6):TS:=λD σ H=>tv σ H λy H1=>ta σ H1 λx H2=>∃a C dx fs,x=.ref a/\H2 a=sr[.ins C dx fs]/\Cls K C/\Qi K C f/\fs.length < 1000/\
 D.nx σ (upd H2 a .ins[C][dx][Vy f y fs])
section
def Bhx(v:PE X o j)(t:PE X value i)(hs:swapsWith value sr[.Attribute o f b] e.line X.env=pure t7):PS[X][.Assign [.Attribute o f b] value e][Bo3 X.K j i f]:=by
 intro g s d H D I h;refine oY (thn[t g s d H _ I h] λu k ⟨y,H1,I1,ry,q⟩=>thn[v g k d H1 _ I1 q] λJ G ⟨x,H2,I2,rx,a,C,dx,fs,ex,ea,c,n,l,q2⟩=>?_) hs;subst ex;obtain rfl:_:=rx;exact Ao7 I2 ea c n l ry λF z=>(d,_,z,q2)
def Blv:V->V->Hp->VK->Prop:=λx y H Q=>∃i j,x=.int i/\y=.int j/\Q .int[i+j] H
def Blw:V->V->Hp->VK->Prop:=λx y H Q=>∃i j,x=.int i/\y=.int j/\Q .int[i - j] H
end
section
inductive Abi(K:aB)(H:Hp):V->aD->Prop where
 |non:Abi K H .non (.type "NoneType")
 |bl (x:Bool):Abi K H (.bl x) (.type "bool")
 |int (i:Int):Abi K H (.int i) (.type "int")
 |str (x:t6):Abi K H (.str x) (.type "str")
 |flt (x:UInt64):Abi K H (.flt x) (.type "float")
 |lst {a:aG} {xs:List V} (e:H a=sr (.lst xs)):Abi K H (.ref a) (.type "list")
 |frz {a:aG} {o:tu} {xs:List V} (e:H a=sr (.frz o (.lst xs))):Abi K H (.ref a) (.type "list")
 |tup {a:aG} {xs:List V} (e:H a=sr (.tup xs)):Abi K H (.ref a) (.type "tuple")
 |dK {a:aG} {kvs:List (Key×V)} (e:H a=sr (.dK kvs)):Abi K H (.ref a) (.type "dict")
 |dT {a:aG} {kvs:List (List Key×V)} (e:H a=sr (.dT kvs)):Abi K H (.ref a) (.type "dict")
 |ins {a C dx:aG} {fs:List (t6×V)} (e:H a=sr (.ins C dx fs)) (cl:Cls K C) (ha:bZ K (.ref C) "__class__"=sr (sr (.builtin "object.__class__")))
   (hn:rN K (.builtin "object.__class__") "__get__"=sr (sr (.builtin "getset_descriptor.__get__"))) (htk:PySem.W.takesIn K (.builtin "object.__class__")=sr t8)
   (hm:lY K C (.type "object")=sr t8):Abi K H (.ref a) (.ref C)
def Atp(I:Inv X T G H s)(d:RelV x u)(ty:Abi X.K H x t)(e:lA X.K t c=sr b)(h:∀tk,Q .bool[b] { s with toks:=tk }):
  wpAny (model X.prog X.w) A (call .builtin["isinstance"] [u,c]) Q E s:=by
 cases ty with
 |non=>cases (show u=gD from d);exact fQ PySem.W.kitx_none I.kIn iK e (λz=>nomatch z) h
 |bl y=>cases (show u=tH y from d);exact fQ PySem.W.kitx_bool I.kIn iK e (λz=>nomatch z) h
 |int i=>let(t,q):=(show ∃t,u=yF i t from d);cases q;exact fQ PySem.W.kitx_int I.kIn iK e (λz=>nomatch z) h
 |str y=>let(t,q):=(show ∃t,u=yG y t from d);cases q;exact fQ PySem.W.kitx_str I.kIn iK e (λz=>nomatch z) h
 |flt y=>let(t,q):=(show ∃t,u=aCn y t from d);cases q;exact fQ PySem.W.kitx_float I.kIn iK e (λz=>nomatch z) h
 |@lst a xs f=>
  cases (show u=bI a from d);let(_,_,n,_,g):=(I.hok a _ f);exact fQ wR I.kIn (_,g,rfl) e (λz=>nomatch z) h
 |@frz a ob xs f=>
  cases (show u=bI a from d);let(_,_,_,n,_,g):=(I.hok a _ f);exact fQ wR I.kIn (_,g,rfl) e (λz=>nomatch z) h
 |@tup a xs f=>
  cases (show u=bI a from d);let(_,_,_,p):=(show Ed X.prog X.w H s.heap a .tup[xs] from I.hok a _ f);let(o,g,k,_):=p;exact fQ PySem.W.kitx_tuple I.kIn (o,g,k) e (λz=>nomatch z) h
 |@dK a j f=>
  cases (show u=bI a from d);let(_,_,L,_,p):=(show Ed X.prog X.w H s.heap a .dK[j] from I.hok a _ f);let(o,B,F,g,k,_):=p;exact fQ wU I.kIn (o,g,k.1) e (λz=>nomatch z) h
 |@dT a j f=>
  cases (show u=bI a from d);let(_,_,xs,_,o,B,F,g,k,_):=(show Ed X.prog X.w H s.heap a .dT[j] from I.hok a _ f);exact fQ wU I.kIn (o,g,k.1) e (λz=>nomatch z) h
 |@ins a C S fs f cl v m l r=>
  cases (show u=bI a from d);let(P,O,_):=Aec I.hok f;let(N,J,_):=O.look;exact fQ (PySem.W.kitx_own cl.get[_] cl.hd v m l r) I.kIn J e (λz=>nomatch z) h
end
structure Fq(k:Nat)(A:eU)(cm:Bool:=true):Prop where
 hd:cm=t8->A.handled=sy
 dp:A.depth+3 * k+5 < recursionLimit
 un:A.units+16 * k+200 < cLine
theorem Fq.mono{j k:Nat}(r:Fq k A a)(h:j<=k):Fq j A a:=(r.hd,by have:=r.dp;omega,by have:=r.un;omega)
def Fq.deeper{k:Nat}(r:Fq (k+1) A a)(env:Env):Fq k A.deeper[env] a:=(
 (r.hd,by have:=r.dp;show A.depth+1+3 * k+5 < _;omega,by have:=r.un;show A.units+3+_+200 < _;omega))
def Ao8{A:eU}{C:aG}{b:lg aD}{c:lg[t6×aD]}:(A.under[.builtin "type.__call__" (.ref C::b,c)]).depth=A.depth+1:=by rfl
def Ao9{A:eU}{C:aG}{us:lg aD}{kw:lg[t6×aD]}:(A.under[.builtin "type.__call__" (.ref C::us,kw)]).units=A.units+1:=rfl
def Fq.make{k:Nat}(r:Fq (k+1) A d)(C:aG)(b:lg aD)(c:lg[t6×aD]):Fq k A.under[.builtin "type.__call__" (.ref C::b,c)] d:=(
 (r.hd,by have:=r.dp;rw[Ao8];omega,by have:=r.un;rw[Ao9];omega))
def Fq.depth{k:Nat}(r:Fq k A b):A.depth < recursionLimit:=by have:=r.dp;omega
def Bhy:TA:=λuw H Q=>Q [] H
def Aq5(ta:TE)(tr:TA):TA:=λσ H Q=>ta σ H λx H1=>tr σ H1 λxs H2=>Q (x::xs) H2
section
def Ajw:PA X [] Bhy:=λuw uw uw uw H Q I h=>wV ([],H,I,.nil,h)
def Xk(o:PE X e g)(n:PA X c t)(hs:starEach (e::c) X.env=(u6 t7 (eval e X.env))::starEach c X.env:=by rfl):PA X (e::c) (Aq5 g t):=by
 intro a f s d H Q I h;rw[hs];show wpAny _ _ (spliced ((u6 t7 (eval e X.env))::backTo a _)) _ _ s;exact wA[thn[o f s d H _ I h] λu i ⟨x,H1,I1,r1,q1⟩=>thn[n a f i d H1 _ I1 q1] λw y ⟨xs,H2,I2,r2,q2⟩=>(_,H2,I2,.cons r1 r2,q2)]
def Bo4(t:TA):TE:=λσ H Q=>t σ H λxs H1=>xs.length<=sizeLine/\∀p,H1 p=sy->Q[.ref p][upd H1 p .tup[xs]]
def Bo5(t:TA):TE:=λσ H Q=>t σ H λxs H1=>xs.length<=sizeLine/\∀p,H1 p=sy->Q[.ref p][upd H1 p .lst[xs]]
end
abbrev Sp:=lg V->Hp->VK->XK->Prop
abbrev CXT:=lg Env->Hp->aN->XK->aD->aN->Prop
structure Ad4(P:bY)(w:dO)(K:aB)(mg:t6->Option aD)(base:dD)(A:eU)(outer:List Env)(s:aN)(H:Hp):Prop where
 frames:A.frames=sr outer
 mod:Mod K mg base
 bs:∀b o,base.get? b=sr o->s.heap.get? b=sr o/\H b=sy
 bsz:base.objs.size<=s.heap.objs.size
 funs:s.heap.FunFrames base outer
 frf:∀b∈frs outer,H b=sy
 hok:HOk P w H s.heap
 bare:qM s.gens
def CE(outer:lg Env)(P:bY)(w:dO)(H:Hp)(s:aN)(Q:VK)(u:aD)(s':aN):Prop:=
 ∃v H',s'.os=s.os/\qM s'.gens/\Un frs[outer] [] H H' s.heap s'.heap/\HOk P w H' s'.heap/\RelV v u/\Q v H'
def CR(CX:CXT)(outer:lg Env)(P:bY)(w:dO)(H:Hp)(s:aN)(Q:VK)(E:XK)(r:Result)(s':aN):Prop:=
 match r with
 |.ok (.ret u)=>CE outer P w H s Q u s'
 |.ok _=>False
 |.error e=>CX outer H s E e s'
structure Hl(P:bY)(w:dO)(K:aB)(mg:t6->Option aD)(base:dD)(CX:CXT)(k:Nat)(f:aG)(fd:eN)(ps:List t6)(sp:Sp)(cm:Bool:=true):Prop where
 len:∀vs H Q E,sp vs H Q E->vs.length=ps.length
 run:∀(A:eU)(outer:List Env)(s:aN)(H:Hp)(args:Args)(us:List aD)(vs:List V)(Q:VK)(E:XK),Fq k A cm->Ad4 P w K mg base A outer s H->zV s fd args (ps.zip us)->Vals vs us->sp vs H Q E->
  codeAny (model P w) A (.call (.ref f) args) (CR CX outer P w H s Q E) s
theorem Hl.mono{P:bY}{w:dO}{K:aB}{mg:t6->o9 aD}{base:dD}{g:CXT}{j k:Nat}{f:aG}{fd:eN}{ps:lg t6}{c:Sp}{d:Bool}(F:Hl P w K mg base g j f fd ps c d)(h:j<=k):
  Hl P w K mg base g k f fd ps c d:=(F.len,λA outer s H a m l Q E n=>F.run A outer s H a m l Q E n.mono[h])
theorem Ad4.make{P:bY}{w:dO}{K:aB}{mg:t6->o9 aD}{base:dD}{A:eU}{outer:lg Env}{s:aN}{H:Hp}(e:Ad4 P w K mg base A outer s H)(C:aG)(c:lg aD)(d:lg[t6×aD]):
  Ad4 P w K mg base A.under[.builtin "type.__call__" (.ref C::c,d)] outer s H:=(by first|exact e.frames|rfl,e.mod,e.bs,e.bsz,e.funs,e.frf,e.hok,e.bare)
section
def Inv.env0(I:Inv X b a H s):Ad4 X.prog X.w X.K X.mg X.base X.A X.stack s H:=(
 (I.ok.frames,I.ok.mod,I.bs,aF I.ok.bsz I.sz,I.stack,I.stkFree,I.hok,I.bare))
def Inv.after(I:Inv X f c H s)(h:CE X.stack X.prog X.w H s Q u a):EP X f c Q u a:=by
 let(v,j,os,bare,un,hok,r,q):=h;let(k,g,d,t,e):=a;obtain rfl:_:=os;exact(v,j,I.call un hok bare (λb z=>absurd z ()),r,q)
end
def Binds(K:aB)(fd:eN)(ps:lg t6)(ds:lg aD):Prop:=
 ∀(s:aN)(us:lg aD),K.In s.heap->(us ++ ds).length=ps.length->zV s fd (us,[]) ps.zip[us ++ ds]
def Binds.all{K:aB}{fd:eN}{ps:lg t6}(h:∀a:lg aD,a.length=ps.length->bindArgs fd (a,[])=pure ps.zip[a]):Binds K fd ps []:=(λs a e c=>by
 rw[bU] at c ⊢
 exact .of_eq[h a c])
section
variable{k:Nat}
structure Mk(K:aB)(C f:aG):Prop where
 makes:lU K C=t8
 init:bZ K (.ref C) "__init__"=sr (sr (.ref f))
 fn:tK K (.ref f)=t8
 kp:cG K (.ref C)=t8
end
def PK(X:Cx)(kws:lg iC)(t:TA):Prop:=
 ∀(pos:Pos)(aa:lg[aG×tu])(s:aN)(σ:St)(H:Hp)(Q:lg V->Hp->Prop),Inv X aa σ H s->t σ H Q->wpAny (model X.prog X.w) X.A (evalAll ((backToKw pos (keywordEach kws X.env)).map (·.2))) (AP X aa σ Q) X.xe s
section
variable{k:Nat}
def Bbx(ha:PE X e te)(hr:PK X kws t):PK X ((nm,e,kpos)::kws) (Aq5 te t):=λpos aa s σ H Q I h=>wpAny_evalAll_cons aA[thn[ha aa s σ H _ I h] λu s1 ⟨x,H1,I1,r1,q1⟩=>aA iM[aH[thn[hr pos aa s1 σ H1 _ I1 q1] λus s2 ⟨xs,H2,I2,r2,q2⟩=>(_,H2,I2,.cons r1 r2,q2)]]]
end
structure Ek(N P:List t6)(sc:iV):Prop where
 kind:sc.kind=.function
 co:sc.isCoroutine=t7
 gen:sc.isGenerator=t7
 nd:N.Nodup
 pre:N.take P.length=P
 par:∀x∈P,sc.names.lookup x=sr .local\/sc.names.lookup x=sr .cell
 nofree:∀y∈sc.names,y.2≠.free
theorem Ah2{kindOf:t6->o9 lV}{x:t6}:∀{binds:lg[t6×aD]} {m:t6->o9 aD},(∀v,(u6 x v)∉binds)->bindL kindOf binds m x=m x
 |[],_,_=>rfl
 |(n,v)::r,m,h=>by
  unfold bindL;rw[Ah2 λw c=>h w (bC _ c)];split
  .have:x≠n:=by rintro rfl;exact h v bF
   simp_all
  rfl
theorem Ah3{kindOf:t6->o9 lV}{x:t6}:∀{binds:lg[t6×aD]} {m:t6->o9 aD},(∀v,(u6 x v)∉binds)->bindC kindOf binds m x=m x
 |[],_,_=>rfl
 |(n,v)::r,m,h=>by
  unfold bindC;rw[Ah3 λw c=>h w (bC _ c)];split
  .rfl
  .have:x≠n:=by rintro rfl;exact h v bF
   simp_all
theorem Ah4{kindOf:t6->o9 lV}{x:t6}{v:aD}:∀{P:lg t6} {b:lg aD} {i:Nat} {m:t6->o9 aD},P.Nodup->P[i]?=sr x->b[i]?=sr v->kindOf x=sr .local->
  bindL kindOf P.zip[b] m x=sr v
 |[],_,_,_,_,h,_,_=>by trivial
 |_,[],_,_,_,_,h,_=>by trivial
 |p::P,w::b,0,m,nd,f,e,d=>by
  simp at f e;subst f;subst e;show bindL kindOf ((u6 p w)::P.zip b) m p=_;unfold bindL;rw[Ah2 λv g=>(nU.mp nd).1 (uB g).1,di d];simp
 |p::P,w::b,i+1,m,nd,f,e,d=>by
  unfold bindL;exact Ah4 (nU.mp nd).2 (by trivial) (by trivial) d
theorem Ah5{kindOf:t6->o9 lV}{x:t6}{v:aD}:∀{P:lg t6} {b:lg aD} {i:Nat} {m:t6->o9 aD},P.Nodup->P[i]?=sr x->b[i]?=sr v->kindOf x≠sr .local->
  bindC kindOf P.zip[b] m x=sr v
 |[],_,_,_,_,h,_,_=>by trivial
 |_,[],_,_,_,_,h,_=>by trivial
 |p::P,w::b,0,m,nd,f,e,d=>by
  simp at f e;subst f;subst e;show bindC kindOf ((u6 p w)::P.zip b) m p=_;unfold bindC;rw[Ah3 λv g=>(nU.mp nd).1 (uB g).1,dm d];simp
 |p::P,w::b,i+1,m,nd,f,e,d=>by
  unfold bindC;exact Ah5 (nU.mp nd).2 (by trivial) (by trivial) d
def start(N:lg t6)(vs:lg V):St:=vs.map sr ++ bV (N.length - vs.length) sy
def Abj(CX:CXT)(P:bY)(w:dO)(K:aB)(mg:t6->o9 aD)(base:dD)(N:lg t6)(qual:t6)(scope:iV)(f:aG)(cd:aD)(A:eU)(outer:lg Env)(s:aN)(H:Hp)(E:XK)(cm:Bool:=true):Cx where
 prog:=P
 w:=w
 K:=K
 mg:=mg
 base:=base
 A:=A.deeper (envOfC qual scope s.heap.objs.size f cd)
 N:=N
 s₀:=s
 H₀:=H
 env:=envOfC qual scope s.heap.objs.size f cd
 outer:=outer
 stack:=envOfC qual scope s.heap.objs.size f cd::outer
 ex:=[]
 calm:=cm
 fn:=λuw=>t8
 pn:=[]
 xe:=λe s'=>wpAny (model P w) A.deeper[envOfC qual scope s.heap.objs.size f cd] leaving[envOfC qual scope s.heap.objs.size f cd][e] (λuw s''=>CX outer H s E e s'') (λe' s''=>CX outer H s E e' s'') s'
def Al7{sc:iV}{n:Nat}{x:t6}(h:sc.names.lookup x=sr .cell):∃c,(cellsFrom n sc.names []).lookup x=sr c:=nJ.mp[tL sc.names n [] .inl[h]]
def Atq{I:Bool}{O:CXT}{P:bY}{w:dO}{K:aB}{mg:t6->o9 aD}{base:dD}{N ps:lg t6}{qual:t6}{scope:iV}{f:aG}{C:aD}{A:eU}{outer:lg Env}{s J:aN}{H:Hp}{E:XK}{F:lg aD}{l:lg V}(S:Ek N ps scope)(hd:I=t8->A.handled=sy)(j:Ad4 P w K mg base A outer s H)(hl:l.length=ps.length)(r:Vals l F)(x:InCallC s s.heap.objs.size (bindL (envOfC qual scope s.heap.objs.size f C).kindOf ps.zip[F] λB=>sy) cellsFrom[s.heap.objs.size+1][scope.names][[]] (bindC (envOfC qual scope s.heap.objs.size f C).kindOf ps.zip[F] λB=>sy) J):
  Inv (Abj O P w K mg base N qual scope f C A outer s H E I) [] (start N l) H J:=by
 let U:ps.length<=N.length:=by have:=congrArg List.length S.pre;rw[dW] at this;omega
 let(G,tk,rfl,L):=x.done;let m:∀b:aG,b∉(Abj O P w K mg base N qual scope f C A outer s H E I).ex:=λb z=>absurd (show b∈([]:lg aG) from z) ()
 refine((j.mod,S.kind,rfl,rfl,aM _,λy z c G g=>?_,λy hy=>?_,λy c B h=>?_,hd,uM j.frames,.inr (rfl,rfl),λb z=>absurd z m[b],j.bs,j.bsz,λb B B=>m b,λb z=>absurd z m[b],j.funs,j.frf),
  rfl,j.bare,Un.kept L,(_,x.toInCall.ns,λi y v G g h3=>?_),λy c h=>(_,x.cell y c h),j.hok.fresh aM[_],λy c h=>?_,λp hp=>absurd (show p∈([]:lg[aG×tu]) from hp) (),j.hok.kept L,?_)
 .exact name_of_addr x.apart gP[G] gP[g]
 .let hy:scope.names.lookup y=sr .cell\/scope.names.lookup y=sr .free:=hy;rcases hy with hy|hy
  .exact Al7 hy
  .exact absurd rfl (S.nofree _ gP[hy])
 .exact gK[x.above y c gP[h]]
 .let hi:i < l.length:=by
   unfold start at g;by_cases hi:i < l.length
   .exact hi
   .rw[bA[by simpa using hi]] at g
    rw[lB] at g;split at g <;> cases g
  let X:l[i]?=sr v:=by
   unfold start at g;rw[aW[by simpa using hi],bJ] at g
   cases e:l[i]? with
   |none=>rw[e] at g;cases g
   |some a=>rw[e] at g;cases g;rfl
  let(u,hu,T):=r.get X;let hp:ps[i]?=sr y:=by
   rwa [<-S.pre,List.getElem?_take_of_lt ()]
  let o:ps.Nodup:=S.pre ▸ S.nd.sublist[List.take_sublist ..];refine(u,T,?_);rcases S.par y gG[hp] with k|k
  .exact .inl (k,Ah4 o hp hu k)
  .let(c,e):=Al7 (n:=s.heap.objs.size+1) k;refine .inr (.inl k,c,e,?_);let q:=x.cell y c e;rw[Ah5 o hp hu (by show scope.names.lookup y≠_;rw[k];decide)] at q
   exact q
 .exact j.hok.fresh gK[x.above y c gP[h]]
 .unfold start;show _=N.length;rw[bD,aK,fB];omega
def Bgp{z:Bool}{T:CXT}{P:bY}{w:dO}{K:aB}{mg:t6->o9 aD}{base:dD}{k:Nat}{f:aG}{name qual:t6}{params:vA}{body:lg cF}{scope:iV}{X kV m U a ct oc:aD}{Z od:o9 aG}{G:Array o9[aD]}{N ps:lg t6}{B:Sp}(lk:K.lookup f=sr (oc,od,.func[cL name qual params body scope X kV m U Z a ct],G))(O:iU K a qual=t8)(S:Ek N ps scope)(len:∀g H Q E,B g H Q E->g.length=ps.length)(hbody:∀(A:eU)(outer:lg Env)(s:aN)(H:Hp)(g:lg V)(Q:VK)(E:XK),Fq k A.deeper[envOfC qual scope s.heap.objs.size f a] z->B g H Q E->
   ∃t,PSs (Abj T P w K mg base N qual scope f a A outer s H E z) body t/\t { nx:=λuw h=>Q .non h,rt:=Q } (start N g) H):
  Hl P w K mg base T (k+1) f (cL name qual params body scope X kV m U Z a ct) ps B z:=by
 refine(len,λA outer s H Y us g Q E L l hb r i=>?_);let hl:=len _ _ _ _ i;let KX:K.In s.heap:=l.mod.kin.keeps λb o e=>(l.bs b o e).1;let I:s.heap.NoLimit:=l.mod.nolimit.keeps λb o e=>(l.bs b o e).1;let au:∀y∈ps.zip us,scope.names.lookup y.1=sr .local\/(scope.names.lookup y.1=sr .cell/\((cellsFrom (s.heap.objs.size+1) scope.names []).lookup y.1).isSome=t8):=λ⟨n,v⟩ hy=>by
  rcases S.par n (uB hy).1 with q|q
  .exact .inl q
  .exact .inr (q,tL _ _ _ .inl[q])
 refine codeAny_call_function L.depth (KX _ _ lk) rfl S.co S.gen rfl (PySem.W.codeRec_of KX O) (hb _ _ _ _ ?_);refine wpAny_newFunctionEnv_cells S.kind au λenv he s1 x=>?_;subst he;refine(I.keeps x.toInCall.keep,codeAny_func ?_);let(t,ht,hq):=hbody A outer s H g Q E L.deeper[_] i;refine cQ[ht [] s1 (start N g) H _ (Atq S L.hd l hl r x) hq][λfl C hs=>?_] λe C hs=>hs;let j:∀{d:St} {h:Hp} {v:V} {u:aD},Inv (Abj T P w K mg base N qual scope f a A outer s H E z) [] d h C->RelV v u->Q v h->CE outer P w H s Q u C:=
  λ{d h v u} J F q=>(v,h,J.os,J.bare,J.base,J.hok,F,q)
 cases fl with
 |ret u=>
  let(v,d,h,J,F,q):=hs;exact j J F q
 |next=>
  let(d,h,J,q):=hs;exact j (v:=V.non) (u:=gD) J rfl q
 |brk=>
  let(_,_,_,q):=hs;exact bT q
 |cont=>
  let(_,_,_,q):=hs;exact bT q
section
def tCB(r:lg V->Hp->VK->Prop)(t:TA):TE:=λσ H Q=>t σ H λvs H1=>r vs H1 Q
def Abk(hc:Jm X .type[T] r)(hg:Gl X x)(hm:X.mg x=sy)(hv:bootBuiltins x=sr .type[T])(ha:PA X (e::es) t)(hn:x≠"__name__":=by decide)(hdb:(x==("__debug__":t6))=t7:=by decide)(he:starEach (e::es) X.env=(u6 t7 (eval e X.env))::starEach es X.env:=by rfl)(hpl:(backTo pos (starEach es X.env)).any (·.1)=t7:=by rfl):PE[X][.Call (.Name x p) (e::es) [] pos][tCB r t]:=λaa s σ H Q I h=>eV[Abg I hg hm hv mG[thn[ha pos aa s σ H _ I h] λus s1 ⟨vs,H1,I1,r1,q1⟩=>hc aa s1 σ H1 vs us Q I1 r1 q1][he][hpl] hn hdb]
end
end L2
namespace HT
open PySem PyProof.Rows
section
open PySem.SeqAt
open PySem.AutoSeq1 (wpAny_loadPart')
open PySem.MeetsSeq PySem.MeetsSeq2 PySem.MeetsSeq3
end
section
def cat_tup(u:wN s.heap t d.toArray)(x:wN s.heap b a.toArray)(o:d≠[])(z:a=[]->Q .ref[t] s)(y:a≠[]->Q .ref[s.heap.objs.size] { s with heap:=s.heap.push { cls:=.type "tuple",data:=.seq (d ++ a).toArray } })(v:d.length+a.length<=sizeLine):wpAny (model prog w) A (binaryOp .Add .ref[t] .ref[b]) Q E s:=by
 let((cls,q,data,k),j,p,n,hd):=id u;let((r,i,data2,f),c,h,l,g):=id x;simp at p hd h g;subst p hd h g;let e:d.toArray ++ a.toArray=(d ++ a).toArray:=by simp
 by_cases m:a=[]
 .exact wW (_,j,rfl) (_,c,rfl) sV vN oN oG (nM ..)
   (tuple_addW1 t b d.toArray a.toArray n l q i k f (by simpa using o) (by simp_all)) (j,c,z m)
 .refine wW (_,j,rfl) (_,c,rfl) sV vN oN oG (nM ..)
   (tuple_addW2 t b d.toArray a.toArray n l q i k f (by simpa using o) (by simp_all) ()) (j,c,?_)
  exact e ▸ y m
def sIx(n d:Nat):o9 Int->Nat
 |none=>d
 |some v=>if v < 0 then (v+(n:Int)).toNat else min v.toNat n
def Aq6(v:Int)(n d:Nat):(if v < 0 then max (v+(n:Int)) 0 else min v (n:Int))=((sIx n d sr[v]:Nat):Int):=by
 show _=(((if v < 0 then _ else _):Nat):Int)
 grind
def Apa(lo hi:o9 Int)(n:Nat):rF lo hi 1 (n:Int)=(u6 ((sIx n 0 lo:Nat):Int) ((sIx n n hi:Nat):Int)):=by
 apply Prod.ext
 .cases lo with
  |none=>rfl
  |some v=>exact Aq6 v n 0
 .cases hi with
  |none=>rfl
  |some v=>exact Aq6 v n n
def Apb(i j:Nat):nF (i:Int) (j:Int) 1=j - i:=by
 unfold nF
 grind
def Ae3{o:o9 Int}{Q:o9 Int->aN->Prop}(p:tM v o)(h:Q o s):wpAny (model prog w) A zF[v] Q E s:=by
 cases p with
 |none=>exact aAb h
 |int i t=>exact slicePart_int h
def N7{lo hi:o9 Int}{n:Nat}{Q:Int×Int×Nat->aN->Prop}(hs:s.heap.IsSliceOf g f e .none)(pl:tM f lo)(i:tM e hi)(h:Q (u6 ((sIx n 0 lo:Nat):Int) u6[1][sIx n n hi - sIx n 0 lo]) s):wpAny (model prog w) A aAc[.ref g][pure (n:Int)] Q E s:=by
 let(os,b,j,c):=id hs;refine aA (aA (dG b c (x:=f) rfl (aA (dG b c (x:=e) rfl (aA (dG b c (x:=.none) rfl aH[?_]))))));refine aA aAb[?_];refine aA[Ae3 pl aA[Ae3 i aA[aH[?_]]]];show wpAny _ _ (match rF lo hi 1 n with|(lo,hi)=>pure[u6 lo u6[_][nF lo hi 1]]) _ _ s
 rw[Apa lo hi n];show wpAny _ _ pure[u6[_][u6 1 _]] _ _ s;rw[Apb];exact aH h
def Awk(xs:Array aD)(i k:Nat):((fD k).filterMap λ(m:Nat)=>xs[((i:Int)+(m:Int) * 1).toNat]?).toArray=((xs.toList.drop i).take k).toArray:=by
 let e:(λ(m:Nat)=>xs[((i:Int)+(m:Int) * 1).toNat]?)=λm=>xs[i+m]?:=by grind
 rw[e];have:=pick_run xs i k;rw[List.filterMap_map] at this;let d:((λx=>xs[x]?) ∘ λx=>i+x)=λm=>xs[i+m]?:=rfl;rw[d] at this;rw[this]
def getItem_tuple_cut{lo hi:o9 Int}(c:wN s.heap t items)(hs:s.heap.IsSliceOf j n l .none)(pl:tM n lo)(o:tM l hi)(r:¬ (sIx items.size 0 lo=0/\sIx items.size items.size hi=items.size))(h:Q .ref[s.heap.objs.size] { s with heap:=s.heap.push { cls:=.type "tuple",data:=.seq ((items.toList.drop[sIx items.size 0 lo]).take (sIx items.size items.size hi - sIx items.size 0 lo)).toArray } })(p:items.size<=sizeLine):wpAny (model prog w) A (getItem .ref[t] .ref[j]) Q E s:=by
 let a:sizeOk .seq[((items.toList.drop[sIx items.size 0 lo]).take (sIx items.size items.size hi - sIx items.size 0 lo)).toArray]:=by
  show ((items.toList.drop[sIx items.size 0 lo]).take (sIx items.size items.size hi - sIx items.size 0 lo)).toArray.size<=sizeLine;rw[cC,dW,dX,aX];omega
 let u:sIx items.size items.size hi<=items.size:=by
   cases hi with
   |none=>exact(aM _)
   |some v=>
    show (if v < 0 then (v+(_:Int)).toNat else min v.toNat _)<=_
    by_cases k:v < 0
    .rw[di k];omega
    .rw[dm k];exact pJ ..
 let(os,d,f,q):=id hs;let g:s.TypeIs .ref[j] "slice":=(os,d,f);unfold getItem
 try with_reducible apply fW
 first|refine aA aH[?_]|skip
 refine aA[rO c.typeIs () ?_]
 refine aA (cX (name:=mX "__getitem__") c.typeIs eZ
  (dY eZ c.typeIs vG ?_ (wB ..)))
 show wpAny _ _ (qW .ref[t] >>= _) _ _ s;refine aA[tupleItemsOf_ c ?_];refine aA[oO g ?_];rw[di ()]
 refine aA[N7 hs pl o ?_];let e:¬ ((((sIx items.size 0 lo:Nat):Int)==0&&(1:Int)==1&&(sIx items.size items.size hi - sIx items.size 0 lo)==items.size)=t8):=by grind
 show wpAny _ _ (if (((sIx items.size 0 lo:Nat):Int)==0&&(1:Int)==1&&(sIx items.size items.size hi - sIx items.size 0 lo)==items.size)=t8 then _ else _) _ _ s
 rw[dm e,Awk]
 first
  |exact aA (m:=jW _) eO[aH (_,rfl,aH h)][a]
  |exact aA (m:=jW _) (eO aA[aH[aH (_,rfl,aH h)]] a)
  |exact aA (aA (m:=jW _) (eO aH[aH (_,rfl,aH h)] a))
  |exact aA (aA (m:=jW _) eO[aH (_,rfl,aH h)][a])
end
end HT
namespace L2
open PySem PySem.Spec PyProof.Rows
abbrev TO:=St->Hp->(o9 Int->Hp->Prop)->Prop
def PO(X:Cx)(e:o9 bW)(t:TO):Prop:=
 ∀(aa:lg[aG×tu])(s:aN)(σ:St)(H:Hp)(Q:o9 Int->Hp->Prop),Inv X aa σ H s->t σ H Q->
  wpAny (model X.prog X.w) X.A (evalPart e X.env) (λu s'=>∃o H',Inv X aa σ H' s'/\tM u o/\Q o H') X.xe s
def Blx(t:TE):TO:=λσ H Q=>t σ H λx H1=>∃i,x=.int i/\Q sr[i] H1
def intsAre_of{ns:lg Int}:∀{b:lg aD},Vals ns.map[V.int] b->vB b ns:=by
 induction ns with
 |nil=>intro b r;cases r;exact .nil
 |cons n ns f=>
  intro b r;cases r with
  |cons d c=>
   let(t,e):=d;subst e;exact .cons n t f[c]
section
def SlR(X:Cx)(r:V->o9 Int->o9 Int->Hp->VK->Prop):Prop:=
 ∀(aa:lg[aG×tu])(s:aN)(σ:St)(H:Hp)(x:V)(v vl vu:aD)(lo hi:o9 Int)(sl:aG)(Q:VK),Inv X aa σ H s->RelV x v->s.heap.IsSliceOf sl vl vu .none->tM vl lo->tM vu hi->r x lo hi H Q->
  ∃T id,typeLookup .type[T] "__getitem__"=pure sr[.builtin[id]]/\s.TypeIs v T/\wpAny (model X.prog X.w) X.A (getItem v .ref[sl]) (EP X aa σ Q) X.xe s
def SlR.or{r g:V->o9 Int->o9 Int->Hp->VK->Prop}(h:SlR X r)(k:SlR X g):SlR X (λx lo hi H Q=>r x lo hi H Q\/g x lo hi H Q):=by
 intro j s b H x v d c lo hi e Q I f hs pl i q;rcases q with q|q
 .exact h j s b H x v d c lo hi e Q I f hs pl i q
 .exact k j s b H x v d c lo hi e Q I f hs pl i q
def tSl(r:V->o9 Int->o9 Int->Hp->VK->Prop)(te:TE)(tl th:TO):TE:=λσ H Q=>te σ H λx H1=>tl σ H1 λl H2=>th σ H2 λu H3=>r x l u H3 Q
def Apc(xs:lg V)(lo hi:o9 Int):lg V:=(xs.drop[HT.sIx xs.length 0 lo]).take (HT.sIx xs.length xs.length hi - HT.sIx xs.length 0 lo)
def Ace(xs:lg V)(lo hi:o9 Int):(Apc xs lo hi).length<=xs.length:=by
 unfold Apc;rw[dW,dX];omega
def Bly(K:aB):V->o9 Int->o9 Int->Hp->VK->Prop:=λx lo hi H Q=>∃a xs,x=.ref a/\SqT K H a xs/\
 ¬ (HT.sIx xs.length 0 lo=0/\HT.sIx xs.length xs.length hi=xs.length)/\∀p,H p=sy->Q[.ref p][upd H p .tup[Apc xs lo hi]]
def Bhz:SlR X Bly[X.K]:=by
 rintro o s j H x v l k lo hi m Q I f hs pl g ⟨a,xs,rfl,i,n,q⟩;cases f;let(d,r,e,h):=I.tuple i;let c:d.toArray.size=xs.length:=r.length.symm;refine("tuple",_,eZ.lookup,e.typeIs,?_);refine HT.getItem_tuple_cut e hs pl g (by rw[c];omega) ?_ (by rw[c];omega)
 rw[c];refine(.ref s.heap.objs.size,_,I.laid (λb ob q=>aC _ q) aM[_] ?_,rfl,q _ I.hok.fresh[aM[_]]);exact(aF (Ace xs lo hi) h,_,(r.drop _).take _,aBn ..)
def Bgq(K:aB):R2:=λx y H Q=>∃a b xs ys,x=.ref a/\y=.ref b/\SqT K H a xs/\SqT K H b ys/\xs≠[]/\xs.length+ys.length<=sizeLine/\
 (ys=[]->Q .ref[a] H)/\(ys≠[]->∀p,H p=sy->Q[.ref p][upd H p .tup[xs ++ ys]])
def Vals.nil_iff(r:Vals xs a):a=[] ↔ xs=[]:=by
 cases r with
 |nil=>simp
 |cons _ _=>simp
def Bby:OpR X binaryOp[.Add] Bgq[X.K]:=by
 rintro A s p H x y v u Q I g f ⟨a,b,xs,r,rfl,rfl,o,n,m,t,i,h⟩;cases g;cases f;let(l,d,k,_):=I.tuple o;let(e,c,j,_):=I.tuple n;refine HT.cat_tup k j (λz=>m d.nil_iff.mp[z]) (λz=>(.ref a,H,I,rfl,i c.nil_iff.mp[z])) (λz=>?_) (by rw[<-d.length,<-c.length];omega)
 refine(.ref s.heap.objs.size,_,I.laid (λb ob q=>aC _ q) aM[_] ?_,rfl,h (λw=>z c.nil_iff.mpr[w]) _ I.hok.fresh[aM[_]]);exact(by simp_all,_,d.append c,aBn ..)
end
def ixN(n:Nat)(i:Int):o9 Nat:=if 0<=i then (if i < n then sr i.toNat else sy) else if -(n:Int)<=i then sr (i+n).toNat else sy
def atI{α:Type}(xs:lg α)(i:Int):o9 α:=(ixN xs.length i).bind λj=>xs[j]?
def Bbz{n:Nat}{i:Int}{j:Nat}(h:ixN n i=sr j):seqIndex? i n=sr j/\j < n/\-(n:Int)<=i/\i < n:=by
 unfold ixN at h;by_cases c:0<=i
 .rw[di c] at h;by_cases a:i < n
  .rw[di a] at h;let e:=cA h;exact(by rw[seqIndex_of c a,e],(),(),a)
  simp_all
 .rw[dm c] at h;by_cases a:-n<=i
  .rw[di a] at h;let e:=cA h;exact(by rw[aBu () a,e],(),a,())
  simp_all
def Ajx{c:Type}{xs:lg c}{i:Int}{v:c}(h:atI xs i=sr v):∃j,seqIndex? i xs.length=sr j/\xs[j]?=sr v/\j < xs.length/\-(xs.length:Int)<=i/\i < xs.length:=by
 unfold atI at h;cases e:ixN xs.length i with
 |none=>simp_all
 |some j=>
  rw[e] at h;let(l,k,g,f):=Bbz e;exact(j,l,h,k,g,f)
def Aed(b:bW):Prop:=∀o i,subscripted b t7 o i=operate [o,i] (getItem o i)
def IxR(X:Cx)(r:R2):Prop:=
 ∀(value slice:bW)(aa:lg[aG×tu])(s:aN)(σ:St)(H:Hp)(x y:V)(v u:aD)(Q:VK),Inv X aa σ H s->RelV x v->RelV y u->r x y H Q->
  subscripted slice t7 v u=operate [v,u] (getItem v u)->wpAny (model X.prog X.w) X.A (subscriptTail value slice v u) (EP X aa σ Q) X.xe s
def MtR(X:Cx)(id:String)(r:V->lg V->Hp->VK->Prop):Prop:=
 ∀(aa:lg[aG×tu])(s:aN)(σ:St)(H:Hp)(x:V)(xs:lg V)(v:aD)(us:lg aD)(Q:VK),Inv X aa σ H s->RelV x v->Vals xs us->r x xs H Q->
  wpAny (model X.prog X.w) X.A (call .builtin[id] (v::us)) (EP X aa σ Q) X.xe s
section
def IxR.or(h:IxR X r)(f:IxR X e):IxR X (λx y H Q=>r x y H Q\/e x y H Q):=by
 intro value slice d s a H x y v u Q I c b q hs;rcases q with q|q
 .exact h value slice d s a H x y v u Q I c b q hs
 .exact f value slice d s a H x y v u Q I c b q hs
def Blz(K:aB):R2:=λx y H Q=>∃p xs i v,x=.ref p/\y=.int i/\SqL K H p xs/\atI xs i=sr v/\Q v H
def Bl0(K:aB):R2:=λx y H Q=>∃p xs i v,x=.ref p/\y=.int i/\SqT K H p xs/\atI xs i=sr v/\Q v H
def Bl1:R2:=λx y H Q=>∃z i c,x=.str z/\y=.int i/\z.length<=sizeLine/\atI z.cps.toList i=sr c/\Q .str[⟨#[c]⟩] H
def Bb0:IxR X Blz[X.K]:=by
 intro value slice F s k H x y v u Q I m l h hs;let(p,xs,i,z,rfl,rfl,n,A,q):=h;cases m;let(t,rfl):=l;let(d,r,pl,J):=I.list n;let(j,b,E,N,C,B):=Ajx A;let(w,g,c):=r.get E;let o:=r.length;let L:=Ae1;let a:EP X F k Q w s:=(z,H,I,c,q);by_cases f:0<=i
 .let e:i.toNat=j:=by
   rw[seqIndex_of f B] at b;exact cA b
  exact item_listR pl.isList f () (by rw[e];simpa using g) a hs
 .let e:(i+(d.toArray.size:Int)).toNat=j:=by
   rw[aBu () C] at b
   rw[cC,<-o];exact cA b
  exact tO (x:=w) pl.isList.typeIs slot_list_getitem.lookup
   (wpAny_getItem_list_neg pl.isList () (by simp_all) () (by rw[e];simpa using g) (rfl,a)) hs
def Bu:IxR X Bl0[X.K]:=by
 intro value slice E s k H x y v u Q I c b h hs;let(p,xs,i,z,rfl,rfl,e,f,q):=h;cases c;let(t,rfl):=b;let(d,r,pl,l):=I.tuple e;let(j,B,g,A,o,n):=Ajx f;let(w,C,a):=r.get g;let m:=Ae1;exact tO pl.typeIs slot_tuple_getitem.lookup
  (getItem_tuple pl () () (by rw[cC,<-r.length];omega) (by simp_all) (rfl,(z,H,I,a,q))) hs
def Ajy:IxR X Bl1:=by
 intro value slice w s m H x y v u Q I d b h hs;let(z,i,c,rfl,rfl,o,f,q):=h;let(t,rfl):=d;let(n,rfl):=b;let(j,a,l,r,k,g):=Ajx f;let e:z.cps.toList.length=z.length:=by rfl
 rw[e] at a k g;let p:=Ae1;exact aAd (aAe s z t) slot_str_getitem.lookup (getItem_str (by grind) (by rw[a];simpa using l) (.str _,H,I.tok _,(_,rfl),q)) hs
def rIx(K:aB):R2:=λx y H Q=>Blz K x y H Q\/Bl0 K x y H Q\/Bl1 x y H Q
def Bh0:IxR X rIx[X.K]:=Bb0.or Bu.or[Ajy]
def Ajz(lo hi:o9 Int)(n:Nat):(sliceBounds lo hi sy n).1=((HT.sIx n 0 lo:Nat):Int)/\(sliceBounds lo hi sy n).2.1=((HT.sIx n n hi:Nat):Int)/\(sliceBounds lo hi sy n).2.2=1:=by
 refine(?_,?_,rfl)
 .cases lo with
  |none=>rfl
  |some i=>
   simp[sliceBounds,HT.sIx,yL,if_true];by_cases h:i < 0
   .simp only[h,if_true] <;> omega
   .simp only[h,if_false] <;> omega
 .cases hi with
  |none=>rfl
  |some i=>
   simp[sliceBounds,HT.sIx,yL,show (1) > 0 by decide,if_true]
   by_cases h:i < 0
   .simp only[h,if_true] <;> omega
   .simp only[h,if_false] <;> omega
def Ahj(a:lg aD)(lo hi:o9 Int):slicePick a.toArray lo hi sy=((a.drop[HT.sIx a.length 0 lo]).take (HT.sIx a.length a.length hi - HT.sIx a.length 0 lo)).toArray:=by
 let(f,e,d):=Ajz lo hi a.toArray.size;unfold slicePick;rw[f,e,d];simp only[sliceRange_one,pick_run] <;> rfl
def Bl2(K:aB):V->o9 Int->o9 Int->Hp->VK->Prop:=λx lo hi H Q=>∃a xs,x=.ref a/\SqL K H a xs/\∀p,H p=sy->Q[.ref p][upd H p .lst[Apc xs lo hi]]
def Bb1:SlR X Bl2[X.K]:=by
 rintro n s j H x v l k lo hi m Q I e hs pl f ⟨a,xs,rfl,i,q⟩;cases e;let(g,r,d,h):=I.list i;let c:=r.length;refine("list",_,slot_list_getitem.lookup,d.isList.typeIs,?_);refine wpAny_getItem_list_slice d.isList hs pl f .none () ?_ (by simp_all)
 rw[Ahj,<-c];refine(.ref s.heap.objs.size,_,I.laid (λb ob q=>aC _ q) aM[_] ?_,rfl,q _ I.hok.fresh[aM[_]]);exact(aF (Ace xs lo hi) h,_,0,(r.drop _).take _,aR _ rfl)
def Fv:V->Bool
 |.non=>t8
 |.bl _=>t8
 |.int _=>t8
 |.str _=>t8
 |_=>t7
def eqV:V->V->Bool
 |.non,.non=>t8
 |.bl a,.bl b=>a==b
 |.bl a,.int b=>(if a then 1 else 0)==b
 |.int a,.bl b=>a==(if b then 1 else 0)
 |.int a,.int b=>a==b
 |.str a,.str b=>a==b
 |_,_=>t7
def Bh1(e:RelV y u)(c:RelV x v)(g:Fv y=t8)(f:Fv x=t8):aAf A s u v (eqV y x):=by
 cases y with
 |non=>
  cases e;cases x with
  |non=>cases c;exact aEf _
  |bl b=>cases c;exact aCo b
  |int b=>let(t,rfl):=c;exact aDa b t
  |str b=>let(t,rfl):=c;exact aDb b t
  |_=>exact absurd (show t7=t8 from f) cR
 |bl a=>
  cases e;cases x with
  |non=>cases c;exact aCp a
  |bl b=>cases c;exact aCq a b
  |int b=>let(t,rfl):=c;exact aDc a b t
  |str b=>let(t,rfl):=c;exact aDd a b t
  |_=>exact absurd (show t7=t8 from f) cR
 |int a=>
  let(d,rfl):=e;cases x with
  |non=>cases c;exact aDe a d
  |bl b=>cases c;exact aDf a d b
  |int b=>let(t,rfl):=c;exact aDj a d b t
  |str b=>let(t,rfl):=c;exact vX a d b t
  |_=>exact absurd (show t7=t8 from f) cR
 |str a=>
  let(d,rfl):=e;cases x with
  |non=>cases c;exact aDg a d
  |bl b=>cases c;exact aDh a d b
  |int b=>let(t,rfl):=c;exact vY a d b t
  |str b=>let(t,rfl):=c;exact aDk a d b t
  |_=>exact absurd (show t7=t8 from f) cR
 |_=>exact absurd (show t7=t8 from g) cR
def eqU(x:V)(u:aD):Bool:=match u with
 |.none=>eqV .non x
 |.bool b=>eqV .bl[b] x
 |.int i _=>eqV .int[i] x
 |.str z _=>eqV .str[z] x
 |_=>t7
def Bh2(r:RelV y u)(f:Fv y=t8):eqU x u=eqV y x:=by
 cases y with
 |non=>cases r;rfl
 |bl b=>cases r;rfl
 |int i=>let(t,rfl):=r;rfl
 |str z=>let(t,rfl):=r;rfl
 |_=>trivial
def inV(x:V)(xs:lg V):Bool:=xs.any λy=>eqV y x
def Aj0:OpR X compareOp[.NotIn] (λx y H Q=>∃i j,x=.str i/\y=.str j/\Q .bl[!(!(dH j i 0 j.length 1).isEmpty)] H):=by
 rintro e s c H x y v u Q I b a ⟨i,j,rfl,rfl,q⟩;let(t,rfl):=b;let(d,rfl):=a;exact notIn_str (.bl _,H,I,rfl,q)
def Jm.or(h:Jm X f r)(e:Jm X f d):Jm X f (λxs H Q=>r xs H Q\/d xs H Q):=by
 intro c s a H xs b Q I rs q;rcases q with q|q
 .exact h c s a H xs b Q I rs q
 .exact e c s a H xs b Q I rs q
def Aj1:Jm X .type["list"] (λxs H Q=>∃p f,xs=[.ref p]/\(SqL X.K H p f\/SqT X.K H p f)/\∀l,H l=sy->Q[.ref l][upd H l .lst[f]]):=by
 rintro v s m H xs y Q I r ⟨p,f,rfl,hq,q⟩;let(u,rfl,t):=vals1 r;cases t;let i:∀(a:_),_->_->∀(c:dD)(d:Nat),_->
   _->EP X v m Q _ { s with heap:=c }:=λa b g c d kp e=>
  (.ref s.heap.objs.size,_,I.laid kp aM[_] (show Ed X.prog X.w _ c _ .lst[f] from (g,a,d,b,e)),rfl,q _ I.hok.fresh[aM[_]])
 rcases hq with hq|hq
 .let(a,b,pl,g):=I.list hq;let h:=b.length;let(o,j,k,n,hd):=pl.isList;exact aAz p .inl[rfl] j k hd (λc d kp e=>i a b g c d kp e) (by simp[cC] <;> omega)
 .let(a,b,pl,g):=I.tuple hq;let h:=b.length;let(o,j,k,n,hd):=pl;exact aAz p .inr[rfl] j k hd (λc d kp e=>i a b g c d kp e) (by simp[cC] <;> omega)
def Ahk:Jm X .type["tuple"] (λxs H Q=>∃p a,xs=[.ref p]/\((SqL X.K H p a/\∀l,H l=sy->Q[.ref l][upd H l .tup[a]])\/(SqT X.K H p a/\Q .ref[p] H))):=by
 rintro x s t H xs v Q I r ⟨p,a,rfl,h⟩;let(u,rfl,k):=vals1 r;cases k;rcases h with ⟨f,q⟩|⟨f,q⟩
 .let(c,d,pl,g):=I.list f;let i:=d.length;refine call_tuple_list[pl.isList][λm kp=>?_][by simp_all]
  let j:=I.kept (t':=s.toks) kp;let n:=
   j.laid (t':=s.toks) (λb o e=>aC _ e) aM[_] (show Ed X.prog X.w _ _ _ .tup[a] from (g,c,d,aBn ..))
  exact(.ref m.objs.size,_,n,rfl,q _ j.hok.fresh[aM[_]])
 .let(c,d,pl,g):=I.tuple f;exact call_tuple_same pl (.ref p,H,I,rfl,q)
def tyV(K:aB)(T:String)(x:V)(H:Hp):Prop:=match x with
 |.str _=>T="str"
 |.int _=>T="int"
 |.ref p=>(T="list"/\∃xs,SqL K H p xs)\/(T="tuple"/\∃o,K.lookup p=sr o/\o.cls=.type "tuple"/\o.dict=sy)\/
   (T="dict"/\((∃kvs,H p=sr .dK[kvs])\/∃kvs,H p=sr .dT[kvs]))\/(T="set"/\∃S n,H p=sr[.set S n])
 |_=>False
def Bh3(I:Inv X m l H s)(r:RelV x v)(ty:tyV X.K T x H):
  s.TypeIs v T/\∀a,v=.ref a->∃ob,s.heap.get? a=sr ob/\ob.dict=sy:=by
 cases x with
 |str z=>
  let(t,rfl):=r;cases (ty);exact(aAe s z t,λg e=>nomatch e)
 |int i=>
  let(t,rfl):=r;cases (ty);exact(aAg s i t,λg e=>nomatch e)
 |ref p=>
  cases r;rcases ty with ⟨rfl,xs,j⟩|⟨rfl,o,b,k,hd⟩|⟨rfl,b⟩|⟨rfl,S,n,b⟩
  .let(h,_,pl,_):=I.list j;refine(pl.isList.typeIs,λa e=>?_);cases e;let(o,n,e,c,hd,_):=pl;exact(o,e,hd)
  .refine((o,I.kIn p o b,k),λa e=>?_);cases e;exact(o,I.kIn _ o b,hd)
  .let z:∃o,s.heap.get? p=sr o/\o.ExactDict:=by
    rcases b with ⟨d,b⟩|⟨d,b⟩
    .let(_,_,_,_,o,_,_,e,ex,_):=I.hok p _ b;exact(o,e,ex)
    .let(_,_,_,_,o,_,_,e,ex,_):=I.hok p _ b;exact(o,e,ex)
   let(o,e,ex):=z;refine((o,e,ex.1),λa f=>?_);cases f;exact(o,e,ex.2.1)
  .let(o,_,_,_,e,ex,_):=I.hok p _ b;refine((o,e,ex.1),λa f=>?_);cases f;exact(o,e,ex.2.1)
 |_=>exact bT ty
def tBM(K:aB)(T:String)(r:V->lg V->Hp->VK->Prop)(to:TE)(t:TA):TE:=λσ H Q=>to σ H λx H1=>tyV K T x H1/\t σ H1 λxs H2=>r x xs H2 Q
end
def MtM(X:Cx)(id:String)(r:V->lg V->Hp->VK->Prop):Prop:=
 ∀(aa:lg[aG×tu])(s:aN)(σ:St)(H:Hp)(x:V)(xs:lg V)(v:aD)(us:lg aD)(Q:VK),Inv X aa σ H s->RelV x v->Vals xs us->r x xs H Q->
  wpAny (model X.prog X.w) X.A (call .builtin[id] (v::us)) (EP X aa σ Q) X.xe s
def Vals.one{x:V}{a:lg aD}(h:Vals [x] a):∃u,a=[u]/\RelV x u:=by
 cases h with|cons r h=>
 cases h;exact(_,rfl,r)
def Vals.two{x y:V}{a:lg aD}(h:Vals [x,y] a):∃u v,a=[u,v]/\RelV x u/\RelV y v:=by
 cases h with|cons r h=>
 cases h with|cons q h=>
 cases h;exact(_,_,rfl,r,q)
theorem Vals.rep(h:Vals xs a):∀k:Nat,Vals (bV k xs).flatten (bV k a).flatten
 |0=>.nil
 |k+1=>Vals.append h (Vals.rep h k)
theorem foldl_rep(a:lg aD):∀(k:Nat)(acc:lg aD),
  aDl[λd c=>d ++ c][acc.toArray][bV k a.toArray]=(acc ++ (bV k a).flatten).toArray
 |0,acc=>by simp
 |k+1,acc=>by
  let e:acc.toArray ++ a.toArray=(acc ++ a).toArray:=by simp
  let f:(acc ++ a) ++ (bV k a).flatten=acc ++ (bV (k+1) a).flatten:=by
   rw[vH,List.flatten_cons,cM]
  rw[<-f,<-foldl_rep a k _,<-e,vH,List.foldl_cons]
section
def Inv.lset{a its':lg aD}{n:Nat}{f:Array aD->Array aD}{h:Nat}(I:Inv X p g H s)(o:H l=sr .lst[xs])(e:s.heap.get? l=sr { cls:=.type "list",data:=.seq a.toArray n })(hf:f a.toArray=its'.toArray)(k:Vals ys its')(j:ys.length<=sizeLine):
  Inv X p g (upd H l .lst[ys]) { s with heap:=s.heap.update l nZ[f],toks:=h }:=by
 let q:=aEe e f;rw[hf] at q;refine I.write (by rw[o];trivial) .inl[rfl] (λr u m hu=>(bN s.heap _ eF[m]).trans hu) (_,q) ?_
 exact(j,its',_,k,q)
def Inv.lnew{t':Nat}(I:Inv X e a H s)(d:Vals ys its)(c:ys.length<=sizeLine):
  Inv X e a (upd H s.heap.objs.size .lst[ys]) { s with heap:=s.heap.push { cls:=.type "list",data:=.seq its.toArray },toks:=t' }:=(
 I.laid (λb b q=>aC _ q) aM[_] (c,its,0,d,aR _ rfl))
def Inv.fresh(I:Inv X aa σ H s):H s.heap.objs.size=sy:=I.hok.fresh aM[_]
def Inv.lstM(I:Inv X g f H s)(c:H l=sr .lst[xs]):xs.length<=sizeLine/\∃(a:lg aD)(n:Nat),Vals xs a/\xs.length=a.length/\s.heap.get? l=sr { cls:=.type "list",data:=.seq a.toArray n }:=by
 let(z,a,n,r,e):=I.hok l _ c;exact(z,a,n,r,r.length,e)
def Awl{n:Nat}(h:n<=sizeLine):sE n=t7:=(dq ())
end
section
def Bb2:V->lg V->Hp->VK->Prop:=λx vs H Q=>∃l xs y,x=.ref l/\vs=[y]/\H l=sr .lst[xs]/\xs.length < sizeLine/\Q .non (upd H l .lst[xs ++ [y]])
def Ah6:MtM X "list.append" Bb2:=by
 rintro m s g H x h v i Q I c d ⟨l,xs,y,rfl,rfl,b,j,q⟩;cases c;let(u,rfl,f):=d.one;let(z,a,n,r,k,e):=I.lstM b;refine aAh F.slot_list_append (_,e,rfl) F.entry_list_append (F.args_list_append_2 ..) (PySem.list_append l a.toArray n u (by grind)) (e,?_)
 refine(.non,_,I.lset (its':=a ++ [u]) b e () r.append[.cons f .nil] ?_,rfl,q)
 rw[bD,fY];omega
def Bl3:R2:=λx y H Q=>∃l b xs zs,x=.ref l/\y=.ref b/\H l=sr .lst[xs]/\H b=sr .lst[zs]/\xs.length+zs.length<=sizeLine/\∀p,H p=sy->Q[.ref p][upd H p .lst[xs ++ zs]]
def Bh4:OpR X binaryOp[.Add] Bl3:=by
 rintro C s o H x y v u Q I f d ⟨l,b,xs,p,rfl,rfl,i,j,A,q⟩;cases f;cases d;let(z,c,n,r,B,e):=I.lstM i;let(t,a,w,g,h,m):=I.lstM j;refine PySem.P.add_list e m ?_ (by simp_all)
 let k:c.toArray ++ a.toArray=(c ++ a).toArray:=by simp
 exact k ▸ (.ref _,_,I.lnew r.append[g] (by rw[bD];omega),rfl,q _ I.fresh)
def Bl4:R2:=λx y H Q=>∃l k xs,x=.ref l/\y=.int k/\H l=sr .lst[xs]/\-(2 ^ 63)<=k/\k < 2 ^ 63/\xs.length * k.toNat<=sizeLine/\
 ∀p,H p=sy->Q[.ref p][upd H p .lst[(bV k.toNat xs).flatten]]
def len_rep{b:Type}(xs:lg b)(k:Nat):(bV k xs).flatten.length=k * xs.length:=by simp
def Bh5:OpR X binaryOp[.Mult] Bl4:=by
 intro S s O H x y v u Q I C B h;let(l,k,xs,rfl,rfl,G,L,J,o,q):=h;cases C;let(t,rfl):=B;let(z,b,n,r,E,e):=I.lstM G;let f:b.toArray.size * k.toNat<=sizeLine:=by rw[cC,<-E];exact o
 let i:¬ b.toArray.size * k.toNat > (2 ^ 63 - 1) / 8:=by
  have:(sizeLine:Nat)<=(2 ^ 63 - 1) / 8:=by decide
  omega
 let g:¬ (!aAi k)=t8:=by
  rw[fitsIndex_both L J];exact cR
 let c:¬ sE[b.toArray.size * k.toNat]=t8:=by
  rw[Awl f];exact cR
 let d:aDl[λw p=>w ++ p][#[]][bV (if b.toArray.isEmpty=t8 then 0 else k.toNat) b.toArray]=(bV k.toNat b).flatten.toArray:=by
  let N:=λm=>by
   have:=foldl_rep b m [];rw[nW] at this;exact this
  rw[N];cases b with
  |nil=>simp
  |cons a P=>rw[dm ()]
 refine wpAny_binaryOp_repeat_ref (T:="list") (U:="int") () (_,e,rfl) (λA=>aAg A k t) noFill_list_mul F.fills_int_mul zG repeat_list F.slot_int_index.lookup
  (aAh zG (aAg s k t) F.entry_int_rmul (F.args_int_rmul_2 _ _) (int___rmul___int_list k t l b.toArray n)
   (e,rfl,(_,e,rfl),aAh F.slot_list_mul (_,e,rfl) F.entry_list_mul (F.args_list_mul_2 _ _) (wM l b.toArray n k t g i c) (e,?_)))
 rw[d];exact(.ref _,_,I.lnew (t':=s.toks) r.rep[k.toNat] (by rw[len_rep,Nat.mul_comm];exact o),rfl,q _ I.fresh)
end
section
variable{κ:Type}[DecidableEq κ]
def Wy(kvs:lg[κ×V])(k:κ):o9 V:=(kvs.find? λkv=>decide[kv.1=k]).map (·.2)
def putK(kvs:lg[κ×V])(k:κ)(v:V):lg[κ×V]:=
 if (kvs.any λkv=>decide[kv.1=k])=t8 then kvs.map[λkv=>if kv.1=k then (u6 kv.1 v) else kv] else kvs ++ [(k,v)]
def Ae4{p:κ×V}{r:lg[κ×V]}{k:κ}(e:p.1=k):Wy (p::r) k=sr p.2:=by simp[Wy,e]
def Ae5{p:κ×V}{r:lg[κ×V]}{k:κ}(e:¬ p.1=k):Wy (p::r) k=Wy r k:=by simp[Wy,e]
theorem Al8(k:κ):∀a:lg[κ×V],(a.any λkv=>decide[kv.1=k])=(Wy a k).isSome
 |[]=>rfl
 |p::r=>by
  rw[vO];by_cases e:p.1=k
  .simp[Ae4 e,dj e]
  .rw[Ae5 e,dq e];exact Al8 k r
def Rr(a:lg[κ×V])(k:κ)(v:V):(putK a k v).length<=a.length+1:=by
 unfold putK;split
 .simp
 simp
def Vx.isSome_eq(r:Vx o u):o.isSome=u.isSome:=by
 cases o with
 |none=>cases u with
  |none=>rfl
  |some _=>trivial
 |some _=>cases u with
  |none=>trivial
  |some _=>rfl
def KV.val{a:lg[κ×V]}{f:lg[κ×aD]}(r:KV a f)(k:κ):Vx[Wy a k][valueAt f k]:=by
 induction r with
 |nil=>trivial
 |@cons p q ps qs h t i=>
  let(g,j):=h;by_cases e:p.1=k
  .let d:=g.symm.trans e;let b:valueAt (q::qs) k=sr q.2:=by simp[valueAt,d]
   rw[Ae4 e,b];trivial
  .let d:¬ _:=λz=>e g.trans[z];let b:valueAt (q::qs) k=valueAt qs k:=by simp[valueAt,d]
   rw[Ae5 e,b];omega
def KV.any(r:KV a b)(k:κ):(a.any λkv=>decide[kv.1=k])=b.any λkv=>decide[kv.1=k]:=by
 induction r with
 |nil=>rfl
 |cons h t c=>simp_all
def KV.repl(r:KV a c)(k:κ)(f:RelV y u):
  KV[a.map λkv=>if kv.1=k then (u6 kv.1 y) else kv][c.map λkv=>if kv.1=k then (u6 kv.1 u) else kv]:=by
 induction r with
 |nil=>exact .nil
 |@cons p q ps qs h t d=>
  rw[cB,cB];refine .cons ?_ d;let(b,g):=h;by_cases e:p.1=k
  .rw[di e,di b.symm.trans[e]];trivial
  .rw[dm e,dm[λz=>e b.trans[z]]];trivial
def KV.put(r:KV a b)(k:κ)(c:RelV y u):KV[putK a k y][stored b k u]:=by
 unfold putK stored;rw[r.any k];by_cases e:(b.any λkv=>decide[kv.1=k])=t8
 .rw[di e,di e];exact r.repl k c
 .rw[dm e,dm e];exact aCr r (rfl,c)
def KV.length(r:KV kvs vs):kvs.length=vs.length:=rZ r
end
def Ah7(r:RelV kV[k] u):(Hk P w).is k u=t8:=by
 cases k with
 |inl i=>let(t,e):=(show ∃t,u=yF i t from r);subst e;exact Ati i t
 |inr x=>let(t,e):=(show ∃t,u=yG x t from r);subst e;exact Atj x t
theorem Ah8:∀{b:lg Key} {c:lg aD},Vals b.map[kV] c->ItemsAre (Hk P w) b c
 |[],_,r=>by cases r;exact .nil
 |k::b,_,r=>by
  cases r with
  |cons h t=>exact .cons Ah7[h] Ah8[t]
abbrev KT(H:Hp):lg[lg Key×V]->lg[lg Key×aG×aD]->Prop:=lZ λp q=>p.1=q.1/\H q.2.1=sr .tup[p.1.map[kV]]/\RelV p.2 q.2.2
def KT.val{H:Hp}{c:lg[lg Key×V]}{xs:lg[lg Key×aG×aD]}(r:KT H c xs)(k:lg Key):Vx (Wy c k) ((atKey xs k).map (·.2)):=by
 induction r with
 |nil=>trivial
 |@cons p q ps qs h t g=>
  let(f,_,i):=h;by_cases e:p.1=k
  .let d:=f.symm.trans e;let b:atKey (q::qs) k=sr q.2:=by simp[atKey,d]
   rw[Ae4 e,b];trivial
  .let d:¬ _:=λz=>e f.trans[z];let b:atKey (q::qs) k=atKey qs k:=by simp[atKey,d]
   rw[Ae5 e,b];omega
def KT.repl(r:KT H a xs)(k:lg Key)(f:RelV y u):
  KT H (a.map λkv=>if kv.1=k then (u6 kv.1 y) else kv) xs.map[putAt k u]:=by
 induction r with
 |nil=>exact .nil
 |@cons p q ps qs h t d=>
  rw[cB];refine .cons ?_ d;let(b,i,g):=h;unfold putAt;by_cases e:p.1=k
  .rw[di e,di b.symm.trans[e]];trivial
  .rw[dm e,dm[λz=>e b.trans[z]]];trivial
def KT.put(r:KT H a xs)(k:lg Key)(f:H b=sr .tup[k.map[kV]])(c:RelV y u):
  KT[H][putK a k y][storedH xs k b u]:=by
 let e:(a.any λkv=>decide[kv.1=k])=(atKey xs k).isSome:=by
  rw[Al8,(r.val k).isSome_eq,rP]
 unfold putK storedH;rw[e];by_cases q:(atKey xs k).isSome=t8
 .rw[di q,di q];exact r.repl k c
 .rw[dm q,dm q];exact aCr r (rfl,f,c)
def KT.keeps(r:KT H a xs)(e:∀b c,H b=sr .tup[c]->H' b=sr .tup[c]):KT H' a xs:=(
 Paired.mapP r λd d z=>(z.1,e _ _ z.2.1,z.2.2))
section
def N8(ok:HOk P w H h)(e:Rd H a u):Ed P w H h a u:=e.ok ok
def Ah9(ok:HOk P w H h)(e:Rd H a .dK[b]):b.length<=sizeLine/\(a==sysModules)=t7/\∃c,KV b c/\h.DictOf (Hk P w) a c:=(
 N8 ok e)
def Awm(ok:HOk P w H h)(e:H a=sr .dK[kvs]):kvs.length<=sizeLine/\(a==sysModules)=t7/\∃vs,KV kvs vs/\h.DictOf (Hk P w) a vs:=Ah9 ok .inl[e]
def Ae6(ok:HOk P w H h)(e:H a=sr .tup[c.map[kV]]):(tupleKind[Hk P w]).is h c a:=by
 let(_,b,r,o,g,f,n,d):=(ok a _ e);exact(o,b.toArray,n,g,f,d,by simpa using Ah8 r)
def Al9(ok:HOk P w H h)(e:Rd H a .dT[b]):b.length<=sizeLine/\(a==sysModules)=t7/\
  ∃xs,KT H b xs/\h.DictOfH tupleKind[Hk P w] a xs:=by
 let(z,y,xs,r,o,k,n,j,i,g,f,d):=(N8 ok e);refine(z,y,xs,r,o,k,n,j,i,g,f,λx hx=>?_,d);let all:∀{l:_} {m:_},KT H l m->∀x∈m,(tupleKind[Hk P w]).is h x.1 x.2.1:=by
  intro l m q;induction q with
  |nil=>simp
  |@cons p q ps qs s t c=>
   intro x hx;rcases bH.mp hx with e|hx
   .exact Ae6 ok (by simp_all)
   .exact c x hx
 exact all r x hx
end
def Ae7(H:Hp)(a:aG)(y:V)(r:o9 V):Prop:=
 (∃kvs k,Rd H a .dK[kvs]/\y=kV k/\r=Wy kvs k)\/∃kvs k b,Rd H a .dT[kvs]/\y=.ref b/\H b=sr .tup[k.map[kV]]/\r=Wy kvs k
def Atr(H:Hp)(a:aG)(y v:V)(H':Hp):Prop:=
 (∃kvs k,H a=sr .dK[kvs]/\y=kV k/\kvs.length < sizeLine/\H'=upd H a .dK[putK kvs k v])\/
 (∃kvs k b,H a=sr .dT[kvs]/\y=.ref b/\H b=sr .tup[k.map[kV]]/\kvs.length < sizeLine/\H'=upd H a .dT[putK kvs k v])\/
 ∃xs k,H a=sr .lst[xs]/\y=.int k/\0<=k/\k < xs.length/\H'=upd H a .lst[xs.set k.toNat v]
def Ae7.k{H:Hp}{a:aG}{kvs:lg[Key×V]}{k:Key}(e:H a=sr .dK[kvs]):Ae7 H a kV[k] (Wy kvs k):=.inl (kvs,k,.inl e,rfl,rfl)
def Atr.k{H:Hp}{a:aG}{kvs:lg[Key×V]}{k:Key}{v:V}(e:H a=sr .dK[kvs])(hl:kvs.length < sizeLine):Atr H a kV[k] v (upd H a .dK[putK kvs k v]):=.inl (kvs,k,e,rfl,hl,rfl)
section
def Inv.big(I:Inv X c b H s):sysModules < s.heap.objs.size:=(Nat.lt_trans () (I.mod.glob.keeps I.bk).lt)
def Ats(hu:A.units+1 < cLine)(I:Inv X B t H s)(g:Ae7 H a y sr[v])(r:RelV y u)(h:∀f q,Inv X B t H q->RelV v f->Q f q):
  wpAny (model X.prog X.w) A (getItem .ref[a] u) Q E s:=by
 rcases g with ⟨i,k,e,n,l⟩|⟨i,k,b,e,n,x,l⟩
 .subst n;let(z,hd,C,d,o):=Ah9 I.hok e;let(f,j,c):=Vx.some_of[l ▸ d.val k];exact wpAny_getItem_of Ah7[r] o.mapOf j (h f _ I.tok[_] c)
 .subst n;cases (r);let(z,hd,xs,d,o):=Al9 I.hok e;let(f,j,c):=Vx.some_of[l ▸ d.val k];let(p,hp,m):=bG.mp j;apply wpAny_getItem_heap oA[hu] (Ae6 I.hok x) o hp;exact m ▸ h f _ I.tok[_] c
def Bo6(hu:A.units+1 < cLine)(I:Inv X r n H s)(g:Ae7 H a y o)(m:RelV y u)(h:∀j,Inv X r n H j->Q .bool[o.isSome] j):
  wpAny (model X.prog X.w) A (compareOp .In u .ref[a]) Q E s:=by
 rcases g with ⟨d,k,e,f,l⟩|⟨d,k,b,e,f,p,l⟩
 .subst f;let(z,hd,t,c,i):=Ah9 I.hok e;apply wpAny_in_of Ah7[m] hd i.mapOf;rw[<-(c.val k).isSome_eq,<-l];exact h _ I.tok[_]
 .subst f;cases (m);let(z,hd,xs,c,i):=Al9 I.hok e;apply wpAny_in_heap oA[hu] (Ae6 I.hok p) hd i;let q:=(c.val k).isSome_eq;rw[rP] at q;rw[<-q,<-l];exact h _ I.tok[_]
def Bb3(hu:A.units+1 < cLine)(I:Inv X r n H s)(g:Ae7 H a y o)(m:RelV y u)(h:∀j,Inv X r n H j->Q .bool[!o.isSome] j):
  wpAny (model X.prog X.w) A (compareOp .NotIn u .ref[a]) Q E s:=by
 rcases g with ⟨d,k,e,f,l⟩|⟨d,k,b,e,f,p,l⟩
 .subst f;let(z,hd,t,c,i):=Ah9 I.hok e;apply wpAny_notIn_of Ah7[m] hd i.mapOf;rw[<-(c.val k).isSome_eq,<-l];exact h _ I.tok[_]
 .subst f;cases (m);let(z,hd,xs,c,i):=Al9 I.hok e;apply wpAny_notIn_heap oA[hu] (Ae6 I.hok p) hd i;let q:=(c.val k).isSome_eq;rw[rP] at q;rw[<-q,<-l];exact h _ I.tok[_]
def Aj2{e:Nat}(I:Inv X i d H s)(f:Mut H[a])(hs:gM a s.heap c)(g:∃q,c.get? a=sr q)(new:Ed X.prog X.w (upd H a ob) c a ob):
  Inv X i d (upd H a ob) { s with heap:=c,toks:=e }:=(
 I.write f .inl[rfl] (λb q h z=>(hs.2 b h).trans z) g new)
theorem Awn(z:b.length<=sizeLine)(hd:(a==sysModules)=t7)(c:KV b d)(f:e.DictOf (Hk P w) a d):
  Ed P w H' e a .dK[b]:=(z,hd,d,c,f)
def Atu(hu:A.units+1 < cLine)(I:Inv X aa U H s)(g:Atr H a y v H')(C:RelV y u)(F:RelV v r)(h:∀L,Inv X aa U H' L->Q u9 L):
  wpAny (model X.prog X.w) A (setItem .ref[a] u r) Q E s:=by
 rcases g with ⟨f,k,e,m,l,o⟩|⟨f,k,b,e,m,S,l,o⟩|⟨xs,k,e,m,h0,hk,o⟩
 .subst m o;let(z,hd,Y,d,J):=Awm I.hok e;let G:Y.length<=sizeLine:=d.length ▸ z;let B:(putK f k v).length<=sizeLine:=by have:=Rr f k v;omega
  refine wpAny_setItem_pairs (hsz:=G) Ah7[C] J λO i hs=>h _ ?_;let Z:∃q,O.get? a=sr q:=let ⟨q,_,_,p,_⟩:=i;(q,p);exact Aj2 I (e ▸ iK) hs Z (Awn B hd (d.put k F) i)
 .subst m o;cases (show u=bI b from C);let(z,hd,xs,d,J):=Al9 I.hok .inl[e];let G:xs.length<=sizeLine:=(rZ d) ▸ z;let B:(putK f k v).length<=sizeLine:=by have:=Rr f k v;omega
  refine wpAny_setItem_heap (hsz:=G) oA[hu] (Ae6 I.hok S) J λO i hs=>h _ ?_;let(q,es,ep,p,h2,h3,h4,_,h5):=i;refine Aj2 I (e ▸ iK) hs (q,p) (B,hd,_,(d.put k S F).keeps λc ys ec=>?_,q,es,ep,p,h2,h3,h4,h5)
  rwa [Ah[by grind]]
 .subst m o;let(t,rfl):=C;let(z,j,n,N,P):=I.hok a _ e;let B:=N.length;let hn:=Ae1;refine PySem.W.ki_setAt P h0 () (by simp_all) (h _ ?_)
  let em:nZ (·.setIfInBounds k.toNat r) { cls:=.type "list",data:=.seq j.toArray n }={ cls:=.type "list",data:=.seq (j.set k.toNat r).toArray n }:=by simp[nZ]
  let T:(s.heap.update a (nZ (·.setIfInBounds k.toNat r))).get? a=sr { cls:=.type "list",data:=.seq (j.set k.toNat r).toArray n }:=by
   rw[bQ _ P (rfl),em]
  exact I.write (x:=a) (e:=a) (by rw[e];trivial) .inl[rfl] (λb u hb q=>(bN _ _ eF[hb]).trans q) (_,T) (by rwa [gJ],_,n,N.set F _,T)
end
section
def Bl5(I:Inv X i f H s)(e:Rd H a .dK[c])(h:∀t d,Inv X i f H d->Q (.int c.length t) d):wpAny (model X.prog X.w) A (call .builtin["len"] [.ref a]) Q E s:=by
 let(z,hd,j,b,g):=Ah9 I.hok e;refine call_len_dict hd g (by rw[<-b.length];rw[rK] at z;omega) ?_
 exact b.length ▸ h _ _ I.tok[_]
end
def Bl6(td ty tv:TE):TS:=λD σ H=>tv σ H λv H1=>td σ H1 λx H2=>ty σ H2 λy H3=>∃a H4,x=.ref a/\Atr H3 a y v H4/\D.nx σ H4
section
def Bb4(hu:X.A.units+1 < cLine)(B:PE X o j)(hi:PE X i ty)(z:PE X value f)(hs:swapsWith value sr[.Subscript o i b] d.line X.env=pure t7):
  PS[X][.Assign [.Subscript o i b] value d][Bl6 j ty f]:=by
 intro e s c H D I h;refine wpAny_Assign_Subscript (thn[z e s c H _ I h] λr l ⟨v,H1,I1,rv,q1⟩=>thn[B e l c H1 _ I1 q1] λu k ⟨x,H2,I2,rx,q2⟩=>thn[hi e k c H2 _ I2 q2] λQ P ⟨y,H3,I3,ry,a,H4,ex,g,q3⟩=>?_) hs;subst ex;obtain rfl:_:=rx;exact Atu hu I3 g ry rv λO C=>(c,H4,C,q3)
end
def Ama(h:dD)(a:sysModules < h.objs.size):Ed P w H (h.push { cls:=.type "dict",data:=.dict #[] }) h.objs.size .dK[[]]:=(
 (dM _,beq_eq_false_iff_ne.mpr eF[bM[a]],[],.nil,aEg h))
def Bh6:TE:=λuw H Q=>∀p,H p=sy->Q[.ref p][upd H p .dK[[]]]
section
def Awo:PE X (.Dict [] [] b) Bh6:=(λd s c H Q I h=>
 wpAny_Dict_empty (.ref s.heap.objs.size,_,I.laid[λa a q=>aC _ q][aM _][Ama s.heap I.big],rfl,h _ I.hok.fresh[aM[_]]))
end
def Aj3:lg[TE×TE]->St->Hp->(lg[V×V]->Hp->Prop)->Prop
 |[],_,H,Q=>Q [] H
 |(tk,tv)::r,σ,H,Q=>tk σ H λx H1=>tv σ H1 λy H2=>Aj3 r σ H2 λps H3=>Q ((u6 x y)::ps) H3
abbrev VV:lg[V×V]->lg[aD×aD]->Prop:=lZ λp q=>RelV p.1 q.1/\RelV p.2 q.2
def PPs(X:Cx)(pos:Pos)(keys:lg o9[bW])(values:lg bW)(trs:lg[TE×TE]):Prop:=
 ∀(aa:lg[aG×tu])(s:aN)(σ:St)(H:Hp)(Q:lg[V×V]->Hp->Prop),Inv X aa σ H s->Aj3 trs σ H Q->
  wpAny (model X.prog X.w) X.A evalPairs[pairTrees keys values X.env pos] (λvs s'=>∃ps H',Inv X aa σ H' s'/\VV ps vs/\Q ps H') X.xe s
def Qj(kvs more:lg[Key×V]):lg[Key×V]:=more.foldl (λacc kv=>putK acc kv.1 kv.2) kvs
def KV.merge:∀{more:lg[Key×V]} {rs:lg[Key×aD]} {kvs:lg[Key×V]} {vs:lg[Key×aD]},KV more rs->KV kvs vs->KV[Qj kvs more][merged vs rs]:=by
 intro more rs kvs vs r;induction r generalizing kvs vs with
 |nil=>intro q;exact q
 |@cons p q ps qs h t c=>
  intro b;let e:KV[putK kvs p.1 p.2][stored vs q.1 q.2]:=by
   have:=b.put p.1 h.2;rw[<-h.1];omega
  exact c e
theorem We:∀(more a:lg[Key×V]),(Qj a more).length<=a.length+more.length
 |[],a=>by show a.length<=_;simp
 |p::r,a=>by
  let d:=We r (putK a p.1 p.2);let c:=Rr a p.1 p.2;show (Qj (putK a p.1 p.2) r).length<=_;rw[dZ];omega
theorem Ae8:∀{d:lg[Key×V]} {f:lg[aD×aD]},VV (d.map λkv=>(u6 kV[kv.1] kv.2)) f->∃rs,Carries (Hk P w) f rs/\KV d rs
 |[],_,r=>by cases r;exact([],iK,.nil)
 |p::d,_,r=>by
  cases r with
  |@cons a b g bs h t=>
   let(rs,c,q):=Ae8 (P:=P) (w:=w) t;let(b1,b2):=b;exact((u6 p.1 b2)::rs,(Ah7 h.1,rfl,c),.cons (rfl,h.2) q)
def Bl7(trs:lg[TE×TE]):TE:=λσ H Q=>∀p,H p=sy->Aj3 trs σ (upd H p .dK[[]]) λps H2=>H2 p=sr .dK[[]]/\∃kvs:lg[Key×V],ps=kvs.map[λkv=>(u6 kV[kv.1] kv.2)]/\kvs.length<=15/\Q[.ref p][upd H2 p .dK[Qj [] kvs]]
def Bb5(h:PPs X k b values i)(f:b.all (·.isSome)=t8)(A:b.length=values.length)(C:b≠[])(l:b.length<=15):PE X (.Dict b values k) Bl7[i]:=by
 intro G s n H Q I q;let y:=I.hok.fresh aM[s.heap.objs.size];let J:=I.laid (a:=s.heap.objs.size) (t':=s.toks) (λp p q=>aC _ q) aM[_] (Ama s.heap I.big);refine wpAny_Dict_walk (knd:=Hk X.prog X.w) f A C l (thn[h G _ n _ _ J (q _ y)] λL N ⟨ps,H2,I2,rel,e,kvs,ep,lk,q2⟩=>?_);subst ep;let(rs,c,r):=Ae8 (P:=X.prog) (w:=X.w) rel;let(z,hd,o,t,F):=Awm I2.hok e;cases t;refine(rs,c,F,λS g hs=>(.ref s.heap.objs.size,_,?_,rfl,q2));let v:(Qj [] kvs).length<=sizeLine:=by
  let B:=We kvs [];rw[pY] at B;rw[rK];omega
 exact Aj2 I2 (e ▸ iK) hs (let ⟨q,_,_,x,_⟩:=g;(q,x)) (Awn v hd r.merge[.nil] g)
structure M1(X:Cx)(o:bW)(m:t6)(aj:Pos)(e:bW)(cpos:Pos):Prop where
 base:attributeBase o m X.env (eval o X.env)=eval o X.env
 few:((backTo cpos (starEach [e] X.env)).all (λx=>!x.1)&&(backToKw cpos (keywordEach [] X.env)).all (λx=>x.1.isSome)
  &&decide (([e]:List bW).length+([]:List iC).length+(if ([]:List iC).isEmpty then 0 else 1) < 30))=t8
 line:(aj.endLine==cpos.line)=t8
 trees:backTo cpos (starEach [e] X.env)=[(t7,eval e X.env)]
structure M2(X:Cx)(o:bW)(m:t6)(aj:Pos)(e f:bW)(cpos:Pos):Prop where
 base:attributeBase o m X.env (eval o X.env)=eval o X.env
 few:((backTo cpos (starEach [e,f] X.env)).all (λx=>!x.1)&&(backToKw cpos (keywordEach [] X.env)).all (λx=>x.1.isSome)
  &&decide (([e,f]:List bW).length+([]:List iC).length+(if ([]:List iC).isEmpty then 0 else 1) < 30))=t8
 line:(aj.endLine==cpos.line)=t8
 trees:backTo cpos (starEach [e,f] X.env)=[(t7,eval e X.env),(t7,eval f X.env)]
end L2
namespace Att
open PySem PySem.W PySem.Calls PyProof.Rows
def Ad5:∀(ns:lg Int)(d:lg aD),WellAll P h d ns.map[WData.int]->vB d ns:=by
 intro ns;induction ns with
 |nil=>
  intro d w;cases w;exact .nil
 |cons n ns e=>
  intro d w;cases w with
  |cons a b=>
   cases a;exact .cons _ _ (e _ b)
def Atv{l:OpenLaw}{n:Nat}(s:l.most=sr n){P:Params}{h:dD}{args:lg WData}{vals:lg aD}(b:l.row.toRowW.claim.pre args=t8)(i:WellAll P h vals args):
  ∃a m ns,vals=[bI a]/\args=[WData.list ns.map[WData.int]]/\h.get? a=sr { cls:=.type "list",data:=.seq m.toArray }/\vB m ns/\ns.length<=n:=by
 let j:WShape.hasAll [] args [.list .int]=t8:=(pre_splitW b).1;let t:l.pre.holds [] { args:=args }=t8:=(pre_splitW b).2;let(d,r,rfl,w,v):=hasAllW_cons j;obtain rfl:=hasAllW_nil v;let(xs,rfl,u):=hasW_list w;let(ns,rfl):=items_int u;let c:ns.length<=n:=by
  let g:=by
   let g:=(holds_andW t).1;rw[s] at g;exact g
  let y:=condW_of g w_not[w_lt w_lit w_len_list[w_arg[rfl]]];simp_all
 cases i with
 |cons p o=>
  cases o;cases p with
  |list q e=>exact(_,_,ns,rfl,rfl,q,Ad5 ns _ e,c)
def Atw(l:OpenLaw)(a:lg WData):l.row.toRowW.claim.post a .bool[t8] a=t8:=(
 postW_of
  (by rfl)
  (w_eq_bool w_res[rfl] w_lit) rfl)
def attach_call{l:OpenLaw}{n:Nat}{q:bY}{loose:lg t6}{XP:(t6->o9 aD)->dD->Prop}{E:dO->dD->Prop}{d:DefRec}(N:l.most=sr n)(x:d.params.defaults=[])(call:∀(w:dO)(s₀ b:aN)(mg mb:t6->o9 aD)(k:aG)(o:tu)(t s e:aD)(a:aG)(g:lg aD)(ns:lg Int),
   Ground q loose [] XP w s₀ mg mb b.heap->E w b.heap->
   b.heap.get? k=sr o->o.data=.func[docDef d.name d.params d.body d.scope t s e]->b.heap.CodeRec s d.name->mg d.name=sr .ref[k]->
   b.heap.get? a=sr { cls:=.type "list",data:=.seq g.toArray }->vB g ns->ns.length<=n->b.gens=#[]->
   codeAny[model l.prog w][callerA][.call .ref[k] ([.ref a],[])][λr p=>r=.ok .ret[.bool[t8]]/\OldK b.heap p.heap/\p.os=b.os/\qM p.gens][b]):
  WalkO q loose XP E l.row.toRowW d [] (λf g=>aDm f g):=by
 intro w s₀ b mg mb G H k o t s e dV kV L hd y B v Q C vals as h A I u P;obtain rfl:_:=Dflts.none B x;obtain rfl:kV=.none:=Dflts.noKw B;let(a,g,ns,rfl,rfl,i,hints,j):=Atv N h u;refine enter_call[gU[call w s₀ b mg mb k o t s e a g ns G H L fd_plain[hd] y v i hints j Q] λr p J=>?_];let(rfl,U,T,S):=J;exact(.inl (_,_,[],rfl,λz=>rfl,.bool t8,Atw l _,λz=>(aDw,λz O=>(nomatch O))),U,T,S)
end Att
namespace L2
open PySem PySem.Spec PyProof.Rows
theorem Aia:∀{b:lg aD} {ns:lg Int},vB b ns->Vals ns.map[V.int] b
 |_,_,.nil=>.nil
 |_,_,.cons n t h=>.cons (t,rfl) Aia[h]
def inClass(s:cF)(j:Nat):cF:=match s with
 |.ClassDef _ _ _ body _ _ _ _ _ _ _=>body.getD j (.Pass (0,0,0,0))
 |_=>.Pass (0,0,0,0)
def Do(s:cF):vA:=match s with
 |.FunctionDef _ a _ _ _ _ _ _ _ _=>a
 |_=>{ posonlyargs:=[],args:=[],vararg:=sy,kwonlyargs:=[],kw_defaults:=[],kwarg:=sy,defaults:=[] }
def Aw(s:cF):lg cF:=match s with
 |.FunctionDef _ _ b _ _ _ _ _ _ _=>b
 |_=>[]
def Ai(s:cF):iV:=match s with
 |.FunctionDef _ _ _ _ _ _ sc _ _ _=>sc
 |_=>{ kind:=.function,names:=[],isGenerator:=false,isCoroutine:=false }
abbrev E0:XK:=λuw uw uw=>False
structure Fun(K:aB)(x qual:t6)(st:cF)(f:aG)(fd:eN):Prop where
 ex:∃(oc:aD)(od:Option aG)(dV kV doc pm:aD)(an:Option aG)(cdv ct:aD)(osl:Array (Option aD)),
  fd=cL x qual (Do st) (Aw st) (Ai st) dV kV doc pm an cdv ct/\K.lookup f=sr (oc,od,.func fd,osl)/\iU K cdv qual=t8
 kp:cG K (.ref f)=t8
section
def Pa{K:aB}{x qual:t6}{st:cF}{ps:lg t6}{an:o9 aG}{kV doc pm cdv ct:aD}(h:∀us:lg aD,us.length=ps.length->bindArgs (cL x qual Do[st] Aw[st] Ai[st] .none kV doc pm an cdv ct) (us,[])=pure ps.zip[us]):Binds K (cL x qual Do[st] Aw[st] Ai[st] .none kV doc pm an cdv ct) ps []:=.all h
def Abl{K:aB}{x qual:t6}{st:cF}{f:aG}{oc:aD}{od an:o9 aG}{osl:Array o9[aD]}{dV kV doc pm cdv ct:aD}(l:K.lookup f=sr (oc,od,.func[cL x qual Do[st] Aw[st] Ai[st] dV kV doc pm an cdv ct],osl))(c:iU K cdv qual=t8)(k:cG K .ref[f]=t8):Fun K x qual st f (cL x qual Do[st] Aw[st] Ai[st] dV kV doc pm an cdv ct):=((oc,od,dV,kV,doc,pm,an,cdv,ct,osl,rfl,l,c),k)
end
section
def Atx:Jm X .builtin["len"] (λxs H Q=>∃a b,xs=[V.ref a]/\H a=sr .dK[b]/\Q .int[b.length] H):=by
 rintro i s f H xs g Q I r ⟨a,b,rfl,d,q⟩;let(u,rfl,c):=vals1 r;cases c;exact Bl5 I .inl[d] λt h e=>(.int b.length,H,e,(t,rfl),q)
end
def Aty{A B:Prop}(h:B):if t7=t8 then A else B:=by trivial
def Apd{A B:Prop}(h:A):if t8=t8 then A else B:=by trivial
def Rt(n:Nat)(h:dD)(e:aG)(od:o9 aG):Prop:=∃oe vs,h.get? e=sr oe/\oe.data=.fields vs/\(n=0->vs[2]?=sr .none)/\oe.dict=od
section
variable{M:Model}{A:eU}{E:aD->aN->Prop}{s:aN}{n:Nat}{od:o9 aG}
def Awp(fr:A.frames=sr (env::outer))(m:s.heap.FunFrames B (env::outer))(G:env.frame=sr L)(at_:s.heap.get? e=sr ob)(kB:B.StaysIn s.heap)(N:B.get? e=sy)(dt:ob.data=.fields l)(sz:1 < l.size)(J:l[0]?=sr H)(y:n=0->l[2]?=sr .none)(k:∀g,yW B (env::outer) e ob.cls H rawInt[L] s.heap g->Rt n g e ob.dict->Q u9 { s with heap:=g }):
  wpAny M A (do let a<-frameOf env;let pl<-entryPlaceOf L nx;let b<-vI hd a .none rawInt[L] .none pl;setField .ref[e] 1 b) Q E s:=by
 let off:e∉(env::outer).filterMap (·.frame):=λz=>by
  let(_,o,q,n):=m.mem z;rw[at_] at q;exact n l ((cA q) ▸ dt)
 refine aA[wpAny_frameOf_fun fr m G λf only=>?_];refine aA[wpAny_entryPlaceOf λpl j=>?_];unfold vI newFields;refine aA eO[?_][j.sizeOk5 ..];generalize x:({ cls:=.type "traceback",dict:=sy,data:=.fields ([hd,.ref L,.none,rawInt L,.none] ++ (if pl.isEmpty then bV 6 gD else pl)).toArray }:tu)=tb
 let v:f.get? e=sr ob:=(only.2.1 e off).trans at_;let i:B.StaysIn f:=λb o z=>(only.2.1 b λw=>by rw[(m.mem w).1] at z;cases z).trans (kB b o z)
 let u:(f.push tb).get? e=sr ob:=aC tb v;apply fU u dt sz;let ne:f.objs.size≠e:=jP aV[v];let r:=cV dt (·.setIfInBounds 1 bI[f.objs.size]);let t:=bQ (fX (·.setIfInBounds 1 bI[f.objs.size])) u fZ[r];let F:=(bN f.push[tb] (fX (·.setIfInBounds 1 bI[f.objs.size])) eF[ne]).trans (aR f (by rw[<-x];rfl))
 let stay:∀b o,b≠e->f.get? b=sr o->((f.push tb).update e (fX (·.setIfInBounds 1 bI[f.objs.size]))).get? b=sr o:=λb o n z=>(bN _ _ eF[n]).trans (aC tb z);let h:∀b o,s.heap.get? b=sr o->(∀C,o.data≠.fields C)->b≠e:=λb o z n w=>by simp_all
 refine k _ (λb o z=>stay b o (λw=>by grind) (i b o z),m.of_keeps λb o z n=>?_,?_,λb o z n=>?_) (_,_,t,r,λz=>by rw[Array.getElem?_setIfInBounds_ne ()];exact y z,by
   let(c,d,dt,p):=ob;cases dt <;> rfl)
 .let(p,w):=only.2.2 b o z;exact(_,stay b _ (h b o z n) w,rfl)
 .refine(_,_,f.objs.size,_,_,t,(mH _ _,by simp_all),r,by simp[sz],i.fresh,ne,F,by rw[<-x],?_)
  first
   |(simp;done)
   |(rcases j with rfl|⟨_,_,_,_,_,_,_,rfl⟩ <;> simp)
 .let(p,w):=only.2.2 b o z;exact(p,stay b _ (h b o z n) w)
def Ape(kB:B.StaysIn s.heap)(H:s.heap.FunFrames B l)(tr:s.heap.TracedAtW B e cls N P)(I:Rt n s.heap e od)(k:∀g,B.StaysIn g->g.FunFrames B l->g.TracedW B e cls N->Rt n g e od->s.heap.UpToSlots g->Q u9 { s with heap:=g }):wpAny M A (setFlight .ref[e] sy) Q E s:=by
 let(C,i,T,O,u,h,G,dt,j,F,d,m,dT,v):=tr;let(y,f,r,q,L,J):=I;rw[h] at r;obtain rfl:=cA r;rw[dt] at q;obtain rfl:i=f:=by injection q
 let x:3 < u.size:=(fG.mp v).1;let a:∀b,b≠T->(s.heap.update T (fX (·.setIfInBounds 3 .none))).get? b=s.heap.get? b:=λb n=>bN _ _ eF[n];let c:∀b o,s.heap.get? b=sr o->(∀t,o.data≠.fields t)->b≠T:=λb o z n w=>by simp_all
 let p:=(a e eF[d]).trans h;refine wpAny_setFlight_none h dt j m dT x (k _ (λb o z=>(a b λw=>by simp_all).trans (kB b o z)) (H.of_keeps λb o z n=>(o,(a b (c b o z n)).trans z,rfl)) ?_ (_,_,p,dt,L,J) λb o z n=>(o.slots,(a b (c b o z n)).trans z))
 exact(C,i,T,_,_,p,G,dt,j,F,d,bQ _ m fZ[cV dT _],cV dT _,by simp_all)
def Awq(fr:A.frames=sr (env::outer))(i:s.heap.FunFrames B (env::outer))(c:env.frame=sr L)(at_:s.heap.get? e=sr ob)(kB:B.StaysIn s.heap)(h:B.get? e=sy)(dt:ob.data=.fields a)(b:a[1]?=sr .none)(f:a[0]?=sr j)(d:n=0->a[2]?=sr .none)(k:∀g,yW B (env::outer) e ob.cls j rawInt[L] s.heap g->Rt n g e ob.dict->Q u9 { s with heap:=g }):wpAny M A (noteFrame .ref[e] env) Q E s:=by
 unfold noteFrame;simp only[c];exact aA[dG at_ dt b (Awp fr i c at_ kB h dt (fG.mp b).1 f d k)]
def Awr(fr:A.frames=sr (env::outer))(F:s.heap.FunFrames B (env::outer))(p:env.frame=sr L)(tr:s.heap.TracedW B e cls I)(kB:B.StaysIn s.heap)(y:B.get? e=sy)(i:Rt n s.heap e od)(k:∀g,yW B (env::outer) e cls I rawInt[L] s.heap g->Rt n g e od->Q u9 { s with heap:=g }):wpAny M A (noteFrame .ref[e] env) Q E s:=by
 let(O,t,T,P,J,f,(C,u),dt,j,S,h,m,dT,l):=tr;let(x,d,r,q,H,G):=i;rw[f] at r;obtain rfl:=cA r;rw[dt] at q;obtain rfl:t=d:=by injection q
 subst C;subst G;unfold noteFrame;simp only[p];refine aA[dG f dt j ?_];refine aA[dG m dT l ?_];refine aA[fU m dT (fG.mp l).1 ?_];let a:∀b,b≠T->(s.heap.update T (fX (·.setIfInBounds 3 gD))).get? b=s.heap.get? b:=λb n=>bN _ _ eF[n];let c:∀b o,s.heap.get? b=sr o->(∀v,o.data≠.fields v)->b≠T:=λb o z n w=>by simp_all
 refine Awp fr (F.of_keeps λb o z n=>(o,(a b (c b o z n)).trans z,rfl)) p ((a e eF[h]).trans f) (λb o z=>(a b λw=>by grind).trans (kB b o z)) y dt (fG.mp j).1 u H λg N i=>k g (N.1,N.2.1,N.2.2.1,λb o z n=>N.2.2.2 b o ((a b (c b o z n)).trans z) n) i
def Aq7(fr:A.frames=sr (env::outer))(u:s.heap.FunFrames B (env::outer))(v:env.frame=sr L)(at_:s.heap.get? e=sr ob)(kB:B.StaysIn s.heap)(r:B.get? e=sy)(dt:ob.data=.fields a)(p:a[1]?=sr .none)(q:a[0]?=sr a0)(m:n=0->a[2]?=sr .none)(k:∀g,Heap.LeftW B (env::outer) e ob.cls a0 s.heap g->Rt n g e ob.dict->Q u9 { s with heap:=g }):wpAny M A (leaving env .ref[e]) Q E s:=(aA (Awq fr u v at_ kB r dt p q m λg N x=>Ape N.1 N.2.1 N.2.2.1 x λt j i h f d=>k t (j,i,h,λb o z n=>by
  let(y,w):=N.2.2.2 b o z n;let(c,l):=d b _ w n;exact(c,l)) f))
def Bb6(fr:A.frames=sr (env::outer))(t:env.frame=sr L)(r:jA B (env::outer) e cls C s.heap)(y:Rt n s.heap e od)(k:∀g,jA B outer e cls C g->Rt n g e od->s.heap.UpToSlots g->Q u9 { s with heap:=g }):wpAny M A (leaving env .ref[e]) Q E s:=by
 let(x,f,v,u):=r;exact aA (Awr fr v t u x f y λg N d=>Ape N.1 N.2.1 N.2.2.1 d λq m l j i h=>by
  let(_,_,a):=l;exact k q (m,f,a,j) i λb o z n=>by
   let(F,w):=N.2.2.2 b o z n;let(c,p):=h b _ w n;exact(c,p))
def okX(o:o9[Nat×o9 aG])(h:dD)(e:aG):Prop:=∀n od,o=sr[u6 n od]->Rt n h e od
def Rt.ok{n:Nat}(c:Rt 0 h e od):okX sr[u6 n od] h e:=(λa a z=>by
 cases z;let(d,b,j,i,g,f):=c;exact(d,b,j,i,λa=>g rfl,f))
def okX.none:okX sy h e:=(λa a z=>nomatch z)
def Rt.okS{n:Nat}(c:Rt n h e od):okX sr[u6 n od] h e:=(λa a z=>by simp_all)
def Bh7{o:o9[Nat×o9 aG]}(fr:A.frames=sr (env::outer))(b:env.frame=sr L)(a:jA B (env::outer) e cls h s.heap)(c:okX o s.heap e)(k:∀g,jA B outer e cls h g->okX o g e->s.heap.UpToSlots g->Q u9 { s with heap:=g }):wpAny M A (leaving env .ref[e]) Q E s:=by
 cases o with
 |none=>exact wpAny_leaves_onW fr b a λg f sm=>k g f okX.none sm
 |some p=>exact Bb6 fr b a (c p.1 p.2 rfl) λg f d sm=>k g f d.okS sm
def Apf{o:o9[Nat×o9 aG]}(fr:A.frames=sr (env::outer))(b:env.frame=sr L)(j:jA B (env::outer) e cls m s.heap)(i:okX o s.heap e)(k:∀g,aDn B (env::outer) e cls m L g->okX o g e->s.heap.UpToSlots g->Q u9 { s with heap:=g }):wpAny M A (noteFrame .ref[e] env) Q E s:=by
 let(h,a,d,c):=j;cases o with
 |none=>exact wpAny_looks_onW fr b (h,a,d,c) λg f sm=>k g f okX.none sm
 |some p=>exact Awr fr d b c h a (i p.1 p.2 rfl) λg N l=>k g (N.1,a,N.2.1,N.2.2.1) l.okS N.2.2.2
def Wz{o:o9[Nat×o9 aG]}(kB:B.StaysIn s.heap)(f:B.get? e=sy)(h:s.heap.FunFrames B l)(tr:s.heap.TracedAtW B e cls t v)(j:okX o s.heap e)(k:∀g,jA B l e cls t g->okX o g e->s.heap.UpToSlots g->Q u9 { s with heap:=g }):wpAny M A (setFlight .ref[e] sy) Q E s:=by
 cases o with
 |none=>exact wpAny_setFlight_noneW kB h tr λg d c a i=>k g (d,f,c,a) okX.none λb ob q m=>(ob.slots,i b ob q m)
 |some p=>exact Ape kB h tr (j p.1 p.2 rfl) λg d c a r sm=>k g (d,f,c,a) r.okS sm
def Bh8(fr:A.frames=sr (env::outer))(u:env.frame=sr L)(kB:B.StaysIn h)(r:h.FunFrames B (env::outer))(a:mL h s.heap e cls d)(k:∀g t,jA B outer e cls .ref[t] g->Rt 0 g e sy->s.heap.UpToSlots g->Q u9 { s with heap:=g }):wpAny M A (leaving env .ref[e]) Q E s:=by
 let(t,i,_,_):=a.there;let c:B.get? e=sy:=by
  cases z:B.get? e with
  |none=>rfl
  |some o=>
   let w:=kB e o z;rw[a.new] at w;cases w
 refine Aq7 (n:=0) (a0:=.ref t) fr (r.of_keeps λb o z f=>(o,a.keeps b o z,rfl)) u i (λb o z=>a.keeps b o (kB b o z)) c rfl rfl rfl (λf=>rfl) λg q v=>?_;let(p,(_,_,m),l,j):=q;exact k g t (p,c,m,l) v j
end
def Ed.there(x:Ed P w H h a o):∃ob,h.get? a=sr ob:=by
 cases o with
 |lst xs=>let(_,_,_,_,e):=x;exact(_,e)
 |tup xs=>let(_,_,_,ob,e,_):=x;exact(_,e)
 |dK b=>let(_,_,_,_,o,_,_,e,_):=x;exact(_,e)
 |dT b=>let(_,_,_,_,o,_,_,e,_):=x;exact(_,e)
 |set S n=>let(o,_,_,_,e,_):=x;exact(_,e)
 |ins C d fs=>let(_,_,_,e,_):=x;exact(_,e)
 |own y=>exact x
 |xd fs=>let(_,(_,_,_,e,_),_):=x;exact(_,e)
 |rng lo hi=>let(_,_,_,e):=x;exact(_,e)
 |frz ob u=>let(e,_):=x;exact(_,e)
 |tbl ps=>exact(_,(x))
 |met f y=>exact(_,(x))
 |ext c=>let(_,z,_):=x;omega
structure Fly(P:bY)(w:dO)(outer:List Env)(H:Hp)(s:aN)(H':Hp)(e:aG)(cls:aD)(s':aN):Prop where
 os:s'.os=s.os
 bare:qM s'.gens
 un:Un (frs outer) [] H H' s.heap s'.heap
 hok:HOk P w H' s'.heap
 new:s.heap.get? e=sy
 fre:H' e=sy
 fly:∃(B:dD)(a0:aD),jA B outer e cls a0 s'.heap/\(∀b o,s.heap.get? b=sr o->H b=sy->b∉frs outer->B.get? b=sr o)/\
  (∀b o,s.heap.get? b=sr o->b∉frs outer->∃o',B.get? b=sr o')/\∀a u o,H' a=sr u->s'.heap.get? a=sr o->B.get? a=sr o
def CXo(P:bY)(w:dO):CXT:=λouter H s E e s'=>∃(ea:aG)(cls:aD)(H':Hp)(o:o9[Nat×o9 aG]),e=bI ea/\Fly P w outer H s H' ea cls s'/\okX o s'.heap ea/\E cls o H'
section
def Inv.notStk(I:Inv X d a H s)(e:X.s₀.heap.get? b=sr o)(c:b∉X.fs):b∉frs X.stack:=(λz=>by
 rcases bH.mp[I.stkSub b z] with q|q
 .exact absurd aO[aV e][q ▸ I.ok.above] eQ[_]
 trivial)
def Inv.fsStk(I:Inv X e d H s)(hs:X.stack=X.env::X.outer):∀b∈X.fs,b∈frs X.stack:=(λb c=>by
 rw[hs];let(env,a,hf):=gF.mp c;exact gF.mpr (env,bH.mpr .inr[a],hf))
def Inv.locStk(I:Inv X aa σ H s)(hs:X.stack=X.env::X.outer)(hf:X.env.frame=sr X.env.locals):X.env.locals∈frs X.stack:=hs ▸ gF.mpr (X.env,bH.mpr .inl[rfl],hf)
def Inv.fly_made(I:Inv X aa σ H s)(P:X.stack=X.env::X.outer)(L:X.env.frame=sr X.env.locals)(Z:X.ex=[])(r:mL s.heap N e cls T)(k:∀c:dD,Fly X.prog X.w X.outer X.H₀ X.s₀ H e cls { s with heap:=c }->Rt 0 c e sy->Q u9 { s with heap:=c }):wpAny M X.A (leaving X.env .ref[e]) Q E { s with heap:=N }:=by
 let J:∀env∈X.stack,∀a,env.frame=sr a->a∈frs X.stack:=λenv he a ha=>gF.mpr (env,he,ha);let st:(cP s.heap frs[X.stack]).StaysIn s.heap:=λb o q=>lJ _ q;let O:s.heap.FunFrames (cP s.heap frs[X.stack]) X.stack:=oR I.stack J;let noex:∀b,b∉X.ex:=λb z=>by simp_all
 let O:s.heap.FunFrames (cP s.heap frs[X.stack]) (X.env::X.outer):=P ▸ O;refine Bh8 (s:={ s with heap:=N }) (B:=cP s.heap frs[X.stack]) (h:=s.heap) (by rw[I.ok.frames,P]) L st O r λc t C cx y=>k c ?_ cx
 let y:N.UpToSlots c:=y;let d:∀b o,s.heap.get? b=sr o->b∉frs X.stack->c.get? b=sr o:=λb o q n=>C.1 b o (eG _ q n);let p:∀b o,s.heap.get? b=sr o->b∈frs X.stack->∃G,c.get? b=sr { o with slots:=G }:=λb o q hb=>by
  let(_,g,S,Y):=I.stack.mem hb;rw[q] at S;cases S;exact y b o (r.keeps b o q) Y
 refine(I.os,I.bare,(λb o q n hb j=>?_,λb o q n hb j=>?_,λb o q n j=>I.base.free b o q n noex[b],λb o q j=>?_,I.base.tups,I.base.frzs,I.base.tbls),λa u q=>?_,?_,?_,?_)
 .exact d b o (I.base.keep b o q n hb noex[b]) (I.notStk q hb)
 .let(G,f):=I.base.slot b o q n hb noex[b];let(F,l):=p b _ f (I.fsStk P b hb);exact(F,l)
 .let(g,f):=I.base.there b o q noex[b];by_cases hb:b∈frs X.stack
  .let(G,l):=p b g f hb;exact(_,l)
  .exact(g,d b g f hb)
 .refine(I.hok a u q).stay (λb v hb z=>d b v z λm=>?_) (λj z=>z) λj j z=>z;let n:=I.stkFree b m;rcases hb with rfl|hb
  .rw[n] at q;cases q
  .rw[n] at hb;cases hb
 .cases q:X.s₀.heap.get? e with
  |none=>rfl
  |some o=>
   let(g,f):=I.base.there e o q noex[e];rw[r.new] at f;cases f
 .cases q:H e with
  |none=>rfl
  |some u=>
   let(g,f):=(I.hok e u q).there;rw[r.new] at f;cases f
 .refine(_,_,C,λb o q n hb=>eG[_][I.base.keep b o q n hb noex[b]][I.notStk q hb],λb o q hb=>?_,λa u o q z=>?_)
  .let(g,f):=I.base.there b o q noex[b];exact(g,eG _ f (I.notStk q hb))
  .let(ob,f):=(I.hok a u q).there;let l:=eG frs[X.stack] f λm=>by
    let n:=I.stkFree a m;rw[n] at q;cases q
   let U:=C.1 a ob l;let z:c.get? a=sr o:=z;rw[U] at z;cases z;exact l
def Inv.fly_on(I:Inv X aa σ H s)(P:X.stack=X.env::X.outer)(N:X.env.frame=sr X.env.locals)(hex:X.ex=[])(F:Fly X.prog X.w X.stack H s H' e cls p){o:o9[Nat×o9 aG]}(ox:okX o p.heap e)(k:∀c:dD,Fly X.prog X.w X.outer X.H₀ X.s₀ H' e cls { p with heap:=c }->okX o c e->Q u9 { p with heap:=c }):wpAny M X.A (leaving X.env .ref[e]) Q E p:=by
 let(B,a0,O,U,T,L):=F.fly;let noex:∀b,b∉X.ex:=λb z=>by simp_all
 let C:=O;rw[P] at C;refine Bh7 (by rw[I.ok.frames,P]) N C ox λc j J Y=>k c ?_ J
 let y:∀b o,p.heap.get? b=sr o->b∈frs X.stack->∃G,c.get? b=sr { o with slots:=G }:=λb o q hb=>by
  let(_,h,S,nf):=O.2.2.1.mem hb;rw[q] at S;cases S;exact Y b o q nf
 refine(F.os.trans I.os,F.bare,(λb o q n hb l=>?_,λb o q n hb l=>?_,λb o q n l=>?_,λb o q l=>?_,λb xs q=>F.un.tups b xs (I.base.tups b xs q),λb o u q=>F.un.frzs b o u (I.base.frzs b o u q),λb ps q=>?_),λa u q=>?_,?_,F.fre,?_)
 .exact j.1 b o U[b][o][I.base.keep b o q n hb noex[b]][I.base.free b o q n noex[b]][I.notStk q hb]
 .let(G,d):=I.base.slot b o q n hb noex[b];let t:=I.fsStk P b hb;let(Z,g):=F.un.slot b _ d (I.base.free b o q n noex[b]) t ()
  let(m,r):=y b _ g t;exact(m,r)
 .let(h,d):=I.base.there b o q noex[b];exact F.un.free b h d (I.base.free b o q n noex[b]) ()
 .let(h,d):=I.base.there b o q noex[b];by_cases hb:b∈frs X.stack
  .let(_,f,g,_):=O.2.2.1.mem hb;let(G,r):=y b f g hb;exact(_,r)
  .let(f,g):=T b h d hb;exact(f,j.1 b f g)
 .let(m1,e1):=I.base.tbls b ps q;let(m2,e2):=F.un.tbls b _ e1;exact(m1 ++ m2,by simp_all)
 .refine(F.hok a u q).stay (λb v hb z=>?_) (λl z=>z) λl l z=>z;rcases hb with rfl|hb
  .exact j.1 b v (L b u v q z)
  .exact j.1 b v (L b _ v hb z)
 .cases q:X.s₀.heap.get? e with
  |none=>rfl
  |some o=>
   let(h,d):=I.base.there e o q noex[e];rw[F.new] at d;cases d
 .refine(B,a0,j,λb o q n hb=>U[b][o][I.base.keep b o q n hb noex[b]][I.base.free b o q n noex[b]][I.notStk q hb],λb o q hb=>?_,λa u o q z=>?_)
  .let(h,d):=I.base.there b o q noex[b];exact T b h d (I.notStk q hb)
  .let(ob,d):=(F.hok a u q).there;let g:=L a u ob q d;let r:=j.1 a ob g;let z:c.get? a=sr o:=z;rw[r] at z;cases z;exact g
end
def Raises(X:Cx)(E:XK):Prop:=∀(aa:lg[aG×tu])(σ:St)(H:Hp)(s:aN)(e:aG)(cls:aD)(args:lg aD)(h':dD)(n:Nat),
 Inv X aa σ H s->mL s.heap h' e cls args->E cls sr[u6 n sy] H->X.xe .ref[e] { s with heap:=h' }
nonrec def Bb7{K:aB}{h:dD}{C:aG}{e:lg aD}{newId:String}(X:K.In h)(q:vP K C e newId=t8):
  ∃m N p qn bs d o sub t b s k j i g f v,h.get? C=sr[excClassObj p qn C N bs m d o sub t b s k j i g f newId]/\h.Ns N v/\v "__init__"=sy/\zW h e m:=by
 unfold vP at q;split at q
 .rename_i s E u A;split at q
  .rename_i F m k j i g n f w hs;simp only[aL,beq_iff_eq,iW] at q;let(((((rfl,rfl),a),z),hok),c):=q;let(p,bs,y,ns,qn,hd,o,sub,t,b,B):=E;dsimp only at w a hok c;subst w a;let r:u=#[k,j,i,g,sr .builtin[n],f]:=by
    obtain⟨l⟩:=u;simp only at hs;rw[hs]
   subst r;exact(m,ns,p,qn,bs,hd,o,sub,t,b,s,k,j,i,g,f,_,X _ _ A,.of_isNs[wC X hok],PySem.W.nsMap_none_of_in X hok c,wF X z)
  .cases q
 .cases q
def Bh9(ta:TA)(C:aG)(E:XK):TS:=λuw σ H=>ta σ H λvs H1=>vs.length<=sizeLine/\∃n,E .ref[C] sr[u6 n sy] H1
abbrev Ae9:lg aD:=[.type "ValueError",.type "Exception",.type "BaseException",.type "object"]
abbrev Vz(K:aB)(C:aG):Prop:=vP K C Ae9 "ValueError.__new__"=t8
def Cm(CX:CXT)(X:Cx)(E:St->XK):Prop:=∀(aa:lg[aG×tu])(σ:St)(H:Hp)(s:aN)(e:aD)(s':aN),Inv X aa σ H s->CX X.stack H s E[σ] e s'->X.xe e s'
def Bia(sp:Sp)(dvs:lg V)(E:St->XK)(t:TA):TE:=λσ H Q=>t σ H λvs H1=>sp (vs ++ dvs) H1 Q E[σ]
def Amb{k:Nat}(F:Hl X.prog X.w X.K X.mg X.base CX k f fd ps C cm)(L:Fq k X.A cm)(S:Gl X x)(N:X.mg x=sr .ref[f])(P:cG X.K .ref[f]=t8)(U:Binds X.K fd ps y)(hd:Vals j y)(J:Cm CX X E)(Y:PA X (e::c) t)(i:(x==("__debug__":t6))=t7:=by decide)(T:starEach (e::c) X.env=(u6 t7 (eval e X.env))::starEach c X.env:=by rfl)(g:(backTo pos (starEach c X.env)).any (·.1)=t7:=by rfl):
  PE[X][.Call (.Name x p) (e::c) [] pos][Bia C j E t]:=by
 intro z s l H Q I h;refine eV[Kv I S N ?_ i];refine jC I.ok.mod.kin P (thn[Y pos z s l H _ I h] λm d ⟨vs,H1,I1,r,q⟩=>(I1.kIn,?_)) T g;let n:=r.append hd;let O:(m ++ y).length=ps.length:=n.length ▸ F.len _ _ _ _ q;refine jX[gU[F.run X.A X.stack d H1 _ _ _ Q _ L I1.env0 (U d m I1.kIn O) n q] λr G o=>?_];cases r with
 |error e=>exact J z l H1 d e G I1 o
 |ok Z=>
  cases Z with
  |ret u=>exact I1.after o
  |next=>trivial
  |brk=>trivial
  |cont=>trivial
def K7(a:aG)(cls:aD)(o:o9[Nat×o9 aG]):HO:=.ext λh=>(∃o vs,h.get? a=sr o/\o.cls=cls/\o.data=.fields vs)/\okX o h a
abbrev Cx.tryB(X:Cx)(pn:lg[aG×tu])(xe:aD->aN->Prop):Cx:={ X with pn:=pn,xe:=xe }
abbrev Cx.suite(X:Cx)(e:aG):Cx:={ X with A:=X.A.mark sr[.ref[e]],calm:=false,xe:=λuw uw=>False }
theorem Fq.mark{k:Nat}(r:Fq k A b):Fq k A.mark[v] t7:=(λz=>absurd z (),r.dp,r.un)
section
def Inv.tryIn(I:Inv X b a H s):Inv X.tryB[X.pn ++ b][xe] [] a H s:=(
 ((I.ok.mod,I.ok.kind,I.ok.glob,I.ok.blt,I.ok.above,I.ok.inj,I.ok.has,I.ok.cab,I.ok.hd,I.ok.frames,I.ok.stk,I.ok.exf,I.ok.bs,I.ok.bsz,I.ok.noex,I.ok.exfs,I.ok.funs,I.ok.frf),
 I.os,I.bare,I.base,I.loc,I.cell,I.free,I.freeC,λp hp=>I.pin p (by simp_all),I.hok,I.len))
def Inv.tryOut(I:Inv X.tryB[X.pn ++ c][xe] pins' b H s):Inv X c b H s:=(
 ((I.ok.mod,I.ok.kind,I.ok.glob,I.ok.blt,I.ok.above,I.ok.inj,I.ok.has,I.ok.cab,I.ok.hd,I.ok.frames,I.ok.stk,I.ok.exf,I.ok.bs,I.ok.bsz,I.ok.noex,I.ok.exfs,I.ok.funs,I.ok.frf),
 I.os,I.bare,I.base,I.loc,I.cell,I.free,I.freeC,λp hp=>I.pin p (gW _ hp),I.hok,I.len))
def Inv.suiteIn(I:Inv X c b H s)(e:aG):Inv X.suite[e] c b H s:=(
 ((I.ok.mod,I.ok.kind,I.ok.glob,I.ok.blt,I.ok.above,I.ok.inj,I.ok.has,I.ok.cab,λz=>Bool.noConfusion[z],I.ok.frames,I.ok.stk,I.ok.exf,I.ok.bs,I.ok.bsz,I.ok.noex,I.ok.exfs,I.ok.funs,I.ok.frf),
 I.os,I.bare,I.base,I.loc,I.cell,I.free,I.freeC,I.pin,I.hok,I.len))
def Inv.suiteOut(hd:X.calm=t8->X.A.handled=sy)(I:Inv X.suite[e] b a H s):Inv X b a H s:=(
 ((I.ok.mod,I.ok.kind,I.ok.glob,I.ok.blt,I.ok.above,I.ok.inj,I.ok.has,I.ok.cab,hd,I.ok.frames,I.ok.stk,I.ok.exf,I.ok.bs,I.ok.bsz,I.ok.noex,I.ok.exfs,I.ok.funs,I.ok.frf),
 I.os,I.bare,I.base,I.loc,I.cell,I.free,I.freeC,I.pin,I.hok,I.len))
def Inv.goes{i:Nat}{P:Nat}(I:Inv X aa r H s)(hN:X.N.Nodup)(hi:X.N[i]?=sr x)(Z:s.heap.Ns X.env.locals m)(hl:∀(j:Nat)(y:t6)(v:V),X.N[j]?=sr y->r[j]?=sr sr[v]->Vis X.env.scope y->∃u,RelV v u/\Look X.env s.heap m y u)(t:E.Ns X.env.locals (λy=>if y=x then v else m y))(hs:gM X.env.locals s.heap E):Inv X aa (r.set i sy) H { s with heap:=E,toks:=P }:=by
 let cne:=I.cne;let(oL,_,_,Y,_):=id Z;let tracked:HOk X.prog X.w H E:=λb ob e=>by
  refine(I.hok b ob e).stay (λc F hc q=>(hs.2 c ?_).trans q) (λG q=>q) λG G q=>q;rintro rfl;rcases hc with rfl|hc
  .rw[I.free] at e;cases e
  .rw[I.free] at hc;cases hc
 let a:∀{b:aG} {o:tu},X.s₀.heap.get? b=sr o->b≠X.env.locals:=λe=>bM[aO aV[e] I.ok.above];refine(I.ok,I.os,I.bare,(λb o e n C h=>?_,λb o e n C h=>?_,I.base.free,λb o e h=>?_,I.base.tups,I.base.frzs,I.base.tbls),(_,t,λj y L g f e3=>?_),λy c e=>?_,I.free,I.freeC,λp hp=>?_,tracked,by simpa using I.len)
 .exact(hs.2 b a[e]).trans (I.base.keep b o e n C h)
 .let(Q,g):=I.base.slot b o e n C h;exact(Q,(hs.2 b a[e]).trans g)
 .let(T,g):=I.base.there b o e h;exact(T,(hs.2 b a[e]).trans g)
 .by_cases B:j=i
  .subst B;let A:j < r.length:=by
    by_cases J:j < r.length
    .exact J
    .rw[gR[by simpa using J]] at f;cases f
   rw[fO A] at f;cases f
  .rw[cW eF[B]] at f;let(O,S,q):=hl j y L g f e3;refine(O,S,?_);rcases q with ⟨k,e⟩|⟨k,c,e,z⟩
   .refine .inl (k,?_);have:y≠x:=λe=>B Aex[hN][g][e ▸ hi];simp[this,e]
   .exact .inr (k,c,e,z.sameBut hs (cne y c e))
 .let(F,z):=I.cell y c e;exact(F,z.sameBut hs (cne y c e))
 .let(e,n,ne,U,d):=I.pin p hp;exact((hs.2 p.1 ne).trans e,n,ne,U,d)
def Inv.caught{o:o9[Nat×o9 aG]}(I:Inv X aa σ H s)(bf:X.stack=X.env::X.outer)(Y:X.env.frame=sr X.env.locals)(F:Fly X.prog X.w X.stack H s H' e cls E)(fl:jA B X.stack e cls a0 E.heap)(k1:∀b o,s.heap.get? b=sr o->H b=sy->b∉frs X.stack->B.get? b=sr o)(kE:∀b o,s.heap.get? b=sr o->b∉frs X.stack->∃l,B.get? b=sr l)(k2:∀a u o,H' a=sr u->E.heap.get? a=sr o->B.get? a=sr o)(c:jA B X.stack e cls a0 J)(sm:E.heap.UpToSlots J)(ox:okX o J e):
  Inv X aa σ upd[H'][e][K7 e cls o] { E with heap:=J }:=by
 let(hh,g,d,t,U):=E;obtain rfl:U=s.os:=F.os;let j:∀b o,hh.get? b=sr o->b∈frs X.stack->∃L,J.get? b=sr { o with slots:=L }:=λb o q hb=>by
  let(_,l,N,nf):=fl.2.2.1.mem hb;let N:hh.get? b=sr l:=N;rw[q] at N;cases N;exact sm b o q nf
 let G:∀b,b≠X.env.locals->b∉X.fs->b∉frs X.stack:=λb P y z=>(bH.mp[I.stkSub b z]).elim P y;let ne:∀{b:aG} {u:HO},H' b=sr u->b≠e:=λq=>Bm q F.fre;refine I.step (s:=s) (g':=g) (d':=d) (t':=t) (h':=J) (ch:=[]) (λA z=>nomatch z) (λb o P y A q n=>c.1 b o (k1 b o q n (G b P y))) (λb o A y A q n=>?_) (λb o A q n=>?_) (λb o A q=>?_)
  (λb xs q=>by let z:=F.un.tups b xs q;rwa [Ah ne[z]]) (λb o u q=>by let z:=F.un.frzs b o u q;rwa [Ah ne[z]]) (λb ps q=>?_) (λm hm=>?_) (λa u q=>?_) F.bare
 .let hb:=I.fsStk bf b y;let(L,T):=F.un.slot b o q n hb ()
  let(C,h):=j b _ T hb;exact(C,h)
 .rw[Ah (by rintro rfl;rw[F.new] at q;cases q)]
  exact F.un.free b o q n ()
 .by_cases hb:b∈frs X.stack
  .let(_,f,h,_):=fl.2.2.1.mem hb;let(L,q3):=j b f h hb;exact(_,q3)
  .let(f,h):=kE b o q hb;exact(f,c.1 b f h)
 .let(m,z):=F.un.tbls b ps q;exact(m,(Ah ne[z]) ▸ z)
 .let(o,es,ep,O,r):=hm;let hb:=I.locStk bf Y;let(L,T):=F.un.slot X.env.locals o O I.free hb ()
  let(C,h):=j X.env.locals _ T hb;exact(_,es,ep,h,r)
 .by_cases ha:a=e
  .subst ha;rw[An] at q;cases q;let(oe,vs,O,hc,hd,_):=c.first;refine(((oe,vs,O,hc,hd),ox),(oe,O),λP y p k=>?_);let((o,S,p1,p2,p3),p4):=p;refine((o,S,k o p1,p2,p3),λn od z=>?_);let(l,Q,z1,z2):=p4 n od z;exact(l,Q,k l z1,z2)
  .rw[Ah ha] at q;refine(F.hok a u q).stay (λb v hb z=>?_) (λb z=>(Ah ne[z]) ▸ z) λb xs z=>(Ah ne[z]) ▸ z;rcases hb with rfl|hb
   .exact c.1 b v (k2 b u v q z)
   .exact c.1 b v (k2 b _ v hb z)
end
def Bo7(K:aB)(C:aG)(i:Nat)(tb:(St->XK)->TS)(th:TS):TS:=λD σ H=>
 tb (λσ' cls o H'=>dN K cls .ref[C]=sr t8/\∀ea,H' ea=sy->th { nx:=λσ2 H2=>D.nx (σ2.set i sy) H2,rt:=D.rt,bk:=λσ2 H2=>D.bk (σ2.set i sy) H2,ct:=λσ2 H2=>D.ct (σ2.set i sy) H2 }
  (σ'.set i sr[.ref[ea]]) upd[H'][ea][K7 ea cls o]) D σ H
def Bib{i:Nat}(bf:X.stack=X.env::X.outer)(S:X.env.frame=sr X.env.locals)(hN:X.N.Nodup)(hi:X.N[i]?=sr n)(hn:X.env.scope.names.lookup n=sr .local)(hg:Gl X x)(hm:X.mg x=sr .ref[C])(hd:(x==("__debug__":t6))=t7:=by decide)(hb:∀(pn:lg[aG×tu])(xe:aD->aN->Prop)(E:St->XK),Cm[CXo X.prog X.w][X.tryB pn xe][E]->PSs (X.tryB pn xe) body tb[E])(hs:∀e,PSs X.suite[e] (Y::suite) th):
  PS[X][.Try body [.ExceptHandler sr[.Name x np] sr[n] (Y::suite) hpos] [] [] pos][Bo7 X.K C i tb th]:=by
 intro l s σ H D I h;let hkL:X.env.kindOf n=sr .local:=hn;let T:(X.env.scope.kind==.class||(X.env.scope.kind==.module&&X.env.locals != X.env.globals))=t7:=by rw[I.ok.kind];rfl
 refine pK[cQ[hb (X.pn ++ l) _ _ ?pass [] s σ H D I.tryIn h][λf s1 q=>?_] λe s1 q=>q]
 case pass=>
  intro pins' L H1 s1 e s2 p hcx;let(y,cls,H2,o,rfl,F,ox,hx,q):=hcx;let p:Inv X l L H1 s1:=p.tryOut;let(B,a0,fl,k1,kE,k2):=F.fly;let U:=fl;rw[bf] at U;refine Apf (by rw[p.ok.frames,bf]) S U ox λh4 g ox4 sm4=>?_
  refine Wz g.1 g.2.1 g.2.2.1 g.2.2.2 ox4 λh5 j ox5 sm5=>?_;let Z:∀b o,X.base.get? b=sr o->h5.get? b=sr o:=λb o e=>j.1 b o (k1 b o (p.bs b o e).1 (p.bs b o e).2 λm=>by
   let z:=(p.stack.mem m).1;rw[e] at z;cases z)
  let K5:X.K.In h5:=p.ok.mod.kin.keeps Z;let LT:vQ (model X.prog X.w) h5 typeOf[.ref[y]] cls:=by
   let(ob,ho,hc):=j.there;exact hc ▸ (sW ho).andThen .now
  refine qH pA[?_] (by intro q;cases q)
  refine gZ p.ok.kind hg (kZ (by rw[p.ok.glob];exact p.mod.glob.keeps Z) hm ?_) hd
  refine(uC K5 LT hx) _ _ _ _ (λuw uw e=>e) ?_;show codeAny _ _ _ _ _;refine codeAny_handlers_suite_as[Wz j.1 j.2.1 j.2.2.1 j.2.2.2.at ox5 λh6 fl6 ox6 sm6=>?_];let t:=fl6;rw[<-bf] at t;let I6:Inv X l L upd[H2][y][K7 y cls o] { s2 with heap:=h6 }:=p.caught bf S F fl k1 kE k2 t sm4.trans[sm5.trans[sm6]] ox6
  refine Aey I6 hN hi .inl[hn] (v:=.ref y) rfl (λs7 I7=>?_) .inr[hn];refine cQ[hs y l s7 _ _ _ I7.suiteIn[y] (q y F.fre)][λf s8 q8=>?_] λuw uw z=>z.elim;let out:∀{a:St} {c:Hp},Inv X.suite[y] l a c s8->∀{Q':Flow->aN->Prop},(∀r,Inv X l (a.set i sy) c r->Q' f r)->
    wpAny (model X.prog X.w) X.A (do bindName X.env n .none;unbindBehindTheSuite X.env n hpos) (λuw r=>Q' f r) X.xe s8:=λ{a c} J {Q'} k=>by
   let J:Inv X l a c s8:=J.suiteOut I.ok.hd;let(m,Q,hl):=id J.loc;exact wpAny_nameGoes_keeps hkL Q T λh' v hn' hs'=>k _ (J.goes hN hi Q hl hn' hs')
  cases f with
  |next=>let(a,c,d,z):=q8;exact out d (Q':=SP X l D) λr G=>(_,c,G,z)
  |brk=>let(a,c,d,z):=q8;exact out d (Q':=SP X l D) λr G=>(_,c,G,z)
  |cont=>let(a,c,d,z):=q8;exact out d (Q':=SP X l D) λr G=>(_,c,G,z)
  |ret u=>let(v,a,c,d,r8,z):=q8;exact out d (Q':=SP X l D) λr G=>(v,_,c,G,r8,z)
 .cases f with
  |next=>let(a,c,d,z):=q;exact jL (a,c,d.tryOut,z)
  |brk=>let(a,c,d,z):=q;exact(a,c,d.tryOut,z)
  |cont=>let(a,c,d,z):=q;exact(a,c,d.tryOut,z)
  |ret u=>let(v,a,c,d,r8,z):=q;exact(v,a,c,d.tryOut,r8,z)
section
def Aj4(h:env'.frame=env.frame)(e:aD):noteFrame e env'=noteFrame e env:=by
 unfold noteFrame PySem.frameOf;rw[h]
def Aq8{o:o9[Nat×o9 aG]}(f:o9 aG)(kB:B.StaysIn s.heap)(L:s.heap.FunFrames B l)(tr:s.heap.TracedAtW B e cls P X)(C:okX o s.heap e)(k:∀g,B.StaysIn g->g.FunFrames B l->g.TracedAtW B e cls P (f.elim .none λf=>rawInt f)->okX o g e->s.heap.UpToSlots g->Q u9 { s with heap:=g }):wpAny M A (setFlight .ref[e] f) Q E s:=by
 let(F,q,T,U,t,p,J,dt,j,H,d,m,dT,u):=tr;let x:3 < t.size:=(fG.mp u).1;generalize I:(f.elim .none λf=>rawInt f:aD)=v;let a:∀b,b≠T->(s.heap.update T (fX (·.setIfInBounds 3 v))).get? b=s.heap.get? b:=λb n=>bN _ _ eF[n];let c:∀b o,s.heap.get? b=sr o->(∀r,o.data≠.fields r)->b≠T:=λb o z n w=>by simp_all
 let y:=(a e eF[d]).trans p;unfold setFlight;refine aA[dG p dt j ?_];rw[I];refine fU m dT x (k[_][λb o z=>(a b λw=>by grind).trans (kB b o z)][L.of_keeps λb o z n=>(o,(a b (c b o z n)).trans z,rfl)][?_][λn G z=>?_] λb o z n=>(o.slots,(a b (c b o z n)).trans z))
 .exact(F,q,T,_,_,y,J,dt,j,H,d,bQ _ m fZ[cV dT _],cV dT _,by simp_all)
 .let(i,h,O,N):=C n G z;exact(i,h,(a e eF[d]).trans O,N)
def Bgr{o:o9[Nat×o9 aG]}(fr:A.frames=sr (env::outer))(y:env.frame=sr L)(kB:B.StaysIn s.heap)(l:B.get? e=sy)(x:s.heap.FunFrames B (env::outer))(tr:s.heap.TracedAtW B e cls S v)(h:okX o s.heap e)(k:∀g,aDn B (env::outer) e cls S L g->okX o g e->s.heap.UpToSlots g->Q u9 { s with heap:=g }):wpAny M A (noteFrame .ref[e] env) Q E s:=by
 let(Z,C,T,oT,Y,f,(J,F),dt,r,I,j,u,dT,t):=id tr;subst J;unfold noteFrame;simp only[y];refine aA[dG f dt r ?_];refine aA[dG u dT t ?_];by_cases hf:(v==rawInt L)=t8
 .rw[di hf];obtain rfl:v=rawInt L:=by simpa using hf
  exact aH[k s.heap (kB,l,x,tr) h λb ob z X=>(ob.slots,z)]
 rw[dm hf];refine aA[fU u dT (fG.mp t).1 ?_];let a:∀b,b≠T->(s.heap.update T (fX (·.setIfInBounds 3 gD))).get? b=s.heap.get? b:=λb n=>bN _ _ eF[n];let c:∀b o,s.heap.get? b=sr o->(∀G,o.data≠.fields G)->b≠T:=λb o z n w=>by simp_all
 let m:(match o with|none=>1|some p=>p.1)=0->C[2]?=sr .none:=λz=>by
  cases o with
  |none=>cases z
  |some p=>
   let(i,d,q,P,m,_):=h p.1 p.2 rfl;simp_all
 refine Awp fr (x.of_keeps λb o z n=>(o,(a b (c b o z n)).trans z,rfl)) y ((a e eF[j]).trans f) (λb o z=>(a b λw=>by rw[w,I] at z;cases z).trans (kB b o z)) l dt (fG.mp r).1 F m λg N cx=>k g (N.1,l,N.2.1,N.2.2.1) (λn H z=>?_) λb o z n=>N.2.2.2 b o ((a b (c b o z n)).trans z) n
 subst z;let(i,d,q,P,m,O):=h n H rfl;rw[f] at q;cases q
 rwa [<-O]
end
def Bo8(X:Cx)(H:Hp)(e:aG)(cls:aD)(h:dD):Prop:=∃(B:dD)(a0 fl:aD),B.StaysIn h/\B.get? e=sy/\h.FunFrames B X.stack/\h.TracedAtW B e cls a0 fl/\
 (∀b o,X.s₀.heap.get? b=sr o->X.H₀ b=sy->b∉X.fs->B.get? b=sr o)/\(∀b o,X.s₀.heap.get? b=sr o->b∉X.fs->∃o',B.get? b=sr o')/\∀a u o,H a=sr u->h.get? a=sr o->B.get? a=sr o
def Xl(X:Cx)(E:St->XK):Prop:=∀(aa:lg[aG×tu])(σ:St)(H:Hp)(s:aN)(e:aG)(cls:aD)(o:o9[Nat×o9 aG]),Inv X aa σ H s->H e=sy->X.s₀.heap.get? e=sy->Bo8 X H e cls s.heap->okX o s.heap e->E σ cls o H->X.xe .ref[e] s
section
def Aws{P:bY}{w:dO}{K:aB}{mg:t6->o9 aD}{base:dD}{N:lg t6}{qual:t6}{sc:iV}{f:aG}{Y:aD}{A:eU}{outer:lg Env}{s₀:aN}{H₀:Hp}{E:XK}{X:Bool}:Xl[Abj (CXo P w) P w K mg base N qual sc f Y A outer s₀ H₀ E X] λg=>E:=(λaa σ H s e cls o I l k L ox q=>by
 let(B,a0,fl,kB,nB,U,tr,T,S,J):=L;let noex:∀b,b∉(Abj (CXo P w) P w K mg base N qual sc f Y A outer s₀ H₀ E X).ex:=λb z=>nomatch z;show wpAny _ _ (leaving ..) _ _ s;unfold leaving;refine aA[Bgr I.ok.frames rfl kB nB U tr ox λh1 d G x=>?_];refine Wz (s:={ s with heap:=h1 }) d.1 d.2.1 d.2.2.1 d.2.2.2 G λO c F t=>?_
 let sm:s.heap.UpToSlots O:=x.trans t;let m:∀b o,s.heap.get? b=sr o->b∈frs outer->∃C,O.get? b=sr { o with slots:=C }:=λb o q hb=>by
  let(_,j,Q,nf):=U.2.2.mem hb;rw[q] at Q;cases Q;exact sm b o q nf
 refine(e,cls,H,o,rfl,(I.os,I.bare,(λb o q n hb g=>c.1 b o (T b o q n hb),λb o q n hb g=>?_,λb o q n g=>I.base.free b o q n noex[b],λb o q g=>?_,I.base.tups,I.base.frzs,I.base.tbls),λa u q=>?_,k,l,B,a0,(c.1,c.2.1,c.2.2.1.2.2,c.2.2.2),λb o q n hb=>T b o q n hb,λb o q hb=>S b o q hb,λa u o q z=>?_),F,q)
 .let(C,h):=I.base.slot b o q n hb noex[b];let(y,i):=m b _ h hb;exact(y,i)
 .by_cases hb:b∈frs outer
  .let(j,h):=I.base.there b o q noex[b];let(C,i):=m b j h hb;exact(_,i)
  .let(j,h):=S b o q hb;exact(j,c.1 b j h)
 .refine(I.hok a u q).stay (λb v hb z=>?_) (λg z=>z) λg g z=>z;rcases hb with rfl|hb
  .exact c.1 b v (J b u v q z)
  .exact c.1 b v (J b _ v hb z)
 .let(ob,h):=(I.hok a u q).there;let i:=J a u ob q h;let q3:=c.1 a ob i;let z:O.get? a=sr o:=z;rw[q3] at z;cases z;exact i)
end
structure AtH(X:Cx)(aa:List (aG×tu))(σ:St)(H1 H2:Hp)(s1 s2:aN)(ea:aG)(cls:aD)(o:Option (Nat×Option aG))(h5:dD):Prop where
 I:Inv X aa σ H1 s1
 F:Fly X.prog X.w X.stack H1 s1 H2 ea cls s2
 K5:X.K.In h5
 bk:∀b o,X.base.get? b=sr o->h5.get? b=sr o
 LT:vQ (model X.prog X.w) h5 (typeOf (.ref ea)) cls
 go:∀{Q:Unit->aN->Prop} {E:aD->aN->Prop},(∀h6,Inv X aa σ (upd H2 ea (K7 ea cls o)) { s2 with heap:=h6 }->Q u9 { s2 with heap:=h6 })->wpAny (model X.prog X.w) (X.A.mark (sr (.ref ea))) (setFlight (.ref ea) sy) Q E { s2 with heap:=h5 }
def AtH.takeU(a:AtH X l m H1 H2 L p g cls o B)(y:Gl X x)(t:X.mg x=sr .ref[C])(hd:(x==("__debug__":t6))=t7)(s:dN X.K cls .ref[C]=sr t8)(hs:∀e,PSs X.suite[e] (h::suite) n)(q:n D m upd[H2][g][K7 g cls o]):
  wpAny (model X.prog X.w) X.A (handleBy .ref[g] X.env (.ExceptHandler sr[.Name x np] sy (h::suite) k::rs)) (SP X l D) X.xe { p with heap:=B }:=by
 refine qH pA[?_] (by intro q;cases q)
 refine gZ a.I.ok.kind y (kZ (by rw[a.I.ok.glob];exact a.I.mod.glob.keeps a.bk) t ?_) hd
 refine(uC a.K5 a.LT s) _ _ _ _ (λj j e=>e) ?_;refine tR[a.go λN G=>?_];refine cQ[hs g l _ _ _ _ G.suiteIn[g] q][λf J i=>?_] λj j z=>z.elim;cases f with
 |next=>let(b,d,c,z):=i;exact(_,d,c.suiteOut a.I.ok.hd,z)
 |brk=>let(b,d,c,z):=i;exact(_,d,c.suiteOut a.I.ok.hd,z)
 |cont=>let(b,d,c,z):=i;exact(_,d,c.suiteOut a.I.ok.hd,z)
 |ret u=>let(v,b,d,c,r,z):=i;exact(v,_,d,c.suiteOut a.I.ok.hd,r,z)
def Bl8(tb:(St->XK)->TS)(G:Ends->St->XK):TS:=λD σ H=>tb G[D] D σ H
def Bb8{G:Ends->St->XK}{h0:nO}{hs:lg nO}(L:X.stack=X.env::X.outer)(t:X.env.frame=sr X.env.locals)(hb:∀(pn:lg[aG×tu])(xe:aD->aN->Prop)(E:St->XK),Cm[CXo X.prog X.w][X.tryB pn xe][E]->PSs (X.tryB pn xe) body tb[E])(hh:∀{C:lg[aG×tu]} {J:St} {H1 H2:Hp} {p s2:aN} {ea:aG} {cls:aD} {o:o9[Nat×o9 aG]} {h5:dD} {D:Ends},AtH X C J H1 H2 p s2 ea cls o h5->G D J cls o H2->wpAny (model X.prog X.w) X.A (handleBy .ref[ea] X.env (h0::hs)) (SP X C D) X.xe { s2 with heap:=h5 }):
  PS[X][.Try body (h0::hs) [] [] pos][Bl8 tb G]:=by
 intro C s J H D I h;refine pK[cQ[hb (X.pn ++ C) _ _ ?pass [] s J H D I.tryIn h][λf p q=>?_] λe p q=>q]
 case pass=>
  intro T N H1 p e s2 g hcx;let(ea,cls,H2,o,rfl,F,ox,q):=hcx;let g:Inv X C N H1 p:=g.tryOut;let(B,a0,fl,k1,kE,k2):=F.fly;let x:=fl;rw[L] at x;refine Apf (by rw[g.ok.frames,L]) t x ox λh4 c Z S=>?_
  refine Wz c.1 c.2.1 c.2.2.1 c.2.2.2 Z λh5 d Y P=>?_;let y:∀b o,X.base.get? b=sr o->h5.get? b=sr o:=λb o e=>d.1 b o (k1 b o (g.bs b o e).1 (g.bs b o e).2 λm=>by
   let z:=(g.stack.mem m).1;rw[e] at z;cases z)
  refine hh (s2:=s2) (h5:=h5) (g,F,g.ok.mod.kin.keeps y,y,?_,λ{Q E} k=>?_) q
  .let(ob,ho,hc):=d.there;exact hc ▸ (sW ho).andThen .now
  .refine Wz (s:={ s2 with heap:=h5 }) d.1 d.2.1 d.2.2.1 d.2.2.2.at Y λh6 fl6 U O=>?_
   let i:=fl6;rw[<-L] at i;exact k h6 (g.caught L t F fl k1 kE k2 i S.trans[P.trans[O]] U)
 .cases f with
  |next=>let(a,n,l,z):=q;exact jL (a,n,l.tryOut,z)
  |brk=>let(a,n,l,z):=q;exact(a,n,l.tryOut,z)
  |cont=>let(a,n,l,z):=q;exact(a,n,l.tryOut,z)
  |ret u=>let(v,a,n,l,r8,z):=q;exact(v,a,n,l.tryOut,r8,z)
def Gi(cells:lg[t6×aG]):lg[t6×lV]->lg[t6×aG]->lg (t6×aG)
 |[],acc=>acc
 |(n,k)::r,acc=>if (k==.free)=t8 then Gi cells r ((u6 n ((cells.lookup n).getD 0))::acc) else Gi cells r acc
def Afa(h:∀x∈scope.names,x.2=.free->∃c,env.cells.lookup x.1=sr c):closureFor scope env=pure[Gi env.cells scope.names []]:=by
 let all:∀(l:lg[t6×lV])(acc:lg[t6×aG]),(∀x∈l,x.2=.free->∃c,env.cells.lookup x.1=sr c)->
   (forIn l acc λ(x:t6×lV) (r:lg (t6×aG))=>match x with
    |(name,kind)=>if (kind==cJ)=t8 then do let a<-cellOf env name;pure[lW ((u6 name a)::r)] else pure lW[r])=pure[Gi env.cells l acc]:=by
  intro l;induction l with
  |nil=>intro acc _;rfl
  |cons y r j=>
   intro acc g;let(n,k):=y;rw[uD];dsimp only;by_cases e:(k==cJ)=t8
   .let(c,m):=g (u6 n k) bF beq_iff_eq.mp[e];let i:cellOf env n=pure c:=by unfold cellOf;rw[m]
    rw[di e,i];simp only[pure_bind];rw[j _ λx f=>g x (bC _ f)]
    conv=>rhs;unfold Gi
    rw[di e,m];rfl
   .rw[dm e];simp only[pure_bind];rw[j _ λx f=>g x (bC _ f)]
    conv=>rhs;unfold Gi
    rw[dm e]
 let q:=all scope.names [] h;unfold closureFor;dsimp only;rw[q];rfl
theorem Xm:∀(l:lg[t6×lV])(acc:lg[t6×aG])(x:t6)(c:aG),(∀y∈l,y.2=.free->∃c,cells.lookup y.1=sr c)->(Gi cells l acc).lookup x=sr c->
  acc.lookup x=sr c\/cells.lookup x=sr c
 |[],acc,x,c,_,h=>.inl h
 |(n,k)::r,acc,x,c,g,h=>by
  unfold Gi at h;by_cases i:(k==cJ)=t8
  .rw[di i] at h;let(d,hd):=g (u6 n k) bF beq_iff_eq.mp[i];rcases Xm r _ x c (λy f=>g y (bC _ f)) h with q|q
   .rw[cY] at q;cases e:x==n with
    |true=>
     simp_all
    |false=>rw[e] at q;exact .inl q
   .exact .inr q
  .rw[dm i] at h;exact Xm r acc x c (λy f=>g y (bC _ f)) h
theorem W0:∀(l:lg[t6×lV])(acc:lg[t6×aG])(x:t6),(∃c,acc.lookup x=sr c)->∃c,(Gi cells l acc).lookup x=sr c
 |[],acc,x,h=>h
 |(n,k)::r,acc,x,h=>by
  unfold Gi;by_cases d:(k==cJ)=t8
  .rw[di d];apply W0 r _ x;rw[cY];cases e:x==n with
   |true=>exact(_,rfl)
   |false=>omega
  .exact(dm d) ▸ W0 r acc x h
theorem Pb:∀(l:lg[t6×lV])(acc:lg[t6×aG])(x:t6),(u6 x cJ)∈l->∃c,(Gi cells l acc).lookup x=sr c
 |(n,k)::r,acc,x,h=>by
  unfold Gi;rcases bH.mp h with e|e
  .let(i,g):=Prod.mk.inj e;subst i;subst g;refine W0 r _ x ((cells.lookup x).getD 0,?_);simp
  .by_cases d:(k==cJ)=t8
   .rw[di d];exact Pb r _ x e
   .rw[dm d];exact Pb r acc x e
def Aj5(i:∀y∈scope.names,y.2≠.cell)(h:(relabel scope env).names.lookup x=sr .cell\/(relabel scope env).names.lookup x=sr .free):(u6 x cJ)∈scope.names:=by
 let go:∀(l:lg[t6×lV])(k:lV),(∀y∈l,y.2≠.cell)->k=.cell\/k=.free->
   (l.map λ(n,k)=>if (k==cJ&&env.scope.kind==.function&&env.kindOf n==sr .cell) then (u6 n vR) else (u6 n k)).lookup x=sr k->(u6 x cJ)∈l:=by
  intro l;induction l with
  |nil=>intro k _ _ h;simp at h
  |cons y r g=>
   intro k f hk h;let(n,a):=y;let d:a≠.cell:=f (u6 n a) bF;rw[cB,cY] at h;dsimp only at h;by_cases b:(a==cJ&&env.scope.kind==.function&&env.kindOf n==sr .cell)=t8
   .rw[di b] at h;dsimp only at h;cases e:x==n with
    |true=>
     let z:x=n:=beq_iff_eq.mp e;subst z;simp only[aL,beq_iff_eq] at b;exact b.1.1 ▸ bF
    |false=>
     rw[e] at h;exact bC _ (g k (λy c=>f y (bC _ c)) hk h)
   .rw[dm b] at h;dsimp only at h;cases e:x==n with
    |true=>
     let z:x=n:=beq_iff_eq.mp e;subst z;rw[e] at h;let h:a=k:=cA h;subst h;rcases hk with hk|hk
     .exact absurd hk d
     .exact hk ▸ bF
    |false=>
     rw[e] at h;exact bC _ (g k (λy c=>f y (bC _ c)) hk h)
 rcases h with h|h
 .exact go scope.names .cell i .inl[rfl] h
 .exact go scope.names .free i .inr[rfl] h
def Aj6(h:scope.names.lookup x=sr .free):(relabel scope env).names.lookup x=sr .cell\/(relabel scope env).names.lookup x=sr .free:=by
 show jQ x (scope.names.map λ(n,k)=>if (k==cJ&&env.scope.kind==.function&&env.kindOf n==sr .cell) then (u6 n vR) else (u6 n k))=sr .cell\/jQ x (scope.names.map λ(n,k)=>if (k==cJ&&env.scope.kind==.function&&env.kindOf n==sr .cell) then (u6 n vR) else (u6 n k))=sr .free
 revert h;generalize scope.names=l;intro h;induction l with
 |nil=>simp at h
 |cons y r a=>
  let(n,c):=y;rw[cB,cY];dsimp only;rw[cY] at h;by_cases b:(c==cJ&&env.scope.kind==.function&&env.kindOf n==sr .cell)=t8
  .rw[di b];cases e:x==n with
   |true=>exact .inl rfl
   |false=>rw[e] at h;exact a h
  .rw[dm b];cases e:x==n with
   |true=>rw[e] at h;exact .inr h
   |false=>rw[e] at h;exact a h
def Cx.comp(X:Cx)(scope:iV)(own:lg t6)(cap:lg Nat)(C:aG)(s:aN)(H:Hp)(ex:lg aG):Cx where
 prog:=X.prog
 w:=X.w
 K:=X.K
 mg:=X.mg
 base:=X.base
 A:=X.A
 N:=own ++ cap.map λj=>X.N.getD j ""
 s₀:=s
 H₀:=H
 env:=compEnvC scope (Gi X.env.cells scope.names []) C X.env
 outer:=X.stack
 stack:=X.stack
 ex:=ex
 fn:=λuw=>t7
 calm:=X.calm
 pn:=[]
 xe:=λuw uw=>False
abbrev Cx.compX(X:Cx)(scope:iV)(own:lg t6)(cap:lg Nat)(C:aG)(s:aN)(H:Hp)(ex:lg aG)(xe:aD->aN->Prop):Cx:=(X.comp scope own cap C s H ex).wish xe
def PG.nox(h:PG X.nox d g):PG X d g:=(λf s b H v u Q I r q=>
 cQ[h f s b H v u Q I.wish[_] r q][λ_ _ ⟨σ',H',I',q'⟩=>(σ',H',I'.unwish,q')] λc c z=>z.elim)
def Atz(own:lg t6)(cap:lg Nat)(σ:St):St:=bV own.length sy ++ cap.map λj=>σ.getD j sy
def PTs(X:Cx)(ifs:lg bW)(t:TT):Prop:=
 ∀(aa:lg[aG×tu])(s:aN)(σ:St)(H:Hp)(Q:Bool->Hp->Prop),Inv X aa σ H s->t σ H Q->
  wpAny (model X.prog X.w) X.A (forIn ifs t8 λc r=>if r=t8 then do let ok<-isTrue c X.env (eval c X.env);pure lW[ok] else pure lW[r]) (TP X aa σ Q) X.xe s
def PTs.nox(h:PTs X.nox a t):PTs X a t:=(λe s b H Q I q=>
 cQ[h e s b H Q I.wish[_] q][λ_ _ ⟨H',I',q'⟩=>(H',I'.unwish,q')] λc c z=>z.elim)
def Aj7:TT:=λuw H Q=>Q t8 H
section
def Aj8(I:Nat->aN->Prop)(hN:∀e s,N e s->notedBy (model prog w) A env (λx J=>R .error[x] J) e s)(p:∀n s,I n s->wpAny (model prog w) A pyNext[H] (λr f=>match r with
   |none=>R .ok[.next] f
   |some v=>wpAny (model prog w) A (letOwnedTupleGo target H v) (λa d=>wpAny (model prog w) A (assign target env v) (λa j=>
     wpAny (model prog w) A (forIn C t8 λc r=>if r=t8 then do let ok<-isTrue c env (eval c env);pure lW[ok] else pure lW[r]) (λok b=>
      if ok=t8 then wpAny (model prog w) A (eval E env) (λx i=>
       wpAny (model prog w) A (call .builtin["list.append"] [acc,x]) (λa g=>∃m,m < n/\I m g) N i) N b
      else ∃m,m < n/\I m b) N j) N d) N f) N s)(n:Nat)(h:I n s):codeAny (model prog w) A (.compLoop (.ListComp E [(target,G,C,0)] scope L) 0 H acc env) R s:=by
 refine codeAny_loop rfl I (λn s O=>?_) n h;show wpAny _ A _ _ _ s;refine wpAny_noted cQ[?_][λa a q=>q][hN];rw[compTurn_list];refine aA iM[aA[cQ[p n s O][λr f l=>?_] λa a z=>z]];cases r with
 |none=>exact aH l
 |some v=>
  refine aA[cQ l (λa d o=>?_) λa a z=>z];refine aA[cQ o (λa j y=>aA[cQ y (λok b k=>?_) λa a z=>z]) λa a z=>z];cases ok with
  |false=>exact aH (rfl,k)
  |true=>
   exact aA aA[cQ k (λx i u=>aA[cQ u (λa g t=>aH[aH (rfl,t)]) λa a z=>z]) λa a z=>z]
end
def Aib(J:It)(g:TG)(tt:TT)(te:TE)(D:aG)(σ0:St)(H1:Hp)(Q:VK):Prop:=
 ∃W:Nat->Nat->lg V->St->Hp->Prop,(∃m,W 0 m [] σ0 (upd H1 D .lst[[]]))/\∀i m acc σ' H',W i m acc σ' H'->H' D=sr .lst[acc]->
  (J.stop i H'/\Q .ref[D] H')\/(J.go i H'/\∀x H'',J.yld i H' x H''->g x σ' H'' λσ2 H2=>tt σ2 H2 λb H3=>if b=t8 then te σ2 H3 λy H4=>
   H4 D=sr .lst[acc]/\acc.length < sizeLine/\∃m',m' < m/\W[i+1][m'][acc ++ [y]][σ2][upd H4 D .lst[acc ++ [y]]]
   else H3 D=sr .lst[acc]/\∃m',m' < m/\W (i+1) m' acc σ2 H3)
def Aic(wi:TI)(g:TG)(tt:TT)(te:TE)(own:lg t6)(cap:lg Nat):TE:=λσ H Q=>wi σ H λJ H1=>∀D,H1 D=sy->Aib J g tt te D (Atz own cap σ) H1 Q
theorem Afb{h f B i:dD}(k:∀L o,B.get? L=sy->h.get? L=sr o->i.get? L=sy/\f.get? L=sr o):∀{l:lg Env},h.FunFrames B l->f.FunFrames i l
 |[],_=>trivial
 |_::_,⟨a,⟨L,o,b,c,d,e⟩,r⟩=>(a,(L,o,b,(k L o c d).1,(k L o c d).2,e),Afb k r)
def Apg{X:Cx}{use:o9[aD->Sem Unit]}{Q':aD->aN->Prop}{aa Y:lg[aG×tu]}{s3 s1 Q:aN}{σ σ1:St}{H3 H1:Hp}{E:St->XK}{scope:iV}{own:lg t6}{cap:lg Nat}{C D:aG}{fp:lg aG}{xe:aD->aN->Prop}{e:aD}(bf:X.stack=X.env::X.outer)(hfs:X.env.frame=sr X.env.locals)(hex:X.ex=[])(hp:Xl X E)(P:Inv X aa σ H3 s3)(i:Inv (X.compX scope own cap C s3 H3 fp xe) Y σ1 H1 s1)(hcx:CXo X.prog X.w X.stack H1 s1 E[σ] e Q)(hch:∀b∈fp,(b∈X.ex\/X.s₀.heap.objs.size<=b)/\b≠X.env.locals/\(∀x c,X.env.cells.lookup x=sr c->c≠b)/\∀p∈X.pn ++ aa,p.1≠b)(l:∀b o,s3.heap.get? b=sr o->b≠C)(hxe:xe=notedBy[model X.prog X.w][X.A][compEnvC scope (Gi X.env.cells scope.names []) C X.env] λx s'=>compPost (model X.prog X.w) X.A X.xe use Q' .ref[D] C .error[x] s'):xe e Q:=by
 let(t,cls,H5,o,rfl,F,ox,q):=hcx;let(B,a0,fl,k1,kE,k2):=F.fly;rw[hxe];show wpAny _ _ (noteFrame .ref[t] _) _ _ Q;rw[Aj4 (env':=compEnvC scope (Gi X.env.cells scope.names []) C X.env) (env:=X.env) rfl];let r:=fl;rw[bf] at r;let frC:H1 C=sy:=i.free;let(m,(oC,es,ep,O,rC),_):=i.loc;let O:s1.heap.get? C=sr oC:=O;let hCs:C∉frs X.stack:=λz=>by
  let(_,o',f,_):=P.stack.mem z;exact l C o' f rfl
 let CB:B.get? C=sr oC:=k1 C oC O frC hCs;let nC:∀{b:aG},B.get? b=sy->b≠C:=λz w=>by grind
 let H5C:H5 C=sy:=F.un.free C oC O frC ()
 refine Bgr (by rw[P.ok.frames,bf]) hfs r.1 r.2.1 r.2.2.1 r.2.2.2.at ox λh4 d ox4 sm4=>?_
 let post:∃m,h4.Ns C m/\∀S,gM C h4 S->∀j:Env,j.locals=C->wpAny (model X.prog X.w) X.A (passOn "comprehension.variables-let-go" .ref[t] j:Sem aD) (λuw uw=>False) X.xe { Q with heap:=S }:=by
  refine(m,(oC,es,ep,d.1 C oC CB,rC),λS hsb j uw=>?_);let st:∀b,b≠C->S.get? b=h4.get? b:=λb n=>hsb.2 b n;let Z:∀{b:aG} {ob:tu},(cP B [C]).get? b=sr ob->B.get? b=sr ob/\b≠C:=λ{b ob} z=>(lJ _ z,λw=>by
   rw[w,mK [C] ()] at z;cases z)
  let nh:∀{b:aG},B.get? b=sy->(cP B [C]).get? b=sy:=λ{b} z=>by
   cases w:(cP B [C]).get? b with
   |none=>rfl
   |some ob=>rw[(Z w).1] at z;cases z
  let put:∀{b:aG} {ob:tu},B.get? b=sr ob->b≠C->(cP B [C]).get? b=sr ob:=λz n=>eG _ z (by simpa using n)
  let(oe,vs,T,oT,ts,q1,hc,dt,v1,nT,nTe,qT,dT,t3):=d.2.2.2;let tr':S.TracedAtW (cP B [C]) t cls a0 rawInt[X.env.locals]:=(oe,vs,T,oT,ts,(st t nC[d.2.1]).trans q1,hc,dt,v1,nh nT,nTe,(st T nC[nT]).trans qT,dT,t3);let ff':S.FunFrames (cP B [C]) X.stack:=bf ▸ Afb (λL ob f h=>(nh f,(st L nC[f]).trans h)) d.2.2.1;unfold PySem.passOn;refine aA (dG (s:={ Q with heap:=S }) ((st t nC[d.2.1]).trans q1) dt v1 ?_)
  rw[dm (show ¬ ((bI T==gD)=t8) from by simp)]
  refine aA (Aq8 (s:={ Q with heap:=S }) (o:=o) j.frame (λb ob z=>(st b (Z z).2).trans (d.1 b ob (Z z).1)) ff' tr' (λn od z=>?_) λg kg fg tg og smg=>uN ?_)
  .let(oe',vs',c1,c2):=ox4 n od z;exact(oe',vs',(st t nC[d.2.1]).trans c1,c2)
  let k:∀{b:aG} {ob:tu},B.get? b=sr ob->b≠C->g.get? b=sr ob:=λz n=>kg _ _ (put z n);let frm:∀{b:aG} {ob:tu},Q.heap.get? b=sr ob->b∈frs X.stack->∃sl,g.get? b=sr { ob with slots:=sl }:=λ{b ob} z hb=>by
   let(_,o',z',nf):=fl.2.2.1.mem hb;rw[z] at z';cases z';let(sl,f):=sm4 b ob z nf;let h:=(st b nC[(fl.2.2.1.mem hb).1]).trans f;let(sl',U):=smg b _ h nf;exact(sl',U)
  let I:∀{b:aG} {ob:tu},X.s₀.heap.get? b=sr ob->b∉fp:=λ{b ob} z hb=>by
   rcases(hch b hb).1 with w|w
   .rw[hex] at w;cases w
   .exact absurd[aO aV[z] w][eQ _]
  let N:∀b,b∉X.ex:=λb z=>by rw[hex] at z;cases z
  let J:Inv X aa σ H5 { Q with heap:=g }:=by
   refine P.call' (ch:=fp) F.os.trans[i.os] (λb ob z n hb H=>?_,λb ob z n hb H=>?_,λb ob z n H=>?_,λb ob z H=>?_,λb xs z=>F.un.tups b xs (i.base.tups b xs z),λb ob u z=>F.un.frzs b ob u (i.base.frzs b ob u z),λb ps z=>?_) (λa u z=>?_) F.bare hch
   .exact k[k1 b ob (i.base.keep b ob z n hb H) (i.base.free b ob z n H) hb][l b ob z]
   .let(sl,f):=i.base.slot b ob z n hb H;let(sl2,h):=F.un.slot b _ f (i.base.free b ob z n H) hb ()
    let(sl3,U):=frm h hb;exact(sl3,U)
   .let(o',f):=i.base.there b ob z H;exact F.un.free b o' f (i.base.free b ob z n H) ()
   .by_cases hb:b∈frs X.stack
    .let(_,o'',h,_):=fl.2.2.1.mem hb;let(sl,U):=frm h hb;exact(_,U)
    .let(o',f):=i.base.there b ob z H;let(o'',h):=kE b o' f hb;exact(o'',k h (l b ob z))
   .let(m1,e1):=i.base.tbls b ps z;let(m2,e2):=F.un.tbls b _ e1;exact(m1 ++ m2,by rw[e2,vZ])
   .refine(F.hok a u z).stay (λb v hb w=>?_) (λuw w=>w) λuw uw w=>w;rcases hb with rfl|hb
    .exact k (k2 b u v z w) (by rintro rfl;rw[H5C] at z;cases z)
    .exact k[k2 b _ v hb w][by grind]
  refine hp aa σ H5 _ t cls o J F.fre ?_ (_,a0,_,kg,nh d.2.1,fg,tg,λb ob z n hb=>?_,λb ob z hb=>?_,λa u ob z w=>?_) og q
  .cases z:X.s₀.heap.get? t with
   |none=>rfl
   |some ob=>
    let(o1,f):=P.base.there t ob z N[t];let(o2,h):=i.base.there t o1 f I[z];rw[F.new] at h;cases h
  .let f:=P.base.keep b ob z n hb N[b];let n1:=P.base.free b ob z n N[b];let hb':=P.notStk z hb;exact put[k1 b ob (i.base.keep b ob f n1 hb' I[z]) (i.base.free b ob f n1 I[z]) hb'][l b ob f]
  .let(o1,f):=P.base.there b ob z N[b];let(o2,h):=i.base.there b o1 f I[z];let(o3,U):=kE b o2 h (P.notStk z hb);exact(o3,put U (l b o1 f))
  .let(o1,f):=(F.hok a u z).there;let h:=k2 a u o1 z f;let na:a≠C:=by grind
   let w:g.get? a=sr ob:=w;rw[k h na] at w;cases w;exact put h na
 cases use <;> exact post
def Abm{cap:lg Nat}(hX:(∀c o H,¬ E σ c o H)\/(X.stack=X.env::X.outer/\X.env.frame=sr X.env.locals/\X.ex=[]/\Xl X E))(hc:X.calm=t8)(hE:X.env.scope=es)(hi:PI X tg S wi)(hg:∀C s H ex,PG (X.comp scope own cap C s H ex) tg g)(ht:∀C s H ex,PTs (X.comp scope own cap C s H ex) ifs tt)(he:∀C s H ex xe,Cm[CXo X.prog X.w][X.compX scope own cap C s H ex xe][λuw=>E σ]->PE (X.compX scope own cap C s H ex xe) elt te)(hcap:∀j∈cap,∃x,X.N[j]?=sr x/\scope.names.lookup x=sr .free)(au:scope.kind=.function:=by rfl)(ak:∀y∈scope.names,y.2≠.cell:=by decide)(aq:∀y∈scope.names,y.2=.local->scope.names.lookup y.1=sr .local:=by decide)(hfree':∀y∈scope.names,y.2=.free->(es.names.lookup y.1=sr .cell\/es.names.lookup y.1=sr .free):=by decide +kernel)(hs:∀x,foldedSetIterable S X.env x=pure x:=by intro _;rfl)(I:Inv X aa σ H s)(h:Aic wi g tt te own cap σ H Q)(fin:∀(D C:aG)(s6:aN)(H5:Hp)(m:t6->o9 aD),(∀h',gM C s6.heap h'->Inv X aa σ H5 { s6 with heap:=h' })->s6.heap.Ns C m->Ad3 X aa H5 C->Q .ref[D] H5->
   compPost (model X.prog X.w) X.A X.xe use Q' .ref[D] C .ok[.next] s6):
  wpAny (model X.prog X.w) X.A (comprehension (.ListComp elt [(tg,S,ifs,0)] scope pos) scope X.env p0 newList[[]] t7 (eval S X.env) use) Q' X.xe s:=by
 subst hE;let az:∀y∈scope.names,y.2=.free->(X.env.kindOf y.1=sr .cell\/X.env.kindOf y.1=sr .free):=hfree';let hfr:∀x∈scope.names,x.2=.free->∃c,X.env.cells.lookup x.1=sr c:=λx hx hk=>I.ok.has x.1 (az x hx hk);refine wpAny_comprehension_free (use:=use) rfl hs Afa[hfr] au aq (thn[hi aa s σ H _ I h] λv s1 h1=>thn h1 λitv k h2=>?_);let(it,L,tn,J,H2,rfl,I2,T,st2,f2,q):=h2;let hD2:H2 k.heap.objs.size=sy:=I2.hok.fresh aM[_];let(W,(m0,w0),turn):=q k.heap.objs.size hD2;refine eO ?_;let l:=I2.lnew (ys:=[]) (its:=[]) (t':=k.toks) .nil dM[_];generalize hs3:({ k with heap:=k.heap.push { cls:=.type "list",data:=.seq ([]:lg aD).toArray } }:aN)=t at l ⊢
 let fp3:∀b∈L,∃o,t.heap.get? b=sr o/\∀v,o.data≠.cell v:=λb hb=>by
  let(o,e,d):=T.obj _ _ st2 b hb;exact(o,by rw[<-hs3];exact aC _ e,d)
 let st3:tn 0 t.heap:=T.keep _ _ _ st2 λb uw o e=>by rw[<-hs3];exact aC _ e
 let hDl:k.heap.objs.size < t.heap.objs.size:=by rw[<-hs3];simp[fP]
 let fpD:∀b∈L,b≠k.heap.objs.size:=λb hb z=>by
  let(o,e,_):=T.obj _ _ st2 b hb;exact absurd aV[e] (by rw[z];exact eQ _)
 refine uO ak (by intro y hy;simp at hy) (λh₁ Y U=>?_) au
 generalize hC:t.heap.objs.size=C at Y U hDl ⊢
 let old:∀b o,t.heap.get? b=sr o->h₁.get? b=sr o:=λb o e=>U.extBut b o (by rw[<-hC];exact bM aV[e]) (aC _ e)
 let ltC:∀{b:aG} {o:tu},t.heap.get? b=sr o->b≠C:=λe=>by rw[<-hC];exact bM aV[e]
 let cellIn:∀x c,(Gi X.env.cells scope.names []).lookup x=sr c->X.env.cells.lookup x=sr c:=λx c e=>by
  rcases Xm scope.names [] x c hfr e with z|z
  .simp at z
  .exact z
 obtain⟨xe,hxe⟩:∃xe,xe=notedBy[model X.prog X.w][X.A][compEnvC scope (Gi X.env.cells scope.names []) C X.env] λx s'=>compPost (model X.prog X.w) X.A X.xe use Q' .ref[k.heap.objs.size] C .error[x] s':=(_,rfl)
 let f:∀b∈L,Ad3 X aa (upd H2 k.heap.objs.size .lst[[]]) b:=λb hb=>(by rw[Ah[fpD b hb]];exact(f2 b hb).1,(f2 b hb).2)
 let I4:Inv (X.compX scope own cap C t (upd H2 k.heap.objs.size .lst[[]]) L xe) [] (Atz own cap σ) (upd H2 k.heap.objs.size .lst[[]]) { t with heap:=h₁,toks:=t.toks+([]:lg[t6×aD]).length }:=by
  refine((I.ok.mod,au,I.ok.glob,I.ok.blt,oM hC,λx y c h1 h2=>I.ok.inj x y c (cellIn x c h1) (cellIn y c h2),λx hx=>Pb _ _ x (Aj5 ak hx),λx c z=>absurd z (by show ¬ (t7=t8);decide),
   I.ok.hd,I.ok.frames,.inl rfl,λb hb=>(?_,λx c e=>(f b hb).2.2.2.2.1 x c (cellIn x c e)),l.bs,aF l.ok.bsz l.sz,λb o e hb=>?_,λb hb z=>?_,l.stack,l.stkFree),
   rfl,l.bare,Un.kept old,(_,Y,λi x v O P e3=>?_),λx c e=>?_,?_,λx c e=>l.freeC x c (cellIn x c e),λp hp=>absurd (show p∈([]:lg[aG×tu]) ++ [] from hp) (),l.hok.kept old,?_)
  .let(o,e,_):=fp3 b hb;exact ltC e
  .rcases(f b hb).2.2.2.1 with z|z
   .exact I.ok.noex b o e z
   .exact absurd aO[aV e][aF I.ok.bsz z] eQ[_]
  .exact(bH.mp[l.stkSub b z]).elim (f b hb).2.1 (f b hb).2.2.1
  .
   let hlen:(bV own.length (sy:o9 V)).length=own.length:=fB;by_cases hi:i < own.length
   .let P:(bV own.length (sy:o9 V) ++ cap.map λj=>σ.getD j sy)[i]?=sr sr[v]:=P;rw[aW (by rw[hlen];exact hi),lB] at P
    split at P <;> cases P
   .let P:(bV own.length (sy:o9 V) ++ cap.map λj=>σ.getD j sy)[i]?=sr sr[v]:=P;let O:(own ++ cap.map λj=>X.N.getD j "")[i]?=sr x:=O;rw[bA (by rw[hlen];omega),bJ,hlen] at P
    rw[bA (),bJ] at O
    cases ej:cap[i - own.length]? with
    |none=>rw[ej] at O;cases O
    |some j=>
     rw[ej] at O P;let(y,hy,hf):=hcap j gG[ej];let O:X.N.getD j ""=x:=cA O;let P:σ.getD j sy=sr v:=cA P;rw[bL,hy] at O;let O:y=x:=O;subst O;let e2':σ[j]?=sr sr[v]:=by
      rw[bL] at P;cases z:σ[j]? with
      |none=>rw[z] at P;cases P
      |some o=>rw[z] at P;exact congrArg sr P
     let hmem:(u6 y cJ)∈scope.names:=by
      exact gP hf
     let(m,hn,hl):=l.loc;let hv:Vis X.env.scope y:=.inr[az _ hmem rfl];let(u,ru,lk):=hl j y v hy e2' hv;refine(u,ru,.inr (Aj6 hf,?_));rcases lk with ⟨k1,_⟩|⟨_,c,hcc,hz⟩
     .rcases az _ hmem rfl with k2|k2 <;> (let k2:X.env.kindOf y=_:=k2;rw[k1] at k2;cases k2)
     .let(c',hc'):=Pb (cells:=X.env.cells) scope.names [] y hmem;let ec:c=c':=cA hcc.symm.trans[cellIn y c' hc'];rw[<-ec] at hc';let(oc,ho,hd):=hz;exact(c,hc',oc,old c oc ho,hd)
  .let(v,o,ho,hd):=l.cell x c (cellIn x c e);exact(v,o,old c o ho,hd)
  .show upd H2 k.heap.objs.size .lst[[]] C=sy;rw[<-hC];exact l.hok.fresh aM[_]
  .show (bV own.length (sy:o9 V) ++ cap.map λj=>σ.getD j sy).length=(own ++ cap.map λj=>X.N.getD j "").length;simp
 let fpC:∀{G:Hp},(∀b∈L,G b=sy)->∀b∈L,Ad3 (X.compX scope own cap C t (upd H2 k.heap.objs.size .lst[[]]) L xe) [] G b:=λhn b hb=>
  (hn b hb,(by let(o,e,_):=fp3 b hb;exact ltC e),λz=>(bH.mp[l.stkSub b z]).elim (f b hb).2.1 (f b hb).2.2.1,.inl hb,λx c e=>(f b hb).2.2.2.2.1 x c (cellIn x c e),λp hp=>absurd (show p∈([]:lg[aG×tu]) ++ [] from hp) ())
 let hps:Cm[CXo X.prog X.w][X.compX scope own cap C t (upd H2 k.heap.objs.size .lst[[]]) L xe] λuw=>E σ:=by
  intro pins1 σ1 H1 s1 e s5 I1 hcx;rcases hX with hX|⟨bf,hfs,hex,hp⟩
  .let(_,_,_,_,_,_,_,q):=hcx;exact(hX _ _ _ q).elim
  exact Apg bf hfs hex hp l I1 hcx (λb hb=>((f b hb).2.2.2.1,(f b hb).2.1,(f b hb).2.2.2.2.1,(f b hb).2.2.2.2.2)) (λb o e=>ltC e) hxe
 let loop:codeAny (model X.prog X.w) X.A .compLoop[.ListComp elt [(tg,S,ifs,0)] scope pos][0][.ref it][.ref k.heap.objs.size][compEnvC scope (Gi X.env.cells scope.names []) C X.env]
   (compPost (model X.prog X.w) X.A X.xe use Q' .ref[k.heap.objs.size] C) { t with heap:=h₁,toks:=t.toks+([]:lg[t6×aD]).length }:=by
  refine Aj8 (N:=xe) (λn s'=>∃i acc σ' G,Inv (X.compX scope own cap C t (upd H2 k.heap.objs.size .lst[[]]) L xe) [] σ' G s'/\tn i s'.heap/\(∀b∈L,G b=sy)/\G k.heap.objs.size=sr .lst[acc]/\W i n acc σ' G) (λe s h=>by rw[hxe] at h;exact h) ?_ m0
   (0,[],_,_,I4,T.keep _ _ _ st3 λb uw o e=>old b o e,λb hb=>(f b hb).1,An,w0)
  rintro n s5 ⟨i,acc,σ5,H5,I5,st5,fr5,hD5,w5⟩;rcases turn i n acc σ5 H5 w5 hD5 with ⟨stop,qn⟩|⟨go,step⟩
  .refine thn[T.done (X.compX scope own cap C t (upd H2 k.heap.objs.size .lst[[]]) L xe) rfl rfl rfl hc i [] s5 σ5 H5 _ I5 fpC[fr5] st5 stop] λr s6 ⟨hr,I6⟩=>?_;subst hr;let(m,hn,_):=id I6.loc;let hCs:X.s₀.heap.objs.size<=C:=by rw[<-hC];exact l.sz
   let ltS:∀{b:aG} {o:tu},t.heap.get? b=sr o->b≠C:=ltC;refine fin _ C s6 H5 m (λh' hsb=>?_) hn (I6.free,?_,?_,.inr hCs,?_,?_) qn
   rotate_left
   .let(_,(o,_,_,ho,_),_):=l.loc;exact(ltS ho).symm
   .intro z;let(o',O):=l.base.there C _ (l.ok.funs.mem z).2.choose_spec.1 (λw=>l.ok.exfs C w z)
    exact ltS O rfl
   .intro x c e;let(_,o,ho,_):=l.cell x c e;exact ltS ho
   .intro p hp;exact ltS (l.pin p hp).1
   let neC:∀{b:aG} {o:tu},t.heap.get? b=sr o->b≠C:=ltC;let B:=I6.base;refine l.call' (s':={ s6 with heap:=h' }) (ch:=L) I6.os (λb o e n hb hx=>?_,λb o e n hb hx=>?_,B.free,λb o e hx=>?_,B.tups,B.frzs,B.tbls) (λa u e=>?_) I6.bare λb hb=>((f b hb).2.2.2.1,(f b hb).2.1,(f b hb).2.2.2.2.1,(f b hb).2.2.2.2.2)
   .exact(hsb.2 b neC[e]).trans (B.keep b o e n hb hx)
   .let(sl,O):=B.slot b o e n hb hx;exact(sl,(hsb.2 b neC[e]).trans O)
   .let(o',O):=B.there b o e hx;exact(o',(hsb.2 b neC[e]).trans O)
   .refine(I6.hok a u e).stay (λb v hb z=>(hsb.2 b ?_).trans z) (λuw z=>z) λuw uw z=>z;rintro rfl;let f0:H5 b=sy:=I6.free;rcases hb with rfl|hb
    .rw[f0] at e;cases e
    .rw[f0] at hb;cases hb
  .refine thn[T.item (X.compX scope own cap C t (upd H2 k.heap.objs.size .lst[[]]) L xe) rfl rfl rfl hc i [] s5 σ5 H5 _ I5 fpC[fr5] st5 go] λr s6 ⟨u,hr,h6⟩=>?_;subst hr;refine thn h6 λ_ s7 ⟨x,H7,I7,r7,y7,st7,fr7⟩=>?_;let I7':=I7.pinned[fpC fr7][T.obj _ _ st7];refine thn[PG.nox (hg _ _ _ _) _ s7 σ5 H7 x u _ I7' r7 (step x H7 y7)] λ_ s8 ⟨σ8,H8,I8,q8⟩=>?_;refine thn[PTs.nox (ht _ _ _ _) _ s8 σ8 H8 _ I8 q8] λb s9 ⟨H9,I9,q9⟩=>?_;let again:∀{s':aN} {G:Hp} {Z:lg V} {m':Nat},Inv (X.compX scope own cap C t (upd H2 k.heap.objs.size .lst[[]]) L xe) ([] ++ Ae0 L s7.heap) σ8 G s'->G k.heap.objs.size=sr .lst[Z]->m' < n->W (i+1) m' Z σ8 G->
     ∃m,m < n/\∃i acc σ' G,Inv (X.compX scope own cap C t (upd H2 k.heap.objs.size .lst[[]]) L xe) [] σ' G s'/\tn i s'.heap/\(∀b∈L,G b=sy)/\G k.heap.objs.size=sr .lst[acc]/\W i m acc σ' G:=λ{s' G Z m'} J hD hm hw=>by
    refine(m',hm,i+1,Z,σ8,G,J.unpinned,T.keep _ _ _ st7 λb hb o e=>(J.pin[u6 b o][cN _ cN[_][Mg hb e]]).1,λb hb=>?_,hD,hw);let(o,e,d):=T.obj _ _ st7 b hb;exact(J.pin[u6 b o][cN _ cN[_][Mg hb e]]).2.1
   cases b with
   |false=>
    rw[dm cR] at q9 ⊢
    let(hD9,m',hm,hw):=q9;exact again I9 hD9 hm hw
   |true=>
    rw[di rfl] at q9 ⊢
    refine thn[he _ _ _ _ _ hps _ s9 σ8 H9 _ I9 q9] λuy s10 ⟨y,H10,I10,r10,hD10,hl10,m',hm,hw⟩=>?_;refine thn (Ah6 (X:=X.compX scope own cap C t (upd H2 k.heap.objs.size .lst[[]]) L xe) _ s10 σ8 H10 .ref[k.heap.objs.size] [y] .ref[k.heap.objs.size] [uy]
     (λuw G=>G=upd H10 k.heap.objs.size .lst[acc ++ [y]]) I10 rfl (.cons r10 .nil) (_,acc,y,rfl,rfl,hD10,hl10,rfl)) λ_ s11 ⟨_,H11,I11,_,e11⟩=>?_
    subst e11;exact again I11 An hm hw
 exact codeAny_compStart_list loop (T.self _ 0 _ _ _ (T.keep _ _ _ st3 λb uw o e=>old b o e) loop)
def Bic(wi:TI)(g:TG)(tt:TT)(te:(St->XK)->TE)(E:St->XK)(own:lg t6)(cap:lg Nat):TE:=λσ H Q=>wi σ H λJ H1=>∀D,H1 D=sy->Aib J g tt (te λuw=>E σ) D (Atz own cap σ) H1 Q
def Bb9{cap:lg Nat}(A:X.calm=t8)(B:X.env.scope=l)(hi:PI X k c o)(v:∀C s H ex,PG (X.comp scope own cap C s H ex) k g)(t:∀C s H ex,PTs (X.comp scope own cap C s H ex) e p)(w:∀C s H ex,PE (X.comp scope own cap C s H ex) i q)(d:∀j∈cap,∃x,X.N[j]?=sr x/\scope.names.lookup x=sr .free)(G:scope.kind=.function:=by rfl)(O:∀y∈scope.names,y.2≠.cell:=by decide)(L:∀y∈scope.names,y.2=.local->scope.names.lookup y.1=sr .local:=by decide)(a:∀y∈scope.names,y.2=.free->(l.names.lookup y.1=sr .cell\/l.names.lookup y.1=sr .free):=by decide +kernel)(hs:∀x,foldedSetIterable c X.env x=pure x:=by intro _;rfl):
  PE[X][.ListComp i [(k,c,e,0)] scope pos][Aic o g p q own cap]:=(λY s T H Q I h=>Abm (E:=λb b b b=>False) (.inl λb b b z=>z) A B hi v t (λC s H ex xe b=>PE.nox[w C s H ex]) d G O L a hs I h λD C U S m J u b qn=>(m,u,λF f=>(.ref D,S,J F f,rfl,qn)))
def Bca{i:Nat}{cap:lg Nat}(hc:X.calm=t8)(hE:X.env.scope=es)(hi:PI X L d wi)(hg:∀C s H ex,PG (X.comp scope own cap C s H ex) L g)(ht:∀C s H ex,PTs (X.comp scope own cap C s H ex) w tt)(he:∀C s H ex,PE (X.comp scope own cap C s H ex) F te)(B:∀j∈cap,∃x,X.N[j]?=sr x/\scope.names.lookup x=sr .free)(au:scope.kind=.function)(ak:∀y∈scope.names,y.2≠.cell)(aq:∀y∈scope.names,y.2=.local->scope.names.lookup y.1=sr .local)(f:∀y∈scope.names,y.2=.free->(es.names.lookup y.1=sr .cell\/es.names.lookup y.1=sr .free))(hs:∀x,foldedSetIterable d X.env x=pure x)(hy:PG X (.Name y py) Xj[i])(Q:swapsWith (.ListComp F [(L,d,w,0)] scope P) sr[.Name y py] l.line X.env=pure t8):
  PS X .Assign[[.Name y py]][.ListComp F [(L,d,w,0)] scope P][l] Bhn[Aic wi g tt te own cap][Xj i]:=by
 intro aa s σ H D I h;rw[exec_Assign_Name_used _ _ _ _ Q];refine aA iM[aA[?_]];refine aA (cQ (Abm (Q':=λc s'=>SP X aa D .next s') (E:=λc c c c=>False) (.inl λc c c z=>z) hc hE hi hg ht (λC s H ex xe c=>PE.nox[he C s H ex]) B au ak aq f hs I h λD' C O H5 m J hn fp qn=>?_) (λc s' q=>aH aH[q]) λc c z=>z);let I6:Inv X aa σ H5 O:=J O.heap (rfl,λc c=>rfl);let(p,U,Y,A,S,rC):=id hn;let nc:∀v,p.data≠.cell v:=λv z=>by grind
 let I6p:=I6.pinned (fp:=[C]) (λb hb=>by obtain rfl:=aZ.mp hb;exact fp) (λb hb=>by obtain rfl:=aZ.mp hb;exact(p,A,nc))
 refine thn[hy _ O σ H5 .ref[D'] .ref[D'] _ I6p rfl qn] λ_ n ⟨σ7,H7,k,q7⟩=>?_;let pC:=k.pin[u6 C p][cN _ cN[_][Mg aZ.mpr[rfl] A]];let T:n.heap.get? C=sr p:=pC.1;let k:=k.unpinned;refine(m,(p,U,Y,T,S,rC),λh' e=>(σ7,H7,?_,q7));let t:∀{b:aG} {u:HO},H7 b=sr u->b≠C:=λq=>Bm q pC.2.1;refine k.step (s:=n) (g':=n.gens) (d':=n.drawn) (t':=n.toks) (h':=h') (ch:=[C]) (λb hb=>by obtain rfl:=aZ.mp hb;exact(fp.2.2.2.1,fp.2.1,fp.2.2.2.2.1,fp.2.2.2.2.2))
  (λb o c c hb q c=>(e.2 b (λz=>hb aZ.mpr[z])).trans q) (λb o c c hb q c=>(o.slots,(e.2 b (λz=>hb aZ.mpr[z])).trans q)) (λc c c c q=>q)
  (λb o hb q=>(o,(e.2 b (λz=>hb aZ.mpr[z])).trans q)) (λc c q=>q) (λc c c q=>q) (λb ps q=>(#[],lK ▸ q)) (λm' hm=>?_) (λa u q=>?_) k.bare
 .let(o,e1,e2,ho,r):=hm;exact(o,e1,e2,(e.2 _ (λz=>fp.2.1 z.symm)).trans ho,r)
 .refine(k.hok a u q).stay (λb v hb z=>(e.2 b ?_).trans z) (λc z=>z) λc c z=>z;rcases hb with rfl|hb
  .exact t q
  .exact t hb
mutual
inductive DV(H:Hp):V->mO->Prop
 |non:DV H .non .none
 |bl (b:Bool):DV H (.bl b) (.bool b)
 |int (i:Int):DV H (.int i) (.int i)
 |str (x:t6):DV H (.str x) (.str x)
 |lst {a:aG} {vs:List V} {ds:List mO}:H a=sr (.lst vs)->DVs H vs ds->DV H (.ref a) (.list ds)
 |tup {a:aG} {vs:List V} {ds:List mO}:H a=sr (.tup vs)->DVs H vs ds->DV H (.ref a) (.tuple ds)
 |dct {a:aG}:H a=sr (.dK [])->DV H (.ref a) (.dict [])
inductive DVs(H:Hp):List V->List mO->Prop
 |nil:DVs H [] []
 |cons {v:V} {d:mO} {vs:List V} {ds:List mO}:DV H v d->DVs H vs ds->DVs H (v::vs) (d::ds)
end
section
variable{X:Cx}{aa:lg (aG×tu)}{σ:St}{H:Hp}{s:aN}
mutual
theorem DV.reads(I:Inv X aa σ H s):∀{v:V} {d:mO} {u:aD},DV H v d->RelV v u->∃j,Reads s.heap u d j
 |_,_,_,.non,r=>by cases r;exact(_,.none)
 |_,_,_,.bl b,r=>by cases r;exact(_,.bool b)
 |_,_,_,.int i,r=>by let(t,rfl):=r;exact(_,.int i t)
 |_,_,_,.str x,r=>by let(t,rfl):=r;exact(_,.str x t)
 |_,_,_,.lst h q,r=>by
  cases r;let(_,g,n,a,e):=I.hok _ _ h;let(j,f):=DVs.reads I q a;exact(_,.list e rfl rfl (by simpa using f))
 |_,_,_,.tup h q,r=>by
  cases r;let(_,g,a,o,e,c,n,d):=I.hok _ _ h;let(j,f):=DVs.reads I q a;exact(_,.tuple e c d (by simpa using f))
 |_,_,_,.dct h,r=>by
  cases r;let(_,_,m,a,o,k,w,e,x,d,_,p,_):=I.hok _ _ h;cases a;let z:k.toList=[]:=by
   revert p;generalize k.toList=l;intro p;cases p;rfl
  exact(_,.dict e x.1 d (by rw[z];exact .nil) (by rw[z];exact .nil))
theorem DVs.reads(I:Inv X aa σ H s):∀{b:lg V} {e:lg mO} {c:lg aD},DVs H b e->Vals b c->∃f,ReadsAll s.heap c e f
 |_,_,_,.nil,.nil=>(_,.nil)
 |_,_,_,.cons h q,.cons r t=>by
  let(f,i):=DV.reads I h r;let(bs,g):=DVs.reads I q t;exact(_,.cons i g)
end
end
structure V0(K:aB)(C:aG):Prop where
 cls:(sG K C).isSome=t8
 ga:bZ K (.ref C) "__getattribute__"=sr (sr (.builtin "BaseException.__getattribute__"))
 gn:bZ K (.ref C) "__getattr__"=sr sy
 cl:bZ K (.ref C) "__class__"=sr (sr (.builtin "object.__class__"))
 mb:lY K C (.type "BaseException")=sr t8
 mo:lY K C (.type "object")=sr t8
section
variable{prog:bY}{w:dO}{A:eU}{E:aD->aN->Prop}{h:dD}{g:Array uL}{d:aBl}{t:Nat}{os:aBv}{a C:aG}{o:tu}{K:aB}
open PySem.W in
def Aph(i:K.In h)(j:V0 K C)(c:h.get? a=sr o)(e:o.cls=.ref C)(k:R .ok[.ret[.ref[C]]] (h,g,d,t,os)):
  codeAny (model prog w) A (.call .builtin["getset_descriptor.__get__"] ([.builtin "object.__class__",.ref a,.ref C],[])) R (h,g,d,t,os):=by
 let b:((h,g,d,t,os):aN).TypeIs .builtin["object.__class__"] "getset_descriptor":=pB;let f:Looks (model prog w) h (isSubtype .ref[C] .type[".".intercalate ("object.__class__".cutAt '.').dropLast]) t8:=by rw[F.owner_object_class];exact looks_mroIn i j.mo
 refine gH vU.plain F.entry_gs_get (vU.check _ _ _ _ _ _ _ _ b (F.args_gs_get _ _ _) ?_)
 repeat (any_goals (first|assumption|(with_reducible refine fK c ?_;rw[e])|with_reducible refine f.at ?_|wp_step))
 refine(lL _ (),iH F.entry_object_class ?_)
 repeat (any_goals (first|assumption|(with_reducible refine fK c ?_;rw[e])|wp_step))
open PySem.W in
def Xn(j:K.In h)(k:V0 K C)(b:h.get? a=sr o)(f:o.cls=.ref C)(c:Q u9 (h,g,d,t,os)):
  wpAny M A (checkBuiltinCall "BaseException.__getattribute__" ([.ref a,nameV],[])) Q E (h,g,d,t,os):=by
 let e:builtinKind "BaseException.__getattribute__"=sr .slot:=by decide +kernel
 let hsplit:splitId "BaseException.__getattribute__"=sr[u6 "BaseException" "__getattribute__"]:=by decide +kernel
 let i:Looks M h (isSubtype .ref[C] .type["BaseException"]) t8:=looks_mroIn j k.mb;let l:=F.args_bexc_ga .ref[a] nameV;simp only[checkBuiltinCall,e,hsplit];refine aA ?_
 .unfold isInstance
  repeat (first|(with_reducible refine fK b ?_;rw[f])|with_reducible refine i.at ?_|wp_step)
  exact c
open PySem.W in
def Aj9{tk:Tok}(e:K.In h)(f:V0 K C)(b:h.get? a=sr o)(c:o.cls=.ref C)(l:Q .done[.ret .ref[C]] (h,g,d,t,os)):
  wpAny (model prog w) A (jY.«object.__getattribute__» ([.ref a,.str "__class__" tk],[])) Q E (h,g,d,t,os):=by
 let i:((h,g,d,t,os):aN).TypeIs .builtin["object.__class__"] "getset_descriptor":=pB;let k:Looks[model prog w][h][typeLookup .ref[C] "__class__"][sr .builtin["object.__class__"]]:=looks_findIn e f.cl;let p:=pB;let n:=vU.lookup;let m:=F.slot_gs_set.lookup
 repeat (any_goals (first|assumption|(with_reducible refine fK b ?_;rw[c])|with_reducible refine k.at ?_|wp_step))
 refine Aph e f b c ?_
 repeat (any_goals (first|assumption|wp_step))
open PySem.W in
def At0{tk:Tok}{c b:Bool}{Q:aD->aN->Prop}(e:K.In h)(f:V0 K C)(j:h.get? a=sr o)(k:o.cls=.ref C)(s:Q .ref[C] (h,g,d,t,os)):
  wpAny (model prog w) A (getAttrBy .ref[a] (.str "__class__" tk) c b) Q E (h,g,d,t,os):=by
 let u:=oU.ga.bind .ref[a];let n:(b&&onTheHeap iQ["BaseException.__getattribute__"])=t7:=by cases b <;> rfl
 let i:(iQ "BaseException.__getattribute__"==iQ "object.__getattribute__")=t7:=by decide +kernel
 let m:(onTheHeap bI[C]&&iQ "BaseException.__getattribute__"==iQ "object.__getattribute__")=t7:=by rw[i];rfl
 let r:Looks[model prog w][h][typeLookup .ref[C] "__getattribute__"][sr .builtin["BaseException.__getattribute__"]]:=looks_findIn e f.ga;let q:Looks (model prog w) h (typeLookup .ref[C] "__getattr__") sy:=looks_findIn e f.gn
 repeat (any_goals (first|assumption|(with_reducible refine fK j ?_;rw[k])|(with_reducible first|refine r.at ?_|refine q.at ?_)|wp_step))
 refine gH oU.ga.plain zH (Xn e f j k (Aj9 e f j k ?_))
 repeat (any_goals (first|assumption|wp_step))
open PySem.W in
def Amc{Q:o9 aD->aN->Prop}(e:K.In h)(f:V0 K C)(b:h.get? a=sr o)(c:o.cls=.ref C)(i:Q sr[.ref[C]] (h,g,d,t+1,os)):
  wpAny (model prog w) A (getAttr? .ref[a] "__class__") Q E (h,g,d,t,os):=by
 unfold getAttr? getAttrBy?
 repeat (any_goals (first|assumption|with_reducible apply At0 e f b c|wp_step))
open PySem.W in
set_option tactic.hygienic true in
theorem Amd(r:V0 K C):KitX K .ref[a] .ref[C] (λh=>∃o x,h.get? a=sr o/\o.cls=.ref C/\o.data=.fields x) where
 ty:=λ_ _ _ ⟨o,_,h1,h2,_⟩=>h2 ▸ (Looks.ld h1).andThen .now
 it:=λu u X u=>by
  let(m,b):=nJ.mp r.cls;unfold clsIn at b;split at b
  .rename_i F B p c i;intro N J L H k q;unfold isType loadHead;exact aA[aAa k[_][_][X _ _ i] aH[q]]
  .cases b
 ne:=λh tp I y n G X f=>by
  let(m,b):=nJ.mp r.cls;refine jR.mpr λq=>?_;let e:C=tp:=aBa beq_iff_eq.mp[q];subst e;unfold clsIn at b;split at b
  .rename_i F B p c i;let z:=(X _ _ i).symm.trans f;cases z
  .cases b
 ca:=λ{_ _ _ _ _ s} X ⟨o,_,h1,h2,_⟩ k=>by let(h,g,d,t,os):=s;exact Amc X r h1 h2 k
end
inductive TyX(K:aB)(H:Hp):V->aD->Prop
 |of {x:V} {t:aD}:Abi K H x t->TyX K H x t
 |exc {a C:aG} {o:Option (Nat×Option aG)}:H a=sr (K7 a (.ref C) o)->V0 K C->TyX K H (.ref a) (.ref C)
section
variable{X:Cx}{aa:lg (aG×tu)}{σ:St}{H:Hp}{s:aN}
def Aq9{o:o9[Nat×o9 aG]}(I:Inv X aa σ H s)(e:H a=sr[K7 a .ref[C] o]):∃o b,s.heap.get? a=sr o/\o.cls=.ref C/\o.data=.fields b:=by
 let(p,_,_):=(I.hok a _ e);exact p.1
def Ad6:V->o9 aD
 |.ty n=>sr .type[n]
 |.ref a=>sr .ref[a]
 |_=>sy
def Ame(h:Ad6 c=sr a)(r:RelV c u):u=a:=by
 cases c <;> simp[Ad6] at h <;> subst h <;> exact r
end
def Its(x:t6):It:=(λi uw=>i < x.cps.size,λi H v H'=>H'=H/\∃c,x.cps[i]?=sr c/\v=.str ⟨#[c]⟩,λi uw=>i=x.cps.size)
theorem Amf{P:bY}{w:dO}{K:aB}{S:bW}(a:aG)(ty:String)(x:t6)(t:Tok)(p:["enumerate","zip","dict_itemiterator","dict_reverseitemiterator","odict_iterator","itertools.zip_longest","itertools.pairwise"].contains ty=t7)(W:∀A:eU,A.handled=sy->aDx P w A a [a] [a] x.cps.size SignAt[x] (λi h=>h.IsStrIter a ty x t i))(hself:∀(A:eU)(i:Nat)(s:aN)(Q:aD->aN->Prop)(E:aD->aN->Prop),s.heap.IsStrIter a ty x t i->Q .ref[a] s->wpAny (model P w) A pyIter[.ref[a]] Q E s):
  Turn P w K S Its[x] [a] a (λi h=>h.IsStrIter a ty x t i) where
 mem:=by simp
 obj:=λi h st b f=>by
  let e:b=a:=by simpa using f
  subst e;let(o,e,c,d):=st;exact(o,e,λv z=>by rw[d] at z;cases z)
 keep:=λi h l st k=>let ⟨o,e,r⟩:=st;(o,k a () o e,r)
 item:=by
  intro X B n hK y i O s N H E I hf st j;subst B n hK;let(L,J,Y,G,F,C):=hf a ()
  refine(W X.A I.ok.hd[y]).item i s _ _ j st λv l tk U g m=>?_;let(c,u,q,rfl):=U;let I1:Inv X O N H { s with heap:=l,toks:=tk }:=I.turned (λb o f e=>m b o (by simpa using f) e) L J G F C
  let(o,e,T,d):=id g;exact(_,rfl,Aq4 (s:={ s with heap:=l,toks:=tk }) e T d p (.str ⟨#[c]⟩,H,I1,(u,rfl),(rfl,c,q,rfl),g,λb f=>(hf b f).1))
 done:=by
  intro X B n hK y i O s N H E I hf st j;subst B n hK;let j:i=x.cps.size:=j;subst j;let(L,J,Y,G,F,C):=hf a ()
  refine(W X.A I.ok.hd[y]).done s _ _ st λl tk m=>(rfl,I.turned (λb o f e=>m b o (by simpa using f) e) L J G F C)
 self:=hself
def Bo9(ts:TE):TI:=λσ H R=>ts σ H λv H1=>∃x,v=.str x/\R Its[x] H1
def Bid{X:Cx}{p e:bW}{j:TE}(y:PE X e j):PI X p e Bo9[j]:=by
 intro m s i H R I h;refine thn[y m s i H _ I h] λv c ⟨z,H1,I1,r1,q1⟩=>?_;let(x,rfl,q):=q1;let(t,rfl):=r1;let n:∀o,Inv X m i H1 { c with heap:=c.heap.push o }:=λo=>I1.kept (t':=c.toks) λb u e=>aC _ e
 let l:∀b∈[c.heap.objs.size],_:=λb B=>by
  let e:b=c.heap.objs.size:=by simpa using B
  subst e;exact I1.fpOk aM[_] I1.hok.fresh[aM[_]]
 cases k:x.cps.all (· < 128)
 .refine wpAny_pyIter_wide k (c.heap.objs.size,[c.heap.objs.size],_,_,H1,rfl,n _,Amf _ "str_iterator" x t () (λA d=>Walks.strWide d _ x t) (λa a a a a st h=>wpAny_pyIter_striter_wide st h),(_,aR _ rfl,rfl,rfl),l,q)
 .refine wpAny_pyIter_ascii k (c.heap.objs.size,[c.heap.objs.size],_,_,H1,rfl,n _,Amf _ "str_ascii_iterator" x t () (λA d=>Walks.strAscii d _ x t) (λa a a a a st h=>wpAny_pyIter_striter_ascii st h),(_,aR _ rfl,rfl,rfl),l,q)
structure Awt(J:It)(xs:List V)(ok:Hp->Prop):Prop where
 go:∀i H,i < xs.length->ok H->J.go i H
 yld:∀i H x H',i < xs.length->J.yld i H x H'->ok H->H'=H/\xs[i]?=sr x
 stop:∀H,ok H->J.stop xs.length H
def Amg(S:Awt J xs ok)(N:H1 D=sy)(k:St->Prop)(E:k n)(p:V->Bool)(f:V->V)(L:xs.length<=sizeLine)(hok:∀acc,ok[upd H1 D .lst[acc]])(hs:∀(i:Nat)(x:V)(h:St)(acc:lg V)(A:St->V->Hp->Prop)(B:St->Hp->Prop),xs[i]?=sr x->k h->(∀a,k a->p x=t8->A a f[x] (upd H1 D .lst[acc]))->(∀a,k a->p x=t7->B a (upd H1 D .lst[acc]))->
   g x h (upd H1 D .lst[acc]) λa I=>v a I λb t=>if b=t8 then w a t λy G=>A a y G else B a t)(C:Q[.ref D][upd H1 D .lst[(xs.filter p).map f]]):
  Aib J g v w D n H1 Q:=by
 refine(λi m acc h H=>m=xs.length - i/\i<=xs.length/\k h/\acc=((xs.take i).filter p).map f/\H=upd H1 D .lst[acc],(xs.length,(),dM _,E,(),rfl),?_)
 rintro i m acc h H ⟨rfl,hi,z,l,rfl⟩ _;by_cases c:i < xs.length
 .refine .inr (S.go i _ c hok[_],λx r y=>?_);let(rfl,q):=S.yld i _ x r c y hok[_];let j:acc.length < sizeLine:=by
   grind
  refine hs i x h acc _ _ q z (λa o hp=>(An,j,xs.length - (i+1),(),rfl,c,o,?_,?_)) (λa o hp=>(An,xs.length - (i+1),(),rfl,c,o,?_,rfl))
  .rw[l,yM p xs i x q,di hp,dJ];rfl
  .rw[Bbp]
  .rw[l,yM p xs i x q,hp];simp
 .let e:i=xs.length:=by omega
  subst e;rw[pL] at l;subst l;exact .inl (S.stop _ hok[_],C)
def Bie(h:R t8 H):Aj7 σ H R:=h
def Amh(S:Awt J xs ok)(r:H1 D=sy)(d:St->Prop)(t:d e)(f:V->V)(p:xs.length<=sizeLine)(hok:∀acc,ok[upd H1 D .lst[acc]])(hs:∀(i:Nat)(x:V)(c:St)(acc:lg V)(A:St->V->Hp->Prop)(R:St->Hp->Prop),xs[i]?=sr x->d c->(∀a,d a->A a f[x] (upd H1 D .lst[acc]))->(∀a k,n a k (λy v=>A a y v)->R a k)->g x c (upd H1 D .lst[acc]) R)(w:Q[.ref D][upd H1 D .lst[xs.map[f]]]):Aib J g Aj7 n D e H1 Q:=by
 apply Amg S r d t _ f p hok (λi x c acc A B q j s l=>hs i x c acc A _ q j (λa o=>s a o rfl) λa k h=>Bie Apd[h])
 .rw[jZ.mpr[λl l=>rfl]];omega
section
variable{X:Cx}
theorem Aka:∀{b:lg t6} {c:lg aD},Vals b.map[V.str] c->pO c b
 |[],_,h=>by cases h;exact .nil
 |y::r,_,h=>by
  cases h with
  |cons e d=>
   let(t,rfl):=e;exact .cons y t Aka[d]
end
structure M4(K:aB)(mg:t6->Option aD)(x:t6)(st:cF)(ps:List t6)(f:aG)(fd:eN):Prop where
 fn:Fun K x x st f fd
 gl:mg x=sr (.ref f)
 bd:Binds K fd ps []
section
def Fun.okX{P:bY}{w:dO}{K:aB}{mg:t6->o9 aD}{base:dD}{i:Bool}{x qual:t6}{st:cF}{f:aG}{fd:eN}{N ps:lg t6}{k:Nat}{e:Sp}(F:Fun K x qual st f fd)(S:Ek N ps Ai[st])(len:∀c H Q E,e c H Q E->c.length=ps.length)(hbody:∀(a:aD)(A:eU)(outer:lg Env)(s:aN)(H:Hp)(c:lg V)(Q:VK)(E:XK),Fq k A.deeper[envOfC qual Ai[st] s.heap.objs.size f a] i->e c H Q E->
   ∃t,PSs (Abj (CXo P w) P w K mg base N qual Ai[st] f a A outer s H E i) Aw[st] t/\t { nx:=λu q=>Q .non q,rt:=Q } (start N c) H):Hl P w K mg base (CXo P w) (k+1) f fd ps e i:=by
 let(z,y,B,kV,o,v,C,a,ct,l,rfl,m,h):=F.ex;exact Bgp m h S len λA outer s H c Q E n g=>hbody a A outer s H c Q E n g
def Ara:Cm[CXo P w][X][λuw=>E0]:=λ_ _ _ _ _ _ _ ⟨_,_,_,_,_,_,_,z⟩=>z.elim
end
section
variable{prog:bY}{w:dO}{A:eU}{E:aD->aN->Prop}{s:aN}
def Bcb{T newId initId:String}{o p:jY}{a:lg aD}{k:lg[t6×aD]}{S:PySem.Spec}{Q Q₁:aD->aN->Prop}(i:TypeCalled T newId initId)(O:checkTypeCall T (a,k)=pure u9)(B:checkBuiltinCall newId (.type T::a,k)=pure u9)(z:entryFor table newId=sr o)(y:entryFor table initId=sr p)(g:aDy (o (.type T::a,k)) S)(h:S A.in1 (wants Q₁ E) s)(nx:∀obj b,Q₁ obj b->b.TypeIs obj T/\argsOk initId (obj::a,k)/\∃n,aDy (p (obj::a,k)) n/\n A.in1 wants[λr j=>r=.none/\Q obj j][E] b):
  wpAny (model prog w) A (call .type[T] a k) Q E s:=by
 let(c,tl,N):=i.mro;let L:=i.made;let J:=i.sub;let I:=i.notType;let H:=i.canCreate;refine jX[pZ (show wpAny _ _ (callAny .type[T] _) .. from aH (lL _ (),iH wX ?_))]
 rw[wG[uG T a k][units_type_call_type T a k]]
 repeat (any_goals (first|assumption|wp_step))
 refine gU[gH i.plain z rR[B][g prog w A.in1 _ s h]] λr b d=>?_
 match r,d with
 |.error e,d=>exact d
 |.ok .next,d=>exact d.elim
 |.ok .brk,d=>exact d.elim
 |.ok .cont,d=>exact d.elim
 |.ok (.ret obj),d=>
  let(x,v,n,u,t):=nx _ _ d;let G:=i.init.lookup;let F:=i.init.bind obj
  repeat (any_goals (first|assumption|wp_step))
  refine gU gH[i.init.plain][y][i.init.check _ _ _ _ _ _ _ _ x v (u prog w A.in1 _ b t)] λl j f=>?_
  match l,f with
  |.error e,f=>exact f
  |.ok .next,f=>exact f.elim
  |.ok .brk,f=>exact f.elim
  |.ok .cont,f=>exact f.elim
  |.ok (.ret r),f=>
   let(rfl,q):=f
   repeat (any_goals (first|assumption|wp_step))
def Bif{T newId:String}{self a b:aD}(h:typeLookup .type[T] "__init__"=pure sr[.builtin["object.__init__"]])(g:Bind.madeBy .type[T]=pure sr[newId])(e:(sr newId != sr "object.__new__")=t8):
  aDy[jY.«object.__init__» ([self,a],[("start",b)])][λf R s=>s.TypeIs self T/\R .ok[.ret[.none]] s]:=by
 refine Meets.of_wp λprog w A R s ⟨hT,hq⟩=>?_
 repeat (any_goals (first|rfl|wp_step))
 exact(_,rfl,hq)
end
nonrec def Awu(x:t6)(t u:Tok):
  aDy (jY.«enumerate.__new__» ([.type "enumerate",.str x t],[("start",.int 1 u)])) (λe R s=>
   R (.ok (.ret (.ref (s.heap.push { cls:=.type strIterType[x],data:=.fields #[.str x t,.int 0 0] }).objs.size))) { s with heap:=(s.heap.push { cls:=.type strIterType[x],data:=.fields #[.str x t,.int 0 0] }).push { cls:=.type "enumerate",data:=.fields #[.none,.bool t7,.ref s.heap.objs.size,rawInt 1,.none,.none] } }):=(
 .of_wp λprog w A R s h=>by
  let(hp,g,d,tk,os):=s;let f:=sub_enumerate
  wp_walk
  refine wpAny_stack_any λst=>aH ?_;split
  .rename_i c _ _ _ _ _;cases (c==pH "enumerate") <;> (wp_walk using wY;exact(_,rfl,h))
  .wp_walk using wY
   exact(_,rfl,h))
section
variable{prog:bY}{w:dO}{A:eU}{E:aD->aN->Prop}{s:aN}
def Bcc{x:t6}{t u:Tok}{Q:aD->aN->Prop}(h:∀a:dD,IsEnum a (s.heap.objs.size+1) s.heap.objs.size 1 .none->a.IsStrIter s.heap.objs.size strIterType[x] x t 0->(∀b o,s.heap.get? b=sr o->a.get? b=sr o)->Q .ref[s.heap.objs.size+1] { s with heap:=a }):
  wpAny (model prog w) A (call .type["enumerate"] [.str x t] [("start",.int 1 u)]) Q E s:=by
 refine Bcb (Q₁:=λobj c=>c.TypeIs obj "enumerate"/\Q obj c) qX (rfl) (by rfl') F.entry_enumerate_new F.entry_object_init (Awu x t u) ?_
  λobj c d=>(d.1,rfl,_,Bif qX.init.lookup qX.made (),d.1,rfl,d.2)
 let f:(s.heap.push { cls:=.type strIterType[x],data:=.fields #[.str x t,.int 0 0] }).objs.size=s.heap.objs.size+1:=fP ..
 let e:=aR (s.heap.push { cls:=.type strIterType[x],data:=.fields #[.str x t,.int 0 0] }) (o:={ cls:=.type "enumerate",data:=.fields #[.none,.bool t7,.ref s.heap.objs.size,rawInt 1,.none,.none] }) rfl;rw[f] at e;show _/\_;rw[f];exact((_,e,rfl),h _ e (_,aC _ (aR _ rfl),rfl,rfl) λb o q=>aC _ (aC _ q))
def Bcd{M:Model}{g:Pos}{T:String}{x:Sem aD}{rest:lg[Bool×Sem aD]}{kws:lg[o9 t6×Sem aD]}{Q:aD->aN->Prop}(b:kws.all (·.1.isSome)=t8)(i:(((u6 t7 x)::rest).any (·.1)||kws.any (·.1.isNone))=t7)(h:wpAny M A (spliced ((u6 t7 x)::rest)) (λm j=>wpAny M A (evalAll (kws.map (·.2))) (λl e=>wpAny M A (call .type[T] m ((kws.filterMap (·.1)).zip l)) Q E e) E j) E s):
  wpAny M A (callWith g .type[T] [] ((u6 t7 x)::rest) kws) Q E s:=by
 unfold callWith;refine aA (fW (cQ (evalArgs_kw (Q:=λa e=>wpAny M A (call .type[T] a.pos a.kw) Q E e) b h) (λa j q=>aA iM[?_]) λf f q=>q));simp only[i];refine aA aH[?_];exact aA[cQ q (λr e n=>aA fW[wpAny_point[aH[n]]]) λf f q=>q]
end
theorem Awv{prog:bY}{w:dO}{A:eU}{b:aG}{d:lg aG}{n:Nat}{P:Nat->aD->Prop}{St:Nat->dD->Prop}(D:Draws prog w A b d n P St):
  Draws prog w A b d (n+1) (λi v=>P (i - 1) v) (λi h=>1<=i/\St (i - 1) h) where
 live:=λi h st=>D.live _ _ st.2
 frame:=λi h c st k=>(st.1,D.frame _ _ _ st.2 k)
 item:=λi s Q E hi st g=>by
  let(m,st):=st;refine D.item (i - 1) s Q E () st λx c tk j hs f=>g x c tk j ((),?_) f
  rw[show i+1 - 1=i - 1+1 by omega]
  exact hs
 done:=λs Q E st l=>D.done s Q E (by simpa using st.2) l
def Ite(x:t6):It:=(λi uw=>i < x.cps.size,λi H v H'=>∃c T,x.cps[i]?=sr c/\H T=sy/\v=.ref T/\H'=upd H T .tup[[.int[(i:Int)+1],.str ⟨#[c]⟩]],λi uw=>i=x.cps.size)
def At1{e g T:aG}{k:Int}{y:V}{u:aD}{tk i:Nat}(I:Inv X B C H s)(hf:∀b∈[e,g],Ad3 X B H b)(x:s.heap.objs.size<=T)(p:T∉[e,g])(a:∀b o,b∉[e,g]->s.heap.get? b=sr o->A.get? b=sr o)(t:wN A T #[.int k i,u])(E:RelV y u):
  Inv X B C (upd H T .tup[[.int k,y]]) { s with heap:=A,toks:=tk }/\∀b∈[e,g],upd H T .tup[[.int k,y]] b=sy:=by
 let L:=hf e ()
 let J:=hf g ()
 let f:H T=sy:=I.hok.fresh x;let w:∀b u,H b=sr u->b∉[e,g]:=λb u q c=>by rw[(hf b c).1] at q;cases q
 let l:∀{b:aG} {o:tu},s.heap.get? b=sr o->b≠T:=λq=>bM[aO aV[q] x];refine(?_,λb c=>?_)
 .refine I.step (s:=s) (g':=s.gens) (d':=s.drawn) (ch:=[e,g]) (λb c=>?_) (λb o h h j q h=>a b o j q) (λb o h h j q h=>(o.slots,a b o j q)) (λb o h q n=>(Ah l[q]) ▸ n)
   (λb o j q=>(o,a b o j q)) (λb xs q=>(Ah[Bm q f]) ▸ q) (λb o u q=>(Ah[Bm q f]) ▸ q) (λb ps q=>(#[],by rw[Ah[Bm q f],q];simp)) (λm G=>?_) (λb u q=>?_) I.bare
  .let z:=hf b c;exact(z.2.2.2.1,z.2.1,z.2.2.2.2.1,z.2.2.2.2.2)
  .let(o,N,O,F,r):=G;exact(o,N,O,a _ o (λc=>(hf _ c).2.1 rfl) F,r)
  .by_cases c:b=T
   .subst c;rw[An] at q;cases q;exact((show 2<=sizeLine by decide),_,.cons (i,rfl) (.cons E .nil),t)
   .rw[Ah c] at q;refine(I.hok b u q).stay (λd v hd z=>a d v ?_ z) (λd z=>(Ah[Bm z f]) ▸ z) λd xs z=>(Ah[Bm z f]) ▸ z;rcases hd with rfl|hd
    .exact w d u q
    .exact w d _ hd
 .rw[Ah (by rintro rfl;exact p c)]
  exact(hf b c).1
def Aww{e h:aG}{tk:Nat}(I:Inv X j k H s)(hf:∀b∈[e,h],Ad3 X j H b)(c:∀b o,b∉[e,h]->s.heap.get? b=sr o->t.get? b=sr o):Inv X j k H { s with heap:=t,toks:=tk }:=by
 let i:∀b u,H b=sr u->b∉[e,h]:=λb u q g=>by rw[(hf b g).1] at q;cases q
 refine I.step (g':=s.gens) (d':=s.drawn) (ch:=[e,h]) (λb g=>?_) (λb o a a f q a=>c b o f q) (λb o a a f q a=>(o.slots,c b o f q)) (λb o a q n=>n)
  (λb o f q=>(o,c b o f q)) (λb xs q=>q) (λb o u q=>q) (λb ps q=>(#[],by trivial)) (λm p=>?_) (λb u q=>?_) I.bare
 .let z:=hf b g;exact(z.2.2.2.1,z.2.1,z.2.2.2.2.1,z.2.2.2.2.2)
 .let(o,w,x,l,r):=p;exact(o,w,x,c _ o (λg=>(hf _ g).2.1 rfl) l,r)
 .refine(I.hok b u q).stay (λd v hd z=>c d v ?_ z) (λa z=>z) λa a z=>z;rcases hd with rfl|hd
  .exact i d u q
  .exact i d _ hd
theorem Aid{P:bY}{w:dO}{K:aB}{l:lg bW}{Z:Nat}{j:Pos}(e d:aG)(ty:String)(x:t6)(t:Tok)(f:e≠d)(D:∀A:eU,A.handled=sy->Draws P w A d [d] x.cps.size (λi v=>∃c u,x.cps[i]?=sr c/\v=.str ⟨#[c]⟩ u) (λi h=>h.IsStrIter d ty x t i)):
  Turn P w K (.Tuple l Z j) Ite[x] [e,d] e (λi h=>(∃a,IsEnum h e d ((i+1:Nat):Int) a)/\h.IsStrIter d ty x t i) where
 mem:=by simp
 obj:=λi h st b hb=>by
  let((a,g),o,B,L,hd):=st;rcases bH.mp hb with rfl|hb
  .exact(_,g,λv z=>by
    let z':yV _=uZ v:=z;cases z')
  .obtain rfl:b=d:=by simpa using hb
   exact(o,B,λv z=>by rw[hd] at z;cases z)
 keep:=λi h U st k=>by
  let((a,g),o,B,r):=st;exact((a,k e () _ g),o,k d () o B,r)
 item:=by
  intro X Q N hK L i aa s σ H E I hf st F;subst Q N hK;let W:=wZ (A:=X.A) Awv[D X.A.in1 (show X.A.in1.handled=sy from I.ok.hd L)] e f (by simpa using f) ()
  let((a,g),hs):=st;refine W.item (i+1) s _ _ Nat.succ_lt_succ[F] ((a,g),lC dM[_],by simpa using hs) λT vals U tk hv hT S hM O=>?_
  let(tk',xv,(c,u,m,rfl),rfl):=hv;let G:=W.apart _ _ _ hM;refine(_,rfl,W.go l Z j (i+1) T { s with heap:=U,toks:=tk } _ _ hM λh2 p C=>?_)
  let m:x.cps[i]?=sr c:=by simpa using m
  let(o,B,r):=S;let z:=At1 (y:=.str ⟨#[c]⟩) (k:=((i+1:Nat):Int)) (tk:=tk) I hf hT G (λb o hb q=>C b o hb (O b o hb q)) (o,C T o G B,r) (u,rfl);exact(.ref T,_,z.1,rfl,(c,T,m,I.hok.fresh hT,rfl,rfl),(p.1,by simpa using p.2.2),z.2)
 done:=by
  intro X Q N hK L i aa s σ H E I hf st F;subst Q N hK;let F:i=x.cps.size:=F;subst F;let W:=wZ (A:=X.A) Awv[D X.A.in1 (show X.A.in1.handled=sy from I.ok.hd L)] e f (by simpa using f) ()
  let((a,g),hs):=st;exact W.done s _ _ ((a,g),lC dM[_],by simpa using hs) λU tk O=>(rfl,Aww I hf O)
 self:=λJ J J J J st h=>by
  let((a,g),_):=st;exact xF g h
def Bl9(K:aB)(a:aG):It:=(λi H=>∃xs x,SqL K H a xs/\xs[i]?=sr x,λi H v H'=>∃x T,(∀xs,SqL K H a xs->xs[i]?=sr x)/\H T=sy/\v=.ref T/\H'=upd H T .tup[[.int (i:Int),x]],λi H=>∃xs,SqL K H a xs/\xs.length<=i)
def Bma(ts:TE):TI:=λσ H R=>ts σ H λv H1=>∃x,v=.str x/\R Ite[x] H1
def Bce{X:Cx}{m:lg bW}{kt j:Nat}{i p f d c:Pos}{e:bW}{J:TE}(hg:Gl X "enumerate")(hm:X.mg "enumerate"=sy)(he:PE X e J)(hs:starEach [e] X.env=[(t7,eval e X.env)]:=by rfl):
  PI[X][.Tuple m kt i][.Call (.Name "enumerate" p) [e] [(sr "start",.Constant .int[1] j d,c)] f][Bma J]:=by
 intro B s E H R I h;let w:PA X [e] (Aq5 J Bhy):=Xk he Ajw hs;let hk:PK X [(sr "start",.Constant .int[1] j d,c)] (Aq5 tC[.int[1]] Bhy):=Bbx Awc λG G G G H Q I h=>wpAny_evalAll_nil ([],H,I,.nil,h);refine eV[Abg I hg hm boot_enumerate ?_];let l:=w f B s E H (λF C=>match F with|[v]=>(∃x,v=.str x/\R Ite[x] C)|_=>False) I h
 rw[hs] at l ⊢
 refine Bcd rfl rfl (thn l λus Y ⟨F,C,I1,r,q⟩=>thn[hk f B Y E C (λO g=>O=[.int 1]/\g=C) I1 (rfl,rfl)] λws a ⟨O,g,I2,rz,n,e2⟩=>?_);subst n e2;let(z,rfl,u,rfl):=vals1 rz
 match F,q,r with
 |[v],⟨x,hx,q⟩,r=>
  subst hx;let(y,rfl,t,rfl):=vals1 r;refine Bcc λh' n o k1=>xF n ?_;let U:Inv X B E g { a with heap:=h' }:=I2.kept (t':=a.toks) k1
  let P:∀b∈[a.heap.objs.size+1,a.heap.objs.size],Ad3 X B g b:=λb hb=>by
   let k:a.heap.objs.size<=b:=by
    rcases bH.mp hb with rfl|hb
    .exact fM _
    .obtain rfl:b=_:=by simpa using hb
     exact aM _
   exact I2.fpOk k I2.hok.fresh[k]
  cases w:x.cps.all (· < 128)
  .rw[show strIterType x="str_iterator" from by unfold strIterType;rw[w];rfl] at o
   exact(_,[a.heap.objs.size+1,a.heap.objs.size],_,_,g,rfl,U,Aid _ _ "str_iterator" x t sX[_] (λA L=>Draws.strWide L _ x t),((_,n),o),P,q)
  .rw[show strIterType x="str_ascii_iterator" from by unfold strIterType;rw[w];rfl] at o
   exact(_,[a.heap.objs.size+1,a.heap.objs.size],_,_,g,rfl,U,Aid _ _ "str_ascii_iterator" x t sX[_] (λA L=>Draws.strAscii L _ x t),((_,n),o),P,q)
section
variable{X:Cx}
def Big:SlR X (λx lo hi H Q=>∃z,x=.str z/\z.length<=sizeLine/\Q .str[cO z lo hi] H):=by
 rintro p s e H x v g f lo hi m Q I n hs pl d ⟨z,rfl,o,q⟩;let(t,rfl):=n;refine("str",_,PySem.F.slot_str_getitem.lookup,aAe ..,?_);let a:∀(l u:o9[Int×Tok]),g=partValue l->f=partValue u->lo=l.map (·.1)->hi=u.map (·.1)->wpAny (model X.prog X.w) X.A getItem[.str z t][.ref m] (EP X p e Q) X.xe s:=by
  rintro l u rfl rfl rfl rfl;exact wpAny_getItem_str_slice (l:=l) (u:=u) (st:=sy) hs rfl (post_val_or_str (aF (xG z (l.map (·.1)) (u.map (·.1))) o,λh k=>(.str _,H,I.tok k,(h,rfl),q)))
 cases pl with
 |none=>cases d with
  |none=>exact a sy sy rfl rfl rfl rfl
  |int j b=>exact a sy sr[u6 j b] rfl rfl rfl rfl
 |int i c=>cases d with
  |none=>exact a sr[u6 i c] sy rfl rfl rfl rfl
  |int j b=>exact a sr[u6 i c] sr[u6 j b] rfl rfl rfl rfl
end
def Api(sc:iV)(x:t6):Bool:=match sc.names.lookup x with
 |some .local=>t8
 |some .cell=>t8
 |some .free=>t8
 |_=>t7
def Apj(sc:iV)(x:t6):Bool:=match sc.names.lookup x with
 |some .local=>t8
 |some .cell=>t8
 |_=>t7
def Afc(h:Api sc x=t8):Vis sc x:=by
 unfold Api at h;split at h
 .exact .inl ‹_›
 .exact .inr[.inl ‹_›]
 .exact .inr[.inr ‹_›]
 .cases h
def Awx(h:Apj sc x=t8):Loc sc x:=by
 unfold Apj at h;split at h
 .exact .inl ‹_›
 .exact .inr ‹_›
 .cases h
section
def At2(f:aB)(hK:X.K=f):Jm X .builtin["isinstance"] (λxs H Q=>∃x c d t b,xs=[x,c]/\TyX f H x t/\Ad6 c=sr d/\lA f t d=sr b/\Q .bl[b] H):=by
 subst hK;intro n s j H xs o Q I r h;let(x,c,d,t,b,rfl,ty,m,i,q):=h;let(u,v,rfl,g,l):=vals2 r;obtain rfl:=Ame m l;let a:∀tk,EP X n j Q .bool[b] { s with toks:=tk }:=λtk=>(.bl b,H,I.tok tk,rfl,q)
 cases ty with
 |of ty=>exact Atp I g ty i a
 |exc e k=>
  cases g;exact fQ Amd[k] I.kIn (Aq9 I e) i (λz=>nomatch z) a
end
structure WE(X:Cx)(e:bW)(t:TE):Prop where
 un:PE X e t
structure WT(X:Cx)(e:bW)(t:TT):Prop where
 un:PT X e t
structure WW(X:Cx)(e:bW)(t:TT):Prop where
 un:PW X e t
structure WA(X:Cx)(es:List bW)(t:TA):Prop where
 un:PA X es t
structure WS(X:Cx)(st:cF)(t:TS):Prop where
 un:PS X st t
structure WSs(X:Cx)(sts:List cF)(t:TS):Prop where
 un:PSs X sts t
structure WG(X:Cx)(e:bW)(t:TG):Prop where
 un:PG X e t
structure WI(X:Cx)(tg e:bW)(t:TI):Prop where
 un:PI X tg e t
structure WTs(X:Cx)(es:List bW)(t:TT):Prop where
 un:PTs X es t
structure WO(X:Cx)(e:Option bW)(t:TO):Prop where
 un:PO X e t
structure WPs(X:Cx)(pos:Pos)(ks:List (Option bW))(vs:List bW)(trs:List (TE×TE)):Prop where
 un:PPs X pos ks vs trs
section
variable{X:Cx}{x:t6}{pos pos' p aj cpos:Pos}{a b c e o k v:bW}{es rest:lg bW}{sts:lg cF}{st:cF}{ta tb tc te to tl:TE}{t:TA}{tA tB':TT}{u u':TS}
def kv(i:Nat)(hN:X.N[i]?=sr x:=by rfl')(g:Api X.env.scope x=t8:=by rfl')(hd:(x==("__debug__":t6))=t7:=by rfl')(d:(x==("__classdict__":t6))=t7:=by rfl'):
  WE X (.Name x pos) Bhk[i]:=(⟨Aez hN Afc[g] hd d⟩)
def Bgs{v:V}{u:aD}(hm:X.mg x=sr u)(r:RelV v u)(hg:X.env.kindOf x=sr .globalImplicit:=by rfl')(hd:(x==("__debug__":t6))=t7:=by rfl'):WE X (.Name x pos) tC[v]:=⟨λuw uw uw H uw I h=>Kv I hg hm (v,H,I,r,h) hd⟩
def kop(ho:OpR X binaryOp[op] r)(ha:WE X a ta)(hb:WE X b tb):WE[X][.BinOp a op b pos][tOp r ta tb]:=⟨λaa s σ H Q I h=>wpAny_BinOp[Bhr ha.un hb.un I h λv u s2 x y H2 I2 rx ry q=>ho aa s2 σ H2 x y v u Q I2 rx ry q]⟩
def Bpa(q:WE X a ta)(n:WE X (.BoolOp .And (b::rest) pos) tb):WE[X][.BoolOp .And (a::b::rest) pos][Blj ta tb]:=(⟨by
  intro g s f H Q I h;refine BoolOp_and[thn[q.un g s f H _ I h] λv l ⟨x,H1,I1,r1,d⟩=>?_];let(c,rfl,d):=d;cases r1;apply iB;cases c with
  |true=>exact n.un g l f H1 Q I1 d
  |false=>exact(.bl t7,H1,I1,rfl,d)⟩)
def Bpb(ha:WE X a ta):WE X (.BoolOp op [a] pos) ta:=⟨λaa s σ H Q I hw=>BoolOp_one[ha.un aa s σ H Q I hw]⟩
def knot(i:WE X a ta):WE X (.UnaryOp .Not a pos) Bll[ta]:=(⟨by
  intro j s f H Q I h;refine UnaryOp_[thn[i.un j s f H _ I h] λv n ⟨x,H1,I1,r1,d⟩=>?_];let(c,rfl,d):=d;cases r1;exact not_of[iB (.bl[!c],H1,I1,rfl,d)]⟩)
def kif(n:WT X c tA)(r:WE X a ta)(q:WE X b tb):WE[X][.IfExp c a b pos][tIf tA ta tb]:=(⟨by
  intro g s f H Q I h;refine wpAny_IfExp[thn[n.un g s f H _ I h] λd i ⟨H1,I1,q1⟩=>?_];cases d with
  |true=>exact r.un g i f H1 Q I1 q1
  |false=>exact q.un g i f H1 Q I1 q1⟩)
def kix(hr:IxR X r)(ha:WE X a ta)(hb:WE X b tb)(hs:Aed b:=by exact λuw uw=>rfl):WE[X][.Subscript a b pos][tOp r ta tb]:=⟨λaa s σ H Q I h=>Subscript_[Bhr ha.un hb.un I h λv u s2 x y H2 I2 rx ry q=>hr a b aa s2 σ H2 x y v u Q I2 rx ry q (hs ..)]⟩
def Bpc(h:WA X es t):WE X (.List es pos) Bo5[t]:=(⟨by
  intro m s i H Q I l;refine wpAny_List_spliced[thn[h.un pos m s i H _ I l] λj d ⟨xs,H1,I1,r,z,q⟩=>(r.length ▸ z,?_)];let hf:H1 d.heap.objs.size=sy:=I1.hok.fresh aM[_];refine(.ref d.heap.objs.size,upd H1 d.heap.objs.size .lst[xs],I1.laid (t':=d.toks) (λb u e=>aC _ e) aM[_] ?_,rfl,q _ hf);exact(z,j,0,r,aR _ rfl)⟩)
def Bpd{j:Nat}(h:WA X es t):WE X (.Tuple es j pos) Bo4[t]:=(⟨by
  intro n s i H Q I m;refine wpAny_Tuple_spliced[thn[h.un pos n s i H _ I m] λl d ⟨xs,H1,I1,r,z,q⟩=>(r.length ▸ z,?_)];let hf:H1 d.heap.objs.size=sy:=I1.hok.fresh aM[_];refine(.ref d.heap.objs.size,upd H1 d.heap.objs.size .tup[xs],I1.laid (t':=d.toks) (λb u e=>aC _ e) aM[_] ?_,rfl,q _ hf);exact(z,l,r,(_,aR _ rfl,rfl,_,rfl))⟩)
def kbm{T:String}{name:t6}{id:String}{r:V->lg V->Hp->VK->Prop}(pa:PlainAttrs T)(slot:Slot T name id)(j:typeOf .builtin[id]=pure .type["method_descriptor"])(L:MtR X id r)(J:WE X o to)(O:WA X (e::es) t)(U:attributeBase o name X.env (eval o X.env)=eval o X.env:=by rfl')(g:((backTo cpos (starEach (e::es) X.env)).all (λx=>!x.1)&&(backToKw cpos (keywordEach [] X.env)).all (λx=>x.1.isSome)&&decide[(e::es).length+([]:lg iC).length+(if ([]:lg iC).isEmpty then 0 else 1) < 30])=t8:=by rfl')(Y:(aj.endLine==cpos.line)=t8:=by rfl')(N:starEach (e::es) X.env=(u6 t7 (eval e X.env))::starEach es X.env:=by rfl')(G:(backTo cpos (starEach es X.env)).any (·.1)=t7:=by rfl'):WE[X][.Call (.Attribute o name aj) (e::es) [] cpos][tBM X.K T r to t]:=by
 exact⟨by
   intro l s i H Q I h;refine wpAny_Call_method_late U g Y rfl (thn[J.un l s i H _ I h] λv B ⟨x,H1,I1,r1,ty,q1⟩=>?_);let(S,P):=Bh3 I1 r1 ty;refine(T,id,pa,slot,j,S,P,?_);let n:=O.un cpos l B i H1 _ I1 q1;rw[N] at n ⊢
   refine tU[by trivial][pU ?_]
   exact thn n λz A ⟨vs,H2,I2,r2,q2⟩=>L l A i H2 x vs v z Q I2 r1 r2 q2⟩
def Bcf(h:WE X e te):WO X sr[e] Blx[te]:=(⟨by
  intro l s d H Q I j;rw[evalPart_some];refine thn[h.un l s d H _ I j] λu r ⟨x,H1,I1,r1,q1⟩=>?_;let(i,rfl,q):=q1;let(t,rfl):=r1;exact(sr i,H1,I1,.int i t,q)⟩)
def Bih{r:V->o9 Int->o9 Int->Hp->VK->Prop}{lo hi:o9 bW}{tl n:TO}{y:Pos}(O:SlR X r)(U:WE X e te)(P:WO X lo tl)(hu:WO X hi n):WE X .Subscript[e][.Slice lo hi sy y][pos] (tSl r te tl n):=(⟨by
  intro g s f H Q I h;refine Subscript_[thn[U.un g s f H _ I h] λv C ⟨x,H1,I1,r1,q1⟩=>?_];refine wpAny_Slice[thn[P.un g C f H1 _ I1 q1] λj B ⟨l,H2,I2,pl,q2⟩=>thn[hu.un g B f H2 _ I2 q2] λi d ⟨u,H3,I3,pu,q3⟩=>?_];rw[aBb];apply aH;let I4:Inv X g f H3 { d with heap:=d.heap.push { cls:=.type "slice",data:=.fields #[j,i,.none] } }:=I3.kept (t':=d.toks) λb ob q=>aC _ q
  let(T,id,Y,N,S):=O g { d with heap:=d.heap.push { cls:=.type "slice",data:=.fields #[j,i,.none] } } f H3 x v j i l u d.heap.objs.size Q I4 r1 (aDo ..) pl pu q3;show wpAny (model X.prog X.w) X.A (subscriptTail e (.Slice lo hi sy y) v .ref[d.heap.objs.size]) (EP X g f Q) X.xe { d with heap:=d.heap.push { cls:=.type "slice",data:=.fields #[j,i,.none] } }
  exact aAd (ops:=[.ref d.heap.objs.size,v]) N Y S (rfl)⟩)
def Bcg(E:WE X k ta)(B:WE X v tb)(C:WPs X pos A j f):WPs X pos (sr k::A) (v::j) ((u6 ta tb)::f):=(⟨λi s d H Q I h=>pairTrees_cons_walk (thn[E.un i s d H _ I h] λu m ⟨x,H1,I1,rx,q1⟩=>thn[B.un i m d H1 _ I1 q1] λS l ⟨y,H2,I2,ry,q2⟩=>
  thn[C.un i l d H2 _ I2 q2] λP T ⟨ps,H3,I3,rel,q3⟩=>((u6 x y)::ps,H3,I3,.cons (rx,ry) rel,q3))⟩)
def Bpe(q:WT X a tA)(n:WW X (.BoolOp .And (b::rest) pos) tB'):WW[X][.BoolOp .And (a::b::rest) pos][Bos tA tB']:=(⟨by
  intro l g s d H Q I h;refine isTrue_and[thn[q.un g s d H _ I h] λc m ⟨H1,I1,q1⟩=>?_];cases c with
  |true=>exact n.un l g m d H1 Q I1 q1
  |false=>exact(H1,I1,q1)⟩)
def tor(q:WT X a tA)(n:WW X (.BoolOp .Or (b::rest) pos) tB'):WW[X][.BoolOp .Or (a::b::rest) pos][tOr tA tB']:=(⟨by
  intro l g s d H Q I h;refine isTrue_or[thn[q.un g s d H _ I h] λc m ⟨H1,I1,q1⟩=>?_];cases c with
  |true=>exact(H1,I1,q1)
  |false=>exact n.un l g m d H1 Q I1 q1⟩)
def Bmb(f:WT X a tA):WW X (.BoolOp .And [a] pos) tA:=(⟨by
  intro i g s d H Q I h;refine isTrue_and[thn[f.un g s d H Q I h] λc j e=>?_];cases c with
  |true=>exact isTrue_and_nil e
  |false=>exact e⟩)
def Bpf(f:WT X a tA):WW X (.BoolOp .Or [a] pos) tA:=(⟨by
  intro i g s d H Q I h;refine isTrue_or[thn[f.un g s d H Q I h] λc j e=>?_];cases c with
  |false=>exact isTrue_or_nil e
  |true=>exact e⟩)
def tw(h:WW X a tA):WT X a tA:=⟨h.un _⟩
def kbi{id:String}{r:lg V->Hp->VK->Prop}(G:Jm X .builtin[id] r)(C:X.mg x=sy)(A:bootBuiltins x=sr .builtin[id])(J:WA X (e::es) t)(E:X.env.kindOf x=sr .globalImplicit:=by rfl')(B:decide[x=("__name__":t6)]=t7:=by rfl')(f:(x==("__debug__":t6))=t7:=by rfl')(F:starEach (e::es) X.env=(u6 t7 (eval e X.env))::starEach es X.env:=by rfl')(d:(backTo pos (starEach es X.env)).any (·.1)=t7:=by rfl'):
  WE[X][.Call (.Name x p) (e::es) [] pos][tCB r t]:=(⟨by
    intro l s i H Q I h;refine eV[Abg I E C A ?_ of_decide_eq_false[B] f];exact yN (thn[J.un pos l s i H _ I h] λq w ⟨vs,H1,I1,r1,q1⟩=>G l w i H1 vs q Q I1 r1 q1) F d⟩)
def Awy{i:Nat}(nd:decide X.N.Nodup=t8:=by rfl')(hi:X.N[i]?=sr x:=by rfl')(d:Apj X.env.scope x=t8:=by rfl')(hf:(X.fn x||decide[X.env.scope.names.lookup x=sr .local])=t8:=by rfl'):
  WG X (.Name x pos) Xj[i]:=(⟨λm s j H v u Q I r h=>wpAny_assign_Name[Aey I dg[nd] hi Awx[d] r (λl g=>(_,H,g,h)) (by simp_all)]⟩)
def Bch(n:X.mg "range"=sy)(y:WA X [a] t)(w:X.env.kindOf "range"=sr .globalImplicit:=by rfl')(hs:starEach [a] X.env=[(t7,eval a X.env)]:=by rfl'):WI X tg (.Call (.Name "range" p) [a] [] pos) Blp[t]:=(⟨by
  intro z s g H R I h;refine Call_[Abg I w n boot_range mG[thn[y.un pos z s g H _ I h] λC F ⟨vs,H1,I1,r1,d⟩=>?_][hs][rfl]];let(j,e,d,m,q):=d;subst e;cases r1 with
  |cons r i=>
   cases i;let(t,rfl):=r;exact call_range_1[Awe I1 () () d m (by simpa using q)]⟩)
def Bci:WTs X [] Aj7:=⟨λuw uw uw H uw I h=>wpAny_tests_nil (H,I,h)⟩
def Bii{r d A:bW}{i:lg bW}{scope:iV}{G:TI}{g:TG}{L:TT}{te:(St->XK)->TE}{E:St->XK}{own:lg t6}{cap:lg Nat}{sc:iV}(hX:X.stack=X.env::X.outer/\X.env.frame=sr X.env.locals/\X.ex=[]/\Xl X E)(hc:X.calm=t8)(hE:X.env.scope=sc)(hi:WI X A d G)(Y:∀C s H ex,WG (X.comp scope own cap C s H ex) A g)(S:∀C s H ex,WTs (X.comp scope own cap C s H ex) i L)(Z:∀C s H ex xe z,Cm[CXo X.prog X.w][X.compX scope own cap C s H ex xe][z]->WE (X.compX scope own cap C s H ex xe) r te[z])(n:cap.all[λj=>match X.N[j]? with|some x=>decide[scope.names.lookup x=sr .free]|none=>t7]=t8)(au:scope.kind=.function)(ak:scope.names.all[λy=>decide[y.2≠.cell]]=t8)(aq:scope.names.all[λy=>!decide (y.2=.local)||decide[scope.names.lookup y.1=sr .local]]=t8)(az:scope.names.all[λy=>!decide (y.2=.free)||(decide[sc.names.lookup y.1=sr .cell]||decide[sc.names.lookup y.1=sr .free])]=t8)(hs:∀x,foldedSetIterable d X.env x=pure x):
  WE[X][.ListComp r [(A,d,i,0)] scope pos][Bic G g L te E own cap]:=(
 ⟨by
   intro aa s O H Q I h;rw[eval_ListComp];exact Abm (use:=sy) (te:=te λP=>E O) .inr[hX] hc hE hi.un (λC s H ex=>(Y C s H ex).un) (λC s H ex=>(S C s H ex).un) (λC s H ex xe p=>(λC s H ex xe z p=>(Z C s H ex xe z p).un) C s H ex xe _ p) (by
     intro j U;let q:=bB.mp n j U;cases e:X.N[j]? with
     |none=>rw[e] at q;cases q
     |some x=>rw[e] at q;exact(x,rfl,dg q)) au (λy l=>dg[bB.mp ak y l]) (by
       intro y l F;let q:=bB.mp aq y l;rw[dj F] at q;exact dg q) (by
         intro y l F;let q:=bB.mp az y l;rw[dj F,pP,aBc,fV] at q;exact q.imp dg dg) hs I h λD C s6 H5 m J T P qn=>(m,T,λh' B=>(.ref D,H5,J h' B,rfl,qn))⟩)
def Bpg{i:Nat}(l:WE X e te)(nd:decide X.N.Nodup=t8:=by rfl')(hi:X.N[i]?=sr x:=by rfl')(j:Apj X.env.scope x=t8:=by rfl')(hs:swapsWith e sr[.Name x pos'] pos.line X.env=pure t7:=by rfl')(hf:X.fn x=t8:=by rfl'):WS[X][.Assign [.Name x pos'] e pos][Bhn te Xj[i]]:=(⟨by
    intro m s d H D I h;refine wpAny_Assign_Name (thn[l.un m s d H _ I h] λv A ⟨y,H1,I1,r1,q1⟩=>?_) hs;exact Aey I1 dg[nd] hi Awx[j] r1 (λz q=>(_,H1,q,q1)) .inl[hf]⟩)
def sif{tc:TT}{A B:lg cF}(q:WT X c tc)(w:WSs X A u)(r:WSs X B u'):WS[X][.If c A B pos][Bow tc u u']:=(⟨by
  intro g s f H D I h;refine wpAny_If[thn[q.un g s f H _ I h] λd i ⟨H1,I1,q1⟩=>?_];cases d with
  |true=>exact w.un g i f H1 D I1 q1
  |false=>exact r.un g i f H1 D I1 q1⟩)
def Bij(F:Vz X.K C)(G:X.mg x=sr .ref[C])(O:X.calm=t8)(Q:Raises X E)(P:WA X (e::es) t)(L:X.env.kindOf x=sr .globalImplicit:=by rfl')(hd:(x==("__debug__":t6))=t7:=by rfl')(l:starEach (e::es) X.env=(u6 t7 (eval e X.env))::starEach es X.env:=by rfl')(g:(backTo cpos (starEach es X.env)).any (·.1)=t7:=by rfl'):
  WS[X][.Raise sr[.Call (.Name x p) (e::es) [] cpos] sy pos][Bh9 t C E]:=(⟨by
    intro n s j H D I h;let(tl,N,nm,q,bs,hdct,sn,sub,ab,col,dd,k0,k1,k2,k3,k5,mN,S,hN,i,T):=Bb7 I.ok.mod.kin F;refine wpAny_Raise_call_subT (C:=C) (nm:=nm) (q:=q) (N:=N) (bs:=bs) (bm:=tl) (hdct:=hdct) (sn:=sn) (sub:=sub) (ab:=ab) (col:=col) (dd:=dd) (k0:=k0) (k1:=k1) (k2:=k2) (k3:=k3) (k5:=k5)
     fH (mN:=mN) T.hasType[fH.hasBase] I.ok.hd[O] (by rw[l];show (t7||(backTo cpos (starEach es X.env)).any (·.1))=t7;rw[g];rfl) i (Kv I L G (rfl,?_) hd)
    let d:=P.un cpos n s j H _ I h;rw[l] at d ⊢
    refine pU[cQ d (λz A U=>?_) λw w y=>y];let(vs,H2,f,r,J,o,B):=U;exact(rfl,r.length ▸ J,f.bk _ _ S,hN.keeps f.bk,T.keeps f.bk,λY e hmade=>Q n j H2 A e .ref[C] z Y o f hmade B)⟩)
end
open PySem.Builtin.SmallTypes in
structure Nx(P:bY)(w:dO)(i l:aG)(St:Nat->dD->Prop)(Sc:Array aD->dD->Prop):Prop where
 live:∀k h,St k h->∃o,h.get? i=sr o/\∀v,o.data≠.cell v
 keep:∀k h h',St k h->(∀o,h.get? i=sr o->h'.get? i=sr o)->St k h'
 src:∀xs h h',Sc xs h->(∀o,h.get? l=sr o->h'.get? l=sr o)->Sc xs h'
 item:∀(A:eU)(k:Nat)(s:aN)(xs:Array aD)(x:aD)(Q:aD->aN->Prop)(E:aD->aN->Prop),St k s.heap->Sc xs s.heap->xs[k]?=sr x->(∀h',St (k+1) h'->gM i s.heap h'->Q x { s with heap:=h' })->
  wpAny (model P w) A (nextOf (.ref i)) Q E s
 done:∀(A:eU)(k:Nat)(s:aN)(xs:Array aD)(Q:aD->aN->Prop)(E:aD->aN->Prop),A.handled=sy->St k s.heap->Sc xs s.heap->xs[k]?=sy->
  (∀h' e,aCs i s.heap h'->(∃o,h'.get? e=sr o/\o.cls=.type "StopIteration")->E (.ref e) { s with heap:=h' })->wpAny (model P w) A (nextOf (.ref i)) Q E s
section
variable{prog:bY}{w:dO}{A:eU}{E:aD->aN->Prop}{s:aN}
open PySem.Builtin.SmallTypes in
def Bcj{k:Nat}(st:s.heap.IsTupleIter b l k)(h:s.heap.IsTuple l xs)(f:xs[k]?=sr x)(go:∀d,d.IsTupleIter b l (k+1)->gM b s.heap d->Q x { s with heap:=d }):wpAny (model prog w) A nextOf[.ref[b]] Q E s:=by
 let(p,hi,i,c):=id st;let(o,g,_,n,dt):=h;unfold nextOf;refine aA (cX (name:=mX "__next__") st.typeIs jD (dY jD st.typeIs qN ?_ qC[_]));refine aA (m:=field .ref[b] 0) (dG hi c (x:=.ref l) rfl ?_);let e:¬ ((bI l==gD)=t8):=cR;show wpAny _ _ (if (bI l==gD)=t8 then _ else _) _ _ s
 rw[dm e];refine aA (m:=field .ref[b] 1) (dG hi c (x:=.int k 0) rfl (aA (m:=seqItems? .ref[l]) (iD g dt ?_)));simp only[gA,f];refine aA[fU hi c () (aH (x,rfl,aH[go _ (_,bQ _ hi fZ[cV c _],(mH ..).trans i,?_) (iG ..)]))]
 rw[cV c];simp[rawInt]
open PySem.Builtin.SmallTypes in
def Bck{k:Nat}(p:A.handled=sy)(st:s.heap.IsTupleIter c l k)(j:s.heap.IsTuple l xs)(h:xs[k]?=sy)(go:∀d e,aCs c s.heap d->(∃o,d.get? e=sr o/\o.cls=.type "StopIteration")->E .ref[e] { s with heap:=d }):wpAny (model prog w) A nextOf[.ref[c]] Q E s:=by
 let(t,hi,u,f):=id st;let(r,i,_,n,dt):=j;unfold nextOf;refine aA (cX (name:=mX "__next__") st.typeIs jD (dY jD st.typeIs qN ?_ qC[_]));refine aA (m:=field .ref[c] 0) (dG hi f (x:=.ref l) rfl ?_);let g:¬ ((bI l==gD)=t8):=cR;show wpAny _ _ (if (bI l==gD)=t8 then _ else _) _ _ s
 rw[dm g];refine aA (m:=field .ref[c] 1) (dG hi f (x:=.int k 0) rfl (aA (m:=seqItems? .ref[l]) (iD i dt ?_)));simp only[gA,h];refine aA pM[aA[fU hi f () ?_]]
 refine aA (m:=newExc .type["StopIteration"] []) ?_;simp only[newExc,newTuple];refine aA eO[?_][by size_fits]
 refine aA (m:=firstArgMember _ _) (rR (a:=gD) (by first|rfl|(simp only[firstArgMember];rfl)) eO[?_][by size_fits])
 simp only[raiseNew];refine aA vV[?_];rw[show A.in1.handled=sy from p];exact aA aH[uN[go _ _ (((iG ..).extBut.push _).push _) (_,aR _ rfl,rfl)]]
theorem Awz(i l:aG):Nx P w i l (λk h=>h.IsTupleIter i l k) (λxs h=>h.IsTuple l xs) where
 live:=λk h st=>by let(o,b,_,hd):=st;exact(o,b,λv z=>by rw[hd] at z;cases z)
 keep:=λk h f st d=>st.at d
 src:=λxs h f st c=>let ⟨o,b,r⟩:=st;(o,c o b,r)
 item:=λA k s xs x Q E st sc a go=>Bcj st sc a go
 done:=λA k s xs Q E e st sc a go=>Bck e st sc a go
theorem Bcl(i l:aG):Nx P w i l (λk h=>h.IsListIter i l k) (λxs h=>h.IsList l xs) where
 live:=λk h st=>by let(o,d,_,hd):=st;exact(o,d,λv z=>by rw[hd] at z;cases z)
 keep:=λk h f st c=>st.at c
 src:=λxs h f st b=>st.at b
 item:=λA k s xs x Q E st sc a go=>wpAny_nextOf_list_item st sc a go
 done:=λA k s xs Q E e st sc a go=>wpAny_nextOf_list_end e st sc a go
structure ZA(z TI TO i1 i2 l1 l2:aG):Prop where
 a:[z,TI,TO,i1,i2].Nodup
 b1:l1∉[z,TI,TO,i1,i2]
 b2:l2∉[z,TI,TO,i1,i2]
section
variable{St1 St2:Nat->dD->Prop}{Sc1 Sc2:Array aD->dD->Prop}{z TI TO i1 i2 l1 l2:aG}{k:Nat}{xs ys:Array aD}{x y a b:aD}
def ZA.ne(D:ZA z TI TO i1 i2 l1 l2):z≠TI/\z≠TO/\z≠i1/\z≠i2/\TI≠TO/\TI≠i1/\TI≠i2/\TO≠i1/\TO≠i2/\i1≠i2:=by
 let h:=D.a;simp_all
open PySem.Builtin PySem.Builtin.SmallTypes in
def Aw0(B:Nx prog w i1 l1 St1 Sc1)(u:Nx prog w i2 l2 St2 Sc2)(D:ZA z TI TO i1 i2 l1 l2){Q:aD->aN->Prop}(j:uP s.heap z TI TO .none)(O:pN s.heap TI .ref[i1] .ref[i2])(N:pN s.heap TO a b)(s1:St1 k s.heap)(s2:St2 k s.heap)(c1:Sc1 xs s.heap)(c2:Sc2 ys s.heap)(hx:xs[k]?=sr x)(hy:ys[k]?=sr y)(go:∀i,uP i z TI TO rawInt[s.heap.objs.size]->pN i TO x y->St1 (k+1) i->St2 (k+1) i->pN i s.heap.objs.size x y->(∀c o,c∉[z,TO,i1,i2]->s.heap.get? c=sr o->i.get? c=sr o)->Q .ref[s.heap.objs.size] { s with heap:=i }):
  wpAny (model prog w) A («zip.__next__» ([.ref z],[])) (λP s'=>∃v,P=.done (.ret v)/\Q v s') E s:=by
 let(d1,H,X,U,d5,d6,d7,T,S,p):=D.ne;let b1:=D.b1;let b2:=D.b2;simp only[bH,cZ,or_false,not_or] at b1 b2;refine aA (m:=field .ref[z] 2) (dG j rfl (x:=.bool t7) rfl (aA (m:=field .ref[z] 3) (dG j rfl (x:=.ref TI) rfl aA[iD O rfl ?_])));refine aA (m:=ownedTupleIsFree .ref[z]) ?_;unfold ownedTupleIsFree;refine aA (dG j rfl (x:=.none) rfl aH[?_]);simp only[if_true];refine aA (pM (aA (dG j rfl (x:=.ref TO) rfl aA[jE j () λh1 J e1=>aA ?_])))
 let J:uP h1 z TI TO .ellipsis:=J;simp only[yO,zJ,uD,aAj];refine aA (aA (sH (aA (m:=nextOf .ref[i1]) ?_)));let d:∀c o,c≠z->s.heap.get? c=sr o->h1.get? c=sr o:=λc o f q=>e1.extBut _ _ f q;refine B.item _ k _ xs x _ _ (B.keep _ _ _ s1 λo q=>d _ o X.symm q) (B.src _ _ _ c1 λo q=>d _ o b1.1 q) hx λh2 t2 G=>aH ?_;let o2:pN h2 TO a b:=G.extBut _ _ T (d _ _ H.symm N);refine aA[iD o2 rfl aA[pW o2 λh3 L F=>aA yX[aH[?_]]]];let L:pN h3 TO x b:=L;refine aA (aA (sH (aA (m:=nextOf .ref[i2]) ?_)));let e:∀c o,c≠z->c≠TO->c≠i1->s.heap.get? c=sr o->h3.get? c=sr o:=λc o q1 q2 q3 q=>F.extBut _ _ q2 (G.extBut _ _ q3 (d c o q1 q));refine u.item _ k _ ys y _ _ (u.keep _ _ _ s2 λo q=>e _ o U.symm S.symm p.symm q) (u.src _ _ _ c2 λo q=>e _ o b2.1 b2.2.2.1 b2.2.2.2.1 q) hy λh4 t4 n=>aH ?_;let Z:pN h4 TO x b:=n.extBut _ _ S L;refine aA[iD Z rfl aA[pW Z λg t l=>aA yX[aH[aH[?_]]]]];let t:pN g TO x y:=t;refine aA[iD t rfl aA[aAk[?_]]];let sz:g.objs.size=s.heap.objs.size:=by rw[l.1,n.1,F.1,G.1,e1.1]
 let Y:uP g z TI TO .ellipsis:=l.extBut _ _ H (n.extBut _ _ U (F.extBut _ _ H (G.extBut _ _ X J)));let h:∀c o,c∉[z,TO,i1,i2]->s.heap.get? c=sr o->g.get? c=sr o:=λc o f q=>by
  simp only[bH,cZ,or_false,not_or] at f;exact l.extBut _ _ f.2.1 (n.extBut _ _ f.2.2.2 (e c o f.1 f.2.1 f.2.2.1 q))
 let zl:z < g.objs.size:=aV Y;refine aA (m:=ownedTupleHandOut .ref[z] .ref[g.objs.size]) ?_;unfold ownedTupleHandOut;let z6:uP (g.push { cls:=.type "tuple",data:=.seq #[x,y] }) z TI TO .ellipsis:=aC _ Y;refine aA[jE z6 () λh7 I e7=>?_]
 let I:uP h7 z TI TO rawInt[g.objs.size]:=I;refine jE I () λC r e8=>aH (_,rfl,?_)
 let r:uP C z TI TO rawInt[g.objs.size]:=r;let up:∀c o,c≠z->g.get? c=sr o->C.get? c=sr o:=λc o f q=>e8.extBut _ _ f (e7.extBut _ _ f (aC _ q));let new:pN C g.objs.size x y:=e8.extBut _ _ jP[zl] (e7.extBut _ _ jP[zl] (aR _ rfl));show Q .ref[g.objs.size] _;rw[sz] at r new ⊢
 refine go C r (up _ _ H.symm t) (B.keep _ _ _ t2 λo q=>up _ o X.symm (l.extBut _ _ T.symm (n.extBut _ _ p (F.extBut _ _ T.symm q)))) (u.keep _ _ _ t4 λo q=>up _ o U.symm (l.extBut _ _ S.symm q)) new λc o f q=>?_;exact up c o (λw=>f[by simp[w]]) (h c o f q)
open PySem.Builtin PySem.Builtin.SmallTypes in
def Aw1(t:Nx prog w i1 l1 St1 Sc1)(v:Nx prog w i2 l2 St2 Sc2)(D:ZA z TI TO i1 i2 l1 l2)(X:A.handled=sy)(n:uP s.heap z TI TO .none)(F:pN s.heap TI .ref[i1] .ref[i2])(C:pN s.heap TO a b)(s1:St1 k s.heap)(s2:St2 k s.heap)(c1:Sc1 xs s.heap)(c2:Sc2 ys s.heap)(he:xs[k]?=sy\/ys[k]?=sy)(go:∀I e,(∀c o,c∉[z,TO,i1,i2]->s.heap.get? c=sr o->I.get? c=sr o)->(∃o,I.get? e=sr o/\o.cls=.type "StopIteration")->E .ref[e] { s with heap:=I }):
  wpAny (model prog w) A («zip.__next__» ([.ref z],[])) Q E s:=by
 let(d1,d2,L,d4,d5,d6,d7,d8,d9,N):=D.ne;let b1:=D.b1;let b2:=D.b2;simp only[bH,cZ,or_false,not_or] at b1 b2;refine aA (m:=field .ref[z] 2) (dG n rfl (x:=.bool t7) rfl (aA (m:=field .ref[z] 3) (dG n rfl (x:=.ref TI) rfl aA[iD F rfl ?_])));refine aA (m:=ownedTupleIsFree .ref[z]) ?_;unfold ownedTupleIsFree;refine aA (dG n rfl (x:=.none) rfl aH[?_]);simp only[if_true];refine aA (pM (aA (dG n rfl (x:=.ref TO) rfl aA[jE n () λY r e1=>aA ?_])))
 let r:uP Y z TI TO .ellipsis:=r;simp only[yO,zJ,uD,aAj];refine aA (aA (sH (aA (m:=nextOf .ref[i1]) ?_)));let d:∀c o,c≠z->s.heap.get? c=sr o->Y.get? c=sr o:=λc o g q=>e1.extBut _ _ g q;let S:=t.keep _ _ _ s1 λo q=>d _ o L.symm q;let T:=t.src _ _ _ c1 λo q=>d _ o b1.1 q;cases B:xs[k]? with
 |none=>
  refine t.done _ k _ xs _ _ X S T B λH e l j=>?_;let(u,h,i):=j;let P:uP H z TI TO .ellipsis:=l _ _ L r;let J:e≠z:=λw=>by subst w;rw[P] at h;cases h;simp at i
  refine jE P () λG uw p=>go G e (λc o g q=>?_) (u,p.extBut _ _ J h,i)
  simp only[bH,cZ,or_false,not_or] at g;exact p.extBut _ _ g.1 (l _ _ g.2.2.1 (d c o g.1 q))
 |some x=>
  let hy:ys[k]?=sy:=by
   rcases he with q|q
   .rw[B] at q;cases q
   .exact q
  refine t.item _ k _ xs x _ _ S T B λH t2 l=>aH ?_;let U:pN H TO a b:=l.extBut _ _ d8 (d _ _ d2.symm C);refine aA[iD U rfl aA[pW U λG o3 p=>aA yX[aH[?_]]]];refine aA (aA (sH (aA (m:=nextOf .ref[i2]) ?_)));let f:∀c o,c≠z->c≠TO->c≠i1->s.heap.get? c=sr o->G.get? c=sr o:=λc o h i q3 q=>p.extBut _ _ i (l.extBut _ _ q3 (d c o h q));refine v.done _ k _ ys _ _ X (v.keep _ _ _ s2 λo q=>f _ o d4.symm d9.symm N.symm q) (v.src _ _ _ c2 λo q=>f _ o b2.1 b2.2.2.1 b2.2.2.2.1 q) hy λh4 e e4 j=>?_;let(u,h,i):=j;let O:uP h4 z TI TO .ellipsis:=e4 _ _ d4 (p.extBut _ _ d2 (l.extBut _ _ L r));let J:e≠z:=λw=>by subst w;rw[O] at h;cases h;simp at i
  refine jE O () λh5 uw Z=>go h5 e (λc o g q=>?_) (u,Z.extBut _ _ J h,i)
  simp only[bH,cZ,or_false,not_or] at g;exact Z.extBut _ _ g.1 (e4 _ _ g.2.2.2 (f c o g.1 g.2.1 g.2.2.1 q))
end
end
def Sq2(K:aB)(T:Bool)(H:Hp)(a:aG)(xs:lg V):Prop:=match T with
 |true=>SqT K H a xs
 |false=>SqL K H a xs
def St2(T:Bool)(i l:aG)(k:Nat)(h:dD):Prop:=match T with
 |true=>h.IsTupleIter i l k
 |false=>h.IsListIter i l k
def Sc2(T:Bool)(l:aG)(xs:Array aD)(h:dD):Prop:=match T with
 |true=>h.IsTuple l xs
 |false=>h.IsList l xs
def nx2(T:Bool)(i l:aG):Nx P w i l (St2 T i l) (Sc2 T l):=by
 cases T
 .exact Bcl i l
 .exact Awz i l
section
def Inv.sq2(I:Inv X e d H s)(h:Sq2 X.K T H a xs):∃b:lg aD,Vals xs b/\Sc2 T a b.toArray s.heap:=by
 cases T
 .let(b,r,p,_):=I.list h;exact(b,r,p.isList)
 .let(b,r,p,_):=I.tuple h;exact(b,r,p)
def Inv.sq2_inj(I:Inv X e d H s)(h:Sq2 X.K T H a xs)(b:Sq2 X.K T H a c):xs=c:=by
 cases T
 .exact I.list_inj h b
 .exact I.tuple_inj h b
end
def Itz(K:aB)(T:Bool)(a b:aG):It:=(λi H=>∃xs ys x y,Sq2 K T H a xs/\Sq2 K T H b ys/\xs[i]?=sr x/\ys[i]?=sr y,
 λi H v H'=>∃p x y,(∀xs,Sq2 K T H a xs->xs[i]?=sr x)/\(∀ys,Sq2 K T H b ys->ys[i]?=sr y)/\H p=sy/\v=.ref p/\H'=upd H p .tup[[x,y]],
 λi H=>∃xs ys,Sq2 K T H a xs/\Sq2 K T H b ys/\(xs.length<=i\/ys.length<=i))
def zSt(T:Bool)(z TI TO i1 i2 a b:aG)(i:Nat)(h:dD):Prop:=uP h z TI TO .none/\pN h TI .ref[i1] .ref[i2]/\(∃u v,pN h TO u v)/\St2 T i1 a i h/\St2 T i2 b i h
theorem Aw2{P:bY}{w:dO}{K:aB}{Z:lg bW}{kt:Nat}{O:Pos}(T:Bool)(z TI TO t p a b:aG)(D:ZA z TI TO t p a b):
  Turn P w K (.Tuple Z kt O) (Itz K T a b) [z,TI,TO,t,p] z (zSt T z TI TO t p a b) where
 mem:=by simp
 obj:=λi h st c f=>by
  let(F,j,(u,v,l),L,J):=st;simp only[bH,cZ,or_false] at f;rcases f with rfl|rfl|rfl|rfl|rfl
  .exact(_,F,λv q=>by let q:yV _=uZ v:=q;cases q)
  .exact(_,j,λv q=>by let q:aEh _ _=uZ v:=q;cases q)
  .exact(_,l,λv q=>by let q:aEh _ _=uZ v:=q;cases q)
  .exact(nx2 (P:=P) (w:=w) T _ a).live _ _ L
  .exact(nx2 (P:=P) (w:=w) T _ b).live _ _ J
 keep:=λi h h' st k=>by
  let(F,j,(u,v,l),L,J):=st;exact(k z () _ F,k TI () _ j,(u,v,k TO () _ l),(nx2 (P:=P) (w:=w) T t a).keep _ _ _ L (k t ()),(nx2 (P:=P) (w:=w) T p b).keep _ _ _ J (k p ()))
 item:=by
  intro X hP hw hK f i aa s σ H E I hf st hg;subst hP hw hK;let(F,j,(u,v,l),L,J):=st;let(xs,ys,x,y,qx,qy,ex,ey):=hg;let(U,rx,cx):=I.sq2 qx;let(S,ry,cy):=I.sq2 qy;let(ux,hux,rux):=rx.get ex;let(uy,huy,ruy):=ry.get ey;let Y:s.TypeIs .ref[z] "zip":=(_,F,rfl);let lt:∀{c:aG} {o:tu},s.heap.get? c=sr o->c≠s.heap.objs.size:=λe=>bM aV[e];unfold pyNext;refine aA (nP (cX (name:=mX "__next__") Y qD (dY qD Y yP
   (Aw0 (nx2 T t a) (nx2 T p b) D F j l L J cx cy (x:=ux) (y:=uy) (by simpa using hux) (by simpa using huy) λh' a1 a2 a3 a4 a5 hk=>aH (_,rfl,?_)) xH[_])))
  refine wpAny_letOwnedTupleGo_zip (s:={ s with heap:=h' }) a1 λh2 z2 N=>?_
  let(d1,d2,d3,d4,d5,d6,d7,d8,d9,d10):=D.ne;let C:∀c o,c∉[z,TI,TO,t,p]->s.heap.get? c=sr o->h2.get? c=sr o:=λc o f q=>by
   simp only[bH,cZ,or_false,not_or] at f;exact N.extBut _ _ f.1 (hk c o (by simp[f]) q)
  let B:H s.heap.objs.size=sy:=I.hok.fresh aM[_];let Q:∀c u,H c=sr u->c∉[z,TI,TO,t,p]:=λc u q f=>by rw[(hf c f).1] at q;cases q
  let nz:s.heap.objs.size≠z:=(lt F).symm;let hp2:wN h2 s.heap.objs.size #[ux,uy]:=(_,N.extBut _ _ nz a5,rfl,_,rfl);refine(.ref s.heap.objs.size,upd H s.heap.objs.size .tup[[x,y]],?_,rfl,(_,x,y,λxs' q=>by rw[I.sq2_inj q qx];exact ex,λys' q=>by rw[I.sq2_inj q qy];exact ey,B,rfl,rfl),
   (z2,N.extBut _ _ d1.symm (hk _ _ (by simp[d1.symm,d5,d6,d7]) j),(_,_,N.extBut _ _ d2.symm a2),(nx2 (P:=X.prog) (w:=X.w) T t a).keep _ _ _ a3 (λo q=>N.extBut _ _ d3.symm q),(nx2 (P:=X.prog) (w:=X.w) T p b).keep _ _ _ a4 (λo q=>N.extBut _ _ d4.symm q)),λc f=>?_)
  .show Inv X aa σ (upd H s.heap.objs.size .tup[[x,y]]) { s with heap:=h2,gens:=s.gens,drawn:=s.drawn,toks:=s.toks }
   refine I.step (s:=s) (g':=s.gens) (d':=s.drawn) (ch:=[z,TI,TO,t,p]) (λc f=>?_) (λc o g g f q g=>C c o f q) (λc o g g f q g=>(o.slots,C c o f q)) (λc o g q n=>by rw[Ah lt[q]];exact n)
    (λc o f q=>(o,C c o f q)) (λc xs q=>by rw[Ah[Bm q B]];exact q) (λc o u q=>by rw[Ah[Bm q B]];exact q) (λc ps q=>(#[],by rw[Ah[Bm q B],q];simp)) (λm hm=>?_) (λc u q=>?_) I.bare
   .let(f0,f1,f2,f3,f4,f5):=hf c f;exact(f3,f1,f4,f5)
   .let(o,es,ep,G,r):=hm;exact(o,es,ep,C _ o (λf=>(hf _ f).2.1 rfl) G,r)
   .by_cases hb:c=s.heap.objs.size
    .subst hb;rw[An] at q;cases q;exact((show 2<=sizeLine by decide),_,.cons rux (.cons ruy .nil),hp2)
    .rw[Ah hb] at q;refine(I.hok c u q).stay (λd v hd z=>C d v ?_ z) (λd z=>by rw[Ah[Bm z B]];exact z) λd xs z=>by rw[Ah[Bm z B]];exact z
     rcases hd with rfl|hd
     .exact Q d u q
     .exact Q d _ hd
  .obtain⟨o,G,_⟩:∃o,s.heap.get? c=sr o/\True:=by
    simp only[bH,cZ,or_false] at f;rcases f with rfl|rfl|rfl|rfl|rfl
    .exact(_,F,trivial)
    .exact(_,j,trivial)
    .exact(_,l,trivial)
    .let(o,G,_):=(nx2 (P:=X.prog) (w:=X.w) T _ a).live _ _ L;exact(o,G,trivial)
    .let(o,G,_):=(nx2 (P:=X.prog) (w:=X.w) T _ b).live _ _ J;exact(o,G,trivial)
   rw[Ah lt[G]];exact(hf c f).1
 done:=by
  intro X hP hw hK f i aa s σ H E I hf st hg;subst hP hw hK;let(F,j,(u,v,l),L,J):=st;let(xs,ys,qx,qy,he):=hg;let(U,rx,cx):=I.sq2 qx;let(S,ry,cy):=I.sq2 qy;let Y:s.TypeIs .ref[z] "zip":=(_,F,rfl);let he':U.toArray[i]?=sy\/S.toArray[i]?=sy:=by
   rcases he with q|q
   .exact .inl (by rw[qY,cC,<-rx.length];exact q)
   .exact .inr (by rw[qY,cC,<-ry.length];exact q)
  let Q:∀c u,H c=sr u->c∉[z,TI,TO,t,p]:=λc u q f=>by rw[(hf c f).1] at q;cases q
  unfold pyNext;refine aA (nP (cX (name:=mX "__next__") Y qD (dY qD Y yP
   (Aw1 (nx2 T t a) (nx2 T p b) D (show X.A.in1.handled=sy from I.ok.hd f) F j l L J cx cy he' λh' e hk q=>?_) xH[_])))
  let(o,G,hcl):=q;refine aA (mY (T:="StopIteration") (b:=true) (o,G,hcl) uQ (aH (rfl,?_)));let C:∀c o,c∉[z,TI,TO,t,p]->s.heap.get? c=sr o->h'.get? c=sr o:=λc o f q=>hk c o (λm=>f (by simp only[bH,cZ,or_false] at m ⊢;rcases m with m|m|m|m <;> simp[m])) q
  refine I.step (s:=s) (g':=s.gens) (d':=s.drawn) (t':=s.toks) (h':=h') (ch:=[z,TI,TO,t,p]) (λc f=>?_) (λc o g g f q g=>C c o f q) (λc o g g f q g=>(o.slots,C c o f q)) (λc o g q n=>n)
   (λc o f q=>(o,C c o f q)) (λc xs q=>q) (λc o u q=>q) (λc ps q=>(#[],by rw[q];simp)) (λm hm=>?_) (λc u q=>?_) I.bare
  .let(f0,f1,f2,f3,f4,f5):=hf c f;exact(f3,f1,f4,f5)
  .let(o,es,ep,G,r):=hm;exact(o,es,ep,C _ o (λf=>(hf _ f).2.1 rfl) G,r)
  .refine(I.hok c u q).stay (λd v hd z=>C d v ?_ z) (λg z=>z) λg g z=>z;rcases hd with rfl|hd
   .exact Q d u q
   .exact Q d _ hd
 self:=λg g g g g st h=>yQ st.1 h
abbrev itT(a:aG):tu:={ cls:=.type "tuple_iterator",data:=.fields #[.ref a,.int 0 0] }
abbrev Arb(u v:aD):tu:={ cls:=.type "tuple",data:=.seq #[u,v] }
abbrev Bmc(TI TO:aG):tu:={ cls:=.type "zip",data:=.fields #[.none,.bool t7,.bool t7,.ref TI,.ref TO] }
def zT2(h:dD)(a b:aG):dD:=(h.push itT[a]).push itT[b]
def zT3(h:dD)(a b:aG):dD:=(zT2 h a b).push (Arb .ref[h.objs.size] .ref[(h.push itT[a]).objs.size])
def zT4(h:dD)(a b:aG):dD:=(zT3 h a b).push (Arb .none .none)
def zT5(h:dD)(a b:aG):dD:=(zT4 h a b).push (Bmc (zT2 h a b).objs.size (zT3 h a b).objs.size)
def Apk(a b:aG)(xs c:Array aD):
  aDy (jY.«zip.__new__» ([.type "zip",.ref a,.ref b],[])) (λf R s=>s.heap.IsTuple a xs/\s.heap.IsTuple b c/\R .ok[.ret[.ref[(zT4 s.heap a b).objs.size]]] { s with heap:=zT5 s.heap a b }):=(
 .of_wp λprog w A R s h=>by
  let(e,d,h):=h;let g:=sub_zip
  wp_walk using qR e,qR[aDz d _]
  exact(_,rfl,h))
section
def At3(u:Sc2 T a xs s.heap)(t:Sc2 T b z s.heap)(go:∀e,zSt T (s.heap.objs.size+4) (s.heap.objs.size+2) (s.heap.objs.size+3) s.heap.objs.size (s.heap.objs.size+1) a b 0 e->(∀c o,s.heap.get? c=sr o->e.get? c=sr o)->Q .ref[s.heap.objs.size+4] { s with heap:=e }):
  wpAny (model prog w) A (call .type["zip"] [.ref a,.ref b]) Q E s:=by
 cases T
 .exact call_zip_2 u t λe j i h g f C k=>go e (j,i,(_,_,h),g,f) k
 .refine callType_new F.called_zip () (F.typeCall_zip_2 ..) (F.newCall_zip_2 ..) (λobj=>F.args_object_init_3 obj ..) F.entry_zip_new (Apk a b xs z) (u,t,?_)
  let n:(s.heap.push itT[a]).objs.size=s.heap.objs.size+1:=fP ..
  let m:(zT2 s.heap a b).objs.size=s.heap.objs.size+2:=by unfold zT2;rw[fP,n]
  let l:(zT3 s.heap a b).objs.size=s.heap.objs.size+3:=by unfold zT3;rw[fP,m]
  let r:(zT4 s.heap a b).objs.size=s.heap.objs.size+4:=by unfold zT4;rw[fP,l]
  let d:∀c o,(zT2 s.heap a b).get? c=sr o->(zT5 s.heap a b).get? c=sr o:=λc o q=>by unfold zT5 zT4 zT3;exact aC _ aC[_][aC _ q]
  let p:(zT5 s.heap a b).get? (zT4 s.heap a b).objs.size=sr[Bmc (zT2 s.heap a b).objs.size (zT3 s.heap a b).objs.size]:=by unfold zT5;exact aR _ rfl
  let v:(zT5 s.heap a b).get? (zT3 s.heap a b).objs.size=sr[Arb .none .none]:=by unfold zT5 zT4;exact aC _ (aR _ rfl)
  let x:(zT5 s.heap a b).get? (zT2 s.heap a b).objs.size=sr[Arb .ref[s.heap.objs.size] .ref[(s.heap.push itT[a]).objs.size]]:=by unfold zT5 zT4 zT3;exact aC _ aC[_][aR _ rfl]
  let y:(zT5 s.heap a b).get? (s.heap.push itT[a]).objs.size=sr itT[b]:=d _ _ (by unfold zT2;exact aR _ rfl)
  let B:(zT5 s.heap a b).get? s.heap.objs.size=sr itT[a]:=d _ _ (by unfold zT2;exact aC _ (aR _ rfl))
  show _/\_;rw[m,l,r] at p;rw[l] at v;rw[n,m] at x;rw[n] at y;exact r ▸ ((_,p,rfl),(λe j i h g f k=>go e (j,i,(_,_,h),g,f) k) _ p x v (_,B,rfl,rfl) (_,y,rfl,rfl) λc o q=>d _ _ (by unfold zT2;exact aC _ (aC _ q)))
end
def boot_zip:bootBuiltins "zip"=sr .type["zip"]:=by decide +kernel
def Bph(K:aB)(ta:TA):TI:=λσ H R=>ta σ H λvs H1=>∃T a b xs ys,vs=[.ref a,.ref b]/\Sq2 K T H1 a xs/\Sq2 K T H1 b ys/\R (Itz K T a b) H1
def Bik{P:Nat}(Y:Gl X "zip")(U:X.mg "zip"=sy)(Z:PA X (e::l) C)(hs:starEach (e::l) X.env=(u6 t7 (eval e X.env))::starEach l X.env)(r:(backTo f (starEach l X.env)).any (·.1)=t7):
  PI[X][.Tuple y P w][.Call (.Name "zip" p) (e::l) [] f][Bph X.K C]:=by
 intro aa s B H R I h;refine Call_[Abg I Y U boot_zip mG[thn[Z f aa s B H _ I h] λn d ⟨vs,H1,I1,r1,q1⟩=>?_][hs][r]];let(T,a,b,xs,ys,rfl,L,J,q):=q1;let(u,v,rfl,F,E):=r1.two;obtain rfl:u=bI a:=F;obtain rfl:v=bI b:=E;let(S,rx,A):=I1.sq2 L;let(Q,ry,z):=I1.sq2 J;let there:∀{c:aG} {n:Array aD},Sc2 T c n d.heap->c < d.heap.objs.size:=λ{c n} q=>by
  cases T
  .let(o,t,_):=q;exact aV t
  .let(o,t,_):=q;exact aV t
 let O:=there z;let j:∀c∈[d.heap.objs.size+4,d.heap.objs.size+2,d.heap.objs.size+3,d.heap.objs.size,d.heap.objs.size+1],d.heap.objs.size<=c:=λc g=>by
  simp only[bH,cZ,or_false] at g;rcases g with rfl|rfl|rfl|rfl|rfl
  .exact mZ ..
  .exact mZ ..
  .exact mZ ..
  .exact aM _
  .exact mZ ..
 refine At3 A z λh' st k=>yQ st.1 ?_;refine(_,_,_,_,H1,rfl,I1.kept (t':=d.toks) k,Aw2 T _ _ _ _ _ a b ((),λm=>absurd aO[there A][j a m] eQ[_],λm=>absurd aO[O][j b m] eQ[_]),st,λc g=>I1.fpOk (j c g) I1.hok.fresh[j c g],q)
def leS(a b:t6):Bool:=!decide (b.cps.toList < a.cps.toList)
def Ad7(ss:lg t6):lg t6:=ss.mergeSort leS
theorem Abn{f:Type}{r:f->f->Prop}(i:∀a b,r a b->r b a->a=b):∀{d c:lg f},d.Perm c->d.Pairwise r->c.Pairwise r->d=c
 |[],c,p,_,_=>p.nil_eq
 |_,[],p,_,_=>by simp_all
 |a::d,b::c,p,h,g=>by
  rw[oE] at h g;let e:a=b:=by
   rcases bH.mp p.mem_iff.mp[bF] with q|q
   .omega
   .rcases bH.mp p.mem_iff.mpr[bF] with z|z
    .exact z.symm
    .exact i a b (h.1 b z) (g.1 a q)
  subst e;rw[Abn i aDp[p] h.2 g.2]
def At4(a b:t6):(leS a b||leS b a)=t8:=by
 unfold leS
 grind
def Aie(a b c:t6)(f:leS a b=t8)(e:leS b c=t8):leS a c=t8:=by
 unfold leS at *
 rw[iW,decide_eq_false_iff_not] at *
 exact rT.mpr[List.le_trans rT.mp[f] rT.mp[e]]
def Afd(a b:t6)(f:leS a b=t8)(d:leS b a=t8):a=b:=by
 unfold leS at *
 rw[iW,decide_eq_false_iff_not] at *
 let e:=List.le_antisymm rT.mp[f] rT.mp[d];obtain⟨⟨x⟩⟩:=a;simp_all
def Iz(ss:lg t6):(Ad7 ss).Perm ss:=List.mergeSort_perm ss leS
def M5(ss:lg t6):(Ad7 ss).Pairwise (λa b=>leS a b=t8):=List.pairwise_mergeSort Aie At4 ss
theorem Afe:∀(p:t6)(l:lg t6),risingS p l=t8->(p::l).Pairwise (λa b=>leS a b=t8)
 |p,[],_=>by simp
 |p,x::r,h=>by
  let h:(!_&&_)=t8:=h;rw[aL,ltCps_eq] at h;let d:=Afe x r h.2;rw[oE];refine(λy hy=>?_,d);rcases bH.mp hy with rfl|hy
  .exact h.1
  .exact Aie p x y h.1 ((oE.mp d).1 y hy)
def Bcm(p:a.Perm b)(h:sortedS a=t8):a=Ad7 b:=by
 refine Abn Afd p.trans[(Iz b).symm] ?_ M5[b];cases a with
 |nil=>simp
 |cons x r=>exact Afe x r h
section
variable{tk:Nat}
def Inv.newO(I:Inv X l j H s)(d:∀b ob,s.heap.get? b=sr ob->h.get? b=sr ob)(r:s.heap.get? e=sy)(f:Ed X.prog X.w (upd H e o) h e o):Inv X l j (upd H e o) { s with heap:=h,toks:=tk }:=by
 let ne:∀{b:aG} {o:tu},s.heap.get? b=sr o->b≠e:=λq z=>by simp_all
 let nt:∀{b:aG} {u:HO},H b=sr u->b≠e:=λq=>by
  let(o,f):=(I.hok _ _ q).there;exact ne f
 refine I.step (ch:=[]) (λc z=>nomatch z) (λb o c c c q c=>d b o q) (λb o c c c q c=>(o.slots,d b o q)) (λb o c q n=>(Ah ne[q]) ▸ n)
  (λb o c q=>(o,d b o q)) (λb xs q=>(Ah nt[q]) ▸ q) (λb o u q=>(Ah nt[q]) ▸ q) (λb ps q=>(#[],by rwa [Ah nt[q],lK])) (λm k=>k.keeps d) (λa u q=>?_) I.bare
 by_cases g:a=e
 .subst g;rw[An] at q;cases q;exact f
 .rw[Ah g] at q;exact(I.hok a u q).stay (λb v c z=>d b v z) (λb z=>(Ah nt[z]) ▸ z) λb xs z=>(Ah nt[z]) ▸ z
theorem Aif:∀{b:lg aD} {c:lg t6},pO b c->Vals c.map[V.str] b
 |_,_,.nil=>.nil
 |_,_,.cons x t h=>.cons (t,rfl) Aif[h]
end
section
variable{prog:bY}{w:dO}{A:eU}{E:aD->aN->Prop}{h:dD}{g:Array uL}{d:aBl}{t:Nat}{os:aBv}
variable{nm q:t6}{C N fI:aG}{bs tl bmB:lg aD}{hdct:Bool}{sn:lg t6}{sub:lg aD}{ab:Bool}{col:o9 Bool}{dd:o9 aG}{k0 k1 k2 k3 k5:o9 aD}{B newId initId:String}{oI:tu}{mN:t6->o9 aD}{rest:lg aD}
def Bcn(F:xJ B newId initId bmB)(T:zW h bmB tl)(c:h.get? C=sr[excClassObj nm q C N bs tl hdct sn sub ab col dd k0 k1 k2 k3 k5 newId])(x:h.Ns N mN)(hi:mN "__init__"=sr .ref[fI])(hf:h.get? fI=sr oI)(f:oI.cls=.type "function")(y:rest.length<=sizeLine)(go:∀n e,mL h n e .ref[C] rest->wpAny (model prog w) A (call .ref[fI] (.ref e::rest)) (λr l=>r=.none/\Q .done[.ret .ref[e]] l) E (n,g,d,t,os)):
  wpAny (model prog w) A (jY.«type.__call__» (.ref C::rest,[])) Q E (h,g,d,t,os):=by
 repeat (first|(with_reducible refine fK c ?_)|(with_reducible refine wpAny_madeBy_exc c ?_)|wp_step)
 refine codeAny_call_builtin_code[lL _ F.quiet][wpAny_check_new_subT F T c (codeAny_exc_new_subT F T c ?_ y)];generalize k:h.push { cls:=.type "tuple",data:=.seq rest.toArray }=h1;generalize j:h1.push { cls:=.ref C,data:=.fields #[.ref h.objs.size,.none,.none,.none,.bool t7,.none] }=h2;let p:h1.objs.size=h.objs.size+1:=k ▸ fP ..
 let keep:∀b o,h.get? b=sr o->h2.get? b=sr o:=λb o z=>j ▸ aC _ (k ▸ aC _ z);let made:h2.get?[h.objs.size+1]=sr { cls:=.ref C,data:=.fields #[.ref h.objs.size,.none,.none,.none,.bool t7,.none] }:=by
  rw[<-j,<-p];exact aR _ rfl
 let a:=keep _ _ c;show wpAny _ _ _ _ _ _;let own:(bI C::tl).contains .ref[C]=t8:=by simp
 unfold isInstance
 repeat (first|(with_reducible refine fK made ?_)|(with_reducible refine qI a ?_;rw[own])|wp_step)
 show wpAny _ _ (typeLookup .ref[C] _) _ _ _;refine wpAny_typeLookup_tail a x.keeps[keep] T.keeps[keep] F.mroIs F.init.lookup ?_;rw[hi];refine fW aA[?_];unfold bindSpecial;refine aA (oO (T:="function") (_,keep _ _ hf,f) ?_);rw[di ()]
 refine aH aA[cQ[go h2 (h.objs.size+1) (keep,gV fM[_],h.objs.size,made,gV aM[_],?_)][λr l u=>?_] λs s z=>z]
 .rw[<-j];exact aC _ (k ▸ aR _ rfl)
 .let(rfl,v):=u
  wp_walk
  exact v
def Arc(F:xJ B newId initId bmB)(T:zW h bmB tl)(c:h.get? C=sr[excClassObj nm q C N bs tl hdct sn sub ab col dd k0 k1 k2 k3 k5 newId])(i:h.Ns N mN)(hi:mN "__init__"=sr .ref[fI])(hf:h.get? fI=sr oI)(b:oI.cls=.type "function")(k:rest.length<=sizeLine)(go:∀a e,mL h a e .ref[C] rest->wpAny (model prog w) A.under[.builtin "type.__call__" (.ref C::rest,[])] (call .ref[fI] (.ref e::rest)) (λr f=>r=.none/\Q .ref[e] f) E (a,g,d,t,os)):
  wpAny (model prog w) A (call .ref[C] rest) Q E (h,g,d,t,os):=by
 let m:=tc_lookup;let l:=tc_bind .ref[C];let ty:((h,g,d,t,os):aN).TypeIs .ref[C] "type":=(_,c,rfl);refine jX pZ[?_]
 repeat (any_goals (first|assumption|rfl|wp_step))
 exact(rfl,codeAny_call_builtin_at (lL _ ()) entry_typeCall wpAny_check_type_call_sub[c][Bcn F T c i hi hf b k λa e j=>go a e j])
end
section
open PySem.W PySem.Builtin PySem.Builtin.ObjectAttr in
theorem Aig(self:aD):∀{own:lg aD},(own.all λa=>match a with|.ref _=>t8|_=>t7)=t8->refuseLoop self "__setattr__" (own ++ Ae9)=pure u9
 |[],_=>sI.passes self
 |.ref a::r,h=>by
  rw[sY,refuseLoop_ref];exact Aig self (by simpa using h)
open PySem.W PySem.Builtin PySem.Builtin.ObjectAttr in
nonrec def Bil{prog:bY}{w:dO}{A:eU}{E:aD->aN->Prop}{s:aN}{K:aB}{x C:aG}{o:tu}{name:t6}{v:aD}{u:ClassData}{own:lg aD}(X:K.In s.heap)(k:s.heap.get? x=sr o)(P:o.cls=.ref C)(r:o.dict=sy)(G:∀c,o.data≠.cls c)(j:clsIn K C=sr u)(hm:u.mro=own ++ Ae9)(ho:(own.all λa=>match a with|.ref _=>t8|_=>t7)=t8)(hd:u.hasDict=t8)(hs:findIn K .ref[C] "__setattr__"=sr sr[.builtin["object.__setattr__"]])(hn:findIn K .ref[C] name=sr sy)(L:mroIn K C .type["object"]=sr t8)(h:∀d l tk,s.heap.get? d=sy->d≠x->l.get? x=sr { o with dict:=sr d }->l.Ns1 d (λy=>if y=name then sr v else sy)->(∀b ob,b≠x->s.heap.get? b=sr ob->l.get? b=sr ob)->Q u9 { s with heap:=l,toks:=tk }):
  wpAny (model prog w) A (setAttr .ref[x] name v) Q E s:=by
 let I:InstAt s.heap x o C sy:=(k,P,by unfold notCls;split <;> first|(rename_i z;exact absurd z G[_])|rfl,by rw[r];exact iK)
 refine set_plain X I hs ?_;let(f,g,dr,i,os):=s;dsimp only at X k I h ⊢
 let t:=sI;let sub:Looks (model prog w) f (isInstance .ref[x] .type["object"]) t8:=I.type.andThen[looks_mroIn X L];refine gH t.slot.plain t.entry (@check_slot (model prog w) _ _ (f,g,dr,i+1,os) "object.__setattr__" "object" "__setattr__" .ref[x] [.str name i,v] [] _ t.kind t.split sub t.args[.ref[x]][.str name i][v] ?_);let lm:Looks (model prog w) f mroOf[.ref[C]] u.mro:=(looks_clsIn X j).andThen .now;rw[osa_eq,refuse_eq];refine aA aA[I.type.here[aA[lm.here[?_]]]];rw[hm,Aig _ ho];refine aH aA[I.type.here[aA[(looks_findIn X hn).here aA[aH[?_]]]]];show wpAny _ _ (storeInOwnDict .ref[x] .ref[C] (.str name i) name v t7) _ _ _;unfold storeInOwnDict
 repeat (first|(with_reducible refine fK k ?_;rw[P])|wp_step)
 unfold clsIn at j;split at j
 .rename_i c0 dd cd0 Z hK;cases j;refine zY[X _ _ hK][aH ?_];let Y:typeHasDict bI[C]=t8:=by simp[typeHasDict]
  simp only[hd,r,Y,pP,jF,if_false,aBd]
  .let m:(f.push { cls:=.type "dict",data:=.dict #[] }).get? x=sr o:=aC _ k;let ne:x≠f.objs.size:=bM aV[k];refine aA wpAny_alloc'[?_];refine aA[wpAny_update' m ?_];refine aH ?_;generalize O:((f.push { cls:=.type "dict",data:=.dict #[] }).update x λo=>{ cls:=o.cls,dict:=sr f.objs.size,data:=o.data,slots:=o.slots })=h2;let g2:h2.get? f.objs.size=sr { cls:=.type "dict",data:=.dict #[] }:=by
    rw[<-O,vJ _ _ _ _ ne.symm];exact aR _ rfl
   let T:h2.get? x=sr { o with dict:=sr f.objs.size }:=by
    rw[<-O];refine bQ _ m ?_;let fr:=(Heap.get?_some_iff.mp k).2;let(oc,od,B,osl):=o;cases B <;> first|rfl|exact fr
   let n2:h2.Ns f.objs.size (λU=>sy):=(_,#[],_,g2,rfl,λe he=>absurd he (),λU=>rfl)
   show wpAny _ _ (storeInDict f.objs.size (.str name i) name v) _ _ _;unfold storeInDict newKeyGuard;refine aA aH[aA[aBt wQ[n2] λl p n=>?_]];let(oD,esD,epD,F,H,J):=p.count[Within.cons name v Within.nil];refine aA (yJ F (by rw[H];exact yK[aF J (by rw[dZ,pY,rK];omega)]) ?_)
   wp_walk
   refine h f.objs.size l _ gV[aM[_]] ne.symm ((n.2 x ne).trans T) p λb ob L q=>?_;refine(n.2 b bM[aV[q]]).trans ?_;rw[<-O,vJ _ _ _ _ L];exact aC _ q
 .cases j
end
abbrev Abo(C:aG)(od:o9 aG)(t:aG):tu:={ cls:=.ref C,dict:=od,data:=.fields #[.ref t,.none,.none,.none,.bool t7,.none] }
section
variable{t:Nat}
def Bco{prog:bY}{w:dO}{A:eU}{E:aD->aN->Prop}{h:dD}{g:Array uL}{d:aBl}{os:aBv}{s q:t6}{C N e o:aG}{bs tl i:lg aD}{f:Bool}{r:lg t6}{sub:lg aD}{J:Bool}{l:o9 Bool}{I n:o9 aG}{z y x v u:o9 aD}{B newId initId:String}{rest:lg aD}(F:xJ B newId initId i)(T:zW h i tl)(H:h.get? C=sr[excClassObj s q C N bs tl f r sub J l I z y x v u newId])(j:h.get? e=sr[Abo C n o])(L:rest.length<=sizeLine)(go:∀k p,k.get? e=sr[Abo C n p]->(∀b ob,b≠e->h.get? b=sr ob->k.get? b=sr ob)->Q .none (k,g,d,t,os)):
  wpAny (model prog w) A (call .builtin[initId] (.ref e::rest)) Q E (h,g,d,t,os):=by
 refine jX gH[F.init.plain][F.initEntry][wpAny_check_init_subT F T H j rfl ?_];let ne:e≠h.objs.size:=bM aV[j]
 wp_walk
 refine go _ h.objs.size ?_ λb ob G q=>?_
 .rw[bQ _ (aC _ j) rfl];rfl
 .rw[bN _ _ G.symm];exact aC _ q
end
def Ad8(K:aB)(C fI:aG):Bool:=match K.lookup C with
 |some ⟨.type "type",_,.cls cd,sl⟩=>(match cd.mro,sl.toList with
  |.ref C'::tl,[_,_,_,_,sr (.builtin n),_]=>(C'==C&&n=="ValueError.__new__"&&!cd.hasDel)&&(PySem.W.tailIn K Ae9 tl&&PySem.W.nsOkIn K cd.ns)&&aY K cd.ns "__init__"==sr sr[.ref[fI]]
  |_,_=>t7)
 |_=>t7
def Apl{K:aB}{h:dD}{N:aG}{m:t6->o9 aD}{n:t6}{v:aD}(X:K.In h)(G:h.Ns N m)(e:aY K N n=sr sr[v]):m n=sr v:=by
 let(o,c,d,b,hd,_,hf):=G;unfold aY at e;split at e
 .rename_i q;let z:=X _ _ q;rw[b] at z;split at e
  .rw[<-hf];unfold nsFind findBy;simp_all
  simp_all
 trivial
nonrec def Apm{K:aB}{h:dD}{C u:aG}(X:K.In h)(q:Ad8 K C u=t8):
  ∃tl N g qn bs e f sub r b p o m k j i s,h.get? C=sr[excClassObj g qn C N bs tl e f sub r b p o m k j i "ValueError.__new__"]/\h.Ns N s/\s "__init__"=sr .ref[u]/\zW h Ae9 tl:=by
 unfold Ad8 at q;split at q
 .rename_i p A v y;split at q
  .rename_i B tl o m k j n i t hs;simp only[aL,beq_iff_eq,iW] at q;let((((rfl,rfl),a),x,hok),d):=q;let(g,bs,w,ns,qn,hd,f,sub,r,b,z):=A;dsimp only at t a hok d;subst t a;obtain⟨l⟩:=v;dsimp only at hs;subst hs;let c:h.Ns ns h.nsMap[ns]:=.of_isNs[wC X hok];exact(tl,ns,g,qn,bs,hd,f,sub,r,b,p,o,m,k,j,i,_,X _ _ y,c,Apl X c d,wF X x)
  .cases q
 .cases q
structure XsK(K:aB)(C:aG)(f:t6):Prop where
 cls:∃cd own,sG K C=sr cd/\cd.mro=own ++ Ae9/\(own.all λa=>match a with|.ref _=>t8|_=>t7)=t8/\cd.hasDict=t8
 sa:bZ K (.ref C) "__setattr__"=sr (sr (.builtin "object.__setattr__"))
 no:bZ K (.ref C) f=sr sy
 ob:lY K C (.type "object")=sr t8
structure XbK(K:aB)(B:aG):Prop where
 g:rN K (.ref B) "__getattribute__"=sr (sr (.builtin "type.__getattribute__"))
 r:zK K B (.type "type")=t8
 f:zL K (.ref B) (.type "type") "__init__"=sr (.val (.builtin "ValueError.__init__"))
def Jo(e C:aG)(od:o9 aG):HO:=.ext λh=>∃t,h.get? e=sr[Abo C od t]
def Akb(q:h.get? e=sr[Abo C b t]):Ed P w H h e (Jo e C b):=(
 ((t,q),(_,q),λ_ _ ⟨t',p⟩ k=>(t',k _ p)))
def At5(h:attributeBase o name env (eval o env)=eval o env)(few:methodCallForm b.length backTo[a][starEach b env] backToKw[a][keywordEach [] env]=t8)(i:(g.endLine==a.line)=t8):
  eval (.Call (.Attribute o name g) b [] a) env=(do
   let d<-eval o env
   standAt g.atName
   let (f,first)<-holding [d] (getMethod d name (do return (<-importBound o env).getD t8))
   callWith a f first (backTo a (starEach b env)) backToKw[a][keywordEach [] env]):=by
 let e:eval (.Call (.Attribute o name g) b [] a) env=(do
   let d<-_
   _
   methodCall o name g a env d b.length ..):=rfl
 rw[e,h];unfold methodCall methodCallPos;rw[few,i];rfl
def Bim(K:aB)(ta:TA):TE:=λσ H Q=>ta σ H λvs H1=>∃e C fI od rest,vs=.ref e::rest/\H1 e=sr[Jo e C od]/\Ad8 K C fI=t8/\rest.length<=sizeLine/\Q .non H1
def Bmd(K:aB)(ta tv:TE)(f:t6):TS:=λD σ H=>tv σ H λy H1=>ta σ H1 λx H2=>∃e C,x=.ref e/\H2 e=sr[Jo e C sy]/\XsK K C f/\∀d,H2 d=sy->D.nx σ (upd upd[H2][e][Jo e C sr[d]] d .xd[[(f,y)]])
section
def Aw3(hg:Gl X x)(Y:X.mg x=sr .ref[B])(b:XbK X.K B)(ha:PA X (a::d) A)(hd:(x==("__debug__":t6))=t7)(i:starEach (a::d) X.env=(u6 t7 (eval a X.env))::starEach d X.env)(S:(backTo c (starEach d X.env)).any (·.1)=t7)(few:methodCallForm (a::d).length backTo[c][starEach (a::d) X.env] backToKw[c][keywordEach [] X.env]=t8)(ao:(aj.endLine==c.line)=t8):
  PE[X][.Call .Attribute[.Name x np]["__init__"][aj] (a::d) [] c][Bim X.K A]:=by
 intro aa s z H Q I h;refine PySem.W.methodCall_KW[Kv I hg Y ?_ hd][At5 rfl few ao];refine PySem.W.method_cls I.kIn b.g (PySem.W.cls_value I.kIn b.r b.f rfl ?_);let I0:=I.tok[s.toks+1];let v:=ha c aa _ z H _ I0 h;rw[i] at v ⊢
 refine tU[by trivial][pU ?_]
 refine thn v λus E ⟨vs,H2,I2,r2,e,C,fI,od,rest,ev,he,hx,hl,q⟩=>?_;subst ev;cases r2 with
 |@cons _ u _ ur F G=>
  obtain rfl:u=bI e:=F;let((t,L),_,_):=(I2.hok e _ he);let(hh,g,dr,tk,os):=E;let(tl,N,nm,qn,bs,o,sn,sub,ab,col,dd,k0,k1,k2,k3,k5,mN,hC,hN,U,T):=Apm I2.kIn hx;refine Bco fH T hC L (G.length ▸ hl) λh' t' n k=>?_;let y:=I2.write (x:=e) (e:=e) (t':=tk) (he ▸ iK) .inl[rfl] k (_,n) Akb[n];let eH:upd H2 e (Jo e C od)=H2:=funext λb=>by
   by_cases p:b=e
   .subst p;rw[An,he]
   .rw[Ah p]
  rw[eH] at y;exact(.non,H2,y,rfl,q)
def Bcp(ho:PE X o U)(hv:PE X value S)(hs:swapsWith value sr[.Attribute o f p] G.line X.env=pure t7):PS[X][.Assign [.Attribute o f p] value G][Bmd X.K U S f]:=by
 intro O s E H D I h;refine oY (thn[hv O s E H _ I h] λu Y ⟨y,H1,I1,ry,q⟩=>thn[ho O Y E H1 _ I1 q] λov F ⟨x,H2,I2,rx,e,C,ex,he,k,q2⟩=>?_) hs;subst ex;obtain rfl:ov=bI e:=rx;let((t,q1),_,_):=(show Ed X.prog X.w H2 F.heap e (Jo e C sy) from I2.hok e _ he);let(cd,own,c1,c2,c3,c4):=k.cls;refine Bil I2.kIn q1 rfl rfl (λc z=>by cases z) c1 c2 c3 c4 k.sa k.no k.ob λd h' tk hd ne P J kp=>?_
 let Q:H2 d=sy:=by
  cases z:H2 d with
  |none=>rfl
  |some o=>
   let(ob,r):=(I2.hok d o z).there;rw[hd] at r;cases r
 let N:∀b,H2 b=sy->b≠e:=λb z w=>by rw[w,he] at z;cases z
 let bd:∀b o,F.heap.get? b=sr o->b≠d:=λb o z w=>by rw[w,hd] at z;cases z
 let T:∀b o,H2 b=sr o->b≠d:=λb o z w=>by rw[w,Q] at z;cases z
 let a:∀b o,H2 b=sr o->b≠e->upd upd[H2][e][Jo e C sr[d]] d .xd[[(f,y)]] b=sr o:=λb o z w=>by rw[Ah[T b o z],Ah w,z]
 let I3:Inv X O E (upd upd[H2][e][Jo e C sr[d]] d .xd[[(f,y)]]) { F with heap:=h',toks:=tk }:=by
  refine I2.un (λb o q n m m=>kp b o (N b n) q,λb o q n m m=>(o.slots,kp b o (N b n) q),λb o q n m=>by rwa [Ah[bd b o q],Ah[N b n]],λb o q m=>?_,λb xs q=>a b _ q λw=>by (rw[w,he] at q;cases q),λb o v q=>a b _ q λw=>by (rw[w,he] at q;cases q),λb ps q=>(#[],by (exact lK ▸ a b _ q λw=>by rw[w,he] at q;cases q))) λb o q=>?_
  .by_cases A:b=e
   .exact(_,A ▸ P)
   .exact(o,kp b o A q)
  .by_cases A:b=d
   .subst A;rw[An] at q;cases q;refine(_,J,λg=>?_);rw[cY];by_cases L:g=f
    .subst L;rwa [beq_self_eq_true,di rfl]
    .rw[dm L,beq_eq_false_iff_ne.mpr L];exact iK
   .rw[Ah A] at q;by_cases l:b=e
    .subst l;rw[An] at q;cases q;exact Akb (t:=t) P
    .rw[Ah l] at q;refine(I2.hok b o q).stay (λc v hc z=>kp c v (λw=>?_) z) (λc z=>a c _ z λw=>by rw[w,he] at z;cases z) λc xs z=>a c _ z λw=>by rw[w,he] at z;cases z
     rcases hc with rfl|hc
     .exact l w
     .rw[w,he] at hc;cases hc
 exact(E,_,I3,q2 d Q)
end
def Akc(C:aG)(f:t6):Sp:=λvs H Q uw=>∃e n u,vs=[.ref e,n,u]/\H e=sr[Jo e C sy]/\∀d,H d=sy->Q .non (upd upd[H][e][Jo e C sr[d]] d .xd[[(f,n)]])
section
def Bgt{P:bY}{w:dO}{K:aB}{mg:t6->o9 aD}{base:dD}{cm:Bool}{x qual B fld a b c:t6}{st:cF}{f C m r:aG}{fd:eN}{k:Nat}{np z p1 p2 v L Z Y X l:Pos}(F:Fun K x qual st f fd)(Sc:Ek [a,b,c] [a,b,c] Ai[st])(hb:Aw st=[.Expr (.Call .Attribute[.Name B np]["__init__"][z] [.Name a p1,.Name c p2] [] v) L,.Assign [.Attribute (.Name a Z) fld Y] (.Name b X) l])(hm:mg B=sr .ref[m])(O:XbK K m)(xs:XsK K C fld)(N:Ad8 K C r=t8)(hg:(Ai st).names.lookup B=sr .globalImplicit)(o:Api Ai[st] a=t8)(U:Api Ai[st] b=t8)(T:Api Ai[st] c=t8)(dB:(B==("__debug__":t6))=t7)(t:([a,b,c].all λy=>!(y==("__debug__":t6))&&!(y==("__classdict__":t6)))=t8)(hl:(z.endLine==v.line)=t8):Hl P w K mg base (CXo P w) (k+1) f fd [a,b,c] (Akc C fld) cm:=by
 simp only[eX,List.all_nil,Bool.and_true,aL,iW] at t;let((I,G),(b1,b2),c1,c2):=t;refine Fun.okX F Sc (λS H Q E h=>?_) λcdv A outer s H S Q E rm h=>?_
 .let(e,n,u,rfl,_):=h;rfl
 .let(e,n,u,rfl,p,q):=h;rw[hb];refine(_,Al6 (Aq3 (Aw3 (x:=B) (B:=m) hg hm O (Xk (Aez (i:=0) rfl Afc[o] I G) (Xk (Aez (i:=2) rfl Afc[T] c1 c2) Ajw rfl) rfl) dB rfl rfl rfl hl) rfl)
   (Aq2 (Bcp (Aez (i:=0) rfl Afc[o] I G) (Aez (i:=1) rfl Afc[U] b1 b2) rfl)),?_)
  refine(_,rfl,_,rfl,e,C,r,sy,[u],rfl,p,N,(by show 1<=sizeLine;decide),?_)
  refine(_,rfl,_,rfl,e,C,rfl,p,xs,λd dn=>q d dn)
end
section
def Inv.madeX(I:Inv X r h H s)(d:mL s.heap p e .ref[C] g):Inv X r h upd[H][e][Jo e C sy] { s with heap:=p }:=by
 let ne:∀{b:aG} {o:tu},s.heap.get? b=sr o->b≠e:=λq z=>by rw[z,d.new] at q;cases q
 let nt:∀{b:aG} {u:HO},H b=sr u->b≠e:=λq=>by
  let(o,j):=(I.hok _ _ q).there;exact ne j
 let(t,l,_,_):=d.there;refine I.step (ch:=[]) (λc z=>nomatch z) (λb o c c c q c=>d.keeps b o q) (λb o c c c q c=>(o.slots,d.keeps b o q)) (λb o c q n=>(Ah ne[q]) ▸ n)
  (λb o c q=>(o,d.keeps b o q)) (λb xs q=>(Ah nt[q]) ▸ q) (λb o u q=>(Ah nt[q]) ▸ q) (λb ps q=>(#[],(Ah nt[q]) ▸ q)) (λm k=>k.keeps d.keeps) (λa u q=>?_) I.bare
 by_cases f:a=e
 .subst f;rw[An] at q;cases q;exact Akb l
 .rw[Ah f] at q;exact(I.hok a u q).stay (λb v c z=>d.keeps b v z) (λb z=>(Ah nt[z]) ▸ z) λb xs z=>(Ah nt[z]) ▸ z
end
section
def Aw4(f:tl.contains .type["BaseException"]=t8)(d:A.handled=sy)(h:wpAny M A x (λv a=>∃e b t,v=.ref e/\a.heap.get? C=sr[excClassObj nm q C N bs tl hdct sn sub ab col dd k0 k1 k2 k3 k5 newId]/\a.heap.get? e=sr[Abo C b t]/\E .ref[e] a) E s):
  wpAny M A (raiseStmt env sr[x] sy) Q E s:=by
 let has:(bI C::tl).contains .type["BaseException"]=t8:=by rw[qZ,f,tV]
 unfold raiseStmt;refine aA[cQ h (λv a z=>?_) λc c z=>z];let(e,b,t,rfl,i,j,g):=z
 repeat (first|rfl|rfl|(with_reducible apply qI i;rw[has])|wp_step)
 exact wpAny_raiseNew_none d g
end
def Akd(X:Cx)(E:XK):Prop:=∀(aa:lg[aG×tu])(σ:St)(H:Hp)(s:aN)(e C:aG)(od:o9 aG),Inv X aa σ H s->X.s₀.heap.get? e=sy->H e=sr[Jo e C od]->(∀H',(∀b,b≠e->H' b=H b)->H' e=sy->E .ref[C] sr[u6 1 od] H')->X.xe .ref[e] s
def Bcq(ta:TA)(C:aG)(f:t6)(dvs:lg V)(E:XK):TS:=λuw σ H=>ta σ H λvs H1=>vs.length<=sizeLine/\∃n u,vs ++ dvs=[n,u]/\∀d,H1 d=sy->E .ref[C] sr[u6 1 sr[d]] (upd H1 d .xd[[(f,n)]])
def At6{k:Nat}(hx:Ad8 X.K C S=t8)(hk:cG X.K .ref[C]=t8)(a:iT X.K .ref[S]=sr .type["function"])(hex:X.ex=[])(hg:Gl X x)(hm:X.mg x=sr .ref[C])(hc:X.calm=t8)(hR:Akd X E)(F:Hl X.prog X.w X.K X.mg X.base (CXo X.prog X.w) k S fd ps (Akc C f) t8)(hr:Fq (k+1) X.A t8)(hb:Binds X.K fd ps Y)(hd:Vals y Y)(ha:PA X (c::U) ta)(hdb:(x==("__debug__":t6))=t7)(he:starEach (c::U) X.env=(u6 t7 (eval c X.env))::starEach U X.env)(hpl:(backTo j (starEach U X.env)).any (·.1)=t7):
  PS[X][.Raise sr[.Call (.Name x np) (c::U) [] j] sy pos][Bcq ta C f y E]:=by
 intro aa s σ H D I h;let(tl,N,nm,qn,bs,hdct,sn,sub,ab,col,dd,k0,k1,k2,k3,k5,mN,hC,hN,hni,T):=Apm I.ok.mod.kin hx;rw[aAl];refine aA (iM (Aw4 (C:=C) (nm:=nm) (q:=qn) (N:=N) (bs:=bs) (tl:=tl) (hdct:=hdct) (sn:=sn) (sub:=sub) (ab:=ab) (col:=col) (dd:=dd) (k0:=k0) (k1:=k1) (k2:=k2) (k3:=k3) (k5:=k5) (newId:="ValueError.__new__") T.hasType[fH.hasBase] I.ok.hd[hc] ?_));refine aA eV[Kv I hg hm ?_ hdb];refine jC (h₀:=X.base) I.ok.mod.kin hk (thn[ha j aa s σ H _ I h] λm s1 ⟨vs,H1,I1,r,hz,n,u,hnu,q⟩=>(I1.kIn,?_)) he hpl;obtain⟨Z,lI,cI⟩:∃Z,X.K.lookup S=sr Z/\Z.cls=.type "function":=by
  let a:aDq[λo:tu=>o.cls][X.K.lookup S]=sr .type["function"]:=a;cases z:X.K.lookup S with
  |none=>rw[z] at a;cases a
  |some o=>rw[z] at a;exact(o,rfl,cA a)
 let(hh,g,dr,tk,os):=s1;refine Arc fH T.keeps[I1.bk] (I1.bk _ _ hC) hN.keeps[I1.bk] hni (I1.kIn _ _ lI) cI (by simp only[nW];rwa [<-r.length]) λh' e hmade=>?_
 let I2:=I1.madeX hmade;let r2:Vals (V.ref e::(vs ++ y)) (bI e::(m ++ Y)):=.cons rfl r.append[hd];let J:Akc C f (V.ref e::(vs ++ y)) upd[H1][e][Jo e C sy] (λv H2=>v=.non/\∃d,upd H1 e (Jo e C sy) d=sy/\H2=upd upd[upd[H1][e][Jo e C sy]][e][Jo e C sr[d]] d .xd[[(f,n)]]) (λuw uw uw=>False):=(e,n,u,by rw[hnu],An,λd B=>(rfl,d,B,rfl))
 let P:(bI e::m ++ Y).length=ps.length:=by
  let z:=r2.length;rw[F.len _ _ _ _ J] at z;exact z.symm
 refine jX[gU[F.run _ X.stack _ _ (bI e::m,[]) (bI e::(m ++ Y)) _ _ _ (hr.make C m []) (I2.env0.make C m []) (hb _ (bI e::m) I2.kIn P) r2 J] λrr s' L=>?_]
 match rr,L with
 |.error e',L=>let(_,_,_,_,_,_,_,z):=L;exact z.elim
 |.ok (.ret v),L=>
  let(v',H',I3,rv,ev,d,B,eH):=I2.after L;subst ev;refine(rv,aA iM[aH[?_]]);let de:d≠e:=λz=>by rw[z,An] at B;cases B
  rw[Ah de] at B;let Q:H' e=sr[Jo e C sr[d]]:=by rw[eH,Ah de.symm,An]
  let((t,q1),_,_):=(show Ed X.prog X.w H' s'.heap e (Jo e C sr[d]) from I3.hok e _ Q);let h1e:H1 e=sy:=by
   cases z:H1 e with
   |none=>rfl
   |some o=>
    let(ob,O):=(I1.hok e o z).there;rw[hmade.new] at O;cases O
  refine(e,sr d,t,rfl,I3.bk _ _ hC,q1,hR aa σ H' s' e C sr[d] I3 ?_ Q λH'' hk' hn=>?_)
  .cases z:X.s₀.heap.get? e with
   |none=>rfl
   |some o=>
    let(o',z1):=I1.base.there e o z (by simp_all)
    rw[hmade.new] at z1;cases z1
  .let eq:H''=upd H1 d .xd[[(f,n)]]:=funext λb=>by
    by_cases i:b=e
    .rw[i,hn,Ah de.symm,h1e]
    .rw[hk' b i,eH];by_cases p:b=d
     .rw[p,An,An]
     .rw[Ah p,Ah i,Ah i,Ah p]
   exact eq ▸ q d B
section
def Xo(H:Hp)(e:aG):Hp:=λb=>if b=e then sy else H b
def Ew(h:b≠e):Xo H e b=H b:=dm h
def Mh:Xo H e e=sy:=di rfl
def Qk(h:Xo H e b=sr u):b≠e/\H b=sr u:=by
 by_cases a:b=e
 .rw[a,Mh] at h;cases h
 .rw[Ew a] at h;trivial
def Inv.fly_held(I:Inv X aa σ H s)(P:X.stack=X.env::X.outer)(O:X.env.frame=sr X.env.locals)(hex:X.ex=[])(h0:X.s₀.heap.get? e=sy)(h:H e=sr[Jo e C T])(k:∀c:dD,Fly X.prog X.w X.outer X.H₀ X.s₀ (Xo H e) e .ref[C] { s with heap:=c }->Rt 0 c e T->Q u9 { s with heap:=c }):wpAny M X.A (leaving X.env .ref[e]) Q E s:=by
 let((t,ho),_,_):=(show Ed X.prog X.w H s.heap e (Jo e C T) from I.hok e _ h);let N:∀env∈X.stack,∀a,env.frame=sr a->a∈e::frs X.stack:=λenv z a r=>bC _ (gF.mpr (env,z,r));let ff:s.heap.FunFrames (cP s.heap (e::frs X.stack)) (X.env::X.outer):=P ▸ oR I.stack N;let noex:∀b,b∉X.ex:=λb z=>by simp_all
 let U:e∉frs X.stack:=λz=>by
  let n:=I.stkFree e z;rw[h] at n;cases n
 let p:(cP s.heap (e::frs X.stack)).get? e=sy:=mK _ bF;refine Aq7 (n:=0) (B:=cP s.heap (e::frs X.stack)) (a0:=.ref t) (by rw[I.ok.frames,P]) ff O ho (λb o z=>lJ _ z) p rfl rfl rfl (λF=>rfl) λc hL cx=>k c ?_ cx
 let(G,(_,_,x2),Z,Y):=hL;let d:∀b o,s.heap.get? b=sr o->b∉frs X.stack->b≠e->c.get? b=sr o:=λb o q n z=>G b o eG[_][q][by simp[n,z]]
 let y:∀b o,s.heap.get? b=sr o->b∈frs X.stack->∃L,c.get? b=sr { o with slots:=L }:=λb o q hb=>by
  let(_,l,S,nf):=I.stack.mem hb;rw[q] at S;cases S;exact Y b o q nf
 let f:∀{b:aG} {o:tu},X.s₀.heap.get? b=sr o->b≠e:=λq z=>by grind
 refine(I.os,I.bare,(λb o q n hb F=>?_,λb o q n hb F=>?_,λb o q n F=>?_,λb o q F=>?_,λb xs q=>?_,λb o u q=>?_,λb ps q=>?_),λa u q=>?_,h0,Mh,?_)
 .exact d b o (I.base.keep b o q n hb noex[b]) (I.notStk q hb) f[q]
 .let(L,g):=I.base.slot b o q n hb noex[b];let(J,j):=y b _ g (I.fsStk P b hb);exact(J,j)
 .rw[Ew f[q]];exact I.base.free b o q n noex[b]
 .let(l,g):=I.base.there b o q noex[b];by_cases hb:b∈frs X.stack
  .let(L,j):=y b l g hb;exact(_,j)
  .exact(l,d b l g hb f[q])
 .let z:=I.base.tups b xs q;rw[Ew (λw=>by rw[w,h] at z;cases z)];exact z
 .let z:=I.base.frzs b o u q;rw[Ew (λw=>by rw[w,h] at z;cases z)];exact z
 .let(m,z):=I.base.tbls b ps q;exact(m,by rw[Ew (λw=>by rw[w,h] at z;cases z)];exact z)
 .let(r,q):=Qk q;refine(I.hok a u q).stay (λb v hb z=>d b v z (λm=>?_) ?_) (λb z=>?_) λb xs z=>?_
  .let n:=I.stkFree b m;rcases hb with rfl|hb
   .rw[n] at q;cases q
   .rw[n] at hb;cases hb
  .rcases hb with rfl|hb
   .exact r
   .rintro rfl;rw[h] at hb;cases hb
  .rw[Ew (λw=>by rw[w,h] at z;cases z)];exact z
  .rw[Ew (λw=>by rw[w,h] at z;cases z)];exact z
 .refine(_,_,(G,p,x2,Z),λb o q n hb=>eG[_][I.base.keep b o q n hb noex[b]][by simp[I.notStk q hb,f q]],λb o q hb=>?_,λa u o q z=>?_)
  .let(l,g):=I.base.there b o q noex[b];exact(l,eG _ g (by simp[I.notStk q hb,f q]))
  .let(r,q):=Qk q;let(ob,g):=(I.hok a u q).there;let j:=eG (e::frs X.stack) g (by
    let n:a∉frs X.stack:=λm=>by
     let n:=I.stkFree a m;rw[n] at q;cases q
    simp[n,r])
   let q3:=G a ob j;let z:c.get? a=sr o:=z;rw[q3] at z;cases z;exact j
end
structure XfK(K:aB)(C:aG)(f:t6):Prop where
 k:V0 K C
 hd:mC K C=t8
 no:bZ K (.ref C) f=sr sy
section
variable{prog:bY}{w:dO}{A:eU}{E:aD->aN->Prop}{h:dD}{g:Array uL}{d:aBl}{t:Nat}{os:aBv}{a C:aG}{o:tu}{od:o9 tu}{K:aB}{f:t6}{v:aD}
open PySem.W in
def Aw5{tk:Tok}(j:K.In h)(I:InstAt h a o C od)(hf:findObj K C od f=sr .value[v])(b:Q .done[.ret v] (h,g,d,t,os)):
  wpAny (model prog w) A (jY.«object.__getattribute__» ([.ref a,.str f tk],[])) Q E (h,g,d,t,os):=by
 let i:=I.type (M:=model prog w);let e:=looks_find (M:=model prog w) j I hf;refine aA aH[aA[aH[aA[i.at[aA[e.at[?_]]]]]]];exact aH b
open PySem.W in
def Bin(c:K.In h)(i:V0 K C)(I:InstAt h a o C od)(hf:findObj K C od f=sr .value[v])(p:handedIn v=t8)(n:Q v (h,g,d,t+1,os)):
  wpAny (model prog w) A (getAttr .ref[a] f b) Q E (h,g,d,t,os):=by
 let j:=I.at_;let k:=I.cls;let s:=oU.ga.bind .ref[a];let m:(b&&onTheHeap iQ["BaseException.__getattribute__"])=t7:=by cases b <;> rfl
 let e:(iQ "BaseException.__getattribute__"==iQ "object.__getattribute__")=t7:=by decide +kernel
 let l:(onTheHeap bI[C]&&iQ "BaseException.__getattribute__"==iQ "object.__getattribute__")=t7:=by rw[e];rfl
 let r:Looks[model prog w][h][typeLookup .ref[C] "__getattribute__"][sr .builtin["BaseException.__getattribute__"]]:=looks_findIn c i.ga;let q:Looks (model prog w) h (typeLookup .ref[C] "__getattr__") sy:=looks_findIn c i.gn;unfold getAttr getAttrBy;refine aA wpAny_mkText[?_]
 repeat (any_goals (first|assumption|(with_reducible refine fK j ?_;rw[k])|(with_reducible first|refine r.at ?_|refine q.at ?_)|wp_step))
 refine gH oU.ga.plain zH (Xn c i j k (Aw5 c I hf ?_));show wpAny _ _ handedOut[v] _ _ _;rw[handedOut_of p];exact aH n
end
def Bme(K:aB)(ta:TE)(f:t6):TE:=λσ H Q=>ta σ H λx H1=>(∃a C dx fs v,x=.ref a/\H1 a=sr[.ins C dx fs]/\Cls K C/\Qi K C f/\fs.lookup f=sr v/\Q v H1)\/
 ∃a C n d v,x=.ref a/\H1 a=sr[K7 a .ref[C] sr[u6 n sr[d]]]/\H1 d=sr .xd[[(f,v)]]/\XfK K C f/\Q v H1
def Bcr(Z:PE X e J)(hb:attributeBase e f X.env (eval e X.env)=eval e X.env):PE[X][.Attribute e f N][Bme X.K J f]:=by
 intro aa s B H Q I h;refine Attribute_any_[thn[Z aa s B H _ I h] λu L ⟨x,H1,I1,rx,z⟩=>?_][by rw[arm_eval_Attribute,hb]]
 rcases z with ⟨a,C,dx,fs,v,ex,r,c,n,l,q⟩|⟨a,C,n,d,v,ex,r,ed,m,q⟩
 .subst ex;obtain rfl:u=bI a:=rx;exact Ao6 I1 r c n l λG s2 I2 j=>(v,H1,I2,j,q)
 .subst ex;obtain rfl:u=bI a:=rx;let(((ob,vs,y,P,O),ok),_,_):=(I1.hok a _ r);let(S,F,t,z2,_,E):=ok n sr[d] rfl;rw[y] at t;cases t;let(T,p,U):=(I1.hok d _ ed);let(od,ho,Y):=Ah0 p;let(G,hu,j):=Vx.some_of (v:=v) (o:=T f) (by
   let z:=U f;rw[cY,beq_self_eq_true] at z;exact z)
  let(hh,g,dr,tk,os):=L;refine Bin I1.kIn m.k (y,P,by unfold PySem.W.notCls;rw[O],by rwa [E]) (vD m.hd m.no rfl (by rw[Y,hu])) Ah1[j] (v,H1,I1.tok _,j,q)
section
def Ahl:entryFor table "proto.unchain"=sr jY.«proto.unchain»:=by rfl'
def Apn(g:s.heap.get? a=sr c)(f:c.data=.fields b)(d:b[2]?=sr .none)(k:Q .none s):
  wpAny (model prog w) A runValue[.builtin "proto.unchain" ([.ref e,.ref a,.ref a,.bool t7],[])] Q E s:=(aAm[iH Ahl aA[dG g f d aH[k]]])
def At7(O:tl.contains .type["BaseException"]=t8)(J:A.handled=sr .ref[f])(L:∀s (Q:aD->aN->Prop),Q .none s->wpAny (model prog w) A c Q E s)(h:wpAny (model prog w) A x (λv a=>∃e o t,v=.ref e/\e≠f/\e≠C/\a.heap.get? C=sr[excClassObj nm q C N bs tl hdct sn sub ab col dd k0 k1 k2 k3 k5 newId]/\a.heap.get? e=sr[Abo C o t]/\
   (∃p l,a.heap.get? f=sr p/\p.data=.fields l/\l[2]?=sr .none)/\
   ∀(y:dD)(ob:tu)(k:Array aD),y.get? e=sr ob->ob.cls=.ref C->ob.dict=o->ob.data=.fields k->k[0]?=sr .ref[t]->k[1]?=sr .none->(∀b,b≠e->y.get? b=a.heap.get? b)->E .ref[e] { a with heap:=y }) E s):
  wpAny (model prog w) A (raiseStmt env sr[x] sr[c]) Q E s:=by
 let has:(bI C::tl).contains .type["BaseException"]=t8:=by rw[qZ,O,tV]
 unfold raiseStmt;refine aA[cQ h (λv a z=>?_) λG G z=>z];let(e,o,t,rfl,ne,Y,F,B,(p,l,U,T,S),P):=z;let(hp,g,d,tk,os):=a;refine aA fW[L _ _ aA[aH[?_]]];show wpAny _ _ (do let _<-holding _ (excFromValue _ _);_) _ _ _
 repeat (first|(with_reducible refine fK B ?_)|(with_reducible refine fK F ?_)|(with_reducible refine qI F ?_;rw[has])|wp_step)
 let I:=bQ[fX λx=>x.setIfInBounds 3 gD][B][by rfl]
 let m:=bQ[fX λx=>x.setIfInBounds 4 tH[t8]][I][by rfl]
 generalize r:aCt aCt[hp][e][fX λx=>x.setIfInBounds 3 gD] e (fX λx=>x.setIfInBounds 4 tH[t8])=u at m ⊢
 let j:∀b,b≠e->u.get? b=hp.get? b:=λb n=>by
  rw[<-r,bN _ _ eF[n],bN _ _ eF[n]]
 unfold raiseNew;refine aA vV[?_];rw[J];dsimp only;rw[di (show (bI f != bI e)=t8 by simpa using eF ne)]
 refine aA (fW (Apn (s:=(u,g,d,tk,os)) ((j f eF[ne]).trans U) T S aA[?_]));show wpAny _ _ (setField .ref[e] 2 .ref[f]) _ _ _;refine fU (s:=(u,g,d,tk,os)) (x:=.ref f) (i:=2) m rfl (by show 2 < 6;decide) uN[?_]
 let H:=bQ[fX λx=>x.setIfInBounds 2 bI[f]][m][by rfl]
 exact P _ _ _ H rfl rfl rfl rfl rfl λb n=>(bN _ _ eF[n]).trans (j b n)
end
section
theorem Inv.fly_suite(I:Inv X aa σ H s)(Y:X.stack=X.env::X.outer)(Q:X.env.frame=sr X.env.locals)(hex:X.ex=[])(hp:Xl X E)(h0:X.s₀.heap.get? e=sy)(f:H e=sr[Jo e C od])
(ho:h'.get? e=sr ob) (hc:ob.cls=.ref C) (hd:ob.dict=od) (dt:ob.data=.fields vs) (v0:vs[0]?=sr a0) (v1:vs[1]?=sr .none) (h:∀b,b≠e->h'.get? b=s.heap.get? b)
(hA:A'.frames=X.A.frames) (q:E σ .ref[C] sr[u6 1 od] (Xo H e)):notedBy (model X.prog X.w) A' X.env (cameBackBy (model X.prog X.w) X.A X.env X.xe) .ref[e] { s with heap:=h' }:=by
 let((t,O),_,_):=(show Ed X.prog X.w H s.heap e (Jo e C od) from I.hok e _ f);let hin:∀env∈X.stack,∀a,env.frame=sr a->a∈e::frs X.stack:=λenv z a l=>bC _ (gF.mpr (env,z,l));let fr0:h'.FunFrames X.base X.stack:=I.stack.of_keeps λb o z n=>by
  by_cases hb:b=e
  .subst hb;rw[O] at z;cases z;exact absurd rfl n[_]
  .exact(o,(h b hb).trans z,rfl)
 let ff:h'.FunFrames (cP h' (e::frs X.stack)) (X.env::X.outer):=by rw[<-Y];exact oR fr0 hin
 let noex:∀b,b∉X.ex:=λb z=>by rw[hex] at z;exact absurd z ()
 let P:(cP h' (e::frs X.stack)).get? e=sy:=mK _ bF;show wpAny _ _ (noteFrame .ref[e] X.env) _ _ _;refine Awq (n:=1) (s:={ s with heap:=h' }) (B:=cP h' (e::frs X.stack)) (by rw[hA,I.ok.frames,Y]) ff Q ho (λb o z=>lJ _ z) P dt v1 v0 (λz=>absurd z ()) λg N cx=>?_
 let(oe,ws,T,oT,ts,q1,hc1,dt1,w1,nT,nTe,qT,dT,t3):=id N.2.2.1;unfold cameBackBy;refine aA (dG (s:={ s with heap:=g }) q1 dt1 w1 ?_)
 rw[dm (show ¬ ((bI T==gD)=t8) from by simp)]
 refine Aq8 (s:={ s with heap:=g }) (o:=sr[u6 1 ob.dict]) X.env.frame N.1 N.2.1 N.2.2.1 cx.okS λp kg fg tg og smg=>?_
 rw[hc] at tg;rw[hd] at og;let up:∀{b:aG} {o:tu},s.heap.get? b=sr o->b∉frs X.stack->b≠e->(cP h' (e::frs X.stack)).get? b=sr o:=λ{b o} z n w=>eG[_][(h b w).trans z][by simp[n,w]]
 let c:∀{b:aG} {o:tu},s.heap.get? b=sr o->b∉frs X.stack->b≠e->p.get? b=sr o:=λz n w=>kg _ _ (up z n w);let j:∀{b:aG} {o:tu},s.heap.get? b=sr o->b∈frs X.stack->∃Z,p.get? b=sr { o with slots:=Z }:=λ{b o} z hb=>by
  let(_,o',z',nf):=I.stack.mem hb;rw[z] at z';cases z';let be:b≠e:=λw=>by
   rw[w,O] at z;cases z;exact nf _ rfl
  let(Z,d):=N.2.2.2 b o ((h b be).trans z) nf;let(sl',z2):=smg b _ d nf;exact(sl',z2)
 let L:∀{b:aG} {o:tu},X.s₀.heap.get? b=sr o->b≠e:=λz w=>by rw[w,h0] at z;cases z
 let G:∀{b:aG},H b=sy->b≠e:=λz w=>by rw[w,f] at z;cases z
 let F:∀b,b≠X.env.locals->b∉X.fs->b∉frs X.stack:=λb h1 U z=>(bH.mp[I.stkSub b z]).elim h1 U;let J:Inv X aa σ (Xo H e) { s with heap:=p }:=by
  refine I.step (s:=s) (g':=s.gens) (d':=s.drawn) (t':=s.toks) (h':=p) (ch:=[]) (λy z=>nomatch z) (λb o h1 U y z n=>c z (F b h1 U) G[n]) (λb o y U y z n=>j z (I.fsStk Y b U)) (λb o y z n=>by rw[Ew G[n]];exact n) (λb o y z=>?_)
   (λb xs z=>by rw[Ew (λw=>by rw[w,f] at z;cases z)];exact z) (λb o u z=>by rw[Ew (λw=>by rw[w,f] at z;cases z)];exact z) (λb ps z=>(#[],by rw[Ew (λw=>by rw[w,f] at z;cases z),lK];exact z)) (λm hm=>?_) (λa u z=>?_) I.bare
  .by_cases hb:b∈frs X.stack
   .let(Z,d):=j z hb;exact(_,d)
   .by_cases S:b=e
    .let(oe',_,_,_,_,d,_):=tg;rw[S];exact(oe',d)
    .exact(o,c z hb S)
  .let(o,es,ep,hoL,r):=hm;let(Z,d):=j hoL (I.locStk Y Q);exact(_,es,ep,d,r)
  .let(l,z):=Qk z;refine(I.hok a u z).stay (λb v hb w=>c w (λm=>?_) ?_) (λb w=>?_) λb xs w=>?_
   .let n:=I.stkFree b m;rcases hb with rfl|hb
    .rw[n] at z;cases z
    .rw[n] at hb;cases hb
   .rcases hb with rfl|hb
    .exact l
    .rintro rfl;rw[f] at hb;cases hb
   .rw[Ew (λw'=>by rw[w',f] at w;cases w)];exact w
   .rw[Ew (λw'=>by rw[w',f] at w;cases w)];exact w
 let fg':p.FunFrames (cP h' (e::frs X.stack)) X.stack:=by
  generalize cP h' (e::frs X.stack)=B at fg ⊢
  rw[Y];exact fg
 refine hp aa σ _ _ e .ref[C] sr[u6 1 od] J Mh h0 (_,a0,_,kg,P,fg',tg,λb o z n hb=>up[I.base.keep b o z n hb noex[b]][I.notStk z hb][L z],λb o z hb=>?_,λa u o z w=>?_) og q
 .let(o',d):=I.base.there b o z noex[b];exact(o',up d (I.notStk z hb) L[z])
 .let(l,z):=Qk z;let(o',d):=(I.hok a u z).there;let n:a∉frs X.stack:=λm=>by
   let n:=I.stkFree a m;rw[n] at z;cases z
  let w:p.get? a=sr o:=w;rw[c d n l] at w;cases w;exact up d n l
end
def Bcs(X:Cx)(E:St->XK):Prop:=∀(aa:lg[aG×tu])(σ:St)(H:Hp)(s:aN)(e C:aG)(od:o9 aG)(h':dD)(ob:tu)(vs:Array aD)(a0:aD),Inv X aa σ H s->X.s₀.heap.get? e=sy->H e=sr[Jo e C od]->
 h'.get? e=sr ob->ob.cls=.ref C->ob.dict=od->ob.data=.fields vs->vs[0]?=sr a0->vs[1]?=sr .none->(∀b,b≠e->h'.get? b=s.heap.get? b)->E σ .ref[C] sr[u6 1 od] (Xo H e)->X.xe .ref[e] { s with heap:=h' }
def Ard(ta:TA)(C:aG)(f:t6)(dvs:lg V)(ea:aG)(E:St->XK):TS:=λuw σ H=>ta σ H λvs H1=>vs.length<=sizeLine/\(∃cls od,H1 ea=sr[K7 ea cls sr[u6 0 od]])/\∃n u,vs ++ dvs=[n,u]/\∀d,H1 d=sy->E σ .ref[C] sr[u6 1 sr[d]] (upd H1 d .xd[[(f,n)]])
def At8{k j:Nat}(hx:Ad8 X.K C fI=t8)(hk:cG X.K .ref[C]=t8)(a:iT X.K .ref[fI]=sr .type["function"])(hex:X.ex=[])(hg:Gl X x)(hm:X.mg x=sr .ref[C])(hh:X.A.handled=sr .ref[ea])(hR:Bcs X E)(F:Hl X.prog X.w X.K X.mg X.base (CXo X.prog X.w) k fI fd ps (Akc C f) cm)(hr:Fq (k+1) X.A cm)(hb:Binds X.K fd ps ds)(hd:Vals J ds)(ha:PA X (i::es) ta)(hdb:(x==("__debug__":t6))=t7)(he:starEach (i::es) X.env=(u6 t7 (eval i X.env))::starEach es X.env)(hpl:(backTo cpos (starEach es X.env)).any (·.1)=t7):
  PS[X][.Raise sr[.Call (.Name x np) (i::es) [] cpos] sr[.Constant .none j kpos] pos][Ard ta C f J ea E]:=by
 intro aa s σ H D I h;let(tl,N,nm,qn,bs,hdct,sn,sub,ab,col,dd,k0,k1,k2,k3,k5,mN,hC,hN,hni,T):=Apm I.ok.mod.kin hx;rw[aAl];refine aA (iM (At7 (C:=C) (nm:=nm) (q:=qn) (N:=N) (bs:=bs) (tl:=tl) (hdct:=hdct) (sn:=sn) (sub:=sub) (ab:=ab) (col:=col) (dd:=dd) (k0:=k0) (k1:=k1) (k2:=k2) (k3:=k3) (k5:=k5) (newId:="ValueError.__new__") T.hasType[fH.hasBase] hh (λs Q q=>?_) ?_))
 .exact aA aBe[aA[iM[aH[q]]]]
 refine aA eV[Kv I hg hm ?_ hdb];refine jC (h₀:=X.base) I.ok.mod.kin hk (thn[ha cpos aa s σ H _ I h] λp s1 ⟨vs,H1,I1,r,hz,⟨cls,odA,hea⟩,n,u,hnu,q⟩=>(I1.kIn,?_)) he hpl;obtain⟨oI,lI,cI⟩:∃oI,X.K.lookup fI=sr oI/\oI.cls=.type "function":=by
  let a:aDq[λo:tu=>o.cls][X.K.lookup fI]=sr .type["function"]:=a;cases z:X.K.lookup fI with
  |none=>rw[z] at a;cases a
  |some o=>rw[z] at a;exact(o,rfl,cA a)
 let(hh',g,dr,tk,os):=s1;refine Arc fH T.keeps[I1.bk] (I1.bk _ _ hC) hN.keeps[I1.bk] hni (I1.kIn _ _ lI) cI (by simp only[nW];rw[<-r.length];exact hz) λh' e hmade=>?_
 let I2:=I1.madeX hmade;let r2:Vals (V.ref e::(vs ++ J)) (bI e::(p ++ ds)):=.cons rfl r.append[hd];let S:Akc C f (V.ref e::(vs ++ J)) upd[H1][e][Jo e C sy] (λv H2=>v=.non/\∃d,upd H1 e (Jo e C sy) d=sy/\H2=upd upd[upd[H1][e][Jo e C sy]][e][Jo e C sr[d]] d .xd[[(f,n)]]) (λuw uw uw=>False):=(e,n,u,by rw[hnu],An,λd L=>(rfl,d,L,rfl))
 let Z:(bI e::p ++ ds).length=ps.length:=by
  let z:=r2.length;rw[F.len _ _ _ _ S] at z;exact z.symm
 refine jX[gU[F.run _ X.stack _ _ (bI e::p,[]) (bI e::(p ++ ds)) _ _ _ (hr.make C p []) (I2.env0.make C p []) (hb _ (bI e::p) I2.kIn Z) r2 S] λrr s' U=>?_]
 match rr,U with
 |.error e',U=>let(_,_,_,_,_,_,_,z):=U;exact z.elim
 |.ok (.ret v),U=>
  let(v',P,I3,rv,ev,d,L,eH):=I2.after U;subst ev;refine(rv,aA iM[aH[?_]]);let de:d≠e:=λz=>by rw[z,An] at L;cases L
  rw[Ah de] at L;let he3:P e=sr[Jo e C sr[d]]:=by rw[eH,Ah de.symm,An]
  let((t,q1),_,_):=(show Ed X.prog X.w P s'.heap e (Jo e C sr[d]) from I3.hok e _ he3);let h1e:H1 e=sy:=by
   cases z:H1 e with
   |none=>rfl
   |some o=>
    let(ob,Y):=(I1.hok e o z).there;rw[hmade.new] at Y;cases Y
  let G:ea≠e:=λz=>by rw[z,h1e] at hea;cases hea
  let ead:ea≠d:=λz=>by rw[z,L] at hea;cases hea
  let hea3:P ea=sr[K7 ea cls sr[u6 0 odA]]:=by rw[eH,Ah ead,Ah G,Ah G];exact hea
  let((_,oka),_,_):=(show Ed X.prog X.w P s'.heap ea (K7 ea cls sr[u6 0 odA]) from I3.hok ea _ hea3);let(oa,va,w1,w2,w3,_):=oka 0 odA rfl;refine(e,sr d,t,rfl,G.symm,λz=>?_,I3.bk _ _ hC,q1,(oa,va,w1,w2,w3 rfl),λh2 ob vs2 z1 z2 z3 z4 z5 z6 z7=>hR aa σ P s' e C sr[d] h2 ob vs2 _ I3 ?_ he3 z1 z2 z3 z4 z5 z6 z7 ?_)
  .let n1:=hmade.new;rw[z,show hh'.get? C=sr _ from I1.bk _ _ hC] at n1;cases n1
  .cases z:X.s₀.heap.get? e with
   |none=>rfl
   |some o=>
    let(o',z1):=I1.base.there e o z (by rw[hex];simp)
    rw[hmade.new] at z1;cases z1
  .let eq:Xo P e=upd H1 d .xd[[(f,n)]]:=funext λb=>by
    by_cases l:b=e
    .rw[l,Mh,Ah de.symm,h1e]
    .rw[Ew l,eH];by_cases B:b=d
     .rw[B,An,An]
     .rw[Ah B,Ah l,Ah l,Ah B]
   rw[eq];exact q d L
def PA.nox(h:PA X.nox g t):PA X g t:=(λa i s b H Q I q=>
 cQ[h a i s b H Q I.wish[_] q][λ_ _ ⟨vs,H',I',r',q'⟩=>(vs,H',I'.unwish,r',q')] λd d z=>z.elim)
def Bmf(K:aB)(C C2:aG)(f:t6)(dvs:lg V)(E:St->XK)(tb:(St->XK)->TS)(ta:TA):TS:=λD σ H=>
 tb (λσ' cls o H'=>dN K cls .ref[C]=sr t8/\∀ea,H' ea=sy->Ard ta C2 f dvs ea E D σ' upd[H'][ea][K7 ea cls o]) D σ H
def Bct{k j:Nat}(S:X.stack=X.env::X.outer)(p:X.env.frame=sr X.env.locals)(O:X.ex=[])(hP:Xl X E)(hg:Gl X x)(hm:X.mg x=sr .ref[C])(hd:(x==("__debug__":t6))=t7)(hb:∀(pn:lg[aG×tu])(xe:aD->aN->Prop)(E:St->XK),Cm[CXo X.prog X.w][X.tryB pn xe][E]->PSs (X.tryB pn xe) body tb[E])(hx:Ad8 X.K C2 fI=t8)(hk:cG X.K .ref[C2]=t8)(hft:iT X.K .ref[fI]=sr .type["function"])(hg2:Gl X y)(hm2:X.mg y=sr .ref[C2])(F:Hl X.prog X.w X.K X.mg X.base (CXo X.prog X.w) k fI fd ps (Akc C2 f) t7)(hr:Fq (k+1) X.A t7)(hbi:Binds X.K fd ps ds)(hdv:Vals dvs ds)(ha:∀e,PA X.suite[e] (g::U) ta)(hdb:(y==("__debug__":t6))=t7)(he:starEach (g::U) X.env=(u6 t7 (eval g X.env))::starEach U X.env)(hpl:(backTo cpos (starEach U X.env)).any (·.1)=t7):
  PS[X][.Try body [.ExceptHandler sr[.Name x np] sy [.Raise sr[.Call (.Name y yp) (g::U) [] cpos] sr[.Constant .none j kpos] L] hpos] [] [] pos][Bmf X.K C C2 f dvs E tb ta]:=by
 intro Y s σ H D I h;refine pK[cQ[hb (X.pn ++ Y) _ _ ?pass [] s σ H D I.tryIn h][λf s1 q=>?_] λe s1 q=>q]
 case pass=>
  intro pins' G H1 s1 e s2 i hcx;let(ea,cls,H2,o,rfl,F2,ox,hx2,q):=hcx;let i:Inv X Y G H1 s1:=i.tryOut;let(B,a0,fl,k1,kE,k2):=F2.fly;let P:=fl;rw[S] at P;refine Apf (by rw[i.ok.frames,S]) p P ox λh4 c ox4 sm4=>?_
  refine Wz c.1 c.2.1 c.2.2.1 c.2.2.2 ox4 λh5 d ox5 sm5=>?_;let Q:∀b o,X.base.get? b=sr o->h5.get? b=sr o:=λb o e=>d.1 b o (k1 b o (i.bs b o e).1 (i.bs b o e).2 λm=>by
   let z:=(i.stack.mem m).1;rw[e] at z;cases z)
  let K5:X.K.In h5:=i.ok.mod.kin.keeps Q;let LT:vQ (model X.prog X.w) h5 typeOf[.ref[ea]] cls:=by
   let(ob,ho,hc):=d.there;exact hc ▸ (sW ho).andThen .now
  refine qH pA[?_] (by intro q;cases q)
  refine gZ i.ok.kind hg (kZ (by rw[i.ok.glob];exact i.mod.glob.keeps Q) hm ?_) hd
  refine(uC K5 LT hx2) _ _ _ _ (λn n e=>e) ?_;show codeAny _ _ _ _ _;refine tR[Wz d.1 d.2.1 d.2.2.1 d.2.2.2.at ox5 λh6 fl6 ox6 sm6=>?_];let l:=fl6;rw[<-S] at l;let I6:=i.caught S p F2 fl k1 kE k2 l sm4.trans[sm5.trans[sm6]] ox6;let step:=Aq2 (At8 (X:=(X.suite ea).wish notedBy[model X.prog X.w][X.A.mark sr[.ref[ea]]][X.env][cameBackBy (model X.prog X.w) X.A X.env X.xe]) (ea:=ea) (np:=yp) (cpos:=cpos) (kpos:=kpos) (pos:=L) (j:=j) hx hk hft O hg2 hm2 rfl (λY σ H s e C od h' ob vs a0 J h0 he' z1 z2 z3 z4 z5 z6 z7 z8=>
   Inv.fly_suite J.unwish.suiteOut[I.ok.hd] S p O hP h0 he' z1 z2 z3 z4 z5 z6 z7 rfl z8) F hr.mark hbi hdv PA.nox[ha[ea]] hdb he hpl)
  refine cQ (step Y { s2 with heap:=h6 } G _ { nx:=λn n=>False,rt:=λn n=>False } ((I6.suiteIn ea).wish _) (q ea F2.fre)) (λf s8 T=>?_) λn n z=>z
  cases f with
  |next=>let(_,_,_,z):=T;exact z.elim
  |brk=>let(_,_,_,z):=T;exact z.elim
  |cont=>let(_,_,_,z):=T;exact z.elim
  |ret u=>let(_,_,_,_,_,z):=T;exact z.elim
 .cases f with
  |next=>let(a,t,r,z):=q;exact jL (a,t,r.tryOut,z)
  |brk=>let(a,t,r,z):=q;exact(a,t,r.tryOut,z)
  |cont=>let(a,t,r,z):=q;exact(a,t,r.tryOut,z)
  |ret u=>let(v,a,t,r,r8,z):=q;exact(v,a,t,r.tryOut,r8,z)
section
def At9(t:uR)(n:Nat):(t.orStandIn n).led=t.led/\(t.plain=t7->(t.orStandIn n).plain=t7):=by
 unfold SetTable.orStandIn;split
 .exact(rfl,id)
 .exact(rfl,λb=>rfl)
def Aua(t:uR)(b:Array[Int×aD])(h:Int)(x:aD):(layNew t b h x).2.1.led=t.led/\(t.plain=t7->(layNew t b h x).2.1.plain=t7):=by
 unfold layNew;split
 .exact At9 ..
 .exact(rfl,λc=>rfl)
nonrec def Aub(t:uR)(a:Array[Int×aD])(n:Nat)(e:t.plain=t7):(relayAll t a n).2.1.led=t.led/\(relayAll t a n).2.1.plain=t7:=by
 unfold relayAll;split
 .rename_i f order h;dsimp only;split
  .unfold SetTable.relaid SetTable.laid at h;simp only[Option.bind_eq_bind,oH,Option.pure_def,gQ,Prod.mk.injEq] at h;let(_,_,rfl,_):=h;trivial
  trivial
 trivial
def kvS(e:Int×aD):t6:=match e.2 with
 |.str x _=>x
 |_=>""
def Ake{c:lg[Int×aD]}(h:aBw (dI P w) c){e:Int×aD}(f:e∈c):(∃tk,e.2=.str kvS[e] tk)/\(dI P w).is kvS[e] e.2=t8:=by
 let((k,b,_),_):=h e f;let(tk,z):=vC b;have:kvS e=k:=by unfold kvS;rw[z]
 exact this ▸ ((tk,z),b)
def SetT(P:bY)(w:dO)(h:dD)(a:aG)(ks:lg t6)(led:Bool):Prop:=∃o es ep t,h.get? a=sr o/\o.ExactSet/\o.data=.set es ep t/\aBw (dI P w) es.toList/\es.toList.map kvS=ks/\t.fits es.size=t8/\es.size < scanBound/\t.led=led/\(ks≠[]->t.plain=t7)
def Ami{c:lg[Int×aD]}(h:aBw (dI P w) c):(c.findIdx? λe=>(dI P w).is y e.2)=sy ↔ y∉c.map kvS:=by
 rw[List.findIdx?_eq_none_iff,fC];constructor
 .rintro q ⟨e,a,rfl⟩;have:=q e a;rw[(Ake h a).2] at this;trivial
 .intro q e a;cases z:(dI P w).is y e.2 with
  |false=>rfl
  |true=>exact absurd (e,a,(dI P w).inj _ _ _ (Ake h a).2 z) q
def Bmg{h:dD}{a:aG}{o:tu}{d es':Array[Int×aD]}{b:Nat}{t t':uR}(c:h.get? a=sr o)(hd:o.data=.set d b t):(h.update a (aAn es' t')).get? a=sr { o with data:=.set es' (b+1) t' }:=by
 have:=bQ (aAn es' t') c (by rw[putSet_of es' t' hd];rfl)
 rw[putSet_of es' t' hd] at this;omega
def Bgu{g:Bool->Sem Unit}(G:∀(b:Bool)(e:aN)(z:Unit->aN->Prop),z u9 e->wpAny (model P w) A g[b] z E e){a:aG}{o:tu}{H c:Array[Int×aD]}{I:Nat}{t t2:uR}{f B:Bool}{R:o9 Bool->aN->Prop}(u:s.heap.get? a=sr o)(i:o.ExactSet)(hd:o.data=.set H I t)(el:aBw (dI P w) c.toList)(x:c.size < scanBound)(hf:t2.fits c.size=t8)(v:t2.led=f)(hp:t2.plain=t7)(k:∀p h,gM a s.heap p->SetT P w p a h f->h.Perm c.toList.map[kvS]->R sr[t8] { s with heap:=p }):
  wpAny (model P w) A (do
   storeSet a c t2
   if (!B&&t2.tooFull)=t8 then do
    g (relayAll t2 c lD[c.size]).2.2
    storeSet a (relayAll t2 c lD[c.size]).1 (relayAll t2 c lD[c.size]).2.1
    pure sr[t8]
   else pure sr[t8]) R E s:=by
 refine aA[xK u hd ?_ rW[x]];let n:=Bmg (es':=c) (t':=t2) u hd;let r:=iG s.heap a (aAn c t2);split
 .let m:=relayAll_perm t2 c lD[c.size];let y:=relayAll_fits t2 c lD[c.size];let q:=Aub t2 c lD[c.size] hp;generalize relayAll t2 c lD[c.size]=L at m y q ⊢
  let(j,F,S):=L;let b2:j.size < scanBound:=by rwa [<-aX,m.length_eq,aX]
  exact aA[G _ _ _ aA[xK n rfl aH[k _ _ r.trans[iG _ a _] (_,j,_,F,Bmg n rfl,i,rfl,el.perm m,rfl,y,b2,q.1.trans v,λC=>q.2) m.map[kvS]] rW[b2]]]
 .exact aH[k _ _ r (_,c,_,t2,n,i,rfl,el,rfl,hf,x,v,λC=>hp) .rfl]
def Bpi{a:aG}{d:lg t6}{n:Bool}{y:t6}{tk:Tok}{Q:Bool->aN->Prop}(X:SetT P w s.heap a d n)(hr:d.length+1 < scanBound)(k:∀l b c,gM a s.heap l->SetT P w l a c n->c.Perm (if y∈d then d else d ++ [y])->Q b { s with heap:=l }):
  wpAny (model P w) A setAddHashed[a][.str y tk][(dI P w).hash y] Q E s:=by
 let(o,u,ep,t,C,x,hd,g,i,hf,hb,U,hp):=id X;let m:(dI P w).is y (.str y tk)=t8:=by simp[dI,rY]
 let v:u.size=d.length:=by rw[<-i,aK,aX]
 unfold setAddHashed setAddHashedIn;refine fW aA[jT C hd hf ?_];dsimp only;rw[byScan_of rfl hb g];simp only[↓reduceIte];unfold setAddByScan;refine aA aA[pM[aA[wpAny_setScan_of m C hd hf g ?_]]];cases p:aBf (λe=>(dI P w).is y e.2) u.toList with
 |some j=>
  dsimp only;let T:y∈d:=i ▸ aAw λz=>by rw[(Ami g).mpr z] at p;cases p
  refine aH aH[?_];have:=k s.heap t7 d (aEa a s.heap) X (by simp_all)
  exact this
 |none=>
  dsimp only;let T:y∉d:=i ▸ (Ami g).mp p;let r:=layNew_perm t u ((dI P w).hash y) (.str y tk);let F:=layNew_fits t u ((dI P w).hash y) (.str y tk);let G:=Aua t u ((dI P w).hash y) (.str y tk);generalize layNew t u ((dI P w).hash y) (.str y tk)=L at r F G ⊢
  let(q,t1,wd,gv):=L;dsimp only at r F G ⊢
  rw[xM] at r;let el:=(g.push m rfl).perm r;let b1:q.size < scanBound:=by rwa [<-aX,r.length_eq,bD,aX,v]
  let pk:(q.toList.map kvS).Perm (if y∈d then d else d ++ [y]):=by
   rw[dm T];let z:=r.map kvS;rw[dJ,i] at z;exact z
  let I:∀(b:Bool)(f:aN)(N:Unit->aN->Prop),N u9 f->wpAny (model P w) A (match b with|true=>rule "set.scan.the-table-gave-way"|false=>pure u9) N E f:=λb f N S=>by cases b <;> first|exact aH S|exact pM S
  refine aA[I _ _ _ ?_];let B:∀l c,gM a s.heap l->SetT P w l a c n->c.Perm q.toList.map[kvS]->wpAny (model P w) A (match (sr t8:o9 Bool) with|some added=>pure added|none=>setAddHashedIn a (.str y tk) ((dI P w).hash y) 99999) Q E { s with heap:=l }:=λl c sb S' p'=>aH[k l t8 c sb S' p'.trans[pk]]
  split
  .apply aA;rw[hashByValue_scannable 8 rfl];refine aH (Bgu (t2:={ t1 with plain:=false }) I C x hd el b1 SetTable.fits_plain_off[F] G.1.trans[U] rfl B)
  .rename_i H;refine aA aH[?_];simp only[↓reduceIte];exact Bgu I C x hd el b1 F G.1.trans[U] (by simpa using H) B
def Aih:entryFor table "set.update.loop"=sr jY.«set.update.loop»:=(yR[by rfl])
def Abp:plainId "set.update.loop"=t8:=by decide +kernel
def InS(ss:lg t6)(i:Nat)(ks:lg t6):Prop:=ks.Nodup/\(∀x,x∈ks ↔ x∈ss.take i)/\ks.length<=i
def InS.step{i:Nat}(h:InS c i d)(k:c[i]?=sr y)(p:e.Perm (if y∈d then d else d ++ [y])):InS c (i+1) e:=by
 let(j,g,o):=h;let tk:c.take[i+1]=c.take i ++ [y]:=by rw[uT,k];rfl
 by_cases f:y∈d
 .rw[di f] at p;refine(p.nodup_iff.mpr j,λx=>?_,by rw[p.length_eq];omega)
  rw[p.mem_iff,g,tk,cU,aZ];simp_all
 .rw[dm f] at p;refine(p.nodup_iff.mpr ?_,λx=>?_,by rw[p.length_eq,bD,fY];omega)
  .rw[oV];exact(j,(),λa n b l=>by rw[aZ.mp l];rintro rfl;trivial)
  .rw[p.mem_iff,tk,cU,cU,g]
def Bmh{n:Nat}{L:Nat->aD->Prop}{St:Nat->dD->Prop}(W:aDx P w A.in1 I fp wr n L St)(J:a∉fp)(hn:ss.length=n)(hz:n < 4000)(hP:∀i v,L i v->∃x tk,ss[i]?=sr x/\v=.str x tk):
  ∀(k i:Nat)(s:aN)(g:lg t6),n - i=k->i<=n->St i s.heap->SetT P w s.heap a g led->InS ss i g->
  (∀j tk c,(∀b o,b∉wr->b≠a->s.heap.get? b=sr o->j.get? b=sr o)->SetT P w j a c led->InS ss n c->R .ok[.ret[.none]] { s with heap:=j,toks:=tk })->
  codeAny (model P w) A (.builtin "set.update.loop" ([.ref a,.ref I],[])) R s:=by
 let aw:a∉wr:=λh=>J[W.sub _ h];let keep:∀{h j:dD} {g:lg t6},SetT P w h a g led->(∀b o,b∉wr->h.get? b=sr o->j.get? b=sr o)->SetT P w j a g led:=λ⟨o,es,ep,t,Z,r⟩ q=>(o,es,ep,t,q a o aw Z,r);intro k;induction k with
 |zero=>
  intro i s g hk hi st S d C;obtain rfl:i=n:=by omega
  apply iH Aih;rw[jU Abp _];show wpAny _ A.in1 (pyNext .ref[I] >>= _) _ _ s;refine aA[W.done s _ _ st λj tk q=>?_];exact aH (C j tk g (λb o n uw e=>q b o n e) (keep S q) d)
 |succ k T=>
  intro i s g hk hi st S d C;let m:i < n:=by omega
  apply iH Aih;rw[jU Abp _];show wpAny _ A.in1 (pyNext .ref[I] >>= _) _ _ s;refine aA[W.item i s _ _ m st λv h1 tk Y y G=>?_];let(x,F,X,rfl):=hP i v Y;show wpAny _ A.in1 (holding [.str x F] setAdd[a][.str x F] >>= _) ..
  unfold setAdd;refine aA (fW (fW (aA ((dI P w).pyHash (k:=x) (by simp[dI,rY]) ?_))))
  refine Bpi[keep S G][jG (Nat.add_le_add_right d.2.2 1) (by show i+1 < 4096;omega)] λh2 b c N S2 Q=>?_
  let l:∀b o,b≠a->h1.get? b=sr o->h2.get? b=sr o:=λb o n e=>(N.2 b n).trans e;refine aH (pQ Abp _,T (i+1) _ c () m (W.frame _ _ _ y λb hb o e=>l b o (λz=>J[z ▸ hb]) e) S2 (d.step X Q) λh3 u B O S3 U=>?_)
  exact C h3 u B (λb o n H e=>O b o n H (l b o H (G b o n e))) S3 U
end
abbrev byT(w:dO):Bool:=w.params.followText "set-order"
abbrev Apo(w:dO):tu:={ cls:=.type "set",dict:=sy,data:=.set #[] 0 .fresh[0][0][!byT w] }
section
def tc1:checkTypeCall "set" ([v],[])=pure u9:=by rfl'
def nc1:checkBuiltinCall "set.__new__" ([.type "set",v],[])=pure u9:=by rfl'
def Aw6(h:Q₁ .ref[s.heap.objs.size] { s with heap:=s.heap.push Apo[w] }):codeAny[model P w][A][.call .builtin["set.__new__"] ([.type "set",v],[])][wants Q₁ E][s]:=by
 apply pZ;refine aA rR[nc1][aH (pQ zM _,iH F.entry_set_new ?_)];rw[jU zM _];unfold jY.«set.__new__» aAo;let a:=aBx;dsimp only
 wp_walk
 refine lE aH[?_];dsimp only;simp only[newObj];exact aA wpAny_alloc[aH[aH[h]]]
def Amj(b:s.TypeIs self "set")(e:Q u9 s):wpAny M A (checkBuiltinCall "set.__init__" ([self,v],[])) Q E s:=by
 simp only[checkBuiltinCall,kind_set_init,split_set_init,sig_set_init];refine aA[mY b aBx ?_];simp only[pP,jF,if_false];unfold Bind.checkArgs;dsimp only;refine aA (m:=Bind.printed "*" t7 ..) (aAx (self:=self) rfl b λshort=>?_);let c:(if (aBy==aBz)=t8 then [self,v].length else [self,v].length - 1)=1:=rfl
 rw[c];simp only[tW];let d:Bind.check (.positional,"set","*",.self,[("iterable",.posOnly,t7)]) "set" short 1 []=pure u9:=rfl;exact d ▸ aH e
def Akf:isSubtype .type["list"] .type["set"]=pure t7:=by rw[uU];rfl
def Akg:isSubtype .type["list"] .type["frozenset"]=pure t7:=by rw[uU];rfl
def Aw7(h:pO a b):∀(i:Nat)(v:aD),a[i]?=sr v->∃x tk,b[i]?=sr x/\v=.str x tk:=by
 induction h with
 |nil=>intro i v e;trivial
 |cons y tk _ c=>
  intro i v e;cases i with
  |zero=>cases e;exact(y,tk,rfl,rfl)
  |succ i=>exact c i v e
def Ru(h:pO a b):a.length=b.length:=by
 induction h with
 |nil=>rfl
 |cons _ _ _ c=>exact congrArg _ c
def Auc(u:A.handled=sy)(g:s.heap.get? a=sr Apo[w])(h:s.heap.IsList l items)(hs:pO items.toList ss)(t:ss.length < 4000)(k:∀c tk f,(∀b o,b≠a->s.heap.get? b=sr o->c.get? b=sr o)->SetT P w c a f (!byT w)->InS ss ss.length f->Q .done[.ret .none] { s with heap:=c,toks:=tk }):
  wpAny (model P w) A (jY.«set.__init__» ([.ref a,.ref l],[])) Q E s:=by
 let F:s.TypeIs .ref[a] "set":=(_,g,rfl);let j:=h.typeIs;let C:=Akf;let B:=Akg;unfold jY.«set.__init__» noKeywords
 repeat (first|(with_reducible refine aA[oK h ?_])|(with_reducible refine oK h ?_)|wp_step)
 let r:l≠a:=λz=>by
  let(o,d,m):=j;rw[z,g] at d;cases d;exact absurd m ()
 let y:a≠s.heap.objs.size:=bM aV[g];let p:l≠s.heap.objs.size:=by
  let(o,d,_):=j;exact bM aV[d]
 refine Bmh (aDr (A:=A.in1) u s.heap.objs.size l p items) (led:=!byT w) (ss:=ss) (by simp[y,r.symm]) (by rw[<-Ru hs,aX]) (by rw[<-aX,Ru hs];exact t) (λi v e=>Aw7 hs i v (by rw[jK];exact e)) items.size 0 _ [] aCa[_] dM[_] ((_,aR _ rfl,rfl,rfl),h.push _) ?_ ((),(),aM _) λc tk f q S i=>?_
 .exact(_,#[],0,_,aC _ g,(rfl,rfl,rfl),rfl,λe x=>by simp at x,rfl,rfl,(),rfl,λz=>absurd rfl z)
 .let e:items.size=ss.length:=by rw[<-Ru hs,aX]
  rw[e] at i;exact aH aH[k c tk f (λb o n z=>q b o (by simp only[aZ];exact bM aV[z]) n (aC _ z)) S i]
def Aud(G:A.handled=sy)(C:s.heap.IsList l items)(hs:pO items.toList n)(y:n.length < 4000)(k:∀j tk m,(∀b o,s.heap.get? b=sr o->j.get? b=sr o)->SetT P w j s.heap.objs.size m (!byT w)->InS n n.length m->Q .ref[s.heap.objs.size] { s with heap:=j,toks:=tk }):
  wpAny (model P w) A (call .type["set"] [.ref l]) Q E s:=by
 let(c,tl,u):=lM.mro;let hmade:=lM.made;let t:=lM.sub;refine jX pZ[?_];show wpAny _ _ (callAny .type["set"] _) ..
 refine aH (lL _ (),iH wX ?_)
 rw[wG (uG "set" [.ref l] []) rfl];let T:=lM.notType;let O:=lM.canCreate;let H:=tc1 (v:=.ref l)
 repeat (any_goals (first|assumption|wp_step))
 refine gU (Aw6 (E:=E) (Q₁:=λobj f=>obj=.ref s.heap.objs.size/\f={ s with heap:=s.heap.push Apo[w] }) (rfl,rfl)) λr f p=>?_
 cases r with
 |error e=>exact p
 |ok L=>
  cases L with
  |ret obj=>
   let(rfl,rfl):=p;let x:(s.heap.push Apo[w]).get? s.heap.objs.size=sr Apo[w]:=aR _ rfl;let J:aBg { s with heap:=s.heap.push Apo[w] } (.ref s.heap.objs.size) "set":=(_,x,rfl)
   let B:=lM.init.lookup;let I:=lM.init.bind .ref[s.heap.objs.size]
   repeat (any_goals (first|assumption|wp_step))
   refine gU (gH (R:=wants (λr d=>r=.none/\Q .ref[s.heap.objs.size] d) E) lM.init.plain F.entry_set_init (Amj J ?_)) λh d a=>?_
   .refine Auc (s:={ s with heap:=s.heap.push Apo[w] }) G x C.push[_] hs y λj tk m q S i=>(rfl,k j tk m (λb o z=>q b o bM[aV[z]] (aC _ z)) S i)
   .cases h with
    |error e=>exact a
    |ok g=>
     cases g with
     |ret r=>
      let(rfl,N):=a
      repeat (any_goals (first|assumption|wp_step))
     |_=>exact a.elim
  |_=>exact p.elim
end
section
def Bcu{n:Nat}{Q:Nat->aN->Prop}(hn:n≠0)(h:∀i d,i < n->Q i { s with drawn:=d }):wpAny M A (choose src n) Q E s:=λΓ p uw=>(hn,h _ _ (aDs _ Nat.pos_of_ne_zero[hn]))
theorem W2{b:Type}:∀(xs:lg b)(i:Nat)(h:i < xs.length),((getElem[xs][i][by get_elem_tactic])::xs.eraseIdx i).Perm xs
 |_::_,0,_=>.rfl
 |x::xs,i+1,h=>(aEi ..).trans ((W2 xs i _).cons x)
theorem Bgv{e:Type}:∀(n:Nat)(xs:lg e)(s:aN)(Q:lg e->aN->Prop),xs.length=n->(∀c d,c.Perm xs->Q c { s with drawn:=d })->wpAny M A (drawOrder n xs) Q E s
 |0,xs,s,Q,hn,h=>by
  obtain rfl:=lH hn;exact aH (h [] s.drawn .rfl)
 |n+1,[],s,Q,hn,h=>by trivial
 |n+1,x::xs,s,Q,hn,h=>by
  refine aA[Bcu () λi d hi=>?_]
  exact(aQ hi) ▸ aA[Bgv n _ _ _ (by rw[rA hi,hn];rfl) λc f p=>aH h[_][f][(p.cons _).trans (W2 _ i hi)]]
end
def slot_set_iter:Slot "set" "__iter__" "set.__iter__":=(
 .of (owner:="set") (n:="__iter__") (by rfl) (by rfl) (by rfl) (by rfl) (by trivial) (by rfl))
def Afg:entryFor table "set.__iter__"=sr jY.«frozenset.__iter__»:=(
 aAp (id':="frozenset.__iter__") (by rfl') rfl () (by rfl))
def Ahm(a:aD):argsOk "set.__iter__" ([a],[]):=by rfl'
def Cr:Slot "set_iterator" "__next__" "set_iterator.__next__":=(
 .of (owner:="set_iterator") (n:="__next__") (by rfl) (by rfl) (by rfl) (by rfl) (by trivial) (by rfl))
def Hm:entryFor table "set_iterator.__next__"=sr jY.«set_iterator.__next__»:=(yR[by rfl])
def Im(a:aD):argsOk "set_iterator.__next__" ([a],[]):=by rfl'
section
variable{es:Array (Int×aD)}{ep i:Nat}
abbrev itF(first:aD)(i:Nat)(a:aG)(n ep:Nat):Data:=.fields #[first,.int i 0,.ref a,.int n 0,.int ep 0]
def stops{d:Type}{R:d->aN->Prop}(f:A.handled=sy)(k:∀c (e:aG),(∀b o,s.heap.get? b=sr o->c.get? b=sr o)->(∃o,c.get? e=sr o/\o.cls=.type "StopIteration")->E' .ref[e] { s with heap:=c }):
  wpAny (model P w) A (do let e<-newExc .type["StopIteration"] [];raiseNew e:Sem d) R E' s:=by
 apply aA;refine aA (m:=firstArgMember ..) (rR (a:=gD) (by rfl) ?_)
 refine eO ?_ (by size_fits)
 refine aA vV[?_];rw[f];refine aA aH[uN[k _ _ (λb o z=>aC _ (aC _ z)) (_,aR _ rfl,rfl)]]
def Bmi{j nx:Nat}(c:s.heap.get? I=sr k)(l:k.cls=.type "set_iterator")(hd:k.data=itF (.int j 0) i a es.size ep)(p:s.heap.get? a=sr o)(d:o.data=.set es ep t)(hf:t.fits es.size=t8)(hN:∀(r:aD->aN->Prop)(n:o9[aD×Nat]->aN->Prop),n sr[u6 x nx] s->wpAny (model P w) A.in1 (setNext a j i ep) n r s)(q:∀e b,gM I s.heap e->e.get? I=sr b->b.cls=.type "set_iterator"->b.data=itF (.int nx 0) (i+1) a es.size ep->Q sr[x] { s with heap:=e }):
  wpAny (model P w) A pyNext[.ref[I]] Q E s:=by
 let m:s.TypeIs .ref[I] "set_iterator":=(_,c,l);unfold pyNext;refine aA nP[cX[m][Cr][dY Cr m Hm ?_ Im[_]]];refine aA aH[aA[rB c hd ?_]];dsimp only;refine aA[kJ p d hf ?_];rw[dm ()]
 refine aA[hN _ _ ?_];dsimp only;let h:=bQ (fX (·.setIfInBounds 0 rawInt[nx])) c fZ[cV hd _];let f:=cV hd (·.setIfInBounds 0 rawInt[nx]);refine aA[fU c hd () aA[fU h f () (aH (x,rfl,aH q[_][_][(iG ..).trans (iG ..)][bQ _ h fZ[cV f _]][(mH ..).trans ((mH ..).trans l)][?_]))]]
 rw[cV f];simp[rawInt]
def Bmj{h:Nat}(m:A.handled=sy)(f:s.heap.get? I=sr j)(p:j.cls=.type "set_iterator")(hd:j.data=itF (.int h 0) i a es.size ep)(r:s.heap.get? a=sr o)(d:o.data=.set es ep t)(hf:t.fits es.size=t8)(hN:∀(v:aD->aN->Prop)(l:o9[aD×Nat]->aN->Prop),l sy s->wpAny (model P w) A.in1 (setNext a h i ep) l v s)(u:∀c,(∀b o,b≠I->s.heap.get? b=sr o->c.get? b=sr o)->Q sy { s with heap:=c }):
  wpAny (model P w) A pyNext[.ref[I]] Q E s:=by
 let k:s.TypeIs .ref[I] "set_iterator":=(_,f,p);unfold pyNext;refine aA nP[cX[k][Cr][dY Cr k Hm ?_ Im[_]]];refine aA aH[aA[rB f hd ?_]];dsimp only;refine aA[kJ r d hf ?_];rw[dm ()]
 refine aA[hN _ _ ?_];dsimp only;refine aA[fU f hd () (stops m λc e q ty=>?_)]
 exact aA (mY (b:=true) ty uQ aH[u c λb o n z=>q b o ((bN _ _ eF[n]).trans z)])
def Bmk{q pl:Nat}{h0:Int}(e:s.heap.get? I=sr h)(j:h.cls=.type "set_iterator")(hd:h.data=itF .ref[T] i a es.size ep)(k:s.heap.get? a=sr o)(c:o.data=.set es ep t)(hf:t.fits es.size=t8)(n:s.heap.get? T=sr l)(f:l.data=.seq ps q)(hp:ps[i]?=sr rawInt[pl])(m:es[pl]?=sr[u6 h0 x])(p:∀g b,gM I s.heap g->g.get? I=sr b->b.cls=.type "set_iterator"->b.data=itF .ref[T] (i+1) a es.size ep->Q sr[x] { s with heap:=g }):
  wpAny (model P w) A pyNext[.ref[I]] Q E s:=by
 let d:s.TypeIs .ref[I] "set_iterator":=(_,e,j);refine aA nP[cX[d][Cr][dY Cr d Hm ?_ Im[_]]];refine aA aH[aA[rB e hd ?_]];dsimp only;refine aA[kJ k c hf ?_];rw[dm ()]
 simp only[gA];refine aA[iD n f ?_];simp only[hp,rawInt];unfold setNextDrawn;refine aA aA[jT k c hf ?_];simp only[bne_self_eq_false,jF,if_false,gA,m];refine aH aA[fU e hd () (aH (x,rfl,aH p[_][_][iG ..][bQ _ e fZ[cV hd _]][(mH ..).trans j][?_]))]
 rw[cV hd];simp
def Bml{x:Nat}(m:A.handled=sy)(d:s.heap.get? I=sr j)(p:j.cls=.type "set_iterator")(hd:j.data=itF .ref[T] i a es.size ep)(r:s.heap.get? a=sr o)(g:o.data=.set es ep t)(hf:t.fits es.size=t8)(u:s.heap.get? T=sr l)(h:l.data=.seq ps x)(hp:ps[i]?=sy)(v:∀f,(∀b o,b≠I->s.heap.get? b=sr o->f.get? b=sr o)->Q sy { s with heap:=f }):
  wpAny (model P w) A pyNext[.ref[I]] Q E s:=by
 let c:s.TypeIs .ref[I] "set_iterator":=(_,d,p);unfold pyNext;refine aA nP[cX[c][Cr][dY Cr c Hm ?_ Im[_]]];refine aA aH[aA[rB d hd ?_]];dsimp only;refine aA[kJ r g hf ?_];rw[dm ()]
 simp only[gA];refine aA[iD u h ?_];simp only[hp];let k:=bQ (fX (·.setIfInBounds 0 rawInt[0])) d fZ[cV hd _];refine aA[fU d hd () aA[fU k (cV hd _) () (stops m λf e q ty=>?_)]]
 exact aA (mY (b:=true) ty uQ aH[v f λb o n z=>q b o ((bN _ _ eF[n]).trans ((bN _ _ eF[n]).trans z))])
end
def Q8:Slot "set_iterator" "__iter__" "set_iterator.__iter__":=(
 .of (owner:="set_iterator") (n:="__iter__") (by rfl) (by rfl) (by rfl) (by rfl) (by trivial) (by rfl))
def Abq:entryFor table "set_iterator.__iter__"=sr jY.«dict_keyiterator.__iter__»:=(
 aAp (id':="dict_keyiterator.__iter__") (by rfl') rfl () (by rfl))
section
variable{P:bY}{w:dO}{A:eU}{E:aD->aN->Prop}{s:aN}{I a:aG}{oI o:tu}{es:Array (Int×aD)}{ep i:Nat}{t:uR}{first:aD}{vs:lg aD}
def Bgw{Q:aD->aN->Prop}(b:s.TypeIs .ref[I] "set_iterator")(h:Q .ref[I] s):wpAny (model P w) A pyIter[.ref[I]] Q E s:=(xN b Q8 (dY Q8 b Abq (aH (_,rfl,"set_iterator",_,b,Cr.lookup,h)) (by
   rfl')))
theorem Bmm{f:Nat->Nat}(G:A.handled=sy)(N:a≠I)(j:o.data=.set es ep t)(hf:t.fits es.size=t8)(hN:∀i (s:aN),s.heap.get? a=sr o->∀(r:aD->aN->Prop)(g:o9[aD×Nat]->aN->Prop),g ((vs[i]?).map λx=>(u6 x f[i+1])) s->wpAny (model P w) A.in1 (setNext a f[i] i ep) g r s):
  aDx P w A I [I,a] [I] vs.length (λi v=>vs[i]?=sr v) (λi h=>h.get? a=sr o/\∃oI,h.get? I=sr oI/\oI.cls=.type "set_iterator"/\oI.data=itF (.int f[i] 0) i a es.size ep) where
 sub:=λb c=>by simp at c;simp[c]
 frame:=λi h u st F=>(F a () _ st.1,st.2.imp λoI z=>(F I () _ z.1,z.2))
 item:=λi s Q E hi st l=>by
  let(d,oI,n,m,B):=st;refine Bmi (x:=(getElem[vs][i][by get_elem_tactic])) (nx:=f[i+1]) n m B d j hf (λr g q=>hN i s d r g (by rw[aQ hi];exact q)) λu y C L J H=>?_
  exact l _ u s.toks aQ[hi] ((C.2 a N).trans d,y,L,J,H) λb o c e=>(C.2 b (by simpa using c)).trans e
 done:=λs Q E st l=>by
  let(d,oI,n,m,B):=st;exact Bmj G n m B d j hf (λr g q=>hN _ s d r g (by rw[gR aM[_]];exact q)) λu k=>l u s.toks λb o c e=>k b o (by simpa using c) e
 self:=λi s Q E st l=>by
  let(_,oI,n,m,_):=st;exact Bgw (_,n,m) l
def Bmn{T:aG}{J:tu}{ps:lg Nat}{Y:Nat}(O:A.handled=sy)(Z:a≠I)(TI:T≠I)(g:o.data=.set es ep t)(hf:t.fits es.size=t8)(j:J.data=.seq (ps.map λ(i:Nat)=>rawInt i).toArray Y)(f:∀p∈ps,p < es.size):
  aDx P w A I [I,a,T] [I] (ps.filterMap λp=>es[p]?.map (·.2)).length (λi v=>(ps.filterMap λp=>es[p]?.map (·.2))[i]?=sr v) (λi h=>h.get? a=sr o/\h.get? T=sr J/\∃oI,h.get? I=sr oI/\oI.cls=.type "set_iterator"/\oI.data=itF .ref[T] i a es.size ep):=by
 let len:∀qs:lg Nat,(∀p∈qs,p < es.size)->(qs.filterMap λp=>es[p]?.map (·.2))=qs.map λp=>(es.getD p (u6 0 .none)).2:=λqs L=>by
  induction qs with
  |nil=>rfl
  |cons p ps N=>
   let hp:=L p bF;rw[List.filterMap_cons_some (b:=(es.getD p (u6 0 .none)).2) (by simp_all),cB,N[λq z=>L q (bC _ z)]]
 rw[len ps f];exact {
  sub:=λb r=>by simp_all
  frame:=λi h B st G=>(G a () _ st.1,G T () _ st.2.1,st.2.2.imp λoI z=>(G I () _ z.1,z.2))
  item:=λi s Q E hi st l=>by
   let(u,y,oI,n,m,H):=st;rw[aK] at hi;let hp:=f _ jB[hi];refine Bmk (pl:=(getElem[ps][i][by get_elem_tactic])) (h0:=(getElem[es][(getElem[ps][i][by get_elem_tactic])][by get_elem_tactic]).1) (x:=(getElem[es][(getElem[ps][i][by get_elem_tactic])][by get_elem_tactic]).2) n m H u g hf y j (by simp[hi]) (by simp[hp]) λB F C X U S=>?_
   exact l _ B s.toks (by simp[hi,Array.getD,hp]) ((C.2 a Z).trans u,(C.2 T TI).trans y,F,X,U,S) λb o r e=>(C.2 b (by simpa using r)).trans e
  done:=λs Q E st l=>by
   let(u,y,oI,n,m,H):=st;exact Bml O n m H u g hf y j () λB k=>l B s.toks λb o r e=>k b o (by simpa using r) e
  self:=λi s Q E st l=>by
   let(_,_,oI,n,m,_):=st;exact Bgw (_,n,m) l }
end
theorem Are{b:Type}(nx:Nat->Nat):∀(n k:Nat)(l:lg b)(out:Array b),l.length=n->(pickOrder.go nx n k l out).toList.Perm (out.toList ++ l)
 |0,k,l,out,h=>by
  obtain rfl:=lH h;simp[pickOrder.go]
 |n+1,k,l,out,h=>by
  let hi:nx k % l.length < l.length:=aDs _ ()
  unfold pickOrder.go;rw[aQ hi];apply (Are nx n _ _ _ (by rw[rA hi,h];rfl)).trans
  rw[xM,cM];exact(W2 l _ hi).append_left _
def Aue{b:Type}(nx:Nat->Nat)(xs:Array b):(pickOrder nx xs).toList.Perm xs.toList:=by
 have:=Are nx xs.size 0 xs.toList #[] (by rfl)
 trivial
section
variable{es:Array (Int×aD)}{ep i sl:Nat}
def Aw8{Q:o9[aD×Nat]->aN->Prop}(c:byT w=t8)(d:s.heap.get? a=sr o)(b:o.data=.set es ep t)(hf:t.fits es.size=t8)(q:Q (((pickOrder (w.params.setOrder a ep) es)[i]?).map λe=>(u6 e.2 sl)) s):wpAny (model P w) A (setNext a sl i ep) Q E s:=by
 refine aA[jT d b hf aA[aA[lE[aH[?_]]]]];rw[di (show (model P w).w.params.followText "set-order"=t8 from c),dm ()]
 unfold setWalk;refine aA aA[jT d b hf aA[aA[lE[aH[?_]]]]];exact(di (show (model P w).w.params.followText "set-order"=t8 from c)) ▸ aA lE[aH[aH[q]]]
def Aw9{Q:o9[aD×Nat]->aN->Prop}(c:byT w=t7)(f:s.heap.get? a=sr o)(b:o.data=.set es ep t)(hf:t.fits es.size=t8)(d:t.led=t8)(k:es.size<=1)(q:Q (match es[jH t.place sl]?,t.place[jH t.place sl]? with|some e,sr j=>sr u6[e.2][j+1]|_,_=>sy) s):wpAny (model P w) A (setNext a sl i ep) Q E s:=by
 unfold setNext setsByText;refine aA[jT f b hf aA[aA[lE[aH[?_]]]]];rw[dm (by rw[show (model P w).w.params.followText "set-order"=t7 from c];decide)]
 dsimp only;refine nY[λz=>?_] λh=>?_
 .let z:(!t.plain&&decide[es.size > 1])=t8:=z;simp at z;omega
 .apply aA (m:=(do if (!t.led&&!es.isEmpty)=t8 then unsupported "set:maker-not-led"))
  rw[d];refine aH aH[?_];revert q;cases es[jH t.place sl]? with
  |none=>exact id
  |some e=>cases t.place[jH t.place sl]? <;> exact id
def Bmp(hh:A.handled=sy)(hS:SetT P w s.heap a ks (!byT w))(k:∀(I:aG)(B:lg aD)(fp:lg aG)(St:Nat->dD->Prop)(Z:dD)(d:aBl),(∀b o,s.heap.get? b=sr o->Z.get? b=sr o)->s.heap.objs.size<=I->I < Z.objs.size->(∀y:eU,y.handled=sy->aDx P w y I fp [I] B.length (λi v=>B[i]?=sr v) St)->
   St 0 Z->(∀b∈fp,b=a\/s.heap.objs.size<=b)->(∃C,pO B C/\C.Perm ks)->Q .ref[I] { s with heap:=Z,drawn:=d }):
  wpAny (model P w) A pyIter[.ref[a]] Q E s:=by
 let(o,es,ep,t,F,hex,m,U,H,hf,J,S,hp):=hS;let hT:s.TypeIs .ref[a] "set":=(_,F,hex.1);let O:=aV F;let tS:∀l:lg[Int×aD],(∀e∈l,e∈es.toList)->pO (l.map (·.2)) l.map[kvS]:=λl S=>by
  induction l with
  |nil=>exact .nil
  |cons e l ih=>
   let((tk,z),_):=Ake U (S e bF);rw[cB,cB,z];exact .cons _ tk (ih λx hx=>S x (bC _ hx))
 let u:∀l:lg[Int×aD],l.Perm es.toList->∃C,pO (l.map (·.2)) C/\C.Perm ks:=λl p=>(l.map kvS,tS l λe he=>p.mem_iff.mp he,by rw[<-H];exact p.map kvS)
 refine xN hT slot_set_iter (dY slot_set_iter hT Afg ?_ Ahm[_]);unfold jY.«frozenset.__iter__» aBo slotArgs aBh setDrawn setsByText;simp only[List.isEmpty_nil,pP,jF,if_false,pY,bne_self_eq_false];refine aA aA[aH[aH[aA[aA[kJ F m hf aH[?_]]]]]];refine aA aA[jT F m hf aA[aA[lE[aH[aH[?_]]]]]];let nz:a≠s.heap.objs.size:=bM O;refine nY[λz=>?_] λz=>?_
 .refine aA[Bgv es.size fD[es.size] s _ cD λG d p=>?_];let ly:G.length=es.size:=by rw[p.length_eq,cD]
  refine aA[aAk ?_ (by rw[aK,ly];exact rW J)]
  let hps:∀q∈G,q < es.size:=λq hq=>iR.mp p.mem_iff.mp[hq];let L:=aC { cls:=.type "tuple",data:=.seq (G.map λ(i:Nat)=>rawInt i).toArray } F;refine aA (xO (s:={ s with heap:=s.heap.push _,drawn:=d }) L m hf ?_)
  generalize hg:s.heap.push { cls:=.type "tuple",data:=.seq (G.map λ(i:Nat)=>rawInt i).toArray }=N at L ⊢
  let hT1:N.get? s.heap.objs.size=sr { cls:=.type "tuple",data:=.seq (G.map λ(i:Nat)=>rawInt i).toArray }:=by rw[<-hg];exact aR _ rfl
  let X:N.objs.size=s.heap.objs.size+1:=by rw[<-hg];exact fP ..
  refine aA eO[aH (_,rfl,"set_iterator",_,(_,aR _ rfl,rfl),Cr.lookup,?_)];refine k N.objs.size _ _ _ _ d (λb o e=>aC _ (by rw[<-hg];exact aC _ e)) (by rw[X];exact fM _) (by rw[fP];exact gY _)
   (λy hA=>Bmn (T:=s.heap.objs.size) (a:=a) hA (by rw[X];exact bM Nat.lt_succ_of_lt[O]) (by rw[X];exact bM gY[_]) m hf rfl hps) (aC _ L,aC _ hT1,_,aR _ rfl,rfl,rfl) (λb J=>?_) ?_
  .simp only[bH,cZ,or_false] at J;rcases J with rfl|rfl|rfl
   .exact .inr (by rw[X];exact fM _)
   .exact .inl rfl
   .exact .inr aM[_]
  .let e1:(G.filterMap λp=>es[p]?.map (·.2))=(G.filterMap λp=>es[p]?).map (·.2):=by rw[List.map_filterMap]
   rw[e1];exact u _ ((p.filterMap _).trans (by rw[filterMap_getElem?_range]))
 .refine aA aH[aA[xO F m hf ?_]];refine aA eO[aH (_,rfl,"set_iterator",_,(_,aR _ rfl,rfl),Cr.lookup,?_)];let go:∀(B:lg aD)(f:Nat->Nat),f 0=0->(∃C,pO B C/\C.Perm ks)->(∀(y:eU) i (s:aN),s.heap.get? a=sr o->∀(E':aD->aN->Prop)(Q':o9[aD×Nat]->aN->Prop),Q' ((B[i]?).map λx=>(u6 x f[i+1])) s->wpAny (model P w) y (setNext a f[i] i ep) Q' E' s)->
    Q .ref[s.heap.objs.size] { s with heap:=s.heap.push { cls:=.type "set_iterator",dict:=sy,data:=.fields [rawInt 0,rawInt 0,.ref a,rawInt es.size,rawInt ep].toArray } }:=λB f f0 hv hN=>by
   refine k s.heap.objs.size B _ _ _ s.drawn (λb o e=>aC _ e) aM[_] (by rw[fP];exact gY _) (λy hA=>Bmm hA nz m hf hN[y.in1]) (aC _ F,_,aR _ rfl,rfl,?_) (λb J=>?_) hv
   .rw[f0];rfl
   .simp only[bH,cZ,or_false] at J;rcases J with rfl|rfl
    .exact .inr aM[_]
    .exact .inl rfl
  cases Y:byT w with
  |true=>
   refine go ((pickOrder (w.params.setOrder a ep) es).toList.map (·.2)) (λuw=>0) rfl u[_][Aue _ _] λy i s' r E' Q' q=>Aw8 Y r m hf ?_;let e:((pickOrder (w.params.setOrder a ep) es)[i]?).map (λe=>(u6 e.2 0))=(((pickOrder (w.params.setOrder a ep) es).toList.map (·.2))[i]?).map λx=>(u6 x 0):=by
    rw[bJ,jK,Option.map_map];rfl
   rw[e];exact q
  |false=>
   let N:es.size<=1:=Nat.le_of_not_lt λh=>z (by
    show (!byT w&&(!t.plain&&decide[es.size > 1]))=t8;rw[Y,hp (λe=>by rw[<-H,List.map_eq_nil_iff] at e;rw[<-aX,e] at h;cases h)]
    simp[h])
   let pz:t.place.size=es.size:=by
    have:=hf;unfold SetTable.fits at this;simp only[aL,beq_iff_eq] at this;exact this.1
   refine go (es.toList.map (·.2)) (λi=>if i=0 then 0 else t.place.getD 0 0+1) rfl (u _ .rfl) λy i s' r E' Q' q=>Aw9 Y r m hf (by rw[S,Y];rfl) N ?_
   clear S hp z go u tS U H k m hf F r;rcases xP 0 es.size with h2|h2
   .let(e,rfl):=uH.mp[Nat.le_antisymm N h2];let(j,hj):=uH.mp pz;rw[hj] at q ⊢
    cases i with
    |zero=>
     let b0:jH #[j] 0=0:=by simp[jH,xQ]
     simp only[↓reduceIte,b0];exact q
    |succ i=>
     let b1:jH #[j] (j+1)=1:=by simp[jH,xQ]
     let e1:(#[j]:Array Nat).getD 0 0=j:=rfl;simp only[e1,Nat.add_eq_zero_iff,sX,and_false,if_false,b1] at q ⊢
     exact q
   .obtain rfl:es=#[]:=Array.size_eq_zero_iff.mp Nat.le_zero.mp[h2];simpa using q
end
section
def Bmq(e:s.TypeIs .ref[a] "set")(h:Q t7 s):wpAny (model P w) A qO[.ref[a]] Q E s:=by
 unfold qO;refine aA[wpAny_specialOf e PySem.F.slot_set_len.lookup ?_];generalize d:("set.__len__":String)=id0;wp_delta;subst d;refine aA (mY (T:="set") (b:=true) e (by rw[uU];rfl') ?_)
 refine nY[λc=>absurd c ()][λf=>?_]
 refine nY[λf=>?_][λc=>absurd (rfl) c];refine aA[oO e ?_];exact aH h
def Axa(h:ItemsOf (λi v=>a[i]?=sr v) acc a.length):acc.toList=a:=by
 refine xR λi=>?_;by_cases hi:i < acc.size
 .let e:acc.toList[i]?=sr getElem[acc][i][by get_elem_tactic]:=by simp
  exact e ▸ (h.2 i _ rG[hi]).symm
 .rw[gR[by simp_all],gR (by rw[<-h.1];omega)]
def Axb(S:A.handled=sy)(hS:SetT P w s.heap a N (!byT w))(hz:N.length<=1000)(k:∀h' tk d i,(∀b o,s.heap.get? b=sr o->h'.get? b=sr o)->(∃L,pO i L/\L.Perm N)->R i { s with heap:=h',toks:=tk,drawn:=d }):wpAny (model P w) A collect[.ref[a]] R E s:=by
 let(o,_,_,_,Z,y,_):=id hS;let x:=aV Z;unfold collect;refine aA aAm[iH PySem.F.entry_proto_collect ?_];rw[jU PySem.F.plain_proto_collect _];show wpAny _ A.in1 (newList [] >>= λl=>again[.builtin "list.__iadd__" ([l,.ref a],[])]) _ _ s;refine aA eO[?_];refine aH (pQ sZ _,iH PySem.F.entry_list_iadd ?_);rw[jU sZ _];generalize U:s.heap.push { cls:=.type "list",data:=.seq ([]:lg aD).toArray }=f;let hL:f.get? s.heap.objs.size=sr { cls:=.type "list",data:=.seq #[] }:=by rw[<-U];exact aR _ rfl
 let H:∀b o,s.heap.get? b=sr o->f.get? b=sr o:=λb o e=>by rw[<-U];exact aC _ e
 let z1:f.objs.size=s.heap.objs.size+1:=by rw[<-U];exact fP ..
 let S1:SetT P w f a N (!byT w):=by
  let(o,es,ep,t,ho,r):=hS;exact(o,es,ep,t,H a o ho,r)
 let hT:aBg { s with heap:=f } (.ref a) "set":=(_,H a o Z,y.1)
 show wpAny _ A.in1 (qP .ref[s.heap.objs.size] .ref[a] .ref[s.heap.objs.size]) _ _ _;unfold qP;refine aA (oO (T:="set") hT ?_);let e1:sJ .ref[s.heap.objs.size] .ref[a]=t7:=by simp[sJ,jP x]
 simp only[e1,show (pH "set"==pH "list")=t7 by decide,show (pH "set"==pH "tuple")=t7 by decide,aBd,jF,if_false]
 refine aA (Bmp (s:={ s with heap:=f }) (show A.in1.handled=sy from S) S1 λI i fp St m d O Q i2 W st X hv=>?_)
 let LI:s.heap.objs.size≠I:=λz=>by rw[<-z] at Q;exact absurd (show f.objs.size<=s.heap.objs.size from Q) ()
 let Lf:s.heap.objs.size∉fp:=λz=>by
  rcases X _ z with q|q
  .exact absurd q jP[x]
  .exact absurd (show f.objs.size<=s.heap.objs.size from q) ()
 let g:=O _ _ hL;let vl:i.length<=1000:=by
  let(L,f,m):=hv;rw[Ru f,m.length_eq];exact hz
 refine aA (fW (Bmq (s:={ s with heap:=m,drawn:=d }) (_,O _ _ (H a o Z),y.1) ?_))
 let u:∀(h:dD)(c:Nat),St 0 h->(∀b o,s.heap.get? b=sr o->h.get? b=sr o)->h.get? s.heap.objs.size=sr { cls:=.type "list",data:=.seq #[] c }->
   codeAny (model P w) A (.builtin "list.extend.loop" ([.ref s.heap.objs.size,.ref I,.ref s.heap.objs.size],[])) (λr j=>match r with|.ok (.ret v)=>wpAny (model P w) A (match v with|.ref a=>(do match (<-load a).data with|.seq xs _=>pure xs.toList|_=>unsupported "internal:collect")|_=>unsupported "internal:collect") R E j|.ok _=>False|.error e=>E e j) { s with heap:=h,drawn:=d }:=λh c J G hL'=>by
  refine codeAny_extend_loopS (W A.in1 S).toS (aF vl ()) s.heap.objs.size Lf _ i.length 0 _ #[] c rfl dM[_] J hL' ItemsOf.nil[_] λj acc c' hm hS' B=>?_
  rw[Moved.eq_with hm];refine aA[zY (show j.heap.get? _=sr _ from hS') aH[?_]];rw[Axa B];refine k j.heap j.toks d i (λb o e=>hm.heap b o (λY=>?_) (G b o e)) hv;rcases bH.mp Y with z|z
  .exact absurd aV[e] (by rw[z];exact eQ _)
  .rw[aZ.mp z] at e;exact absurd aV[e] aDt.mpr[aF[aF fM[_] oM[z1.symm]][Q]]
 let G:∀b o,s.heap.get? b=sr o->m.get? b=sr o:=λb o e=>O b o (H b o e);refine nY[λuw=>?_][λuw=>aH (pQ rH _,u _ _ st G g)];refine aA pM[aA[?_]];show wpAny _ _ (updateSeq s.heap.objs.size (·.push .none) >>= λuw=>updateSeq s.heap.objs.size (·.pop)) _ _ _;refine aA[zN g rfl ?_];let C:=bQ (nZ (·.push gD)) g rfl;refine zN (hz:=by seq_fits) C rfl ?_
 let hL4:=bQ (nZ (·.pop)) C rfl;let p:∀b o,b≠s.heap.objs.size->m.get? b=sr o->((m.update s.heap.objs.size (nZ (·.push gD))).update s.heap.objs.size (nZ (·.pop))).get? b=sr o:=λb o n e=>(bN _ _ eF[n]).trans ((bN _ _ eF[n]).trans e);exact aH (pQ rH _,u _ _ ((W A.in1 S).frame 0 _ _ st λb Y o e=>p b o (λz=>Lf[z ▸ Y]) e) (λb o e=>p b o bM[aV[e]] (G b o e)) hL4)
end
def Bio(P:bY)(w:dO)(a:aG)(ks:lg t6):HO:=.ext λh=>SetT P w h a ks (!byT w)
section
def Inv.draw(I:Inv X aa σ H s):Inv X aa σ H { s with drawn:=d }:=(I.ok,I.os,I.bare,I.base,I.loc,I.cell,I.free,I.freeC,I.pin,I.hok,I.len)
def Axc(l:X.calm=t8):Jm X .type["set"] (λxs H Q=>∃p,∃a:lg t6,xs=[.ref p]/\H p=sr .lst[a.map[V.str]]/\a.length < 4000/\∀q b,H q=sy->InS a a.length b->Q .ref[q] upd[H][q][Bio X.prog X.w q b]):=by
 rintro _ s y H xs A Q I r ⟨p,a,rfl,hp,j,q⟩;let(u,rfl,g):=vals1 r;cases g;let(_,h,n,f,e):=(I.hok p _ hp);refine Aud I.ok.hd[l] (_,e,rfl,_,rfl) Aka[f] j λE tk b keep S i=>(.ref _,_,I.newO (o:=Bio _ X.w _ b) keep gV[aM[_]] (S,?_,?_),rfl,q _ b I.hok.fresh[aM[_]] i)
 .let(o,_,_,_,c,_):=S;exact(o,c)
 .rintro C B ⟨o,m,v,t,c,z⟩ k;exact(o,m,v,t,k o c,z)
def Akh(N:X.calm=t8):Jm X .builtin["sorted"] (λxs H Q=>∃p a,xs=[.ref p]/\H p=sr[Bio X.prog X.w p a]/\a.length < 64/\∀q,H q=sy->Q[.ref q][upd H q .lst[(Ad7 a).map V.str]]):=by
 rintro aa s Y H xs us Q I r ⟨p,a,rfl,hp,g,q⟩;let(u,rfl,G):=vals1 r;cases G;let S:SetT X.prog X.w s.heap p a (!byT X.w):=(I.hok p _ hp).1;apply Calls.call_function_entry kind_sorted plain_sorted entry_sorted args_sorted1[_];unfold jY.«sorted»
 refine aA (m:=checkCount "sorted" 1 1 _) (aH (aA (Axb (A:=X.A.in1) (show X.A.in1.handled=sy from I.ok.hd N) S (aF gK[g] ()) λf tk d j E L=>?_)))
 let(ss,k,B):=L;let J:j.length=a.length:=by rw[Ru k,B.length_eq]
 refine aA wpAny_newList[?_][J ▸ aF gK[g] ()]
 generalize F:f.push[seqObj "list" j.toArray 0]=h2;let v:h2.get? f.objs.size=sr[seqObj "list" j.toArray 0]:=F ▸ aR _ rfl;let C:∀b ob,s.heap.get? b=sr ob->h2.get? b=sr ob:=λb ob z=>F ▸ aC _ (E b ob z);let c:s.heap.get? f.objs.size=sy:=by
  cases z:s.heap.get? f.objs.size with
  |none=>rfl
  |some o=>exact absurd aV[E _ _ z] eQ[_]
 let P:H f.objs.size=sy:=by
  cases z:H f.objs.size with
  |none=>rfl
  |some o=>
   let(ob,h):=(I.hok _ o z).there;rw[c] at h;cases h
 let t:∀(out:Array aD) b ob,s.heap.get? b=sr ob->(sortedHeap h2 f.objs.size j out).get? b=sr ob:=λout b ob z=>by
  rw[sortedHeap_old (λw=>by simp_all) aV[C b ob z]]
  exact C b ob z
 refine aA fW[dY slot_list_sort (_,v,rfl) entry_list_sort (list_sort_treeK strKind_oneLt v k.keysOf (λv1 Z rest e=>keyKind_strs[e ▸ k]) () λl U T=>(_,rfl,?_)) args_list_sort[_]]
 let(n,b1,b2,O):=sorted_out_str k U T;obtain rfl:n=Ad7 a:=Bcm b2.trans[B] O;let(y,i):=sortedHeap_at (out:=(arrOf l).map (·.2)) v;refine aH (_,rfl,.ref f.objs.size,_,(I.draw (d:=d)).newO (o:=.lst[(Ad7 a).map V.str]) (tk:=tk) t[_] c (?_,_,y,Aif b1,i),rfl,q _ P);rw[aK,(Iz a).length_eq];exact aF gK[g] ()
end
section
def KV.at{a:lg[Key×V]}{vs:lg[Key×aD]}(r:KV a vs):∀{j:Nat} {k:Key} {x:aD},vs[j]?=sr[u6 k x]->∃y,a[j]?=sr[u6 k y]/\RelV y x:=by
 induction r with
 |nil=>intro j k x h;cases h
 |@cons p q ps qs h t c=>
  intro j k x e;cases j with
  |zero=>
   cases e;let d:=h.1;subst d;exact(p.2,rfl,h.2)
  |succ j=>exact c e
def Bmr(h:(Hk P w).is k u=t8):RelV kV[k] u:=by
 rcases Es h with ⟨i,t,rfl,rfl⟩|⟨x,t,rfl,rfl⟩ <;> exact(t,rfl)
theorem Afh:∀{xs:lg V} {b:lg aD},xs.length=b.length->(∀(j:Nat)(v:aD),b[j]?=sr v->∃x,xs[j]?=sr x/\RelV x v)->Vals xs b
 |[],[],_,_=>.nil
 |x::xs,u::b,c,h=>by
  let(y,e,r):=h 0 u rfl;cases (e);exact .cons r (Afh aCb[c] λj v q=>h (j+1) v q)
 |[],_::_,c,_=>by trivial
 |_::_,[],c,_=>by trivial
def App(n:X.calm=t8):Jm X .type["list"] (λxs H Q=>∃a b,xs=[.ref a]/\H a=sr .dK[b]/\∀l,H l=sy->Q[.ref l][upd H l .lst[b.map λp=>kV p.1]]):=by
 intro P s G H xs L Q I r h;let(a,b,rfl,o,q):=h;let(u,rfl,f):=vals1 r;cases f;let(z,hd,J,d,C):=Awm I.hok o;let(N,E):=C.dictAt;let m:=d.length;refine PySem.W.kdl_call PySem.W.kdl_dict[hd] I.ok.hd[n] E (by simp_all) λt tk c F kp e hi=>?_
 let g:Vals (b.map λp=>kV p.1) c.toList:=by
  refine Afh (by rw[aK,m,<-hi.1];rfl) λj v i=>?_
  let(k,x,B,A):=hi.2 j v (by rw[<-jK];exact i)
  let(y,O,_):=d.at B;exact(kV k,by simp_all,Bmr A)
 exact(.ref s.heap.objs.size,_,I.laid kp aM[_] (show Ed X.prog X.w _ t _ .lst[_] from (by rw[aK];exact z,c.toList,F,g,e)),rfl,q _ I.hok.fresh[aM[_]])
def Inv.thaw(I:Inv X k h H s)(e:H d=sr[.frz o .dK[f]]):Inv X k h (upd H d .dK[f]) s:=by
 let ne:∀{b u},H b=sr u->(∀o,u≠.frz o .dK[f])->b≠d:=λq n z=>by subst z;rw[e] at q;cases q;exact n _ rfl
 let j:∀{b},H b=sy->b≠d:=λq z=>by subst z;rw[e] at q;cases q
 refine I.step (g':=s.gens) (d':=s.drawn) (t':=s.toks) (ch:=[]) (λa z=>nomatch z) (λa a a a a q a=>q) (λb o a a a q a=>(o.slots,q)) (λb o a a n=>by rw[Ah j[n]];exact n) (λb o a q=>(o,q))
  (λb xs q=>by rw[Ah[ne q λa z=>nomatch z]];exact q) (λb o u q=>by rw[Ah[ne q λa z=>by cases z]];exact q) (λb ps q=>(#[],by rw[Ah[ne q λa z=>nomatch z],q,lK])) (λa q=>q) (λb u q=>?_) I.bare
 by_cases g:b=d
 .subst g;rw[An] at q;cases q;exact(I.hok b _ e).2
 .rw[Ah g] at q;exact(I.hok b u q).stay (λa a a z=>z) (λc z=>by rw[Ah[ne z λa z=>nomatch z]];exact z) λc xs z=>by rw[Ah[ne z λa z=>nomatch z]];exact z
def Amk(Q:VK):VK:=λv H=>Q v H\/∃d o kvs,H d=sr[.frz o .dK[kvs]]/\Q v (upd H d .dK[kvs])
def PE.thaw(h:PE X e t):PE X e (λb H Q=>t b H Amk[Q]):=(λj s b H Q I q=>cQ (h j s b H _ I q) (λu l ⟨v,H1,I1,r1,a⟩=>by
 rcases a with a|⟨d,o,i,e,a⟩
 .exact(v,H1,I1,r1,a)
 .exact(v,_,I1.thaw e,r1,a)) λg g z=>z)
def PS.thaw{g:cF}{t:TS}(h:PS X g t):PS X g (λD i H=>t { D with nx:=λc k=>D.nx c k\/∃d o a,k d=sr[.frz o .dK[a]]/\D.nx c (upd k d .dK[a]) } i H):=(λn s i H D I q=>cQ (h n s i H _ I q) (λf r z=>by
 cases f <;> try exact z
 obtain⟨b,p,l,j|⟨d,o,a,e,j⟩⟩:=z
 .exact(b,p,l,j)
 .exact(b,_,l.thaw e,j)) λm m z=>z)
end
def Axd{t b:aG}{g:lg aD}{prog:bY}{w:dO}{A:eU}{E:aD->aN->Prop}{s:aN}{Q:aD->aN->Prop}(q:wN s.heap t #[])(r:wN s.heap b g.toArray)(h:Q .ref[b] s):wpAny (model prog w) A (binaryOp .Add .ref[t] .ref[b]) Q E s:=by
 let((cls,u,k,o),i,j,n,hd):=id q;let((l,f,data2,e),a,d,p,c):=id r;simp at j hd d c;subst j hd d c;exact wW (_,i,rfl) (_,a,rfl) sV vN oN oG (nM _ _)
  (tuple_addW0 t b #[] g.toArray n p u f o e rfl) (i,a,h)
def Bgx(K:aB):R2:=λx y H Q=>∃a b ys,x=.ref a/\y=.ref b/\SqT K H a []/\SqT K H b ys/\Q .ref[b] H
def Bcv:OpR X binaryOp[.Add] Bgx[X.K]:=by
 intro p s m H x y v u Q I e d h;let(a,b,n,rfl,rfl,l,k,q):=h;cases e;cases d;let(j,f,i,_):=I.tuple l;let(c,o,g,_):=I.tuple k;cases f;exact Axd i g (.ref b,H,I,rfl,q)
def Bms(tb:(St->XK)->TS):TS:=tb λuw uw uw uw=>False
def Bcw{X:Cx}{body:lg cF}{r:nO}{hs:lg nO}{i:Pos}{tb:(St->XK)->TS}(p:∀(pn:lg[aG×tu])(xe:aD->aN->Prop)(E:St->XK),Cm[CXo X.prog X.w][X.tryB pn xe][E]->PSs (X.tryB pn xe) body tb[E]):
  PS X (.Try body (r::hs) [] [] i) Bms[tb]:=by
 intro t s n H D I h;refine pK[cQ[p (X.pn ++ t) _ _ ?pass [] s n H D I.tryIn h][λf l q=>?_] λe l q=>q]
 case pass=>
  intro j m C l e A B k;let(_,_,_,_,_,_,_,q):=k;trivial
 cases f with
 |next=>let(a,d,c,z):=q;exact jL (a,d,c.tryOut,z)
 |brk=>let(a,d,c,z):=q;exact(a,d,c.tryOut,z)
 |cont=>let(a,d,c,z):=q;exact(a,d,c.tryOut,z)
 |ret u=>let(v,a,d,c,o,z):=q;exact(v,a,d,c.tryOut,o,z)
end L2
namespace D
open PySem PySem.Spec PyProof.Rows L2
structure Lm where
 qual:t6
 params:vA
 body:bW
 scope:iV
 cap:List t6
inductive W where
 |non
 |bl (b:Bool)
 |int (i:Int)
 |str (x:t6)
 |tup (ws:List W)
 |ref (n:Nat)
 |scr (ns:List Int)
 |ty (n:String)
 |cls (c:Nat)
 |exn (c:Nat) (w:W)
inductive Cell where
 |lst (ws:List W)
 |dct (kvs:List (Key×W))
 |ins (c:Nat) (fs:List (t6×W))
 |dead
 |clo (l:Lm) (ws:List W)
 |tab (q:t6)
abbrev Store:=lg Cell
inductive R(α:Type) where
 |ok (a:α) (S:Store)
 |exc (c:Nat×W) (S:Store)
 |bad
abbrev M(α:Type):=Store->R α
@[inline] def M.ret {α:Type} (a:α):M α:=λS=>.ok a S
def M.bind{α β:Type}(m:M α)(f:α->M β):M β:=λS=>match m S with
 |.ok a S1=>f a S1
 |.exc c S1=>.exc c S1
 |.bad=>.bad
instance:Monad M where
 pure:=M.ret
 bind:=M.bind
def bad{α:Type}:M α:=λuw=>.bad
structure Th where
 K:aB
 cl:Nat->aG
 xf:Nat->Option t6
 pl:Nat->Bool
 tb:List aG:=[]
def Scr(Y:Th)(H:Hp)(l:aG)(ns:lg Int):Prop:=(∃o,H l=sr[.frz o .lst[ns.map[V.int]]])\/
 ∃(o:tu)(its:Array aD)(n:Nat),Y.K.lookup l=sr o/\o.cls=.type "list"/\o.dict=sy/\o.data=.seq its n/\its.size<=sizeLine/\Vals ns.map[V.int] its.toList
def Scr.sq(h:Scr Y H l ns):SqL Y.K H l ns.map[V.int]:=by
 rcases h with ⟨o,h⟩|h
 .exact .inl[.inr (o,h)]
 .exact .inr h
mutual
inductive RV(Y:Th)(ρ:List aG)(H:Hp):W->V->Prop
 |non:RV Y ρ H .non .non
 |bl (b:Bool):RV Y ρ H (.bl b) (.bl b)
 |int (i:Int):RV Y ρ H (.int i) (.int i)
 |str (x:t6):RV Y ρ H (.str x) (.str x)
 |tup {a:aG} {ws:List W} {vs:List V}:H a=sr (.tup vs)->RVs Y ρ H ws vs->RV Y ρ H (.tup ws) (.ref a)
 |ref {n:Nat} {a:aG}:ρ[n]?=sr a->RV Y ρ H (.ref n) (.ref a)
 |scr {l:aG} {ns:List Int}:Scr Y H l ns->RV Y ρ H (.scr ns) (.ref l)
 |ty (n:String):RV Y ρ H (.ty n) (.ty n)
 |cls (c:Nat):RV Y ρ H (.cls c) (.ref (Y.cl c))
 |exn {c:Nat} {w:W} {a:aG} {o:Option (Nat×Option aG)}:Y.xf c=sy->a∉ρ->H a=sr (K7 a (.ref (Y.cl c)) o)->RV Y ρ H (.exn c w) (.ref a)
 |exf {c:Nat} {w:W} {v:V} {a d:aG} {n:t6}:Y.xf c=sr n->a∉ρ->d∉ρ->H a=sr (K7 a (.ref (Y.cl c)) (sr (u6 1 (sr d))))->H d=sr (.xd [(n,v)])->RV Y ρ H w v->RV Y ρ H (.exn c w) (.ref a)
inductive RVs(Y:Th)(ρ:List aG)(H:Hp):List W->List V->Prop
 |nil:RVs Y ρ H [] []
 |cons {w:W} {v:V} {ws:List W} {vs:List V}:RV Y ρ H w v->RVs Y ρ H ws vs->RVs Y ρ H (w::ws) (v::vs)
end
structure Bw(ρ ρ':List aG)(H H':Hp):Prop where
 t:∀b xs,H b=sr (.tup xs)->H' b=sr (.tup xs)
 f:∀b o u,H b=sr (.frz o u)->H' b=sr (.frz o u)
 k:∀b o,H b=sr o->b∉ρ->H' b=sr o
 n:∀b,b∈ρ'->b∈ρ\/H b=sy
def Bw.refl(ρ:lg aG)(H:Hp):Bw ρ ρ H H:=(λuw uw q=>q,λuw uw uw q=>q,λuw uw q uw=>q,λuw q=>.inl q)
theorem Bw.trans(a:Bw h g H H1)(b:Bw g d H1 H2):Bw h d H H2 where
 t:=λc xs q=>b.t c xs (a.t c xs q)
 f:=λc o u q=>b.f c o u (a.f c o u q)
 k:=λc o q m=>b.k c o (a.k c o q m) λz=>by
  rcases a.n c z with z|z
  .exact m z
  .rw[q] at z;cases z
 n:=λc m=>by
  rcases b.n c m with z|z
  .exact a.n c z
  .by_cases i:c∈h
   .exact .inl i
   .refine .inr ?_;cases e:H c with
    |none=>rfl
    |some o=>rw[a.k c o e i] at z;cases z
def Bw.out(t:Bw d b H H')(h:H a=sr o)(m:a∉d):a∉b:=(λz=>by
 rcases t.n a z with q|q
 .trivial
 simp_all)
def Scr.mono(t:Bw c a H H')(h:Scr Y H l ns):Scr Y H' l ns:=by
 rcases h with ⟨o,h⟩|h
 .exact .inl (o,t.f _ _ _ h)
 .exact .inr h
mutual
theorem RV.mono{Y:Th}{d a:lg aG}{H l:Hp}(p:d <+: a)(t:Bw d a H l):∀{w:W} {v:V},RV Y d H w v->RV Y a l w v
 |_,_,.non=>.non
 |_,_,.bl b=>.bl b
 |_,_,.int i=>.int i
 |_,_,.str x=>.str x
 |_,_,.tup h r=>.tup (t.t _ _ h) (RVs.mono p t r)
 |_,_,.scr h=>.scr h.mono[t]
 |_,_,.ty n=>.ty n
 |_,_,.cls c=>.cls c
 |_,_,.exn x m h=>.exn x (t.out h m) (t.k _ _ h m)
 |_,_,.exf x m f h g r=>.exf x (t.out h m) (t.out g f) (t.k _ _ h m) (t.k _ _ g f) (RV.mono p t r)
 |_,_,.ref h=>.ref (by
  let(r,rfl):=p;let(o,e):=aJ.mp h;rw[aW o];exact h)
theorem RVs.mono{Y:Th}{c b:lg aG}{H f:Hp}(p:c <+: b)(t:Bw c b H f):∀{d:lg W} {e:lg V},RVs Y c H d e->RVs Y b f d e
 |_,_,.nil=>.nil
 |_,_,.cons h r=>.cons[RV.mono p t h][RVs.mono p t r]
end
def RV.tI(h:RV Y e H .tup[f] v):∃a d,v=.ref a/\H a=sr .tup[d]/\RVs Y e H f d:=by
 cases h;exact(_,_,rfl,‹_›,‹_›)
def RV.rI{n:Nat}(h:RV Y d H .ref[n] v):∃a,v=.ref a/\d[n]?=sr a:=by
 cases h;exact(_,rfl,‹_›)
def RV.cI(h:RV Y a H .scr[ns] v):∃l,v=.ref l/\Scr Y H l ns:=by
 cases h;exact(_,rfl,‹_›)
def RV.iI{i:Int}(h:RV Y d H .int[i] v):v=.int i:=by cases h;rfl
theorem RVs.length:∀{b:lg W} {c:lg V},RVs Y d H b c->b.length=c.length
 |_,_,.nil=>rfl
 |_,_,.cons _ r=>by rw[dZ,dZ,RVs.length r]
theorem RVs.get:∀{b:lg W} {c:lg V} {i:Nat} {w:W},RVs Y d H b c->b[i]?=sr w->∃v,c[i]?=sr v/\RV Y d H w v
 |_,_,_,_,.nil,e=>by trivial
 |_,_,0,_,.cons h _,e=>by simp at e;subst e;exact(_,rfl,h)
 |_,_,i+1,w,.cons _ r,e=>by
  let(v,j,f):=RVs.get r (by trivial)
  exact(v,by trivial,f)
theorem RVs.append:∀{d f:lg W} {e c:lg V},RVs Y b H d e->RVs Y b H f c->RVs Y b H (d ++ f) (e ++ c)
 |_,_,_,_,.nil,s=>s
 |_,_,_,_,.cons h r,s=>.cons h (RVs.append r s)
def RKV(Y:Th)(ρ:lg aG)(H:Hp):lg[Key×W]->lg[Key×V]->Prop:=lZ λp q=>p.1=q.1/\RV Y ρ H p.2 q.2
def RFs(Y:Th)(ρ:lg aG)(H:Hp):lg[t6×W]->lg[t6×V]->Prop:=lZ λp q=>p.1=q.1/\RV Y ρ H p.2 q.2
abbrev fz(o:tu):HO:=.frz o (.ext λuw=>True)
abbrev fc(a:aG)(o:tu):HO:=.frz o .own[a]
def Aml(H:Hp)(a:aG)(cl:lg[t6×aG]):lg t6->lg V->Prop:=lZ λx v=>∃c o u,cl.lookup x=sr c/\H c=sr[fc a o]/\o.data=.cell sr[u]/\RelV v u
inductive Clo(H:Hp)(a:aG)(l:Lm)(vs:List V):Prop
 |mk (cl:List (t6×aG)) (pm ct:aD) (c':aG) (oC:tu) (fs:Array aD) (t:Tok) (h:H a=sr (fz (jM "<lambda>" l.qual l.params l.body l.scope cl pm c' ct)))
  (hc:H c'=sr (fz oC)) (d:oC.data=.fields fs) (q:fs[1]?=sr (.str l.qual t)) (sub:∀x c,cl.lookup x=sr c->x∈l.cap) (inj:∀x y c,cl.lookup x=sr c->cl.lookup y=sr c->x=y) (cap:Aml H a cl l.cap vs):Clo H a l vs
def Xp(H:Hp)(q:t6)(ps:Array aD):Prop:=∀pos v,codeAmong pos ps.toList=sr v->∃c o fs t,v=.ref c/\H c=sr fz[o]/\o.data=.fields fs/\fs[1]?=sr[.str q t]
def Bcx:HO->Bool
 |.frz _ (.own _)=>t7
 |_=>t8
def clK:HO->Bool
 |.frz _ (.own _)=>t8
 |.frz _ (.ext _)=>t8
 |_=>t7
def Bw.c(t:Bw e a H H'):∀b u,H b=sr u->clK u=t8->H' b=sr u:=(λb u q z=>by
 cases u <;> first|(cases z;done)|exact t.f _ _ _ q)
def Aml.mono(t:∀b u,H b=sr u->clK u=t8->H' b=sr u)(h:Aml H a cl ns vs):Aml H' a cl ns vs:=L2.Paired.mapP h λ_ _ ⟨c,o,u,q,z,r⟩=>(c,o,u,q,t _ _ z rfl,r)
def Clo.mono(t:∀b u,H b=sr u->clK u=t8->H' b=sr u)(h:Clo H a l c):Clo H' a l c:=by
 let(cl,f,ct,k,g,fs,tk,h,j,d,q,e,i,cap):=h;exact(cl,f,ct,k,g,fs,tk,t _ _ h rfl,t _ _ j rfl,d,q,e,i,cap.mono t)
def Xp.mono(t:∀b u,H b=sr u->clK u=t8->H' b=sr u)(h:Xp H q ps):Xp H' q ps:=(λa v e=>by
 let(c,o,fs,tk,r,z,y):=h a v e;exact(c,o,fs,tk,r,t _ _ z rfl,y))
def Ht(Y:Th)(ρ:lg aG)(H:Hp)(a:aG):Cell->Prop
 |.lst ws=>∃vs,H a=sr .lst[vs]/\RVs Y ρ H ws vs
 |.dct kvs=>∃vs,H a=sr .dK[vs]/\RKV Y ρ H kvs vs
 |.ins c fs=>∃dx vs,H a=sr[.ins Y.cl[c] dx vs]/\RFs Y ρ H fs vs
 |.dead=>∃o u,H a=sr[.frz o u]/\Bcx[.frz o u]=t8
 |.clo l ws=>∃vs,Clo H a l vs/\RVs Y ρ H ws vs
 |.tab q=>∃ps,H a=sr .tbl[ps]/\tD ps.toList/\Xp H q ps
structure Rep(Y:Th)(ρ:List aG)(S:Store)(H:Hp):Prop where
 len:ρ.length=S.length
 nd:ρ.Nodup
 tb:Y.tb <+: ρ
 at_:∀(n:Nat)(a:aG)(c:Cell),ρ[n]?=sr a->S[n]?=sr c->Ht Y ρ H a c
def RSl(Y:Th)(ρ:lg aG)(H:Hp):lg o9[W]->lg o9[V]->Prop:=λδ σ=>∀(i:Nat)(w:W),δ[i]?=sr sr[w]->∃v,σ[i]?=sr sr[v]/\RV Y ρ H w v
def RSl.mono(p:b <+: a)(t:Bw b a H H')(h:RSl Y b H d c):RSl Y a H' d c:=(λi w e=>by
 let(v,g,f):=h i w e;exact(v,g,f.mono p t))
abbrev De:=lg o9[W]
section
variable(Y:Th)
def XP(ρ:lg aG)(H:Hp)(c:Nat×W)(E:XK):Prop:=match Y.xf c.1 with
 |none=>E .ref[Y.cl[c.1]] sr[u6 (if Y.pl c.1 then 0 else 1) sy] H
 |some n=>∀d v,d∉ρ->H d=sr .xd[[(n,v)]]->RV Y ρ H c.2 v->E .ref[Y.cl[c.1]] sr[u6 1 sr[d]] H
def Aq{α β:Type}(Rel:lg aG->Hp->α->β->Prop)(ρ:lg aG)(H:Hp)(r:R α)(Q:β->Hp->Prop)(E:XK):Prop:=match r with
 |.ok w S'=>∀ρ' H' v,ρ <+: ρ'->Bw ρ ρ' H H'->Rep Y ρ' S' H'->Rel ρ' H' w v->Q v H'
 |.exc c S'=>∀ρ' H',ρ <+: ρ'->Bw ρ ρ' H H'->Rep Y ρ' S' H'->XP Y ρ' H' c E
 |.bad=>False
inductive TF{α β:Type}(Rel:List aG->Hp->α->β->Prop)(f:De->M α)(σ:L2.St)(H:Hp)(Q:β->Hp->Prop)(E:XK):Prop
 |mk (ρ:List aG) (S:Store) (δ:De) (R:Rep Y ρ S H) (sl:RSl Y ρ H δ σ) (q:Aq Y Rel ρ H (f δ S) Q E):TF Rel f σ H Q E
inductive SqP{α β γ δ':Type}(Rel:List aG->Hp->α->β->Prop)(Rel2:List aG->Hp->γ->δ'->Prop)(ρ:List aG)(H:Hp)(f:α->M γ)(Q:δ'->Hp->Prop)(E:XK)(v:β)(H1:Hp):Prop
 |mk (ρ1:List aG) (S1:Store) (w:α) (p:ρ <+: ρ1) (t:Bw ρ ρ1 H H1) (R:Rep Y ρ1 S1 H1) (r:Rel ρ1 H1 w v) (q:Aq Y Rel2 ρ1 H1 (f w S1) Q E):SqP Rel Rel2 ρ H f Q E v H1
inductive SqQ{α β γ δ':Type}(Rel:List aG->Hp->α->β->Prop)(Rel2:List aG->Hp->γ->δ'->Prop)(ρ:List aG)(H:Hp)(ρ0:List aG)(H0:Hp)(f:α->M γ)(Q:δ'->Hp->Prop)(E:XK)(v:β)(H1:Hp):Prop
 |mk (ρ1:List aG) (S1:Store) (w:α) (p:ρ <+: ρ1) (t:Bw ρ ρ1 H H1) (R:Rep Y ρ1 S1 H1) (r:Rel ρ1 H1 w v) (q:Aq Y Rel2 ρ0 H0 (f w S1) Q E):SqQ Rel Rel2 ρ H ρ0 H0 f Q E v H1
def tF(E:L2.St->XK)(f:De->M W):TE:=λσ H Q=>TF Y RV[Y] f σ H Q E[σ]
def tFs(E:L2.St->XK)(f:De->M lg[W]):TA:=λσ H Q=>TF Y RVs[Y] f σ H Q E[σ]
def tFb(E:L2.St->XK)(f:De->M Bool):TT:=λσ H Q=>TF Y (λuw uw a b=>a=b) f σ H Q E[σ]
def spF(g:lg W->M W):Sp:=λvs H Q E=>∃ρ S ws,Rep Y ρ S H/\RVs Y ρ H ws vs/\Aq Y RV[Y] ρ H (g ws S) Q E
end
section
def WE.weak(h:WE X e t)(k:∀σ H Q,t' σ H Q->t σ H Q):WE X e t':=⟨λaa s σ H Q I q=>h.un aa s σ H Q I (k σ H Q q)⟩
def WA.weak(h:WA X es t)(k:∀σ H Q,t' σ H Q->t σ H Q):WA X es t':=⟨λpos aa s σ H Q I q=>h.un pos aa s σ H Q I (k σ H Q q)⟩
def WT.weak(h:WT X e t)(k:∀σ H Q,t' σ H Q->t σ H Q):WT X e t':=⟨λaa s σ H Q I q=>h.un aa s σ H Q I (k σ H Q q)⟩
theorem Aq.shift{k j:Type}{c:lg aG->Hp->k->j->Prop}{Q:j->Hp->Prop}:∀{r:R k},Aq Y c i H r Q E->i <+: b->Bw i b H H1->Aq Y c b H1 r Q E
 |.ok ..,h,p,t=>λa g v f d e m=>h a g v p.trans[f] t.trans[d] e m
 |.exc ..,h,p,t=>λa g f d e=>h a g p.trans[f] t.trans[d] e
 |.bad,h,_,_=>h
def Aq.seq{j o l d:Type}{Rel:lg aG->Hp->j->o->Prop}{a:lg aG->Hp->l->d->Prop}{g:lg aG}{H:Hp}{m:M j}{f:j->M l}{S:Store}{Q:d->Hp->Prop}{E:XK}(h:Aq Y a g H ((m >>= f) S) Q E):
  Aq Y Rel g H m[S] (SqP Y Rel a g H f Q E) E:=by
 let h:Aq Y a g H (M.bind m f S) Q E:=h;unfold M.bind at h;cases e:m S with
 |bad=>rw[e] at h;exact h
 |exc c n=>rw[e] at h;exact h
 |ok w n=>
  rw[e] at h;exact λi q v p t r k=>(i,n,w,p,t,r,k,Aq.shift h p t)
def Aq.now{c b:Type}{Rel:lg aG->Hp->c->b->Prop}{w:c}{v:b}{Q:b->Hp->Prop}(h:Aq Y Rel a H ((pure w:M c) S) Q E)(r:Rep Y a S H)(q:Rel a H w v):Q v H:=(
 h a H v aP[a] (Bw.refl a H) r q)
def Aq.mono{f e:Type}{a:lg aG->Hp->f->e->Prop}{r:R f}{Q Q':e->Hp->Prop}(h:Aq Y a i H r Q E)(k:∀v b,Q v b->Q' v b):Aq Y a i H r Q' E:=by
 cases r with
 |ok w j=>exact λd b v p t r q=>k v b (h d b v p t r q)
 |exc c j=>exact h
 |bad=>exact h
def Q9{E:L2.St->XK}{f g:De->M W}{m:W->W->M W}{r:R2}(k:∀a S H x y d c Q E,Rep Y a S H->RV Y a H x d->RV Y a H y c->Aq Y RV[Y] a H (m x y S) Q E->r d c H Q):
  ∀e H Q,tF Y E (λb=>do let x<-f b;let y<-g b;m x y) e H Q->tOp r (tF Y E f) (tF Y E g) e H Q:=by
 rintro e H Q ⟨a,S,b,R,l,h⟩;refine(a,S,b,R,l,(Aq.seq h).mono ?_);rintro d F ⟨j,z,x,t,o,A,q,v⟩;refine(j,z,b,A,l.mono t o,(Aq.seq v).mono ?_);rintro c B ⟨i,w,y,s,n,R2,p,u⟩;exact k i w B x y d c Q _ R2 (q.mono s n) p u
end
section
def Ht.there(h:Ht Y e H a c):∃o,H a=sr o:=by
 cases c with
 |lst b=>let(d,h,_):=h;exact(_,h)
 |dct b=>let(d,h,_):=h;exact(_,h)
 |ins c b=>let(i,d,h,_):=h;exact(_,h)
 |dead=>let(_,_,h,_):=h;exact(_,h)
 |clo k b=>let(d,(cl,f,ct,j,g,fs,t,h,_),_):=h;exact(_,h)
 |tab q=>let(ps,h,_):=h;exact(_,h)
def Rep.get(R:Rep Y b S H){n:Nat}(h:S[n]?=sr c):∃a,b[n]?=sr a/\Ht Y b H a c:=by
 let d:n < b.length:=R.len ▸ (aJ.mp h).1;exact(_,aQ d,R.at_ n _ c aQ[d] h)
def Rep.tracked(R:Rep Y b S H)(h:a∈b):∃o,H a=sr o:=by
 let(n,d,rfl):=kO h;let hs:n < S.length:=by rw[<-R.len];omega
 exact(R.at_ n _ _ aQ[d] aQ[hs]).there
def Paired.imp2{α β:Type}{F G:α->β->Prop}(f:∀a b,F a b->G a b){l:lg α}{m:lg β}(r:lZ F l m):lZ G l m:=L2.Paired.mapP r f
def Ht.mono(p:g <+: d)(t:Bw g d H H')(k:H' a=H a)(h:Ht Y g H a c):Ht Y d H' a c:=by
 cases c with
 |lst e=>let(b,h,r):=h;exact(b,k.trans h,r.mono p t)
 |dct e=>let(b,h,r):=h;exact(b,k.trans h,Paired.imp2 (λf f z=>(z.1,z.2.mono p t)) r)
 |ins c e=>let(l,b,h,r):=h;exact(l,b,k.trans h,Paired.imp2 (λf f z=>(z.1,z.2.mono p t)) r)
 |dead=>let(o,u,h,z):=h;exact(o,u,k.trans h,z)
 |clo j e=>let(b,h,r):=h;exact(b,h.mono t.c,r.mono p t)
 |tab q=>let(ps,h,z,y):=h;exact(ps,k.trans h,z,y.mono t.c)
theorem Bf(h:H p=sy)(q:∀b,b∈a->b∈ρ\/b=p:=by intro b c;first|exact .inl c|(rcases cU.mp c with z|z;exact .inl z;exact .inr aZ.mp[z])):Bw ρ a H (upd H p o) where
 t:=λb xs q=>by rw[Ah[Bm q h]];exact q
 f:=λb o u q=>by rw[Ah[Bm q h]];exact q
 k:=λb o q d=>by rw[Ah[Bm q h]];exact q
 n:=λb m=>by
  rcases q b m with z|z
  .exact .inl z
  .subst z;exact .inr h
theorem Rep.beside(R:Rep Y b S H)(h:H p=sy):Rep Y b S (upd H p o) where
 len:=R.len
 nd:=R.nd
 tb:=R.tb
 at_:=λn a c e d=>by
  let q:=R.at_ n a c e d;let(u,hu):=q.there;exact q.mono aP[b] Bf[h] Ah[Bm hu h]
theorem Rep.alloc(R:Rep Y f S H)(h:H p=sy)(q:Ht Y (f ++ [p]) (upd H p o) p c):Rep[Y][f ++ [p]][S ++ [c]][upd H p o] where
 len:=by rw[bD,bD,R.len];rfl
 nd:=by
  rw[oV];refine(R.nd,(),λa l b k=>?_)
  obtain rfl:b=p:=by simpa using k
  let(u,hu):=R.tracked l;exact Bm hu h
 tb:=R.tb.trans (bK _ _)
 at_:=λn a d e g=>by
  by_cases i:n < f.length
  .rw[aW i] at e;rw[aW (by rw[<-R.len];exact i)] at g
   let z:=R.at_ n a d e g;let(u,hu):=z.there;exact z.mono (bK _ _) Bf[h] Ah[Bm hu h]
  .let j:=(aJ.mp e).1;rw[bD,fY] at j;obtain rfl:n=f.length:=by omega
   rw[bA aM[_],gB] at e;rw[R.len,bA aM[_],gB] at g;obtain rfl:p=a:=by simpa using e
   obtain rfl:c=d:=by simpa using g
   exact q
def Kw:(a ++ [p])[a.length]?=sr p:=by simp
theorem Rep.write{n:Nat}(R:Rep Y e S H)(h:e[n]?=sr a)(t:Bw e e H (upd H a o))(q:Ht Y e (upd H a o) a c):Rep Y e (S.set n c) (upd H a o) where
 len:=by rw[gJ];exact R.len
 nd:=R.nd
 tb:=R.tb
 at_:=λm b d g f=>by
  by_cases i:m=n
  .subst i;rw[h] at g;cases g;let l:m < S.length:=by rw[<-R.len];exact(aJ.mp h).1
   rw[fO l] at f;cases f;exact q
  .rw[cW eF[i]] at f;let ne:b≠a:=by
    rintro rfl;let(s,k):=aJ.mp g;let(r,j):=aJ.mp h;exact i[(mW R.nd).mp k.trans[j.symm]]
   exact(R.at_ m b d g f).mono aP[e] t Ah[ne]
theorem Mi{n:Nat}(g:c[n]?=sr a)(h:H a=sr u)(e:∀xs,u≠.tup xs)(d:∀ob x,u≠.frz ob x):Bw c c H (upd H a o) where
 k:=λb o q m=>by
  rw[Ah (by rintro rfl;exact m gG[g])]
  exact q
 n:=λb m=>.inl m
 t:=λb xs q=>by
  rw[Ah (by rintro rfl;rw[h] at q;exact e xs cA[q])]
  exact q
 f:=λb ob x q=>by
  rw[Ah (by rintro rfl;rw[h] at q;exact d ob x cA[q])]
  exact q
end
def big:Nat:=1000000
def Km{n:Nat}(h:n<=big):n<=sizeLine:=(aF h ())
def Dd(ws:lg W):M W:=λS=>if ws.length<=big then .ok[.ref S.length][S ++ [.lst ws]] else .bad
def Apq(ws:lg W):M W:=if ws.length<=big then pure .tup[ws] else bad
def addW:W->W->M W
 |.int i,.int j=>pure .int[i+j]
 |.str x,.str y=>if x.length+y.length<=big then pure .str[x ++ y] else bad
 |.tup xs,.tup ys=>if xs.length+ys.length<=big then pure .tup[xs ++ ys] else bad
 |.ref n,.ref m=>λS=>match S[n]?,S[m]? with
  |some (.lst xs),sr (.lst ys)=>if xs.length+ys.length<=big then .ok[.ref S.length][S ++ [.lst[xs ++ ys]]] else .bad
  |_,_=>.bad
 |_,_=>bad
def small(i:Int):Bool:=decide[-(2 ^ 64) < i]&&decide[i < 2 ^ 64]
def onI(f:Int->Int->M W):W->W->M W
 |.int i,.int j=>f i j
 |_,_=>bad
def W4(e:RV Y a H x c)(d:RV Y a H y b)(h:Aq Y RV[Y] a H (onI f x y S) Q E):∃i j,c=.int i/\b=.int j/\Aq Y RV[Y] a H (f i j S) Q E:=by
 unfold onI at h;split at h
 .cases e;cases d;exact(_,_,rfl,rfl,h)
 .cases h
def Bmt:W->W->M W:=onI λi j=>pure .int[i - j]
def Bip:W->W->M W
 |.int i,.int j=>if small i||small j then pure .int[i * j] else bad
 |.str z,.int n=>if decide[z.length<=16]&&decide[-1048576<=n]&&decide[n<=1048576] then pure .str[mJ z n] else bad
 |.ref n,.int k=>λS=>match S[n]? with
  |some (.lst xs)=>if decide[-(2 ^ 63)<=k]&&decide[k < 2 ^ 63]&&decide[xs.length * k.toNat<=big] then .ok[.ref S.length][S ++ [.lst (bV k.toNat xs).flatten]] else .bad
  |_=>.bad
 |_,_=>bad
def Bpj:W->W->M W:=onI λi j=>if 0 < j then pure .int[i % j] else bad
section
nonrec def Blv(R:Rep Y f S H)(u:RV Y f H x m)(t:RV Y f H y l)(h:Aq Y RV[Y] f H (addW x y S) Q E):
  (rI0 (λi j=>V.int[i+j]) m l H Q\/(∃i j,m=.str i/\l=.str j/\i.length+j.length<=sizeLine/\Q .str[i ++ j] H))\/((Bgq Y.K m l H Q\/Bgx Y.K m l H Q)\/Bl3 m l H Q):=by
 unfold addW at h;split at h
 .cases u;cases t;exact .inl[.inl (_,_,rfl,rfl,h.now R .int[_])]
 .cases u;cases t;split at h
  .rename_i z;exact .inl[.inr (_,_,rfl,rfl,Km z,h.now R .str[_])]
  .exact(h).elim
 .let(a,v,rfl,s,d):=u.tI;let(b,k,rfl,n,g):=t.tI;split at h
  .rename_i w;cases d with
   |nil=>exact .inr .inl[.inr (a,b,k,rfl,rfl,SqT.of s,SqT.of n,h.now R (.tup n g))]
   |cons q r=>
   let d:=RVs.cons q r;let C:=d.length;let B:=g.length;refine .inr .inl[.inl (a,b,_,k,rfl,rfl,SqT.of s,SqT.of n,(),Km (by rw[<-C,<-B];exact w),λe=>?_,λN p hp=>?_)]
   .subst e;cases g;rw[bU] at h;exact h.now R (.tup s d)
   .exact h f _ _ aP[f] Bf[hp] R.beside[hp] .tup[An][(d.append g).mono aP[f] Bf[hp]]
  .ac_rfl
 .let(a,rfl,F):=u.rI;let(b,rfl,G):=t.rI;split at h
  .rename_i xs A J I;split at h
   .rename_i z;let(v,s,d):=R.at_ _ _ _ F J;let(k,n,g):=R.at_ _ _ _ G I;refine .inr[.inr (a,b,v,k,rfl,rfl,s,n,Km (by rw[<-d.length,<-g.length];exact z),λp hp=>?_)]
    let L:=R.alloc (o:=.lst[v ++ k]) (c:=.lst[xs ++ A]) hp (_,An,(d.append g).mono (bK _ _) Bf[hp]);refine h (f ++ [p]) _ _ (bK _ _) Bf[hp] L .ref[?_];rw[<-R.len];exact Kw
   .exact h.elim
  .exact h.elim
 .ac_rfl
end
def Amm:HO->Bool
 |.lst _=>t7
 |.dK _=>t7
 |.frz _ (.dK _)=>t7
 |_=>t8
mutual
theorem RV.keep{Y:Th}{a:lg aG}{H e:Hp}(t:∀b o,H b=sr o->Amm o=t8->e b=sr o):∀{w:W} {v:V},RV Y a H w v->RV Y a e w v
 |_,_,.non=>.non
 |_,_,.bl b=>.bl b
 |_,_,.int i=>.int i
 |_,_,.str x=>.str x
 |_,_,.tup h r=>.tup (t _ _ h rfl) (RVs.keep t r)
 |_,_,.ty n=>.ty n
 |_,_,.cls c=>.cls c
 |_,_,.exn x m h=>.exn x m (t _ _ h rfl)
 |_,_,.exf x m f h g r=>.exf x m f (t _ _ h rfl) (t _ _ g rfl) (RV.keep t r)
 |_,_,.scr h=>.scr (by
  rcases h with ⟨o,h⟩|h
  .exact .inl (o,t _ _ h rfl)
  .exact .inr h)
 |_,_,.ref h=>.ref h
theorem RVs.keep{Y:Th}{c:lg aG}{H f:Hp}(t:∀b o,H b=sr o->Amm o=t8->f b=sr o):∀{d:lg W} {e:lg V},RVs Y c H d e->RVs Y c f d e
 |_,_,.nil=>.nil
 |_,_,.cons h r=>.cons[RV.keep t h][RVs.keep t r]
end
def Axe{H a:Hp}(t:∀b o,H b=sr o->Amm o=t8->a b=sr o):∀b u,H b=sr u->clK u=t8->a b=sr u:=(λb u q z=>t b u q (by
 unfold clK at z;split at z <;> first|rfl|cases z))
def Ht.keep(k:H' a=H a)(t:∀b o,H b=sr o->Amm o=t8->H' b=sr o)(h:Ht Y i H a c):Ht Y i H' a c:=by
 cases c with
 |lst e=>let(d,h,r):=h;exact(d,k.trans h,r.keep t)
 |dct e=>let(d,h,r):=h;exact(d,k.trans h,Paired.imp2 (λf f z=>(z.1,z.2.keep t)) r)
 |ins c e=>let(l,d,h,r):=h;exact(l,d,k.trans h,Paired.imp2 (λf f z=>(z.1,z.2.keep t)) r)
 |dead=>let(o,u,h,z):=h;exact(o,u,k.trans h,z)
 |clo j e=>let(d,h,r):=h;exact(d,h.mono Axe[t],r.keep t)
 |tab q=>let(ps,h,z,y):=h;exact(ps,k.trans h,z,y.mono Axe[t])
def Bgy:W->W->M W:=onI λi j=>if decide[0 < j]&&decide[j < 1073741824] then pure .int[i / j] else bad
def Bpk:W->W->M W:=onI λi j=>if 0<=j then pure .int[i / 2 ^ j.toNat] else bad
def Bmu:W->W->M W:=onI λi j=>if decide[0<=j]&&decide[j<=1000000]&&decide[i.natAbs < 2 ^ 64] then pure .int[i * 2 ^ j.toNat] else bad
def Bpl:W->W->M W:=onI λi j=>if decide[i=10]&&decide[j=20] then pure .int[i ^ j.toNat] else bad
def Bpm:W->W->M W:=onI λi j=>pure .int[Builtin.bitAnd i j]
def Auf(p:Int->Int->Bool)(q:t6->t6->Bool):W->W->M W
 |.int i,.int j=>pure .bl[p i j]
 |.str i,.str j=>pure .bl[q i j]
 |_,_=>bad
def J6(i j:t6):Bool:=decide[i.cps.toList < j.cps.toList]
section
def Gz{b:Type}[Decidable c]{m:M b}{a:lg aG->Hp->b->g->Prop}{Q:g->Hp->Prop}(h:Aq Y a f H ((if c then m else bad) S) Q E):c/\Aq Y a f H m[S] Q E:=by
 by_cases d:c
 .rw[di d] at h;trivial
 .rw[dm d] at h;trivial
def Blw(R:Rep Y a S H)(e:RV Y a H x c)(d:RV Y a H y b)(h:Aq Y RV[Y] a H (Bmt x y S) Q E):rI0 (λi j=>V.int[i - j]) c b H Q:=by
 let(i,j,rfl,rfl,h):=W4 e d h;exact(_,_,rfl,rfl,h.now R .int[_])
theorem RVs.rep(r:RVs Y a H b c):∀k:Nat,RVs Y a H (bV k b).flatten (bV k c).flatten
 |0=>.nil
 |k+1=>r.append[RVs.rep r k]
nonrec def Bpn(R:Rep Y d S H)(l:RV Y d H x f)(g:RV Y d H y e)(h:Aq Y RV[Y] d H (Bip x y S) Q E):
  (rI Bbu (λi j=>V.int[i * j]) f e H Q\/(∃z n,f=.str z/\e=.int n/\z.length<=16/\-1048576<=n/\n<=1048576/\Q .str[mJ z n] H))\/Bl4 f e H Q:=by
 unfold Bip at h;split at h
 .cases l;cases g;let(b,h):=Gz h;refine .inl[.inl (_,_,rfl,rfl,?_,h.now R .int[_])];rcases qJ.mp b with q|q
  .exact .inl (dg (bO.mp q).1,dg (bO.mp q).2)
  .exact .inr (dg (bO.mp q).1,dg (bO.mp q).2)
 .cases l;cases g;let(b,h):=Gz h;let(b,m):=bO.mp b;let(s,r):=bO.mp b;exact .inl[.inr (_,_,rfl,rfl,dg s,dg r,dg m,h.now R .str[_])]
 .rename_i n k;let(a,rfl,v):=l.rI;cases g;split at h
  .rename_i xs A;split at h
   .rename_i b;let(b,m):=bO.mp b;let(s,r):=bO.mp b;let(t,w,u):=R.at_ _ _ _ v A;refine .inr (a,k,t,rfl,rfl,w,dg s,dg r,Km (by rw[<-u.length];exact dg m),λp hp=>?_)
    let B:=R.alloc (o:=.lst (bV k.toNat t).flatten) (c:=.lst (bV k.toNat xs).flatten) hp (_,An,(u.rep _).mono (bK _ _) Bf[hp]);refine h (d ++ [p]) _ _ (bK _ _) Bf[hp] B .ref[?_];rw[<-R.len];exact Kw
   .ac_rfl
  .ac_rfl
 .ac_rfl
def Bmv(R:Rep Y a S H)(f:RV Y a H x d)(e:RV Y a H y c)(h:Aq Y RV[Y] a H (Bgy x y S) Q E):rI Bo0 (λi j=>V.int[i / j]) d c H Q:=by
 let(i,j,rfl,rfl,h):=W4 f e h;let(b,h):=Gz h;exact(_,_,rfl,rfl,(dg (bO.mp b).1,dg (bO.mp b).2),h.now R .int[_])
def Bpo(R:Rep Y a S H)(f:RV Y a H x d)(e:RV Y a H y c)(h:Aq Y RV[Y] a H (Bmu x y S) Q E):rI Bo1 (λi j=>V.int[i * 2 ^ j.toNat]) d c H Q:=by
 let(i,j,rfl,rfl,h):=W4 f e h;let(b,h):=Gz h;let(b,g):=bO.mp b;let(l,k):=bO.mp b;exact(_,_,rfl,rfl,(dg l,dg k,dg g),h.now R .int[_])
def Bcy{p:Int->Int->Bool}(R:Rep Y a S H)(f:RV Y a H x d)(e:RV Y a H y c)(h:Aq Y RV[Y] a H (Auf p q x y S) Q E):
  rI0 (λi j=>V.bl[p i j]) d c H Q\/∃i j,d=.str i/\c=.str j/\Q .bl[q i j] H:=by
 unfold Auf at h;split at h
 .cases f;cases e;exact .inl (_,_,rfl,rfl,h.now R .bl[_])
 .cases f;cases e;exact .inr (_,_,rfl,rfl,h.now R .bl[_])
 .exact bT h
end
inductive Bop where
 |add|sub|mul|fdiv|mod|shl|shr|and|pow
inductive Cop where
 |lt|le|gt|ge
def Bop.fn:Bop->W->W->M W
 |.add=>addW
 |.sub=>Bmt
 |.mul=>Bip
 |.fdiv=>Bgy
 |.mod=>Bpj
 |.shl=>Bmu
 |.shr=>Bpk
 |.and=>Bpm
 |.pow=>Bpl
def Bop.of:aCu->o9 Bop
 |.Add=>sr .add
 |.Sub=>sr .sub
 |.Mult=>sr .mul
 |.FloorDiv=>sr .fdiv
 |.Mod=>sr .mod
 |.Pow=>sr .pow
 |.LShift=>sr .shl
 |.RShift=>sr .shr
 |.BitAnd=>sr .and
 |_=>sy
section
def Bb(o:Bop)(f g:De->M W):De->M W:=λδ=>do let x<-f δ;let y<-g δ;o.fn x y
def Bmw(hK:X.K=Y.K)(h:Bop.of G=sr o)(p:WE X a (tF Y E f))(m:WE X b (tF Y E g)):WE X (.BinOp a G b O) tF[Y][E][Bb o f g]:=by
 cases G <;> simp only[Bop.of,gQ,reduceCtorEq] at h <;> subst h
 .refine WE.weak[kop ((Bht.or Ao5).or ((Bby.or Bcv).or Bh4)) p m][Q9 λr S H x y A w Q E R l e h=>?_];rw[hK];exact Blv R l e h
 .exact WE.weak[kop Bhu p m][Q9 λr S H x y A w Q E R l e h=>Blw R l e h]
 .exact WE.weak (kop ((Bhv.or (by
   intro Z s T H x y v u Q I N L h;let(z,n,rfl,rfl,F,P,U,q):=h;let(t,rfl):=N;let(J,rfl):=L;exact SB.mul[mulOk_of 16 1048576 F () () () ()] λJ k=>(.str _,H,I.tok _,(_,rfl),q))).or Bh5) p m) (Q9 λr S H x y A w Q E R l e h=>Bpn R l e h)
 .exact WE.weak (kop (opI λi j c c c c c d q=>by
 let F:(0:Int) < j:=d;exact mod_int' () (by rw[Int.fmod_eq_emod_of_nonneg i ()];exact q)) p m) (Q9 λr S H x y A w Q E R l e h=>by
   let(i,j,rfl,rfl,h):=W4 l e h;let(d,h):=Gz h;exact(_,_,rfl,rfl,d,h.now R .int[_]))
 .exact WE.weak (kop (opI (C:=λi j=>i=10/\j=20) (g:=λi j=>i ^ j.toNat) λi j c c c c c d q=>by
   let(rfl,rfl):=d;exact aCc () () () () () q) p m) (Q9 λr S H x y A w Q E R l e h=>by
   let(i,j,rfl,rfl,h):=W4 l e h;let(d,h):=Gz h;exact(_,_,rfl,rfl,(dg (bO.mp d).1,dg (bO.mp d).2),h.now R .int[_]))
 .exact WE.weak[kop (opI λc c c c c c c d q=>lshift_int_small d.1 d.2.1 d.2.2 q) p m][Q9 λr S H x y A w Q E R l e h=>Bpo R l e h]
 .exact WE.weak (kop (opI λi j c c c c c d q=>
 rshift_int d (by rw[rD i (by
   rw[two_pow_cast];exact wH _)];exact q)) p m) (Q9 λr S H x y A w Q E R l e h=>by
     let(i,j,rfl,rfl,h):=W4 l e h;let(d,h):=Gz h;exact(_,_,rfl,rfl,d,h.now R .int[_]))
 .exact WE.weak kop[Bhs λc c c c c c c q=>and_int q][p][m] (Q9 λr S H x y A w Q E R l e h=>by
   let(i,j,rfl,rfl,h):=W4 l e h;exact(_,_,rfl,rfl,h.now R .int[_]))
 .exact WE.weak (kop (opI λi j c c c c c d q=>by
 let F:(0:Int) < j:=d.1;let P:j < 1073741824:=d.2;exact floordiv_int () (by rw[rD i ()];exact q) .inl[PyProof.noPylong_small ()]) p m) (Q9 λr S H x y A w Q E R l e h=>Bmv R l e h)
end
section
def kF(w:W):De->M W:=λuw=>pure w
def Aa(i:Nat):De->M W:=λδ=>match δ[i]? with
 |some (sr w)=>pure w
 |_=>bad
def Fv:W->o9 V
 |.non=>sr .non
 |.bl b=>sr .bl[b]
 |.int i=>sr .int[i]
 |.str x=>sr .str[x]
 |_=>sy
def Arf(h:D.Fv w=sr v):RV Y a H w v:=by
 cases w <;> simp[D.Fv] at h <;> subst h
 .exact .non
 .exact .bl _
 .exact .int _
 .exact .str _
def Aki(a:D.Fv w=sr v)(h:WE X e tC[v]):WE X e (tF Y E kF[w]):=(WE.weak h λb H Q q=>by
 let(c,S,d,R,f,q):=q;exact q.now R Arf[a])
def Bmx{i:Nat}(d:WE X e Bhk[i]):WE X e (tF Y E Aa[i]):=(WE.weak d λj H Q q=>by
 let(k,S,b,R,c,q):=q;simp[Aa] at q;cases a:b[i]? with
 |none=>rw[a] at q;trivial
 |some o=>
  rw[a] at q;cases o with
  |none=>trivial
  |some w=>
   let(v,g,f):=c i w a;exact(v,g,q.now R f))
def asB{α:Type}(w:W)(k:Bool->M α):M α:=match w with
 |.bl b=>k b
 |_=>bad
def Jj(f g:De->M W):De->M W:=λδ=>do let x<-f δ;asB x λb=>if b then g δ else pure .bl[t7]
def Biq(f:De->M W):De->M W:=λδ=>do let x<-f δ;asB x λb=>pure .bl[!b]
def Dl(f:De->M W):De->M Bool:=λδ=>do let x<-f δ;asB x λb=>pure b
def Arh(c:De->M Bool)(f g:De->M W):De->M W:=λδ=>do let b<-c δ;if b then f δ else g δ
def Akj{f e:Type}{a:lg aG->Hp->f->e->Prop}{d:lg aG}{H:Hp}{S:Store}{w:W}{v:V}{k:Bool->M f}{Q:e->Hp->Prop}{E:XK}(h:RV Y d H w v)(q:Aq Y a d H (asB w k S) Q E):∃b,v=.bl b/\Aq Y a d H (k b S) Q E:=by
 cases h <;> first|exact(q).elim|exact(_,rfl,q)
def Aps(k:∀a H Q,tF Y E f a H Q->t a H Q)(h:WT X e tB[t]):WT X e (tFb Y E Dl[f]):=(WT.weak h λa H Q ⟨ρ,S,δ,R,sl,q⟩=>by
 refine k a H _ (ρ,S,δ,R,sl,(Aq.seq q).mono ?_);rintro v s ⟨c,r,w,p,o,n,j,m⟩;let(b,rfl,l):=Akj j m;exact(b,rfl,l.now n rfl))
def Bpp(p:WT X c (tFb Y E t))(s:WE X a (tF Y E f))(r:WE X b (tF Y E g)):WE X (.IfExp c a b o) tF[Y][E][Arh t f g]:=(WE.weak[kif p s r] λx H Q ⟨ρ,S,δ,R,sl,q⟩=>by
 refine(ρ,S,δ,R,sl,(Aq.seq q).mono ?_);rintro v y ⟨d,l,w,k,i,m,rfl,j⟩;cases w with
 |true=>exact L2.Apd (d,l,δ,m,sl.mono k i,j)
 |false=>exact L2.Aty (d,l,δ,m,sl.mono k i,j))
def Cop.fn:Cop->W->W->M W
 |.lt=>Auf (λi j=>decide[i < j]) J6
 |.le=>Auf (λi j=>decide[i<=j]) (λi j=>!J6 j i)
 |.gt=>Auf (λi j=>decide[j < i]) (λi j=>J6 j i)
 |.ge=>Auf[λi j=>decide[j<=i]][λi j=>!J6 i j]
def nilF:De->M lg[W]:=λuw=>pure []
def Eo(f:De->M W)(g:De->M lg[W]):De->M lg[W]:=λδ=>do let x<-f δ;let xs<-g δ;pure (x::xs)
def Gs(g:De->M lg[W]):De->M W:=λδ=>do let xs<-g δ;Apq xs
def Ez(g:De->M lg[W]):De->M W:=λδ=>do let xs<-g δ;Dd xs
def Bir(t:WE X a (tF Y E f))(s:WA X d (tFs Y E u))(hs:starEach (a::d) X.env=(u6 t7 (eval a X.env))::starEach d X.env):WA X (a::d) tFs[Y][E][Eo f u]:=(WA.weak[⟨Xk t.un s.un hs⟩] λz H Q ⟨ρ,S,δ,R,sl,q⟩=>by
 refine(ρ,S,δ,R,sl,(Aq.seq (Rel:=RV Y) q).mono ?_);rintro v G ⟨b,x,w,r,l,y,m,o⟩;refine(b,x,δ,y,sl.mono r l,(Aq.seq (Rel:=RVs Y) o).mono ?_);rintro B F ⟨i,C,A,p,k,R2,c,n⟩;exact n.now R2 .cons[m.mono p k][c])
def Bmy{j:Nat}(h:WA X k (tFs Y E i)):WE[X][.Tuple k j g][tF Y E Gs[i]]:=(WE.weak Bpd[h] λn H Q ⟨ρ,S,δ,R,sl,q⟩=>by
 refine(ρ,S,δ,R,sl,(Aq.seq q).mono ?_);rintro r w ⟨b,v,o,t,s,l,a,c⟩;let(u,c):=Gz[by trivial]
 exact(Km (by rw[<-a.length];omega),λp hp=>c b _ _ aP[_] Bf[hp] l.beside[hp] .tup[An][a.mono aP[_] Bf[hp]]))
def Bmz(h:WA X m (tFs Y E l)):WE[X][.List m k][tF Y E Ez[l]]:=(WE.weak Bpc[h] λn H Q ⟨ρ,S,δ,R,sl,q⟩=>by
 refine(ρ,S,δ,R,sl,(Aq.seq q).mono ?_);rintro o u ⟨e,t,i,s,r,d,a,b⟩;simp[Dd] at b;by_cases c:i.length<=big
 .rw[di c] at b;refine(Km (by rw[<-a.length];omega),λp hp=>b _ _ _ (bK ..) Bf[hp] (d.alloc hp (_,An,a.mono[bK ..][Bf hp])) .ref[?_])
  exact d.len ▸ Kw
 .rw[dm c] at b;trivial)
def Dw(s:lg W->M W)(g:De->M lg[W]):De->M W:=λδ=>do let ws<-g δ;s ws
def Bis{n:Nat}(D:M4 X.K X.mg x U ps z fd)(F:Hl X.prog X.w X.K X.mg X.base CX n z fd ps (spF Y s) B)(r:Fq n X.A B)(o:Cm CX X E)(v:WA X (a::b) (tFs Y E y))(t:X.env.kindOf x=sr .globalImplicit)(f:(x==("__debug__":t6))=t7)(u:starEach (a::b) X.env=(u6 t7 (eval a X.env))::starEach b X.env)(e:(backTo d (starEach b X.env)).any (·.1)=t7):
  WE X (.Call (.Name x p) (a::b) [] d) tF[Y][E][Dw s y]:=(WE.weak[⟨Amb F r t D.gl D.fn.kp D.bd .nil o v.un f u e⟩] λN H Q ⟨ρ,S,δ,R,sl,q⟩=>by
 refine(ρ,S,δ,R,sl,(Aq.seq (Rel:=RVs Y) q).mono ?_);rintro O Z ⟨c,G,j,T,P,I,l,m⟩;exact(c,G,j,I,by simp_all,m))
end
def Axf(K:aB)(H:Hp)(x y:V):Prop:=L2.Fv y=t8\/x=.non/\∃a ys,y=.ref a/\SqT K H a ys
def Bit(K:aB)(neg:Bool):R2:=λx y H Q=>∃p xs,y=.ref p/\(SqL K H p xs\/SqT K H p xs)/\L2.Fv x=t8/\(∀y∈xs,Axf K H x y)/\Q (.bl (if neg then !inV x xs else inV x xs)) H
section
theorem Xq(I:L2.Inv X z o H s)(hu:A.units < cLine)(e:RelV x v)(g:L2.Fv x=t8):∀{xs:lg V} {c:lg aD},Vals xs c->(∀y∈xs,Axf X.K H x y)->(∀u∈c,aAf A s u v (eqU x u))/\c.any eqU[x]=inV x xs
 |_,_,.nil,_=>(λu hu=>(by trivial),rfl)
 |y::xs,u::c,.cons r t,f=>by
  let(d,n):=jV.mp f;let(l,j):=Xq I hu e g t n;let k:aAf A s u v (eqU x u)/\eqU x u=L2.eqV y x:=by
   rcases d with d|⟨rfl,a,p,rfl,h⟩
   .rw[Bh2 r d];exact(Bh1 r e d g,rfl)
   .cases r;cases e;let(m,q,pl,w):=I.tuple h;exact(aCl pl hu,rfl)
  refine(jV.mpr (k.1,l),?_);unfold inV at j ⊢
  simp_all
def Biu(hu:X.A.in1.units < cLine):OpR X compareOp[.In] (Bit X.K t7):=by
 rintro h s g H x y v u Q I b d ⟨p,xs,rfl,hq,c,fs,q⟩;cases d;rcases hq with hq|hq
 .let(a,r,pl,e):=I.list hq;let z:=Xq I hu b c r fs;refine SeqAt.in_listAt _ pl.isList (λw f=>z.1 w (by simp_all)) (.bl _,H,I,rfl,?_)
  rwa [show a.toArray.any _=a.any eqU[x] by simp,z.2]
 .let(a,r,pl,e):=I.tuple hq;let z:=Xq I hu b c r fs;refine SeqAt.in_tupleAt _ pl (λw f=>z.1 w (by simp_all)) (.bl _,H,I,rfl,?_)
  rwa [show a.toArray.any _=a.any eqU[x] by simp,z.2]
def Auh(hu:X.A.in1.units < cLine):OpR X compareOp[.NotIn] (Bit X.K t8):=by
 rintro h s g H x y v u Q I b d ⟨p,xs,rfl,hq,c,fs,q⟩;cases d;rcases hq with hq|hq
 .let(a,r,pl,e):=I.list hq;let z:=Xq I hu b c r fs;refine SeqAt.notIn_listAt _ pl.isList (λw f=>z.1 w (by simp_all)) (.bl _,H,I,rfl,?_)
  rwa [show a.toArray.any _=a.any eqU[x] by simp,z.2]
 .let(a,r,pl,e):=I.tuple hq;let z:=Xq I hu b c r fs;refine SeqAt.notIn_tupleAt _ pl (λw f=>z.1 w (by simp_all)) (.bl _,H,I,rfl,?_)
  rwa [show a.toArray.any _=a.any eqU[x] by simp,z.2]
end
def Cz{α β:Type}(f:α->o9 β):lg α->o9 lg[β]
 |[]=>sr []
 |a::as=>(f a).bind λb=>(Cz f as).map (b::·)
def G8(S:Store):Nat->W->o9 mO
 |0,.non=>sr .none
 |0,.bl b=>sr .bool[b]
 |0,.int i=>sr .int[i]
 |0,.str x=>sr .str[x]
 |0,_=>sy
 |_+1,.non=>sr .none
 |_+1,.bl b=>sr .bool[b]
 |_+1,.int i=>sr .int[i]
 |_+1,.str x=>sr .str[x]
 |n+1,.tup ws=>(Cz (G8 S n) ws).map PyData.tuple
 |n+1,.ref k=>match S[k]? with
  |some (.lst ws)=>(Cz (G8 S n) ws).map PyData.list
  |some (.dct [])=>sr .dict[[]]
  |_=>sy
 |_+1,.scr _=>sy
 |_+1,.ty _=>sy
 |_+1,.cls _=>sy
 |_+1,.exn _ _=>sy
section
theorem Akk(hf:∀w v d,RV Y k H w v->f w=sr d->DV H v d):∀{b:lg W} {g:lg V} {c:lg mO},RVs Y k H b g->Cz f b=sr c->DVs H g c
 |_,_,_,.nil,e=>by cases e;exact .nil
 |w::b,_,c,.cons h r,e=>by
  rw[Cz] at e;cases j:f w with
  |none=>simp_all
  |some d=>
   rw[j] at e;cases i:Cz f b with
   |none=>simp_all
   |some l=>
    rw[i] at e;cases e;exact .cons[hf _ _ _ h j][Akk hf r i]
theorem Xr(R:Rep Y t S H):∀(n:Nat)(w:W)(v:V)(d:mO),RV Y t H w v->G8 S n w=sr d->DV H v d
 |0,w,v,d,h,e=>by
  cases h <;> simp only[G8,gQ,reduceCtorEq] at e <;> subst e
  .exact .non
  .exact .bl _
  .exact .int _
  .exact .str _
 |n+1,w,v,d,h,e=>by
  cases h with
  |non=>cases e;exact .non
  |bl b=>cases e;exact .bl _
  |int i=>cases e;exact .int _
  |str x=>cases e;exact .str _
  |scr _=>cases e
  |ty _=>cases e
  |cls _=>cases e
  |exn _ _ _=>cases e
  |exf _ _ _ _ _ _=>cases e
  |@tup a o s m g=>
   rw[G8] at e;cases f:Cz (G8 S n) o with
   |none=>rw[f] at e;cases e
   |some y=>
    rw[f] at e;cases e;exact .tup m Akk[Xr R n][g][f]
  |@ref k a u=>
   rw[G8] at e;cases r:S[k]? with
   |none=>rw[r] at e;cases e
   |some c=>
    rw[r] at e;let(A,l,q):=R.get r;rw[u] at l;cases l;cases c with
    |lst o=>
     let(s,m,g):=q;cases f:Cz (G8 S n) o with
     |none=>simp_all
     |some y=>
      simp only[f] at e;cases e;exact .lst m Akk[Xr R n][g][f]
    |dct j=>
     cases j with
     |nil=>
      cases e;let(s,m,g):=q;cases g;exact .dct m
     |cons p j=>cases e
    |ins c fs=>cases e
    |dead=>cases e
    |clo k o=>cases e
    |tab q=>cases e
end
def eqD(neg:Bool)(x y:W):M W:=λS=>match G8 S 16 x,G8 S 16 y with
 |some d,sr e=>if oW d&&oW e then .ok (.bl (if neg then !wI d e else wI d e)) S else .bad
 |_,_=>.bad
def eqW(neg:Bool)(x y:W):M W:=match x,y with
 |.str a,.str b=>pure (.bl (if neg then !(a==b) else a==b))
 |x,y=>eqD neg x y
def Amn:W->Bool
 |.non=>t8
 |_=>t7
def Biv:Cell->Bool
 |.dct _=>t7
 |.dead=>t7
 |.clo _ _=>t7
 |.tab _=>t7
 |_=>t8
def isW(neg:Bool):W->W->M W
 |x,.non=>pure (.bl (if neg then !Amn x else Amn x))
 |.ref n,.ref m=>λS=>match S[n]?,S[m]? with
  |some c,sr d=>if Biv c&&Biv d then .ok (.bl (if neg then !decide (n=m) else decide[n=m])) S else .bad
  |_,_=>.bad
 |.bl a,.bl b=>pure (.bl (if neg then a != b else a==b))
 |_,_=>bad
def Aii:W->Bool
 |.non=>t8
 |.bl _=>t8
 |.int _=>t8
 |.str _=>t8
 |_=>t7
def eqF:W->W->Bool
 |.non,.non=>t8
 |.bl a,.bl b=>a==b
 |.bl a,.int b=>(if a then 1 else 0)==b
 |.int a,.bl b=>a==(if b then 1 else 0)
 |.int a,.int b=>a==b
 |.str a,.str b=>a==b
 |_,_=>t7
def kW:Key->W
 |.inl i=>.int i
 |.inr x=>.str x
def Abr:W->o9 Key
 |.int i=>sr .inl[i]
 |.str x=>sr .inr[x]
 |_=>sy
def Akl(kvs:lg[Key×W])(k:Key):o9 W:=(kvs.find? λp=>decide[p.1=k]).map (·.2)
def Bm0:W->Bool
 |.tup _=>t8
 |_=>t7
def Axg(x u:W):Bool:=Aii u||Amn x&&Bm0 u
def Biw(neg:Bool)(x:W)(ws:lg W):M W:=if Aii x&&ws.all Axg[x] then pure (.bl (if neg then !ws.any (eqF · x) else ws.any (eqF · x))) else bad
def inW(neg:Bool)(x y:W):M W:=match y with
 |.str j=>match x with
  |.str i=>pure (.bl (if neg then !(!(dH j i 0 j.length 1).isEmpty) else !(dH j i 0 j.length 1).isEmpty))
  |_=>bad
 |.tup ws=>Biw neg x ws
 |.ref n=>λS=>match S[n]? with
  |some (.lst ws)=>Biw neg x ws S
  |some (.dct kvs)=>match Abr x with
   |some k=>.ok (.bl (if neg then !(Akl kvs k).isSome else (Akl kvs k).isSome)) S
   |none=>.bad
  |_=>.bad
 |_=>bad
section
def Bm1:RV Y a H kW[k] kV[k]:=by
 cases k
 .exact .int _
 .exact .str _
def Axh(r:RKV Y b H a c):RVs Y b H (a.map λp=>kW p.1) (c.map λp=>kV p.1):=by
 unfold RKV at r;induction r with
 |nil=>exact .nil
 |cons h t d=>rw[cB,cB,h.1];exact .cons Bm1 d
def Aee(b:RV Y c H x a)(h:Abr x=sr k):a=kV k:=by
 cases b <;> simp only[Abr,gQ,reduceCtorEq] at h <;> subst h <;> rfl
def Ari(r:RKV Y d H a c)(k:Key):(∃w v,Akl a k=sr w/\Wy c k=sr v/\RV Y d H w v)\/(Akl a k=sy/\Wy c k=sy):=by
 induction r with
 |nil=>exact .inr (rfl,rfl)
 |@cons p q _ _ h r f=>
  unfold Akl Wy at f ⊢
  rw[zO,zO];by_cases e:p.1=k
  .let b:=h.1.symm.trans e;rw[dj e,dj b];exact .inl (_,_,rfl,rfl,h.2)
  .let b:=λz=>e h.1.trans[z];rw[dq e,dq b];omega
def Io{c b:Type}{Rel:lg aG->Hp->c->b->Prop}{w:c}{v:b}{Q:b->Hp->Prop}(h:Aq Y Rel a H (.ok w S) Q E)(r:Rep Y a S H)(q:Rel a H w v):Q v H:=(
 h a H v aP[a] (Bw.refl a H) r q)
nonrec def Bm2(R:Rep Y b S H)(k:RV Y b H x f)(g:RV Y b H y c)(h:Aq Y RV[Y] b H (eqW a x y S) Q E):
  (∃i j,f=.str i/\c=.str j/\Q (.bl (if a then !(i==j) else i==j)) H)\/∃d e,DV H f d/\DV H c e/\oW d=t8/\oW e=t8/\Q (.bl (if a then !wI d e else wI d e)) H:=by
 unfold eqW at h;split at h
 .cases k;cases g;exact .inl (_,_,rfl,rfl,Io h R .bl[_])
 .exact .inr (by
   simp only[eqD] at h;split at h
   .rename_i d e p o;split at h
    .rename_i n;let(m,l):=bO.mp n;exact(d,e,Xr R 16 _ _ _ k p,Xr R 16 _ _ _ g o,m,l,Io h R .bl[_])
    .ac_rfl
   .ac_rfl)
def Axi(b:RV Y c H x a):Amn x=decide[a=.non]:=by
 cases b <;> simp[Amn]
def Arj(h:Ht Y e H a c)(f:Biv c=t8):∃o,H a=sr o/\isObj o=t8:=by
 cases c with
 |lst b=>let(d,h,_):=h;exact(_,h,rfl)
 |dct b=>trivial
 |dead=>trivial
 |clo k b=>trivial
 |tab q=>trivial
 |ins c b=>let(g,d,h,_):=h;exact(_,h,rfl)
def Rep.inj(R:Rep Y d S H){n m:Nat}(i:d[n]?=sr a)(h:d[m]?=sr b):decide[n=m]=decide[a=b]:=by
 let(l,g):=aJ.mp i;let(k,f):=aJ.mp h;refine decide_eq_decide.mpr (λe=>?_,λe=>(mW R.nd).mp g.trans[e.trans[f.symm]])
 .subst e;exact g.symm.trans f
nonrec def Bm3(R:Rep Y i S H)(k:RV Y i H x f)(A:RV Y i H y j)(h:Aq Y RV[Y] i H (isW e x y S) Q E):
  (j=.non/\Q (.bl (if e then !decide (f=.non) else decide[f=.non])) H)\/(∃a b g ob,f=.ref a/\j=.ref b/\H a=sr g/\isObj g=t8/\H b=sr ob/\isObj ob=t8/\Q (.bl (if e then !decide (a=b) else decide[a=b])) H)\/(∃a b,f=.bl a/\j=.bl b/\Q (.bl (if e then a != b else a==b)) H):=by
 cases A with
 |non=>
  rw[<-Axi k];refine .inl (rfl,?_);exact h.now R .bl[_]
 |@ref m b o=>
  cases k <;> try ac_rfl
  rename_i n a l;simp only[isW] at h;split at h
  .rename_i c d C B;split at h
   .rename_i z;let(q,p):=bO.mp z;let s:=R.at_ _ _ _ l C;let r:=R.at_ _ _ _ o B;let(g,w,v):=Arj s q;let(ob,u,t):=Arj r p;rw[R.inj l o] at h;exact .inr[.inl (a,b,g,ob,rfl,rfl,w,v,u,t,Io h R .bl[_])]
   .ac_rfl
  .ac_rfl
 |bl b=>
  cases k <;> try ac_rfl
  exact .inr (.inr (_,_,rfl,rfl,h.now R .bl[_]))
 |_=>trivial
def Axj(b:RV Y c H x a)(h:Aii x=t8):L2.Fv a=t8:=by
 cases b <;> first|rfl|trivial
def Bix(hu:RV Y a H u c)(d:RV Y a H x b)(f:Axg x u=t8)(g:Aii x=t8):eqF u x=L2.eqV c b:=by
 cases x <;> first|(cases g;done)|(cases d;cases hu <;> rfl)
def Bcz(hu:RV Y a H u c)(d:RV Y a H x b)(f:Axg x u=t8):Axf Y.K H b c:=by
 cases hu with
 |tup e g=>
  cases d <;> first|exact .inr (rfl,_,_,rfl,SqT.of e)|trivial
 |_=>first|exact .inl rfl|(simp[Axg,Aii,Bm0] at f)
theorem Amo(d:RV Y i H x f)(g:Aii x=t8):∀{b:lg W} {c:lg V},RVs Y i H b c->b.all Axg[x]=t8->(∀y∈c,Axf Y.K H f y)/\b.any (eqF · x)=inV f c
 |_,_,.nil,_=>(λj h=>(nomatch h),rfl)
 |_,_,.cons h r,e=>by
  rw[eX,aL] at e;let z:=Amo d g r e.2;refine(jV.mpr (Bcz h d e.1,z.1),?_);let z:=z.2;unfold inV at z ⊢
  rw[vO,vO,Bix h d e.1 g,z]
def Ark(R:Rep Y b S H)(f:RV Y b H x a)(r:RVs Y b H i c)(h:Aq Y RV[Y] b H (Biw d x i S) Q E):
  L2.Fv a=t8/\(∀y∈c,Axf Y.K H a y)/\Q (.bl (if d then !inV a c else inV a c)) H:=by
 let(j,h):=Gz h;let(e,g):=bO.mp j;let z:=Amo f e r g;rw[z.2] at h;exact(Axj f e,z.1,h.now R .bl[_])
nonrec def Bm4(R:Rep Y g S H)(f:RV Y g H x n)(C:RV Y g H y l)(h:Aq Y RV[Y] g H (inW c x y S) Q E):
  (∃i j,n=.str i/\l=.str j/\Q (.bl (if c then !(!(dH j i 0 j.length 1).isEmpty) else !(dH j i 0 j.length 1).isEmpty)) H)\/Bit Y.K c n l H Q\/∃a o,l=.ref a/\Ae7 H a n o/\Q (.bl (if c then !o.isSome else o.isSome)) H:=by
 cases C with
 |str j=>
  cases f <;> try ac_rfl
  exact .inl (_,_,rfl,rfl,h.now R .bl[_])
 |tup e d=>
  let(r,p,q):=Ark R f d h;exact .inr (.inl (_,_,rfl,.inr SqT.of[e],r,p,q))
 |@ref m b u=>
  simp only[inW] at h;split at h
  .rename_i G s;let(t,e,d):=R.at_ _ _ _ u s;let(r,p,q):=Ark R f d h;exact .inr[.inl (_,_,rfl,.inl .inl[.inl[e]],r,p,q)]
  .rename_i B s;let(t,e,d):=R.at_ _ _ _ u s;split at h
   .rename_i k F;rw[Aee f F];refine .inr[.inr (b,Wy t k,rfl,Ae7.k e,?_)];rcases Ari d k with ⟨w,v,A,z,_⟩|⟨A,z⟩ <;> rw[A] at h <;> rw[z] <;> exact Io h R .bl[_]
   .ac_rfl
  .ac_rfl
 |_=>ac_rfl
end
section
def Apt(hu:X.A.units+1 < cLine):OpR X compareOp[.In] (λx y H Q=>∃a o,y=.ref a/\Ae7 H a x o/\Q .bl[o.isSome] H):=by
 rintro h s e H x y v u Q I c b ⟨a,o,rfl,g,q⟩;obtain rfl:_:=b;exact L2.Bo6 hu I g c λf d=>(.bl o.isSome,H,d,rfl,q)
def Ahn(hu:X.A.units+1 < cLine):OpR X compareOp[.NotIn] (λx y H Q=>∃a o,y=.ref a/\Ae7 H a x o/\Q .bl[!o.isSome] H):=by
 rintro h s e H x y v u Q I c b ⟨a,o,rfl,g,q⟩;obtain rfl:_:=b;exact L2.Bb3 hu I g c λf d=>(.bl _,H,d,rfl,q)
def Biy:OpR X compareOp[.Eq] (λx y H Q=>∃i j,x=.str i/\y=.str j/\Q .bl[i==j] H):=by
 rintro e s c H x y v u Q I b a ⟨i,j,rfl,rfl,q⟩;let(t,rfl):=b;let(d,rfl):=a;exact eq_str[Ir I q rfl]
def Biz:OpR X compareOp[.NotEq] (λx y H Q=>∃i j,x=.str i/\y=.str j/\Q .bl[!(i==j)] H):=by
 rintro e s c H x y v u Q I b a ⟨i,j,rfl,rfl,q⟩;let(t,rfl):=b;let(d,rfl):=a;exact ne_str[Ir I q rfl]
end
def Fd:vW->W->W->M W
 |.Lt=>Cop.fn .lt
 |.LtE=>Cop.fn .le
 |.Gt=>Cop.fn .gt
 |.GtE=>Cop.fn .ge
 |.Eq=>eqW t7
 |.NotEq=>eqW t8
 |.In=>inW t7
 |.NotIn=>inW t8
 |.Is=>isW t7
 |.IsNot=>isW t8
def Ea(op:vW)(f g:De->M W):De->M W:=λδ=>do let x<-f δ;let y<-g δ;Fd op x y
structure Bi0(Y:Th)(X:Cx)(op:vW):Type where
 r:R2
 ok:OpR X (compareOp op) r
 by_:∀ρ S H x y vx vy Q E,Rep Y ρ S H->RV Y ρ H x vx->RV Y ρ H y vy->Aq Y (RV Y) ρ H (Fd op x y S) Q E->r vx vy H Q
theorem Aui(Y:Th)(X:Cx)(hK:X.K=Y.K)(hu:X.A.units+64 < cLine):∀U:vW,Nonempty (Bi0 Y X U)
 |.Lt=>⟨(_,Blq.or (by
   intro p s l H x y v u Q I f c h;let(i,j,rfl,rfl,q):=h;let(t,rfl):=f;let(r,rfl):=c;exact lt_str[Ir I q rfl]),λm S H x y o n Q E R k g h=>Bcy R k g h)⟩
 |.LtE=>⟨(_,Blr.or (by
   intro p s l H x y v u Q I f c h;let(i,j,rfl,rfl,q):=h;let(t,rfl):=f;let(r,rfl):=c;exact PySem.P.le_str[Ir I q rfl]),λm S H x y o n Q E R k g h=>Bcy R k g h)⟩
 |.Gt=>⟨(_,Bls.or (by
   intro p s l H x y v u Q I f c h;let(i,j,rfl,rfl,q):=h;let(t,rfl):=f;let(r,rfl):=c;exact PySem.P.gt_str[Ir I q rfl]),λm S H x y o n Q E R k g h=>Bcy R k g h)⟩
 |.GtE=>⟨(_,Blt.or (by
   intro p s l H x y v u Q I f c h;let(i,j,rfl,rfl,q):=h;let(t,rfl):=f;let(r,rfl):=c;exact PySem.P.ge_str[Ir I q rfl]),λm S H x y o n Q E R k g h=>Bcy R k g h)⟩
 |.Eq=>⟨(_,Biy.or (by
   intro p s l H x y v u Q I f c h;let(d,e,hd,J,sd,w,q):=h;let(as,C):=hd.reads I f;let(bs,B):=J.reads I c;exact eq_dataH C B sd w hu (.bl _,H,I,rfl,q)),λm S H x y o n Q E R k g h=>Bm2 R k g h)⟩
 |.NotEq=>⟨(_,Biz.or (by
   intro p s l H x y v u Q I f c h;let(d,e,hd,J,sd,w,q):=h;let(as,C):=hd.reads I f;let(bs,B):=J.reads I c;exact ne_dataH C B sd w hu (.bl _,H,I,rfl,q)),λm S H x y o n Q E R k g h=>Bm2 R k g h)⟩
 |.In=>⟨(_,Atn.or[(Biu (show X.A.units+1 < cLine by omega)).or (Apt ())],λm S H x y o n Q E R k g h=>by rw[hK];exact Bm4 R k g h)⟩
 |.NotIn=>⟨(_,Aj0.or[(Auh (show X.A.units+1 < cLine by omega)).or (Ahn ())],λm S H x y o n Q E R k g h=>by rw[hK];exact Bm4 R k g h)⟩
 |.Is=>⟨(_,Bhw.or (OpR.or (by
   intro p s l H x y v u Q I f c h;let(a,b,Z,ob,rfl,rfl,N,pa,L,F,q):=h;cases f;cases c;let(o1,T,G):=Vk I N pa;let(o2,O,_):=Vk I L F;by_cases z:a=b
   .subst z;exact wpAny_is_ref_self[Ir I q ()]
   .exact wpAny_is_ref_other z T O G Ir[I][q][by simp[z]]) (by
   intro p s l H x y v u Q I f c h;let(a,b,rfl,rfl,q):=h;cases f;cases c;exact aCv[Ir I q ()])),λm S H x y o n Q E R k g h=>Bm3 R k g h)⟩
 |.IsNot=>⟨(_,Bbv.or (OpR.or (by
   intro p s l H x y v u Q I f c h;let(a,b,Z,ob,rfl,rfl,N,pa,L,F,q):=h;cases f;cases c;let(o1,T,G):=Vk I N pa;let(o2,O,_):=Vk I L F;by_cases z:a=b
   .subst z;exact wpAny_isNot_ref_self[Ir I q ()]
   .exact wpAny_isNot_ref_other z T O G Ir[I][q][by simp[z]]) (by
   intro p s l H x y v u Q I f c h;let(a,b,rfl,rfl,q):=h;cases f;cases c;exact aBp[Ir I q ()])),λm S H x y o n Q E R k g h=>Bm3 R k g h)⟩
end D
namespace L2
open PySem PySem.Spec PyProof.Rows
def K9(a:aG)(C:aG->o9 tu)(H:Hp):Hp:=λb=>match C b with
 |some o=>sr (.frz o .own[a])
 |none=>H b
def Nv(C:aG->o9 tu)(H:Hp):Hp:=λb=>match C b with
 |some _=>sy
 |none=>H b
section
variable{C:aG->o9 tu}{a:aG}
def Vl(h:C b=sr o):K9 a C H b=sr[.frz o .own[a]]:=by unfold K9;rw[h]
def Fe(h:C b=sy):K9 a C H b=H b:=by unfold K9;rw[h]
def Ip(h:C b=sr o):Nv C H b=sy:=by unfold Nv;rw[h]
def Ey(h:C b=sy):Nv C H b=H b:=by unfold Nv;rw[h]
def Eb(c:∀b o,C b=sr o->H b=sy)(h:H b=sr u):K9 a C H b=sr u:=by
 cases e:C b with
 |none=>rw[Fe e];omega
 |some o=>simp_all
def Ga(c:∀b o,C b=sr o->H b=sr[.frz o .own[a]])(h:H b=sr u)(hu:∀o,u≠.frz o .own[a]):Nv C H b=sr u:=by
 cases e:C b with
 |none=>rw[Ey e];omega
 |some o=>rw[c b o e] at h;grind
def Amp(h:Nv C H b=sr u):H b=sr u/\C b=sy:=by
 cases e:C b with
 |none=>rw[Ey e] at h;trivial
 |some o=>rw[Ip e] at h;cases h
theorem Un.drop{fs ex:lg aG}(u:Un fs ex (K9 a C H) H' h g)(k:∀b o,C b=sr o->H b=sy/\h.get? b=sr o/\H' b=sr[.frz o .own[a]]/\g.get? b=sr o):Un fs ex H (Nv C H') h g where
 keep:=λb o q n hf c=>by
  cases e:C b with
  |none=>exact u.keep b o q (by rw[Fe e];exact n) hf c
  |some d=>
   let(_,z,_,y):=k b d e;rw[q] at z;cases z;exact y
 slot:=λb o q n hf c=>by
  cases e:C b with
  |none=>exact u.slot b o q (by rw[Fe e];exact n) hf c
  |some d=>
   let(_,z,_,y):=k b d e;rw[q] at z;cases z;exact(o.slots,y)
 free:=λb o q n c=>by
  cases e:C b with
  |none=>rw[Ey e];exact u.free b o q (by rw[Fe e];exact n) c
  |some d=>exact Ip e
 there:=u.there
 tups:=λb xs q=>Ga (λb o e=>(k b o e).2.2.1) (u.tups b xs Eb[λb o e=>(k b o e).1][q]) (λf z=>by cases z)
 frzs:=λb o xs q=>Ga (λb o e=>(k b o e).2.2.1) (u.frzs b o xs Eb[λb o e=>(k b o e).1][q]) (λf z=>by cases z)
 tbls:=λb ps q=>by
  let(m,z):=u.tbls b ps Eb[λb o e=>(k b o e).1][q]
  exact(m,Ga[λb o e=>(k b o e).2.2.1][z][λf z=>by cases z])
theorem Un.addd{fs ex:lg aG}(u:Un fs ex (Nv C H) H' h j)(k:∀b o,C b=sr o->H b=sr[.frz o .own[a]]/\H' b=sy):Un fs ex H (K9 a C H') h j where
 keep:=λb o q n hf d=>by
  cases e:C b with
  |none=>exact u.keep b o q (by rw[Ey e];exact n) hf d
  |some c=>rw[(k b c e).1] at n;cases n
 slot:=λb o q n hf d=>by
  cases e:C b with
  |none=>exact u.slot b o q (by rw[Ey e];exact n) hf d
  |some c=>rw[(k b c e).1] at n;cases n
 free:=λb o q n d=>by
  cases e:C b with
  |none=>rw[Fe e];exact u.free b o q (by rw[Ey e];exact n) d
  |some c=>rw[(k b c e).1] at n;cases n
 there:=u.there
 tups:=λb xs q=>Eb (λb o e=>(k b o e).2) (u.tups b xs Ga[λb o e=>(k b o e).1][q][λf z=>by cases z])
 frzs:=λb o xs q=>Eb (λb o e=>(k b o e).2) (u.frzs b o xs Ga[λb o e=>(k b o e).1][q][λf z=>by cases z])
 tbls:=λb ps q=>by
  let(m,z):=u.tbls b ps Ga[λb o e=>(k b o e).1][q][λf z=>by cases z]
  exact(m,Eb (λb o e=>(k b o e).2) z)
def HOk.drop(x:HOk P w H h)(k:∀b o,C b=sr o->H b=sr[.frz o .own[a]]):HOk P w (Nv C H) h:=(λb o e=>
 (x b o (Amp e).1).stay (λd d d q=>q) (λc q=>Ga k q (λd z=>by cases z)) λc xs q=>Ga k q (λd z=>by cases z))
def HOk.addd(x:HOk P w H h)(k:∀b o,C b=sr o->H b=sy/\h.get? b=sr o):HOk P w (K9 a C H) h:=(λb o e=>by
 cases q:C b with
 |some f=>
  rw[Vl q] at e;cases e;exact((k b f q).2,(_,(k b f q).2))
 |none=>
  rw[Fe q] at e;exact(x b o e).stay (λd d d q=>q) (λc q=>Eb (λb o e=>(k b o e).1) q) λc xs q=>Eb (λb o e=>(k b o e).1) q)
def Fly.drop(F:Fly P w outer (K9 a C H) s H' e cls d)(k:∀b o,C b=sr o->H b=sy/\s.heap.get? b=sr o/\H' b=sr[.frz o .own[a]]):Fly P w outer H s (Nv C H') e cls d:=by
 let i:=λb o e=>(F.hok b _ (k b o e).2.2).1;let(B,m,l,h,g,f):=F.fly;refine(F.os,F.bare,F.un.drop λb o e=>((k b o e).1,(k b o e).2.1,(k b o e).2.2,i b o e),F.hok.drop λb o e=>(k b o e).2.2,F.new,?_,B,m,l,λb o q n j=>?_,g,λb u o q z=>f b u o (Amp q).1 z)
 .cases z:C e with
  |none=>rw[Ey z];exact F.fre
  |some o=>exact Ip z
 .cases z:C b with
  |none=>exact h b o q (by rw[Fe z];omega) j
  |some p=>
   simp_all
def Fly.addd(F:Fly P w outer (Nv C H) s H' e cls g)(k:∀b o,C b=sr o->H b=sr[.frz o .own[a]]/\s.heap.get? b=sr o/\b∉frs outer):Fly P w outer H s (K9 a C H') e cls g:=by
 let f:=λb o e=>F.un.free b o (k b o e).2.1 Ip[e] ()
 let j:=λb o e=>F.un.keep b o (k b o e).2.1 Ip[e] (k b o e).2.2 ()
 let(B,p,m,d,i,h):=F.fly;refine(F.os,F.bare,F.un.addd λb o e=>((k b o e).1,f b o e),F.hok.addd λb o e=>(f b o e,j b o e),F.new,?_,B,p,m,λb o q n l=>?_,i,λb u o q z=>?_)
 .cases z:C e with
  |none=>rw[Fe z];exact F.fre
  |some o=>have:=(k e o z).2.1;rw[F.new] at this;cases this
 .cases z:C b with
  |none=>exact d b o q (by rw[Ey z];exact n) l
  |some c=>simp_all
 .cases y:C b with
  |none=>rw[Fe y] at q;exact h b u o q z
  |some c=>
   let t:=d b c (k b c y).2.1 Ip[y] (k b c y).2.2;simp_all
end
end L2
namespace D
open PySem PySem.Spec PyProof.Rows L2
structure Ph(l:Lm):Prop where
 kind:l.scope.kind=.function
 co:l.scope.isCoroutine=t7
 gen:l.scope.isGenerator=t7
 nocell:∀x∈l.scope.names,x.2≠.cell
 free:∀x,l.scope.names.lookup x=sr .free->x∈l.cap
 nolocal:∀x∈l.cap,l.scope.names.lookup x≠sr .local
 nd:l.cap.Nodup
 bd:∀cl pm cd ct,bindArgs (PySem.W.kla_fn "<lambda>" l.qual l.params l.body l.scope cl pm cd ct) ([],[])=pure []
def cxL(P:bY)(w:dO)(K:aB)(mg:t6->o9 aD)(base:dD)(l:Lm)(cl:lg[t6×aG])(f:aG)(cd:aD)(A:eU)(outer:lg Env)(s:aN)(H:Hp)(E:XK)(cm:Bool:=true):Cx where
 prog:=P
 w:=w
 K:=K
 mg:=mg
 base:=base
 A:=A.deeper (lN l.qual l.scope s.heap.objs.size f cd cl)
 N:=l.cap
 s₀:=s
 H₀:=H
 env:=lN l.qual l.scope s.heap.objs.size f cd cl
 outer:=outer
 stack:=lN l.qual l.scope s.heap.objs.size f cd cl::outer
 ex:=[]
 calm:=cm
 fn:=λuw=>t7
 pn:=[]
 xe:=λe s'=>wpAny (model P w) A.deeper[lN l.qual l.scope s.heap.objs.size f cd cl] leaving[lN l.qual l.scope s.heap.objs.size f cd cl][e] (λuw s''=>CXo P w outer H s E e s'') (λe' s''=>CXo P w outer H s E e' s'') s'
def Arl(h:dD)(H:Hp)(cl:lg[t6×aG]):lg t6->lg V->Prop:=lZ λx v=>∃c u,cl.lookup x=sr c/\h.IsCell c sr[u]/\RelV v u/\H c=sy
theorem Paired.at_{b c:Type}{F:b->c->Prop}:∀{xs:lg b} {d:lg c} {i:Nat} {x:b},lZ F xs d->xs[i]?=sr x->∃y,d[i]?=sr y/\F x y
 |_,_,_,_,.nil,e=>by cases e
 |_,_,0,_,.cons r _,e=>by simp at e;subst e;exact(_,rfl,r)
 |_,_,i+1,x,.cons _ t,e=>by
  let(u,h,f):=Paired.at_ t (by trivial)
  exact(u,by trivial,f)
def Paired.mem_{b c:Type}{F:b->c->Prop}{xs:lg b}{d:lg c}{x:b}(r:lZ F xs d)(h:x∈xs):∃y,F x y:=by
 let(i,hi,e):=kO h;let(y,_,z):=Paired.at_ r (aJ.mpr (hi,e));exact(y,z)
section
variable{P:bY}{w:dO}{K:aB}{mg:t6->o9 aD}{base:dD}{l:Lm}{cl:lg (t6×aG)}{f:aG}{cd:aD}{A:eU}{outer:lg Env}{s:aN}{H:Hp}{E:XK}{cm:Bool}
def Bc0{C:dD}(S:Ph l)(hd:cm=t8->A.handled=sy)(a:Ad4 P w K mg base A outer s H)(sub:∀x c,cl.lookup x=sr c->x∈l.cap)(inj:∀x y c,cl.lookup x=sr c->cl.lookup y=sr c->x=y)(cap:Arl s.heap H cl l.cap F)(G:C.Ns s.heap.objs.size λn=>sy)(k:∀b o,s.heap.get? b=sr o->C.get? b=sr o):Inv (cxL P w K mg base l cl f cd A outer s H E cm) [] F.map[sr] H { s with heap:=C }:=by
 let d:∀b:aG,b∉(cxL P w K mg base l cl f cd A outer s H E cm).ex:=λb z=>absurd (show b∈([]:lg aG) from z) ()
 let cel:∀x c,cl.lookup x=sr c->∃u,s.heap.IsCell c sr[u]/\H c=sy:=λx c e=>by
  let(v,O,u,g,m,_,B):=Paired.mem_ cap (sub x c e);rw[e] at g;cases g;exact(u,m,B)
 refine((a.mod,S.kind,rfl,rfl,aM _,inj,λy hy=>?_,λy c z n=>(nomatch z),hd,uM a.frames,.inr (rfl,rfl),λb z=>absurd z d[b],a.bs,a.bsz,λb n n=>d b,λb z=>absurd z d[b],a.funs,a.frf),
  rfl,a.bare,Un.kept k,(_,G,λi y v g m I=>?_),λy c h=>?_,a.hok.fresh aM[_],λy c h=>?_,λp hp=>absurd (show p∈([]:lg[aG×tu]) from hp) (),a.hok.kept k,?_)
 .rcases hy with hy|hy
  .exact absurd rfl (S.nocell _ gP[hy])
  .let(_,c,_,e,_):=Paired.mem_ cap (S.free y hy);exact(c,e)
 .let(N,J,c,u,B,(o,t,r),q,_):=Paired.at_ cap g;rw[bJ,J] at m;cases m;refine(u,q,.inr (?_,c,B,o,k _ _ t,r));rcases I with z|z|z
  .exfalso;exact absurd z (S.nolocal y gG[g])
  .exact .inl z
  .exact .inr z
 .let(u,(o,t,q),_):=cel y c h;exact(_,o,k _ _ t,q)
 .exact(cel y c h).choose_spec.2
 .show (F.map sr).length=l.cap.length;rw[aK,rZ cap]
end
section
variable{P:bY}{w:dO}{K:aB}{mg:t6->o9 aD}{base:dD}{l:Lm}{cl:lg (t6×aG)}{f c':aG}{pm ct:aD}{A:eU}{outer:lg Env}{s:aN}{H:Hp}{Q:VK}{E:XK}{cm:Bool}{k:Nat}
def Bc1(S:Ph l)(hf:s.heap.get? f=sr[jM "<lambda>" l.qual l.params l.body l.scope cl pm c' ct])(h:s.heap.CodeRec .ref[c'] l.qual)(d:Fq (k+1) A cm)(i:Ad4 P w K mg base A outer s H)(sub:∀x c,cl.lookup x=sr c->x∈l.cap)(inj:∀x y c,cl.lookup x=sr c->cl.lookup y=sr c->x=y)(cap:Arl s.heap H cl l.cap j)(z:Fq k A.deeper[lN l.qual l.scope s.heap.objs.size f .ref[c'] cl] cm->∃t,PE (cxL P w K mg base l cl f .ref[c'] A outer s H E cm) l.body t/\t j.map[sr] H Q):codeAny[model P w][A][.call .ref[f] ([],[])][CR (CXo P w) outer P w H s Q E][s]:=by
 refine PySem.W.kla_callFunE d.depth hf rfl S.co S.gen rfl h ?_;rw[S.bd];refine aH uO[S.nocell][λx p=>nomatch p][λC g a=>((i.mod.nolimit.keeps λb o e=>(i.bs b o e).1).fresh _ a,?_)][S.kind];let(t,r,q):=z d.deeper[_];refine PySem.W.kla_codeExpr[cQ[r [] _ j.map[sr] H Q (Bc0 S d.hd i sub inj cap g λb o e=>a.extBut b o bM[aV[e]] (aC _ e)) q][λu m hs=>?_] λe m hs=>hs];let(v,B,J,n,q):=hs;exact(v,B,J.os,J.bare,J.base,J.hok,n,q)
end
def lamF(n:Nat)(b:De->M W):lg W->M W:=λws=>if ws.length=n then b ws.map[sr] else bad
structure Xu(Y:Th)(P:bY)(w:dO)(K:aB)(mg:t6->Option aD)(base:dD)(k:Nat)(l:Lm)(g:List W->M W):Prop where
 sc:Ph l
 run:∀(cl:List (t6×aG))(f c':aG)(pm ct:aD)(A:eU)(outer:List Env)(s:aN)(H:Hp)(vs:List V)(Q:VK)(E:XK),s.heap.get? f=sr (jM "<lambda>" l.qual l.params l.body l.scope cl pm c' ct)->s.heap.CodeRec (.ref c') l.qual->Fq k A t8->Ad4 P w K mg base A outer s H->
  (∀x c,cl.lookup x=sr c->x∈l.cap)->(∀x y c,cl.lookup x=sr c->cl.lookup y=sr c->x=y)->Arl s.heap H cl l.cap vs->spF Y g vs H Q E->codeAny (model P w) A (.call (.ref f) ([],[])) (CR (CXo P w) outer P w H s Q E) s
def Bi1{P:bY}{w:dO}{K:aB}{mg:t6->o9 aD}{base:dD}{k:Nat}{l:Lm}{b:De->M W}(S:Ph l)(m:∀cl f a A outer s H E,Fq k A.deeper[lN l.qual l.scope s.heap.objs.size f .ref[a] cl] t8->WE (cxL P w K mg base l cl f .ref[a] A outer s H E t8) l.body tF[Y][λL=>E][b]):Xu Y P w K mg base (k+1) l (lamF l.cap.length b):=(
 (S,λcl f a O ct A outer s H J Q E B z y x t p o n=>by
  refine Bc1 S B z y x t p o λj=>(_,(m cl f a A outer s H E j).un,?_);let(d,S,g,R,r,q):=n;unfold lamF at q;by_cases c:g.length=l.cap.length
  .rw[di c] at q;refine(d,S,_,R,λi u e=>?_,q);rw[bJ] at e;let(N,F,C):=bG.mp e;cases C;let(v,ev,h):=r.get F;exact(v,by simp_all,h)
  .rw[dm c] at q;exact q.elim))
mutual
theorem RV.dropC{Y:Th}{a:lg aG}{H e:Hp}(t:∀b o,H b=sr o->Bcx o=t8->e b=sr o):∀{w:W} {v:V},RV Y a H w v->RV Y a e w v
 |_,_,.non=>.non
 |_,_,.bl b=>.bl b
 |_,_,.int i=>.int i
 |_,_,.str x=>.str x
 |_,_,.tup h r=>.tup (t _ _ h rfl) (RVs.dropC t r)
 |_,_,.ty n=>.ty n
 |_,_,.cls c=>.cls c
 |_,_,.exn x m h=>.exn x m (t _ _ h rfl)
 |_,_,.exf x m f h g r=>.exf x m f (t _ _ h rfl) (t _ _ g rfl) (RV.dropC t r)
 |_,_,.scr h=>.scr (by
  rcases h with ⟨o,h⟩|h
  .exact .inl (o,t _ _ h rfl)
  .exact .inr h)
 |_,_,.ref h=>.ref h
theorem RVs.dropC{Y:Th}{c:lg aG}{H f:Hp}(t:∀b o,H b=sr o->Bcx o=t8->f b=sr o):∀{d:lg W} {e:lg V},RVs Y c H d e->RVs Y c f d e
 |_,_,.nil=>.nil
 |_,_,.cons h r=>.cons[RV.dropC t h][RVs.dropC t r]
end
section
variable{C:aG->o9 tu}{a:aG}
def Afi{H:Hp}(c:∀b o,C b=sr o->H b=sr[fc a o]):∀b o,H b=sr o->Bcx o=t8->Nv C H b=sr o:=(λb o q n=>Ga c q (by rintro d rfl;cases n))
def Ht.drop(n:∀b o,C b=sr o->H b=sr[fc a o])(G:C m=sy)(ne:m≠a)(h:Ht Y p H m c):Ht Y p (Nv C H) m c:=by
 let t:=Afi n;let k:_=H m:=Ey G;cases c with
 |lst g=>let(f,h,r):=h;exact(f,k.trans h,r.dropC t)
 |dct g=>let(f,h,r):=h;exact(f,k.trans h,Paired.imp2 (λi i z=>(z.1,z.2.dropC t)) r)
 |ins c g=>let(J,f,h,r):=h;exact(J,f,k.trans h,Paired.imp2 (λi i z=>(z.1,z.2.dropC t)) r)
 |dead=>let(o,u,h,z):=h;exact(o,u,k.trans h,z)
 |clo j g=>
  let(f,(cl,B,ct,L,E,fs,tk,h,I,d,q,s,F,cap),r):=h;refine(f,(cl,B,ct,L,E,fs,tk,k.trans h,t _ _ I rfl,d,q,s,F,L2.Paired.mapP cap λ_ _ ⟨c,o,u,q1,q2,q3⟩=>(c,o,u,q1,Ga n q2 ?_,q3)),r.dropC t)
  grind
 |tab q=>
  let(ps,h,z,y):=h;refine(ps,k.trans h,z,λl v e=>?_);let(c,o,fs,tk,r,z,y):=y l v e;exact(c,o,fs,tk,r,t _ _ z rfl,y)
def Ht.noC(h:Ht Y f H b c):H b≠sr[fc a o]:=by
 intro z;cases c with
 |lst d=>let(e,h,r):=h;simp_all
 |dct d=>let(e,h,r):=h;simp_all
 |ins c d=>let(k,e,h,r):=h;simp_all
 |dead=>let(o,u,h,y):=h;rw[z] at h;cases h;cases y
 |clo j d=>let(e,(cl,g,ct,l,i,fs,tk,h,_),r):=h;simp_all
 |tab q=>let(ps,h,_):=h;simp_all
def Rep.noC(R:Rep Y d S H)(h:H b=sr[fc a o]):b∉d:=(λm=>by
 let(n,e,rfl):=kO m;let hs:n < S.length:=by rw[<-R.len];omega
 exact(R.at_ n _ _ aQ[e] aQ[hs]).noC h)
theorem Rep.drop{n:Nat}(R:Rep Y h S H)(i:h[n]?=sr a)(t:H a=sr fz[v])(p:∀b o,C b=sr o->H b=sr[fc a o]/\b∉h):Rep Y h (S.set n .dead) (Nv C H) where
 len:=by rw[gJ];exact R.len
 nd:=R.nd
 tb:=R.tb
 at_:=λm b d f g=>by
  let k:=λb o e=>(p b o e).1;let l:C b=sy:=by
   cases z:C b with
   |none=>rfl
   |some o=>exact absurd gG[f] (p b o z).2
  by_cases j:m=n
  .subst j;rw[i] at f;cases f;let s:m < S.length:=by rw[<-R.len];exact(aJ.mp i).1
   rw[fO s] at g;cases g;exact(_,_,(Ey l).trans t,rfl)
  .rw[cW eF[j]] at g;refine(R.at_ m b d f g).drop k l ?_;rintro rfl;let(x,r):=aJ.mp i;let(w,q):=aJ.mp f;exact j[(mW R.nd).mp q.trans[r.symm]]
theorem Rep.addd(R:Rep Y e S H)(d:∀b o,C b=sr o->H b=sy):Rep Y e S (K9 a C H) where
 len:=R.len
 nd:=R.nd
 tb:=R.tb
 at_:=λn b c g f=>by
  let q:=R.at_ n b c g f;let(u,hu):=q.there;exact q.keep[(Eb d hu).trans hu.symm] λb o q h=>Eb d q
theorem Bw.addd{i H:Hp}(R:Rep Y d S' H)(t:Bw l d (Nv C i) H)(h:∀b o,C b=sr o->i b=sr[fc a o])(j:∀b o,C b=sr o->H b=sy):Bw l d i (K9 a C H) where
 t:=λb xs q=>Eb j (t.t b xs Ga[h][q][λp z=>by cases z])
 f:=λb o u q=>by
  cases e:C b with
  |none=>rw[Fe e];exact t.f b o u ((Ey e).trans q)
  |some g=>rw[h b g e] at q;cases q;exact Vl e
 k:=λb o q m=>by
  cases e:C b with
  |none=>rw[Fe e];exact t.k b o ((Ey e).trans q) m
  |some g=>rw[h b g e] at q;cases q;exact Vl e
 n:=λb m=>by
  rcases t.n b m with z|z
  .exact .inl z
  .cases e:C b with
   |none=>exact .inr ((Ey e).symm.trans z)
   |some o=>
    let(u,hu):=R.tracked m;rw[j b o e] at hu;cases hu
end
open Classical in
noncomputable def Rv(h:dD)(cl:lg[t6×aG]):aG->o9 tu:=λb=>if ∃x,cl.lookup x=sr b then h.get? b else sy
def Akm(e:Rv h cl b=sr o):(∃x,cl.lookup x=sr b)/\h.get? b=sr o:=by
 unfold Rv at e;simp_all
def Arm{cl:lg[t6×aG]}(e:cl.lookup x=sr b)(d:h.get? b=sr o):Rv h cl b=sr o:=by
 unfold Rv;rw[di (x,e)];omega
def noArgs(p:vA):Bool:=p.posonlyargs.isEmpty&&p.args.isEmpty&&p.vararg.isNone&&p.kwonlyargs.isEmpty&&p.kw_defaults.isEmpty&&p.kwarg.isNone&&p.defaults.isEmpty
def W5(l:Lm):Bool:=decide[l.scope.kind=.function]&&!l.scope.isCoroutine&&!l.scope.isGenerator&&l.scope.names.all[λx=>!(x.2==.cell)]&&l.scope.names.all[λx=>!(x.2==.free)||l.cap.contains x.1]&&
 l.cap.all[λx=>!decide (l.scope.names.lookup x=sr .local)]&&decide l.cap.Nodup&&noArgs l.params
def Aij{p:vA}(h:noArgs p=t8):p=([],[],sy,[],[],sy,[]):=by
 let(a,b,c,d,e,f,g):=p;unfold noArgs at h;simp_all
def Bc2{l:Lm}(h:W5 l=t8):Ph l:=by
 unfold W5 at h;simp only[aL,dh,iW,bB] at h;let(((((((k,j),i),g),f),d),c),b):=h;refine(k,j,i,λx a e=>?_,λx a=>?_,λx a e=>?_,c,λcl m n ct=>?_)
 .have:=g x a;simp_all
 .have:=f _ gP[a];simp_all
 .have:=d x a;rw[decide_eq_false_iff_not] at this;trivial
 .rw[Aij b];rfl
def Aef(L:Lm->lg W->M W)(x:W):M W:=match x with
 |.ref n=>λS=>match S[n]? with
  |some (.clo l ws)=>if W5 l then L l ws (S.set n .dead) else .bad
  |_=>.bad
 |_=>bad
def Afj(L:Lm->lg W->M W)(f:De->M W):De->M W:=λδ=>do let x<-f δ;Aef L x
def QA(a:aG)(C:aG->o9 tu)(Q:VK):VK:=λv H=>(∀b o,C b=sr o->H b=sy)->Q v (K9 a C H)
def EA(a:aG)(C:aG->o9 tu)(E:XK):XK:=λcls o H=>(∀b o,C b=sr o->H b=sy)->E cls o (K9 a C H)
def Aq.addd{C:aG->o9 tu}{r:R W}(h:Aq Y RV[Y] k H r Q E)(j:∀b o,C b=sr o->H b=sr[fc a o]):Aq Y RV[Y] k (Nv C H) r (QA a C Q) (EA a C E):=by
 cases r with
 |ok w s=>exact λg x v p t R i f=>h g _ v p (t.addd R j f) R.addd[f] (i.keep λb o q l=>Eb f q)
 |exc c s=>
  intro g x p t R;unfold XP;cases e:Y.xf c.1 with
  |none=>
   intro f;let z:=h g _ p (t.addd R j f) R.addd[f];unfold XP at z;simp_all
  |some n=>
   intro d v hd m i f;let z:=h g _ p (t.addd R j f) R.addd[f];unfold XP at z;rw[e] at z;exact z d v hd (Eb f m) (i.keep λb o q l=>Eb f q)
 |bad=>exact h
nonrec def Axk{L:Lm->lg W->M W}(hL:∀l,Ph l->∃n,Xu Y X.prog X.w X.K X.mg X.base n l L[l]/\Fq n X.A t8)(hx:Cm (CXo X.prog X.w) X E)(N:WE[X][.Name x p][tF Y E f]):
  WE X (.Call (.Name x p) [] [] pos) tF[Y][E][Afj L f]:=(⟨λaa s U H Q I ⟨ρ,S,δ,R,sl,q⟩=>by
 refine eV (thn (N.un aa s U H _ I (ρ,S,δ,R,sl,(Aq.seq (Rel:=RV Y) q))) λu g ⟨v,H1,I1,r1,⟨ρ1,S1,w,p1,t1,R1,rv,h⟩⟩=>?_);unfold Aef at h;cases rv <;> try ac_rfl
 rename_i n a N;dsimp only at h;cases ec:S1[n]? with
 |none=>rw[ec] at h;ac_rfl
 |some c=>
 rw[ec] at h;cases c <;> try ac_rfl
 rename_i l ws;dsimp only at h;split at h
 case isFalse=>exact h.elim
 rename_i hlb;let(m,hL,hr):=hL l Bc2[hlb];let(vs,(cl,pm,ct,T,oC,fs,tk,ha,hc,d,t,sb,ij,cap),Z):=R1.at_ _ _ _ N ec;cases (show u=bI a from r1);let C:g.heap.get? a=sr _:=(show _/\_ from I1.hok a _ ha).1;let hfc:g.heap.get? T=sr oC:=(show _/\_ from I1.hok T _ hc).1;let j:∀b o,Rv g.heap cl b=sr o->H1 b=sr[fc a o]:=λb o z=>by
  let((x,P),e2):=Akm z;let(v,c,o',u',h,J,_):=Paired.mem_ cap (sb x b P);rw[P] at h;cases h;have:=(show _/\_ from I1.hok b _ J).1;rw[e2] at this;cases this;exact J
 let hρ:∀b o,Rv g.heap cl b=sr o->H1 b=sr[fc a o]/\b∉ρ1:=λb o z=>(j b o z,R1.noC[j b o z]);let O:∀b o,Rv g.heap cl b=sr o->g.heap.get? b=sr o:=λb o z=>(Akm z).2;let hs:∀b o,Rv g.heap cl b=sr o->b∉frs X.stack:=λb o z m=>by
  have:=I1.stkFree b m;rw[j b o z] at this;cases this
 let i:=I1.env0;let P:Ad4 X.prog X.w X.K X.mg X.base X.A X.stack g Nv[Rv g.heap cl][H1]:=(i.frames,i.mod,λb o z=>((i.bs b o z).1,by
  cases y:Rv g.heap cl b with
  |none=>rw[Ey y];exact(i.bs b o z).2
  |some o=>exact Ip y),i.bsz,i.funs,λb z=>by
  cases y:Rv g.heap cl b with
  |none=>rw[Ey y];exact i.frf b z
  |some o=>exact Ip y,i.hok.drop j,i.bare)
 let ci:Arl g.heap Nv[Rv g.heap cl][H1] cl l.cap vs:=L2.Paired.mapP cap λx v ⟨c,o,u,h,J,q3,q4⟩=>by
  let z:=(show _/\_ from I1.hok c _ J).1;exact(c,u,h,(o,z,q3),q4,Ip[Arm h z])
 refine PySem.W.callWith_F0 (_,_,_,_,C) (jX (gU (hL.run cl a T pm ct X.A X.stack g _ vs QA[a][Rv g.heap cl][Q] EA[a][Rv g.heap cl][E[U]] C (T,oC,fs,tk,rfl,hfc,d,t) hr P sb ij ci
  (ρ1,S1.set n .dead,ws,R1.drop N ha hρ,Z.dropC Afi[j],h.addd j)) λr s' t=>?_))
 cases r with
 |error e=>
  let(ea,cls,H',o,rfl,F,ox,hE):=t;exact hx aa U H1 g _ s' I1 (ea,cls,_,o,rfl,F.addd λb o z=>(j b o z,O b o z,hs b o z),ox,hE λb o z=>F.un.free b o (O b o z) Ip[z] ())
 |ok fl=>
  cases fl with
  |ret u=>
   let(v,H',os,bare,un,hok,r,hQ):=t;let k0:∀b o,Rv g.heap cl b=sr o->H' b=sy:=λb o z=>un.free b o (O b o z) Ip[z] ()
   exact I1.after (v,_,os,bare,un.addd λb o z=>(j b o z,k0 b o z),hok.addd λb o z=>(k0 b o z,un.keep b o (O b o z) Ip[z] (hs b o z) ()),r,hQ k0)
  |next=>exact t.elim
  |brk=>exact t.elim
  |cont=>exact t.elim⟩)
def Bgz(n:Nat):R W->R W
 |.ok w S=>.ok w (S.set n .dead)
 |.exc c S=>.exc c (S.set n .dead)
 |.bad=>.bad
def Dy(j:Nat)(l:Lm)(cap:lg Nat)(g:lg W->M W):De->M W:=λδ S=>match Cz (λi=>δ.getD i sy) cap with
 |some ws=>match S[j]? with
  |some (.tab q')=>if q'=l.qual then Bgz S.length g[[.ref S.length]][S ++ [.clo l ws]] else .bad
  |_=>.bad
 |none=>.bad
def QD(a:aG)(C:aG->o9 tu)(Q:VK):VK:=λv H=>(∀b o,C b=sr o->H b=sr[fc a o])/\Q v (Nv C H)
def ED(a:aG)(C:aG->o9 tu)(E:XK):XK:=λcls o H=>(∀b o,C b=sr o->H b=sr[fc a o])/\E cls o (Nv C H)
section
variable{C:aG->o9 tu}{a:aG}
def Bw.dropd(t:Bw h d H H')(j:∀b o,C b=sr o->H b=sy)(i:∀b o,C b=sr o->H' b=sr[fc a o]):Bw h d H (Nv C H'):=by
 let z:∀b u,H b=sr u->C b=sy:=λb u q=>by
  cases e:C b with
  |none=>rfl
  |some o=>simp_all
 exact(λb xs q=>(Ey[z b _ q]).trans (t.t b xs q),λb o u q=>(Ey[z b _ q]).trans (t.f b o u q),λb o q m=>(Ey[z b _ q]).trans (t.k b o q m),t.n)
def Aq.shut{r:R W}{n:Nat}{G:tu}(h:Aq Y RV[Y] q H (Bgz n r) Q E)(s:Bw q j H H1)(u:q <+: j)(x:j[n]?=sr a)(y:H1 a=sr fz[G])(B:∀b o,C b=sr o->H b=sy)(A:∀b o,C b=sr o->H1 b=sr[fc a o]):
  Aq Y RV[Y] j H1 r (QD a C Q) (ED a C E):=by
 let k:∀{g:lg aG},j <+: g->g[n]?=sr a:=λp=>by
  let(r,rfl):=p;rw[aW (aJ.mp x).1];exact x
 cases r with
 |ok w J=>
  intro g O v p t R l;let i:=λb o z=>t.f _ _ _ (A b o z);exact(i,h g _ v u.trans[p] ((s.trans t).dropd B i) (R.drop[k p][t.f _ _ _ y] λb o z=>(i b o z,R.noC[i b o z])) l.dropC[Afi[i]])
 |exc c J=>
  intro g O p t R;let i:=λb o z=>t.f _ _ _ (A b o z);let z:=h g _ u.trans[p] ((s.trans t).dropd B i) (R.drop[k p][t.f _ _ _ y] λb o z=>(i b o z,R.noC[i b o z]));unfold XP at z ⊢
  cases e:Y.xf c.1 with
  |none=>rw[e] at z;trivial
  |some n=>rw[e] at z;exact λd v hd I l=>(i,z d v hd (Afi i d _ I rfl) l.dropC[Afi[i]])
 |bad=>exact h
def Axl{H:Hp}(h:C a=sy):K9 a C (upd H a u)=upd (K9 a C H) a u:=by
 funext b;by_cases e:b=a
 .subst e;rw[Fe h,An,An]
 .rw[Ah e];cases z:C b with
  |none=>rw[Fe z,Fe z,Ah e]
  |some o=>rw[Vl z,Vl z]
end
structure Maker(Y:Th)(X:Cx)(j:Nat):Prop where
 code:∃c P,X.env.code=.ref c/\Y.tb[j]?=sr P/\fJ X.K c P=t8
 own:∀x,X.fn x=t8
 blt:∃bm o,X.mg "__builtins__"=sr (.ref bm)/\bm≠builtinsNs/\bm≠mainGlobals/\X.base.get? bm=sr o/\o.cls=.type "module"/\o.dict=sr builtinsNs/\o.data=.plain
theorem Aik:∀{ps:lg aD} {m:lg aD},tD ps->codeAmong d (ps ++ m)=(codeAmong d ps).or (codeAmong d m)
 |[],m,_=>by rfl
 |.int a t::.int b u::c::r,m,h=>by
  show (if _ then _ else codeAmong d (r ++ m))=_
  rw[Aik (ps:=r) h,show codeAmong d (_::_)=if _ then _ else _ from rfl]
  split <;> rfl
structure Made(Y:Th)(X:Cx)(l:Lm)(aa:List (aG×tu))(σ:L2.St)(ρ:List aG)(S:Store)(H:Hp)(s:aN)(cl:List (t6×aG))(a:aG)(s1:aN)(H0:Hp)(c':aG)(oC:tu)(fs:Array aD)(tk:Tok)(pm ct:aD):Prop where
 inv:Inv X aa σ (upd H0 a (fz (jM "<lambda>" l.qual l.params l.body l.scope cl pm c' ct))) s1
 rep:Rep Y ρ S H0
 tup:Bw ρ ρ H H0
 new:H0 a=sy
 nws:s.heap.get? a=sy
 code:H0 c'=sr (fz oC)
 dat:oC.data=.fields fs
 qn:fs[1]?=sr (.str l.qual tk)
 kp:∀b o,s.heap.get? b=sr o->H b=sy->s1.heap.get? b=sr o
def made{l:Lm}{j:Nat}{cl:lg[t6×aG]}{E':aD->aN->Prop}(M:Maker Y X j)(I:Inv X aa σ H s)(R:Rep Y N S H)(hj:S[j]?=sr .tab[l.qual])(hdef:defaultsOf l.params X.env=(u6 [] []))(hq:X.env.qual ++ "<lambda>"=l.qual)(hcl:closureFor l.scope X.env=pure cl)(h:∀a s1 H0 f p fs tk pm ct,Made Y X l aa σ N S H s cl a s1 H0 f p fs tk pm ct->Q .ref[a] s1):
  wpAny (model X.prog X.w) X.A eval[.Lambda l.params l.body l.scope d][X.env] Q E' s:=by
 let(c,P,hc,hP,hhd):=M.code;let J:N[j]?=sr P:=by
  let(r,e):=R.tb;rw[<-e,aW (aJ.mp hP).1];exact hP
 let(ps,k,ht,hco):=R.at_ j P _ J hj;let C:s.heap.get? P=sr mQ[ps]:=I.hok P _ k;let hg:s.heap.Ns mainGlobals X.mg:=I.mod.glob.keeps I.bk;let(bm,ob,b1,b2,b3,b4,b5,b6,b7):=M.blt;let nb:∀b o,X.base.get? b=sr o->b≠P:=λb o e z=>by
  have:=(I.bs b o e).2;rw[z,k] at this;cases this
 let hgP:mainGlobals≠P:=by
  let(o,es,ep,e,_):=I.mod.glob;exact nb _ _ e
 let hb:s.heap.BuiltinsAt X.mg P:=(bm,ob,b1,b2,b3,nb _ _ b4,I.bk _ _ b4,b5,b6,b7);let hC:=vK I.kIn hhd;refine PySem.W.kla_eval hdef ?_;rw[hq];cases hf:codeAmong d ps.toList with
 |some v=>
  let(f,p,fs,tk,rfl,z1,z2,z3):=hco d v hf;refine PySem.W.kla_makeFunctionHit (mg:=X.mg) hcl I.ok.glob hg hc hC C ht hf hb λB F tk' hk L=>h _ _ H f p fs tk ((X.mg "__name__").getD .none) B (?_,R,Bw.refl N H,I.hok.fresh L,gV L,z1,z2,z3,λb o e g=>aC _ (hk b o e));exact I.laid (a:=F.objs.size) (λb u e=>aC _ (hk b u e)) L (aR _ rfl,trivial,(_,aR _ rfl),λg g g g=>trivial)
 |none=>
  refine PySem.W.kla_makeFunction (mg:=X.mg) hcl I.ok.glob hg hc hC C ht hf hgP hb λf B F tk hx i y hrec htb=>?_;let(c2,p,fs,tq,e2,hoc,hd,hv):=hrec;cases e2;let ne:∀b u,H b=sr u->b≠f:=λb u e=>bM[aO I.hok.lt[e] i];let E:H f=sy:=I.hok.fresh i;let hH':upd H f fz[p] P=sr .tbl[ps]:=by rw[Ah[ne P _ k]];exact k
  let Z:Bw N N (upd H f fz[p]) upd[upd H f fz[p]][P][.tbl[ps ++ #[rawInt d.line,rawInt d.col,.ref f]]]:=Mi J hH' (λg e=>by cases e) (λg g e=>by cases e)
  let hts:tD (ps ++ #[rawInt d.line,rawInt d.col,.ref f]).toList:=by
   rw[iY];let all:∀l:lg aD,tD l->tD[l ++ [rawInt d.line,rawInt d.col,.ref f]]:=λl=>by
    fun_induction tD l with
    |case1=>intro _;exact trivial
    |case2 a t b u c r ih=>intro z;exact ih z
    |case3=>intro z;exact z.elim
   exact all _ ht
  let cell:∀H2:Hp,(∀b u,H b=sr u->clK u=t8->H2 b=sr u)->H2 f=sr fz[p]->Xp H2 l.qual (ps ++ #[rawInt d.line,rawInt d.col,.ref f]):=λH2 k2 kc m v e=>by
   rw[iY,Aik ht] at e;cases e1:codeAmong m ps.toList with
   |some v'=>
    rw[e1] at e;cases e;let(c3,o3,f3,t3,q1,q2,q3):=hco m _ e1;exact(c3,o3,f3,t3,q1,k2 _ _ q2 rfl,q3)
   |none=>
    rw[e1] at e;let e:(if (u6 rawInt[d.line] rawInt[d.col]).1=rawInt d.line/\((d.line:Int)==m.line&&(d.col:Int)==m.col)=t8 then sr bI[f] else sy)=sr v:=by
     simp only[Option.none_or] at e;simp only[true_and];exact e
    split at e
    .cases e;exact(f,p,fs,tq,rfl,kc,hd,hv)
    .cases e
  let nca:F.objs.size≠f:=jP y;let T:F.objs.size≠P:=jP aO[aV C][aF i gK[y]];let O:f≠P:=jP[aO aV[C] i];let han:H F.objs.size=sy:=I.hok.fresh[aF i gK[y]];let U:∀b o,b≠P->s.heap.get? b=sr o->(F.push[jM "<lambda>" l.qual l.params l.body l.scope cl ((X.mg "__name__").getD .none) f B]).get? b=sr o:=λb o z e=>aC _ (hx b o z e);let x:∀b u,b≠P->H b=sr u->upd upd[upd H f fz[p]][P][.tbl[ps ++ #[rawInt d.line,rawInt d.col,.ref f]]] F.objs.size fz[jM "<lambda>" l.qual l.params l.body l.scope cl ((X.mg "__name__").getD .none) f B] b=sr u:=λb u z e=>by
   rw[Ah[Bm e han],Ah z,Ah[Bm e E]];exact e
  refine h F.objs.size _ upd[upd H f fz[p]][P][.tbl[ps ++ #[rawInt d.line,rawInt d.col,.ref f]]] f p fs tq ((X.mg "__name__").getD .none) B (?_,?_,(Bf E).trans Z,?_,gV[aF i gK[y]],by rw[Ah O];exact An,hd,hv,λb o e n=>U b o (λz=>by rw[z,k] at n;cases n) e)
  .refine I.un (λb o e n g g=>U b o (λz=>by rw[z,k] at n;cases n) e,λb o e n g g=>(o.slots,U b o (λz=>by rw[z,k] at n;cases n) e),λb o e n g=>?_,λb o e g=>?_,λb xs e=>x b _ (λz=>by rw[z,k] at e;cases e) e,λb o u e=>x b _ (λz=>by rw[z,k] at e;cases e) e,λb qs e=>?_) λb o e=>?_
   .have:=aV e;rw[Ah bM[aO[this][aF i gK[y]]],Ah (λz=>by rw[z,k] at n;cases n),Ah bM[aO this i]]
    exact n
   .by_cases z:b=P
    .subst z;exact(_,aC _ htb)
    .exact(o,U b o z e)
   .by_cases z:b=P
    .subst z;rw[k] at e;cases e;exact(_,by rw[Ah eF[T],An])
    .exact(#[],by rw[x b _ z e];simp)
   .by_cases za:b=F.objs.size
    .subst za;rw[An] at e;cases e;exact(aR _ rfl,trivial,(_,aR _ rfl),λg g g g=>trivial)
    .rw[Ah za] at e;by_cases zP:b=P
     .subst zP;rw[An] at e;cases e;exact aC _ htb
     .rw[Ah zP] at e;by_cases zc:b=f
      .subst zc;rw[An] at e;cases e;exact(aC _ hoc,trivial,(_,aC _ hoc),λg g g g=>trivial)
      .rw[Ah zc] at e;exact(I.hok b o e).stay (λc v z q=>U c v (by
        rcases z with z|z
        .rw[z];exact zP
        .rintro rfl;rw[k] at z;cases z) q) (λc q=>x c _ (by rintro rfl;rw[k] at q;cases q) q) λc xs q=>x c _ (by rintro rfl;rw[k] at q;cases q) q
  .let r:=(R.beside (o:=fz p) E).write J Z (c:=.tab l.qual) (_,An,hts,cell _ (λb u e z=>by rw[Ah (by rintro rfl;rw[k] at e;cases e;cases z),Ah[Bm e E]];exact e) (by rw[Ah O];exact An))
   let(hl,e):=aJ.mp hj
   rwa [<-e,List.set_getElem_self] at r
  .rw[Ah T,Ah nca];exact han
theorem W6:∀(l:lg[t6×lV])(acc:lg[t6×aG])(x:t6)(c:aG),(Gi cells l acc).lookup x=sr c->acc.lookup x=sr c\/(u6 x .free)∈l
 |[],acc,x,c,h=>.inl h
 |(n,k)::r,acc,x,c,h=>by
  unfold Gi at h;by_cases d:(k==cJ)=t8
  .rw[di d] at h;rcases W6 r _ x c h with q|q
   .rw[cY] at q;cases e:x==n with
    |true=>rw[eq_of_beq e,<-beq_iff_eq.mp d];exact .inr bF
    |false=>rw[e] at q;exact .inl q
   .exact .inr[bC _ q]
  .rw[dm d] at h;rcases W6 r _ x c h with q|q
   .exact .inl q
   .exact .inr[bC _ q]
structure Bpq(X:Cx)(l:Lm)(cap:List Nat):Prop where
 fr:∀y,(u6 y cJ)∈l.scope.names->(X.env.kindOf y=sr .cell\/X.env.kindOf y=sr .free)/\y∈l.cap
 ix:lZ (λy i=>X.N[i]?=sr y/\(u6 y cJ)∈l.scope.names) l.cap cap
theorem Arn{l:Lm}{cl:lg[t6×aG]}{a:aG}{H1:Hp}(I:Inv X Z A H s)(q:RSl Y B H g A)(fr:∀y,(u6 y cJ)∈l.scope.names->X.env.kindOf y=sr .cell\/X.env.kindOf y=sr .free)(hcl:∀y,(u6 y cJ)∈l.scope.names->cl.lookup y=X.env.cells.lookup y)(x:∀b o,Rv s.heap cl b=sr o->H1 b=sr[fc a o]):
  ∀{cap:lg Nat} {ns:lg t6} {j:lg W},lZ (λy i=>X.N[i]?=sr y/\(u6 y cJ)∈l.scope.names) ns cap->Cz (λi=>g.getD i sy) cap=sr j->∃h,Aml H1 a cl ns h/\RVs Y B H j h
 |_,_,_,.nil,e=>by cases e;exact([],.nil,.nil)
 |i::cap,y::ns,j,.cons ⟨S,k⟩ r,e=>by
  unfold Cz at e;cases f:g.getD i sy with
  |none=>rw[f] at e;cases e
  |some w=>
   rw[f] at e;cases n:Cz _ cap with
   |none=>rw[n] at e;cases e
   |some C=>
    rw[n] at e;cases e;let(h,J,G):=Arn I q fr hcl x r n;let T:g[i]?=sr sr[w]:=by
     rw[bL] at f;cases z:g[i]? with
     |none=>rw[z] at f;cases f
     |some o=>rw[z] at f;rw[<-f];rfl
    let(v,O,E):=q i w T;let(m,_,Q):=I.loc;let kd:=fr y k;let(u,F,L):=Q i y v S O (by rcases kd with z|z;exact .inr .inl[z];exact .inr .inr[z])
    rcases L with ⟨z,_⟩|⟨_,c,t,o,P,hd⟩
    .simp_all
    .refine(v::h,.cons (c,o,u,(hcl y k).trans t,x c o Arm[(hcl y k).trans t][P],hd,F) J,.cons E G)
def Axm{C:aG->o9 tu}{a:aG}(hC:∀b o,C b=sr o->H b=sy):Bw ρ ρ H (K9 a C H):=(λuw uw q=>Eb hC q,λuw uw uw q=>Eb hC q,λuw uw q uw=>Eb hC q,λuw q=>.inl q)
def Auj{n j:Nat}{cm:Bool}{l:Lm}{cap:lg Nat}{g:lg W->M W}(D:M4 X.K X.mg x df ps fa fd)(F:Hl X.prog X.w X.K X.mg X.base (CXo X.prog X.w) n fa fd ps (spF Y g) cm)(hr:Fq n X.A cm)(hx:Cm (CXo X.prog X.w) X E)(hg:X.env.kindOf x=sr .globalImplicit)(hdb:(x==("__debug__":t6))=t7)(M:Maker Y X j)(hdef:defaultsOf l.params X.env=(u6 [] []))(B:X.env.qual ++ "<lambda>"=l.qual)(hc:Bpq X l cap):
  WE X (.Call (.Name x p) [.Lambda l.params l.body l.scope P] [] pos) tF[Y][E][Dy j l cap g]:=(⟨λaa s σ H Q I ⟨ρ,S,δ,R,sl,q⟩=>by
 unfold Dy at q;cases e1:Cz (λi=>δ.getD i sy) cap with
 |none=>rw[e1] at q;exact q.elim
 |some ws=>
 rw[e1] at q;dsimp only at q;split at q
 case h_2=>exact q.elim
 rename_i q' hj;split at q
 case isFalse=>exact q.elim
 rename_i eq;subst eq;let has:∀y,(u6 y cJ)∈l.scope.names->∃c,X.env.cells.lookup y=sr c:=λy t=>I.ok.has y (hc.fr y t).1;let hcl:=Afa (env:=X.env) (scope:=l.scope) λy t e=>has y.1 (by rw[<-e];exact t)
 let T:∀y c,(Gi X.env.cells l.scope.names []).lookup y=sr c->X.env.cells.lookup y=sr c:=λy c e=>by
  rcases Xm l.scope.names [] y c (λz hz e=>has z.1 (by rw[<-e];exact hz)) e with z|z
  .cases z
  .exact z
 let lf:∀y c,(Gi X.env.cells l.scope.names []).lookup y=sr c->(u6 y cJ)∈l.scope.names:=λy c e=>by
  rcases W6 l.scope.names [] y c e with z|z
  .cases z
  .exact z
 refine eV[Kv I hg D.gl ?_ hdb];refine jC I.ok.mod.kin D.fn.kp (?_:wpAny _ _ (spliced ((u6 t7 eval[.Lambda l.params l.body l.scope P][X.env])::backTo pos [])) _ _ s) rfl rfl;refine wA[made M I R hj hdef B hcl λa O f c' oC fs tk pm ct Z=>?_];refine wV (Z.inv.kIn,?_);generalize hC:Rv s.heap (Gi X.env.cells l.scope.names [])=C;generalize U:jM "<lambda>" l.qual l.params l.body l.scope (Gi X.env.cells l.scope.names []) pm c' ct=oF;let ZI:=Z.inv;rw[U] at ZI;let J:∀b o,C b=sr o->(∃y,X.env.cells.lookup y=sr b)/\s.heap.get? b=sr o/\H b=sy:=λb o e=>by
  rw[<-hC] at e;let((y,z),h):=Akm e;exact((y,T y b z),h,I.freeC y b (T y b z))
 let G:C a=sy:=by
  cases e:C a with
  |none=>rfl
  |some o=>have:=(J a o e).2.1;rw[Z.nws] at this;cases this
 let L:∀b o,C b=sr o->f b=sy:=λb o e=>by
  let(y,z):=(J b o e).1;have:=ZI.freeC y b z
  rwa [Ah (by rintro rfl;rw[G] at e;cases e)] at this
 let c1:∀b o,C b=sr o->O.heap.get? b=sr o:=λb o e=>Z.kp b o (J b o e).2.1 (J b o e).2.2;let hnw:K9 a C f a=sy:=by rw[Fe G];exact Z.new
 let t0:Bw ρ (ρ ++ [a]) H upd[K9 a C f][a][fz[oF]]:=Z.tup.trans[(Axm L).trans Bf[hnw]];let cH:∀b o,C b=sr o->upd (K9 a C f) a fz[oF] b=sr[fc a o]:=λb o e=>by
  rw[Ah (by rintro rfl;rw[G] at e;cases e)];exact Vl e
 let(vs,q1,q2):=Arn (a:=a) (H1:=upd (K9 a C f) a fz[oF]) I sl (λy t=>(hc.fr y t).1) (cl:=Gi X.env.cells l.scope.names []) (λy t=>by
  let(c,e):=Pb (cells:=X.env.cells) l.scope.names [] y t;rw[e,T y c e]) (by rw[hC];exact cH) hc.ix e1
 let nca:c'≠a:=λz=>by have:=Z.code;rw[z,Z.new] at this;cases this
 let RR:Rep[Y][ρ ++ [a]][S ++ [.clo l ws]][upd (K9 a C f) a fz[oF]]:=(Z.rep.addd L).alloc hnw (vs,(Gi X.env.cells l.scope.names [],pm,ct,c',oC,fs,tk,by rw[U];exact An,by rw[Ah nca];exact Eb L Z.code,Z.dat,Z.qn,λy c e=>(hc.fr y (lf y c e)).2,λy z c e1 e2=>I.ok.inj y z c (T y c e1) (T z c e2),q1),q2.mono (bK _ _) t0)
 let hn:(ρ ++ [a])[S.length]?=sr a:=by rw[<-R.len];exact Kw
 let sp:spF Y g [.ref a] upd[K9 a C f][a][fz[oF]] (QD a C Q) (ED a C E[σ]):=(ρ ++ [a],S ++ [.clo l ws],[.ref S.length],RR,.cons .ref[hn] .nil,q.shut t0 (bK _ _) hn An (λb o e=>(J b o e).2.2) cH);let eH:K9 a C (upd f a fz[oF])=upd (K9 a C f) a fz[oF]:=Axl G;let k:=ZI.env0;let big:∀b o,C b=sr o->X.s₀.heap.objs.size<=b:=λb o e=>by
  let(y,z):=(J b o e).1;exact I.ok.cab y b M.own[y] z
 let en:Ad4 X.prog X.w X.K X.mg X.base X.A X.stack O upd[K9 a C f][a][fz[oF]]:=by
  rw[<-eH];refine(k.frames,k.mod,λb o z=>((k.bs b o z).1,?_),k.bsz,k.funs,λb z=>?_,k.hok.addd λb o e=>(?_,c1 b o e),k.bare)
  .cases y:C b with
   |none=>rw[Fe y];exact(k.bs b o z).2
   |some o'=>exact absurd[aO aV[z] aF[I.ok.bsz][big b o' y]][eQ _]
  .cases y:C b with
   |none=>rw[Fe y];exact k.frf b z
   |some o'=>
    exfalso;let(nm,hc'):=(J b o' y).1;rcases bH.mp[I.stkSub b z] with w|w
    .exact I.cne nm b hc' w
    .let(_,o2,ho2,_):=I.ok.funs.mem w;exact absurd aO[aV ho2][big b o' y] eQ[_]
  .rw[Ah (by rintro rfl;rw[G] at e;cases e)];exact L b o e
 refine jX[gU[F.run X.A X.stack O _ _ _ [V.ref a] (QD a C Q) (ED a C E[σ]) hr en (D.bd O [.ref a] Z.inv.kIn (F.len _ _ _ _ sp)) (.cons rfl .nil) sp] λr s' B=>?_];cases r with
 |error e=>
  let(ea,cls,H',o,rfl,Fl,ox,d,hE):=B;rw[<-eH] at Fl;exact hx aa σ _ O _ s' ZI (ea,cls,_,o,rfl,Fl.drop λb o e=>(by rw[Ah (by rintro rfl;rw[G] at e;cases e)];exact L b o e,c1 b o e,d b o e),ox,hE)
 |ok fl=>
  cases fl with
  |ret u=>
   let(v,H',os,bare,un,hok,r,d,hQ):=B;rw[<-eH] at un;exact ZI.after (v,_,os,bare,un.drop λb o e=>(by rw[Ah (by rintro rfl;rw[G] at e;cases e)];exact L b o e,c1 b o e,d b o e,(show _/\_ from hok b _ (d b o e)).1),hok.drop d,r,hQ)
  |next=>exact B.elim
  |brk=>exact B.elim
  |cont=>exact B.elim⟩)
def Aho{α:Type}:o9 α->M α
 |some a=>pure a
 |none=>bad
def ixW(x y:W):M W:=match x with
 |.str z=>match y with
  |.int i=>if z.length<=big then Aho[(atI z.cps.toList i).map λc=>W.str ⟨#[c]⟩] else bad
  |_=>bad
 |.tup ws=>match y with
  |.int i=>Aho (atI ws i)
  |_=>bad
 |.scr ns=>match y with
  |.int i=>Aho ((atI ns i).map W.int)
  |_=>bad
 |.ref n=>λS=>match S[n]? with
  |some (.lst ws)=>match y with
   |.int i=>Aho (atI ws i) S
   |_=>.bad
  |some (.dct kvs)=>match Abr y with
   |some k=>Aho (Akl kvs k) S
   |none=>.bad
  |_=>.bad
 |_=>bad
def ixF(f g:De->M W):De->M W:=λδ=>do let x<-f δ;let y<-g δ;ixW x y
section
def Bc3(hu:X.A.units+1 < cLine):IxR X (λx y H Q=>∃a v,x=.ref a/\Ae7 H a y sr[v]/\Q v H):=by
 intro value slice r s m H x y v u Q I j i h hs;let(a,w,rfl,g,q):=h;obtain rfl:v=bI a:=j;exact aAd (by
   rcases g with ⟨d,k,e,_,_⟩|⟨d,k,b,e,_,_,_⟩
   .let(_,_,o,_,f):=Ah9 I.hok e;exact f.typeIs
   .let(_,_,xs,_,f):=Al9 I.hok e;exact f.typeIs) rJ.lookup (Ats hu I g i λn p l c=>(w,H,l,c,q)) hs
end
section
def Vm{b c:Type}{a:lg aG->Hp->b->c->Prop}{Q:c->Hp->Prop}{o:o9 b}(h:Aq Y a e H (Aho o S) Q E):∃w,o=sr w/\Aq Y a e H ((pure w:M b) S) Q E:=by
 cases o with
 |none=>trivial
 |some w=>exact(w,rfl,h)
def RVs.at{i:Int}(r:RVs Y b H a vs)(h:atI a i=sr w):∃v,atI vs i=sr v/\RV Y b H w v:=by
 unfold atI at h ⊢
 rw[<-r.length];cases e:ixN a.length i with
 |none=>simp_all
 |some j=>
  rw[e] at h;exact r.get h
def Bc4{a c:Type}(f:a->c)(xs:lg a)(i:Int):atI xs.map[f] i=(atI xs i).map f:=by
 unfold atI;rw[aK];cases ixN xs.length i with
 |none=>rfl
 |some j=>exact bJ
end
section
def Bpr(hK:X.K=Y.K)(hu:X.A.units+64 < cLine)(F:WE X a (tF Y E f))(C:WE X b (tF Y E g))(hs:Aed b):WE X (.Subscript a b s) tF[Y][E][ixF f g]:=(
 WE.weak (kix Bh0.or[Bc3 ()] F C hs) (Q9 λI S H x y O N Q E R B l h=>by exact hK ▸ (by
   cases B with
   |str z=>
    simp only[ixW] at h;split at h <;> try cases h
    cases l;let(u,h):=Gz h;let(w,e,h):=Vm h;let(c,d,rfl):=bG.mp e;exact .inl .inr[.inr (_,_,c,rfl,rfl,Km u,d,h.now R .str[_])]
   |tup m j=>
    simp only[ixW] at h;split at h <;> try cases h
    cases l;let(w,e,h):=Vm h;let(v,d,i):=j.at e;exact .inl .inr[.inl (_,_,_,v,rfl,rfl,SqT.of m,d,h.now R i)]
   |scr hs=>
    simp only[ixW] at h;split at h <;> try cases h
    cases l;let(w,e,h):=Vm h;let(c,d,rfl):=bG.mp e;exact .inl (.inl (_,_,_,.int c,rfl,rfl,hs.sq,by rw[Bc4,d];rfl,h.now R .int[_]))
   |@ref n a p=>
    simp only[ixW] at h;split at h
    .rename_i J d;let(r,m,j):=R.at_ _ _ _ p d;split at h <;> try cases h
     cases l;let(w,e,h):=Vm h;let(v,d,i):=j.at e;exact .inl[.inl (_,_,_,v,rfl,rfl,.inl .inl[m],d,h.now R i)]
    .rename_i t d;let(r,m,j):=R.at_ _ _ _ p d;split at h
     .rename_i k G;rw[Aee l G];let(w,e,h):=Vm h;rcases Ari j k with ⟨L,v,o,q,i⟩|⟨o,q⟩
      .rw[e] at o;cases o;exact .inr (a,v,rfl,q ▸ Ae7.k m,h.now R i)
      .rw[e] at o;cases o
     .cases h
    .cases h
   |_=>exact bT h)))
end
section
open HT in
def Auk{lo hi:o9 Int}(b:wN s.heap t a)(hs:s.heap.IsSliceOf g k j .none)(pl:tM k lo)(l:tM j hi)(i:sIx a.size 0 lo=0/\sIx a.size a.size hi=a.size)(h:Q .ref[t] s):wpAny (model prog w) A (getItem .ref[t] .ref[g]) Q E s:=by
 let(os,d,e,m):=id hs;let f:s.TypeIs .ref[g] "slice":=(os,d,e);unfold getItem
 try with_reducible refine fW ?_
 first|refine aA aH[?_]|skip
 refine aA[rO b.typeIs () ?_]
 refine aA (cX (name:=mX "__getitem__") b.typeIs eZ
  (dY eZ b.typeIs vG ?_ (wB _ _)))
 show wpAny _ _ (qW .ref[t] >>= _) _ _ s;refine aA[tupleItemsOf_ b ?_];refine aA[oO f ?_];rw[di ()]
 refine aA[N7 hs pl l ?_];show wpAny _ _ (if (((sIx a.size 0 lo:Nat):Int)==0&&(1:Int)==1&&(sIx a.size a.size hi - sIx a.size 0 lo)==a.size)=t8 then _ else _) _ _ s
 rw[di (by rw[i.1,i.2];simp)]
 unfold aAq;refine aA aA[oO b.typeIs aH[?_]];rw[di ()]
 first
  |exact aA pM[aH (_,rfl,aH h)]
  |exact aA aH[aH (_,rfl,aH h)]
  |exact aH (_,rfl,aH h)
def Bg0(K:aB):V->o9 Int->o9 Int->Hp->VK->Prop:=λx lo hi H Q=>∃a xs,x=.ref a/\SqT K H a xs/\HT.sIx xs.length 0 lo=0/\HT.sIx xs.length xs.length hi=xs.length/\Q .ref[a] H
def Bc5:SlR X Bg0[X.K]:=by
 rintro o s h H x v j i lo hi k Q I e hs pl f ⟨a,xs,rfl,g,n,m,q⟩;cases e;let(c,r,d,l):=I.tuple g;let b:c.toArray.size=xs.length:=r.length.symm;refine("tuple",_,eZ.lookup,d.typeIs,Auk d hs pl f (by rw[b];trivial) (.ref a,H,I,rfl,q))
end
def Rw(ws:lg W)(lo hi:o9 Int):lg W:=(ws.drop[HT.sIx ws.length 0 lo]).take (HT.sIx ws.length ws.length hi - HT.sIx ws.length 0 lo)
def slW(x:W)(lo hi:o9 Int):M W:=match x with
 |.str z=>if z.length<=big then pure .str[cO z lo hi] else bad
 |.tup ws=>pure .tup[Rw ws lo hi]
 |.scr ns=>Dd (Rw ns.map[W.int] lo hi)
 |.ref n=>λS=>match S[n]? with
  |some (.lst ws)=>Dd (Rw ws lo hi) S
  |_=>.bad
 |_=>bad
def Dj(f:De->M W):De->M o9[Int]:=λδ=>do let x<-f δ;match x with
 |.int i=>pure sr[i]
 |_=>bad
def Cv:De->M o9[Int]:=λuw=>pure sy
def slF(f:De->M W)(l h:De->M o9[Int]):De->M W:=λδ=>do let x<-f δ;let lo<-l δ;let hi<-h δ;slW x lo hi
def tFo(Y:Th)(E:L2.St->XK)(f:De->M o9[Int]):TO:=λσ H Q=>TF Y (λuw uw a b=>a=b) f σ H Q E[σ]
section
theorem RVs.drop(r:RVs Y a H b c):∀n,RVs Y a H b.drop[n] c.drop[n]
 |0=>r
 |n+1=>by
  cases r with
  |nil=>exact .nil
  |cons h r=>exact r.drop n
theorem RVs.take(r:RVs Y a H b c):∀n,RVs Y a H b.take[n] c.take[n]
 |0=>.nil
 |n+1=>by
  cases r with
  |nil=>exact .nil
  |cons h r=>exact .cons h r.take[n]
def RVs.cut(r:RVs Y a H b c)(lo hi:o9 Int):RVs Y a H (Rw b lo hi) (Apc c lo hi):=by
 unfold Rw;exact r.length ▸ (r.drop _).take _
theorem Xv:∀ns:lg Int,RVs Y c H ns.map[W.int] ns.map[V.int]
 |[]=>.nil
 |n::ns=>.cons .int[n] Xv[ns]
def Ja(R:Rep Y a S H)(r:RVs Y a H b c)(h:Aq Y RV[Y] a H (Dd b S) Q E):c.length<=big/\∀p,H p=sy->Q[.ref p][upd H p .lst[c]]:=by
 simp[Dd] at h;by_cases d:b.length<=big
 .rw[di d] at h;refine(by rw[<-r.length];omega,λp hp=>h _ _ _ (bK ..) Bf[hp] (R.alloc hp (_,An,r.mono[bK ..][Bf hp])) .ref[?_])
  exact R.len ▸ Kw
 .rw[dm d] at h;trivial
def Abs(R:Rep Y a S H)(r:RVs Y a H b c)(h:Aq Y RV[Y] a H ((pure .tup[b]:M W) S) Q E):∀p,H p=sy->Q[.ref p][upd H p .tup[c]]:=(λp hp=>
 h a _ _ aP[_] Bf[hp] R.beside[hp] .tup[An][r.mono aP[_] Bf[hp]])
def Bc6{lo hi:o9 Int}(e:HT.sIx a.length 0 lo=0)(d:HT.sIx a.length a.length hi=a.length):Apc a lo hi=a:=by
 unfold Apc;simp_all
nonrec def Bps{lo hi:o9 Int}(R:Rep Y g S H)(m:RV Y g H x d)(h:Aq Y RV[Y] g H (slW x lo hi S) Q E):
  (Bly Y.K d lo hi H Q\/Bg0 Y.K d lo hi H Q)\/(Bl2 Y.K d lo hi H Q\/∃z,d=.str z/\z.length<=sizeLine/\Q .str[cO z lo hi] H):=by
 cases m with
 |str z=>
  let(l,h):=Gz h;exact .inr (.inr (z,rfl,Km l,h.now R .str[_]))
 |@tup a k b c f=>
  let j:=f.cut lo hi;by_cases e:HT.sIx b.length 0 lo=0/\HT.sIx b.length b.length hi=b.length
  .refine .inl[.inr (a,b,rfl,SqT.of c,e.1,e.2,h.now R (.tup c ?_))];let i:=j;rw[Bc6 e.1 e.2] at i;exact i
  .exact .inl (.inl (a,b,rfl,SqT.of c,e,Abs R j h))
 |scr hs=>exact .inr (.inl (_,_,rfl,hs.sq,(Ja R ((Xv _).cut lo hi) h).2))
 |@ref n a o=>
  simp only[slW] at h;split at h
  .rename_i k p;let(b,c,f):=R.at_ _ _ _ o p;exact .inr (.inl (_,_,rfl,.inl .inl[c],(Ja R (f.cut lo hi) h).2))
  trivial
 |_=>ac_rfl
end
section
def WO.weak(h:WO X o t)(k:∀σ H Q,t' σ H Q->t σ H Q):WO X o t':=⟨λaa s σ H Q I q=>h.un aa s σ H Q I (k σ H Q q)⟩
def Axn:WO X sy (tFo Y E Cv):=(WO.weak ⟨by
  intro e s a H Q I h;rw[aBb];exact aH (sy,H,I,.none,h)⟩ λa H Q ⟨ρ,S,δ,R,sl,q⟩=>q.now R rfl)
def Bi2(i:WE X a (tF Y E f)):WO X sr[a] (tFo Y E Dj[f]):=(WO.weak Bcf[i] λk H Q ⟨ρ,S,δ,R,sl,q⟩=>by
 refine(ρ,S,δ,R,sl,(Aq.seq (Rel:=RV Y) q).mono ?_);rintro v o ⟨c,n,w,m,l,j,h,b⟩;cases h <;> first|exact bT b|skip
 exact(_,rfl,Aq.now b j rfl))
def Bc7{lo hi:o9 bW}{l u:De->M o9[Int]}{b:Pos}(hK:X.K=Y.K)(B:WE X a (tF Y E f))(z:WO X lo (tFo Y E l))(hu:WO X hi (tFo Y E u)):WE X .Subscript[a][.Slice lo hi sy b][t] tF[Y][E][slF f l u]:=(
 WE.weak[Bih ((Bhz.or Bc5).or Bb1.or[Big]) B z hu] λN H Q ⟨ρ,S,δ,R,sl,q⟩=>by
  refine(ρ,S,δ,R,sl,(Aq.seq q).mono ?_);rintro v U ⟨d,F,w,j,i,I,o,s⟩;refine(d,F,δ,I,sl.mono j i,(Aq.seq s).mono ?_);rintro y T ⟨c,C,_,b,h,R2,rfl,r⟩;refine(c,C,δ,R2,(sl.mono j i).mono b h,(Aq.seq r).mono ?_);rintro A P ⟨k,O,_,x,n,G,rfl,p⟩;exact hK ▸ Bps G ((o.mono b h).mono x n) p)
end
def Et:lg W->M W
 |[.str z]=>if z.length<=big then pure .int[z.length] else bad
 |[.tup ws]=>pure .int[ws.length]
 |[.scr ns]=>pure .int[ns.length]
 |[.ref n]=>λS=>match S[n]? with
  |some (.lst ws)=>.ok .int[ws.length] S
  |some (.dct kvs)=>.ok .int[kvs.length] S
  |_=>.bad
 |_=>bad
def Aul:lg W->M W
 |[.str x]=>if x.length=1 then pure[.int (x.cps.getD 0 0:Nat)] else bad
 |_=>bad
def Axo:lg W->M W
 |[.int i,.int j]=>pure (.int (if j > i then j else i))
 |_=>bad
def asInt:W->o9 Int
 |.int i=>sr i
 |_=>sy
def Bi3:W->o9 Bool
 |.bl i=>sr i
 |_=>sy
def Amq:W->o9 t6
 |.str i=>sr i
 |_=>sy
def Aum:lg W->M W
 |[.ref n]=>λS=>match S[n]? with
  |some (.lst ws)=>match Cz asInt ws with
   |some is=>.ok .int[is.sum] S
   |none=>.bad
  |_=>.bad
 |_=>bad
def Afk:lg W->M W
 |[.ref n]=>λS=>match S[n]? with
  |some (.lst ws)=>match Cz Bi3 ws with
   |some is=>.ok .bl[is.all[id]] S
   |none=>.bad
  |_=>.bad
 |_=>bad
def Rz:lg W->M W
 |[.tup ws]=>pure .tup[ws]
 |[.scr ns]=>pure .tup[ns.map[W.int]]
 |[.ref n]=>λS=>match S[n]? with
  |some (.lst ws)=>.ok .tup[ws] S
  |_=>.bad
 |_=>bad
def chars(z:t6):lg W:=z.cps.toList.map λc=>W.str ⟨#[c]⟩
def Ail:lg W->M W
 |[.tup ws]=>Dd ws
 |[.str z]=>if z.length<=big then Dd chars[z] else bad
 |[.scr ns]=>Dd ns.map[W.int]
 |[.ref n]=>λS=>match S[n]? with
  |some (.lst ws)=>Dd ws S
  |some (.dct kvs)=>Dd (kvs.map λp=>kW p.1) S
  |_=>.bad
 |_=>bad
section
theorem R0{g:Type}{f:W->o9 g}{k:g->V}(hf:∀w v a,RV Y m H w v->f w=sr a->v=k a):∀{c:lg W} {i:lg V} {is:lg g},RVs Y m H c i->Cz f c=sr is->i=is.map k
 |_,_,_,.nil,e=>by cases e;rfl
 |w::c,_,is,.cons h r,e=>by
  rw[Cz] at e;cases l:f w with
  |none=>simp_all
  |some d=>
   rw[l] at e;cases j:Cz f c with
   |none=>simp_all
   |some n=>
    rw[j] at e;cases e;rw[hf _ _ _ h l,R0 hf r j];rfl
def Axp(w:W)(v:V)(i:Int)(h:RV Y b H w v)(e:asInt w=sr i):v=.int i:=by
 cases h <;> simp only[asInt,gQ,reduceCtorEq] at e
 subst e;rfl
def Amr(w:W)(v:V)(i:t6)(h:RV Y b H w v)(e:Amq w=sr i):v=.str i:=by
 cases h <;> simp only[Amq,gQ,reduceCtorEq] at e
 subst e;rfl
def paired_len{c b:Type}{F:c->b->Prop}{l:lg c}{m:lg b}(r:lZ F l m):l.length=m.length:=by
 induction r with
 |nil=>rfl
 |cons _ _ d=>simp_all
def rv1(r:RVs Y a H [w] b):∃v,b=[v]/\RV Y a H w v:=by
 cases r with|cons h r=>
 cases r;exact(_,rfl,h)
def Bpt(R:Rep Y a S H)(r:RVs Y a H b c)(h:Aq Y RV[Y] a H (Aul b S) Q E):∃x,c=[.str x]/\x.length=1/\Q (.int (x.cps.getD 0 0:Nat)) H:=by
 unfold Aul at h;split at h
 .let(v,rfl,e):=rv1 r;cases e;let(d,h):=Gz h;exact(_,rfl,d,h.now R .int[_])
 .exact bT h
def Bpu(R:Rep Y a S H)(r:RVs Y a H b c)(h:Aq Y RV[Y] a H (Axo b S) Q E):∃i j,c=[.int i,.int j]/\Q (.int (if j > i then j else i)) H:=by
 unfold Axo at h;split at h
 .cases r with|cons e r=>
  cases r with|cons d r=>
  cases r;cases e;cases d;exact(_,_,rfl,h.now R .int[_])
 .ac_rfl
nonrec def Bpv(R:Rep Y b S H)(r:RVs Y b H e f)(h:Aq Y RV[Y] b H (Aum e S) Q E):∃p,∃ns:lg Int,f=[.ref p]/\H p=sr .lst[ns.map[V.int]]/\Q .int[ns.sum] H:=by
 unfold Aum at h;split at h
 .rename_i n;let(v,rfl,j):=rv1 r;let(a,rfl,i):=j.rI;split at h
  .rename_i q l;split at h
   .rename_i is k;let(o,c,g):=R.at_ _ _ _ i l;rw[R0 Axp g k] at c;exact(_,is,rfl,c,Io h R .int[_])
   trivial
  trivial
 .ac_rfl
nonrec def Bpw(R:Rep Y b S H)(r:RVs Y b H g j)(h:Aq Y RV[Y] b H (Afk g S) Q E):∃p,∃bs:lg Bool,j=[.ref p]/\H p=sr .lst[bs.map[V.bl]]/\Q .bl[bs.all[id]] H:=by
 unfold Afk at h;split at h
 .rename_i n;let(v,rfl,m):=rv1 r;let(a,rfl,l):=m.rI;split at h
  .rename_i t q;split at h
   .rename_i is o;let(s,c,k):=R.at_ _ _ _ l q;rw[R0 (by
      intro w v i h e;cases h <;> simp only[Bi3,gQ,reduceCtorEq] at e
      subst e;rfl) k o] at c
    exact(_,is,rfl,c,Io h R .bl[_])
   .ac_rfl
  .ac_rfl
 .ac_rfl
theorem Afl:∀a:lg t6,RVs Y ρ H a.map[W.str] a.map[V.str]
 |[]=>.nil
 |s::a=>.cons .str[s] Afl[a]
theorem Ams{c b:Type}{f:c->o9 b}:∀{l:lg c} {m:lg b},Cz f l=sr m->m.length=l.length
 |[],m,h=>by cases h;rfl
 |x::l,m,h=>by
  unfold Cz at h;cases e:f x with
  |none=>simp_all
  |some y=>
   cases d:Cz f l with
   |none=>simp_all
   |some g=>rw[e,d] at h;cases h;simp[Ams d]
end
def Apu(b:X.calm=t8):Jm X .type["list"] (λxs H Q=>∃z:t6,xs=[.str z]/\z.length<=sizeLine/\∀l,H l=sy->Q[.ref l][upd H l .lst[z.cps.toList.map λc=>V.str ⟨#[c]⟩]]):=by
 rintro p s m H xs n Q I r ⟨z,rfl,g,q⟩;let(u,rfl,d):=vals1 r;let(t,rfl):=d;refine call_list_str I.ok.hd[b] z t (hn:=g) λh tk a i kp e hi=>?_;let f:Vals (z.cps.toList.map λc=>V.str ⟨#[c]⟩) a.toList:=by
  refine Afh[by rw[aK,aX,aX,hi.1]] λj v o=>?_
  let(c,u,b,rfl):=hi.2 j v (by simp_all)
  exact(.str _,by simp_all,u,rfl)
 exact(.ref s.heap.objs.size,_,I.laid kp aM[_] (show Ed X.prog X.w _ h _ .lst[_] from (by rwa [aK,aX],a.toList,i,f,())),rfl,q _ I.hok.fresh[aM[_]])
def Bc8(x:t6):o9[lg W->M W]:=
 if x="len" then sr Et else if x="ord" then sr Aul else if x="max" then sr Axo
 else if x="sum" then sr Aum else if x="all" then sr Afk else sy
def Bc9(x:t6):o9[lg W->M W]:=if x="tuple" then sr Rz else if x="list" then sr Ail else sy
structure Axq(Y:Th)(X:Cx)(v:aD)(g:List W->M W) where
 r:List V->Hp->VK->Prop
 ok:Jm X v r
 by_:∀ρ S H ws vs Q E,Rep Y ρ S H->RVs Y ρ H ws vs->Aq Y (RV Y) ρ H (g ws S) Q E->r vs H Q
nonrec def Bda(hK:X.K=Y.K)(hc:X.calm=t8)(h:Bc8 x=sr g):∃id,bootBuiltins x=sr .builtin[id]/\Nonempty[Axq Y X .builtin[id] g]:=by
 unfold Bc8 at h;split at h
 .rename_i e;subst e;cases h;exact("len",by rfl',⟨(_,Awh.or Atx,λF S H G J Q E R r h=>by rw[hK];exact(by
    unfold Et at h;split at h
    .let(v,rfl,d):=rv1 r;cases d;let(hz,h):=Gz h;exact .inl (_,_,rfl,(Km hz,rfl),h.now R .int[_])
    .let(v,rfl,d):=rv1 r;let(_,_,rfl,d,r1):=d.tI;refine .inl (_,_,rfl,.inr (_,SqT.of d,rfl),?_);rw[<-r1.length];exact h.now R .int[_]
    .let(v,rfl,d):=rv1 r;let(_,rfl,hs):=d.cI;refine .inl (_,_,rfl,.inl (_,hs.sq,rfl),?_);rw[aK];exact h.now R .int[_]
    .let(v,rfl,d):=rv1 r;let(a,rfl,hn):=d.rI;split at h
     .rename_i L C;let(l,h2,r2):=R.at_ _ _ _ hn C;refine .inl (_,_,rfl,.inl (_,.inl .inl[h2],rfl),?_);rw[<-r2.length];exact Io h R .int[_]
     .rename_i kvs C;let(l,h2,r2):=R.at_ _ _ _ hn C;refine .inr (_,_,rfl,h2,?_);let e:kvs.length=l.length:=paired_len r2;rw[<-e];exact Io h R .int[_]
     .ac_rfl
    .ac_rfl))⟩)
 split at h
 .rename_i e;subst e;cases h;exact("ord",by rfl',⟨(_,by
    intro aa s Z H xs L Q I r h;let(x,rfl,hz,q):=h;let(u,rfl,t,rfl):=vals1 r;exact ord_of_one hz (.int _,H,I.tok _,(_,rfl),q),λF S H G J Q E R r h=>Bpt R r h)⟩)
 split at h
 .rename_i e;subst e;cases h;exact("max",by rfl',⟨(_,by
    intro aa s Z H xs L Q I r h;let(i,j,rfl,q):=h;let(u,w',rfl,(t,rfl),(t',rfl)):=vals2 r;refine max_two_ints I.ok.hd[hc] λh' tk k=>(_,H,I.kept k,?_,q);by_cases U:j > i
    .rw[di U,di U];exact(_,rfl)
    .rw[dm U,dm U];exact(_,rfl),λF S H G J Q E R r h=>Bpu R r h)⟩)
 split at h
 .rename_i e;subst e;cases h;exact("sum",by rfl',⟨(_,by
    intro aa s Z H xs L Q I r h;let(p,ns,rfl,hp,q):=h;let(u,rfl,y):=vals1 r;cases y;let(_,c,n,N,e):=(show Ed X.prog X.w H s.heap p .lst[ns.map[V.int]] from I.hok p _ hp);let hi:vB c ns:=intsAre_of N;let(l,O):=hi.allInts.items;let hl:s.heap.IsList p intItems[l]:=O ▸ ((_,e,rfl,_,rfl):s.heap.IsList p c.toArray);refine sum_intListG I.ok.hd[hc] hl λh' tk t' hk=>(.int ns.sum,H,I.kept (t':=tk) hk,(t',?_),q);let C:ns=l.toList.map (·.1):=by
     rw[<-nums_intItems,<-O];exact(show numsOf c.toArray.toList=ns from hi.numsOf).symm
    rw[preSum_eq,dR (),C],λF S H G J Q E R r h=>Bpv R r h)⟩)
 split at h
 .rename_i e;subst e;cases h;exact("all",by rfl',⟨(_,by
    intro aa s Z H xs L Q I r h;let(p,bs,rfl,hp,q):=h;let(u,rfl,y):=vals1 r;cases y;let(_,c,n,N,e):=(show Ed X.prog X.w H s.heap p .lst[bs.map[V.bl]] from I.hok p _ hp);let hl:s.heap.IsList p c.toArray:=(_,e,rfl,_,rfl);let B:c.length=bs.length:=by rw[<-N.length,aK]
    refine call_all_walk[oK hl ?_];let hne:p≠s.heap.objs.size:=bM aV[e];let f:∀o b u,s.heap.get? b=sr u->(s.heap.push o).get? b=sr u:=λo b u z=>aC _ z;refine(s.heap.objs.size,[s.heap.objs.size,p],[s.heap.objs.size],c.toArray.size,_,_,λi=>bs.getD i t7,rfl,aDr (A:=X.A.in1) (show X.A.in1.handled=sy from I.ok.hd hc) _ p hne c.toArray,((_,aR _ rfl,rfl,rfl),?_),λi v s' Q' E' P T=>?_,λh' tk k=>?_)
    .exact(_,f _ _ _ e,rfl,_,rfl)
    .let P:c[i]?=sr v:=by simpa using P
     cases eb:bs[i]? with
     |none=>
      have:=iJ.mp eb;have:=(aJ.mp P).1;omega
     |some b=>
      let(u,hu,y):=N.get (i:=i) (x:=.bl b) (by rw[bJ,eb];rfl)
      rw[P] at hu;cases hu;cases y;let z:bs.getD i t7=b:=by rw[bL,eb];rfl
      let T:Q' (bs.getD i t7) s':=T;rw[z] at T;exact iB T
    .refine(.bl _,H,I.kept (t':=tk) λb u z=>k b u (λm=>?_) (f _ _ _ z),rfl,?_)
     .have:b=s.heap.objs.size:=by simpa using m
      subst this;exact absurd aV[z] eQ[_]
     .let z:(fD c.toArray.size).all (λi=>bs.getD i t7)=bs.all id:=by
       rw[cC,B];rw[Bool.eq_iff_iff,bB,bB];constructor
       .intro h x O;let(i,hi,rfl):=kO O;have:=h i iR.mpr[hi];rw[bL,aQ hi] at this;exact this
       .intro h i hi;let hi:=iR.mp hi;rw[bL,aQ hi];exact h _ jB[hi]
      rw[z];exact q,λF S H G J Q E R r h=>Bpw R r h)⟩)
 .cases h
nonrec def Bdb(hK:X.K=Y.K)(n:X.calm=t8)(h:Bc9 x=sr g):∃T,bootBuiltins x=sr .type[T]/\Nonempty[Axq Y X .type[T] g]:=by
 unfold Bc9 at h;split at h
 .rename_i e;subst e;cases h;exact("tuple",by rfl',⟨(_,Ahk,λρ S H o p Q E R r h=>by rw[hK];exact(by
    unfold Rz at h;split at h
    .let(v,rfl,b):=rv1 r;let(_,_,rfl,b,k):=b.tI;exact(_,_,rfl,.inr (SqT.of b,h.now R (.tup b k)))
    .let(v,rfl,b):=rv1 r;let(_,rfl,hs):=b.cI;exact(_,_,rfl,.inl (hs.sq,Abs R Xv[_] h))
    .let(v,rfl,b):=rv1 r;let(a,rfl,j):=b.rI;split at h
     .rename_i m i;let(l,f,d):=R.at_ _ _ _ j i;exact(_,_,rfl,.inl (.inl .inl[f],Abs R d h))
     .ac_rfl
    .ac_rfl))⟩)
 split at h
 .rename_i e;subst e;cases h;exact("list",by rfl',⟨(_,(Aj1.or Apu[n]).or App[n],λρ S H o p Q E R r h=>by rw[hK];exact(by
    unfold Ail at h;split at h
    .let(v,rfl,b):=rv1 r;let(_,_,rfl,b,k):=b.tI;exact .inl[.inl (_,_,rfl,.inr SqT.of[b],(Ja R k h).2)]
    .rename_i z;let(v,rfl,b):=rv1 r;cases b;let(q,h):=Gz h;exact .inl (.inr (z,rfl,Km q,(Ja R (by
      let h:=Afl (Y:=Y) (ρ:=ρ) (H:=H) (z.cps.toList.map λc=>(⟨#[c]⟩:t6));rw[dU,dU] at h;exact h) h).2))
    .let(v,rfl,b):=rv1 r;let(_,rfl,hs):=b.cI;exact .inl[.inl (_,_,rfl,.inl hs.sq,(Ja R Xv[_] h).2)]
    .let(v,rfl,b):=rv1 r;let(a,rfl,j):=b.rI;split at h
     .rename_i m i;let(l,f,d):=R.at_ _ _ _ j i;exact .inl[.inl (_,_,rfl,.inl .inl[.inl[f]],(Ja R d h).2)]
     .rename_i m i;let(l,f,d):=R.at_ _ _ _ j i;exact .inr (_,_,rfl,f,(Ja R Axh[d] h).2)
     .ac_rfl
    .ac_rfl))⟩)
 .cases h
section
def Bpx(hK:X.K=Y.K)(z:X.calm=t8)(s:Bc8 x=sr fn)(v:X.mg x=sy)(A:WA X (e::a) (tFs Y E B))(w:X.env.kindOf x=sr .globalImplicit)(u:decide[x=("__name__":t6)]=t7)(g:(x==("__debug__":t6))=t7)(y:starEach (e::a) X.env=(u6 t7 (eval e X.env))::starEach a X.env)(f:(backTo d (starEach a X.env)).any (·.1)=t7):WE X (.Call (.Name x p) (e::a) [] d) tF[Y][E][Dw fn B]:=by
 obtain⟨id,t,⟨o⟩⟩:=Bda hK z s;refine WE.weak[kbi o.ok v t A w u g y f] λI H Q ⟨ρ,S,δ,R,sl,q⟩=>?_;refine(ρ,S,δ,R,sl,(Aq.seq q).mono ?_);rintro m G ⟨b,C,l,L,J,F,c,r⟩;exact o.by_ b C G l m Q _ F c r
def Bpy(hK:X.K=Y.K)(z:X.calm=t8)(s:Bc9 x=sr fn)(v:X.mg x=sy)(A:WA X (e::a) (tFs Y E B))(w:X.env.kindOf x=sr .globalImplicit)(u:decide[x=("__name__":t6)]=t7)(g:(x==("__debug__":t6))=t7)(y:starEach (e::a) X.env=(u6 t7 (eval e X.env))::starEach a X.env)(f:(backTo d (starEach a X.env)).any (·.1)=t7):WE X (.Call (.Name x p) (e::a) [] d) tF[Y][E][Dw fn B]:=by
 obtain⟨T,t,⟨o⟩⟩:=Bdb hK z s;refine WE.weak ⟨Abk o.ok w v t A.un of_decide_eq_false[u] g y f⟩ λI H Q ⟨ρ,S,δ,R,sl,q⟩=>?_;refine(ρ,S,δ,R,sl,(Aq.seq q).mono ?_);rintro m G ⟨b,C,l,L,J,F,c,r⟩;exact o.by_ b C G l m Q _ F c r
end
def R5:lg W->M W
 |[.bl b]=>pure (.int (if b then 1 else 0))
 |_=>bad
def Aun:Jm X .type["int"] (λxs H Q=>∃b,xs=[V.bl b]/\Q (.int (if b then 1 else 0)) H):=by
 intro d s a H xs c Q I r h;let(b,rfl,q):=h;cases r with
 |cons r t=>
 cases t;cases (r);exact PySem.call_int_bool (.int _,H,I.tok _,(_,rfl),q)
def Bm5(m:X.mg "int"=sy)(s:WA X (e::a) (tFs Y E u))(n:X.env.kindOf "int"=sr .globalImplicit)(o:starEach (e::a) X.env=(u6 t7 (eval e X.env))::starEach a X.env)(g:(backTo f (starEach a X.env)).any (·.1)=t7):WE X (.Call (.Name "int" p) (e::a) [] f) tF[Y][E][Dw R5 u]:=by
 refine WE.weak ⟨Abk Aun n m (by rfl) s.un () () o g⟩ λw H Q ⟨ρ,S,δ,R,sl,q⟩=>?_
 refine(ρ,S,δ,R,sl,(Aq.seq q).mono ?_);rintro y C ⟨i,B,x,A,z,v,c,d⟩;unfold R5 at d;split at d
 .cases c with
  |cons r t=>
  cases t;cases r;exact(b,rfl,d.now v .int[_])
 trivial
inductive RS where
 |nx (δ:De) (S:Store)
 |rt (w:W) (S:Store)
 |bk (δ:De) (S:Store)
 |ct (δ:De) (S:Store)
 |ex (c:Nat×W) (δ:De) (S:Store)
 |bad
abbrev MS:=De->Store->RS
def Gu{α:Type}(m:M α)(k:α->MS):MS:=λδ S=>match m S with
 |.ok a S1=>k a δ S1
 |.exc c S1=>.ex c δ S1
 |.bad=>.bad
def Aj:MS:=.nx
def Ae(a b:MS):MS:=λδ S=>match a δ S with
 |.nx δ1 S1=>b δ1 S1
 |r=>r
def Bx(i:Nat)(f:De->M W):MS:=λδ=>Gu f[δ] (λw δ S=>.nx (δ.set i sr[w]) S) δ
def retS(f:De->M W):MS:=λδ=>Gu f[δ] (λw uw S=>.rt w S) δ
def Hu(f:De->M W):MS:=λδ=>Gu f[δ] (λuw δ S=>.nx δ S) δ
def ifS(c:De->M Bool)(a b:MS):MS:=λδ=>Gu c[δ] (λt=>if t then a else b) δ
section
variable(Y:Th)
def RSs(ρ:lg aG)(H:Hp)(δ:De)(σ:L2.St):Prop:=δ.length=σ.length/\RSl Y ρ H δ σ
def Ds(ρ:lg aG)(H:Hp)(r:RS)(D:Ends)(E:L2.St->XK):Prop:=match r with
 |.nx δ S=>∀ρ' H' σ',ρ <+: ρ'->Bw ρ ρ' H H'->Rep Y ρ' S H'->RSs Y ρ' H' δ σ'->D.nx σ' H'
 |.bk δ S=>∀ρ' H' σ',ρ <+: ρ'->Bw ρ ρ' H H'->Rep Y ρ' S H'->RSs Y ρ' H' δ σ'->D.bk σ' H'
 |.ct δ S=>∀ρ' H' σ',ρ <+: ρ'->Bw ρ ρ' H H'->Rep Y ρ' S H'->RSs Y ρ' H' δ σ'->D.ct σ' H'
 |.rt w S=>∀ρ' H' v,ρ <+: ρ'->Bw ρ ρ' H H'->Rep Y ρ' S H'->RV Y ρ' H' w v->D.rt v H'
 |.ex c δ S=>∀ρ' H' σ',ρ <+: ρ'->Bw ρ ρ' H H'->Rep Y ρ' S H'->RSs Y ρ' H' δ σ'->XP Y ρ' H' c E[σ']
 |.bad=>False
inductive TSx(E:L2.St->XK)(f:MS)(D:Ends)(σ:L2.St)(H:Hp):Prop
 |mk (ρ:List aG) (S:Store) (δ:De) (R:Rep Y ρ S H) (sl:RSs Y ρ H δ σ) (q:Ds Y ρ H (f δ S) D E):TSx E f D σ H
inductive LfS{α β:Type}(Rel:List aG->Hp->α->β->Prop)(ρ:List aG)(H:Hp)(k:α->MS)(δ:De)(σ:L2.St)(D:Ends)(E:L2.St->XK)(v:β)(H1:Hp):Prop
 |mk (ρ1:List aG) (S1:Store) (w:α) (p:ρ <+: ρ1) (t:Bw ρ ρ1 H H1) (R:Rep Y ρ1 S1 H1) (sl:RSs Y ρ1 H1 δ σ) (r:Rel ρ1 H1 w v) (q:Ds Y ρ1 H1 (k w δ S1) D E):LfS Rel ρ H k δ σ D E v H1
def tS(E:L2.St->XK)(f:MS):TS:=λD σ H=>TSx Y E f D σ H
end
section
variable{Y:Th}{X:Cx}{st:cF}{sts:lg cF}{e c:bW}{pos pos':Pos}{E:L2.St->XK}{f:De->M W}{cf:De->M Bool}{a b:MS}{x:t6}
def RSs.mono(p:ρ <+: ρ')(t:Bw ρ ρ' H H')(h:RSs Y ρ H δ σ):RSs Y ρ' H' δ σ:=(h.1,h.2.mono p t)
def RSs.set{i:Nat}(h:RSs Y g H m l)(r:RV Y g H w v):RSs Y g H (m.set i sr[w]) (l.set i sr[v]):=by
 refine(by rw[gJ,gJ];exact h.1,λj u e=>?_)
 by_cases d:j=i
 .subst d;let k:=by
   let z:=(aJ.mp e).1
   rwa [gJ] at z
  rw[fO k] at e;cases e;exact(v,fO[h.1 ▸ k],r)
 .rw[cW eF[d]] at e;let(z,p,n):=h.2 j u e;exact(z,by rwa [cW eF[d]],n)
def Ds.shift(h:Ds Y i H r D E)(p:i <+: d)(t:Bw i d H H1):Ds Y d H1 r D E:=by
 cases r with
 |bad=>exact h
 |_=>exact λg n v m j k l=>h g n v p.trans[m] t.trans[j] k l
def Ds.nxt(h:Ds Y ρ H (.nx δ S) D E)(R:Rep Y ρ S H)(sl:RSs Y ρ H δ σ):D.nx σ H:=h ρ H σ aP[ρ] (Bw.refl ρ H) R sl
def Ds.ret(h:Ds Y ρ H (.rt w S) D E)(R:Rep Y ρ S H)(rv:RV Y ρ H w v):D.rt v H:=h ρ H v aP[ρ] (Bw.refl ρ H) R rv
def Ds.lift{j y:Type}{Rel:lg aG->Hp->j->y->Prop}{m:M j}{k:j->MS}(o:RSs Y i H n g)(h:Ds Y i H (Gu m k n S) D E):
  Aq Y Rel i H m[S] (LfS Y Rel i H k n g D E) E[g]:=by
 unfold Gu at h;cases e:m S with
 |bad=>rw[e] at h;exact h
 |exc c q=>rw[e] at h;exact λd u p t r=>h d u g p t r (o.mono p t)
 |ok w q=>
  rw[e] at h;exact λd u v p t r l=>(d,q,w,p,t,r,o.mono p t,l,Ds.shift h p t)
def WS.weak(h:WS X st t)(k:∀D σ H,t' D σ H->t D σ H):WS X st t':=⟨λaa s σ H D I q=>h.un aa s σ H D I (k D σ H q)⟩
def WSs.weak(h:WSs X sts t)(k:∀D σ H,t' D σ H->t D σ H):WSs X sts t':=⟨λaa s σ H D I q=>h.un aa s σ H D I (k D σ H q)⟩
def Bi4:WSs X [] (tS Y E Aj):=WSs.weak ⟨λuw uw σ H uw I h=>jL (σ,H,I,h)⟩ λD σ H ⟨ρ,S,δ,R,sl,q⟩=>q.nxt R sl
def Bdc(p:WS X st (tS Y E a))(o:WSs X sts (tS Y E b)):WSs X (st::sts) tS[Y][E][Ae a b]:=(WSs.weak[⟨Al6 p.un o.un⟩] λD t H ⟨ρ,S,δ,R,sl,q⟩=>by
 refine(ρ,S,δ,R,sl,?_);unfold Ae at q;cases e:a δ S with
 |nx g r=>
  rw[e] at q;exact λd u j n l s h=>(d,r,g,s,h,Ds.shift q n l)
 |_=>rw[e] at q;exact q)
def Axr{i:Nat}(o:WE X e (tF Y E f))(nd:decide X.N.Nodup=t8)(hi:X.N[i]?=sr x)(n:Apj X.env.scope x=t8)(hs:swapsWith e sr[.Name x pos'] pos.line X.env=pure t7)(hf:X.fn x=t8):
  WS X (.Assign [.Name x pos'] e pos) tS[Y][E][Bx i f]:=(WS.weak[Bpg o nd hi n hs hf] λD s H ⟨ρ,S,δ,R,sl,q⟩=>by
 refine(ρ,S,δ,R,sl.2,(Ds.lift sl q).mono ?_);rintro v z ⟨h,y,w,u,t,p,d,l,m⟩;exact m.nxt p d.set[l])
def Bi5(m:WE X e (tF Y E f)):WS[X][.Return sr[e] pos][tS Y E retS[f]]:=(WS.weak[⟨Bhm m.un⟩] λD o H ⟨ρ,S,δ,R,sl,q⟩=>by
 refine(ρ,S,δ,R,sl.2,(Ds.lift (Rel:=RV Y) sl q).mono ?_);rintro v t ⟨g,s,w,r,p,n,j,k,l⟩;exact l.ret n k)
def Bdd(l:WE X e (tF Y E f))(hs:swapsWith e sy pos.line X.env=pure t7):WS[X][.Expr e pos][tS Y E Hu[f]]:=(WS.weak[⟨Aq3 l.un hs⟩] λD n H ⟨ρ,S,δ,R,sl,q⟩=>by
 refine(ρ,S,δ,R,sl.2,(Ds.lift (Rel:=RV Y) sl q).mono ?_);rintro v t ⟨h,s,w,r,o,m,d,p,k⟩;exact k.nxt m d)
def Bm6(n:WT X c (tFb Y E cf))(p:WSs X A (tS Y E a))(o:WSs X B (tS Y E b)):WS X (.If c A B pos) tS[Y][E][ifS cf a b]:=(WS.weak[sif n p o] λD s H ⟨ρ,S,δ,R,sl,q⟩=>by
 refine(ρ,S,δ,R,sl.2,(Ds.lift sl q).mono ?_);rintro v y ⟨d,k,w,u,t,l,g,rfl,j⟩;cases w with
 |true=>exact L2.Apd (d,k,δ,l,g,j)
 |false=>exact L2.Aty (d,k,δ,l,g,j))
end
abbrev Tg:=W->De->o9 De
def Ex(i:Nat):Tg:=λw δ=>sr[δ.set i sr[w]]
def Ahp(is:lg Nat):Tg:=λw δ=>match w with
 |.tup ws=>if ws.length=is.length then sr[(is.zip ws).foldl (λδ p=>δ.set p.1 sr[p.2]) δ] else sy
 |_=>sy
def GOk(Y:Th)(s:Tg)(g:TG):Prop:=∀ρ S H w v δ δ' σ Q,Rep Y ρ S H->RSs Y ρ H δ σ->RV Y ρ H w v->s w δ=sr δ'->(∀σ',RSs Y ρ H δ' σ'->Q σ' H)->g v σ H Q
def Amt(i:Nat):GOk Y Ex[i] Xj[i]:=(λg S H w v h a f Q R b c e k=>by
 cases e;exact k _ b.set[c])
def Afm:lg Nat->TGs
 |[]=>Box
 |i::is=>Bgo Xj[i] Afm[is]
theorem Aim:∀(is:lg Nat) {d:lg W} {l:lg V} {c:De} {g:L2.St} {Q:L2.St->Hp->Prop},RVs Y j H d l->RSs Y j H c g->d.length=is.length->
  (∀b,RSs Y j H ((is.zip d).foldl (λc p=>c.set p.1 sr[p.2]) c) b->Q b H)->Afm is l g H Q
 |[],_,_,_,_,_,.nil,f,_,k=>(rfl,k _ f)
 |[],_,_,_,_,_,.cons ..,_,e,_=>by trivial
 |i::is,_,_,_,_,_,.nil,_,e,_=>by trivial
 |i::is,_,_,_,_,_,.cons h r,f,e,k=>(_,_,rfl,Aim is r f.set[h] (by simpa using e) k)
nonrec def Aro{Y:Th}{K:aB}(is:lg Nat){n:Nat}(j:n=is.length):GOk Y Ahp[is] (Bln K n Afm[is]):=(λo S H w v p g m Q R h i e k=>by
 cases i <;> try trivial
 rename_i a q r l c;simp only[Ahp] at e;split at e
 .rename_i d;cases e;exact(_,_,rfl,SqT.of l,by rw[<-c.length,d,j],Aim is c h d k)
 trivial)
def Rj(s:Tg)(b:MS):lg W->MS
 |[]=>.nx
 |w::ws=>λδ S=>match s w δ with
  |none=>.bad
  |some δ1=>match b δ1 S with
   |.nx δ2 S2=>Rj s b ws δ2 S2
   |.ct δ2 S2=>Rj s b ws δ2 S2
   |.bk δ2 S2=>.nx δ2 S2
   |r=>r
def liG(n:Nat):Store->Nat->o9 o9[W]:=λS i=>match S[n]? with
 |some (.lst ws)=>sr ws[i]?
 |_=>sy
def elG(n:Nat):Store->Nat->o9 o9[W]:=λS i=>(liG n S i).map λo=>o.map λw=>W.tup [.int (i:Int),w]
def zlG(n m:Nat):Store->Nat->o9 o9[W]:=λS i=>match S[n]?,S[m]? with
 |some (.lst ws),sr (.lst us)=>match ws[i]?,us[i]? with
  |some w,sr u=>sr sr[.tup[[w,u]]]
  |_,_=>sr sy
 |_,_=>sy
def Akn(s:Tg)(b:MS)(gt:Store->Nat->o9 o9[W]):Nat->Nat->MS
 |0,_=>λuw uw=>.bad
 |m+1,i=>λδ S=>match gt S i with
  |none=>.bad
  |some sy=>.nx δ S
  |some (sr w)=>match s w δ with
   |none=>.bad
   |some δ1=>match b δ1 S with
    |.nx δ2 S2=>Akn s b gt m (i+1) δ2 S2
    |.ct δ2 S2=>Akn s b gt m (i+1) δ2 S2
    |.bk δ2 S2=>.nx δ2 S2
    |r=>r
structure JOk(Y:Th)(J:It)(all:List W)(ρ0:List aG)(H0:Hp):Prop where
 go:∀ρ H i,ρ0 <+: ρ->Bw ρ0 ρ H0 H->i < all.length->J.go i H/\∀x H',J.yld i H x H'->Bw ρ ρ H H'/\(∀S,Rep Y ρ S H->Rep Y ρ S H')/\∃w,all[i]?=sr w/\RV Y ρ H' w x
 stop:∀ρ H i,Bw ρ0 ρ H0 H->i=all.length->J.stop i H
section
def Bde(gk:GOk Y s g)(jk:JOk Y J all p H)(R:Rep Y p S H)(sl:RSs Y p H δ u)(q:Ds Y p H (Rj s b all δ S) D E):
  ∃W:Nat->Nat->L2.St->Hp->Prop,(∃m,W 0 m u H)/\∀i m u H,W i m u H->(J.stop i H/\D.nx u H)\/(J.go i H/\∃N:L2.St->Hp->Prop,(∀G r,N G r->∃m',m' < m/\W (i+1) m' G r)/\∀x r,J.yld i H x r->g x u r λh A=>tS Y E b { D with nx:=N,ct:=N,bk:=D.nx } h A):=by
 refine(λi m u B=>∃a F k,i<=all.length/\p <+: a/\Bw p a H B/\Rep Y a F B/\RSs Y a B k u/\m=(all.drop i).length/\Ds Y a B (Rj s b all.drop[i] k F) D E,(_,p,S,δ,dM _,aP _,Bw.refl ..,R,sl,rfl,q),?_);rintro i m Q B ⟨a,F,k,li,T,C,L,o,rfl,d⟩;by_cases hi:i < all.length
 .let(go,yl):=jk.go a B i T C hi;refine .inr (go,λh A=>∃f P c,p <+: f/\Bw p f H A/\Rep Y f P A/\RSs Y f A c h/\Ds Y f A (Rj s b all.drop[i+1] c P) D E,?_,λx r hy=>?_)
  .rintro h A ⟨f,P,c,p2,t2,R2,y,q2⟩;exact((all.drop[i+1]).length,by rw[dX,dX];omega,f,P,c,hi,p2,t2,R2,y,rfl,q2)
  .let(ty,Ry,w,ew,rv):=yl x r hy;let L:=Ry _ L;let o:=o.mono aP[_] ty;let C:=C.trans ty;let d:=Ds.shift d aP[_] ty;let ed:all.drop i=w::all.drop[i+1]:=by
    let(hl,e):=aJ.mp ew;exact e ▸ gO hl
   rw[ed] at d;unfold Rj at d;cases U:s w k with
   |none=>simp only[U] at d;exact d.elim
   |some c=>
    simp only[U] at d;refine gk a F r w x k c Q _ L o rv U λh y=>(a,F,c,L,y,?_);cases e:b c F with
    |nx n O=>
     rw[e] at d;exact λj Z t z v I l=>(j,O,n,T.trans z,C.trans v,I,l,Ds.shift d z v)
    |ct n O=>
     rw[e] at d;exact λj Z t z v I l=>(j,O,n,T.trans z,C.trans v,I,l,Ds.shift d z v)
    |bk n O=>
     rw[e] at d;exact λj Z t z v I l=>d j Z t z v I l
    |_=>rw[e] at d;exact d
 .rw[dC ()] at d
  exact .inl (jk.stop a B i C (),d.nxt L o)
structure JLv(Y:Th)(J:It)(gt:Store->Nat->Option (Option W))(ρ0:List aG):Prop where
 stop:∀ρ S H i,ρ0 <+: ρ->Rep Y ρ S H->gt S i=sr sy->J.stop i H
 go:∀ρ S H i w,ρ0 <+: ρ->Rep Y ρ S H->gt S i=sr (sr w)->J.go i H/\∀x H',J.yld i H x H'->Bw ρ ρ H H'/\(∀S,Rep Y ρ S H->Rep Y ρ S H')/\RV Y ρ H' w x
def Bi6{a b:lg aG}{k:Nat}{c:aG}(p:a <+: b)(h:a[k]?=sr c):b[k]?=sr c:=by
 let(r,rfl):=p
 rwa [aW (aJ.mp h).1]
nonrec def Arp{n:Nat}(p:f <+: g)(j:f[n]?=sr a)(R:Rep Y g S H)(e:liG n S i=sr o):∃c d,H a=sr .lst[d]/\RVs Y g H c d/\c[i]?=o:=by
 unfold liG at e;split at e
 .rename_i c l;let(q,b,d,k,h):=R.get l;rw[Bi6 p j] at b;cases b;exact(c,d,k,h,cA e)
 .cases e
theorem Axs{n:Nat}(g:d[n]?=sr a):JLv Y (Itl Y.K a) liG[n] d:=(λj S H i p R e=>by
  let(k,b,c,f,z):=Arp p g R e;exact(b,.inl .inl[c],f.length ▸ iJ.mp z),λj S H i w p R e=>by
  let(k,b,c,f,z):=Arp p g R e;let(v,ev,l):=f.get z;refine((b,v,.inl .inl[c],ev),?_);rintro x s ⟨rfl,m⟩;let h:=m b .inl[.inl[c]];rw[ev] at h;cases h;exact(Bw.refl ..,λq r=>r,l))
theorem Bi7{n:Nat}(k:f[n]?=sr a):JLv Y (Bl9 Y.K a) elG[n] f:=(λl S H i p R e=>by
  let(o,j,b):=bG.mp e;let(m,c,d,g,z):=Arp p k R j;rw[Option.map_eq_none_iff.mp b] at z;exact(c,.inl .inl[d],g.length ▸ iJ.mp z),λl S H i w p R e=>by
  let(o,j,b):=bG.mp e;let(m,c,d,g,z):=Arp p k R j;let(u,rfl,rfl):=bG.mp b;let(v,ev,q):=g.get z;refine((c,v,.inl .inl[d],ev),?_);rintro x A ⟨y,T,s,h,rfl,rfl⟩;let b:=s c .inl[.inl[d]];rw[ev] at b;cases b;exact(Bf h,λS r=>r.beside h,.tup An (.cons .int[_] .cons[q.mono aP[_] Bf[h]][.nil])))
nonrec def Axt{n m:Nat}(hn:d[n]?=sr a)(hm:d[m]?=sr b):JLv Y (Itz Y.K t7 a b) (zlG n m) d:=by
 let up:∀{f:lg aG} {k:Nat} {c:aG},d <+: f->d[k]?=sr c->f[k]?=sr c:=λ{f k c} p h=>by
  let(r,rfl):=p;rw[aW (aJ.mp h).1];exact h
 let open_:∀{f:lg aG} {S:Store} {H:Hp} {i:Nat} {o:o9 W},d <+: f->Rep Y f S H->zlG n m S i=sr o->∃j q l g,S[n]?=sr .lst[j]/\S[m]?=sr .lst[q]/\H a=sr .lst[l]/\H b=sr .lst[g]/\RVs Y f H j l/\RVs Y f H q g/\
   (match j[i]?,q[i]? with|some w,sr u=>sr sr[W.tup[[w,u]]]|_,_=>sr sy)=sr o:=λ{f S H i o} p R e=>by
  unfold zlG at e;cases J:S[n]? with
  |none=>rw[J] at e;cases e
  |some T=>
   cases L:S[m]? with
   |none=>rw[J,L] at e;cases T <;> cases e
   |some c2=>
    rw[J,L] at e;cases T <;> cases c2 <;> first|cases e;done|skip
    rename_i j q;let(a',F,l,A,C):=R.get J;let(b',E,g,z,B):=R.get L;rw[up p hn] at F;cases F;rw[up p hm] at E;cases E;exact(j,q,l,g,rfl,rfl,A,z,C,B,e)
 refine(λf S H i p R e=>?_,λf S H i w p R e=>?_)
 .let(j,q,l,g,_,_,A,z,C,B,e):=open_ p R e;refine(l,g,.inl .inl[A],.inl .inl[z],?_);rw[<-C.length,<-B.length];cases s:j[i]? with
  |none=>exact .inl iJ.mp[s]
  |some x=>
   cases t:q[i]? with
   |none=>exact .inr iJ.mp[t]
   |some y=>rw[s,t] at e;cases e
 .let(j,q,l,g,_,_,A,z,C,B,e):=open_ p R e;cases s:j[i]? with
  |none=>rw[s] at e;cases e
  |some x=>
   cases t:q[i]? with
   |none=>rw[s,t] at e;cases e
   |some y=>
    rw[s,t] at e;cases e;let(X,Q,rx):=C.get s;let(U,P,Z):=B.get t;refine((l,g,X,U,.inl .inl[A],.inl .inl[z],Q,P),?_);rintro v H' ⟨pp,x',y',f1,f2,hp,rfl,rfl⟩;let O:=f1 l .inl[.inl[A]];let N:=f2 g .inl[.inl[z]];rw[Q] at O;cases O;rw[P] at N;cases N;exact(Bf hp,λS r=>r.beside hp,.tup An .cons[rx.mono aP[_] Bf[hp]][.cons[Z.mono aP[_] Bf[hp]][.nil]])
def Bdf{gt:Store->Nat->o9 o9[W]}{f:Nat}{C:lg aG}{S:Store}{H:Hp}{U:De}{r:L2.St}(gk:GOk Y s g)(jk:JLv Y J gt C)(R:Rep Y C S H)(sl:RSs Y C H U r)(q:Ds Y C H (Akn s b gt f 0 U S) D E):
  ∃W:Nat->Nat->L2.St->Hp->Prop,(∃m,W 0 m r H)/\∀i m r H,W i m r H->(J.stop i H/\D.nx r H)\/(J.go i H/\∃N:L2.St->Hp->Prop,(∀G t,N G t->∃m',m' < m/\W (i+1) m' G t)/\∀x t,J.yld i H x t->g x r t λv H2=>tS Y E b { D with nx:=N,ct:=N,bk:=D.nx } v H2):=by
 refine(λi m r F=>∃c p j,C <+: c/\Rep Y c p F/\RSs Y c F j r/\Ds Y c F (Akn s b gt m i j p) D E,(f,C,S,U,aP _,R,sl,q),?_);rintro i m T F ⟨c,p,j,P,A,n,a⟩;cases m with
 |zero=>exact a.elim
 |succ m=>
  unfold Akn at a;cases L:gt p i with
  |none=>simp only[L] at a;exact a.elim
  |some o=>
   cases o with
   |none=>simp only[L] at a;exact .inl (jk.stop c p F i P A L,a.nxt A n)
   |some w=>
    simp only[L] at a;let(go,yl):=jk.go c p F i w P A L;refine .inr (go,_,λv H2 h=>(m,gY m,h),λx t hy=>?_);let(ty,Ry,rv):=yl x t hy;let A:=Ry _ A;let n:=n.mono aP[_] ty;let a:=Ds.shift a aP[_] ty;cases Z:s w j with
    |none=>simp only[Z] at a;exact a.elim
    |some y=>
     simp only[Z] at a;refine gk c p t w x j y T _ A n rv Z λv X=>(c,p,y,A,X,?_);cases e:b y p with
     |nx l Q=>
      rw[e] at a;exact λd H3 u z I O k=>(d,Q,l,P.trans z,O,k,Ds.shift a z I)
     |ct l Q=>
      rw[e] at a;exact λd H3 u z I O k=>(d,Q,l,P.trans z,O,k,Ds.shift a z I)
     |bk l Q=>
      rw[e] at a;exact λd H3 u z I O k=>a d H3 u z I O k
     |_=>rw[e] at a;exact a
end
inductive Src where
 |fix (ws:List W)
 |liv (n:Nat)
 |zl (n m:Nat)
 |el (n:Nat)
def Axu(x:W):M Src:=match x with
 |.tup ws=>pure .fix[ws]
 |.scr ns=>pure .fix[ns.map[W.int]]
 |.str z=>if z.length<=big then pure .fix[chars[z]] else bad
 |.ref n=>λS=>match S[n]? with
  |some (.lst _)=>.ok .liv[n] S
  |_=>.bad
 |_=>bad
def Iu(f:De->M W):De->M Src:=λδ=>do let x<-f δ;Axu x
def Li:lg W->M Src
 |[.int j]=>if -(2 ^ 62)<=j/\j < 2 ^ 62 then pure .fix[(fD j.toNat).map λ(k:Nat)=>W.int[(0:Int)+(k:Int)]] else bad
 |_=>bad
def V9(r:lg W->M Src)(f:De->M lg[W]):De->M Src:=λδ=>do let x<-f δ;r x
def Axv(s:Tg)(b:MS)(gt:Store->Nat->o9 o9[W])(n:Nat):MS:=λδ S=>match S[n]? with
 |some (.lst ws)=>Akn s b gt (ws.length+1) 0 δ S
 |_=>.bad
def Xw(src:De->M Src)(s:Tg)(b:MS):MS:=λδ=>Gu src[δ] (λz=>match z with
 |.fix ws=>Rj s b ws
 |.liv n=>Axv s b liG[n] n
 |.zl n m=>Axv s b (zlG n m) n
 |.el n=>Axv s b elG[n] n) δ
def Ad9(Y:Th)(ρ:lg aG)(H:Hp)(z:Src)(J:It):Prop:=match z with
 |.fix ws=>JOk Y J ws ρ H
 |.liv n=>∃a,ρ[n]?=sr a/\J=Itl Y.K a
 |.zl n m=>∃a b,ρ[n]?=sr a/\ρ[m]?=sr b/\J=Itz Y.K t7 a b
 |.el n=>∃a,ρ[n]?=sr a/\J=Bl9 Y.K a
def tFi(Y:Th)(E:L2.St->XK)(f:De->M Src):TI:=λσ H Q=>TF Y Ad9[Y] f σ H Q E[σ]
section
theorem Bdg(h:H a=sr .tup[b])(r:RVs Y f H g b):JOk Y (Itt Y.K a) g f H where
 go:=λc d i p t hi=>by
  let(v,e,j):=r.get aQ[hi];let sq:SqT Y.K d a b:=SqT.of[t.t _ _ h];refine((b,v,sq,e),?_);rintro x m ⟨rfl,k⟩;let z:=k b sq;rw[e] at z;cases z;exact(Bw.refl _ _,λl r=>r,_,aQ hi,j.mono p t)
 stop:=λc d i t hi=>(b,SqT.of[t.t _ _ h],by rw[<-r.length,hi];exact aM _)
theorem Bdh{ns:lg Int}(h:Scr Y H l ns):JOk Y (Itl Y.K l) ns.map[W.int] g H where
 go:=λa f i p t hi=>by
  let sq:=(h.mono t).sq;rw[aK] at hi;let e:(ns.map V.int)[i]?=sr .int[getElem[ns][i][by get_elem_tactic]]:=by rw[bJ,aQ hi];rfl
  refine((_,_,sq,e),?_);rintro x k ⟨rfl,c⟩;let z:=c _ sq;rw[e] at z;cases z;exact(Bw.refl _ _,λj r=>r,.int getElem[ns][i][by get_elem_tactic],by rw[bJ,aQ hi];rfl,.int _)
 stop:=λa f i t hi=>(_,(h.mono t).sq,by rw[aK] at hi ⊢;omega)
theorem Bdi(lo:Int)(n:Nat):JOk Y (Itr lo n) ((fD n).map λ(k:Nat)=>W.int[lo+(k:Int)]) e H where
 go:=λa d i p t hi=>by
  rw[aK,cD] at hi;refine(hi,?_);rintro x g ⟨rfl,rfl⟩;exact(Bw.refl _ _,λf r=>r,.int[lo+i],by rw[bJ,qK hi];rfl,.int _)
 stop:=λa d i t hi=>by rw[aK,cD] at hi;exact oM hi.symm
theorem Bdj(z:t6):JOk Y Its[z] chars[z] f H where
 go:=λa e i p t hi=>by
  unfold chars at hi ⊢
  rw[aK,aX] at hi;refine(hi,?_);rintro x h ⟨rfl,c,b,rfl⟩;exact(Bw.refl _ _,λg r=>r,.str ⟨#[c]⟩,by rw[bJ,jK,b];rfl,.str _)
 stop:=λa e i t hi=>by
  unfold chars at hi;rw[aK,aX] at hi;exact hi
end
section
def WI.weak(h:WI X tg e t)(k:∀σ H Q,t' σ H Q->t σ H Q):WI X tg e t':=⟨λaa s σ H Q I q=>h.un aa s σ H Q I (k σ H Q q)⟩
def WI.or(h:WI X b e t)(f:WI X b e d):WI X b e (λa H Q=>t a H Q\/d a H Q):=(⟨λc s a H Q I q=>by
 rcases q with q|q
 .exact h.un c s a H Q I q
 .exact f.un c s a H Q I q⟩)
def Amu(hK:X.K=Y.K)(h:WE X e (tF Y E f)):WI X P e (tFi Y E Iu[f]):=(
 WI.weak WI.or[WI.or[⟨Bhp h.un⟩][⟨Bbs h.un⟩]][⟨Bid h.un⟩] λs H Q ⟨ρ,S,δ,R,sl,q⟩=>by
  rw[hK];let go:∀(t:V->Hp->Prop),(∀v l b i w,Rep Y b i l->RV Y b l w v->Aq Y Ad9[Y] b l (Axu w i) Q E[s]->f δ S=.ok w i->t v l)->tF Y E f s H t:=λt k=>by
   refine(ρ,S,δ,R,sl,?_);let r:=Aq.seq (Rel:=RV Y) q;cases o:f δ S with
   |bad=>rw[o] at r;exact r
   |exc c i=>rw[o] at r;exact r
   |ok w i=>
    rw[o] at r;intro b l v I C j m;let q:Aq Y Ad9[Y] ρ H (M.bind f[δ] Axu S) Q E[s]:=q;unfold M.bind at q;rw[o] at q;exact k v l b i w j m (Aq.shift q I C) o
  cases o:f δ S with
  |bad=>exact .inl .inl[go _ λv l b i w j m d g=>by simp_all]
  |exc c i=>exact .inl .inl[go _ λv l b i w j m d g=>by simp_all]
  |ok A Z=>
   cases A with
   |str z=>
    refine .inr[go _ λv l b i w j m d g=>?_];rw[o] at g;cases g;cases m;let(U,d):=Gz d;exact(_,rfl,Aq.now d j Bdj[_])
   |tup N=>
    refine .inl .inl[go _ λv l b i w j m d g=>?_];rw[o] at g;cases g;cases m with
    |tup y G=>exact(_,rfl,(_,SqT.of y),Aq.now (Rel:=Ad9 Y) d j (Bdg y G))
   |scr ns=>
    refine .inl .inr[go _ λv l b i w j m d g=>?_];rw[o] at g;cases g;cases m with
    |scr hs=>exact(_,rfl,(_,hs.sq),Aq.now (Rel:=Ad9 Y) d j Bdh[hs])
   |ref n=>
    refine .inl .inr[go _ λv l b i w j m d g=>?_];rw[o] at g;cases g;cases m with
    |@ref _ a x=>
     simp only[Axu] at d;split at d
     .rename_i O L;let(B,J,T):=j.at_ _ _ _ x L;exact(_,rfl,(B,.inl .inl[J]),Io (Rel:=Ad9 Y) d j (a,x,rfl))
     .exact bT d
   |_=>
    refine .inl .inl[go _ λv l b i w j m d g=>?_];rw[o] at g;cases g;exact bT d)
def Bi8(hp:yI (model X.prog X.w) X.A X.env X.xe)(hK:X.K=Y.K)(B:X.calm=t8)(hi:WI X k c (tFi Y E src))(y:WG X k g)(o:GOk Y s g)(C:WSs X body (tS Y E bd))(hs:∀x,foldedSetIterable c X.env x=pure x):
  WS X (.For k c body [] t) tS[Y][E][Xw src s bd]:=(WS.weak ⟨Bhq hp B hi.un y.un C.un hs⟩ λD I H ⟨ρ,S,δ,R,sl,q⟩=>by
 refine(ρ,S,δ,R,sl.2,(Ds.lift sl q).mono ?_);rintro J G ⟨d,F,z,O,N,p,e,h,i⟩;let lv:∀{gt n},JLv Y J gt d->Ds Y d G (Axv s bd gt n δ F) D E->_:=λ{gt n} jk q=>by
  unfold Axv at q;split at q
  .exact Bdf o jk p e q
  .exact q.elim
 cases z with
 |fix L=>exact Bde o h p e i
 |liv n=>let(a,f,rfl):=h;exact lv Axs[f] i
 |el n=>let(a,f,rfl):=h;exact lv Bi7[f] i
 |zl n m=>let(a,b,f,v,rfl):=h;exact lv (Axt f v) i)
end
section
def Bi9(l:X.mg "range"=sy)(n:WA X [a] (tFs Y E o))(m:X.env.kindOf "range"=sr .globalImplicit)(hs:starEach [a] X.env=[(t7,eval a X.env)]):WI X w (.Call (.Name "range" p) [a] [] k) tFi[Y][E][V9 Li o]:=(
 WI.weak[Bch l n m hs] λt H Q ⟨ρ,S,δ,R,sl,q⟩=>by
  refine(ρ,S,δ,R,sl,(Aq.seq (Rel:=RVs Y) q).mono ?_);rintro v A ⟨g,z,u,y,x,s,c,b⟩;cases c with
  |nil=>trivial
  |cons e r=>
   cases r with
   |cons _ _=>cases e <;> exact bT b
   |nil=>
    cases e <;> try exact bT b
    let(d,b):=Gz b;exact(_,rfl,d.1,d.2,Aq.now (Rel:=Ad9 Y) b s (Bdi 0 _)))
end
inductive Ty where
 |lst|str|dct
def Ty.is:Ty->W->Store->Bool
 |.lst,.ref n,S=>match S[n]? with
  |some (.lst _)=>t8
  |_=>t7
 |.str,.str _,_=>t8
 |.dct,.ref n,S=>match S[n]? with
  |some (.dct _)=>t8
  |_=>t7
 |_,_,_=>t7
def Ty.name:Ty->String
 |.lst=>"list"
 |.str=>"str"
 |.dct=>"dict"
def Lp(T:Ty)(op:W->lg W->M W)(f:De->M W)(gs:De->M lg[W]):De->M W:=λδ=>do
 let x<-f δ;let _<-(λS=>if T.is x S then .ok u9 S else .bad:M Unit)
 let ws<-gs δ
 op x ws
def Arq(x:W)(k:Nat->lg W->M W):M W:=match x with
 |.ref n=>λS=>match S[n]? with
  |some (.lst ws)=>k n ws S
  |_=>.bad
 |_=>bad
def putL(n:Nat)(ws:lg W)(r:W):M W:=λS=>if ws.length<=big then .ok r (S.set n .lst[ws]) else .bad
def Ky(x:W)(us:lg W):M W:=Arq x λn ws=>match us with
 |[u]=>putL n (ws ++ [u]) .non
 |_=>bad
def R6(x:W)(us:lg W):M W:=match x,us with
 |.str z,[.ref n]=>λS=>match S[n]? with
  |some (.lst ws)=>match Cz Amq ws with
   |some ys=>if (ys.map (·.length)).sum+ys.length * z.length<=big then .ok .str[aAr z ys] S else .bad
   |none=>.bad
  |_=>.bad
 |_,_=>bad
def Abt(x:W)(us:lg W):M W:=match x,us with
 |.str z,[.str y]=>match dH z y 0 z.length 1 with
  |i::_=>pure (.int (i:Nat))
  |[]=>bad
 |_,_=>bad
def Ako(x:W)(us:lg W):M W:=match x,us with
 |.str z,[.int i,.str f]=>if PadOk i&&decide[f.length=1] then pure .str[tX[z][i][f.cps.getD 0 0]] else bad
 |_,_=>bad
def Akp(x:W)(us:lg W):M W:=match x,us with
 |.str z,[.str y]=>if z.length<=big then pure .str[jJ z y] else bad
 |_,_=>bad
section
nonrec def Bdk(R:Rep Y a S H)(k:RV Y a H x c)(r:RVs Y a H e d)(h:Aq Y RV[Y] a H (Ako x e S) Q E):∃z i f,c=.str z/\d=[.int i,.str f]/\PadOk i=t8/\f.length=1/\Q .str[tX[z][i][f.cps.getD 0 0]] H:=by
 unfold Ako at h;split at h
 .rename_i z i f;cases k;cases r with|cons j r=>
  cases r with|cons g r=>
  cases r;cases j;cases g;let(b,h):=Gz h;rw[aL] at b;exact(_,_,_,rfl,rfl,b.1,dg b.2,h.now R .str[_])
 trivial
nonrec def Bdl(R:Rep Y a S H)(g:RV Y a H x b)(r:RVs Y a H d c)(h:Aq Y RV[Y] a H (Abt x d S) Q E):∃z y i rest,b=.str z/\c=[.str y]/\dH z y 0 z.length 1=i::rest/\Q (.int (i:Nat)) H:=by
 unfold Abt at h;split at h
 .rename_i z y;cases g;cases r with|cons f r=>
  cases r;cases f;cases e:dH z y 0 z.length 1 with
  |nil=>rw[e] at h;trivial
  |cons i rest=>
   rw[e] at h;exact(_,_,i,rest,rfl,rfl,e,h.now R .int[_])
 trivial
nonrec def Axw{k:Nat->lg W->M W}(R:Rep Y b S H)(l:RV Y b H x i)(h:Aq Y RV[Y] b H (Arq x k S) Q E):
  ∃n a c d,x=.ref n/\i=.ref a/\b[n]?=sr a/\S[n]?=sr .lst[c]/\H a=sr .lst[d]/\RVs Y b H c d/\Aq Y RV[Y] b H (k n c S) Q E:=by
 cases l <;> try exact(h).elim
 rename_i n a e;simp[Arq] at h;split at h
 .rename_i c f;let(d,m,j):=R.at_ _ _ _ e f;exact(n,a,c,d,rfl,rfl,e,f,m,j,h)
 trivial
def Bdm{n:Nat}(R:Rep Y b S H)(i:b[n]?=sr a)(m:H a=sr .lst[j])(g:RVs Y b H k c)(l:RV Y b H r d)(h:Aq Y RV[Y] b H (putL n k r S) Q E):
  c.length<=big/\Q d (upd H a .lst[c]):=by
 simp[putL] at h;split at h
 .rename_i p;let t:Bw b b H (upd H a .lst[c]):=Mi i m (λf e=>by cases e) (λf f e=>by cases e)
  refine(by rw[<-g.length];omega,h b _ d aP[_] t (R.write i t (c,An,g.mono aP[_] t)) (l.mono aP[_] t))
 trivial
def Bdn(R:Rep Y a S H)(f:RV Y a H x b)(r:RVs Y a H d c)(h:Aq Y RV[Y] a H (Akp x d S) Q E):∃z y,b=.str z/\c=[.str y]/\z.length<=sizeLine/\Q .str[jJ z y] H:=by
 unfold Akp at h;split at h
 .cases f;let(v,rfl,g):=rv1 r;cases g;let(e,h):=Gz h;exact(_,_,rfl,rfl,Km e,h.now R .str[_])
 .exact bT h
nonrec def Bja(R:Rep Y c S H)(k:RV Y c H x e)(r:RVs Y c H g f)(h:Aq Y RV[Y] c H (R6 x g S) Q E):∃z p b,e=.str z/\f=[.ref p]/\H p=sr .lst[b.map[V.str]]/\(b.map (·.length)).sum+b.length * z.length<=16777216/\Q .str[aAr z b] H:=by
 unfold R6 at h;split at h
 .rename_i z n;cases k;let(v,rfl,m):=rv1 r;let(a,rfl,l):=m.rI;split at h
  .rename_i t q;split at h
   .rename_i b o;split at h
    .rename_i j;let(s,d,i):=R.at_ _ _ _ l q;rw[R0 Amr i o] at d;exact(z,a,b,rfl,rfl,d,aF j (),Io h R .str[_])
    .ac_rfl
   .ac_rfl
  .ac_rfl
 .ac_rfl
end
def Bdo(b:Bool)(x:t6):o9[Ty×(W->lg W->M W)]:=
 if x="append" then sr[u6 .lst Ky]
 else if x="join" then sr[u6 .str R6]
 else if x="ljust" then sr[u6 .str Ako] else if x="index" then sr[u6 .str Abt] else if x="strip" then sr[u6 .str Akp] else sy
structure Bpz(Y:Th)(X:Cx)(T:Ty)(name:t6)(op:W->List W->M W) where
 id:String
 pa:PlainAttrs T.name
 slot:Slot T.name name id
 ty:typeOf (.builtin id)=pure (.type "method_descriptor")
 r:V->List V->Hp->VK->Prop
 ok:MtR X id r
 by_:∀ρ S H x vx us vs Q E,Rep Y ρ S H->RV Y ρ H x vx->RVs Y ρ H us vs->Aq Y (RV Y) ρ H (op x us S) Q E->r vx vs H Q
def Bdp(h:Bdo b name=sr[u6 T Z]):Nonempty[Bpz Y X T name Z]:=by
 unfold Bdo at h;split at h
 .rename_i e;subst e;cases h;exact⟨(_,PySem.F.plainAttrs_list,PySem.F.slot_list_append,PySem.F.type_list_append,_,Ah6,λA S H x B g d Q E R c r h=>by
    let(n,a,ws,N,rfl,rfl,hn,e1,L,U,h):=Axw R c h;cases r with
    |nil=>ac_rfl
    |cons hu r=>
     cases r with
     |cons _ _=>ac_rfl
     |nil=>
      let(m,q):=Bdm R hn L U.append[.cons hu .nil] .non h;rw[bD,fY] at m;exact(a,N,_,rfl,rfl,L,Km m,q))⟩
 split at h
 .rename_i e;subst e;cases h;exact⟨(_,lO,PySem.F.slot_str_join,PySem.F.type_str_join,_,by
    intro J s C H x d v g Q I j l h;let(z,p,O,rfl,rfl,hp,m,q):=h;let(t,rfl):=j;let(u,rfl,P):=l.one;cases P;let(_,G,n,r,e):=(show Ed X.prog X.w H s.heap p .lst[O.map[V.str]] from I.hok p _ hp);exact join_list (D:=p) (items:=G.toArray) (_,e,rfl,_,rfl) (by simpa using Aka r) m λo k=>(.str _,H,I.tok _,(_,rfl),q),λA S H x B g d Q E R c r h=>Bja R c r h)⟩
 split at h
 .rename_i e;subst e;cases h;exact⟨(_,lO,PySem.F.slot_str_ljust,PySem.F.type_str_ljust,_,by
    intro J s C H x d v g Q I j l h;let(z,i,f,rfl,rfl,hp,hf,q):=h;let(t,rfl):=j;let(u,w,rfl,(t1,rfl),t2,rfl):=l.two;exact ljust_fill hp hf λo k=>(.str _,H,I.tok _,(_,rfl),q),λA S H x B g d Q E R c r h=>Bdk R c r h)⟩
 split at h
 .rename_i e;subst e;cases h;exact⟨(_,lO,PySem.F.slot_str_index,PySem.F.type_str_index,_,by
    intro J s C H x d v g Q I j l h;let(z,y,i,rest,rfl,rfl,ho,q):=h;let(t,rfl):=j;let(u,rfl,o,rfl):=l.one;exact SC.index ho (.int i,H,I.tok _,(_,rfl),q),λA S H x B g d Q E R c r h=>Bdl R c r h)⟩
 split at h
 .rename_i e;subst e;cases h;exact⟨(_,lO,PySem.F.slot_str_strip,PySem.F.type_str_strip,_,by
    intro J s C H x d v g Q I j l h;let(z,y,rfl,rfl,m,q):=h;let(t,rfl):=j;let(u,rfl,o,rfl):=l.one;exact SC.stripChars (λo k=>(.str _,H,I.tok k,(o,rfl),q)) m,λA S H x B g d Q E R c r h=>Bdn R c r h)⟩
 .cases h
section
variable{Y:Th}{X:Cx}{o e a b c:bW}{es:lg bW}{name:t6}{aj cpos:Pos}{E:L2.St->XK}{f:De->M W}{gs:De->M (lg W)}{T:Ty}{op:W->lg W->M W}
nonrec def Ty.is_ok{l:lg aG}{S:Store}{H:Hp}{x:W}{v:V}{K:aB}(R:Rep Y l S H)(g:RV Y l H x v)(h:T.is x S=t8):tyV K T.name v H:=by
 cases T with
 |str=>cases g <;> first|rfl|trivial
 |lst=>
  cases g <;> try trivial
  rename_i n a i;simp[Ty.is] at h;split at h
  .rename_i p k;let(d,j,q):=R.at_ _ _ _ i k;exact .inl (rfl,d,.inl .inl[j])
  trivial
 |dct=>
  cases g <;> try trivial
  rename_i n a i;simp[Ty.is] at h;split at h
  .rename_i p k;let(d,j,q):=R.at_ _ _ _ i k;exact .inr .inr[.inl (rfl,.inl (d,j))]
  trivial
def Bp0(N:Bdo pb name=sr[u6 T op])(O:WE X o (tF Y E f))(U:WA X (e::es) (tFs Y E gs))(Z:attributeBase o name X.env (eval o X.env)=eval o X.env)(i:((backTo cpos (starEach (e::es) X.env)).all (λx=>!x.1)&&(backToKw cpos (keywordEach [] X.env)).all (λx=>x.1.isSome)&&decide[(e::es).length+([]:lg iC).length+(if ([]:lg iC).isEmpty then 0 else 1) < 30])=t8)(ao:(aj.endLine==cpos.line)=t8)(P:starEach (e::es) X.env=(u6 t7 (eval e X.env))::starEach es X.env)(p:(backTo cpos (starEach es X.env)).any (·.1)=t7):
  WE X (.Call (.Attribute o name aj) (e::es) [] cpos) tF[Y][E][Lp T op f gs]:=by
 obtain⟨m⟩:=Bdp (Y:=Y) (X:=X) N;refine WE.weak[kbm m.pa m.slot m.ty m.ok O U Z i ao P p] λs H Q ⟨ρ,S,δ,R,sl,q⟩=>?_;refine(ρ,S,δ,R,sl,(Aq.seq q).mono ?_);rintro v H1 ⟨h,r,w,L,G,z,y,g⟩;let g:Aq Y RV[Y] h H1 (M.bind _ _ r) Q E[s]:=g;unfold M.bind at g;by_cases n:T.is w r=t8
 .simp only[n,if_true] at g;refine(Ty.is_ok z y n,h,r,δ,z,sl.mono L G,(Aq.seq g).mono ?_);rintro C H2 ⟨k,S2,B,J,F,R2,l,I⟩;exact m.by_ k S2 H2 w v B C Q E[s] R2 (y.mono J F) l I
 .simp only[n,if_false] at g;exact g.elim
end
def FOk(Y:Th)(ok:Bool->Nat->t6->Bool):Prop:=(∀c f,ok t7 c f=t8->Cls Y.K Y.cl[c]/\Qi Y.K Y.cl[c] f)/\∀c f,ok t8 c f=t8->Y.xf c=sr f/\XfK Y.K Y.cl[c] f
def Wf(ok:Bool->Nat->t6->Bool)(f:t6)(x:W):M W:=match x with
 |.ref n=>λS=>match S[n]? with
  |some (.ins c fs)=>if ok t7 c f then Aho fs.lookup[f] S else .bad
  |_=>.bad
 |.exn c w=>if ok t8 c f then pure w else bad
 |_=>bad
def Acf(f:t6)(v:W):lg[t6×W]->lg (t6×W)
 |[]=>[(f,v)]
 |(g,x)::r=>if g=f then (u6 g v)::r else (u6 g x)::Acf f v r
def Acg(ok:Bool->Nat->t6->Bool)(f:t6)(x y:W):M Unit:=match x with
 |.ref n=>λS=>match S[n]? with
  |some (.ins c fs)=>if ok t7 c f&&decide[fs.length < 1000] then .ok u9 (S.set n .ins[c][Acf f y fs]) else .bad
  |_=>.bad
 |_=>bad
def Ih(ok:Bool->Nat->t6->Bool)(f:t6)(g:De->M W):De->M W:=λδ=>do let x<-g δ;Wf ok f x
def G9(ok:Bool->Nat->t6->Bool)(f:t6)(g h:De->M W):MS:=λδ=>Gu (do let y<-h δ;let x<-g δ;Acg ok f x y) (λuw=>.nx) δ
section
variable{ok:Bool->Nat->t6->Bool}
def RFs.look(r:RFs Y b H fs c)(f:t6)(h:fs.lookup f=sr w):∃v,c.lookup f=sr v/\RV Y b H w v:=by
 induction r with
 |nil=>cases h
 |@cons p q _ _ i r g=>
  let(d,n):=p;let(m,l):=q;let(e,k):=i;cases (e);rw[cY] at h ⊢
  by_cases a:(f==d)=t8
  .simp_all
  .rw[tG] at a;rw[a] at h ⊢;exact g h
def RFs.put(r:RFs Y b H fs c)(f:t6)(h:RV Y b H w v):RFs Y b H (Acf f w fs) (Vy f v c):=by
 induction r with
 |nil=>exact .cons (rfl,h) .nil
 |@cons p q _ _ j r i=>
  let(g,n):=p;let(m,l):=q;let(e,d):=j;cases (e);unfold Acf Vy;by_cases a:g=f
  .rw[di a,di a];exact .cons (rfl,h) r
  .rw[dm a,dm a];exact .cons (rfl,d) i
def RFs.len(r:RFs Y ρ H fs vs):fs.length=vs.length:=paired_len r
def RFs.mono'(p:ρ <+: ρ')(t:Bw ρ ρ' H H')(r:RFs Y ρ H fs vs):RFs Y ρ' H' fs vs:=Paired.imp2 (λuw uw z=>(z.1,z.2.mono p t)) r
nonrec def Axx(hf:FOk Y ok)(R:Rep Y g S H)(p:RV Y g H x l)(h:Aq Y RV[Y] g H (Wf ok f x S) Q E):
  (∃a C k fs v,l=.ref a/\H a=sr[.ins C k fs]/\Cls Y.K C/\Qi Y.K C f/\fs.lookup f=sr v/\Q v H)\/∃a C n d v,l=.ref a/\H a=sr[K7 a .ref[C] sr[u6 n sr[d]]]/\H d=sr .xd[[(f,v)]]/\XfK Y.K C f/\Q v H:=by
 let ex:∀{c:Nat} {w:W},Aq Y RV[Y] g H (Wf ok f (.exn c w) S) Q E->Y.xf c=sr f/\XfK Y.K Y.cl[c] f/\Aq Y RV[Y] g H ((pure w:M W) S) Q E:=λ{c w} h=>by
  simp only[Wf] at h;by_cases b:ok t8 c f=t8
  .rw[di b] at h;exact((hf.2 c f b).1,(hf.2 c f b).2,h)
  .rw[dm b] at h;ac_rfl
 cases p <;> try ac_rfl
 .rename_i n a q;simp only[Wf] at h;split at h
  .rename_i c fs e;let(k,m,s,o):=R.at_ _ _ _ q e;split at h
   .rename_i b;let(w,t,h):=Vm h;let(v,ev,j):=o.look f t;exact .inl (a,_,k,m,v,rfl,s,(hf.1 c f b).1,(hf.1 c f b).2,ev,h.now R j)
   .ac_rfl
  .ac_rfl
 .rename_i i _ _;let(e,_,_):=ex h;rw[i] at e;cases e
 .rename_i n i _ _ r hd j;let(e,u,h):=ex h;rw[i] at e;cases e;exact .inr (_,_,1,_,_,rfl,r,hd,u,h.now R j)
nonrec def Axy{Q:Unit->Hp->Prop}(hf:FOk Y ok)(R:Rep Y d S H)(u:RV Y d H x r)(s:RV Y d H y l)(h:Aq Y (λi i a b=>a=b) d H (Acg ok f x y S) Q E):
  ∃a C g fs,r=.ref a/\H a=sr[.ins C g fs]/\Cls Y.K C/\Qi Y.K C f/\fs.length < 1000/\Q u9 (upd H a .ins[C][g][Vy f l fs]):=by
 cases u <;> try ac_rfl
 rename_i n a k;simp only[Acg] at h;split at h
 .rename_i c fs w;let(g,m,p,o):=R.at_ _ _ _ k w;split at h
  .rename_i j;let(j,v):=bO.mp j;let t:Bw d d H (upd H a .ins[Y.cl[c]][g][Vy f l m]):=Mi k p (λi e=>by cases e) (λi i e=>by cases e)
   refine(a,_,g,m,rfl,p,(hf.1 c f j).1,(hf.1 c f j).2,by rw[<-o.len];exact dg v,?_)
   exact h d _ u9 aP[_] t (R.write k t (g,_,An,(o.put f s).mono' aP[_] t)) ()
  .ac_rfl
 trivial
end
section
variable{ok:Bool->Nat->t6->Bool}
def Bm7(hK:X.K=Y.K)(hf:FOk Y ok)(k:WE X o (tF Y E g))(l:attributeBase o f X.env (eval o X.env)=eval o X.env):WE X (.Attribute o f j) tF[Y][E][Ih ok f g]:=(
 WE.weak ⟨Bcr k.un l⟩ λn H Q ⟨ρ,S,δ,R,sl,q⟩=>by
  rw[hK];refine(ρ,S,δ,R,sl,(Aq.seq q).mono ?_);rintro v t ⟨b,s,w,r,p,m,h,i⟩;exact Axx hf m h i)
def Bjb(hK:X.K=Y.K)(hf:FOk Y ok)(G:WE X o (tF Y E g))(F:WE X value (tF Y E h))(hs:swapsWith value sr[.Attribute o f c] j.line X.env=pure t7):
  WS X (.Assign [.Attribute o f c] value j) tS[Y][E][G9 ok f g h]:=(WS.weak ⟨Bhx G.un F.un hs⟩ λD Z H ⟨ρ,S,δ,R,sl,q⟩=>by
 rw[hK];refine(ρ,S,δ,R,sl.2,(Aq.seq (Ds.lift (Rel:=λp p a b=>a=b) sl q)).mono ?_);rintro vy H1 ⟨d,Q,y,B,s,U,t,z⟩;refine(d,Q,δ,U,sl.2.mono B s,(Aq.seq z).mono ?_);rintro vx H2 ⟨m,S2,x,A,r,R2,u,w⟩;let(a,C,P,fs,O,N,L,J,I,l,S3,_,p3,t3,T,e,_,v):=Axy hf R2 u (t.mono A r) w;exact(a,C,P,fs,O,N,L,J,I,v.nxt T e))
end
def Auo{d:CXT}{P:bY}{w:dO}{K:aB}{mg:t6->o9 aD}{base:dD}{N:lg t6}{qual:t6}{scope:iV}{f:aG}{i:aD}{A:eU}{outer:lg Env}{s:aN}{H:Hp}{E:XK}{g:Bool}:
  yI (model P w) (Abj d P w K mg base N qual scope f i A outer s H E g).A (Abj d P w K mg base N qual scope f i A outer s H E g).env (Abj d P w K mg base N qual scope f i A outer s H E g).xe:=(
 λe k h=>aEb (Q₁:=λe a=>d outer H s E e a) (E₁:=λl a=>d outer H s E l a) e k h)
def Bdq(c d:De->M Bool):De->M Bool:=λδ=>do let x<-c δ;if x then d δ else pure t7
def orT(c d:De->M Bool):De->M Bool:=λδ=>do let x<-c δ;if x then pure t8 else d δ
def Jk(c:De->M Bool):De->M Bool:=λδ=>do let x<-c δ;pure[!x]
section
def WW.weak(h:WW X e t)(k:∀σ H Q,t' σ H Q->t σ H Q):WW X e t':=⟨λwh aa s σ H Q I q=>h.un wh aa s σ H Q I (k σ H Q q)⟩
def Axz(h:WE X e (tF Y E f))(j:∀whole,isTrue e X.env whole=(do let v<-whole;standAt e.pos;holding [v] truthy[v])):WT X e (tFb Y E Dl[f]):=(Aps (λa a a q=>q) (⟨by
  intro k s b H Q I i;refine isTrue_plain[thn[h.un k s b H _ I i] λv n ⟨x,H1,I1,r1,q1⟩=>?_][j _];let(d,rfl,q):=q1;cases r1;exact iB (H1,I1,q)⟩))
end
def Hc(c:Nat)(gs:De->M lg[W]):MS:=λδ=>Gu gs[δ] (λws δ S=>if ws.length<=big then .ex (u6 c .non) δ S else .bad) δ
section
def Ax0{c:Nat}(j:Y.xf c=sy)(v:Vz X.K Y.cl[c])(w:X.mg x=sr .ref[Y.cl[c]])(B:X.calm=t8)(F:Raises X E)(C:WA X (e::b) tFs[Y][λt=>E][G])(y:X.env.kindOf x=sr .globalImplicit)(hd:(x==("__debug__":t6))=t7)(A:starEach (e::b) X.env=(u6 t7 (eval e X.env))::starEach b X.env)(k:(backTo a (starEach b X.env)).any (·.1)=t7):
  WS X (.Raise sr[.Call (.Name x p) (e::b) [] a] sy u) tS[Y][λt=>E][Hc c G]:=(WS.weak[Bij v w B F C y hd A k] λD n H ⟨ρ,S,δ,R,sl,q⟩=>by
 refine(ρ,S,δ,R,sl.2,(Ds.lift sl q).mono ?_);rintro O N ⟨d,T,s,Q,P,J,f,g,h⟩;by_cases i:s.length<=big
 .rw[di i] at h;let z:=h d N n aP[_] (Bw.refl ..) J f;unfold XP at z;rw[j] at z;exact(Km[g.length ▸ i],_,z)
 .rw[dm i] at h;trivial)
end
def Ach(kvs:lg[Key×W])(k:Key)(w:W):lg[Key×W]:=if kvs.any[λp=>decide[p.1=k]] then kvs.map[λp=>if p.1=k then (u6 p.1 w) else p] else kvs ++ [(k,w)]
def Aci(x y v:W):M Unit:=match x with
 |.ref n=>λS=>match S[n]? with
  |some (.dct kvs)=>match Abr y with
   |some k=>if kvs.length < big then .ok u9 (S.set n .dct[Ach kvs k v]) else .bad
   |none=>.bad
  |some (.lst ws)=>match y with
   |.int i=>if decide[0<=i]&&decide[i < ws.length] then .ok u9 (S.set n .lst[ws.set i.toNat v]) else .bad
   |_=>.bad
  |_=>.bad
 |_=>bad
def Jb(f g h:De->M W):MS:=λδ=>Gu (do let v<-h δ;let x<-f δ;let y<-g δ;Aci x y v) (λuw=>.nx) δ
section
def RKV.app(r:RKV Y b H a c)(t:RKV Y b H e d):RKV Y b H (a ++ e) (c ++ d):=by
 induction r with
 |nil=>exact t
 |cons h r f=>exact .cons h f
def RKV.put(r:RKV Y d H a f)(k:Key)(h:RV Y d H w v):RKV Y d H (Ach a k w) (putK f k v):=by
 let i:a.any[λp=>decide[p.1=k]]=f.any[λp=>decide[p.1=k]]:=by
  induction r with
  |nil=>rfl
  |cons c r g=>simp_all
 unfold Ach putK;rw[i];split
 .rename_i b;clear i b;induction r with
  |nil=>exact .nil
  |@cons p q _ _ c r g=>
   rw[cB,cB];refine .cons ?_ g;by_cases e:p.1=k
   .rw[di e,di c.1.symm.trans[e]];exact(c.1,h)
   .rwa [dm e,dm[λz=>e c.1.trans[z]]]
 .exact r.app[.cons (rfl,h) .nil]
def RKV.mono'(p:ρ <+: ρ')(t:Bw ρ ρ' H H')(r:RKV Y ρ H fs vs):RKV Y ρ' H' fs vs:=Paired.imp2 (λuw uw z=>(z.1,z.2.mono p t)) r
theorem RVs.set(h:RV Y b H w v):∀{c:lg W} {d:lg V} (i:Nat),RVs Y b H c d->RVs Y b H (c.set i w) (d.set i v)
 |_,_,_,.nil=>.nil
 |_,_,0,.cons _ r=>.cons h r
 |_,_,i+1,.cons q r=>.cons q (RVs.set h i r)
nonrec def Ax1(R:Rep Y c S H)(A:RV Y c H x w)(s:RV Y c H y v)(r:RV Y c H z m)(h:Aq Y (λd d a b=>a=b) c H (Aci x y z S) Q E):
  ∃a u,w=.ref a/\Atr H a v m u/\Q u9 u:=by
 cases A <;> try ac_rfl
 rename_i n a f;simp only[Aci] at h;split at h
 .rename_i o q;let(g,l,j):=R.at_ _ _ _ f q;split at h
  .rename_i k C;rw[Aee s C];split at h
   .rename_i B;let el:o.length=g.length:=paired_len j;let t:Bw c c H (upd H a .dK[putK g k m]):=Mi f l (λd e=>by cases e) (λd d e=>by cases e)
    refine(a,_,rfl,Atr.k l (by rw[<-el];exact aO B ()),?_)
    exact h c _ u9 aP[_] t (R.write f t (_,An,(j.put k r).mono' aP[_] t)) ()
   .ac_rfl
  .ac_rfl
 .rename_i F q;let(g,l,j):=R.at_ _ _ _ f q;split at h
  .split at h
   .rename_i i p;rw[aL] at p;obtain rfl:=s.iI;let t:Bw c c H (upd H a .lst[g.set i.toNat m]):=Mi f l (λd e=>by cases e) (λd d e=>by cases e)
    refine(a,_,rfl,.inr[.inr (g,i,l,rfl,dg p.1,by rw[<-j.length];exact dg p.2,rfl)],?_)
    exact h c _ u9 aP[_] t (R.write f t (_,An,(j.set r _).mono aP[_] t)) ()
   .ac_rfl
  .ac_rfl
 trivial
end
section
def Bdr(hu:X.A.units+64 < cLine)(T:WE X o (tF Y E f))(hi:WE X b (tF Y E g))(Q:WE X v (tF Y E h))(hs:swapsWith v sr[.Subscript o b c] l.line X.env=pure t7):
  WS X (.Assign [.Subscript o b c] v l) tS[Y][E][Jb f g h]:=(WS.weak[⟨Bb4 () T.un hi.un Q.un hs⟩] λD σ H ⟨ρ,S,δ,R,sl,q⟩=>by
 let P:=Ds.lift (Rel:=λC C a b=>a=b) sl q;refine(ρ,S,δ,R,sl.2,(Aq.seq (Rel:=RV Y) P).mono ?_);rintro vz H1 ⟨i,S1,z,t,p,R1,F,O⟩;refine(i,S1,δ,R1,sl.2.mono t p,(Aq.seq (Rel:=RV Y) O).mono ?_);rintro vx H2 ⟨e,S2,x,s,n,R2,I,N⟩;refine(e,S2,δ,R2,(sl.2.mono t p).mono s n,(Aq.seq (Rel:=RV Y) N).mono ?_);rintro vy H3 ⟨w,S3,y,r,m,R3,G,L⟩;let(a,H',Z,U,u,S4,_,p4,t4,R4,k,_,J):=Ax1 R3 (I.mono r m) G ((F.mono s n).mono r m) L;exact(a,H',Z,U,J.nxt R4 k))
end
def Df(n:Nat)(ws:lg W):De:=ws.map sr ++ bV (n - ws.length) sy
def Br(k n:Nat)(b:MS):lg W->M W:=λws S=>if ws.length=k then match b (Df n ws) S with
 |.nx _ S1=>.ok .non S1
 |.rt w S1=>.ok w S1
 |.ex c _ S1=>.exc c S1
 |_=>.bad else .bad
section
def Bp1{P:bY}{w:dO}{K:aB}{mg:t6->o9 aD}{base:dD}{i:Bool}{x qual:t6}{st:cF}{f:aG}{fd:eN}{N ps:lg t6}{k:Nat}{e:Sp}(F:Fun K x qual st f fd)(S:Ek N ps Ai[st])(len:∀c H Q E,e c H Q E->c.length=ps.length)(hbody:∀(a:aD)(A:eU)(outer:lg Env)(s:aN)(H:Hp)(c:lg V)(Q:VK)(E:XK),fd.code=a->Fq k A.deeper[envOfC qual Ai[st] s.heap.objs.size f a] i->e c H Q E->
   ∃t,WSs (Abj (CXo P w) P w K mg base N qual Ai[st] f a A outer s H E i) Aw[st] t/\t { nx:=λy u=>Q .non u,rt:=Q } (start N c) H):Hl P w K mg base (CXo P w) (k+1) f fd ps e i:=by
 let(C,B,G,kV,p,z,I,a,ct,l,rfl,m,h):=F.ex;exact Bgp m h S len λA outer s H c Q E o g=>by
  let(t,n,q):=hbody a A outer s H c Q E rfl o g;exact(t,n.un,q)
def Bg1{Y:Th}{P:bY}{w:dO}{K:aB}{mg:t6->o9 aD}{base:dD}{z:Bool}{x qual:t6}{st:cF}{f:aG}{fd:eN}{N ps:lg t6}{k:Nat}{b:MS}(F:Fun K x qual st f fd)(Sc:Ek N ps Ai[st])(hbody:∀(a:aD)(A:eU)(outer:lg Env)(s:aN)(H:Hp)(E:XK),fd.code=a->Fq k A.deeper[envOfC qual Ai[st] s.heap.objs.size f a] z->
   WSs[Abj (CXo P w) P w K mg base N qual Ai[st] f a A outer s H E z][Aw st][tS Y (λI=>E) b]):Hl P w K mg base (CXo P w) (k+1) f fd ps spF[Y][Br ps.length N.length b] z:=by
 refine Bp1 F Sc (λO H Q E h=>?_) λa A outer s H O Q E X U h=>(_,hbody a A outer s H E X U,?_)
 .let(G,S,g,R,r,q):=h;unfold Br at q;by_cases j:g.length=ps.length
  .exact r.length.symm.trans j
  .rw[dm j] at q;exact q.elim
 .let(G,S,g,R,r,q):=h;unfold Br at q;by_cases j:g.length=ps.length
  .rw[di j] at q;refine(G,S,Df N.length g,R,by
     let J:=r.length;refine(by simp only[Df,L2.start,bD,aK,fB,J],λi u e=>?_)
     let hi:i < g.length:=by
      by_cases hi:i < g.length
      .exact hi
      .unfold Df at e;rw[bA (by rw[aK];omega),lB] at e
       split at e <;> cases e
     unfold Df at e;rw[aW[by rwa [aK]],bJ] at e
     let(u',e1,Z):=bG.mp e;cases Z;let(v,ev,T):=r.get e1;refine(v,?_,T);unfold L2.start;rw[aW[by rwa [aK,<-J]],bJ,ev]
     rfl,?_)
   cases e:b (Df N.length g) S with
   |nx p n=>rw[e] at q;exact λd C o y t B I=>q d C .non y t B .non
   |rt u n=>rw[e] at q;trivial
   |ex c p n=>rw[e] at q;exact λd C o y t B I=>q d C y t B
   |bk p n=>rw[e] at q;exact q.elim
   |ct p n=>rw[e] at q;exact q.elim
   |bad=>rw[e] at q;exact q.elim
  .rw[dm j] at q;exact q.elim
end
def Ql(op op':vW)(f g h:De->M W):De->M W:=λδ=>do
 let x<-f δ;let y<-g δ;let z<-Fd op x y
 asB z λb=>if b then do let u<-h δ;Fd op' y u else pure .bl[t7]
def Bm8(s:Tg)(f:De->M W):MS:=λδ=>Gu f[δ] (λw δ S=>match s w δ with
 |some δ1=>.nx δ1 S
 |none=>.bad) δ
section
def Ain(o:Bi0 Y X op)(C:Bi0 Y X l):∀a H Q,tF Y E (Ql op l f g h) a H Q->Ao4 o.r C.r (tF Y E f) (tF Y E g) (tF Y E h) a H Q:=by
 rintro a H Q ⟨G,S,i,R,j,q⟩;refine(G,S,i,R,j,(Aq.seq (Rel:=RV Y) q).mono ?_);rintro I H1 ⟨e,S1,x,B,s,R1,O,q1⟩;refine(e,S1,i,R1,j.mono B s,(Aq.seq (Rel:=RV Y) q1).mono ?_);rintro m H2 ⟨d,S2,y,A,p,R2,t,q2⟩;let Z:=Aq.seq (Rel:=RV Y) q2;refine o.by_ d S2 H2 x y I m _ E[a] R2 (O.mono A p) t Z.mono[?_];rintro vz H3 ⟨c,S3,z,w,n,F,N,U⟩;let(k,rfl,v):=Akj N U;refine(k,rfl,?_);cases k with
 |false=>exact L2.Aty (v.now F .bl[_])
 |true=>
  refine L2.Apd (c,S3,i,F,((j.mono B s).mono A p).mono w n,(Aq.seq (Rel:=RV Y) v).mono ?_);rintro J H4 ⟨b,S4,u,p4,L,R4,P,T⟩;exact C.by_ b S4 H4 y u m J Q E[a] R4 ((t.mono w n).mono p4 L) P T
def Bjc(y:WE X e (tF Y E f))(x:WG X a t)(A:GOk Y s t)(hs:swapsWithSole [a] e j.line X.env=pure t7)(u:swappedStores [a] e X.env=pure sy)(z:(assignEach [a] X.env).map (·.2)=[assign a X.env]):
  WS X (.Assign [a] e j) tS[Y][E][Bm8 s f]:=(WS.weak ⟨Bho y.un x.un hs u z⟩ λD o H ⟨ρ,S,δ,R,sl,q⟩=>by
 refine(ρ,S,δ,R,sl.2,(Ds.lift (Rel:=RV Y) sl q).mono ?_);rintro v C ⟨c,B,w,G,F,m,h,r,b⟩;cases k:s w δ with
 |none=>simp only[k] at b;exact b.elim
 |some d=>
  simp only[k] at b;exact A c B C w v δ d o _ m h r k λn i=>b.nxt m i)
end
end D
namespace L2
open PySem PySem.Spec PyProof.Rows
end L2
namespace D
open PySem PySem.Spec PyProof.Rows L2
def noX{α:Type}(m:M α):M α:=λS=>match m S with
 |.ok a S1=>.ok a S1
 |_=>.bad
abbrev E0s:L2.St->XK:=λuw uw uw uw=>False
def Xx(k:Nat)(cap:lg Nat)(δ:De):De:=bV k sy ++ cap.map λj=>δ.getD j sy
def Ko(s:Tg)(t:De->M Bool)(e:De->M W):lg W->De->lg W->M lg[W]
 |[],_,acc=>pure acc
 |w::ws,δ,acc=>match s w δ with
  |none=>bad
  |some δ1=>do
   let b<-noX t[δ1]
   if b then do
    let y<-e δ1
    if acc.length < big then Ko s t e ws δ1 (acc ++ [y]) else bad
   else Ko s t e ws δ1 acc
def nxF(e:De->M W):De->M W:=λδ=>noX e[δ]
def Wg(s:Tg)(t:De->M Bool)(e:De->M W):lg W->De->lg W->M lg[W]:=Ko s t nxF[e]
section
def Aeg{c b d:Type}(m:M c)(f:c->M b)(k:b->M d)(S:Store):((m >>= f) >>= k) S=(m >>= λa=>f a >>= k) S:=by
 show M.bind (M.bind m f) k S=M.bind m _ S;unfold M.bind;cases m S <;> rfl
def Aq.seqB{j q n d:Type}{Rel:lg aG->Hp->j->q->Prop}{a:lg aG->Hp->n->d->Prop}{m:M j}{f:j->M n}{Q:d->Hp->Prop}(h:Aq Y a b l ((noX m >>= f) S) Q E)(F:XK):
  Aq Y Rel ρ H m[S] (SqQ Y Rel a ρ H b l f Q E) F:=by
 let h:Aq Y a b l (M.bind _ f S) Q E:=h;unfold M.bind noX at h;cases e:m S with
 |bad=>rw[e] at h;exact h
 |exc c o=>rw[e] at h;trivial
 |ok w o=>
  rw[e] at h;exact λi l v p t r k=>(i,o,w,p,t,r,k,h)
end
def Aq.seqX{Y:Th}{ρ a:lg aG}{S:Store}{H i:Hp}{E:XK}{l s o g:Type}{Rel:lg aG->Hp->l->s->Prop}{b:lg aG->Hp->o->g->Prop}{m:M l}{f:l->M o}{Q:g->Hp->Prop}(h:Aq Y b a i ((m >>= f) S) Q E)(x:a <+: ρ)(u:Bw a ρ i H):
  Aq Y Rel ρ H m[S] (SqQ Y Rel b ρ H a i f Q E) E:=by
 let h:Aq Y b a i (M.bind m f S) Q E:=h;unfold M.bind at h;cases e:m S with
 |bad=>rw[e] at h;exact h
 |exc c q=>rw[e] at h;exact λk y p t r=>h k y x.trans[p] u.trans[t] r
 |ok w q=>
  rw[e] at h;exact λj i v p t r n=>(j,q,w,p,t,r,n,h)
def Ax2:HO->Bool
 |.lst _=>t8
 |.dK _=>t8
 |_=>t7
mutual
theorem RV.grow{Y:Th}{f a:lg aG}{H:Hp}(p:f <+: a)(n:∀b,b∈a->b∈f\/∃o,H b=sr o/\Ax2 o=t8):∀{w:W} {v:V},RV Y f H w v->RV Y a H w v
 |_,_,.non=>.non
 |_,_,.bl b=>.bl b
 |_,_,.int i=>.int i
 |_,_,.str x=>.str x
 |_,_,.tup h r=>.tup h (RVs.grow p n r)
 |_,_,.scr h=>.scr h
 |_,_,.ty n=>.ty n
 |_,_,.cls c=>.cls c
 |_,_,.exn x m h=>.exn x (λz=>by
  rcases n _ z with q|⟨o,q,d⟩
  .exact m q
  .rw[h] at q;cases q;cases d) h
 |_,_,.exf x m k h g r=>.exf x (λz=>by
  rcases n _ z with q|⟨o,q,d⟩
  .exact m q
  .rw[h] at q;cases q;cases d) (λz=>by
  rcases n _ z with q|⟨o,q,d⟩
  .exact k q
  .rw[g] at q;cases q;cases d) h g (RV.grow p n r)
 |_,_,.ref h=>.ref (by
  let(r,rfl):=p;let(l,e):=aJ.mp h;rw[aW l];exact h)
theorem RVs.grow{Y:Th}{d c:lg aG}{H:Hp}(p:d <+: c)(n:∀b,b∈c->b∈d\/∃o,H b=sr o/\Ax2 o=t8):∀{e:lg W} {f:lg V},RVs Y d H e f->RVs Y c H e f
 |_,_,.nil=>.nil
 |_,_,.cons h r=>.cons[RV.grow p n h][RVs.grow p n r]
end
section
def Ht.grow(p:i <+: e)(n:∀b,b∈e->b∈i\/∃o,H b=sr o/\Ax2 o=t8)(h:Ht Y i H a c):Ht Y e H a c:=by
 cases c with
 |lst f=>let(d,h,r):=h;exact(d,h,r.grow p n)
 |dct f=>let(d,h,r):=h;exact(d,h,Paired.imp2 (λg g z=>(z.1,z.2.grow p n)) r)
 |ins c f=>let(j,d,h,r):=h;exact(j,d,h,Paired.imp2 (λg g z=>(z.1,z.2.grow p n)) r)
 |dead=>exact h
 |clo k f=>let(d,h,r):=h;exact(d,h,r.grow p n)
 |tab q=>exact h
theorem Rep.take(R:Rep Y e S H)(o:D∉e)(h:H D=sr .lst[j])(r:RVs Y e H acc j):Rep Y (e ++ [D]) (S ++ [.lst acc]) H where
 len:=by rw[bD,bD,R.len];rfl
 nd:=by
  rw[oV];refine(R.nd,(),λa m b f=>?_)
  obtain rfl:b=D:=by simpa using f
  rintro rfl;exact o m
 tb:=R.tb.trans (bK _ _)
 at_:=λn a d g i=>by
  by_cases k:n < e.length
  .rw[aW k] at g;rw[aW (by rw[<-R.len];exact k)] at i
   exact(R.at_ n a d g i).grow (bK _ _) (λb f=>by
    rcases cU.mp f with z|z
    .exact .inl z
    .obtain rfl:=aZ.mp z;exact .inr (_,h,rfl))
  .let l:=(aJ.mp g).1;rw[bD,fY] at l;obtain rfl:n=e.length:=by omega
   rw[bA aM[_],gB] at g;rw[R.len,bA aM[_],gB] at i;obtain rfl:D=a:=by simpa using g
   obtain rfl:Cell.lst acc=d:=by simpa using i
   exact(j,h,r.grow (bK _ _) (λb f=>by
    rcases cU.mp f with z|z
    .exact .inl z
    .obtain rfl:=aZ.mp z;exact .inr (_,h,rfl)))
def Ars(own:lg t6)(cap:lg Nat)(h:RSl Y g H d f):RSs Y g H (Xx own.length cap d) (Atz own cap f):=by
 refine(by simp[Xx,Atz],λi w e=>?_)
 unfold Xx at e;unfold Atz;by_cases hi:i < own.length
 .rw[aW[fB ▸ hi],lB] at e;simp_all
 .rw[bA (by rw[fB];omega),fB,bJ] at e
  rw[bA (by rw[fB];omega),fB,bJ]
  let(j,l,a):=bG.mp e;rw[l];rw[bL] at a;cases c:d[j]? with
  |none=>rw[c] at a;cases a
  |some o=>
   rw[c] at a;subst a;let(v,p,k):=h j w c;exact(v,by simp_all,k)
end
section
def Ra(H:Hp)(D:aG):Prop:=H D=sy\/∃o,H D=sr o/\Ax2 o=t8
def Ra.t(h:Ra H D):∀b xs,H b=sr .tup[xs]->upd H D o b=sr .tup[xs]:=(λb xs q=>by
 rw[Ah (by rintro rfl;rcases h with h|⟨o,h,m⟩ <;> rw[h] at q <;> cases q;cases m)];omega)
def Ra.f(h:Ra H D):∀b ob u,H b=sr[.frz ob u]->upd H D o b=sr[.frz ob u]:=(λb ob u q=>by
 rw[Ah (by rintro rfl;rcases h with h|⟨o,h,m⟩ <;> rw[h] at q <;> cases q;cases m)];omega)
def Ra.g(h:Ra H D):∀b o,H b=sr o->Amm o=t8->upd H D a b=sr o:=(λb o q n=>by
 rw[Ah (by
  rintro rfl;rcases h with h|⟨u,h,m⟩ <;> rw[h] at q <;> cases q
  cases o <;> first|(cases m;done)|(cases n;done))];exact q)
theorem Rep.off(R:Rep Y b S H)(e:D∉b)(h:Ra H D):Rep Y b S (upd H D o) where
 len:=R.len
 nd:=R.nd
 tb:=R.tb
 at_:=λn a c d f=>by
  let ne:a≠D:=by
   rintro rfl;exact e gG[d]
  exact(R.at_ n a c d f).keep Ah[ne] h.g
theorem RSs.off(r:RSs Y b H c a)(h:Ra H D):RSs Y b (upd H D o) c a:=(r.1,λi w e=>by
 let(v,f,d):=r.2 i w e;exact(v,f,d.keep h.g))
theorem Bw.off(t:Bw a e H1 H)(g:H1 D=sy)(h:Ra H D):Bw a e H1 (upd H D o) where
 t:=λb xs q=>h.t b xs (t.t b xs q)
 f:=λb ob u q=>h.f b ob u (t.f b ob u q)
 k:=λb ob q m=>by rw[Ah (by rintro rfl;rw[g] at q;cases q)];exact t.k b ob q m
 n:=t.n
def Aio(k:∀σ H Q,tF Y (λuw=>E) ef σ H Q->te σ H Q)(gk:GOk Y s g)(jk:JOk Y J all c H1)(R:Rep Y c S H1)(sl:RSs Y c H1 δ σ)(O:H1 D=sy)(q:Aq Y RV[Y] c H1 ((Ko s tf ef all δ [] >>= Dd) S) Q E):
  Aib J g (tFb Y E0s tf) te D σ H1 Q:=by
 let nD:D∉c:=λz=>by
  let(o,ho):=R.tracked z;rw[O] at ho;cases ho
 refine(λi m acc C B=>∃ρ S j L,i<=all.length/\c <+: ρ/\Bw c ρ H1 B/\D∉ρ/\Rep Y ρ S B/\RSs Y ρ B j C/\RVs Y ρ B L acc/\m=(all.drop i).length/\Aq Y RV[Y] c H1 ((Ko s tf ef all.drop[i] j L >>= Dd) S) Q E,
  (_,c,S,δ,[],dM _,aP _,(Bw.refl ..).off O .inl[O],nD,R.off nD .inl[O],sl.off .inl[O],.nil,rfl,q),?_)
 rintro i m acc C B ⟨ρ,S,j,L,li,p,t,mD,U,N,T,rfl,u⟩ d;by_cases hi:i < all.length
 .let(go,yl):=jk.go ρ B i p t hi;refine .inr (go,λx P hy=>?_);let(ty,Ry,w,ew,rv):=yl x P hy;let U:=Ry _ U;let N:=N.mono aP[_] ty;let t:=t.trans ty;let T:=T.mono aP[_] ty;let d:=ty.k D _ d mD;let ed:all.drop i=w::all.drop[i+1]:=by
   let(hl,e):=aJ.mp ew;exact e ▸ gO hl
  let hm:(all.drop[i+1]).length < (all.drop i).length:=by simp_all
  rw[ed] at u;unfold Ko at u;cases es:s w j with
  |none=>simp only[es] at u;exact bT u
  |some h=>
   simp only[es] at u;refine gk ρ S P w x j h C _ U N rv es λσ2 r=>(ρ,S,h,U,r.2,?_);rw[Aeg] at u;apply (Aq.seqB (Rel:=λuw uw a b=>a=b) (ρ:=ρ) (H:=P) u _).mono;rintro b H3 ⟨I,S3,b',v,l,R3,e3,X⟩;let e3:b'=b:=e3;subst e3;let out:∀{G F:lg aG} {Ha Hb:Hp},D∉G->Ha D=sr .lst[acc]->Bw G F Ha Hb->D∉F/\Hb D=sr .lst[acc]:=λ{G F Ha Hb} m1 m2 m3=>by
    refine(λz=>?_,m3.k D _ m2 m1);rcases m3.n D z with z|z
    .exact m1 z
    .rw[m2] at z;cases z
   let(mD3,hD3):=out mD d l;cases b' with
   |false=>
    rw[dm cR] at X ⊢
    exact(hD3,_,hm,I,S3,h,L,hi,p.trans v,t.trans l,mD3,R3,r.mono v l,T.mono v l,rfl,X)
   |true=>
    rw[di rfl] at X ⊢
    rw[Aeg] at X;refine k _ _ _ (I,S3,h,R3,(r.mono v l).2,(Aq.seqX (Rel:=RV Y) (ρ:=I) (H:=H3) X p.trans[v] t.trans[l]).mono ?_);rintro y H4 ⟨ρ4,S4,yw,p4,t4,R4,ry,q4⟩;let(Z,hD4):=out mD3 hD3 t4;by_cases hz:L.length < big
    .rw[di hz] at q4;let fl:Ra H4 D:=.inr (_,hD4,rfl);let ra4:=(T.mono v l).mono p4 t4;refine(hD4,T.length ▸ aO hz (),_,hm,ρ4,S4,h,L ++ [yw],hi,(p.trans v).trans p4,((t.trans l).trans t4).off O fl,Z,R4.off Z fl,((r.mono v l).mono p4 t4).off fl,?_,rfl,q4)
     exact(ra4.append[.cons ry .nil]).keep fl.g
    .rw[dm hz] at q4;cases q4
 .rw[dC ()] at u
  refine .inl (jk.stop ρ B i t (),?_)
  let q2:Aq Y RV[Y] c H1 (Dd L S) Q E:=u;simp only[Dd] at q2;split at q2
  .refine q2 (ρ ++ [D]) B .ref[D] p.trans[bK ..] (t.t,t.f,t.k,λb hb=>?_) (U.take mD d T) .ref[?_]
   .rcases cU.mp hb with z|z
    .exact t.n b z
    .obtain rfl:b=D:=by simpa using z
     exact .inr O
   .exact U.len ▸ Kw
  .exact bT q2
end
def La(s:Tg)(t:De->M Bool)(e:De->M W)(gt:Store->Nat->o9 o9[W]):Nat->Nat->De->lg W->M lg[W]
 |0,_,_,_=>bad
 |m+1,i,δ,acc=>λS=>match gt S i with
  |none=>.bad
  |some sy=>.ok acc S
  |some (sr w)=>match s w δ with
   |none=>.bad
   |some δ1=>(noX t[δ1] >>= λb=>if b=t8 then noX e[δ1] >>= λy=>if acc.length < big then La s t e gt m (i+1) δ1 (acc ++ [y]) else bad else La s t e gt m (i+1) δ1 acc) S
def G7(k:Nat)(cap:lg Nat)(src:De->M Src)(s:Tg)(t:De->M Bool)(e:De->M W):De->M W:=λδ=>do
 let z<-src δ
 match z with
 |.fix ws=>Wg s t e ws (Xx k cap δ) [] >>= Dd
 |.liv n=>λS=>match S[n]? with
  |some (.lst ws)=>(La s t e liG[n] (ws.length+1) 0 (Xx k cap δ) [] >>= Dd) S
  |_=>.bad
 |.zl n m=>λS=>match S[n]? with
  |some (.lst ws)=>(La s t e (zlG n m) (ws.length+1) 0 (Xx k cap δ) [] >>= Dd) S
  |_=>.bad
 |.el _=>bad
section
def after{α β:Type}(f:α->M β):R α->R β
 |.ok a S1=>f a S1
 |.exc c S1=>.exc c S1
 |.bad=>.bad
def Xy{a b:Type}{m:M a}{f:a->M b}{r:R a}(e:m S=r):(m >>= f) S=after f r:=by
 show M.bind m f S=_;unfold M.bind;rw[e];rfl
end
section
def Amv{gt:Store->Nat->o9 o9[W]}{f:Nat}(gk:GOk Y s g)(jk:JLv Y J gt d)(R:Rep Y d S H1)(sl:RSs Y d H1 δ σ)(U:H1 D=sy)(q:Aq Y RV[Y] d H1 ((La s u A gt f 0 δ [] >>= Dd) S) Q E):
  Aib J g (tFb Y E0s u) (tF Y E0s A) D σ H1 Q:=by
 let nD:D∉d:=λz=>by
  let(o,ho):=R.tracked z;rw[U] at ho;cases ho
 refine(λi m acc I G=>∃ρ S j e,d <+: ρ/\Bw d ρ H1 G/\D∉ρ/\Rep Y ρ S G/\RSs Y ρ G j I/\RVs Y ρ G e acc/\Aq Y RV[Y] d H1 ((La s u A gt m i j e >>= Dd) S) Q E,
  (f,d,S,δ,[],aP _,(Bw.refl ..).off U .inl[U],nD,R.off nD .inl[U],sl.off .inl[U],.nil,q),?_)
 rintro i m acc I G ⟨ρ,S,j,e,p,t,mD,C,P,Z,l⟩ h;cases m with
 |zero=>exact bT l
 |succ m=>
  cases eg:gt S i with
  |none=>rw[Xy (r:=.bad) (by unfold La;simp only[eg])] at l;exact bT l
  |some o=>
   cases o with
   |none=>
    rw[Xy (r:=.ok e S) (by unfold La;simp only[eg])] at l
    refine .inl (jk.stop ρ S G i p C eg,?_);let q2:Aq Y RV[Y] d H1 (Dd e S) Q E:=l;simp only[Dd] at q2;split at q2
    .refine q2 (ρ ++ [D]) G .ref[D] p.trans[bK ..] (t.t,t.f,t.k,λb hb=>?_) (C.take mD h Z) .ref[?_]
     .rcases cU.mp hb with z|z
      .exact t.n b z
      .obtain rfl:b=D:=by simpa using z
       exact .inr U
     .exact C.len ▸ Kw
    .exact bT q2
   |some w=>
    let(go,yl):=jk.go ρ S G i w p C eg;refine .inr (go,λx X hy=>?_);let(ty,Ry,rv):=yl x X hy;let C:=Ry _ C;let P:=P.mono aP[_] ty;let t:=t.trans ty;let Z:=Z.mono aP[_] ty;let h:=ty.k D _ h mD;cases es:s w j with
    |none=>rw[Xy (r:=.bad) (by unfold La;simp only[eg,es])] at l;exact bT l
    |some c=>
     let l:Aq Y RV[Y] d H1 (((noX u[c] >>= λb=>if b=t8 then noX A[c] >>= λy=>if e.length < big then La s u A gt m (i+1) c (e ++ [y]) else bad else La s u A gt m (i+1) c e) >>= Dd) S) Q E:=by
      let e3:La s u A gt (m+1) i j e S=(noX u[c] >>= λb=>if b=t8 then noX A[c] >>= λy=>if e.length < big then La s u A gt m (i+1) c (e ++ [y]) else bad else La s u A gt m (i+1) c e) S:=by
       conv=>lhs;unfold La
       simp only[eg,es]
      rw[Xy e3] at l
      rwa [Xy rfl]
     refine gk ρ S X w x j c I _ C P rv es λσ2 v=>(ρ,S,c,C,v.2,?_);rw[Aeg] at l;apply (Aq.seqB (Rel:=λuw uw a b=>a=b) (ρ:=ρ) (H:=X) l _).mono;rintro b H3 ⟨O,S3,b',T,B,R3,e3,q3⟩;let e3:b'=b:=e3;subst e3;let out:∀{N L:lg aG} {Ha Hb:Hp},D∉N->Ha D=sr .lst[acc]->Bw N L Ha Hb->D∉L/\Hb D=sr .lst[acc]:=λ{N L Ha Hb} m1 m2 m3=>(m3.out m2 m1,m3.k D _ m2 m1);let(mD3,hD3):=out mD h B;cases b' with
     |false=>
      rw[dm cR] at q3 ⊢
      exact(hD3,m,gY m,O,S3,c,e,p.trans T,t.trans B,mD3,R3,v.mono T B,Z.mono T B,q3)
     |true=>
      rw[di rfl] at q3 ⊢
      rw[Aeg] at q3;refine(O,S3,c,R3,(v.mono T B).2,(Aq.seqB (Rel:=RV Y) (ρ:=O) (H:=H3) q3 _).mono ?_);rintro y H4 ⟨ρ4,S4,yw,p4,t4,R4,ry,q4⟩;let(mD4,hD4):=out mD3 hD3 t4;by_cases hz:e.length < big
      .rw[di hz] at q4;let fl:Ra H4 D:=.inr (_,hD4,rfl);let ra4:=(Z.mono T B).mono p4 t4;refine(hD4,Z.length ▸ (aO hz ()),m,gY m,ρ4,S4,c,e ++ [yw],(p.trans T).trans p4,((t.trans B).trans t4).off U fl,mD4,R4.off mD4 fl,((v.mono T B).mono p4 t4).off fl,?_,q4)
       exact(ra4.append[.cons ry .nil]).keep fl.g
      .rw[dm hz] at q4;cases q4
end
section
variable{cap:lg Nat}
def compX(k:Nat)(cap:lg Nat)(src:De->M Src)(s:Tg)(t:De->M Bool)(e:De->M W):De->M W:=λδ=>do
 let z<-src δ
 match z with
 |.fix ws=>Ko s t e ws (Xx k cap δ) [] >>= Dd
 |_=>bad
def Bds(L:X.stack=X.env::X.outer/\X.env.frame=sr X.env.locals/\X.ex=[]/\Xl X E)(I:X.calm=t8)(O:X.env.scope=sc)(hi:WI X i a (tFi Y E src))(F:∀C s H ex,WG (X.comp scope own cap C s H ex) i g)(T:GOk Y s g)(B:∀C s H ex,WTs[X.comp scope own cap C s H ex][e][tFb Y E0s r])(G:∀C s H ex xe l,Cm[CXo X.prog X.w][X.compX scope own cap C s H ex xe][l]->WE[X.compX scope own cap C s H ex xe][f][tF Y l U])(b:cap.all[λj=>match X.N[j]? with|some x=>decide[scope.names.lookup x=sr .free]|none=>t7]=t8)(au:scope.kind=.function)(ak:scope.names.all[λy=>decide[y.2≠.cell]]=t8)(aq:scope.names.all[λy=>!decide (y.2=.local)||decide[scope.names.lookup y.1=sr .local]]=t8)(Z:scope.names.all[λy=>!decide (y.2=.free)||(decide[sc.names.lookup y.1=sr .cell]||decide[sc.names.lookup y.1=sr .free])]=t8)(hs:∀x,foldedSetIterable a X.env x=pure x):
  WE X (.ListComp f [(i,a,e,0)] scope v) tF[Y][E][compX own.length cap src s r U]:=(
 WE.weak (Bii L I O hi F B G b au ak aq Z hs) (λσ H Q ⟨ρ,S,δ,R,sl,q⟩=>by
  refine(ρ,S,δ,R,sl,(Aq.seq (Rel:=Ad9 Y) q).mono ?_);rintro J H1 ⟨m,S1,z,A,t,R1,u,d⟩ D hD;let c:=Ars own cap (sl.mono A t);cases z with
  |fix ws=>exact Aio (λh h h z=>z) T u R1 c hD d
  |liv n=>exact bT d
  |_=>exact bT d))
def Amw(r:GOk Y s g):∀i H Q,tF Y E (G7 own.length cap src s A u) i H Q->Aic (tFi Y E src) g (tFb Y E0s A) (tF Y E0s u) own cap i H Amk[Q]:=(λi H Q ⟨ρ,S,δ,R,sl,q⟩=>by
  replace q:=q.mono (Q':=Amk Q) λy y=>.inl
  refine(ρ,S,δ,R,sl,(Aq.seq (Rel:=Ad9 Y) q).mono ?_);rintro J I ⟨x,v,z,C,B,h,l,d⟩ D hD;let f:=Ars own cap (sl.mono C B);cases z with
  |fix G=>exact Aio (λi H Q ⟨ρ,S,δ,h,f,d⟩=>(ρ,S,δ,h,f,by
 unfold nxF noX at d;cases e:u δ S with
 |ok w v=>rw[e] at d;exact d
 |exc c v=>rw[e] at d;exact bT d
 |bad=>rw[e] at d;exact d)) r l h f hD d
  |liv n=>
   let(a,o,rfl):=l;simp only at d;split at d
   .exact Amv r Axs[o] h f hD d
   .exact bT d
  |zl n m=>
   let(a,b,o,F,rfl):=l;simp only at d;split at d
   .exact Amv r (Axt o F) h f hD d
   .exact bT d
  |el n=>cases d)
def Bjd(v:X.calm=t8)(w:X.env.scope=sc)(hi:WI X l a m)(t:∀C s H ex,WG (X.comp scope own cap C s H ex) l g)(d:∀k H Q,tF Y E F k H Q->Aic m g (tFb Y E0s n) (tF Y E0s A) own cap k H Amk[Q])(p:∀C s H ex,WTs[X.comp scope own cap C s H ex][f][tFb Y E0s n])(u:∀C s H ex,WE[X.comp scope own cap C s H ex][i][tF Y E0s A])(c:cap.all[λj=>match X.N[j]? with|some x=>decide[scope.names.lookup x=sr .free]|none=>t7]=t8)(G:scope.kind=.function)(J:scope.names.all[λy=>decide[y.2≠.cell]]=t8)(I:scope.names.all[λy=>!decide (y.2=.local)||decide[scope.names.lookup y.1=sr .local]]=t8)(B:scope.names.all[λy=>!decide (y.2=.free)||(decide[sc.names.lookup y.1=sr .cell]||decide[sc.names.lookup y.1=sr .free])]=t8)(hs:∀x,foldedSetIterable a X.env x=pure x):
  WE[X][.ListComp i [(l,a,f,0)] scope o][tF Y E F]:=(
 WE.weak (by
   refine⟨PE.thaw <| Bb9 v w hi.un (λC s H ex=>(t C s H ex).un) (λC s H ex=>(p C s H ex).un) (λC s H ex=>(u C s H ex).un) (λj r=>?_) G (λy b=>?_) (λy b h=>?_) (λy b h=>?_) hs⟩
   .let q:=bB.mp c j r;cases e:X.N[j]? with
    |none=>rw[e] at q;cases q
    |some x=>rw[e] at q;exact(x,rfl,dg q)
   .exact dg[bB.mp J y b]
   .let q:=bB.mp I y b;rw[dj h] at q;exact dg q
   .let q:=bB.mp B y b;rw[dj h] at q;rcases qJ.mp q with z|z
    .cases z
    rcases qJ.mp z with z|z
    .exact .inl dg[z]
    .exact .inr dg[z]) d)
end
def Afn(kvs:lg[Key×W]):M W:=λS=>.ok[.ref S.length][S ++ [.dct kvs]]
def Lg(kvs more:lg[Key×W]):lg[Key×W]:=more.foldl (λacc kv=>Ach acc kv.1 kv.2) kvs
def Jp:lg[(De->M W)×(De->M W)]->De->M lg[Key×W]
 |[]=>λuw=>pure []
 |(f,g)::r=>λδ=>do
  let k<-f δ;let v<-g δ;let kvs<-Jp r δ
  match Abr k with
  |some k=>pure ((u6 k v)::kvs)
  |none=>bad
def Acj(l:lg[(De->M W)×(De->M W)]):De->M W:=λδ=>do let kvs<-Jp l δ;Afn[Lg [] kvs]
section
theorem Bw.more(t:Bw d a H H')(h:H p=sy):Bw d (a ++ [p]) H H' where
 t:=t.t
 f:=t.f
 k:=t.k
 n:=λb m=>by
  rcases cU.mp m with z|z
  .exact t.n b z
  .obtain rfl:=aZ.mp z;exact .inr h
theorem Rep.takeC(R:Rep Y e S H)(p:D∉e)(h:H D=sr o)(k:Ax2 o=t8)(q:Ht Y (e ++ [D]) H D c):Rep Y (e ++ [D]) (S ++ [c]) H where
 len:=by rw[bD,bD,R.len];rfl
 nd:=by
  rw[oV];refine(R.nd,(),λa m b i=>?_)
  obtain rfl:b=D:=by simpa using i
  rintro rfl;exact p m
 tb:=R.tb.trans (bK _ _)
 at_:=λn a d f g=>by
  by_cases j:n < e.length
  .rw[aW j] at f;rw[aW (by rw[<-R.len];exact j)] at g
   refine(R.at_ n a d f g).grow (bK _ _) (λb i=>?_);rcases cU.mp i with z|z
   .exact .inl z
   .obtain rfl:=aZ.mp z;exact .inr (_,h,k)
  .let l:=(aJ.mp f).1;rw[bD,fY] at l;obtain rfl:n=e.length:=by omega
   rw[bA aM[_],gB] at f;rw[R.len,bA aM[_],gB] at g;obtain rfl:D=a:=by simpa using f
   obtain rfl:c=d:=by simpa using g
   exact q
def RKV.merge(r:RKV Y b H more rs):∀{kvs:lg[Key×W]} {vs:lg[Key×V]},RKV Y b H kvs vs->RKV Y b H (Lg kvs more) (Qj vs rs):=by
 induction r with
 |nil=>intro kvs vs q;exact q
 |@cons p q ps qs h t d=>
  intro kvs vs c;let e:RKV Y b H (Ach kvs p.1 p.2) (putK vs q.1 q.2):=h.1 ▸ c.put p.1 h.2;exact d e
def Bp2(Y:Th)(ρ:lg aG)(H:Hp)(kws:lg[Key×W])(ps:lg[V×V]):Prop:=∃kvs:lg[Key×V],ps=kvs.map[λkv=>(u6 kV[kv.1] kv.2)]/\RKV Y ρ H kws kvs
theorem Afo:∀(l:lg[(De->M W)×(De->M W)]) {b:lg aG} {S:Store} {H:Hp} {Q:lg[V×V]->Hp->Prop},Rep Y b S H->RSl Y b H h n->Aq Y Bp2[Y] b H (Jp l h S) Q E[n]->Aj3 (l.map λp=>(u6[tF Y E p.1][tF Y E p.2])) n H Q
 |[],b,S,H,Q,R,c,q=>Aq.now q R ([],rfl,.nil)
 |(f,g)::r,b,S,H,Q,R,c,q=>by
  refine(b,S,h,R,c,(Aq.seq q).mono ?_);rintro T H1 ⟨d,N,k,s,o,P,A,C⟩;refine(d,N,h,P,c.mono s o,(Aq.seq (Rel:=RV Y) C).mono ?_);rintro w H2 ⟨u,X,v,G,y,R2,z,B⟩;refine Afo r R2 ((c.mono s o).mono G y) ((Aq.seq B).mono ?_);rintro ps Z ⟨t,U,I,F,x,O,⟨m,rfl,i⟩,j⟩;cases e:Abr k with
  |none=>rw[e] at j;trivial
  |some J=>
   rw[e] at j;let L:=Aee A e;subst L;exact Aq.now j O ((u6 J w)::m,rfl,.cons (rfl,z.mono F x) i)
theorem pairs_len:∀(l:lg[(De->M W)×(De->M W)]) (a:De) (S n:Store) (b:lg[Key×W]),Jp l a S=.ok b n->b.length=l.length
 |[],a,S,n,b,e=>by cases e;rfl
 |(f,g)::r,a,S,n,b,e=>by
  let e:M.bind f[a] (λk=>M.bind g[a] λv=>M.bind (Jp r a) _) S=_:=e;unfold M.bind at e;cases j:f a S with
  |ok k s=>
   rw[j] at e;simp only at e;cases i:g a s with
   |ok v q=>
    rw[i] at e;simp only at e;cases h:Jp r a q with
    |ok p m=>
     rw[h] at e;simp only at e;cases o:Abr k with
     |none=>rw[o] at e;cases e
     |some t=>rw[o] at e;cases e;rw[dZ,dZ,pairs_len r a _ _ _ h]
    |exc c m=>simp_all
    |bad=>rw[h] at e;cases e
   |exc c m=>rw[i] at e;cases e
   |bad=>rw[i] at e;cases e
  |exc c m=>rw[j] at e;cases e
  |bad=>rw[j] at e;cases e
def Bje:WE[X][.Dict [] [] a][tF Y E Acj[[]]]:=(WE.weak ⟨Awo⟩ λb H Q ⟨ρ,S,δ,R,sl,q⟩=>λp hp=>by
 refine q _ _ _ (bK ..) Bf[hp] (R.alloc hp (_,An,.nil)) .ref[?_];exact R.len ▸ Kw)
def Bjf(h:WPs X A a values (l.map λp=>(u6[tF Y E p.1][tF Y E p.2])))(t:a.all (·.isSome)=t8)(O:a.length=values.length)(U:a≠[])(B:a.length<=15)(P:l.length=a.length):
  WE[X][.Dict a values A][tF Y E Acj[l]]:=(WE.weak ⟨Bb5 h.un t O U B⟩ λu H Q ⟨ρ,S,δ,R,sl,q⟩=>λp hp=>by
 let pn:p∉ρ:=λz=>by
  let(o,I):=R.tracked z;rw[hp] at I;cases I
 let v:Bw ρ ρ H (upd H p .dK[[]]):=Bf hp;let n:Aq Y RV[Y] ρ (upd H p .dK[[]]) (Acj l δ S) Q E[u]:=Aq.shift q aP[_] v;cases e:Jp l δ S with
 |bad=>
  let q:Aq Y RV[Y] ρ H M.bind[Jp l δ][λkvs=>Afn[Lg [] kvs]][S] Q E[u]:=q;unfold M.bind at q;rw[e] at q;exact q.elim
 |exc c J=>
  apply Afo l R.beside[hp] (sl.mono aP[_] v);let n:Aq Y RV[Y] ρ (upd H p .dK[[]]) M.bind[Jp l δ][λkvs=>Afn[Lg [] kvs]][S] Q E[u]:=n;unfold M.bind at n;rw[e] at n ⊢
  exact n
 |ok d J=>
  apply Afo l R.beside[hp] (sl.mono aP[_] v);rw[e];rintro f F ps N x R2 ⟨kvs,rfl,m⟩;let s:F p=sr .dK[[]]:=x.k p _ An pn;let r:p∉f:=x.out An pn;let C:Ra F p:=.inr (_,s,rfl);let y:Aq Y RV[Y] ρ H M.bind[Jp l δ][λkvs=>Afn[Lg [] kvs]][S] Q E[u]:=q;unfold M.bind at y;rw[e] at y;let ln:=pairs_len l δ S J d e;refine(s,kvs,rfl,?_,?_)
  .rwa [<-(paired_len m:d.length=kvs.length),ln,P]
  .let L:RKV[Y][f][upd F p .dK[Qj [] kvs]][Lg [] d][Qj [] kvs]:=Paired.imp2 (λw w z=>(z.1,z.2.keep C.g)) (RKV.merge m (kvs:=[]) (vs:=[]) .nil);let R3:=R2.off (o:=.dK[Qj [] kvs]) r C;let Z:=R3.takeC (c:=.dct[Lg [] d]) r An rfl (_,An,Paired.imp2 (λw w z=>(z.1,z.2.grow (bK ..) (λb T=>by
    rcases cU.mp T with z|z
    .exact .inl z
    .obtain rfl:=aZ.mp z;exact .inr (_,An,rfl)))) L)
   refine y (f ++ [p]) _ _ N.trans[bK ..] (((v.trans x).off hp C).more hp) Z .ref[?_];exact R2.len ▸ Kw)
end
end D
namespace L2
open PySem PySem.Spec PyProof.Rows
theorem Amx:∀{h:lg V} {c b:lg aD},Vals h c->h.mapM Ad6=sr b->c=b
 |[],_,_,.nil,a=>by simp at a;exact a.symm
 |y::r,_,b,.cons j i,a=>by
  rw[aAs] at a;cases f:Ad6 y with
  |none=>simp_all
  |some k=>
   rw[f] at a;cases e:r.mapM Ad6 with
   |none=>simp_all
   |some g=>
    rw[e] at a;rw[<-cA a,Ame f j,Amx i e]
def Aup:Jm X .builtin["isinstance"] (λxs H Q=>∃x p i d t b,xs=[x,.ref p]/\H p=sr .tup[i]/\TyX X.K H x t/\i.mapM Ad6=sr d/\oX X.K t d=sr b/\(∃a C o,x=.ref a/\t=.ref C/\H a=sr[K7 a .ref[C] o]/\V0 X.K C)/\Q .bl[b] H):=by
 intro P s G H xs J Q I r h;let(x,p,i,d,t,b,rfl,hp,ty,B,y,(a,C,N,rfl,rfl,A,E),q):=h;let(u,v,rfl,k,j):=vals2 r;cases k;cases j;let(O,g,ri,o,e,c,n,F):=(I.hok p _ hp);let f:g=d:=Amx ri B;subst f;let(w,L,m,l):=o;let c:w=.type "tuple":=c;subst c F;exact PySem.W.kia_tup Amd[E] I.kIn (Aq9 I A) e y (λz=>nomatch z) λtk=>(.bl b,H,I.tok tk,rfl,q)
end L2
namespace D
open PySem PySem.Spec PyProof.Rows L2
def tyW(S:Store):W->o9 String
 |.non=>sr "NoneType"
 |.bl _=>sr "bool"
 |.int _=>sr "int"
 |.str _=>sr "str"
 |.tup _=>sr "tuple"
 |.ref n=>match S[n]? with
  |some (.lst _)=>sr "list"
  |some (.dct _)=>sr "dict"
  |_=>sy
 |_=>sy
def Aeh:lg String:=["int","bool","str","tuple","list","dict"]
def Ax3:lg String:=["NoneType","int","bool","str","tuple","list","dict"]
def Bm9(T n:String):Bool:=T==n||(T=="bool"&&n=="int")
def Bjg(Y:Th):W->o9 aD
 |.ty n=>sr .type[n]
 |.cls c=>sr .ref[Y.cl[c]]
 |_=>sy
structure Amy(Y:Th)(isa:Nat->W->Option Bool):Prop where
 ok:∀c k b,isa c k=sr b->V0 Y.K (Y.cl c)/\∃cv,Bjg Y k=sr cv/\lA Y.K (.ref (Y.cl c)) cv=sr b
def Jl(isa:Nat->W->o9 Bool):lg W->M W
 |[.exn c _,.tup (k::ks)]=>match Cz isa[c] (k::ks) with
  |some bs=>pure .bl[bs.any[id]]
  |none=>bad
 |[.exn c _,k]=>match isa c k with
  |some b=>pure .bl[b]
  |none=>bad
 |[x,.ty n]=>λS=>match tyW S x with
  |some T=>if Aeh.contains n then .ok .bl[Bm9 T n] S else .bad
  |none=>.bad
 |_=>bad
def Bjh(K:aB)(b:T∈Ax3)(a:n∈Aeh):lA K .type[T] .type[n]=sr[Bm9 T n]:=by
 simp[Ax3,Aeh] at b a;rcases b with rfl|rfl|rfl|rfl|rfl|rfl|rfl <;> rcases a with rfl|rfl|rfl|rfl|rfl|rfl <;> rfl'
section
nonrec def Bji(R:Rep Y e S H)(j:RV Y e H x i)(h:tyW S x=sr T):TyX Y.K H i .type[T]/\T∈Ax3:=by
 cases j <;> simp only[tyW,gQ,reduceCtorEq] at h <;> try subst h
 .exact(.of .non,())
 .exact(.of .bl[_],())
 .exact(.of .int[_],())
 .exact(.of .str[_],())
 .rename_i l m;exact(.of .tup[l],())
 .rename_i n a d;split at h
  .rename_i g c;cases h;let(f,b,k):=R.at_ _ _ _ d c;exact(.of .lst[b],())
  .rename_i g c;cases h;let(f,b,k):=R.at_ _ _ _ d c;exact(.of .dK[b],())
  .cases h
def Art{a:aD}(c:RV Y d H k b)(h:Bjg Y k=sr a):Ad6 b=sr a:=by
 cases c <;> simp only[Bjg,gQ,reduceCtorEq] at h <;> subst h <;> rfl
def Apv{X:Cx}(d:aB)(hK:X.K=d):Jm X .builtin["isinstance"] (λxs H Q=>∃x p e c t b,xs=[x,.ref p]/\H p=sr .tup[e]/\TyX d H x t/\e.mapM Ad6=sr c/\oX d t c=sr b/\(∃a C o,x=.ref a/\t=.ref C/\H a=sr[K7 a .ref[C] o]/\V0 d C)/\Q .bl[b] H):=by
 subst hK;exact Aup
theorem Aru{isa:Nat->W->o9 Bool}(O:Amy Y isa){c:Nat}:∀{g:lg W} {m:lg V} {bs:lg Bool},RVs Y u H g m->Cz isa[c] g=sr bs->∃a,m.mapM Ad6=sr a/\oX Y.K .ref[Y.cl[c]] a=sr bs.any[id]
 |_,_,_,.nil,e=>by cases e;exact([],rfl,rfl)
 |k::g,_,bs,.cons h r,e=>by
  rw[Cz] at e;cases j:isa c k with
  |none=>rw[j] at e;cases e
  |some b=>
   rw[j] at e;cases i:Cz isa[c] g with
   |none=>rw[i] at e;cases e
   |some t=>
    rw[i] at e;cases e;let(a,q,p):=Aru O r i;let(_,s,o,n):=O.ok c k b j;refine(s::a,by rw[aAs,Art h o,q];rfl,?_)
    rw[oX,n];cases b
    .exact p
    .rfl
nonrec def Bp3{isa:Nat->W->o9 Bool}(O:Amy Y isa)(R:Rep Y A S H)(r:RVs Y A H I B)(h:Aq Y RV[Y] A H (Jl isa I S) Q E):
  (∃x c l t b,B=[x,c]/\TyX Y.K H x t/\Ad6 c=sr l/\lA Y.K t l=sr b/\Q .bl[b] H)\/∃x p q f t b,B=[x,.ref p]/\H p=sr .tup[q]/\TyX Y.K H x t/\q.mapM Ad6=sr f/\oX Y.K t f=sr b/\(∃a C o,x=.ref a/\t=.ref C/\H a=sr[K7 a .ref[C] o]/\V0 Y.K C)/\Q .bl[b] H:=by
 unfold Jl at h;split at h
 .rename_i c w k P;cases r with|@cons _ J _ _ i r=>
  cases r with|cons j r=>
  cases r;cases j with|@tup p _ q hp L=>
  cases d:Cz isa[c] (k::P) with
  |none=>simp only[d] at h;ac_rfl
  |some bs=>
   simp only[d] at h;let(f,y,v):=Aru O L d;let g:V0 Y.K Y.cl[c]:=by
    rw[Cz] at d;cases F:isa c k with
    |none=>rw[F] at d;cases d
    |some b=>exact(O.ok c k b F).1
   have:∃a o,J=V.ref a/\H a=sr[K7 a .ref[Y.cl[c]] o]:=by
    cases i with
    |exn z m e=>exact(_,_,rfl,e)
    |exf z m N e=>exact(_,_,rfl,e)
   let(a,o,rfl,e):=this;exact .inr (_,p,q,f,_,_,rfl,hp,.exc e g,y,v,(a,_,o,rfl,rfl,e,g),h.now R .bl[_])
 .rename_i c w k _;cases r with|cons i r=>
  cases r with|cons j r=>
  cases r;cases d:isa c k with
  |none=>simp only[d] at h;ac_rfl
  |some b=>
   simp only[d] at h;let(g,l,X,U):=O.ok c k b d;refine .inl (_,_,l,_,b,rfl,?_,Art j X,U,h.now R .bl[_]);cases i with
   |exn z m e=>exact .exc e g
   |exf z m N e=>exact .exc e g
 .rename_i x n nx;cases r with|cons i r=>
  cases r with|cons j r=>
  cases r;cases u:tyW S x with
  |none=>simp only[u] at h;ac_rfl
  |some T=>
   simp only[u] at h;by_cases s:Aeh.contains n=t8
   .rw[di s] at h;let(y,v):=Bji R i u;cases j;exact .inl (_,_,_,_,_,rfl,y,rfl,Bjh Y.K v (by simpa using s),Io h R .bl[_])
   .rw[dm s] at h;ac_rfl
 .ac_rfl
end
section
def Ax4(b:∀a H,RV Y a H w v)(h:WE X e tC[v]):WE X e (tF Y E kF[w]):=(WE.weak h λc H Q q=>by
 let(a,S,d,R,f,q):=q;exact q.now R (b a H))
end
def Jq(c:Nat)(dv:lg W)(gs:De->M lg[W]):MS:=λδ=>Gu gs[δ] (λws δ S=>match ws with|[]=>.bad|w::us=>if us.length+dv.length=1 then .ex (u6 c w) δ S else .bad) δ
structure Bjj(X:Cx)(C:aG)(f:t6)(n:Nat):Prop where
 ex:∃(fI:aG)(fd:eN)(ps:List t6)(k:Nat)(dvs:List V)(ds:List aD),Ad8 X.K C fI=t8/\cG X.K (.ref C)=t8/\iT X.K (.ref fI)=sr (.type "function")/\
  (∀cm,Hl X.prog X.w X.K X.mg X.base (CXo X.prog X.w) k fI fd ps (Akc C f) cm)/\Fq (k+1) X.A t8/\Binds X.K fd ps ds/\Vals dvs ds/\dvs.length=n
section
def Auq{c:Nat}(s:Y.xf c=sr f)(y:X.ex=[])(Z:Bjj X Y.cl[c] f dv.length)(hm:X.mg x=sr .ref[Y.cl[c]])(hc:X.calm=t8)(hR:Akd X E)(ha:WA X (e::m) tFs[Y][λP=>E][gs])(hg:X.env.kindOf x=sr .globalImplicit)(hd:(x==("__debug__":t6))=t7)(he:starEach (e::m) X.env=(u6 t7 (eval e X.env))::starEach m X.env)(t:(backTo i (starEach m X.env)).any (·.1)=t7):
  WS X (.Raise sr[.Call (.Name x p) (e::m) [] i] sy U) tS[Y][λP=>E][Jq c dv gs]:=by
 let(fI,fd,ps,k,g,ds,h1,h2,h3,F,hr,hb,hv,hl):=Z.ex;refine WS.weak ⟨At6 h1 h2 h3 y hg hm hc hR F[t8] hr hb hv ha.un hd he t⟩ λD L H ⟨ρ,S,δ,R,sl,q⟩=>?_;refine(ρ,S,δ,R,sl.2,(Ds.lift (Rel:=RVs Y) sl q).mono ?_);rintro vs J ⟨a,S1,ws,p1,t1,I,r,b,h⟩;cases b with
 |nil=>exact h.elim
 |@cons w v Q j T b=>
  dsimp only at h;by_cases B:Q.length+dv.length=1
  .rw[di B] at h;let l:=b.length;obtain⟨u,hu⟩:∃u,j ++ g=[u]:=by
    let z:(j ++ g).length=1:=by grind
    match j ++ g,z with
    |[u],_=>exact(u,rfl)
   refine(aF (by grind:(v::j).length<=2) (),v,u,by simp_all,λd hd=>?_)
   let n:Bw a a J (upd J d .xd[[(f,v)]]):=Bf hd;let z:=h a _ L aP[_] n I.beside[hd] (r.mono aP[_] n);unfold XP at z;dsimp only at z;rw[s] at z;exact z d v (λz=>by
    let(o,C):=I.tracked z;rw[hd] at C;cases C) An (T.mono aP[_] n)
  .rw[dm B] at h;exact h.elim
end
def Aur(exm:Nat->Bool)(i:Nat)(b su:MS):MS:=λδ S=>match b δ S with
 |.ex c δ1 S1=>if exm c.1 then (match su (δ1.set i sr[.exn c.1 c.2]) S1 with
   |.nx δ2 S2=>.nx (δ2.set i sy) S2
   |.bk δ2 S2=>.bk (δ2.set i sy) S2
   |.ct δ2 S2=>.ct (δ2.set i sy) S2
   |.rt w S2=>.rt w S2
   |_=>.bad) else .bad
 |r=>r
section
def RSs.unset{i:Nat}(h:RSs Y c H d b):RSs Y c H (d.set i sy) (b.set i sy):=by
 refine(by rw[gJ,gJ];exact h.1,λj u e=>?_)
 by_cases a:j=i
 .subst a;let k:=by
   let z:=(aJ.mp e).1
   rwa [gJ] at z
  simp_all
 .rw[cW eF[a]] at e;let(z,l,f):=h.2 j u e;exact(z,by rwa [cW eF[a]],f)
variable{i k:Nat}{exm:Nat->Bool}
def Bjk(hK:X.K=Y.K)(bf:X.stack=X.env::X.outer)(hfr:X.env.frame=sr X.env.locals)(nd:X.N.Nodup)(hm:X.mg x=sr .ref[Y.cl[k]])(hx:∀c,exm c=t8->dN Y.K .ref[Y.cl[c]] .ref[Y.cl[k]]=sr t8)(hb:∀(pn:lg[aG×tu])(xe:aD->aN->Prop)(E':L2.St->XK),Cm[CXo X.prog X.w][X.tryB pn xe][E']->WSs[X.tryB pn xe][body][tS Y E' b])(hs:∀e,WSs X.suite[e] (b0::suite) (tS Y E0s U))(hi:X.N[i]?=sr n)(hn:X.env.scope.names.lookup n=sr .local)(hg:X.env.kindOf x=sr .globalImplicit)(hd:(x==("__debug__":t6))=t7):
  WS X (.Try body [.ExceptHandler sr[.Name x np] sr[n] (b0::suite) hpos] [] [] pos) tS[Y][E][Aur exm i b U]:=by
 refine WS.weak (⟨Bib bf hfr nd hi hn hg hm hd (hb:=λpn xe E hx=>(hb pn xe E hx).un) (hs:=λe=>(hs e).un)⟩) λD σ H ⟨ρ,S,δ,R,sl,q⟩=>?_;refine(ρ,S,δ,R,sl,?_);unfold Aur at q;cases C:b δ S with
 |nx l F=>rw[C] at q;exact q
 |rt w F=>rw[C] at q;exact q
 |bk l F=>rw[C] at q;exact q
 |ct l F=>rw[C] at q;exact q
 |bad=>rw[C] at q;exact q
 |ex c l F=>
  rw[C] at q;dsimp only at q;by_cases hc:exm c.1=t8
  .rw[di hc] at q;let ex1:=hx c.1 hc;intro h G Q p1 t1 R1 Z;let go:∀(o:o9[Nat×o9 aG]),(∀a,G a=sy->a∉h->RV Y h upd[G][a][K7 a .ref[Y.cl[c.1]] o] (.exn c.1 c.2) .ref[a])->
     (λT cls o H'=>dN X.K cls .ref[Y.cl[k]]=sr t8/\∀a,H' a=sy->tS Y E0s U { nx:=λj L=>D.nx (j.set i sy) L,rt:=D.rt,bk:=λj L=>D.bk (j.set i sy) L,ct:=λj L=>D.ct (j.set i sy) L }
      (T.set i sr[.ref[a]]) upd[H'][a][K7 a cls o]) Q .ref[Y.cl[c.1]] o G:=λo hrv=>by
    refine(by rw[hK];exact ex1,λa f=>?_)
    let p:a∉h:=λz=>by
     let(o,ho):=R1.tracked z;rw[f] at ho;cases ho
    let t2:Bw h h G upd[G][a][K7 a .ref[Y.cl[c.1]] o]:=Bf f;refine(h,F,l.set i sr[.exn c.1 c.2],R1.beside f,(Z.mono aP[_] t2).set (hrv a f p),?_);let O:∀r,Ds Y ρ H r D E->Ds Y h upd[G][a][K7 a .ref[Y.cl[c.1]] o] r D E:=λr z=>Ds.shift z p1 t1.trans[t2];cases B:U (l.set i sr[.exn c.1 c.2]) F with
    |nx s P=>rw[B] at q;exact λg A I u t y m=>O _ q g A _ u t y m.unset
    |bk s P=>rw[B] at q;exact λg A I u t y m=>O _ q g A _ u t y m.unset
    |ct s P=>rw[B] at q;exact λg A I u t y m=>O _ q g A _ u t y m.unset
    |rt w P=>rw[B] at q;exact λg A v u t y rv=>O _ q g A _ u t y rv
    |ex c2 s P=>rw[B] at q;exact q.elim
    |bad=>rw[B] at q;exact q.elim
   unfold XP;cases J:Y.xf c.1 with
   |none=>exact go _ λa f p=>.exn J p An
   |some n=>
    intro d v nd hd rv;refine go _ λa f p=>?_;let de:d≠a:=λz=>by rw[z,f] at hd;cases hd
    exact .exf J p nd An (by rw[Ah de];exact hd) (rv.mono aP[_] Bf[f])
  .rw[dm hc] at q;exact q.elim
def W7(b:MS):MS:=λδ S=>match b δ S with
 |.ex _ _ _=>.bad
 |r=>r
def Bdt{p:nO}{hs:lg nO}(o:∀(pn:lg[aG×tu])(xe:aD->aN->Prop)(e:L2.St->XK),Cm[CXo X.prog X.w][X.tryB pn xe][e]->WSs[X.tryB pn xe][body][tS Y e b]):
  WS[X][.Try body (p::hs) [] [] m][tS Y E W7[b]]:=by
 refine WS.weak ⟨Bcw (tb:=λe=>tS Y e b) λpn xe e n=>(o pn xe e n).un⟩ λD s H ⟨ρ,S,δ,R,sl,q⟩=>?_;refine(ρ,S,δ,R,sl,?_);unfold W7 at q;cases d:b δ S with
 |nx a g=>rw[d] at q;exact q
 |rt w g=>rw[d] at q;exact q
 |bk a g=>rw[d] at q;exact q
 |ct a g=>rw[d] at q;exact q
 |bad=>rw[d] at q;exact q
 |ex c a g=>rw[d] at q;exact q.elim
def Aus(exm:Nat->Bool)(c2:Nat)(gs:De->M lg[W])(b:MS):MS:=λδ S=>match b δ S with
 |.ex c δ1 S1=>if exm c.1 then (match gs δ1 S1 with
   |.ok [w,_] S2=>.ex (u6 c2 w) δ1 S2
   |_=>.bad) else .bad
 |r=>r
def Bdu{C:Nat}{j:Nat}(hK:X.K=Y.K)(bf:X.stack=X.env::X.outer)(hfr:X.env.frame=sr X.env.locals)(hex:X.ex=[])(hP:Xl X E)(hm:X.mg x=sr .ref[Y.cl[k]])(Q:∀c,exm c=t8->dN Y.K .ref[Y.cl[c]] .ref[Y.cl[k]]=sr t8/\Y.xf c=sy/\Y.pl c=t8)(hb:∀(pn:lg[aG×tu])(xe:aD->aN->Prop)(r:L2.St->XK),Cm[CXo X.prog X.w][X.tryB pn xe][r]->WSs[X.tryB pn xe][body][tS Y r b])(hg:X.env.kindOf x=sr .globalImplicit)(hd:(x==("__debug__":t6))=t7)(P:Y.xf C=sr f)(O:Bjj X Y.cl[C] f 0)(U:X.mg y=sr .ref[Y.cl[C]])(Z:X.env.kindOf y=sr .globalImplicit)(hd2:(y==("__debug__":t6))=t7)(ha:∀e',WA X.suite[e'] (e::A) (tFs Y E0s gs))(he:starEach (e::A) X.env=(u6 t7 (eval e X.env))::starEach A X.env)(T:(backTo u (starEach A X.env)).any (·.1)=t7):
  WS X (.Try body [.ExceptHandler sr[.Name x np] sy [.Raise sr[.Call (.Name y yp) (e::A) [] u] sr[.Constant .none j kpos] rpos] hpos] [] [] pos) tS[Y][E][Aus exm C gs b]:=by
 let(fI,fd,ps,k',dvs,ds,h1,h2,h3,F,hr,hbi,hv,hl):=O.ex;obtain rfl:dvs=[]:=lH hl;refine WS.weak ⟨Bct (tb:=λr=>tS Y r b) bf hfr hex hP hg hm hd (λpn xe r Q=>(hb pn xe r Q).un) h1 h2 h3 Z U F[t7] (λz=>absurd z (),hr.dp,hr.un) hbi hv (λe'=>(ha e').un) hd2 he T⟩ λD σ H ⟨ρ,S,δ,R,sl,q⟩=>?_
 refine(ρ,S,δ,R,sl,?_);unfold Aus at q;cases n:b δ S with
 |nx a p=>rw[n] at q;exact q
 |rt w p=>rw[n] at q;exact q
 |bk a p=>rw[n] at q;exact q
 |ct a p=>rw[n] at q;exact q
 |bad=>rw[n] at q;exact q
 |ex c a p=>
  rw[n] at q;dsimp only at q;by_cases hc:exm c.1=t8
  .rw[di hc] at q;let(ex1,ex2,ex3):=Q c.1 hc;intro h H1 G p1 t1 R1 L;unfold XP;rw[ex2];dsimp only;rw[di ex3];refine(hK ▸ ex1,λB m=>?_);let N:B∉h:=λz=>by
    let(o,t):=R1.tracked z;rw[m] at t;cases t
   let t2:Bw h h H1 upd[H1][B][K7 B .ref[Y.cl[c.1]] sr[u6 0 sy]]:=Bf m;let s:=L.mono aP[_] t2;refine(h,p,a,R1.beside m,s.2,?_);cases eg:gs a p with
   |bad=>rw[eg] at q;exact q.elim
   |exc c' S2=>rw[eg] at q;exact q.elim
   |ok ws S2=>
    rw[eg] at q;intro l H3 vs p3 J R3 g;cases g with
    |nil=>exact q.elim
    |@cons w v _ _ rv g=>
     cases g with
     |nil=>exact q.elim
     |cons ru g=>
      cases g with
      |cons _ _=>exact q.elim
      |nil=>
       refine(by show 2<=sizeLine;decide,(_,_,J.k B _ An N),_,_,rfl,λd hd=>?_)
       let nd:d∉l:=λz=>by
        let(o,t):=R3.tracked z;rw[hd] at t;cases t
       let I:=Bf (ρ:=l) (o:=.xd [(f,v)]) hd;let z:=q l _ G p1.trans[p3] (((t1.trans t2).trans J).trans I) R3.beside[hd] ((s.mono p3 J).mono aP[_] I);unfold XP at z;dsimp only at z;rw[P] at z;exact z d v nd An (rv.mono aP[_] I)
  .rw[dm hc] at q;exact q.elim
end
def Bg2(i:Nat):RS->RS
 |.nx δ S=>.nx (δ.set i sy) S
 |.bk δ S=>.bk (δ.set i sy) S
 |.ct δ S=>.ct (δ.set i sy) S
 |.rt w S=>.rt w S
 |_=>.bad
def Bqy(a1 n1 a2:Nat->Bool)(i:Nat)(b s1 s2:MS):MS:=λδ S=>match b δ S with
 |.ex c δ1 S1=>if a1 c.1 then Bg2 i s1[δ1.set i sr[.exn c.1 c.2]][S1] else if n1 c.1&&a2 c.1 then Bg2 i s2[δ1.set i sr[.exn c.1 c.2]][S1] else .bad
 |r=>r
def Bp4:RS->RS
 |.ex _ _ _=>.bad
 |r=>r
def Amz(exm:Nat->Bool)(b su:MS):MS:=λδ S=>match b δ S with
 |.ex c δ1 S1=>if exm c.1 then Bp4[su δ1 S1] else .bad
 |r=>r
section
variable{i:Nat}
def Bdv{exm:Nat->Bool}{k:Nat}(hK:X.K=Y.K)(bf:X.stack=X.env::X.outer)(N:X.env.frame=sr X.env.locals)(hm:X.mg x=sr .ref[Y.cl[k]])(L:∀c,exm c=t8->dN Y.K .ref[Y.cl[c]] .ref[Y.cl[k]]=sr t8)(hb:∀(pn:lg[aG×tu])(xe:aD->aN->Prop)(B:L2.St->XK),Cm[CXo X.prog X.w][X.tryB pn xe][B]->WSs[X.tryB pn xe][body][tS Y B b])(hs:∀e,WSs X.suite[e] (b0::suite) (tS Y E0s I))(hg:X.env.kindOf x=sr .globalImplicit)(hd:(x==("__debug__":t6))=t7):
  WS X (.Try body [.ExceptHandler sr[.Name x np] sy (b0::suite) Z] [] [] pos) tS[Y][E][Amz exm b I]:=by
 refine WS.weak (⟨Bb8 (tb:=λB=>tS Y B b) (G:=λD σ cls o H'=>dN X.K cls .ref[Y.cl[k]]=sr t8/\∀h,H' h=sy->_)
  bf N (λpn xe E L=>(hb pn xe E L).un) λa g=>a.takeU hg hm hd g.1 (λe=>(hs e).un) (g.2 _ a.F.fre)⟩) λD σ H ⟨ρ,S,δ,R,sl,q⟩=>?_
 refine(ρ,S,δ,R,sl,?_);unfold Amz at q;cases p:b δ S with
 |nx f s=>rw[p] at q;exact q
 |rt w s=>rw[p] at q;exact q
 |bk f s=>rw[p] at q;exact q
 |ct f s=>rw[p] at q;exact q
 |bad=>rw[p] at q;exact q
 |ex c f s=>
  rw[p] at q;dsimp only at q;by_cases O:exm c.1=t8
  .rw[di O] at q;intro j A C p1 t1 R1 J;let go:∀o,dN X.K .ref[Y.cl[c.1]] .ref[Y.cl[k]]=sr t8/\∀h,A h=sy->tS Y E0s I D C upd[A][h][K7 h .ref[Y.cl[c.1]] o]:=λo=>(by rw[hK];exact L _ O,λh t=>by
    let U:Bw j j A upd[A][h][K7 h .ref[Y.cl[c.1]] o]:=Bf t;refine(j,s,f,R1.beside t,J.mono aP[_] U,?_);let u:∀r,Ds Y ρ H r D E->_:=λr z=>Ds.shift z p1 t1.trans[U];cases m:I f s with
    |nx l y=>rw[m] at q;exact u _ q
    |bk l y=>rw[m] at q;exact u _ q
    |ct l y=>rw[m] at q;exact u _ q
    |rt w y=>rw[m] at q;exact u _ q
    |ex c2 l y=>rw[m] at q;exact q.elim
    |bad=>rw[m] at q;exact q.elim)
   unfold XP;cases hxf:Y.xf c.1 with
   |none=>exact go _
   |some n=>exact λd v nd hd rv=>go _
  .rw[dm O] at q;exact q.elim
end
def Arv(z:t6):lg W:=(fD z.cps.size).map λ(i:Nat)=>W.tup [.int[(i:Int)+1],.str ⟨#[z.cps.getD i 0]⟩]
def Ax5(f:De->M W):De->M Src:=λδ=>do let x<-f δ;match x with
 |.str z=>pure .fix[Arv[z]]
 |_=>bad
theorem Ax6(z:t6):JOk Y Ite[z] Arv[z] h H where
 go:=λa g i p t hi=>by
  unfold Arv at hi ⊢
  rw[aK,cD] at hi;refine(hi,?_);rintro x j ⟨c,T,d,b,rfl,rfl⟩;refine(Bf b,λS r=>r.beside b,_,by rw[bJ,qK hi];rfl,.tup An .cons[.int _][.cons ?_ .nil])
  let e:z.cps.getD i 0=c:=by rw[Array.getD_eq_getD_getElem?,d];rfl
  rw[e];exact .str _
 stop:=λa g i t hi=>by
  unfold Arv at hi;rw[aK,cD] at hi;exact hi
def Aut(ws us:lg W):lg W:=List.zipWith (λx y=>W.tup [x,y]) ws us
def Bdw:lg W->M Src
 |[.tup ws,.tup us]=>pure .fix[Aut ws us]
 |[.ref n,.ref m]=>λS=>match S[n]?,S[m]? with
  |some (.lst _),sr (.lst _)=>.ok (.zl n m) S
  |_,_=>.bad
 |_=>bad
def Auu(gs:De->M lg[W]):De->M Src:=λδ=>do let ws<-gs δ;Bdw ws
section
theorem Bdx(x:H a=sr .tup[d])(q:RVs Y j H f d)(w:H b=sr .tup[c])(o:RVs Y j H g c):JOk Y (Itz Y.K t8 a b) (Aut f g) j H where
 go:=λe h i p t hi=>by
  unfold Aut at hi ⊢
  rw[vL] at hi;let u:i < f.length:=aO hi (Nat.min_le_left ..);let s:i < g.length:=aO hi (pJ ..);let(B,z,E):=q.get aQ[u];let(A,y,C):=o.get aQ[s];let n:SqT Y.K h a d:=SqT.of[t.t _ _ x];let m:SqT Y.K h b c:=SqT.of[t.t _ _ w];refine((d,c,B,A,n,m,z,y),?_);rintro v O ⟨N,L,J,G,F,hp,rfl,rfl⟩;let l:=G d n;let k:=F c m;rw[z] at l;cases l;rw[y] at k;cases k;refine(Bf hp,λS r=>r.beside hp,.tup [(getElem[f][i][by get_elem_tactic]),(getElem[g][i][by get_elem_tactic])],?_,.tup An .cons[(E.mono p t).mono aP[_] Bf[hp]][.cons[(C.mono p t).mono aP[_] Bf[hp]][.nil]]);rw[uI,aQ u,aQ s]
 stop:=λe h i t hi=>by
  unfold Aut at hi;rw[vL] at hi;refine(d,c,SqT.of[t.t _ _ x],SqT.of[t.t _ _ w],?_);rw[<-q.length,<-o.length];omega
variable{kt:Nat}
nonrec def Bna(hK:X.K=Y.K)(F:X.mg "zip"=sy)(I:WA X (e::d) (tFs Y E J))(G:X.env.kindOf "zip"=sr .globalImplicit)(hs:starEach (e::d) X.env=(u6 t7 (eval e X.env))::starEach d X.env)(j:(backTo i (starEach d X.env)).any (·.1)=t7):
  WI[X][.Tuple u kt l][.Call (.Name "zip" p) (e::d) [] i][tFi Y E Auu[J]]:=by
 refine WI.weak ⟨Bik G F I.un hs j⟩ λT H Q ⟨ρ,S,δ,R,sl,q⟩=>?_;refine(ρ,S,δ,R,sl,(Aq.seq (Rel:=RVs Y) q).mono ?_);rintro k H1 ⟨v,S1,U,p1,Z,f,a,b⟩;unfold Bdw at b;rw[hK];split at b
 .rename_i xs z;cases a with|cons h a=>
  cases a with|cons g a=>
  cases a;let(_,_,rfl,s,C):=h.tI;let(_,_,rfl,r,B):=g.tI;exact(t8,_,_,_,_,rfl,SqT.of s,SqT.of r,Aq.now (Rel:=Ad9 Y) b f (Bdx s C r B))
 .rename_i n m;cases a with|cons h a=>
  cases a with|cons g a=>
  cases a;let(_,rfl,o):=h.rI;let(_,rfl,c):=g.rI;split at b
  .rename_i xs z P O;let(k,N,_):=f.at_ _ _ _ o P;let(y,L,_):=f.at_ _ _ _ c O;exact(t7,_,_,k,y,rfl,.inl .inl[N],.inl .inl[L],Io (Rel:=Ad9 Y) b f (_,_,o,c,rfl))
  .exact(show False from b).elim
 .exact(show False from b).elim
end
def Auv(K:aB)(a:aG)(D:lg[t6×t6]):Prop:=∀h,K.In h->KTD.TextTab h a (D.map λp=>(u6 p.1 qQ[.str[p.2]]))
def mdW(D:lg[t6×t6]):W->M W
 |.str k=>match D.lookup k with
  |some z=>pure .str[z]
  |none=>bad
 |_=>bad
def mdF(D:lg[t6×t6])(g:De->M W):De->M W:=λδ=>do let y<-g δ;mdW D y
theorem Afp(k:t6):∀D:lg[t6×t6],aCw k (D.map λp=>(u6 p.1 qQ[.str[p.2]]))=(D.lookup k).map λz=>qQ .str[z]
 |[]=>rfl
 |(x,z)::D=>by
  rw[cB,cY,aCw];by_cases h:k=x
  .simp_all
  .let c:(k==x)=t7:=by simpa using h
   rw[dm[by simpa using h],c,Afp k D]
section
def Bjl(m:Auv X.K A D):IxR X (λx y H Q=>x=.ref A/\∃k z,y=.str k/\D.lookup k=sr z/\Q .str[z] H):=by
 intro value slice p s n H x y v u Q I i g h hs;let(rfl,k,z,rfl,l,q):=h;obtain rfl:v=bI A:=i;let(t,rfl):=g;let T:KTD.Here s.heap s.heap A _:=(m _ I.kIn,λf f o=>o);refine aAd T.typeIs rJ.lookup ?_ hs;unfold getItem
 try with_reducible apply fW
 refine aA (rO T.typeIs () (aA (cX (name:=mX "__getitem__") T.typeIs xT (dY xT T.typeIs entry_dict_getitem ?_ (args_dict_getitem ..)))))
 show wpAny _ _ (dictGet A (.str k t) >>= _) _ _ s;refine aA[KTD.dictGet_text T (λd v e j=>aH (v,rfl,aH ?_)) λc=>?_]
 .rw[Afp,l] at e;cases e;let a:Reads s.heap v .str[z] []:=j s.heap;cases a;exact(.str z,H,I.tok _,(_,rfl),q)
 .rw[Afp,l] at c;cases c
nonrec def Bp5(o:Auv X.K A D)(l:X.mg x=sr .ref[A])(m:X.env.kindOf x=sr .globalImplicit)(hd:(x==("__debug__":t6))=t7)(n:WE X b (tF Y E g))(hs:Aed b):WE X .Subscript[.Name x p][b][j] tF[Y][E][mdF D g]:=(
 WE.weak[kix Bjl[o] (Bgs l (show RelV .ref[A] .ref[A] from rfl) m hd) n hs] λt H Q ⟨ρ,S,δ,R,sl,q⟩=>by
  refine(ρ,S,δ,R,sl,(Aq.seq (Rel:=RV Y) q).mono ?_);rintro v C ⟨d,B,w,y,u,s,i,a⟩;refine(rfl,?_);cases i <;> try exact(show False from a).elim
  rename_i k;cases c:D.lookup k with
  |none=>simp only[mdW,c] at a;exact(show False from a).elim
  |some z=>
   simp only[mdW,c] at a;exact(k,z,rfl,c,Aq.now (Rel:=RV Y) a s .str[z]))
end
section
variable{i:Nat}{cap:lg Nat}
def Bdy(Z:X.calm=t8)(hE:X.env.scope=sc)(hi:WI X l a G)(T:∀C s H ex,WG (X.comp scope own cap C s H ex) l g)(o:∀k H Q,tF Y E F k H Q->Aic G g (tFb Y E0s I) (tF Y E0s ef) own cap k H Amk[Q])(O:∀C s H ex,WTs[X.comp scope own cap C s H ex][d][tFb Y E0s I])(U:∀C s H ex,WE[X.comp scope own cap C s H ex][h][tF Y E0s ef])(f:cap.all[λj=>match X.N[j]? with|some x=>decide[scope.names.lookup x=sr .free]|none=>t7]=t8)(au:scope.kind=.function)(ak:scope.names.all[λy=>decide[y.2≠.cell]]=t8)(aq:scope.names.all[λy=>!decide (y.2=.local)||decide[scope.names.lookup y.1=sr .local]]=t8)(az:scope.names.all[λy=>!decide (y.2=.free)||(decide[sc.names.lookup y.1=sr .cell]||decide[sc.names.lookup y.1=sr .free])]=t8)(hs:∀x,foldedSetIterable a X.env x=pure x)(b:WG X (.Name y u) Xj[i])(p:swapsWith (.ListComp h [(l,a,d,0)] scope n) sr[.Name y u] c.line X.env=pure t8):
  WS X .Assign[[.Name y u]][.ListComp h [(l,a,d,0)] scope n][c] tS[Y][E][Bx i F]:=(
 WS.weak (by
   refine⟨PS.thaw <| Bca Z hE hi.un (λC s H ex=>(T C s H ex).un) (λC s H ex=>(O C s H ex).un) (λC s H ex=>(U C s H ex).un) (λj P=>?_) au (λy b=>?_) (λy b r=>?_) (λy b r=>?_) hs b.un p⟩
   .let q:=bB.mp f j P;cases e:X.N[j]? with
    |none=>rw[e] at q;cases q
    |some x=>rw[e] at q;exact(x,rfl,dg q)
   .exact dg[bB.mp ak y b]
   .let q:=bB.mp aq y b;rw[dj r] at q;exact dg q
   .let q:=bB.mp az y b;rw[dj r,pP,aBc,fV] at q;exact q.imp dg dg) λD k H ⟨ρ,S,δ,R,sl,q⟩=>by
  refine o _ _ _ (ρ,S,δ,R,sl.2,(Ds.lift (Rel:=RV Y) sl q).mono ?_);rintro v H1 ⟨z,S1,w,p1,t1,R1,m,J,L⟩;exact L.nxt R1 m.set[J])
end
def ddS:lg t6->lg t6
 |[]=>[]
 |x::xs=>if x∈xs then ddS xs else x::ddS xs
theorem Xz:∀{xs:lg t6},x∈ddS xs ↔ x∈xs
 |[]=>Iff.rfl
 |y::b=>by
  unfold ddS;by_cases h:y∈b
  .rw[di h,Xz];simp_all
  .rw[dm h,bH,bH,Xz]
theorem Vn:∀{xs:lg t6},(ddS xs).Nodup
 |[]=>List.nodup_nil
 |y::b=>by
  unfold ddS;by_cases h:y∈b
  .rw[di h];exact Vn
  .rw[dm h];exact nU.mpr (λz=>h Xz.mp[z],Vn)
def Bjm(h:InS c c.length d):Ad7 d=Ad7 ddS[c]:=(Abn Afd ((Iz d).trans ((List.perm_iff_count.mpr λa=>by
  rw[h.1.count,Vn.count];simp[propext[((h.2.1 a).trans (by rfl)).trans Xz.symm]]).trans (Iz _).symm)) M5[_] M5[_])
def Kp:lg W->M W
 |[.ref n]=>λS=>match S[n]? with
  |some (.lst ws)=>if ws.length < 64 then match Cz Amq ws with
    |some ss=>Dd ((Ad7 ddS[ss]).map W.str) S
    |none=>.bad
   else .bad
  |_=>.bad
 |_=>bad
nonrec def Bdz(n:X.calm=t8)(i:X.mg "sorted"=sy)(h:X.mg "set"=sy)(k:X.env.kindOf "sorted"=sr .globalImplicit)(j:X.env.kindOf "set"=sr .globalImplicit)(I:WA X (e::d) (tFs Y E L))(G:starEach (e::d) X.env=(u6 t7 (eval e X.env))::starEach d X.env)(g:(backTo cpos2 (starEach d X.env)).any (·.1)=t7):
  WE X (.Call (.Name "sorted" p) [.Call (.Name "set" p2) (e::d) [] cpos2] [] u) tF[Y][E][Dw Kp L]:=by
 refine WE.weak[kbi Akh[n] i (by rfl':bootBuiltins "sorted"=sr .builtin["sorted"]) ⟨Xk (Abk Axc[n] j h (by rfl':bootBuiltins "set"=sr .type["set"]) I.un () () G g) Ajw rfl⟩ k () () rfl rfl] λO H Q ⟨ρ,S,δ,R,sl,q⟩=>?_
 refine(ρ,S,δ,R,sl,(Aq.seq (Rel:=RVs Y) q).mono ?_);rintro U H1 ⟨w,S1,T,p1,Z,v,f,a⟩;unfold Kp at a;split at a
 .cases f with|cons J r=>
  cases r;let(_,rfl,F):=J.rI;split at a
  .rename_i z N;let(P,o,B):=v.at_ _ _ _ F N;split at a
   .rename_i hl;split at a
    .rename_i l t;rw[R0 Amr B t] at o;let ls:l.length=z.length:=Ams t;refine(_,l,rfl,o,(),λq C m c=>(q,C,rfl,An,by have:=c.2.2;omega,?_))
     rw[Bjm c];exact(Ja[v.beside m][Afl _][Aq.shift a aP[_] Bf[m]]).2
    .exact(show False from a).elim
   .exact(show False from a).elim
  .exact(show False from a).elim
 .exact(show False from a).elim
def orM(f g:De->M W):De->M W:=λδ S=>match f δ S with
 |.bad=>g δ S
 |r=>r
def Bjn(c:Nat):M W:=λS=>.ok[.ref S.length][S ++ [.ins c []]]
def Ax7(x v:W):M W:=match v with
 |.non=>pure x
 |_=>bad
def R7(c:Nat)(g:lg W->M W)(ws:lg W):M W:=Bjn c >>= λx=>g (x::ws) >>= λv=>Ax7 x v
structure Fi where
 g:List W->M W
 np:Nat
 dv:List W
def X3(mt:Nat->t6->o9 Fi)(m:t6)(x:W):M Fi:=match x with
 |.ref n=>λS=>match S[n]? with
  |some (.ins c fs)=>match fs.lookup m,mt c m with
   |none,sr i=>.ok i S
   |_,_=>.bad
  |_=>.bad
 |_=>bad
def Ahq(i:Fi)(x:W)(ws:lg W):M W:=if ws.length+1=i.np then i.g (x::ws) else if ws.length+1+i.dv.length=i.np then i.g (x::(ws ++ i.dv)) else bad
def Bh(mt:Nat->t6->o9 Fi)(m:t6)(f:De->M W)(gs:De->M lg[W]):De->M W:=λδ=>f δ >>= λx=>X3 mt m x >>= λi=>gs δ >>= λws=>Ahq i x ws
structure Apw(Y:Th)(X:Cx)(c:Nat)(m:t6)(i:Fi):Prop where
 ex:∃(n:Nat)(fa:aG)(fd:eN)(ps:List t6)(cm:Bool),Cls X.K (Y.cl c)/\Meth X.K (Y.cl c) m fa/\Hl X.prog X.w X.K X.mg X.base (CXo X.prog X.w) n fa fd ps (spF Y i.g) cm/\Fq n X.A cm/\Binds X.K fd ps []/\
  ∃dvs ds,Cz D.Fv i.dv=sr dvs/\Vals dvs ds/\Binds X.K fd ps ds
structure Apx(Y:Th)(X:Cx)(c:Nat)(i:Fi):Prop where
 ex:∃(n:Nat)(fa:aG)(fd:eN)(ps:List t6)(cm:Bool),Mk X.K (Y.cl c) fa/\Hl X.prog X.w X.K X.mg X.base (CXo X.prog X.w) n fa fd ps (spF Y i.g) cm/\Fq (n+1) X.A cm/\Binds X.K fd ps []/\
  ∃dvs ds,Cz D.Fv i.dv=sr dvs/\Vals dvs ds/\Binds X.K fd ps ds
section
def Bnb(l:WE X e (tF Y E f))(k:WE X e (tF Y E g))(j:∀a S,h a S=f a S\/h a S=g a S):WE X e (tF Y E h):=(⟨λi s b H Q I ⟨ρ,S,a,R,sl,q⟩=>by
 rcases j a S with z|z
 .rw[z] at q;exact l.un i s b H Q I (ρ,S,a,R,sl,q)
 .rw[z] at q;exact k.un i s b H Q I (ρ,S,a,R,sl,q)⟩)
def Bjo(c:WE X e (tF Y E f))(b:WE X e (tF Y E g)):WE X e tF[Y][E][orM f g]:=(Bnb c b λa S=>by
 unfold orM;cases f a S
 .exact .inl rfl
 .exact .inl rfl
 .exact .inr rfl)
def X4{l:CXT}{k:Nat}{f:aG}{fd:eN}{ps:lg t6}{h:Sp}{dvs vs:lg V}{d us:lg aD}{E:L2.St->XK}{j:Bool}{g:lg[aG×tu]}{c:L2.St}{H:Hp}{s:aN}{Q:VK}(F:Hl X.prog X.w X.K X.mg X.base l k f fd ps h j)(p:Fq k X.A j)(v:Binds X.K fd ps d)(hd:Vals dvs d)(o:Cm l X E)(I:Inv X g c H s)(r:Vals vs us)(q:h (vs ++ dvs) H Q E[c]):
  wpAny (model X.prog X.w) X.A (call .ref[f] us) (EP X g c Q) X.xe s:=by
 let i:=r.append hd;let t:(us ++ d).length=ps.length:=i.length ▸ F.len _ _ _ _ q;refine jX[gU[F.run X.A X.stack s H _ _ _ Q _ p I.env0 (v s us I.kIn t) i q] λr n b=>?_]
 match r,b with
 |.error e,b=>exact o g c H s e n I b
 |.ok (.ret u),b=>exact I.after b
theorem Mj:∀{dv:lg W} {a:lg V},Cz D.Fv dv=sr a->RVs Y f H dv a
 |[],_,h=>by cases h;exact .nil
 |w::e,a,h=>by
  unfold Cz at h;cases d:D.Fv w with
  |none=>simp_all
  |some v=>
   cases c:Cz D.Fv e with
   |none=>simp_all
   |some g=>rw[d,c] at h;cases h;exact .cons Arf[d] Mj[c]
def Vo{y:CXT}{k:Nat}{C f:aG}{fd:eN}{ps:lg t6}{o:Sp}{d m:lg V}{j c:lg aD}{E:L2.St->XK}{t:Bool}{n:lg[aG×tu]}{g:L2.St}{H:Hp}{s:aN}{Q:VK}(M:Mk X.K C f)(F:Hl X.prog X.w X.K X.mg X.base y k f fd ps o t)(N:Fq (k+1) X.A t)(P:Binds X.K fd ps j)(hd:Vals d j)(L:Cm y X E)(I:Inv X n g H s)(r:Vals m c)(h:∀x i,H x=sy->H i=sy->i≠x->o (.ref x::(m ++ d)) upd[upd H i .own[x]][x][.ins C i []] (λv H2=>v=.non/\Q .ref[x] H2) E[g]):
  wpAny (model X.prog X.w) X.A (call .ref[C] c) (EP X n g Q) X.xe s:=by
 let q:=h (s.heap.objs.size+1) s.heap.objs.size I.hok.fresh[fM[_]] I.hok.fresh[aM[_]] bM[gY[_]];let l:=Inv.made (C:=C) I;let p:Vals (V.ref[s.heap.objs.size+1]::(m ++ d)) (bI[s.heap.objs.size+1]::(c ++ j)):=.cons rfl r.append[hd];let O:=by
  let e:=p.length;rw[F.len _ _ _ _ q] at e;exact e.symm
 refine jX (Awj (f:=f) I.kIn M.makes M.init beq_iff_eq.mp[M.fn] (gU (F.run _ X.stack _ _ (bI[s.heap.objs.size+1]::c,[]) (bI[s.heap.objs.size+1]::(c ++ j)) _ _ E[g] (N.make C c [])
  (l.env0.make C c []) (P _ (bI[s.heap.objs.size+1]::c) l.kIn O) p q) λr B a=>?_))
 match r,a with
 |.error e,a=>exact L n g _ _ e B l a
 |.ok (.ret u),a=>
  let(v,H',Z,G,ev,J):=l.after a;subst ev;exact(G,(V.ref[s.heap.objs.size+1],H',Z,rfl,J))
def Aei{c:Nat}{g:lg W->M W}{a:lg aG}{S:Store}{H:Hp}{f:lg W}{u:lg V}{Q:VK}{F:XK}(R:Rep Y a S H)(m:RVs Y a H f u)(q:Aq Y RV[Y] a H (R7 c g f S) Q F):
  ∀x d,H x=sy->H d=sy->d≠x->spF Y g (.ref x::u) upd[upd H d .own[x]][x][.ins Y.cl[c] d []] (λv E=>v=.non/\Q .ref[x] E) F:=by
 intro x d A i ne;let h:upd H d .own[x] x=sy:=(Ah eF[ne]) ▸ A;let y:Bw a (a ++ [x]) (upd H d .own[x]) upd[upd H d .own[x]][x][.ins Y.cl[c] d []]:=Bf h;let R2:Rep Y (a ++ [x]) (S ++ [.ins c []]) _:=(R.beside i).alloc h (d,[],An,.nil);let k:=(Bf i).trans y;let n:a <+: a ++ [x]:=bK ..
 let o:(a ++ [x])[S.length]?=sr x:=R.len ▸ Kw;refine(a ++ [x],S ++ [.ins c []],.ref S.length::f,R2,.cons[.ref o][m.mono n k],?_);let q:Aq Y RV[Y] a H M.bind[g (.ref S.length::f)][λv=>Ax7 .ref[S.length] v][S ++ [.ins c []]] Q F:=q;unfold M.bind at q;cases p:g (.ref S.length::f) (S ++ [.ins c []]) with
 |bad=>rw[p] at q;exact q.elim
 |exc G B=>
  rw[p] at q;intro e t j l s;exact q e t n.trans[j] k.trans[l] s
 |ok w B=>
  rw[p] at q;intro e t v j l s z;cases w with
  |non=>
   cases z;refine(rfl,q e t .ref[x] n.trans[j] k.trans[l] s .ref[?_]);let(r,rfl):=j
   rwa [aW[by grind]]
  |_=>exact bT q
def Ax8{c:Nat}(Z:Apx Y X c i)(u:Cm (CXo X.prog X.w) X E)(N:X.mg x=sr .ref[Y.cl[c]])(U:WA X (e::d) (tFs Y E gs))(O:X.env.kindOf x=sr .globalImplicit)(j:(x==("__debug__":t6))=t7)(P:starEach (e::d) X.env=(u6 t7 (eval e X.env))::starEach d X.env)(h:(backTo b (starEach d X.env)).any (·.1)=t7)(more:Bool):
  WE[X][.Call (.Name x p) (e::d) [] b][tF Y E Dw[λf=>R7 c i.g (if more then f ++ i.dv else f)][gs]]:=(⟨λaa s B H Q I ⟨ρ,S,δ,R,sl,q⟩=>by
 let(n,fa,fd,ps,cm,M,F,v,m,dvs,ds,l,k,T):=Z.ex;refine eV[Kv I O N ?_ j];refine jC I.ok.mod.kin M.kp (thn[U.un b aa s B H _ I (ρ,S,δ,R,sl,Aq.seq q)] λus s1 ⟨vs,H1,I1,r,ρ1,S1,f,p1,t1,R1,rvs,q1⟩=>(I1.kIn,?_)) P h;cases more with
 |true=>exact Vo M F v T k u I1 r (Aei R1 rvs.append[Mj[l]] q1)
 |false=>exact Vo M F v m .nil u I1 r (by rw[bU];exact Aei R1 rvs q1)⟩)
def Arw{c:Nat}(A:Apx Y X c i)(k:Cm (CXo X.prog X.w) X E)(v:X.mg x=sr .ref[Y.cl[c]])(y:X.env.kindOf x=sr .globalImplicit)(d:(x==("__debug__":t6))=t7)(more:Bool):
  WE[X][.Call (.Name x p) [] [] u][tF Y E Dw[λa=>R7 c i.g (if more then a ++ i.dv else a)][nilF]]:=(⟨λaa s J H Q I ⟨ρ,S,δ,R,sl,q⟩=>by
 let(n,T,fd,ps,Z,M,F,l,h,B,U,f,e,z):=A.ex;refine eV[Kv I y v ?_ d];let(r,S1,a,P,N,m,b,j):=Aq.seq (Rel:=RVs Y) q ρ H [] aP[_] (Bw.refl ..) R .nil;cases b;cases more with
 |true=>exact nG I.kIn M.kp (Vo M F l z e k I .nil Aei[m][RVs.append .nil Mj[f]][j])
 |false=>exact nG I.kIn M.kp (Vo M F l h .nil k I .nil (Aei m .nil j))⟩)
def call_meth{prog:bY}{w:dO}{A:eU}{E:aD->aN->Prop}{s:aN}{env:Env}{name:t6}{b:lg bW}{Q:aD->aN->Prop}(t:attributeBase o name env (eval o env)=eval o env)(l:((backTo a (starEach b env)).all (λx=>!x.1)&&(backToKw a (keywordEach [] env)).all (λx=>x.1.isSome)&&decide[b.length+([]:lg iC).length+(if ([]:lg iC).isEmpty then 0 else 1) < 30])=t8)(u:(p.endLine==a.line)=t8)(h:wpAny (model prog w) A (eval o env) (λn f=>∀pl:Sem Bool,wpAny (model prog w) A (getMethod n name pl) (λr d=>wpAny (model prog w) A (callWith a r.1 r.2 backTo[a][starEach b env] backToKw[a][keywordEach [] env]) Q E d) E f) E s):
  wpAny (model prog w) A eval[.Call (.Attribute o name p) b [] a][env] Q E s:=by
 rw[arm_eval_Call,t];refine aA[cQ h (λn f j=>?_) λm m e=>e];refine aA iM[?_];let hform:methodCallForm ..=t8:=l;let k:methodCallPos t8 o env p a=pure a:=by unfold methodCallPos;simp[u]
 unfold methodCall;exact hform ▸ aA fW[cQ[j _][λr d i=>aA[rR k i]] λm m e=>e]
def RFs.lookN(r:RFs Y j H fs b)(f:t6)(h:fs.lookup f=sy):b.lookup f=sy:=by
 induction r with
 |nil=>rfl
 |@cons p q _ _ g r d=>
  let(c,n):=p;let(m,l):=q;let(e,k):=g;cases (e);rw[cY] at h ⊢
  by_cases a:(f==c)=t8
  .simp_all
  .rw[tG] at a;rw[a] at h ⊢;exact d h
nonrec def Am0{mt:Nat->t6->o9 Fi}{j:Type}{b:lg aG->Hp->W->j->Prop}{Q:j->Hp->Prop}(R:Rep Y d S H)(p:RV Y d H x v)(q:Aq Y b d H ((X3 mt m x >>= k) S) Q F):
  ∃a c h fs i,v=.ref a/\H a=sr[.ins Y.cl[c] h fs]/\fs.lookup m=sy/\mt c m=sr i/\Aq Y b d H (k i S) Q F:=by
 let q:Aq Y b d H M.bind[X3 mt m x][k][S] Q F:=q;unfold M.bind at q;cases p <;> try exact(show False from q).elim
 rename_i n a s _;simp only[X3] at q;cases g:S[n]? with
 |none=>rw[g] at q;exact(show False from q).elim
 |some cell=>
  rw[g] at q;cases cell with
  |lst _=>exact(show False from q).elim
  |dct _=>exact(show False from q).elim
  |dead=>exact(show False from q).elim
  |clo _ _=>exact(show False from q).elim
  |tab _=>exact(show False from q).elim
  |ins c fs=>
   let(h,o,t,r):=R.at_ _ _ _ s g;dsimp only at q;cases e:fs.lookup m with
   |some _=>rw[e] at q;exact(show False from q).elim
   |none=>
    cases f:mt c m with
    |none=>rw[e,f] at q;exact(show False from q).elim
    |some i=>
     rw[e,f] at q;refine(a,c,h,o,i,rfl,t,?_,f,q);exact r.lookN m e
def Bjp{mt:Nat->t6->o9 Fi}{m:t6}(A:∀c i,mt c m=sr i->Apw Y X c m i)(hx:Cm (CXo X.prog X.w) X E)(ho:WE X o (tF Y E f))(ha:WA X (e::g) (tFs Y E gs))(bc:attributeBase o m X.env (eval o X.env)=eval o X.env)(p:((backTo b (starEach (e::g) X.env)).all (λx=>!x.1)&&(backToKw b (keywordEach [] X.env)).all (λx=>x.1.isSome)&&decide[(e::g).length+([]:lg iC).length+(if ([]:lg iC).isEmpty then 0 else 1) < 30])=t8)(ao:(aj.endLine==b.line)=t8)(he:starEach (e::g) X.env=(u6 t7 (eval e X.env))::starEach g X.env)(z:(backTo b (starEach g X.env)).any (·.1)=t7):
  WE X (.Call (.Attribute o m aj) (e::g) [] b) tF[Y][E][Bh mt m f gs]:=(⟨λaa s O H Q I ⟨ρ,S,δ,R,sl,q⟩=>by
 refine call_meth bc p ao (thn (ho.un aa s O H _ I (ρ,S,δ,R,sl,Aq.seq (Rel:=RV Y) q)) λu s1 ⟨x,H1,I1,rx,ρ1,S1,w,p1,t1,R1,rv,q1⟩ pl=>?_);let(a,c,dx,fs,i,rfl,ea,l,hi,q2):=Am0 R1 rv q1;obtain rfl:u=bI a:=rx;let(n,fa,fd,ps,cm,C,hm,F,hr,J,dvs,ds,G,B,hb):=(A c i hi).ex;apply Ae2 I1 ea C hm l;refine jC (first:=[.ref a]) (h₀:=X.base) I.ok.mod.kin hm.kp (thn (ha.un b aa s1 O H1 _ I1 (ρ1,S1,δ,R1,sl.mono p1 t1,Aq.seq (Rel:=RVs Y) q2)) λus s2 ⟨vs,H2,I2,r,ρ2,S2,ws,p2,t2,R2,rvs,q3⟩=>(I2.kIn,?_)) he z
 unfold Ahq at q3;split at q3
 .exact X4 (us:=.ref a::us) (vs:=.ref a::vs) (dvs:=[]) F hr J .nil hx I2 (.cons rfl r) (ρ2,S2,w::ws,R2,by rw[bU];exact .cons (rv.mono p2 t2) rvs,q3)
 .split at q3
  .exact X4 (us:=.ref a::us) (vs:=.ref a::vs) F hr hb B hx I2 (.cons rfl r) (ρ2,S2,w::(ws ++ i.dv),R2,.cons[rv.mono p2 t2][rvs.append Mj[G]],q3)
  trivial⟩)
def Bd0{mt:Nat->t6->o9 Fi}{m:t6}(r:∀c i,mt c m=sr i->Apw Y X c m i)(G:Cm (CXo X.prog X.w) X E)(ho:WE X o (tF Y E f))(bc:attributeBase o m X.env (eval o X.env)=eval o X.env)(ao:(aj.endLine==g.line)=t8):
  WE X (.Call (.Attribute o m aj) [] [] g) tF[Y][E][Bh mt m f nilF]:=(⟨λaa s P H Q I ⟨ρ,S,δ,R,sl,q⟩=>by
 refine call_meth bc (by rfl) ao (thn (ho.un aa s P H _ I (ρ,S,δ,R,sl,Aq.seq (Rel:=RV Y) q)) λu s1 ⟨x,H1,I1,rx,ρ1,S1,w,p1,t1,R1,rv,q1⟩ pl=>?_)
 let(a,c,dx,fs,i,rfl,ea,l,hi,q2):=Am0 R1 rv q1;obtain rfl:u=bI a:=rx;let(n,fa,fd,ps,cm,C,L,F,J,y,dvs,ds,v,t,hb):=(r c i hi).ex;apply Ae2 I1 ea C L l;let(b,N,ws,B,A,R2,k,d):=Aq.seq (Rel:=RVs Y) q2 ρ1 H1 [] aP[_] (Bw.refl ..) R1 .nil;cases k;apply nG I1.kIn L.kp;unfold Ahq at d;split at d
 .exact X4 (us:=[.ref a]) (vs:=[.ref a]) (dvs:=[]) F J y .nil G I1 (.cons rfl .nil) (b,N,[w],R2,.cons (rv.mono B A) .nil,d)
 .split at d
  .exact X4 (us:=[.ref a]) (vs:=[.ref a]) F J hb t G I1 (.cons rfl .nil) (b,N,w::i.dv,R2,.cons[rv.mono B A][Mj v],d)
  trivial⟩)
end
def noStar:bW->Bool
 |.Starred _ _=>t7
 |_=>t8
def Aip:bW->Bool
 |.Set _ _ _=>t7
 |_=>t8
def Akq:bW->Bool
 |.ListComp _ _ _ _=>t7
 |.SetComp _ _ _ _=>t7
 |.DictComp _ _ _ _ _=>t7
 |_=>t8
def Apy:bW->Bool
 |.Call (.Name id _) [] [] _=>id != "super"
 |_=>t8
def isCall:bW->Bool
 |.Call _ _ _ _=>t8
 |_=>t7
def Arx:bW->Bool
 |.Slice _ _ _ _=>t7
 |_=>t8
def plainT:bW->Bool
 |.UnaryOp .Not _ _=>t7
 |.BoolOp _ _ _=>t7
 |.IfExp _ _ _ _=>t7
 |.Compare _ _ _ _=>t7
 |_=>t8
section
def Jc(h:noStar a=t8):starEach (a::c) env=(u6 t7 (eval a env))::starEach c env:=by
 cases a <;> first|rfl|cases h
theorem Gj:∀{a:lg bW},a.all noStar=t8->(backTo c (starEach a env)).any (·.1)=t7
 |[],_=>rfl
 |e::a,h=>by
  rw[eX,aL] at h;rw[Jc h.1];exact Gj h.2
theorem Am1:∀{a:lg bW},a.all noStar=t8->(backTo c (starEach a env)).all (λx=>!x.1)=t8
 |[],_=>rfl
 |e::a,h=>by
  rw[eX,aL] at h;rw[Jc h.1];exact Am1 h.2
def Aej(h:Aip a=t8):∀x,foldedSetIterable a env x=pure x:=(λx=>by
 cases a <;> first|rfl|cases h)
def X5(h:Aip b=t8):behindInMarks a b=t7:=by
 cases b <;> first|rfl|cases h
def Ary{n:Nat}(h:Akq a=t8):swapsWith a t n env=pure t7:=by
 cases a <;> first|rfl|cases h
nonrec def Aek(h:Apy a=t8):attributeBase a x env (eval a env)=eval a env:=by
 unfold attributeBase;split
 .rename_i id p c;let e:(id != ("super":t6))=t8:=h;rw[di (by rw[e];rfl)]
 .rfl
def Bg3(h:Arx b=t8):Aed b:=by
 cases b <;> first|exact λa a=>rfl|cases h
nonrec def Arz(h:plainT a=t8):∀whole,isTrue a env whole=(do let v<-whole;standAt a.pos;holding [v] truthy[v]):=(λw=>by
 cases a <;> first|rfl|cases h|skip
 rename_i b o p;cases b <;> first|rfl|cases h)
end
def Afq(x:t6):lg t6->o9 Nat
 |[]=>sy
 |y::ys=>if y=x then sr 0 else (Afq x ys).map (·+1)
theorem X6:∀{l:lg t6} {i:Nat},Afq x l=sr i->l[i]?=sr x
 |[],_,h=>by cases h
 |y::f,i,h=>by
  unfold Afq at h;split at h
  .rename_i e;cases h;subst e;rfl
  .let(j,b,rfl):=bG.mp h;simpa using X6 b
structure Gm where
 N:List t6
 sc:iV
 fn:t6->Option Fi
 con:t6->Option W
 bi:t6->Bool
 exc:t6->Option Nat
 isa:Nat->W->Option Bool
 fld:Bool->Nat->t6->Bool
 calm:Bool
 fnB:Bool
 rs:Bool
 mdc:t6->Option (List (t6×t6))
 exi:t6->Option (Nat×List W)
 hcl:t6->Option Nat
 exm:Nat->Nat->Bool
 exn:Nat->Nat->Bool
 loops:Bool
 tr:Bool
 mt:Nat->t6->Option Fi
 mn:t6->Bool
 mkc:t6->Option (Nat×Fi)
 mkr:Option (Nat×t6)
 lam:Option (Lm->List W->M W)
 fnq:t6->Option Fi
structure Gm.Ok(Y:Th)(Γ:Gm)(X:Cx)(E:L2.St->XK):Prop where
 hK:X.K=Y.K
 hu:X.A.units+64 < cLine
 N:X.N=Γ.N
 nd:X.N.Nodup
 sc:X.env.scope=Γ.sc
 fn:∀x i,Γ.fn x=sr i->∃(n:Nat)(fa:aG)(fd:eN)(ps:List t6)(df:cF)(cm:Bool),M4 X.K X.mg x df ps fa fd/\Hl X.prog X.w X.K X.mg X.base (CXo X.prog X.w) n fa fd ps (spF Y i.g) cm/\Fq n X.A cm/\
  ∃dvs ds,Cz D.Fv i.dv=sr dvs/\Vals dvs ds/\Binds X.K fd ps ds
 ps:Cm (CXo X.prog X.w) X E
 px:Γ.loops=t8->X.stack=X.env::X.outer/\X.env.frame=sr X.env.locals/\X.ex=[]/\Xl X E
 con:∀x w,Γ.con x=sr w->∃v u,(∀ρ H,RV Y ρ H w v)/\RelV v u/\(X.mg x=sr u\/(X.mg x=sy/\bootBuiltins x=sr u))
 bi:∀x,Γ.bi x=t8->X.mg x=sy
 fld:FOk Y Γ.fld
 isa:Amy Y Γ.isa
 calm:Γ.calm=t8->X.calm=t8
 fnB:Γ.fnB=t8->∀x,X.fn x=t8
 mdc:∀x D,Γ.mdc x=sr D->∃a,Auv X.K a D/\X.mg x=sr (.ref a)
 mt:∀c m i,Γ.mt c m=sr i->Apw Y X c m i
 mkc:∀x c i,Γ.mkc x=sr (u6 c i)->X.mg x=sr (.ref (Y.cl c))/\Apx Y X c i
 mkr:∀j q,Γ.mkr=sr (u6 j q)->Maker Y X j/\X.env.qual ++ "<lambda>"=q
 lam:∀L,Γ.lam=sr L->∀l,Ph l->∃n,Xu Y X.prog X.w X.K X.mg X.base n l (L l)/\Fq n X.A t8
 fnq:∀x i,Γ.fnq x=sr i->∃(n:Nat)(fa:aG)(fd:eN)(ps:List t6)(df:cF),M4 X.K X.mg x df ps fa fd/\Hl X.prog X.w X.K X.mg X.base (CXo X.prog X.w) n fa fd ps (spF Y i.g) t7/\Fq n X.A t7/\
  ∃dvs ds,Cz D.Fv i.dv=sr dvs/\Vals dvs ds/\Binds X.K fd ps ds
structure Rd where
 val:De->M W
 tst:De->M Bool
 base:De->M W
 lo:De->M (Option Int)
 hi:De->M (Option Int)
 src:De->M Src
 srcT:De->M Src
 sv:De->M (List W)
def Dv{α:Type}:De->M α:=λuw=>bad
def Rd.no:Rd:=(Dv,Dv,Dv,Dv,Dv,Dv,Dv,Dv)
def Rd.of(f:De->M W):Rd:=(f,Dl f,Dv,Dv,Dv,Iu f,Iu f,Dv)
structure Mz(Y:Th)(X:Cx)(E:L2.St->XK)(e:bW)(r:Rd):Prop where
 val:WE X e (tF Y E r.val)
 tst:WT X e (tFb Y E r.tst)
 base:∀o n p,e=.Attribute o n p->WE X o (tF Y E r.base)
 lo:∀lo hi p,e=.Slice lo hi sy p->WO X lo (tFo Y E r.lo)
 hi:∀lo hi p,e=.Slice lo hi sy p->WO X hi (tFo Y E r.hi)
 src:∀tg,WI X tg e (tFi Y E r.src)
 srcT:∀es k p,WI X (.Tuple es k p) e (tFi Y E r.srcT)
 sv:∀f es kws p,e=.Call f es kws p->WA X es (tFs Y E r.sv)
inductive Hv(Y:Th)(X:Cx)(E:L2.St->XK):List bW->List Rd->Prop
 |nil:Hv Y X E [] []
 |cons {e:bW} {es:List bW} {r:Rd} {rs:List Rd}:Mz Y X E e r->Hv Y X E es rs->Hv Y X E (e::es) (r::rs)
section
def Ce:WE X e (tF Y E Dv):=⟨λ_ _ _ _ _ _ ⟨_,_,_,_,_,q⟩=>bT q⟩
def Apz:WT X e (tFb Y E Dv):=⟨λ_ _ _ _ _ _ ⟨_,_,_,_,_,q⟩=>bT q⟩
def Ax9:WW X e (tFb Y E Dv):=⟨λ_ _ _ _ _ _ _ ⟨_,_,_,_,_,q⟩=>bT q⟩
def R8:WO X u (tFo Y E Dv):=⟨λ_ _ _ _ _ _ ⟨_,_,_,_,_,q⟩=>bT q⟩
def Afr:WI X tg e (tFi Y E Dv):=⟨λ_ _ _ _ _ _ ⟨_,_,_,_,_,q⟩=>bT q⟩
def Afs:WA X es (tFs Y E Dv):=⟨λ_ _ _ _ _ _ _ ⟨_,_,_,_,_,q⟩=>bT q⟩
def Jd:Mz Y X E e Rd.no:=(Ce,Apz,λuw uw uw uw=>Ce,λuw uw uw uw=>R8,λuw uw uw uw=>R8,λuw=>Afr,λuw uw uw=>Afr,λuw uw uw uw uw=>Afs)
def N8(hK:X.K=Y.K)(h:WE X e (tF Y E f))(b:plainT e=t8):Mz Y X E e Rd.of[f]:=by
 exact(h,Axz h Arz[b],λa a a a=>Ce,λa a a a=>R8,λa a a a=>R8,λa=>Amu hK h,λa a a=>Amu hK h,λa a a a a=>Afs)
def Vp(hK:X.K=Y.K)(h:WE X e (tF Y E f))(b:WT X e (tFb Y E t)):Mz Y X E e { Rd.of f with tst:=t }:=by
 exact(h,b,λa a a a=>Ce,λa a a a=>R8,λa a a a=>R8,λa=>Amu hK h,λa a a=>Amu hK h,λa a a a a=>Afs)
def vals:lg Rd->De->M lg[W]
 |[]=>nilF
 |r::rs=>Eo r.val vals[rs]
theorem Kz:∀{b:lg bW} {rs:lg Rd},Hv Y X E b rs->b.all noStar=t8->WA X b (tFs Y E vals[rs])
 |_,_,.nil,_=>WA.weak ⟨Ajw⟩ λc H Q ⟨d,S,e,R,f,q⟩=>q.now R .nil
 |_,_,.cons h r,hs=>by
  rw[eX,aL] at hs;exact Bir h.val (Kz r hs.2) Jc[hs.1]
def Aya:Const->De->M W
 |.int i=>kF .int[i]
 |.bool b=>kF .bl[b]
 |.none=>kF .non
 |.str x=>kF .str[x]
 |_=>Dv
def Ayb{j:Nat}:WE[X][.Constant v j b][tF Y E Aya[v]]:=by
 cases v <;> first|exact Ce|skip
 .exact Aki rfl ⟨λa a a H a I h=>aBe (.non,H,I,rfl,h)⟩
 .exact Aki rfl ⟨Bli⟩
 .exact Aki rfl ⟨Awc⟩
 .exact Aki rfl ⟨Bhl⟩
def Ar0(Γ:Gm)(x:t6):De->M W:=if x==("__debug__":t6)||x==("__classdict__":t6)||decide[x=("__name__":t6)] then Dv else
 match Γ.sc.names.lookup x with
 |some .globalImplicit=>match Γ.con x with
  |some w=>kF w
  |none=>Dv
 |_=>match Afq x Γ.N with
  |some i=>if Api Γ.sc x then Aa i else Dv
  |none=>Dv
def Ar1(G:j.Ok Y X E):WE X (.Name x k) tF[Y][E][Ar0 j x]:=by
 unfold Ar0;split
 .exact Ce
 rename_i g;rw[fV,fV,not_or,not_or] at g;let((c,f),n):=g;let c:=jR.mpr c;let f:=jR.mpr f;split
 .rename_i o;split
  .rename_i w l;let(v,u,d,r,a):=G.con x w l;let b:X.env.kindOf x=sr .globalImplicit:=by show X.env.scope.names.lookup x=_;rwa [G.sc]
   rcases a with a|⟨a,m⟩
   .exact Ax4 d (Bgs a r b c)
   .exact Ax4 d (⟨λe e e H e I h=>Abg I b a m (v,H,I,r,h) of_decide_eq_false[jR.mpr[n]] c⟩)
  .exact Ce
 .split
  .rename_i i hi;split
   .rename_i d;exact Bmx kv[i][G.N ▸ X6 hi][G.sc ▸ d][c][f]
   .exact Ce
  .exact Ce
def Bjq(op:aCu)(a b:Rd):De->M W:=match Bop.of op with
 |some o=>Bb o a.val b.val
 |none=>Dv
nonrec def Bjr{d:Gm}{c:aCu}{r s:Rd}(G:d.Ok Y X E)(h:Mz Y X E a r)(g:Mz Y X E b s):WE X (.BinOp a c b e) tF[Y][E][Bjq c r s]:=by
 unfold Bjq;split
 .rename_i o f;exact Bmw G.hK f h.val g.val
 .exact Ce
def Aft(f:De->M W):De->M W:=λδ=>do let x<-f δ;match x with
 |.int i=>pure .int[-i]
 |_=>bad
def unR(op:UnaryOp)(r:Rd):Rd:=match op with
 |.Not=>{ Rd.of Biq[r.val] with tst:=Jk r.tst }
 |.USub=>Rd.of Aft[r.val]
 |_=>Rd.no
def Bnc{A:Gm}{p:UnaryOp}{r:Rd}(G:A.Ok Y X E)(t:Mz Y X E a r):Mz Y X E (.UnaryOp p a J) (unR p r):=by
 cases p
 .exact Jd
 .exact Vp G.hK (WE.weak knot[t.val] λf H Q ⟨ρ,S,δ,R,sl,q⟩=>by
 refine(ρ,S,δ,R,sl,(Aq.seq (Rel:=RV Y) q).mono ?_);rintro v g ⟨i,z,w,y,u,m,o,e⟩;let(b,rfl,F):=Akj o e;exact(b,rfl,F.now m .bl[_])) (WT.weak[⟨λn s f H Q I h=>isTrue_not[thn[t.tst.un n s f H (λc g=>Q (!c) g) I h] λ_ _ ⟨a,b,c⟩=>(a,b,c)]⟩] λf H Q ⟨ρ,S,δ,R,sl,q⟩=>by
 refine(ρ,S,δ,R,sl,(Aq.seq (Rel:=λd d a b=>a=b) q).mono ?_);rintro v g ⟨i,z,w,y,u,m,rfl,e⟩;exact Aq.now (Rel:=λd d a b=>a=b) e m rfl)
 .exact Jd
 .exact N8 G.hK (WE.weak[⟨λn s f H Q I h=>UnaryOp_[thn[t.val.un n s f H _ I h] λv B ⟨x,g,I1,r1,e⟩=>(unI λd d d d d q=>neg_int q) n B f g x v Q I1 r1 e]⟩] λf H Q ⟨ρ,S,δ,R,sl,q⟩=>by
 refine(ρ,S,δ,R,sl,(Aq.seq (Rel:=RV Y) q).mono ?_);rintro v g ⟨i,z,w,y,u,m,o,e⟩;cases o <;> first|exact bT e|skip
 exact(_,rfl,e.now m .int[_])) rfl
def Bjs:lg Rd->De->M W
 |[]=>Dv
 |[r]=>r.val
 |r::s::rs=>Jj r.val (Bjs (s::rs))
def Ayc:lg Rd->De->M Bool
 |[]=>Dv
 |[r]=>r.tst
 |r::s::rs=>Bdq r.tst (Ayc (s::rs))
def Bjt:lg Rd->De->M Bool
 |[]=>Dv
 |[r]=>r.tst
 |r::s::rs=>orT r.tst (Bjt (s::rs))
theorem Ar2:∀{g:lg bW} {rs:lg Rd},Hv Y X E g rs->WE X (.BoolOp .And g n) (tF Y E Bjs[rs])
 |_,_,.nil=>Ce
 |_,_,.cons h .nil=>Bpb h.val
 |_,_,.cons h (.cons p r)=>(WE.weak[Bpa h.val Ar2[.cons p r]] λu H Q ⟨j,S,d,R,e,q⟩=>by
 refine(j,S,d,R,e,(Aq.seq (Rel:=RV Y) q).mono ?_);rintro v x ⟨c,s,w,o,k,i,l,m⟩;let(b,rfl,f):=Akj l m;refine(b,rfl,?_);cases b with
 |true=>exact L2.Apd (c,s,d,i,e.mono o k,f)
 |false=>exact L2.Aty[f.now i .bl[_]])
theorem Am2:∀{j:lg bW} {rs:lg Rd},Hv Y X E j rs->WW X (.BoolOp .And j n) (tFb Y E Ayc[rs])
 |_,_,.nil=>Ax9
 |_,_,.cons h .nil=>Bmb h.tst
 |_,_,.cons h (.cons p r)=>(WW.weak[Bpe h.tst Am2[.cons p r]] λu H Q ⟨l,S,f,R,g,q⟩=>by
 refine(l,S,f,R,g,(Aq.seq (Rel:=λe e a b=>a=b) q).mono ?_);rintro v x ⟨d,s,w,o,m,k,rfl,i⟩;cases w with
 |true=>exact L2.Apd (d,s,f,k,g.mono o m,i)
 |false=>exact L2.Aty (Aq.now (Rel:=λe e a b=>a=b) i k rfl))
theorem Ar3:∀{j:lg bW} {rs:lg Rd},Hv Y X E j rs->WW X (.BoolOp .Or j n) (tFb Y E Bjt[rs])
 |_,_,.nil=>Ax9
 |_,_,.cons h .nil=>Bpf h.tst
 |_,_,.cons h (.cons p r)=>(WW.weak[tor h.tst Ar3[.cons p r]] λu H Q ⟨l,S,f,R,g,q⟩=>by
 refine(l,S,f,R,g,(Aq.seq (Rel:=λe e a b=>a=b) q).mono ?_);rintro v x ⟨d,s,w,o,m,k,rfl,i⟩;cases w with
 |true=>exact L2.Apd (Aq.now (Rel:=λe e a b=>a=b) i k rfl)
 |false=>exact L2.Aty (d,s,f,k,g.mono o m,i))
def Bg4(op:BoolOp)(rs:lg Rd):Rd:=match op with
 |.And=>{ Rd.of Bjs[rs] with tst:=Ayc rs }
 |.Or=>{ Rd.of Dv with tst:=Bjt rs }
def Bd1{c:Gm}{a:BoolOp}{rs:lg Rd}(G:c.Ok Y X E)(h:Hv Y X E e rs):Mz Y X E (.BoolOp a e d) (Bg4 a rs):=by
 cases a
 .exact Vp G.hK Ar2[h] tw[Am2[h]]
 .exact Vp G.hK Ce tw[Ar3[h]]
def Bju(ops:lg vW)(bs:lg bW)(r:Rd)(rs:lg Rd):Rd:=match ops,bs,rs with
 |[op],[b],[s]=>if Aip b then { Rd.of[Ea op r.val s.val] with tst:=Dl[Ea op r.val s.val] } else Rd.no
 |[op,op'],[_,c],[s,t]=>if Aip c then { Rd.of[Ql op op' r.val s.val t.val] with tst:=Dl[Ql op op' r.val s.val t.val] } else Rd.no
 |_,_,_=>Rd.no
nonrec def Bjv{L:Gm}{f:lg vW}{r:Rd}{rs:lg Rd}(G:L.Ok Y X E)(w:Mz Y X E a r)(h:Hv Y X E J rs):Mz Y X E (.Compare a f J pos) (Bju f J r rs):=by
 unfold Bju;split
 .rename_i i b s;cases h with|cons m _=>
  split
  .rename_i l;exact Vp G.hK (by
     obtain⟨o⟩:=Aui Y X G.hK G.hu i;exact WE.weak (⟨by
      intro n s d H Q I h;exact wpAny_Compare1[Bhr w.val.un m.val.un I h λv u A x y C B P O q=>o.ok n A d C x y v u Q B P O q][X5 l]⟩) Q9[o.by_]) (by
        obtain⟨o⟩:=Aui Y X G.hK G.hu i;exact Aps Q9[o.by_] (⟨by
         intro n s d H Q I h;refine wpAny_isTrue_Compare1 (thn[w.val.un n s d H _ I h] λv N ⟨x,H1,I1,r1,q1⟩=>thn[m.val.un n N d H1 _ I1 q1] λu A ⟨y,C,B,r2,q2⟩=>
          thn[o.ok n A d C x y v u _ B r1 r2 q2] λc s3 ⟨z,H3,I3,r3,k,e,q3⟩=>?_) X5[l]
         subst e;cases r3;exact iB (H3,I3,q3)⟩))
  .exact Jd
 .rename_i i g b c s t;cases h with|cons m h=>
  cases h with|cons F _=>
  split
  .rename_i l;exact Vp G.hK (by
     obtain⟨o⟩:=Aui Y X G.hK G.hu i;obtain⟨j⟩:=Aui Y X G.hK G.hu g;exact WE.weak[⟨Awf o.ok j.ok w.val.un m.val.un F.val.un X5[l]⟩][Ain o j]) (by
       obtain⟨o⟩:=Aui Y X G.hK G.hu i;obtain⟨j⟩:=Aui Y X G.hK G.hu g;exact Aps[Ain o j][⟨Awg o.ok j.ok w.val.un m.val.un F.val.un X5[l]⟩])
  .exact Jd
 .exact Jd
def Bjw(es:lg bW)(rs:lg Rd):De->M W:=if es.all noStar then Gs vals[rs] else Dv
def Bjx(es:lg bW)(rs:lg Rd):De->M W:=if es.all noStar then Ez vals[rs] else Dv
def Bjy{j:Nat}(h:Hv Y X E a rs):WE X (.Tuple a j b) tF[Y][E][Bjw a rs]:=by
 unfold Bjw;split
 .rename_i hs;exact Bmy[Kz h hs]
 .exact Ce
def Bjz(h:Hv Y X E a rs):WE X (.List a b) tF[Y][E][Bjx a rs]:=by
 unfold Bjx;split
 .rename_i hs;exact Bmz[Kz h hs]
 .exact Ce
def Ar4:lg o9[Rd]->lg Rd->o9 lg[(De->M W)×(De->M W)]
 |[],[]=>sr []
 |some k::ks,v::vs=>(Ar4 ks vs).map ((u6 k.val v.val)::·)
 |_,_=>sy
def Ayd(ks:lg o9[Rd])(vs:lg Rd):De->M W:=match Ar4 ks vs with
 |some l=>if decide[l.length<=15] then Acj l else Dv
 |none=>Dv
inductive R9(Y:Th)(X:Cx)(E:L2.St->XK):List (Option bW)->List (Option Rd)->Prop
 |nil:R9 Y X E [] []
 |none {es:List (Option bW)} {rs:List (Option Rd)}:R9 Y X E es rs->R9 Y X E (sy::es) (sy::rs)
 |some {e:bW} {r:Rd} {es:List (Option bW)} {rs:List (Option Rd)}:Mz Y X E e r->R9 Y X E es rs->R9 Y X E (sr e::es) (sr r::rs)
theorem Am3:∀{b:lg o9[bW]} {e:lg bW} {d:lg o9[Rd]} {c:lg Rd} {l:lg[(De->M W)×(De->M W)]},R9 Y X E b d->Hv Y X E e c->Ar4 d c=Option.some l->
  WPs X pos b e (l.map λp=>(u6[tF Y E p.1][tF Y E p.2]))/\b.all (·.isSome)=t8/\b.length=e.length/\l.length=b.length
 |_,_,_,_,l,.nil,.nil,h=>by cases h;exact(⟨λr s k H Q I h=>pairTrees_nil_walk ([],H,I,.nil,h)⟩,rfl,rfl,rfl)
 |_,_,_,_,l,.nil,.cons ..,h=>by cases h
 |_,_,_,_,l,.none _,_,h=>by trivial
 |_,_,_,_,l,.some ..,.nil,h=>by cases h
 |_,_,_,_,l,.some i d,.cons g c,h=>by
  unfold Ar4 at h;let(q,j,rfl):=bG.mp h;let(f,o,n,m):=Am3 d c j;exact(Bcg i.val g.val f,by trivial,by simp_all,by simp_all)
nonrec def Bd2(o:R9 Y X E a g)(m:Hv Y X E c f):WE X (.Dict a c pos) tF[Y][E][Ayd g f]:=by
 unfold Ayd;split
 .rename_i l n;let(j,i,h,d):=Am3 (pos:=pos) o m n;split
  .rename_i b;cases a with
   |nil=>
    cases c with
    |nil=>
     cases l with
     |nil=>exact Bje
     |cons p l=>trivial
    |cons e c=>trivial
   |cons k a=>exact Bjf j i h () (by rw[<-d];exact dg b) d
  .exact Ce
 .exact Ce
def Bnd(Γ:Gm):bW->o9 lg[t6×t6]
 |.Name x _=>if !(x==("__debug__":t6))&&decide[Γ.sc.names.lookup x=sr .globalImplicit] then Γ.mdc x else sy
 |_=>sy
def subV(Γ:Gm)(a i:bW)(o r:Rd):De->M W:=match Bnd Γ a with
 |some D=>if Arx i then mdF D r.val else Dv
 |none=>match i with
  |.Slice _ _ sy _=>slF o.val r.lo r.hi
  |.Slice _ _ (sr _) _=>Dv
  |_=>ixF o.val r.val
nonrec def Bj0(G:g.Ok Y X E)(f:Mz Y X E a r)(d:Mz Y X E b s):WE X (.Subscript a b h) tF[Y][E][subV g a b r s]:=by
 unfold subV;split
 .rename_i D c;split
  .rename_i k;unfold Bnd at c;split at c
   .split at c
    .rename_i e;rw[aL] at e;let(A,m,l):=G.mdc _ D c;exact Bp5 m l (by show X.env.scope.names.lookup _=_;rw[G.sc];exact dg e.2) (by simpa using e.1) d.val Bg3[k]
    .cases c
   .cases c
  .exact Ce
 split
 .exact Bc7 G.hK f.val (d.lo _ _ _ rfl) (d.hi _ _ _ rfl)
 .exact Ce
 .rename_i j i;refine Bpr G.hK G.hu f.val d.val Bg3[?_];cases b <;> first|rfl|skip
  rename_i lo hi st p;cases st
  .exact(j _ _ _ rfl).elim
  .exact(i _ _ _ _ rfl).elim
def Aye:o9 Rd->De->M o9[Int]
 |none=>Cv
 |some r=>Dj r.val
def Bj1(Γ:Gm)(o:bW)(f:t6)(r:Rd):De->M W:=if Apy o then Ih Γ.fld f r.val else Dv
def Bj2(G:a.Ok Y X E)(c:Mz Y X E o r):WE X (.Attribute o f b) tF[Y][E][Bj1 a o f r]:=by
 unfold Bj1;split
 .rename_i h;exact Bm7 G.hK G.fld c.val Aek[h]
 .exact Ce
end
section
def Bd3{n:Nat}(D:M4 X.K X.mg x df ps G fd)(F:Hl X.prog X.w X.K X.mg X.base CX n G fd ps (spF Y s) J)(u:Fq n X.A J)(r:Cm CX X E)(t:Cz _root_.D.Fv dv=sr h)(hd:Vals h I)(z:Binds X.K fd ps I)(B:WA X (a::b) (tFs Y E C))(v:X.env.kindOf x=sr .globalImplicit)(g:(x==("__debug__":t6))=t7)(y:starEach (a::b) X.env=(u6 t7 (eval a X.env))::starEach b X.env)(f:(backTo e (starEach b X.env)).any (·.1)=t7):
  WE[X][.Call (.Name x p) (a::b) [] e][tF Y E Dw[λi=>s[i ++ dv]][C]]:=(WE.weak ⟨Amb F u v D.gl D.fn.kp z hd r B.un g y f⟩ λU H Q ⟨ρ,S,δ,R,sl,q⟩=>by
 refine(ρ,S,δ,R,sl,(Aq.seq q).mono ?_);rintro Z H1 ⟨c,N,i,p1,t1,O,d,o⟩;exact(c,N,_,O,d.append Mj[t],o))
def Am4{n:Nat}(D:M4 X.K X.mg x P ps o fd)(F:Hl X.prog X.w X.K X.mg X.base CX n o fd ps (spF Y s) t)(k:Fq n X.A t)(i:Cm CX X E)(j:Cz _root_.D.Fv dv=sr d)(hd:Vals d r)(m:Binds X.K fd ps r)(l:X.env.kindOf x=sr .globalImplicit)(c:(x==("__debug__":t6))=t7):
  WE[X][.Call (.Name x p) [] [] h][tF Y E Dw[λe=>s[e ++ dv]][nilF]]:=(⟨λT N C H Q I ⟨ρ,S,δ,R,sl,q⟩=>by
 refine eV[Kv I l D.gl ?_ c];refine nG I.kIn D.fn.kp (X4 F k m hd i I .nil ?_);let(a,v,e,O,J,y,b,g):=Aq.seq (Rel:=RVs Y) q ρ H [] aP[_] (Bw.refl ..) R .nil;cases b;exact(a,v,dv,y,Mj j,g)⟩)
def Bd4(Γ:Gm)(name:t6)(old:o9[De->M W])(f:De->M W)(gs:De->M lg[W]):De->M W:=match Γ.mn name,old with
 |true,sr g=>orM g (Bh Γ.mt name f gs)
 |true,sy=>Bh Γ.mt name f gs
 |false,sr g=>g
 |false,sy=>Dv
def Ar5(b:∀g,a=sr g->WE X e (tF Y E g))(d:WE X e tF[Y][E][Bh c.mt name h f]):WE X e tF[Y][E][Bd4 c name a h f]:=by
 unfold Bd4;split
 .exact Bjo (b _ rfl) d
 .omega
 .exact b _ rfl
 .exact Ce
def Bg5(i:Fi)(c:Nat)(k:Nat)(gs:De->M lg[W]):De->M W:=if k+1=i.np then Dw (λws=>R7 c i.g ws) gs else if k+1+i.dv.length=i.np then Dw (λws=>R7 c i.g (ws ++ i.dv)) gs else Dv
def notName:bW->Bool
 |.Name _ _=>t7
 |_=>t8
def Ayf(Γ:Gm)(f:bW)(fr:Rd)(args:lg bW)(ars:lg Rd)(kws:lg iC)(cpos:Pos):De->M W:=
 match kws with
 |_::_=>Dv
 |[]=>if !args.all noStar then Dv else match f with
  |.Name x _=>if x==("__debug__":t6)||decide[x=("__name__":t6)]||!decide (Γ.sc.names.lookup x=sr .globalImplicit) then Dv else
   match Γ.fn x with
   |some i=>if args.length=i.np then Dw i.g vals[ars] else if args.length+i.dv.length=i.np then Dw[λws=>i.g[ws ++ i.dv]][vals ars] else Dv
   |none=>match Γ.mkc x with
   |some (c,i)=>Bg5 i c args.length vals[ars]
   |none=>if Γ.bi x&&!args.isEmpty then if x="isinstance" then Dw Jl[Γ.isa] vals[ars] else match Bc8 x with
     |some g=>if Γ.calm then Dw g vals[ars] else Dv
     |none=>match Bc9 x with
      |some g=>if Γ.calm then Dw g vals[ars] else Dv
      |none=>Dv
    else Dv
  |.Attribute o name aj=>if Apy o&&(aj.endLine==cpos.line) then
    match args with
    |[]=>Bd4 Γ name sy fr.base nilF
    |_::_=>if decide[args.length < 30] then Bd4 Γ name ((Bdo notName[o] name).map λp=>Lp p.1 p.2 fr.base vals[ars]) fr.base vals[ars]
     else Dv
   else Dv
  |_=>Dv
def Ayg(h:(a::d).all noStar=t8)(e:(a::d).length < 30):((backTo b (starEach (a::d) env)).all (λx=>!x.1)&&(backToKw b (keywordEach [] env)).all (λx=>x.1.isSome)&&decide[(a::d).length+([]:lg iC).length+(if ([]:lg iC).isEmpty then 0 else 1) < 30])=t8:=by
 rw[Am1 h,aL];exact(rfl,dj[by trivial])
nonrec def Ayh(G:Γ.Ok Y X E)(hf:Mz Y X E f fr)(A:Hv Y X E I ars):WE X (.Call f I kws cpos) tF[Y][E][Ayf Γ f fr I ars kws cpos]:=by
 unfold Ayf;split
 .exact Ce
 split
 .exact Ce
 rename_i r;let hs:I.all noStar=t8:=by
  cases h:I.all noStar
  .rw[h] at r;exact(r rfl).elim
  .rfl
 let m:=Kz A hs;split
 .rename_i x np;split
  .exact Ce
  rename_i l;rw[fV,fV,not_or,not_or] at l;let((d,C),h3):=l;let d:=jR.mpr d;let C:=jR.mpr C;let b:X.env.kindOf x=sr .globalImplicit:=by
   show X.env.scope.names.lookup x=_;rw[G.sc];by_cases z:Γ.sc.names.lookup x=sr .globalImplicit
   .exact z
   .rw[dq z] at h3;exact(h3 rfl).elim
  split
  .rename_i i P;let(n,fa,fd,ps,df,cm,D,F,y,dvs,ds,u,t,s):=G.fn x i P;cases A with
   |nil=>
    split
    .exact WE.weak (Am4 D F y G.ps (dv:=[]) rfl .nil D.bd b d) λσ H Q q=>by
      let e:(λJ=>i.g[J ++ []])=i.g:=funext λJ=>by rw[bU]
      rw[e];exact q
    .split
     .exact Am4 D F y G.ps u t s b d
     .exact Ce
   |cons w v=>
    rw[eX,aL] at hs;split
    .exact Bis D F y G.ps m b d Jc[hs.1] Gj[hs.2]
    .split
     .exact Bd3 D F y G.ps u t s m b d Jc[hs.1] Gj[hs.2]
     .exact Ce
  .split
   .rename_i c i O;let(k,B):=G.mkc x c i O;unfold Bg5;cases A with
    |nil=>
     split
     .exact Arw (more:=false) B G.ps k b d
     .split
      .exact Arw (more:=true) B G.ps k b d
      .exact Ce
    |cons w v=>
     rw[eX,aL] at hs;split
     .exact Ax8 (more:=false) B G.ps k m b d Jc[hs.1] Gj[hs.2]
     .split
      .exact Ax8 (more:=true) B G.ps k m b d Jc[hs.1] Gj[hs.2]
      .exact Ce
   split
   .rename_i p;rw[aL] at p;let k:=G.bi x p.1;cases A with
    |nil=>cases p.2
    |cons w v=>
    rw[eX,aL] at hs;split
    .rename_i hx;subst hx;refine WE.weak[kbi ((At2 Y.K G.hK).or (Apv Y.K G.hK)) k (by rfl':bootBuiltins "isinstance"=sr .builtin["isinstance"]) m b () () Jc[hs.1] Gj[hs.2]] λσ H Q ⟨ρ,S,δ,R,sl,q⟩=>?_
     refine(ρ,S,δ,R,sl,(Aq.seq (Rel:=RVs Y) q).mono ?_);rintro vs H1 ⟨ρ1,S1,J,p1,t1,R1,L,q1⟩;exact Bp3 G.isa R1 L q1
    split
    .rename_i g Z;split
     .rename_i U;exact Bpx G.hK G.calm[U] Z k m b C d Jc[hs.1] Gj[hs.2]
     .exact Ce
    .split
     .rename_i g N;split
      .rename_i U;exact Bpy G.hK G.calm[U] N k m b C d Jc[hs.1] Gj[hs.2]
      .exact Ce
     .exact Ce
   .exact Ce
 .rename_i o name aj;split
  .rename_i l;rw[aL] at l;let p:=hf.base _ _ _ rfl;split
   .exact Ar5[λuw b=>nomatch b][Bd0 (λc i z=>G.mt c _ i z) G.ps p Aek[l.1] l.2]
   .rename_i a as;split
    .rename_i hl;let j:=hs;rw[eX,aL] at j;refine Ar5[λg b=>?_][Bjp (λc i z=>G.mt c _ i z) G.ps p m Aek[l.1] (Ayg hs dg[hl]) l.2 Jc[j.1] Gj[j.2]];let((T,op),k,rfl):=bG.mp b;exact Bp0 k p m Aek[l.1] (Ayg hs dg[hl]) l.2 Jc[j.1] Gj[j.2]
    .exact Ce
  .exact Ce
 .exact Ce
def Ael(Γ:Gm)(f:bW)(args:lg bW)(ars:lg Rd)(kws:lg iC)(d:De->M Src):De->M Src:=match f,kws with
 |.Name x _,[]=>if x="range"/\Γ.bi "range"=t8/\Γ.sc.names.lookup ("range":t6)=sr .globalImplicit/\args.all noStar=t8 then match args with
   |[_]=>V9 Li vals[ars]
   |_=>Dv
  else d
 |_,_=>d
def Afu(Γ:Gm)(f:bW)(args:lg bW)(ars:lg Rd)(kws:lg iC)(d:De->M Src):De->M Src:=match f,args,ars,kws with
 |.Name x _,[a,b],_,[]=>if x="zip"/\Γ.bi "zip"=t8/\Γ.sc.names.lookup ("zip":t6)=sr .globalImplicit/\noStar a=t8/\noStar b=t8 then Auu vals[ars] else d
 |.Name x _,[a],[r],[⟨sr k,.Constant (.int 1) _ _,_⟩]=>if x="enumerate"/\k="start"/\Γ.bi "enumerate"=t8/\Γ.sc.names.lookup ("enumerate":t6)=sr .globalImplicit/\noStar a=t8 then Ax5 r.val else d
 |_,_,_,_=>d
nonrec def Am5{o:Nat}(G:u.Ok Y X E)(p:Hv Y X E k l)(hd:WI[X][.Tuple e o b][.Call f k c g][tFi Y E d]):WI[X][.Tuple e o b][.Call f k c g][tFi Y E (Afu u f k l c d)]:=by
 unfold Afu;split
 .split
  .rename_i h;let(rfl,j,a,i,m):=h;let a:X.env.kindOf "zip"=sr .globalImplicit:=by show X.env.scope.names.lookup _=_;rw[G.sc];exact a
   exact Bna[G.hK][G.bi _ j][Kz p (by rw[eX,i,eX,m];rfl)][a][Jc i][Gj (by rw[eX,m];rfl)]
  .exact hd
 .split
  .rename_i h;let(rfl,rfl,j,a,i):=h;let a:X.env.kindOf "enumerate"=sr .globalImplicit:=by show X.env.scope.names.lookup _=_;rw[G.sc];exact a
   cases p with|cons A _=>
   refine WI.weak[⟨Bce a (G.bi _ j) A.val.un Jc[i]⟩] λF H Q ⟨ρ,S,δ,R,sl,q⟩=>?_;refine(ρ,S,δ,R,sl,(Aq.seq (Rel:=RV Y) q).mono ?_);rintro v N ⟨r,L,w,J,I,B,y,n⟩;cases y <;> first|exact(show False from n).elim|skip
   rename_i z;exact(z,rfl,Aq.now (Rel:=Ad9 Y) n B Ax6[z])
  .exact hd
 .exact hd
def Afv(G:i.Ok Y X E)(n:Hv Y X E c e)(hd:WI X j (.Call f c a b) (tFi Y E d)):WI X j (.Call f c a b) tFi[Y][E][Ael i f c e a d]:=by
 unfold Ael;split
 .split
  .rename_i h;let(rfl,m,g,hs):=h;let l:=G.bi _ m;let g:X.env.kindOf "range"=sr .globalImplicit:=by show X.env.scope.names.lookup _=_;rwa [G.sc]
   let k:=Kz n hs;split
   .rw[eX,aL] at hs;exact Bi9 l k g Jc[hs.1]
   .exact Afr
  omega
 omega
def Ayi(Γ:Gm)(f:bW)(args:lg bW)(ars:lg Rd)(kws:lg iC)(d:De->M W):De->M W:=match f,args,ars,kws with
 |.Name x _,[.Call (.Name y _) (a::es) [] _],[r],[]=>if x="sorted"/\y="set"/\Γ.bi x=t8/\Γ.bi "set"=t8/\Γ.sc.names.lookup x=sr .globalImplicit/\Γ.sc.names.lookup ("set":t6)=sr .globalImplicit/\Γ.calm=t8/\(a::es).all noStar=t8 then Dw Kp r.sv else d
 |_,_,_,_=>d
def Ayj(G:g.Ok Y X E)(k:Hv Y X E c e)(hd:WE[X][.Call f c a b][tF Y E d]):WE X (.Call f c a b) tF[Y][E][Ayi g f c e a d]:=by
 unfold Ayi;split
 .split
  .rename_i h;let(rfl,rfl,b1,b2,n,m,j,hs):=h;cases k with|cons l _=>
   rw[eX,aL] at hs;let i:∀x,g.sc.names.lookup x=sr .globalImplicit->X.env.kindOf x=sr .globalImplicit:=λx z=>by rw[<-z,<-G.sc];rfl
   exact Bdz[G.calm j][G.bi _ b1][G.bi _ b2][i _ n][i _ m][l.sv _ _ _ _ rfl][Jc hs.1][Gj hs.2]
  omega
 omega
def Ap0(sc:iV):lg t6:=sc.names.filterMap λx=>if x.2==.free then sr x.1 else sy
def Bp6(Γ:Gm)(sc:iV):Bool:=(Ap0 sc).all λy=>decide[Γ.sc.names.lookup y=sr .cell]||decide[Γ.sc.names.lookup y=sr .free]
def Ayk(Γ:Gm)(f:bW)(args:lg bW)(kws:lg iC)(d:De->M W):De->M W:=match f,args,kws with
 |.Name x _,[.Lambda ps b sc _],[]=>match Γ.mkr,Γ.fn x,Cz[λy=>Afq y Γ.N][Ap0 sc] with
  |some (j,q),sr i,sr is=>if noArgs ps&&Bp6 Γ sc&&!(x==("__debug__":t6))&&decide[Γ.sc.names.lookup x=sr .globalImplicit]&&Γ.calm then Dy j (q,ps,b,sc,Ap0 sc) is i.g else Dv
  |_,_,_=>Dv
 |.Name x _,[],[]=>match Γ.lam with
  |some L=>if decide[Γ.sc.names.lookup x=sr .globalImplicit] then d else Afj L (Ar0 Γ x)
  |none=>d
 |_,_,_=>d
theorem Ar6{N:lg t6}{sc:iV}:∀{l:lg t6} {is:lg Nat},(∀y∈l,(u6 y cJ)∈sc.names)->Cz (λy=>Afq y N) l=sr is->lZ (λy i=>N[i]?=sr y/\(u6 y cJ)∈sc.names) l is
 |[],_,_,e=>by cases e;exact .nil
 |y::l,is,h,e=>by
  unfold Cz at e;cases c:Afq y N with
  |none=>rw[c] at e;cases e
  |some i=>
   rw[c] at e;cases b:Cz (λy=>Afq y N) l with
   |none=>rw[b] at e;cases e
   |some j=>
    rw[b] at e;cases e;exact .cons (X6 c,h y bF) Ar6[λz f=>h z (bC _ f)][b]
def Afw{sc:iV}:y∈Ap0 sc ↔ (u6 y cJ)∈sc.names:=by
 unfold Ap0;rw[gF];constructor
 .rintro⟨⟨a,b⟩,h,e⟩;dsimp only at e;split at e
  .rename_i z;cases e;rwa [<-beq_iff_eq.mp z]
  .cases e
 .intro h;exact(_,h,())
nonrec def Ayl(G:m.Ok Y X E)(hd:WE[X][.Call f k a c][tF Y E d]):WE X (.Call f k a c) tF[Y][E][Ayk m f k a d]:=by
 unfold Ayk;split
 .rename_i x p ps b sc g;split
  .rename_i j q i is s hf hi;split
   .rename_i h;simp only[aL,iW,dh] at h;let((((A,w),v),u),C):=h;let(M,r):=G.mkr j q s;let(n,H,fd,B,I,J,D,F,o,_):=G.fn x i hf;refine Auj D F o G.ps (by show X.env.scope.names.lookup x=_;rw[G.sc];exact u) v M (l:=(q,ps,b,sc,Ap0 sc)) (by show defaultsOf ps X.env=_;rw[Aij A];rfl) r (λy e=>(?_,Afw.mpr e),?_)
    .let z:=bB.mp w y Afw.mpr[e];rw[fV,dh,dh] at z;show X.env.scope.names.lookup y=_\/X.env.scope.names.lookup y=_;rw[G.sc];exact z
    .rw[G.N];exact Ar6 (λy e=>Afw.mp e) hi
   .exact Ce
  .exact Ce
 .rename_i x p;split
  .rename_i L t;split
   .exact hd
   .exact Axk (G.lam L t) G.ps Ar1[G]
  .exact hd
 .exact hd
def Aym(Γ:Gm)(f:bW)(args:lg bW)(ars:lg Rd)(kws:lg iC)(d:De->M W):De->M W:=match f,args,ars,kws with
 |.Name x _,[a],[r],[]=>if x="int"/\Γ.bi "int"=t8/\Γ.sc.names.lookup ("int":t6)=sr .globalImplicit/\noStar a=t8 then Dw R5 vals[[r]] else d
 |_,_,_,_=>d
def Ayn(G:g.Ok Y X E)(i:Hv Y X E c e)(hd:WE[X][.Call f c a b][tF Y E d]):WE X (.Call f c a b) tF[Y][E][Aym g f c e a d]:=by
 unfold Aym;split
 .split
  .rename_i h;let(rfl,k,l,j):=h;exact Bm5 (G.bi _ k) Kz[i][by simp_all] (by show X.env.scope.names.lookup _=_;rwa [G.sc]) Jc[j] rfl
  .exact hd
 .exact hd
def Ayo(Γ:Gm)(f:bW)(fr:Rd)(args:lg bW)(ars:lg Rd)(kws:lg iC)(cpos:Pos):Rd:=
 let v:=Aym Γ f args ars kws <| Ayk Γ f args kws (Ayi Γ f args ars kws (Ayf Γ f fr args ars kws cpos))
 (v,Dl v,Dv,Dv,Dv,Ael Γ f args ars kws Iu[v],Afu Γ f args ars kws (Ael Γ f args ars kws Iu[v]),if args.all noStar then vals ars else Dv)
def Bd5(G:j.Ok Y X E)(hf:Mz Y X E f fr)(c:Hv Y X E i g):Mz Y X E (.Call f i kws cpos) (Ayo j f fr i g kws cpos):=by
 let h:=Ayn G c <| Ayl G (Ayj G c (Ayh (kws:=kws) (cpos:=cpos) G hf c));let b:∀d,WI X d _ (tFi Y E (Iu _)):=λd=>by exact Amu G.hK h
 exact(h,Axz h Arz[rfl],λa a a a=>Ce,λa a a a=>R8,λa a a a=>R8,λd=>Afv G c b[d],λa a a=>Am5 G c (Afv G c b[_]),λa a a a e=>by
  cases e;dsimp only[Ayo];split
  .rename_i z;exact Kz c z
  .exact Afs)
def W8(Γ:Gm)(x:t6):o9 Nat:=if Apj Γ.sc x&&(Γ.fnB||decide[Γ.sc.names.lookup x=sr .local]) then Afq x Γ.N else sy
def Aem{i:Nat}(G:b.Ok Y X E)(h:W8 b x=sr i):X.N[i]?=sr x/\Apj X.env.scope x=t8/\(X.fn x||decide[X.env.scope.names.lookup x=sr .local])=t8:=by
 unfold W8 at h;split at h
 .rename_i a;rw[aL,fV] at a;refine(G.N ▸ X6 h,G.sc ▸ a.1,?_);rw[fV];rcases a.2 with z|z
  .exact .inl[G.fnB z x]
  .exact .inr (by rw[G.sc];omega)
 trivial
def slotsOf(Γ:Gm):lg bW->o9 lg[Nat]
 |[]=>sr []
 |.Name x _::es=>match W8 Γ x,slotsOf Γ es with
  |some i,sr is=>sr (i::is)
  |_,_=>sy
 |_::_=>sy
nonrec def Ayp(G:g.Ok Y X E){a:lg bW}:∀{is:lg Nat},slotsOf g a=sr is->PGs X a Afm[is]/\(assignEach a X.env).length=is.length/\(assignEach a X.env).findIdx? (·.1)=sy:=by
 induction a with
 |nil=>intro is h;cases h;exact(by
   intro z s f H w y Q I r h;let(e,h):=h;subst e;cases r;exact assignInOrder_nil (f,H,I,h),rfl,rfl)
 |cons e a p=>
  intro is h;unfold slotsOf at h;split at h
  .rename_i d;cases d
  .rename_i x np u d;cases d;split at h
   .rename_i i c t q;cases h;let(o,n,m):=p q;let(l,k,j):=Aem G t;refine(Awd (Awy dj[G.nd] l k j).un o,?_,?_)
    .show (assignEach a X.env).length+1=c.length+1;rw[n]
    .show aBf (·.1) ((u6 t7 assign[.Name x np][X.env])::assignEach a X.env)=sy;rw[List.findIdx?_cons];simp only[jF,if_false,m,Option.map_none]
   .cases h
  .cases h
def tgt(Γ:Gm):bW->o9 Tg
 |.Name x _=>(W8 Γ x).map Ex
 |.Tuple es _ _=>if Γ.calm then (slotsOf Γ es).map Ahp else sy
 |_=>sy
def tgG(K:aB)(Γ:Gm):bW->TG
 |.Name x _=>Xj ((W8 Γ x).getD 0)
 |.Tuple es _ _=>Bln K ((slotsOf Γ es).getD []).length Afm[(slotsOf Γ es).getD []]
 |_=>Xj 0
def Afx(G:d.Ok Y X E)(h:tgt d f=sr s):WG X f (tgG Y.K d f)/\GOk Y s (tgG Y.K d f):=by
 unfold tgt at h;split at h
 .let(i,c,rfl):=bG.mp h;let(n,m,l):=Aem G c;simp only[tgG,c,yS];exact(Awy dj[G.nd] n m l,Amt i)
 .split at h
  .rename_i C;let(is,c,rfl):=bG.mp h;let(t,q,p):=Ayp G c;simp only[tgG,c,yS];exact G.hK ▸ (⟨by
     rintro k s g H v u Q I r ⟨a,xs,J,A,B,y⟩;subst J;cases r;let(w,j,z,N):=I.tuple A;refine assign_Tuple_tuple I.ok.hd[G.calm[C]] z (by simp[q,<-B,j.length]) p λF x=>?_
     let L:Inv X k g H { s with heap:=F }:=I.kept (t':=s.toks) λb o e=>x b o bM[aV[e]] e
     exact t k _ g H xs _ Q L (j) y⟩,Aro is rfl)
  .cases h
 .cases h
def Am6(out sc:iV):iV:=
 { sc with names:=sc.names.map λ(n,k)=>if (k==.free&&out.kind==.function&&out.names.lookup n==sr .cell) then (u6 n .cell) else (u6 n k) }
def ownOf:bW->lg t6
 |.Name x _=>[x]
 |.Tuple es _ _=>es.filterMap λe=>match e with
  |.Name x _=>sr x
  |_=>sy
 |_=>[]
def Ack(N:lg t6)(sc:iV):lg Nat:=sc.names.filterMap λ(n,k)=>if k==.free then Afq n N else sy
def Gm.inner(Γ:Gm)(tg:bW)(sc:iV):Gm:={ Γ with N:=ownOf tg ++ (Ack Γ.N sc).map (λj=>Γ.N.getD j ""),sc:=Am6 Γ.sc sc,fnB:=false,rs:=false,loops:=false,tr:=false,mkr:=sy,lam:=sy,fnq:=λuw=>sy }
theorem Gm.Ok.inner{a:Gm}{scope:iV}(G:a.Ok Y X E)(nd:(a.inner d scope).N.Nodup)(C:aG)(s:aN)(H:Hp)(ex:lg aG):(a.inner d scope).Ok Y (X.comp scope ownOf[d] (Ack a.N scope) C s H ex) E0s where
 hK:=G.hK
 hu:=G.hu
 N:=by
  show ownOf d ++ (Ack a.N scope).map (λj=>X.N.getD j "")=_;rw[G.N];rfl
 nd:=by
  show (ownOf d ++ (Ack a.N scope).map (λj=>X.N.getD j "")).Nodup;rw[G.N];exact nd
 sc:=by
  show relabel scope X.env=Am6 a.sc scope;rw[<-G.sc];rfl
 fn:=λx g h=>G.fn x g h
 ps:=Ara
 px:=λz=>nomatch z
 con:=G.con
 bi:=G.bi
 fld:=G.fld
 isa:=G.isa
 calm:=G.calm
 fnB:=λz=>by cases z
 mdc:=G.mdc
 mt:=λc m i h=>⟨(G.mt c m i h).ex⟩
 mkc:=λx c i h=>((G.mkc x c i h).1,⟨(G.mkc x c i h).2.ex⟩)
 mkr:=λb b z=>nomatch z
 lam:=λb z=>nomatch z
 fnq:=λb b z=>nomatch z
def Gm.Ok.innerX{a:Gm}{scope:iV}{xe:aD->aN->Prop}{f:L2.St->XK}(G:a.Ok Y X E)(nd:(a.inner d scope).N.Nodup)(C:aG)(s:aN)(H:Hp)(ex:lg aG)(ps:Cm[CXo X.prog X.w][X.compX scope ownOf[d] (Ack a.N scope) C s H ex xe][f]):(a.inner d scope).Ok Y (X.compX scope ownOf[d] (Ack a.N scope) C s H ex xe) f:=(
 let I:=G.inner nd C s H ex
 (I.hK,I.hu,I.N,I.nd,I.sc,I.fn,ps,λz=>(nomatch z),I.con,I.bi,I.fld,I.isa,I.calm,I.fnB,I.mdc,λc m i h=>⟨(I.mt c m i h).ex⟩,λx c i h=>((I.mkc x c i h).1,⟨(I.mkc x c i h).2.ex⟩),λb b z=>(nomatch z),λb z=>(nomatch z),λb b z=>(nomatch z)))
def Ar7:bW->Bool
 |.Call (.Attribute _ _ _) _ _ _=>t8
 |_=>t7
def Bg6:lg Rd->De->M Bool
 |[]=>λuw=>pure t8
 |[r]=>r.tst
 |_=>Dv
theorem Afy:∀{f:lg bW} {rs:lg Rd},Hv Y X E f rs->WTs X f (tFb Y E Bg6[rs])
 |_,_,.nil=>⟨λe s d H Q I ⟨i,S,j,R,k,q⟩=>Bci.un e s d H Q I (Aq.now (Rel:=λg g a b=>a=b) q R rfl)⟩
 |_,_,.cons h .nil=>⟨λe s d H Q I q=>wpAny_tests_one[h.tst.un e s d H Q I q]⟩
 |_,_,.cons _ (.cons ..)=>⟨λ_ _ _ _ _ _ ⟨_,_,_,_,_,q⟩=>bT q⟩
def Ayq(Γ:Gm)(tg iter:bW)(isa:Int)(sc:iV):Bool:=
 decide[isa=0]&&Γ.calm&&Aip iter&&decide (Γ.inner tg sc).N.Nodup&&decide[sc.kind=.function]&&sc.names.all[λy=>decide[y.2≠.cell]]&&
 (Ack Γ.N sc).all (λj=>match Γ.N[j]? with|some x=>decide[sc.names.lookup x=sr .free]|none=>t7)&&
 sc.names.all[λy=>!decide (y.2=.local)||decide[sc.names.lookup y.1=sr .local]]&&
 sc.names.all[λy=>!decide (y.2=.free)||(decide[Γ.sc.names.lookup y.1=sr .cell]||decide[Γ.sc.names.lookup y.1=sr .free])]
def Akr(tg:bW)(r:Rd):De->M Src:=match tg with
 |.Tuple _ _ _=>r.srcT
 |_=>r.src
def Vq(h:Mz Y X E e r):WI X a e tFi[Y][E][Akr a r]:=by
 unfold Akr;split
 .exact h.srcT ..
 .exact h.src _
def Am7(Γ:Gm)(elt tg iter:bW)(isa:Int)(sc:iV)(ri re:Rd)(rt:lg Rd):De->M W:=
 if Ayq Γ tg iter isa sc then match tgt (Γ.inner tg sc) tg with
  |some s=>(if Γ.loops&&Ar7 elt&&isCall iter then compX else G7) (ownOf tg).length (Ack Γ.N sc) (Akr tg ri) s Bg6[rt] re.val
  |none=>Dv
 else Dv
def Aks{K:aB}{b:Gm}{s:Tg}(h:tgt b c=sr s):GOk Y s (tgG K b c):=by
 unfold tgt at h;split at h
 .let(i,a,rfl):=bG.mp h;simp[tgG,a];exact Amt i
 .split at h
  .let(is,a,rfl):=bG.mp h;simp[tgG,a];exact Aro is rfl
  trivial
 trivial
nonrec def Ayr{g:Gm}{a b:bW}{d:lg bW}{isa:Int}{scope:iV}{ri re:Rd}{rt:lg Rd}(G:g.Ok Y X E)(hi:Mz Y X E a ri)(m:∀e c,(g.inner h scope).Ok Y e c->Mz Y e c b re)(k:∀e c,(g.inner h scope).Ok Y e c->Hv Y e c d rt):
  WE X (.ListComp b [(h,a,d,isa)] scope v) tF[Y][E][Am7 g b h a isa scope ri re rt]:=by
 unfold Am7;split
 .rename_i j;unfold Ayq at j;simp only[aL] at j;let((((((((b1,b2),u),w),t),r),q),o),n):=j;obtain rfl:=dg b1;let nd:=dg w;split
  .rename_i s hs;split
   .rename_i l;rw[aL,aL] at l;exact Bds G.px[l.1.1] G.calm[b2] G.sc Vq[hi] (λC i H ex=>(Afx (G.inner nd C i H ex) hs).1) Aks[hs] (λC s H ex=>Afy k[_][_][G.inner nd C s H ex]) (λC s H ex xe c p=>(m _ _ (G.innerX nd C s H ex p)).val) (by rw[G.N];exact q) dg[t] r o n Aej[u]
   refine Bjd G.calm[b2] G.sc Vq[hi] (λC i H ex=>(Afx (G.inner nd C i H ex) hs).1) Amw[Aks[hs]] (λC s H ex=>Afy k[_][_][G.inner nd C s H ex]) (λC s H ex=>(m _ _ (G.inner nd C s H ex)).val) (by rw[G.N];exact q) dg[t] r o n Aej[u]
  .exact Ce
 .exact Ce
end
def ifR(c a b:Rd):Rd:={ Rd.of[Arh c.tst a.val b.val] with tst:=Dv }
def atR(Γ:Gm)(o:bW)(f:t6)(r:Rd):Rd:={ Rd.of[Bj1 Γ o f r] with base:=r.val }
def Bj3(lo hi:o9 Rd)(st:o9 bW):Rd:=match st with
 |none=>{ Rd.no with lo:=Aye lo,hi:=Aye hi }
 |some _=>Rd.no
mutual
def ev:bW->Gm->Rd
 |.Constant c _ _,Γ=>Rd.of Aya[c]
 |.Name x _,Γ=>Rd.of (Ar0 Γ x)
 |.BinOp a op b _,Γ=>Rd.of Bjq[op][ev a Γ][ev b Γ]
 |.UnaryOp op a _,Γ=>unR op (ev a Γ)
 |.BoolOp op vs _,Γ=>Bg4 op (evs vs Γ)
 |.Compare a ops bs _,Γ=>Bju ops bs (ev a Γ) (evs bs Γ)
 |.IfExp c a b _,Γ=>ifR (ev c Γ) (ev a Γ) (ev b Γ)
 |.Tuple es _ _,Γ=>Rd.of Bjw[es][evs es Γ]
 |.List es _,Γ=>Rd.of Bjx[es][evs es Γ]
 |.Dict ks vs _,Γ=>Rd.of Ayd[Bj4 ks Γ][evs vs Γ]
 |.Call f args kws pos,Γ=>Ayo Γ f (ev f Γ) args (evs args Γ) kws pos
 |.Attribute o f _,Γ=>atR Γ o f (ev o Γ)
 |.Subscript o i _,Γ=>Rd.of subV[Γ][o][i][ev o Γ][ev i Γ]
 |.Slice lo hi st _,Γ=>Bj3 (evo lo Γ) (evo hi Γ) st
 |.ListComp elt [⟨tg,iter,ifs,isa⟩] sc _,Γ=>Rd.of (Am7 Γ elt tg iter isa sc (ev iter Γ) ev[elt][Γ.inner tg sc] evs[ifs][Γ.inner tg sc])
 |_,_=>Rd.no
def evs:lg bW->Gm->lg Rd
 |[],_=>[]
 |e::es,Γ=>ev e Γ::evs es Γ
def evo:o9 bW->Gm->o9 Rd
 |none,_=>sy
 |some e,Γ=>sr[ev e Γ]
def Bj4:lg o9[bW]->Gm->lg o9[Rd]
 |[],_=>[]
 |e::es,Γ=>evo e Γ::Bj4 es Γ
end
section
mutual
theorem Gb:∀(e:bW)(d:Gm)(X:Cx)(E:L2.St->XK),d.Ok Y X E->Mz Y X E e (ev e d)
 |.Constant c _ _,d,X,E,G=>N8 G.hK Ayb rfl
 |.Name x _,d,X,E,G=>N8 G.hK Ar1[G] rfl
 |.BinOp a u b _,d,X,E,G=>N8 G.hK Bjr[G][Gb a d X E G][Gb b d X E G] rfl
 |.UnaryOp u a _,d,X,E,G=>Bnc G (Gb a d X E G)
 |.BoolOp u l _,d,X,E,G=>Bd1 G (Ml l d X E G)
 |.Compare a w bs _,d,X,E,G=>Bjv G (Gb a d X E G) (Ml bs d X E G)
 |.IfExp c a b _,d,X,E,G=>Vp G.hK (Bpp (Gb c d X E G).tst (Gb a d X E G).val (Gb b d X E G).val) Apz
 |.Tuple n _ _,d,X,E,G=>N8 G.hK Bjy[Ml n d X E G] rfl
 |.List n _,d,X,E,G=>N8 G.hK Bjz[Ml n d X E G] rfl
 |.Dict z l _,d,X,E,G=>N8 G.hK Bd2[Akt z d X E G][Ml l d X E G] rfl
 |.Call f k y v,d,X,E,G=>Bd5 G (Gb f d X E G) (Ml k d X E G)
 |.Attribute o f _,d,X,E,G=>
  let h:=Gb o d X E G;let r:=N8 G.hK (Bj2 (f:=f) G h) rfl
  (r.val,r.tst,λg g g e=>by cases e;exact h.val,r.lo,r.hi,r.src,r.srcT,r.sv)
 |.Subscript o i _,d,X,E,G=>N8 G.hK Bj0[G][Gb o d X E G][Gb i d X E G] rfl
 |.Slice lo hi sy _,d,X,E,G=>(Ce,Apz,λg g g g=>Ce,λg g g e=>by cases e;exact Ays lo d X E G,λg g g e=>by cases e;exact Ays hi d X E G,λg=>Afr,λg g g=>Afr,λg g g g g=>Afs)
 |.Slice _ _ (sr _) _,_,_,_,_=>Jd
 |.ListComp elt [⟨tg,iter,ifs,isa⟩] sc _,d,X,E,G=>N8 G.hK Ayr[G][Gb iter d X E G][λq t s=>Gb elt _ q t s][λq t s=>Ml ifs _ q t s] rfl
 |.ListComp _ [] _ _,_,_,_,_=>Jd
 |.ListComp _ (⟨_,_,_,_⟩::_::_) _ _,_,_,_,_=>Jd
 |.NamedExpr _ _ _,_,_,_,_=>Jd
 |.Lambda _ _ _ _,_,_,_,_=>Jd
 |.Set _ _ _,_,_,_,_=>Jd
 |.SetComp _ _ _ _,_,_,_,_=>Jd
 |.DictComp _ _ _ _ _,_,_,_,_=>Jd
 |.GeneratorExp _ _ _ _,_,_,_,_=>Jd
 |.Await _ _,_,_,_,_=>Jd
 |.Yield _ _,_,_,_,_=>Jd
 |.YieldFrom _ _,_,_,_,_=>Jd
 |.FormattedValue _ _ _ _,_,_,_,_=>Jd
 |.JoinedStr _ _,_,_,_,_=>Jd
 |.Starred _ _,_,_,_,_=>Jd
theorem Ml:∀(b:lg bW)(a:Gm)(X:Cx)(E:L2.St->XK),a.Ok Y X E->Hv Y X E b (evs b a)
 |[],_,_,_,_=>.nil
 |e::b,a,X,E,G=>.cons[Gb e a X E G][Ml b a X E G]
theorem Ays:∀(e:o9 bW)(a:Gm)(X:Cx)(E:L2.St->XK),a.Ok Y X E->WO X e (tFo Y E Aye[evo e a])
 |none,_,_,_,_=>Axn
 |some e,a,X,E,G=>Bi2 (Gb e a X E G).val
theorem Akt:∀(b:lg o9[bW])(a:Gm)(X:Cx)(E:L2.St->XK),a.Ok Y X E->R9 Y X E b (Bj4 b a)
 |[],_,_,_,_=>.nil
 |none::b,a,X,E,G=>.none (Akt b a X E G)
 |some e::b,a,X,E,G=>.some[Gb e a X E G][Akt b a X E G]
end
end
structure Gm.SOk(Y:Th)(Γ:Gm)(X:Cx)(E:L2.St->XK):Prop where
 g:Γ.Ok Y X E
 hp:Γ.loops=t8->yI (model X.prog X.w) X.A X.env X.xe
 hf:∀x,X.fn x=t8
 rs:Γ.rs=t8->∃E1,E=(λuw=>E1)/\Raises X E1/\Akd X E1/\X.ex=[]
 exi:Γ.rs=t8->∀x c dv,Γ.exi x=sr (u6 c dv)->∃f,Y.xf c=sr f/\Bjj X (Y.cl c) f dv.length/\X.mg x=sr (.ref (Y.cl c))
 hcl:∀x k,Γ.hcl x=sr k->X.mg x=sr (.ref (Y.cl k))
 exm:∀k c,Γ.exm k c=t8->dN Y.K (.ref (Y.cl c)) (.ref (Y.cl k))=sr t8
 exn:∀k c,Γ.exn k c=t8->dN Y.K (.ref (Y.cl c)) (.ref (Y.cl k))=sr t7
 tr:Γ.tr=t8->X.stack=X.env::X.outer/\X.env.frame=sr X.env.locals
 exc:∀x c,Γ.exc x=sr c->Y.xf c=sy/\Vz X.K (Y.cl c)/\X.mg x=sr (.ref (Y.cl c))
 pl:∀c,Y.pl c=t8
def Pj:MS:=λuw uw=>.bad
section
def Bs{Y:Th}{X:Cx}{E:L2.St->XK}{st:cF}:WS X st (tS Y E Pj):=⟨λ_ _ _ _ _ _ ⟨_,_,_,_,_,q⟩=>bT q⟩
def Bd6:WS X .Pass[pos] (tS Y E Aj):=WS.weak ⟨λuw uw σ H uw I h=>wpAny_Pass (σ,H,I,h)⟩ λD σ H ⟨ρ,S,δ,R,sl,q⟩=>q.nxt R sl
def Bg7(Γ:Gm)(sc:iV)(vp:Pos)(x:t6)(p:Pos):Bool:=((if Γ.sc.kind.isAnnotationScope then .function else Γ.sc.kind)==.function)&&(Γ.sc.names.lookup x==sr .local)&&p.line==vp.line&&!(sc.names.any λ(n,k)=>n==x&&(k==.local||k==.cell))
def Ayt{n:Nat}(G:b.Ok Y X E):swapsWith (.ListComp elt gs sc vp) sr[.Name x p] n X.env=pure[Bg7 b sc vp x p]:=by
 show pure _=_;unfold Env.blockKind Env.kindOf;rw[G.sc];rfl
def Aku:bW->Bool
 |.ListComp e [_] _ _=>!Ar7 e
 |_=>t7
nonrec def Am8(h:Aku v=t8):∃b f a d isa sc e,v=.ListComp b [(f,a,d,isa)] sc e/\Ar7 b=t7:=by
 unfold Aku at h;split at h
 .rename_i b c sc e;let(f,a,d,isa):=c;exact(b,f,a,d,isa,sc,e,rfl,by simpa using h)
 trivial
def Bj5(Γ:Gm)(ts:lg bW)(v:bW)(rv:Rd):MS:=match ts with
 |[.Name x _]=>if Akq v||Aku v then match W8 Γ x with
   |some i=>Bx i rv.val
   |none=>Pj
  else Pj
 |[.Tuple es j p]=>match v,tgt Γ (.Tuple es j p) with
  |.Call _ _ _ _,sr t=>Bm8 t rv.val
  |_,_=>Pj
 |[.Subscript o i _]=>Jb (ev o Γ).val (ev i Γ).val rv.val
 |[.Attribute o f _]=>G9 Γ.fld f (ev o Γ).val rv.val
 |_=>Pj
def Am9{Y:Th}{X:Cx}{E:L2.St->XK}{st:cF}{i:Nat}:WS X st tS[Y][E][Bx i Dv]:=⟨λ_ _ _ _ _ _ ⟨_,_,_,_,_,q⟩=>bT q⟩
nonrec def Bd7{i:Nat}{isa:Int}(G:d.SOk Y X E)(p:Ar7 b=t7)(hi:W8 d x=sr i)(h:swapsWith (.ListComp b [(e,a,c,isa)] scope k) sr[.Name x np] f.line X.env=pure t8):
  WS X .Assign[[.Name x np]][.ListComp b [(e,a,c,isa)] scope k][f] (tS Y E Bx[i][Am7 d b e a isa scope (ev a d) ev[b][d.inner e scope] evs[c][d.inner e scope]]):=by
 let(n,m,l):=Aem G.g hi;unfold Am7;simp[p];split
 .rename_i j;unfold Ayq at j;simp only[aL] at j;let((((((((b1,b2),y),w),v),u),t),r),q):=j;obtain rfl:=dg b1;let nd:=dg w;split
  .rename_i s hs;let hi:=Gb a d X E G.g;exact Bdy G.g.calm[b2] G.g.sc Vq[hi] (λC o H ex=>(Afx (G.g.inner nd C o H ex) hs).1) Amw[Aks[hs]] (λC s H ex=>Afy[Ml c _ _ _ (G.g.inner nd C s H ex)]) (λC s H ex=>(Gb b _ _ _ (G.g.inner nd C s H ex)).val) (by rw[G.g.N];exact t) dg[v] u r q Aej[y]
    (Awy dj[G.g.nd] n m l) h
  .exact Am9
 .exact Am9
nonrec def Bd8(G:a.SOk Y X E):WS X (.Assign o v f) tS[Y][E][Bj5 a o v (ev v a)]:=by
 let c:=Gb v a X E G.g;unfold Bj5;split
 .rename_i x np;split
  .rename_i l;split
   .rename_i i hi;let(k,j,u):=Aem G.g hi;by_cases e:Akq v=t8
    .exact Axr c.val dj[G.g.nd] k j Ary[e] G.hf[_]
    .rw[fV] at l;let(elt,q,b,h,isa,sc,vp,rfl,s):=Am8 l.resolve_left[e];let d:=Ayt (elt:=elt) (gs:=[(q,b,h,isa)]) (sc:=sc) (vp:=vp) (p:=np) (x:=x) (n:=f.line) G.g;cases m:Bg7 a sc vp x np with
     |false=>rw[m] at d;exact Axr c.val dj[G.g.nd] k j d G.hf[_]
     |true=>rw[m] at d;exact Bd7 G s hi d
   .exact Bs
  .exact Bs
 .split
  .rename_i r;let(e,t):=Afx G.g r;exact Bjc c.val e t rfl rfl rfl
  .exact Bs
 .exact Bdr G.g.hu (Gb _ a X E G.g).val (Gb _ a X E G.g).val c.val (by cases v <;> rfl)
 .exact Bjb G.g.hK G.g.fld (Gb _ a X E G.g).val c.val (by cases v <;> rfl)
 .exact Bs
def Bj6(Γ:Gm)(tg iter:bW)(b:MS):MS:=if Γ.calm&&Aip iter&&Γ.loops then match tgt Γ tg with
  |some s=>Xw Akr[tg][ev iter Γ] s b
  |none=>Pj
 else Pj
nonrec def Bd9(G:d.SOk Y X E)(h:WSs X body (tS Y E b)):WS X (.For e a body [] f) tS[Y][E][Bj6 d e a b]:=by
 unfold Bj6;split
 .rename_i c;rw[aL,aL] at c;split
  .rename_i s hs;let(w,i):=Afx G.g hs;exact Bi8 G.hp[c.2] G.g.hK G.g.calm[c.1.1] Vq[Gb _ d X E G.g] w i h Aej[c.1.2]
  .exact Bs
 .exact Bs
def Ap1(Γ:Gm)(x:t6)(args:lg bW):MS:=if Γ.rs&&Γ.calm&&!(x==("__debug__":t6))&&decide[Γ.sc.names.lookup x=sr .globalImplicit]&&args.all noStar then match Γ.exc x with
  |some c=>Hc c vals[evs args Γ]
  |none=>match Γ.exi x with
   |some (c,dv)=>Jq c dv vals[evs args Γ]
   |none=>Pj
 else Pj
nonrec def Auw(G:l.SOk Y X E):WS X (.Raise sr[.Call (.Name x np) (a::v) [] p] sy t) tS[Y][E][Ap1 l x (a::v)]:=by
 unfold Ap1;split
 .rename_i o;simp only[aL] at o;let((((s,r),q),w),b):=o;let(y,rfl,u,k,j):=G.rs s;let m:=Kz (Ml _ l X _ G.g) b;rw[eX,aL] at b;let n:X.env.kindOf x=sr .globalImplicit:=by show X.env.scope.names.lookup x=_;rw[G.g.sc];exact dg w
  split
  .rename_i c i;let(h,e,d):=G.exc x c i;exact Ax0 h e d G.g.calm[r] u m n (by simpa using q) Jc[b.1] Gj[b.2]
  .split
   .rename_i c dv i;let(f,h,e,d):=G.exi s x c dv i;exact Auq h j e d G.g.calm[r] k m n (by simpa using q) Jc[b.1] Gj[b.2]
   .exact Bs
 .exact Bs
end
def Ap2(Γ:Gm)(exc cause:o9 bW):MS:=match exc,cause with
 |some (.Call (.Name x _) (a::es) [] _),sy=>Ap1 Γ x (a::es)
 |_,_=>Pj
def Aux(G:a.SOk Y X E):WS X (.Raise exc cause b) tS[Y][E][Ap2 a exc cause]:=by
 unfold Ap2;split
 .exact Auw G
 .exact Bs
def Bp7(Γ:Gm):o9 bW->MS
 |some e=>retS (ev e Γ).val
 |none=>Pj
def Bj7(m:MS):lg cF->MS
 |[]=>m
 |_::_=>Pj
def Gm.inTry(Γ:Gm):Gm:={ Γ with rs:=false,loops:=false,tr:=false }
def Gm.inSuite(Γ:Gm):Gm:={ Γ with rs:=false,loops:=false,tr:=false,calm:=false,fn:=Γ.fnq,mt:=λuw uw=>sy,mkc:=λuw=>sy,mkr:=sy,lam:=sy }
theorem Gm.SOk.inTry{Y:Th}{X:Cx}{E d:L2.St->XK}{a:Gm}{pn:lg[aG×tu]}{xe:aD->aN->Prop}(G:a.SOk Y X E)(hp:Cm[CXo X.prog X.w][X.tryB pn xe][d]):a.inTry.SOk Y (X.tryB pn xe) d where
 g:={ hK:=G.g.hK,hu:=G.g.hu,N:=G.g.N,nd:=G.g.nd,sc:=G.g.sc,fn:=G.g.fn,ps:=hp,px:=λz=>(nomatch z),con:=G.g.con,bi:=G.g.bi,fld:=G.g.fld,isa:=G.g.isa,calm:=G.g.calm,fnB:=G.g.fnB,mdc:=G.g.mdc,mt:=λc m i h=>⟨(G.g.mt c m i h).ex⟩,mkc:=λx c i h=>((G.g.mkc x c i h).1,⟨(G.g.mkc x c i h).2.ex⟩),mkr:=λj q h=>(((G.g.mkr j q h).1.code,(G.g.mkr j q h).1.own,(G.g.mkr j q h).1.blt),(G.g.mkr j q h).2),lam:=G.g.lam,fnq:=G.g.fnq }
 hp:=λz=>by cases z
 hf:=G.hf
 rs:=λz=>by cases z
 exi:=λz=>by cases z
 hcl:=G.hcl
 exm:=G.exm
 exn:=G.exn
 tr:=λz=>by cases z
 exc:=G.exc
 pl:=G.pl
theorem Gm.SOk.inSuite{Y:Th}{X:Cx}{E:L2.St->XK}{d:Gm}(G:d.SOk Y X E)(e:aG):d.inSuite.SOk Y X.suite[e] E0s where
 g:={ hK:=G.g.hK,hu:=G.g.hu,N:=G.g.N,nd:=G.g.nd,sc:=G.g.sc,fn:=λx i h=>(by let(n,b,fd,ps,c,D,F,r,z):=G.g.fnq x i h;exact(n,b,fd,ps,c,t7,D,F,r.mark,z)),ps:=Ara,px:=λz=>(nomatch z),con:=G.g.con,bi:=G.g.bi,fld:=G.g.fld,isa:=G.g.isa,calm:=λz=>(nomatch z),fnB:=G.g.fnB,mdc:=G.g.mdc,mt:=λa a a z=>(nomatch z),mkc:=λa a a z=>(nomatch z),mkr:=λa a z=>(nomatch z),lam:=λa z=>(nomatch z),fnq:=λx i h=>(by let(n,b,fd,ps,c,D,F,r,z):=G.g.fnq x i h;exact(n,b,fd,ps,c,D,F,r.mark,z)) }
 hp:=λz=>by cases z
 hf:=G.hf
 rs:=λz=>by cases z
 exi:=λz=>by cases z
 hcl:=G.hcl
 exm:=G.exm
 exn:=G.exn
 tr:=λz=>by cases z
 exc:=G.exc
 pl:=G.pl
def Bj8(Γ:Gm)(t:bW)(n:t6)(b su:MS)(ss:lg cF):MS:=match t with
 |.Name x _=>if Γ.tr&&!(x==("__debug__":t6))&&decide[Γ.sc.names.lookup x=sr .globalImplicit]&&decide[Γ.sc.names.lookup n=sr .local]&&!ss.isEmpty then
  match Γ.hcl x,Afq n Γ.N with
  |some k,sr i=>Aur Γ.exm[k] i b su
  |_,_=>Pj
  else Pj
 |_=>Pj
nonrec def Bea(G:l.SOk Y X E)(s:∀(pn:lg[aG×tu])(xe:aD->aN->Prop)(j:L2.St->XK),Cm[CXo X.prog X.w][X.tryB pn xe][j]->WSs[X.tryB pn xe][body][tS Y j b])(hs:∀e,WSs X.suite[e] a (tS Y E0s p)):
  WS X (.Try body [.ExceptHandler sr[t] sr[n] a d] [] [] q) tS[Y][E][Bj8 l t n b p a]:=by
 unfold Bj8;split
 .split
  rotate_left
  .exact Bs
  rename_i x np f;simp only[aL] at f;let((((A,y),v),u),C):=f;let(o,m):=G.tr A;split
  .rename_i k i r hi;cases a with
   |nil=>trivial
   |cons F a=>exact Bjk G.g.hK o m G.g.nd (G.hcl _ k r) (λc z=>G.exm k c z) s hs (by rw[G.g.N];exact X6 hi) (by rw[G.g.sc];exact dg u) (by show X.env.scope.names.lookup _=_;rw[G.g.sc];exact dg v) (by simpa using y)
  .exact Bs
 .exact Bs
def Beb:bW->o9 t6
 |.Name x _=>sr x
 |_=>sy
def Ar8{e:bW}{x:t6}(h:Beb e=sr x):∃p,e=.Name x p:=by
 unfold Beb at h;split at h
 .cases h;exact(_,rfl)
 .cases h
def Bj9:bW->o9 (bW×lg bW×lg iC)
 |.Call f as ks _=>sr u6[f][u6 as ks]
 |_=>sy
def Bec{e:bW}{q:bW×lg bW×lg iC}(h:Bj9 e=sr q):∃p,e=.Call q.1 q.2.1 q.2.2 p:=by
 unfold Bj9 at h;split at h
 .cases h;exact(_,rfl)
 .cases h
def Bka:cF->o9 (o9 bW×o9 bW)
 |.Raise a c _=>sr (u6 a c)
 |_=>sy
def Bed{e:cF}{q:o9 bW×o9 bW}(h:Bka e=sr q):∃p,e=.Raise q.1 q.2 p:=by
 unfold Bka at h;split at h
 .cases h;exact(_,rfl)
 .cases h
def Bkb:bW->Bool
 |.Constant .none _ _=>t8
 |_=>t7
def Bee{e:bW}(h:Bkb e=t8):∃p q,e=.Constant .none p q:=by
 unfold Bkb at h;split at h
 .exact(_,_,rfl)
 .cases h
def unL{α:Type}:lg α->o9 (α×lg α)
 |a::l=>sr (u6 a l)
 |[]=>sy
def Ayu{b:Type}{l:lg b}{p:b×lg b}(h:unL l=sr p):l=p.1::p.2:=by
 cases l <;> cases h
 rfl
def tkO{α:Type}(o:o9 α)(d:MS)(f:α->MS):MS:=match o with
 |some a=>f a
 |none=>d
def Ny{b:Type}{Y:Th}{X:Cx}{E:L2.St->XK}{st:cF}{o:o9 b}{d:MS}{f:b->MS}(hd:WS X st (tS Y E d))(h:∀a,o=sr a->WS X st (tS Y E f[a])):WS X st tS[Y][E][tkO o d f]:=by
 cases o with
 |none=>exact hd
 |some a=>exact h a rfl
def Bkc(Γ:Gm)(t:bW)(ss:lg cF)(b:MS):MS:=tkO Beb[t] W7[b] λx=>tkO unL[ss] W7[b] λu=>tkO Bka[u.1] W7[b] λr=>tkO r.1 W7[b] λc=>tkO r.2 W7[b] λn=>tkO Bj9[c] W7[b] λq=>tkO Beb[q.1] W7[b] λy=>tkO unL[q.2.1] W7[b] λv=>
  if (u.2.isEmpty&&Bkb n&&q.2.2.isEmpty)&&(Γ.tr&&Γ.loops&&Γ.rs&&!(x==("__debug__":t6))&&!(y==("__debug__":t6))&&decide[Γ.sc.names.lookup x=sr .globalImplicit]&&decide[Γ.sc.names.lookup y=sr .globalImplicit]&&(v.1::v.2).all noStar) then
   tkO Γ.exc[x] W7[b] λk=>tkO Γ.exi[y] W7[b] λz=>if z.2.isEmpty then Aus (λc=>c==k&&Γ.exm k c) z.1 vals[evs (v.1::v.2) Γ.inSuite] b else W7 b
  else W7 b
def Bef{Y:Th}{X:Cx}{E:L2.St->XK}{o:Gm}{t:bW}{b:MS}{body l:lg cF}{d j:Pos}(G:o.SOk Y X E)(s:∀(pn:lg[aG×tu])(xe:aD->aN->Prop)(I:L2.St->XK),Cm[CXo X.prog X.w][X.tryB pn xe][I]->WSs[X.tryB pn xe][body][tS Y I b]):
  WS X (.Try body [.ExceptHandler sr[t] sy l d] [] [] j) tS[Y][E][Bkc o t l b]:=by
 unfold Bkc;let a:∀{t l},WS[X][.Try body [.ExceptHandler sr[t] sy l d] [] [] j][tS Y E W7[b]]:=Bdt s;refine Ny a λx hx=>Ny a λu hu=>Ny a λr hr=>Ny a λc hc=>Ny a λn hn=>Ny a λq hq=>Ny a λy hy=>Ny a λv p=>?_;split
 .rename_i h;rw[aL] at h;let(A,h):=h;simp only[aL,List.isEmpty_iff] at A h;let((d1,d2),d3):=A;let(((((((c1,c2),c3),c4),c5),c6),c7),m):=h;refine Ny a λk hk=>Ny a λz hz=>?_;split
  .rename_i i;let(_,rfl):=Ar8 hx;let F:=Ayu hu;let(_,C):=Bed hr;let(_,B):=Bec hq;let(_,e4):=Ar8 hy;let e5:=Ayu p;let(_,_,e6):=Bee d2;rw[e5,d3,e4] at B;rw[hc,hn,B,e6] at C;rw[d1,C] at F;rw[F];let(Q,x2,P):=G.exc _ k hk;let(z1,J):=z;let i:J=[]:=by simpa using i
   subst i;let(f,O,N,L):=G.exi c3 _ _ _ hz;let(Z,U,T,S):=G.g.px c2;let p:=λH=>Kz (Ml _ o.inSuite X.suite[H] E0s (G.inSuite H).g) m;rw[eX,aL] at m;refine Bdu G.g.hK Z U T S P (λc z=>?_) s (by show X.env.scope.names.lookup _=_;rw[G.g.sc];exact dg c6) (by simpa using c4) O N L (by show X.env.scope.names.lookup _=_;rw[G.g.sc];exact dg c7) (by simpa using c5) p Jc[m.1] Gj[m.2]
   rw[aL] at z;obtain rfl:c=k:=by simpa using z.1
   exact(G.exm _ _ z.2,Q,G.pl _)
  .exact a
 .exact a
def Bp8:lg cF->Bool
 |[.Raise _ _ _]=>t8
 |_=>t7
def Ayv(Γ:Gm)(t:bW)(ss:lg cF)(b su:MS):MS:=if Bp8 ss then Bkc Γ t ss b else match t with
 |.Name x _=>if Γ.tr&&!(x==("__debug__":t6))&&decide[Γ.sc.names.lookup x=sr .globalImplicit]&&!ss.isEmpty then match Γ.hcl x with
   |some k=>Amz Γ.exm[k] b su
   |none=>Pj
  else Pj
 |_=>Pj
nonrec def Ayw{Y:Th}{X:Cx}{E:L2.St->XK}{i:Gm}{t:bW}{b j:MS}{body a:lg cF}{d h:Pos}(G:i.SOk Y X E)(m:∀(pn:lg[aG×tu])(xe:aD->aN->Prop)(n:L2.St->XK),Cm[CXo X.prog X.w][X.tryB pn xe][n]->WSs[X.tryB pn xe][body][tS Y n b])(hs:∀e,WSs X.suite[e] a (tS Y E0s j)):
  WS X (.Try body [.ExceptHandler sr[t] sy a d] [] [] h) tS[Y][E][Ayv i t a b j]:=by
 unfold Ayv;split
 .exact Bef G m
 split
 .split
  rotate_left
  .exact Bs
  rename_i x np l;simp only[aL] at l;let(((u,s),r),B):=l;let(p,o):=G.tr u;split
  .rename_i k q;cases a with
   |nil=>trivial
   |cons C a=>exact Bdv G.g.hK p o (G.hcl _ k q) (λc z=>G.exm k c z) m hs (by show X.env.scope.names.lookup _=_;rw[G.g.sc];exact dg r) (by simpa using s)
  .exact Bs
 .exact Bs
def Ayx(Γ:Gm)(e:bW):MS:=if Akq e then Hu (ev e Γ).val else Pj
mutual
def evS:cF->Gm->MS
 |.Return e _,Γ=>Bp7 Γ e
 |.Assign ts v _,Γ=>Bj5 Γ ts v (ev v Γ)
 |.If c A B _,Γ=>ifS (ev c Γ).tst (Jr A Γ) (Jr B Γ)
 |.Try body [.ExceptHandler (sr t) (sr n) ss _] [] [] _,Γ=>Bj8 Γ t n (Jr body Γ.inTry) (Jr ss Γ.inSuite) ss
 |.Try body [.ExceptHandler (sr t) sy ss _] [] [] _,Γ=>Ayv Γ t ss (Jr body Γ.inTry) (Jr ss Γ.inSuite)
 |.For tg it b els _,Γ=>Bj7 (Bj6 Γ tg it (Jr b Γ)) els
 |.Expr e _,Γ=>Ayx Γ e
 |.Raise exc cause _,Γ=>Ap2 Γ exc cause
 |.Pass _,_=>Aj
 |_,_=>Pj
def Jr:lg cF->Gm->MS
 |[],_=>Aj
 |s::ss,Γ=>Ae[evS s Γ][Jr ss Γ]
end
section
mutual
theorem Bkd:∀(st:cF)(a:Gm)(X:Cx)(E:L2.St->XK),a.SOk Y X E->WS X st tS[Y][E][evS st a]
 |.Return (sr e) _,a,X,E,G=>Bi5 (Gb e a X E G.g).val
 |.Return sy _,_,_,_,_=>Bs
 |.Assign i v _,a,X,E,G=>Bd8 G
 |.If c A B _,a,X,E,G=>Bm6 (Gb c a X E G.g).tst (K1 A a X E G) (K1 B a X E G)
 |.While _ _ _ _,_,_,_,_=>Bs
 |.For j k b [] _,a,X,E,G=>Bd9 G (K1 b a X E G)
 |.For _ _ _ (_::_) _,_,_,_,_=>Bs
 |.Expr e _,a,X,E,G=>by
  show WS X _ tS[Y][E][Ayx a e];unfold Ayx;split
  .rename_i h;exact Bdd (Gb e a X E G.g).val Ary[h]
  .exact Bs
 |.Raise exc cause _,a,X,E,G=>Aux G
 |.Pass _,_,_,_,_=>Bd6
 |.Break _,_,_,_,_=>Bs
 |.Continue _,_,_,_,_=>Bs
 |.FunctionDef _ _ _ _ _ _ _ _ _ _,_,_,_,_=>Bs
 |.AsyncFunctionDef _ _ _ _ _ _ _ _ _ _,_,_,_,_=>Bs
 |.ClassDef _ _ _ _ _ _ _ _ _ _ _,_,_,_,_=>Bs
 |.Delete _ _,_,_,_,_=>Bs
 |.TypeAlias _ _ _ _ _ _ _,_,_,_,_=>Bs
 |.AugAssign _ _ _ _,_,_,_,_=>Bs
 |.AnnAssign _ _ _ _ _,_,_,_,_=>Bs
 |.AsyncFor _ _ _ _ _,_,_,_,_=>Bs
 |.With _ _ _,_,_,_,_=>Bs
 |.AsyncWith _ _ _,_,_,_,_=>Bs
 |.Match _ _ _,_,_,_,_=>Bs
 |.Try body [.ExceptHandler (sr t) (sr n) d _] [] [] _,a,X,E,G=>Bea G (λpn xe f hp=>K1 body _ _ _ G.inTry[hp]) λe=>K1 d _ _ _ G.inSuite[e]
 |.Try _ [] _ _ _,_,_,_,_=>Bs
 |.Try _ (.ExceptHandler sy _ _ _::_::_) _ _ _,_,_,_,_=>Bs
 |.Try _ (.ExceptHandler (sr _) sy _ _::_::_) _ _ _,_,_,_,_=>Bs
 |.Try _ (.ExceptHandler (sr _) (sr _) _ _::_::_) _ _ _,_,_,_,_=>Bs
 |.Try _ [.ExceptHandler sy _ _ _] _ _ _,_,_,_,_=>Bs
 |.Try body [.ExceptHandler (sr _) sy d _] [] [] _,a,X,E,G=>Ayw G (λpn xe f hp=>K1 body _ _ _ G.inTry[hp]) λe=>K1 d _ _ _ G.inSuite[e]
 |.Try _ [.ExceptHandler (sr _) sy _ _] (_::_) _ _,_,_,_,_=>Bs
 |.Try _ [.ExceptHandler (sr _) sy _ _] [] (_::_) _,_,_,_,_=>Bs
 |.Try _ [.ExceptHandler (sr _) (sr _) _ _] (_::_) _ _,_,_,_,_=>Bs
 |.Try _ [.ExceptHandler (sr _) (sr _) _ _] [] (_::_) _,_,_,_,_=>Bs
 |.TryStar _ _ _ _ _,_,_,_,_=>Bs
 |.Assert _ _ _,_,_,_,_=>Bs
 |.Import _ _,_,_,_,_=>Bs
 |.ImportFrom _ _ _ _,_,_,_,_=>Bs
 |.Global _ _,_,_,_,_=>Bs
 |.Nonlocal _ _,_,_,_,_=>Bs
theorem K1:∀(b:lg cF)(a:Gm)(X:Cx)(E:L2.St->XK),a.SOk Y X E->WSs X b tS[Y][E][Jr b a]
 |[],_,_,_,_=>Bi4
 |s::d,a,X,E,G=>Bdc[Bkd s a X E G][K1 d a X E G]
end
end
structure Md where
 con:t6->Option W
 bi:t6->Bool
 exc:t6->Option Nat
 isa:Nat->W->Option Bool
 fld:Bool->Nat->t6->Bool
 mdc:t6->Option (List (t6×t6))
 exi:t6->Option (Nat×List W)
 hcl:t6->Option Nat
 exm:Nat->Nat->Bool
 exn:Nat->Nat->Bool:=λuw uw=>t7
 mn:t6->Bool:=λuw=>t7
 mkl:t6->Option Nat:=λuw=>sy
def Md.gm(m:Md)(T:lg[t6×Fi])(N:lg t6)(sc:iV)(U:lg[(Nat×t6)×Fi]:=[])(Tq:lg[t6×Fi]:=[])(mk:o9[Nat×t6]:=sy)(lam:o9[Lm->lg W->M W]:=sy):Gm:=
 { N:=N,sc:=sc,fn:=λx=>T.lookup x,con:=m.con,bi:=m.bi,exc:=m.exc,isa:=m.isa,fld:=m.fld,calm:=true,fnB:=true,rs:=true,mdc:=m.mdc,exi:=m.exi,hcl:=m.hcl,exm:=m.exm,exn:=m.exn,mkr:=mk,lam:=lam,fnq:=λx=>Tq.lookup x,loops:=true,tr:=true,mt:=λc n=>U.lookup[u6 c n],mn:=m.mn,mkc:=λx=>(m.mkl x).bind λc=>(U.lookup[u6 c ("__init__":t6)]).map λi=>(u6 c i) }
def Md.gq(m:Md)(Tq:lg[t6×Fi])(N:lg t6)(sc:iV):Gm:={ m.gm [] N sc [] Tq with calm:=false,fn:=λx=>Tq.lookup x,loops:=false,rs:=false,tr:=false,mkc:=λuw=>sy }
def Md.gl(m:Md)(T:lg[t6×Fi])(U:lg[(Nat×t6)×Fi])(Tq:lg[t6×Fi])(l:Lm):Gm:={ m.gm T l.cap l.scope U Tq with fnB:=false,loops:=false,rs:=false,tr:=false }
def Md.lams(m:Md)(T:lg[t6×Fi])(U:lg[(Nat×t6)×Fi])(Tq:lg[t6×Fi])(l:Lm):lg W->M W:=lamF l.cap.length (ev l.body (m.gl T U Tq l)).val
structure Md.Ok(Y:Th)(m:Md)(K:aB)(mg:t6->Option aD):Prop where
 hK:K=Y.K
 con:∀x w,m.con x=sr w->∃v u,(∀ρ H,RV Y ρ H w v)/\RelV v u/\(mg x=sr u\/(mg x=sy/\bootBuiltins x=sr u))
 bi:∀x,m.bi x=t8->mg x=sy
 fld:FOk Y m.fld
 isa:Amy Y m.isa
 exc:∀x c,m.exc x=sr c->Y.xf c=sy/\Vz K (Y.cl c)/\mg x=sr (.ref (Y.cl c))
 mdc:∀x D,m.mdc x=sr D->∃a,Auv K a D/\mg x=sr (.ref a)
 hcl:∀x k,m.hcl x=sr k->mg x=sr (.ref (Y.cl k))
 exm:∀k c,m.exm k c=t8->dN Y.K (.ref (Y.cl c)) (.ref (Y.cl k))=sr t8
 exn:∀k c,m.exn k c=t8->dN Y.K (.ref (Y.cl c)) (.ref (Y.cl k))=sr t7:=by exact λuw uw z=>nomatch z
 pl:∀c,Y.pl c=t8:=by exact λuw=>rfl
 mkl:∀x c,m.mkl x=sr c->mg x=sr (.ref (Y.cl c))/\lU K (Y.cl c)=t8/\cG K (.ref (Y.cl c))=t8
def XiT(Y:Th)(m:Md)(P:bY)(w:dO)(K:aB)(mg:t6->o9 aD)(base:dD)(k:Nat):Prop:=
 ∀x c dv,m.exi x=sr[u6 c dv]->∃f,Y.xf c=sr f/\mg x=sr .ref[Y.cl[c]]/\∃(fI:aG)(fd:eN)(ps:lg t6)(dvs:lg V)(ds:lg aD),Ad8 K Y.cl[c] fI=t8/\cG K .ref[Y.cl[c]]=t8/\iT K .ref[fI]=sr .type["function"]/\
  (∀cm,Hl P w K mg base (CXo P w) k fI fd ps (Akc Y.cl[c] f) cm)/\Binds K fd ps ds/\Vals dvs ds/\dvs.length=dv.length
def Tbl(Y:Th)(P:bY)(w:dO)(K:aB)(mg:t6->o9 aD)(base:dD)(k:Nat)(T:lg[t6×Fi]):Prop:=
 ∀x i,T.lookup x=sr i->∃(fa:aG)(fd:eN)(ps:lg t6)(df:cF),M4 K mg x df ps fa fd/\Hl P w K mg base (CXo P w) k fa fd ps (spF Y i.g) t8/\∃dvs ds,Cz D.Fv i.dv=sr dvs/\Vals dvs ds/\Binds K fd ps ds
def QTb(Y:Th)(P:bY)(w:dO)(K:aB)(mg:t6->o9 aD)(base:dD)(k:Nat)(T:lg[t6×Fi]):Prop:=
 ∀x i,T.lookup x=sr i->∃(fa:aG)(fd:eN)(ps:lg t6)(df:cF),M4 K mg x df ps fa fd/\Hl P w K mg base (CXo P w) k fa fd ps (spF Y i.g) t7/\∃dvs ds,Cz D.Fv i.dv=sr dvs/\Vals dvs ds/\Binds K fd ps ds
def Bmo(mg:t6->o9 aD)(base:dD):Prop:=∃bm o,mg "__builtins__"=sr .ref[bm]/\bm≠builtinsNs/\bm≠mainGlobals/\base.get? bm=sr o/\o.cls=.type "module"/\o.dict=sr builtinsNs/\o.data=.plain
structure Ayy(Y:Th)(K:aB)(mg:t6->Option aD)(base:dD)(cdv:aD)(qual:t6)(j:Nat)(q:t6):Prop where
 code:∃c P,cdv=.ref c/\Y.tb[j]?=sr P/\fJ K c P=t8
 blt:Bmo mg base
 qn:qual ++ ".<locals>." ++ "<lambda>"=q
def MTb(Y:Th)(P:bY)(w:dO)(K:aB)(mg:t6->o9 aD)(base:dD)(k:Nat)(U:lg[(Nat×t6)×Fi]):Prop:=
 ∀c n i,U.lookup[u6 c n]=sr i->∃(fa:aG)(fd:eN)(ps:lg t6),Cls K Y.cl[c]/\Meth K Y.cl[c] n fa/\Hl P w K mg base (CXo P w) k fa fd ps (spF Y i.g) t8/\Binds K fd ps []/\∃dvs ds,Cz D.Fv i.dv=sr dvs/\Vals dvs ds/\Binds K fd ps ds
section
variable{Y:Th}{P:bY}{w:dO}{K:aB}{mg:t6->o9 aD}{base:dD}{m:Md}{T Tq:lg (t6×Fi)}{U:lg ((Nat×t6)×Fi)}{k j:Nat}{mk:o9 (Nat×t6)}{lam:o9 (Lm->lg W->M W)}
def QTb.nil:QTb Y P w K mg base k []:=(λx i h=>by cases h)
def QTb.up(a:QTb Y P w K mg base k Tq)(h:k<=j):QTb Y P w K mg base j Tq:=(λx i e=>by
 let(b,fd,ps,c,D,F,z):=a x i e;exact(b,fd,ps,c,D,F.mono h,z))
def Tbl.nil:Tbl Y P w K mg base k []:=(λx i h=>by cases h)
def MTb.nil:MTb Y P w K mg base k []:=(λc n i h=>by cases h)
theorem Tbl.body(hT:Tbl Y P w K mg base k T)(hU:MTb Y P w K mg base k U)(hI:XiT Y m P w K mg base j)(hj:j < k)(M:m.Ok Y K mg)(nd:N.Nodup)(d:Fq (k+1) A.deeper[envOfC qual sc s.heap.objs.size f r] t8)(hQ:QTb Y P w K mg base k Tq)(O:∀j q,mk=sr[u6 j q]->Ayy Y K mg base r qual j q)(t:∀L,lam=sr L->∀l,Ph l->Xu Y P w K mg base k l L[l]):
  (m.gm T N sc U Tq mk lam).SOk Y (Abj (CXo P w) P w K mg base N qual sc f r A outer s H E t8) (λa=>E) where
 g:={
  hK:=M.hK
  hu:=by have:=d.un;show (A.deeper[envOfC qual sc s.heap.objs.size f r]).units+64 < cLine;omega
  N:=rfl
  nd:=nd
  sc:=rfl
  fn:=λx i h=>by
   let(p,fd,ps,df,D,F,z):=hT x i h;exact(k,p,fd,ps,df,t8,D,F,d.mono fM[k],z)
  ps:=by
    intro aa σ H s e s' I h;let(ea,cls,H',o,rfl,F,ox,q):=h;exact I.fly_on rfl rfl rfl F ox λu F' J=>(ea,cls,H',o,rfl,F',J,q)
  px:=λa=>(rfl,rfl,rfl,Aws)
  con:=M.con
  bi:=M.bi
  fld:=M.fld
  isa:=M.isa
  calm:=λa=>rfl
  fnB:=λa a=>rfl
  mdc:=M.mdc
  mt:=λc n i h=>by
   let(p,fd,ps,C,v,F,z):=hU c n i h;exact(k,p,fd,ps,t8,C,v,F,d.mono fM[k],z)
  mkc:=λx c i h=>by
   let(c',X,Q):=oH.mp h;let(i',h3,h4):=bG.mp Q;cases h4;let(G,B,y):=M.mkl x c X;let(p,fd,ps,C,v,F,z):=hU c _ i h3;exact(G,k,p,fd,ps,t8,(B,v.at_,v.fn,y),F,d,z)
  mkr:=λj q h=>by
   let(z1,z2,z3):=O j q h;exact((z1,λa=>rfl,z2),z3)
  lam:=λL h l S=>(k,t L h l S,d.mono fM[k])
  fnq:=λx i h=>by
   let(p,fd,ps,df,D,F,z):=hQ x i h;exact(k,p,fd,ps,df,D,F,((λz=>nomatch z),(d.mono fM[k]).dp,(d.mono fM[k]).un),z) }
 hp:=λa=>Auo
 hf:=λa=>rfl
 rs:=λa=>(E,rfl,λaa σ H s e cls args h' n I hx q=>I.fly_made rfl rfl rfl hx λu F cx=>(e,cls,H,_,rfl,F,cx.ok,q),λaa σ H s e C od I h0 he q=>I.fly_held rfl rfl rfl h0 he λu F cx=>(e,.ref C,Xo H e,_,rfl,F,cx.ok,q _ (λb hb=>Ew hb) Mh),rfl)
 exi:=λa x c dv h=>by
  let(f,X,Q,fI,fd,ps,Z,ds,G,B,y,F,q5,q6,q7):=hI x c dv h;exact(f,X,(fI,fd,ps,j,Z,ds,G,B,y,F,d.mono (),q5,q6,q7),Q)
 hcl:=M.hcl
 exm:=M.exm
 exn:=M.exn
 tr:=λa=>(rfl,rfl)
 exc:=M.exc
 pl:=M.pl
def Tbl.up(a:Tbl Y P w K mg base k T):Tbl Y P w K mg base (k+2) T:=(λx i h=>by
 let(b,fd,ps,c,D,F,z):=a x i h;exact(b,fd,ps,c,D,F.mono (),z))
def MTb.up(b:MTb Y P w K mg base k U):MTb Y P w K mg base (k+2) U:=(λc n i h=>by
 let(d,fd,ps,C,a,F,z):=b c n i h;exact(d,fd,ps,C,a,F.mono (),z))
def Tbl.fnM{i qn:t6}{st:cF}{N ps:lg t6}{f:aG}{fd:eN}{b:MS}(t:Tbl Y P w K mg base k T)(r:MTb Y P w K mg base k U)(v:XiT Y m P w K mg base j)(o:j < k)(M:m.Ok Y K mg)(F:Fun K i qn st f fd)(g:Ek N ps Ai[st])(u:QTb Y P w K mg base k Tq)(c:∀j q,mk=sr[u6 j q]->Ayy Y K mg base fd.code qn j q)(a:∀L,lam=sr L->∀l,Ph l->Xu Y P w K mg base k l L[l])(e:Jr[Aw st][m.gm T N Ai[st] U Tq mk lam]=b):Hl P w K mg base (CXo P w) (k+2) f fd ps spF[Y][Br ps.length N.length b] t8:=by
 refine Bg1 F g λx A outer s H E p n=>?_;rw[<-e];subst p;exact K1 _ _ _ _ (t.body r v o M g.nd n u c a)
def Tbl.fn{x:t6}{st:cF}{N ps:lg t6}{f:aG}{fd:eN}{b:MS}(hT:Tbl Y P w K mg base k T)(hU:MTb Y P w K mg base k U)(hI:XiT Y m P w K mg base j)(hj:j < k)(M:m.Ok Y K mg)(D:M4 K mg x st ps f fd)(Sc:Ek N ps Ai[st])(hQ:QTb Y P w K mg base k Tq)(hmk:∀j q,mk=sr[u6 j q]->Ayy Y K mg base fd.code x j q)(hlam:∀L,lam=sr L->∀l,Ph l->Xu Y P w K mg base k l L[l])(e:Jr[Aw st][m.gm T N Ai[st] U Tq mk lam]=b):Hl P w K mg base (CXo P w) (k+2) f fd ps spF[Y][Br ps.length N.length b] t8:=hT.fnM hU hI hj M D.fn Sc hQ hmk hlam e
def Tbl.cons{x:t6}{st:cF}{N ps:lg t6}{f:aG}{fd:eN}{b:MS}{dv:lg W}{c:lg V}{o:lg aD}(r:Tbl Y P w K mg base k T)(v:MTb Y P w K mg base k U)(A:XiT Y m P w K mg base j)(t:j < k)(M:m.Ok Y K mg)(D:M4 K mg x st ps f fd)(B:Ek N ps Ai[st])(s:Cz _root_.D.Fv dv=sr c)(hd:Vals c o)(u:Binds K fd ps o)(z:QTb Y P w K mg base k Tq)(g:∀j q,mk=sr[u6 j q]->Ayy Y K mg base fd.code x j q)(d:∀L,lam=sr L->∀l,Ph l->Xu Y P w K mg base k l L[l])(e:Jr[Aw st][m.gm T N Ai[st] U Tq mk lam]=b):Tbl Y P w K mg base (k+2) ((u6 x (Br ps.length N.length b,ps.length,dv))::T):=(λy i h=>by
 rw[cY] at h;split at h
 .rename_i n;let n:=by simpa using n
  subst n;cases h;exact(f,fd,ps,st,D,r.fn v A t M D B z g d e,c,o,s,hd,u)
 .exact r.up y i h)
def MTb.cons{c:Nat}{n y qn:t6}{st:cF}{N ps:lg t6}{f:aG}{fd:eN}{b:MS}{dv:lg W}{d:lg V}{s:lg aD}(v:MTb Y P w K mg base k U)(G:Tbl Y P w K mg base k T)(I:XiT Y m P w K mg base j)(B:j < k)(M:m.Ok Y K mg)(C:Cls K Y.cl[c])(A:Meth K Y.cl[c] n f)(F:Fun K y qn st f fd)(J:Ek N ps Ai[st])(p:Binds K fd ps [])(z:Cz _root_.D.Fv dv=sr d)(hd:Vals d s)(E:Binds K fd ps s)(H:QTb Y P w K mg base k Tq)(o:∀j q,mk=sr[u6 j q]->Ayy Y K mg base fd.code qn j q)(g:∀L,lam=sr L->∀l,Ph l->Xu Y P w K mg base k l L[l])(e:Jr[Aw st][m.gm T N Ai[st] U Tq mk lam]=b):MTb Y P w K mg base (k+2) ((u6 (u6 c n) (Br ps.length N.length b,ps.length,dv))::U):=(λx u i h=>by
 rw[cY] at h;split at h
 .rename_i r;let r:(u6 x u)=(u6 c n):=by simpa using r
  cases r;cases h;exact(f,fd,ps,C,A,G.fnM v I B M F J H o g e,p,d,s,z,hd,E)
 .exact v.up x u i h)
def QTb.cons{x:t6}{st:cF}{N ps:lg t6}{f:aG}{fd:eN}{b:MS}{dv:lg W}{d:lg V}{u:lg aD}(p:QTb Y P w K mg base k Tq)(M:m.Ok Y K mg)(D:M4 K mg x st ps f fd)(G:Ek N ps Ai[st])(L:Cz _root_.D.Fv dv=sr d)(hd:Vals d u)(O:Binds K fd ps u)(e:Jr[Aw st][m.gq Tq N Ai[st]]=b):QTb Y P w K mg base (k+2) ((u6 x (Br ps.length N.length b,ps.length,dv))::Tq):=(λy i h=>by
 rw[cY] at h;split at h
 .rename_i t;let t:=by simpa using t
  subst t;cases h;refine(f,fd,ps,st,D,?_,d,u,L,hd,O);refine Bg1 D.fn G λB A outer s H E hc n=>?_;rw[<-e];refine K1 _ _ _ _ { hp:=λz=>(nomatch z),hf:=λa=>rfl,rs:=λz=>(nomatch z),exi:=λz=>(nomatch z),hcl:=M.hcl,exm:=M.exm,exn:=M.exn,tr:=λz=>(nomatch z),exc:=M.exc,pl:=M.pl,g:={
   hK:=M.hK
   hu:=by have:=n.un;show (A.deeper[envOfC _ _ _ _ B]).units+64 < cLine;omega
   N:=rfl
   nd:=G.nd
   sc:=rfl
   fn:=λx i h=>by
    let(r,fd,ps,v,D,F,z):=p x i h;exact(k,r,fd,ps,v,t7,D,F,n.mono fM[k],z)
   ps:=by
    rintro aa σ H s e s' I ⟨S,cls,X,o,rfl,F,J,q⟩;exact I.fly_on rfl rfl rfl F J λQ Z l=>(S,cls,X,o,rfl,Z,l,q)
   px:=λz=>nomatch z
   con:=M.con
   bi:=M.bi
   fld:=M.fld
   isa:=M.isa
   calm:=λz=>nomatch z
   fnB:=λa a=>rfl
   mdc:=M.mdc
   mt:=λa a a z=>nomatch z
   mkc:=λa a a z=>nomatch z
   mkr:=λa a z=>nomatch z
   lam:=λa z=>nomatch z
   fnq:=λx i h=>by
    let(r,fd,ps,v,D,F,z):=p x i h;exact(k,r,fd,ps,v,D,F,n.mono fM[k],z) } }
 .exact p.up () y i h)
def Tbl.lams(J:Tbl Y P w K mg base k T)(u:MTb Y P w K mg base k U)(M:m.Ok Y K mg)(L:QTb Y P w K mg base k Tq)(S:Ph l):Xu Y P w K mg base (k+2) l (m.lams T U Tq l):=by
 refine Bi1 S λcl f t A outer s H E b=>?_;exact(Gb (Y:=Y) l.body (m.gl T U Tq l) (cxL P w K mg base l cl f .ref[t] A outer s H E t8) (λd=>E) {
  hK:=M.hK
  hu:=by have:=b.un;show (A.deeper[lN l.qual l.scope s.heap.objs.size f .ref[t] cl]).units+64 < cLine;omega
  N:=rfl
  nd:=S.nd
  sc:=rfl
  fn:=λx i h=>by
   let(a,fd,ps,r,D,F,z):=J x i h;exact(k,a,fd,ps,r,t8,D,F,b.mono fM[k],z)
  ps:=by
    rintro aa σ H s e s' I ⟨ea,cls,H',o,rfl,F,G,q⟩;exact I.fly_on rfl rfl rfl F G λh'' F' p=>(ea,cls,H',o,rfl,F',p,q)
  px:=λz=>nomatch z
  con:=M.con
  bi:=M.bi
  fld:=M.fld
  isa:=M.isa
  calm:=λd=>rfl
  fnB:=λz=>nomatch z
  mdc:=M.mdc
  mt:=λc n i h=>by
   let(a,fd,ps,C,g,F,z):=u c n i h;exact(k,a,fd,ps,t8,C,g,F,b.mono fM[k],z)
  mkc:=λx c i h=>by
   let(t,Z,X):=oH.mp h;let(i',Q,O):=bG.mp X;cases O;let(B,y,v):=M.mkl x c Z;let(a,fd,ps,C,g,F,z):=u c _ i Q;exact(B,k,a,fd,ps,t8,(y,g.at_,g.fn,v),F,b,z)
  mkr:=λd d z=>nomatch z
  lam:=λd z=>nomatch z
  fnq:=λx i h=>by
   let(a,fd,ps,r,D,F,z):=L x i h;exact(k,a,fd,ps,r,D,F,((λz=>nomatch z),(b.mono fM[k]).dp,(b.mono fM[k]).un),z) }).val
end
def Ayz(K:aB)(cl:Nat->aG)(xf:Nat->o9 t6)(tb:lg aG:=[]):Th:=(K,cl,xf,λuw=>t8,tb)
def AllP{α:Type}(P:t6->α->Prop):lg[t6×α]->Prop
 |[]=>True
 |p::l=>P p.1 p.2/\AllP P l
theorem AllP.at{d:Type}{P:t6->d->Prop}:∀{L:lg[t6×d]},AllP P L->∀x a,L.lookup x=sr a->P x a
 |[],_,x,a,h=>by cases h
 |(y,b)::l,hp,x,a,h=>by
  rw[cY] at h;split at h
  .rename_i e;let e:=by simpa using e
   subst e;cases h;exact hp.1
  .exact AllP.at hp.2 x a h
def AllB(P:t6->Prop):lg t6->Prop
 |[]=>True
 |p::l=>P p/\AllB P l
theorem AllB.at:∀{L:lg t6},AllB P L->∀x,L.contains x=t8->P x
 |[],_,x,h=>by trivial
 |y::l,hp,x,h=>by
  rw[qZ,fV] at h;rcases h with e|h
  .let e:=by simpa using e
   subst e;exact hp.1
  .exact AllB.at hp.2 x h
def Ay0(Y:Th)(mg:t6->o9 aD)(x:t6)(w:W):Prop:=∃v u,(∀ρ H,RV Y ρ H w v)/\RelV v u/\(mg x=sr u\/(mg x=sy/\bootBuiltins x=sr u))
section
def Fy{i:Int}{t:Tok}(h:mg x=sr[.int i t]):Ay0 Y mg x .int[i]:=(_,_,λuw uw=>.int i,(t,rfl),.inl h)
def Ar9{t:Tok}(h:mg x=sr[.str z t]):Ay0 Y mg x .str[z]:=(_,_,λuw uw=>.str z,(t,rfl),.inl h)
def Abu(h:mg x=sy)(hb:bootBuiltins x=sr .type[n]):Ay0 Y mg x .ty[n]:=(_,_,λuw uw=>.ty n,rfl,.inr (h,hb))
def Gk{c:Nat}(h:mg x=sr .ref[Y.cl[c]]):Ay0 Y mg x .cls[c]:=(_,_,λuw uw=>.cls c,rfl,.inl h)
end
def addrs(cs:lg aG)(c:Nat):aG:=cs.getD c 0
def isB(o:o9 o9[aD])(n:String):Bool:=match o with
 |some (sr (.builtin m))=>m==n
 |_=>t7
def Afz(h:isB o n=t8):o=sr sr[.builtin[n]]:=by
 unfold isB at h;split at h
 .rw[eq_of_beq h]
 trivial
def isN(o:o9 o9[aD]):Bool:=match o with
 |some sy=>t8
 |_=>t7
def Akv(h:isN o=t8):o=sr sy:=by
 unfold isN at h;split at h
 .rfl
 trivial
def Asa(K:aB)(C:aG):Bool:=(sG K C).isSome&&isB (bZ K .ref[C] "__getattribute__") "BaseException.__getattribute__"&&isN[bZ K .ref[C] "__getattr__"]&&
 isB (bZ K .ref[C] "__class__") "object.__class__"&&decide[lY K C .type["BaseException"]=sr t8]&&decide[lY K C .type["object"]=sr t8]
def Asb{K:aB}{C:aG}(h:Asa K C=t8):V0 K C:=by
 unfold Asa at h;simp[dh] at h;let(((((a,b),c),d),e),f):=h;exact(a,Afz b,Akv c,Afz d,e,f)
def Ap3(v:aD)(n:String):Bool:=match v with
 |.type m=>m==n
 |_=>t7
def X7(h:Ap3 v n=t8):v=.type n:=by
 unfold Ap3 at h;split at h
 .rw[eq_of_beq h]
 trivial
def refs(l:lg aD):Bool:=l.all λa=>match a with|.ref _=>t8|_=>t7
def Bke(n:Nat)(l:lg aD):Bool:=refs l.take[n]&&(match l.drop n with
 |[a,b,c,d]=>Ap3 a "ValueError"&&Ap3 b "Exception"&&Ap3 c "BaseException"&&Ap3 d "object"
 |_=>t7)
nonrec def Beg{n:Nat}(h:Bke n l=t8):∃own,l=own ++ Ae9/\refs own=t8:=by
 unfold Bke at h;rw[aL] at h;refine(_,?_,h.1);let f:=h.2;split at f
 .rename_i a b c d e;simp[aL] at f;let(((k,j),i),g):=f;rw[X7 k,X7 j,X7 i,X7 g] at e;exact(pD n l).symm.trans (by rw[e])
 trivial
def xsB(K:aB)(C:aG)(f:t6):Bool:=(match sG K C with
 |some cd=>Bke (cd.mro.length - 4) cd.mro&&cd.hasDict
 |none=>t7)&&isB (bZ K .ref[C] "__setattr__") "object.__setattr__"&&isN[bZ K .ref[C] f]&&decide[lY K C .type["object"]=sr t8]
nonrec def Bg8{K:aB}{C:aG}{f:t6}(h:xsB K C f=t8):XsK K C f:=by
 unfold xsB at h;simp[dh] at h;let(((a,b),c),d):=h;refine(?_,Afz b,Akv c,d);split at a
 .rename_i j e;rw[aL] at a;let(own,i,g):=Beg a.1;exact(j,own,e,i,g,a.2)
 trivial
def xbB(K:aB)(B:aG):Bool:=isB (rN K .ref[B] "__getattribute__") "type.__getattribute__"&&zK K B .type["type"]&&(match zL K .ref[B] .type["type"] "__init__" with
 |some (.val (.builtin m))=>m=="ValueError.__init__"
 |_=>t7)
nonrec def Bg9{K:aB}{B:aG}(h:xbB K B=t8):XbK K B:=by
 unfold xbB at h;simp[aL] at h;let((a,b),c):=h;refine(Afz a,b,?_);split at c
 .rename_i m e;rw[e,eq_of_beq c]
 .cases c
def Beh(K:aB)(f:aG):Bool:=match iT K .ref[f] with
 |some v=>Ap3 v "function"
 |none=>t7
nonrec def Asc{K:aB}{f:aG}(h:Beh K f=t8):iT K .ref[f]=sr .type["function"]:=by
 unfold Beh at h;split at h
 .rename_i v e;rw[e,X7 h]
 trivial
def Asd(K:aB)(cs:lg aG)(L:lg[Nat×Nat×Bool]):Bool:=L.all λt=>decide[lA K .ref[addrs cs t.1] .ref[addrs cs t.2.1]=sr t.2.2]
def Ay1(K:aB)(cs:lg aG)(L:lg Nat):Bool:=L.all λc=>Asa K (addrs cs c)&&decide[lA K .ref[addrs cs c] .type["ValueError"]=sr t8]
def Ay2(N:lg[Nat×Nat×Bool])(L:lg Nat)(c:Nat):W->o9 Bool
 |.cls k=>if L.contains c then (N.find? λt=>t.1==c&&t.2.1==k).map (·.2.2) else sy
 |.ty n=>if n=="ValueError"&&L.contains c then sr t8 else sy
 |_=>sy
nonrec def Bkf{tb:lg aG}{xf:Nat->o9 t6}{K:aB}{g:lg aG}{N:lg[Nat×Nat×Bool]}{L:lg Nat}(p:Asd K g N=t8)(o:Ay1 K g L=t8):Amy[Ayz K addrs[g] xf tb][Ay2 N L]:=(⟨λc k b h=>by
 let i:∀c,L.contains c=t8->V0 K (addrs g c)/\_:=λc d=>by
  let z:=bB.mp o c (by simpa using d)
  rw[aL] at z;exact(Asb z.1,dg z.2)
 unfold Ay2 at h;split at h
 .rename_i k;split at h
  .rename_i d;let(t,j,rfl):=bG.mp h;let m:=List.mem_of_find?_eq_some j;let hp:=List.find?_some j;rw[aL] at hp;let r:t.1=c:=by simpa using hp.1
   let q:t.2.1=k:=by simpa using hp.2
   let z:=dg[bB.mp p t m];rw[r,q] at z;exact((i c d).1,_,rfl,z)
  .cases h
 .split at h
  .rename_i n d;rw[aL] at d;let e:n="ValueError":=by simpa using d.1
   subst e;cases h;exact((i c d.2).1,_,rfl,(i c d.2).2)
  .cases h
 .cases h⟩)
def Auy(K:aB)(C:aG):Bool:=pI K C aEd&&mC K C&&rM K C&&isB (bZ K .ref[C] "__setattr__") "object.__setattr__"
def Ay3{K:aB}{C:aG}(h:Auy K C=t8):Cls K C:=by
 unfold Auy at h;simp[aL] at h;let(((a,b),c),d):=h;exact(a,b,c,Afz d)
def Ase(K:aB)(cs:lg aG)(L:lg[Nat×t6]):Bool:=L.all λp=>Auy K (addrs cs p.1)&&isN[bZ K .ref[addrs cs p.1] p.2]
def Ay4(K:aB)(cs:lg aG)(L:lg[Nat×t6]):Bool:=L.all λp=>Asa K (addrs cs p.1)&&mC K (addrs cs p.1)&&isN[bZ K .ref[addrs cs p.1] p.2]
theorem mem_lookup{b:Type}{c:Nat}{f:b}:∀{L:lg[Nat×b]},L.lookup c=sr f->(u6 c f)∈L
 |[],h=>by cases h
 |(d,g)::L,h=>by
  rw[cY] at h;split at h
  .simp_all
  .exact bC _ mem_lookup[h]
theorem Bkg{tb:lg aG}{K:aB}{g:lg aG}{L X:lg[Nat×t6]}(h:Ase K g L=t8)(i:Ay4 K g X=t8):FOk[Ayz K addrs[g] (λc=>X.lookup c) tb][λb c f=>if b then X.lookup c==sr f else L.contains[u6 c f]]:=(λc f d=>by
 let d:L.contains[u6 c f]=t8:=d;let z:=bB.mp[h][u6 c f][by simpa using d]
 rw[aL] at z;exact(Ay3 z.1,Akv z.2),λc f d=>by
 let e:=eq_of_beq d;let z:=bB.mp i (u6 c f) mem_lookup[e];rw[aL,aL] at z;exact(e,Asb z.1.1,z.1.2,Akv z.2))
def Asf(K:aB)(cs:lg aG)(L:lg[Nat×Nat]):Bool:=L.all λt=>decide[dN K .ref[addrs cs t.2] .ref[addrs cs t.1]=sr t8]
def Bkh{K:aB}{d:lg aG}{L:lg[Nat×Nat]}(h:Asf K d L=t8)(k c:Nat)(e:L.contains[u6 k c]=t8):dN K .ref[addrs d c] .ref[addrs d k]=sr t8:=(
 dg bB.mp[h][u6 k c][by simp_all])
def Bei{K:aB}{a:aG}{D:lg[t6×t6]}(h:aCx[aCd λb=>K.lookup b][λb=>K.lookup b][a][D.map λp=>(u6 p.1 qQ[.str[p.2]])]=t8):Auv K a D:=λhp x=>KTD.text_of_look (λb o q=>x b o q) h
def Auz{P:bY}{w:dO}{K:aB}{mg mb:t6->o9 aD}{k:Nat}{fa a:aG}{fd:eN}{x:t6}{sp:Sp}{c:aN}{G:lg aD}{ns:lg Int}{tabs:lg aG}(KX:K.In c.heap)(J:c.heap.Ns mainGlobals mg)(f:c.heap.Ns builtinsNs mb)(hbb:∀x:t6,x≠"__name__"->mb x=bootBuiltins x)(Z:c.heap.NoLimit)(hg:c.gens=#[])(T:c.heap.get? a=sr { cls:=.type "list",data:=.seq G.toArray })(hi:vB G ns)(hl:ns.length<=sizeLine)(hr:Fq k callerA)(hK0:aAt K=t8)(U:∀P∈tabs,isCodeTable c.heap P/\c.heap.get? P=sr mQ[#[]])(hbm:∃N ob,mg "__builtins__"=sr .ref[N]/\N≠builtinsNs/\c.heap.get? N=sr ob/\ob.cls=.type "module"/\ob.dict=sr builtinsNs/\ob.data=.plain)(F:∀base:dD,K.In base->base.Ns mainGlobals mg->Bmo mg base->Hl P w K mg base (CXo P w) k fa fd [x] sp)(hbind:∀(s:aN)(u:aD),zV s fd ([u],[]) [(x,u)])(Y:∀H:Hp,(∀P∈tabs,H P=sr .tbl[#[]])->((∃o,H a=sr[.frz o .lst[ns.map[V.int]]])\/∃(o:tu)(I:Array aD)(n:Nat),K.lookup a=sr o/\o.cls=.type "list"/\o.dict=sy/\o.data=.seq I n/\I.size<=sizeLine/\Vals ns.map[V.int] I.toList)->sp [.ref a] H (λv B=>v=.bl t8) λB B B=>False):
  codeAny[model P w][callerA][.call .ref[fa] ([.ref a],[])][λr l=>r=.ok .ret[.bool[t8]]/\OldK c.heap l.heap/\l.os=c.os/\qM l.gens][c]:=by
 let rv:=Aia hi;let X:=hi.length;let nta:a∉tabs:=λz=>by
  have:=(U a z).2;rw[T] at this;cases this
 let E:∀H:Hp,(∀b,H b=sy\/(b∈tabs/\H b=sr .tbl[#[]])\/(b=a/\K.lookup a=sy/\∃o xs,H b=sr[.frz o .lst[xs]]))->(∀P∈tabs,H P=sr .tbl[#[]])->HOk P w H c.heap->sp [.ref a] H (λv B=>v=.bl t8) (λB B B=>False)->
   codeAny[model P w][callerA][.call .ref[fa] ([.ref a],[])][λr l=>r=.ok .ret[.bool[t8]]/\OldK c.heap l.heap/\l.os=c.os/\qM l.gens][c]:=by
  intro H hO hTt hok hS;let g:∀{b:aG} {o:tu},c.heap.get? b=sr o->H b=sy->(Ajv c.heap H).get? b=sr o:=λe n=>Awb e n;let no:∀{b:aG} {o:tu},c.heap.get? b=sr o->o≠mQ #[]->(b=a->K.lookup a=sy->False)->H b=sy:=λ{b o} e d d'=>by
   rcases hO b with z|⟨z,_⟩|⟨z,y,_⟩
   .exact z
   .have:=(U b z).2;rw[e] at this;cases this;exact absurd rfl d
   .exact(d' z y).elim
  let noD:∀{b:aG} {o:tu} {es:Array DictEntry} {ep:Nat},c.heap.get? b=sr o->o.data=.dict es ep->H b=sy:=λ{b o es ep} e d=>no e (λz=>by rw[z] at d;cases d) λz B=>by
   subst z;rw[T] at e;cases e;cases d
  let A:∀{b:aG} {m:t6->o9 aD},c.heap.Ns b m->(Ajv c.heap H).Ns b m:=λ{b m} ⟨o,es,ep,e,d,r⟩=>(o,es,ep,g e (noD e d),d,r);let hKb:K.In[Ajv c.heap H]:=λb o e=>g (KX b o e) (no (KX b o e) (λz=>by
   let h2:=bB.mp hK0 (u6 b o) PySem.W.mem_of_lookupK[e];subst z;exact absurd (show t7=t8 from h2) cR) λz y=>by
   subst z;rw[y] at e;cases e)
  let(N,ob,m1,m2,S,m4,m5,m6):=hbm;let hM:Mod K mg (Ajv c.heap H):=(hKb,A J,(mb,A f,hbb),let ⟨mc,h1,h2⟩:=Z;(mc,A h1,h2));let nbm:N≠mainGlobals:=by
   intro z;let(o,es,ep,e,d,_):=J;rw[z,e] at S;cases S;rw[d] at m6;cases m6
  let hbH:H N=sy:=no S (by intro z;rw[z] at m4;cases m4) (by
   intro z _;subst z;rw[T] at S;cases S;simp at m4)
  let hB:Bmo mg (Ajv c.heap H):=(N,ob,m1,m2,nbm,g S hbH,m4,m5,m6);let e0:Ad4 P w K mg (Ajv c.heap H) callerA [] c H:=(rfl,hM,λb o e=>Bbq e,oM[PySem.W.hideAll_size _ _],trivial,λb f=>absurd (show b∈([]:lg aG) from f) (),hok,.of_eq hg)
  refine gU[(F _ hKb A[J] hB).run callerA [] c H ([.ref a],[]) [.ref a] [.ref a] _ _ hr e0 (hbind c .ref[a]) (.cons rfl .nil) hS] λr l h=>?_;cases r with
  |error e=>
   let(_,_,_,_,_,_,_,z):=h;exact z.elim
  |ok fl=>
   cases fl with
   |next=>exact bT h
   |brk=>exact bT h
   |cont=>exact bT h
   |ret u=>
    let(v,H',os,bare,un,C,r',q):=h;let q':v=.bl t8:=q;subst q';obtain rfl:u=tH t8:=r';let t:∀b o,c.heap.get? b=sr o->(b∉tabs->l.heap.get? b=sr o)/\(b∈tabs->o=mQ #[]/\∃ps,l.heap.get? b=sr mQ[ps]):=λb o e=>by
     refine(λf=>?_,λf=>?_)
     .rcases hO b with z|⟨z,_⟩|⟨z,y,ob,xs,w'⟩
      .exact un.keep b o e z (by intro z;exact absurd (show b∈([]:lg aG) from z) ()) ()
      .exact absurd z f
      .let z2:=un.frzs b ob _ w';let(e1,_):=hok b _ w';let(e2,_):=C b _ z2;rw[e] at e1;cases e1;exact e2
     .let e2:=(U b f).2;rw[e] at e2;let(more,z):=un.tbls b _ (hTt b f);exact(cA e2,_,C b _ z)
    refine(rfl,(λb o e=>?_,λb o e=>?_),os,bare)
    .by_cases f:b∈tabs
     .let(rfl,ps,L):=(t b o e).2 f;exact .inr[.inl ((U b f).1,rfl,#[],ps,rfl,by rw[Array.empty_append];exact L)]
     .exact .inl[(t b o e).1 f]
    .by_cases f:b∈tabs
     .let(rfl,ps,L):=(t b o e).2 f;exact(_,L)
     .exact(o,(t b o e).1 f)
 cases hk:K.lookup a with
 |some o=>
  let e:=KX a o hk;rw[T] at e;cases e;let hH:∀P∈tabs,(λb=>if b∈tabs then sr HO.tbl[#[]] else sy:Hp) P=sr .tbl[#[]]:=λP L=>di L
  refine E[λb=>if b∈tabs then sr .tbl[#[]] else sy][λb=>?_][hH][λb u z=>?_][Y _ hH (.inr (_,G.toArray,_,hk,rfl,rfl,rfl,by rw[cC,X];exact hl,by simpa using rv))]
  .by_cases f:b∈tabs
   .exact .inr[.inl (f,di f)]
   .exact .inl dm[f]
  .by_cases f:b∈tabs
   .let p:=(di f).symm.trans z;cases p;exact(U b f).2
   .let p:=(dm f).symm.trans z;cases p
 |none=>
  let hH:∀P∈tabs,(λb=>if b∈tabs then sr HO.tbl[#[]] else if b=a then sr (HO.frz { cls:=.type "list",data:=.seq G.toArray } (.lst ns.map[V.int])) else sy:Hp) P=sr .tbl[#[]]:=λP L=>di L
  refine E (λb=>if b∈tabs then sr .tbl[#[]] else if b=a then sr (.frz { cls:=.type "list",data:=.seq G.toArray } (.lst ns.map[V.int])) else sy) (λb=>?_) hH (λb u z=>?_) (Y _ hH (.inl ({ cls:=.type "list",data:=.seq G.toArray },(dm nta).trans di[rfl])))
  .by_cases f:b∈tabs
   .exact .inr[.inl (f,di f)]
   .by_cases i:b=a
    .exact .inr[.inr (i,hk,_,_,(dm f).trans di[i])]
    .exact .inl[(dm f).trans dm[i]]
  .by_cases f:b∈tabs
   .let p:=(di f).symm.trans z;cases p;exact(U b f).2
   .by_cases i:b=a
    .let p:=((dm f).trans di[i]).symm.trans z;cases p;subst i;exact(T,by rw[aK];exact hl,G,_,rv,T)
    .let p:=((dm f).trans dm[i]).symm.trans z;cases p
def Rb(qs:lg t6):Store:=qs.map Cell.tab
def Au0{l:zQ}{k:Nat}{q:bY}{loose:lg t6}{XP:(t6->o9 aD)->dD->Prop}{Y:dO->dD->Prop}{d:DefRec}{K:Params->aB}{x:t6}{tabs:lg aG}{qs:lg t6}{xf:Nat->o9 t6}{g:lg W->M W}(y:∀ns:lg Int,ns.length<=63->∃Z,g [.scr ns] Rb[qs]=.ok .bl[t8] Z)(hn:l.most=sr 63)(B:d.params.defaults=[])(hr:Fq k callerA)(hq:qs.length=tabs.length)(nd:tabs.Nodup)(hY:∀(w:dO)(h:dD),Y w h->(K w.params).In h/\∀P∈tabs,h.get? P=sr mQ[#[]])(I:∀p,aAt K[p]=t8)(F:∀(w:dO)(mg:t6->o9 aD)(t:aG)(h:dD),(K w.params).In h->h.Ns mainGlobals mg->mg d.name=sr .ref[t]->
   ∃X:lg aG,∃fd:eN,(∀(s:aN)(u:aD),zV s fd ([u],[]) [(x,u)])/\(∀P∈tabs,∃c,fJ K[w.params] c P=t8)/\∀base:dD,(K w.params).In base->base.Ns mainGlobals mg->Bmo mg base->Hl l.prog w K[w.params] mg base (CXo l.prog w) k t fd [x] spF[Ayz K[w.params] addrs[X] xf tabs][g]):
  PySem.W.WalkO q loose XP Y l.row.toRowW d [] (λf O=>aDm f O):=by
 refine Att.attach_call hn B λw s₀ Q mg mb t o pm cd doc a O ns G yY ho hd S A r hints m hg=>?_;let(N,U):=hY w _ yY;let(X,fd,hb,C,hF):=F w mg t _ N G.T.g A;refine Auz (tabs:=tabs) N G.T.g G.T.b G.T.builtins G.T.nolimit hg r hints (aF m ()) hr I[_] (λP E=>(?_,U P E)) G.T.bmain hF hb λH hH hS=>?_
 .let(c,hc):=C P E;exact((vK N hc).tab (U P E)).isCodeTable
 .let(Z,e):=y ns m;refine(tabs,Rb qs,[.scr ns],(?_,nd,aP _,λn a c h1 J=>?_),.cons .scr[hS] .nil,?_)
  .unfold Rb;rw[aK,hq]
  .unfold Rb at J;rw[bJ] at J;let(q',_,rfl):=bG.mp J;exact(#[],hH a gG[h1],trivial,λpos v z=>by cases z)
  .rw[e];intro ρ1 H1 v p1 t1 R1 rv;cases rv;rfl
def Ep(K:aB)(mg:t6->o9 aD)(x:t6)(st:cF)(_:lg t6):Prop:=∃(f:aG)(kV dc pm:aD)(an:o9 aG)(cd ct:aD),Fun K x x st f (cL x x Do[st] Aw[st] Ai[st] .none kV dc pm an cd ct)/\mg x=sr .ref[f]
def Mm(K:aB)(c:aG)(x q:t6)(st:cF)(_:lg t6):Prop:=∃(f:aG)(kV dc pm:aD)(an:o9 aG)(cd ct:aD),Fun K x q st f (cL x q Do[st] Aw[st] Ai[st] .none kV dc pm an cd ct)/\Meth K c x f
section
variable{K:aB}{mg:t6->o9 aD}{h:dD}{x q:t6}{st:cF}{ps:lg t6}{f c:aG}{oc kV dc pm cd ct:aD}{od an:o9 aG}{sl:Array (o9 aD)}
def Bne(X:K.In h)(G:h.Ns mainGlobals mg)(a:aY K mainGlobals x=sr sr[.ref[f]])(b:K.lookup f=sr (oc,od,.func[cL x x Do[st] Aw[st] Ai[st] .none kV dc pm an cd ct],sl))(d:iU K cd x=t8)(e:cG K .ref[f]=t8):Ep K mg x st ps:=(
 (f,kV,dc,pm,an,cd,ct,Abl b d e,aU X G a))
def Bnf(a:bZ K .ref[c] x=sr sr[.ref[f]])(b:K.lookup f=sr (oc,od,.func[cL x q Do[st] Aw[st] Ai[st] .none kV dc pm an cd ct],sl))(d:iU K cd q=t8)(e:cG K .ref[f]=t8)(g:tK K .ref[f]=t8):Mm K c x q st ps:=(
 (f,kV,dc,pm,an,cd,ct,Abl b d e,a,g,e))
end
def Af0(K:aB)(mg:t6->o9 aD)(x:t6)(st:cF)(_:lg t6)(A:aG):Prop:=∃(f:aG)(kV dc pm:aD)(an:o9 aG)(c:aG)(ct:aD),Fun K x x st f (cL x x Do[st] Aw[st] Ai[st] .none kV dc pm an .ref[c] ct)/\mg x=sr .ref[f]/\fJ K c A=t8
def Bng{K:aB}{mg:t6->o9 aD}{h:dD}{x:t6}{st:cF}{ps:lg t6}{f c A:aG}{p kV k j ct:aD}{o l:o9 aG}{n:Array o9[aD]}(X:K.In h)(G:h.Ns mainGlobals mg)(a:aY K mainGlobals x=sr sr[.ref[f]])(b:K.lookup f=sr (p,o,.func[cL x x Do[st] Aw[st] Ai[st] .none kV k j l .ref[c] ct],n))(d:iU K .ref[c] x=t8)(e:cG K .ref[f]=t8)(g:fJ K c A=t8):Af0 K mg x st ps A:=(
 (f,kV,k,j,l,c,ct,Abl b d e,aU X G a,g))
structure TU(Y:Th)(m:Md)(P:bY)(w:dO)(K:aB)(mg:t6->Option aD)(base:dD)(k:Nat)(T:List (t6×Fi))(U:List ((Nat×t6)×Fi))(Tq:List (t6×Fi)):Prop where
 q:QTb Y P w K mg base k Tq
 t:Tbl Y P w K mg base k T
 u:MTb Y P w K mg base k U
 i:XiT Y m P w K mg base 1
 j:1 < k
 m:m.Ok Y K mg
section
variable{Y:Th}{m:Md}{P:bY}{w:dO}{K:aB}{mg:t6->o9 aD}{base:dD}{k:Nat}{T Tq:lg (t6×Fi)}{U:lg ((Nat×t6)×Fi)}{x q:t6}{st:cF}{N ps:lg t6}{b:MS}{f:aG}{fd:eN}{c:Nat}
def Bp9(e:Jr[Aw st][m.gm T N Ai[st] U Tq]=b)(h:TU Y m P w K mg base k T U Tq)(d:M4 K mg x st ps f fd)(g:Ek N ps Ai[st]:=by exact(rfl,rfl,rfl,(),rfl,(),())):Hl P w K mg base (CXo P w) (k+2) f fd ps spF[Y][Br ps.length N.length b] t8:=(h.t.fn h.u h.i h.j h.m d g h.q (by exact λa a z=>nomatch z) (by exact λa z=>nomatch z) e)
def Bnh(e:Jr[Aw st][m.gm T N Ai[st] U Tq]=b)(h:TU Y m P w K mg base k T U Tq)(d:M4 K mg x st ps f fd)(g:Cz _root_.D.Fv dv=sr a)(hd:Vals a n)(l:Binds K fd ps n)(o:Ek N ps Ai[st]:=by exact(rfl,rfl,rfl,(),rfl,(),())):TU Y m P w K mg base (k+2) ((u6 x (Br ps.length N.length b,ps.length,dv))::T) U Tq:=(
 (h.q.up (),h.t.cons h.u h.i h.j h.m d o g hd l h.q () () e,h.u.up,h.i,lF 2 h.j,h.m))
def al0{p:lg aD->Prop}(f:p [])(d:lg aD)(h:d.length=0):p d:=by simp_all
def alS{p:lg aD->Prop}{n:Nat}(f:∀x a,a.length=n->p (x::a))(a:lg aD)(h:a.length=n+1):p a:=by
 cases a;cases h;exact f _ _ aCb[h]
def Fw(e:Jr[Aw st][m.gm T N Ai[st] U Tq]=b)(h:TU Y m P w K mg base k T U Tq)(d:Ep K mg x st ps)(r:Ek N ps Ai[st]:=by exact(rfl,rfl,rfl,(),rfl,(),()))(p:∀(kV i g:aD)(l:o9 aG)(j ct:aD)(a:lg aD),a.length=ps.length->bindArgs (cL x x Do[st] Aw[st] Ai[st] .none kV i g l j ct) (a,[])=pure ps.zip[a]:=by intro _ _ _ _ _ _;(repeat refine alS λs=>?_);exact al0 rfl):
  TU Y m P w K mg base (k+2) ((u6 x (Br ps.length N.length b,ps.length,[]))::T) U Tq:=by
 let(f,kV,i,g,l,j,ct,F,o):=d;let B:Binds K _ ps []:=Pa[p kV i g l j ct];exact Bnh e h (F,o,B) rfl .nil B r
def Nz(e:Jr[Aw st][m.gm T N Ai[st] U Tq]=b)(h:TU Y m P w K mg base k T U Tq)(C:Auy K Y.cl[c]=t8)(d:Mm K Y.cl[c] x q st ps)(y:Ek N ps Ai[st]:=by exact(rfl,rfl,rfl,(),rfl,(),()))(v:∀(kV n l:aD)(p:o9 aG)(o ct:aD)(g:lg aD),g.length=ps.length->bindArgs (cL x q Do[st] Aw[st] Ai[st] .none kV n l p o ct) (g,[])=pure ps.zip[g]:=by intro _ _ _ _ _ _;(repeat refine alS λa=>?_);exact al0 rfl):
  TU Y m P w K mg base (k+2) T ((u6 (u6 c x) (Br ps.length N.length b,ps.length,[]))::U) Tq:=by
 let(f,kV,n,l,p,o,ct,F,s):=d;let B:Binds K _ ps []:=Pa[v kV n l p o ct];exact(h.q.up (),h.t.up,h.u.cons h.t h.i h.j h.m Ay3[C] s F y B rfl .nil B h.q (by exact λa a z=>nomatch z) (by exact λa z=>nomatch z) e,h.i,lF 2 h.j,h.m)
theorem TU.up(h:TU Y m P w K mg base k T U Tq):TU Y m P w K mg base (k+2) T U Tq:=(h.q.up (),h.t.up,h.u.up,h.i,lF 2 h.j,h.m)
def Bqa(e:Jr[Aw st][m.gq Tq N Ai[st]]=b)(h:TU Y m P w K mg base k T U Tq)(d:Ep K mg x st ps)(v:Ek N ps Ai[st]:=by exact(rfl,rfl,rfl,(),rfl,(),()))(s:∀(kV l g:aD)(o:o9 aG)(n ct:aD)(a:lg aD),a.length=ps.length->bindArgs (cL x x Do[st] Aw[st] Ai[st] .none kV l g o n ct) (a,[])=pure ps.zip[a]:=by intro _ _ _ _ _ _;(repeat refine alS λy=>?_);exact al0 rfl):
  TU Y m P w K mg base (k+2) T U ((u6 x (Br ps.length N.length b,ps.length,[]))::Tq):=by
 let(f,kV,l,g,o,n,ct,F,r):=d;let B:Binds K _ ps []:=Pa[s kV l g o n ct];exact(h.q.cons h.m (F,r,B) v rfl .nil B e,h.t.up,h.u.up,h.i,lF 2 h.j,h.m)
def Bqb(e:Jr[Aw st][m.gm T N Ai[st] U Tq sy sr[m.lams T U Tq]]=b)(h:TU Y m P w K mg base k T U Tq)(d:Ep K mg x st ps)(C:Ek N ps Ai[st]:=by exact(rfl,rfl,rfl,(),rfl,(),()))(A:∀(kV o n:aD)(r:o9 aG)(p ct:aD)(g:lg aD),g.length=ps.length->bindArgs (cL x x Do[st] Aw[st] Ai[st] .none kV o n r p ct) (g,[])=pure ps.zip[g]:=by intro _ _ _ _ _ _;(repeat refine alS λs=>?_);exact al0 rfl):
  TU Y m P w K mg base (k+4) ((u6 x (Br ps.length N.length b,ps.length,[]))::T) U Tq:=by
 let(f,kV,o,n,r,p,ct,F,y):=d;let B:Binds K _ ps []:=Pa[A kV o n r p ct];let a:=h.up;exact(a.q.up (),a.t.cons a.u a.i a.j a.m (F,y,B) C rfl .nil B a.q (by exact λs s z=>nomatch z) (by intro L z l S;cases z;exact h.t.lams h.u h.m h.q S) e,a.u.up,a.i,lF 2 a.j,a.m)
def Ay5{A:aG}{j:Nat}(E:Bmo mg base)(s:Y.tb[j]?=sr A)(e:Jr[Aw st][m.gm T N Ai[st] U Tq sr[u6[j][x ++ ".<locals>." ++ "<lambda>"]]]=b)(h:TU Y m P w K mg base k T U Tq)(d:Af0 K mg x st ps A)(G:Ek N ps Ai[st]:=by exact(rfl,rfl,rfl,(),rfl,(),()))(y:∀(kV l g:aD)(n:o9 aG)(C ct:aD)(a:lg aD),a.length=ps.length->bindArgs (cL x x Do[st] Aw[st] Ai[st] .none kV l g n C ct) (a,[])=pure ps.zip[a]:=by intro _ _ _ _ _ _;(repeat refine alS λp=>?_);exact al0 rfl):
  TU Y m P w K mg base (k+2) ((u6 x (Br ps.length N.length b,ps.length,[]))::T) U Tq:=by
 let(f,kV,l,g,n,c,ct,F,r,v):=d;let B:Binds K _ ps []:=Pa[y kV l g n .ref[c] ct];exact(h.q.up (),h.t.cons h.u h.i h.j h.m (F,r,B) G rfl .nil B h.q (by intro i q z;cases z;exact((c,A,rfl,s,v),E,rfl)) (by exact λp z=>nomatch z) e,h.u.up,h.i,lF 2 h.j,h.m)
end
def pIf(s:cF)(i:Nat):cF:=match s with
 |.If _ b _ _=>b.getD i default
 |.For _ _ b _ _=>b.getD i default
 |.Try b _ _ _ _=>b.getD i default
 |_=>default
def xSt:cF->bW
 |.Return (sr e) _=>e
 |.If c _ _ _=>c
 |.Expr e _=>e
 |.Assign _ v _=>v
 |_=>default
def xL:bW->bW
 |.Compare a _ _ _=>a
 |.UnaryOp _ a _=>a
 |_=>default
def xA(i:Nat):bW->bW
 |.Call _ as _ _=>as.getD i default
 |_=>default
def Ana(q:t6):bW->Lm
 |.Lambda ps b sc _=>(q,ps,b,sc,Ap0 sc)
 |e=>(q,([],[],sy,[],[],sy,[]),e,{ kind:=.function,names:=[],isGenerator:=false,isCoroutine:=false },[])
def Asg(K:aB)(cs:lg aG)(L:lg[Nat×Nat]):Bool:=L.all λt=>decide[dN K .ref[addrs cs t.2] .ref[addrs cs t.1]=sr t7]
def Bki{K:aB}{d:lg aG}{L:lg[Nat×Nat]}(h:Asg K d L=t8)(k c:Nat)(z:L.contains[u6 k c]=t8):dN K .ref[addrs d c] .ref[addrs d k]=sr t7:=by
 have:=bB.mp[h][u6 k c][by simpa using z]
 exact dg this
structure SP where
 p:Store->Prop
 st:∀S G:Store,p S->p (S ++ G)
def SP.any:SP:=(λuw=>True,λuw uw h=>h)
def AtL(n:Nat)(ws:lg W)(S:Store):Prop:=S[n]?=sr .lst[ws]
def AtL.app{n:Nat}(h:AtL n a S)(G:Store):AtL n a (S ++ G):=by
 unfold AtL at h ⊢
 rw[aW (aJ.mp h).1];omega
def SP.at(P:SP)(n:Nat)(ws:lg W):SP:=(λS=>P.p S/\AtL n ws S,λS G h=>(P.st S G h.1,h.2.app G))
def Pu{α:Type}(P:SP)(m:M α)(a:α):Prop:=∀S:Store,P.p S->∃G:Store,m S=.ok a (S ++ G)
def PuX{α:Type}(P:SP)(m:M α)(c:Nat×W):Prop:=∀S:Store,P.p S->∃G:Store,m S=.exc c (S ++ G)
def PuL(P:SP)(m:M W)(ws:lg W):Prop:=∀S:Store,P.p S->∃(G:Store)(n:Nat),m S=.ok[.ref n][S ++ G]/\(S ++ G)[n]?=sr .lst[ws]/\S.length<=n
def PuN(P:SP)(b:MS)(δ δ':De):Prop:=∀S:Store,P.p S->∃G:Store,b δ S=.nx δ' (S ++ G)
def PuR(P:SP)(b:MS)(δ:De)(w:W):Prop:=∀S:Store,P.p S->∃G:Store,b δ S=.rt w (S ++ G)
def PuE(P:SP)(b:MS)(δ:De)(c:Nat×W):Prop:=∀S:Store,P.p S->∃(G:Store)(δ':De),b δ S=.ex c δ' (S ++ G)
section
variable{P:SP}{α β:Type}{m:M α}{f:α->M β}{a:α}{b:β}{c:Nat×W}{δ δ' δ1:De}{w x y z:W}{ws us:lg W}
def Dc(S:Store):(m >>= f) S=match m S with|.ok a S1=>f a S1|.exc c S1=>.exc c S1|.bad=>.bad:=rfl
def Pu.pure:Pu P (pure a:M α) a:=(λS d=>([],by rw[bU];rfl))
def Pu.bind(h:Pu P m a)(k:Pu P f[a] b):Pu P (m >>= f) b:=(λS d=>by
 let(G,e):=h S d;let(g,i):=k[S ++ G][P.st _ _ d];exact(G ++ g,by rw[Dc];simp_all))
def Pu.bindX(h:Pu P m a)(k:PuX P f[a] c):PuX P (m >>= f) c:=(λS d=>by
 let(G,e):=h S d;let(g,i):=k[S ++ G][P.st _ _ d];exact(G ++ g,by rw[Dc];simp_all))
def Pu.cast{a':α}(h:Pu P m a)(e:a=a'):Pu P m a':=e ▸ h
variable{P:SP}{f g h:De->M W}{gs:De->M (lg W)}{t u:De->M Bool}{s:lg W->M W}{i:Nat}
def Ak:Pu P (kF w δ) w:=Pu.pure
def Af(e:δ[i]?=sr sr[w]):Pu P (Aa i δ) w:=(λS d=>([],by unfold Aa;rw[e,bU];rfl))
def Ad:Pu P nilF[δ] []:=Pu.pure
def Ab(h1:Pu P f[δ] w)(h2:Pu P gs[δ] ws):Pu P (Eo f gs δ) (w::ws):=h1.bind h2.bind[Pu.pure]
def Ac(h1:Pu P gs[δ] ws)(h2:Pu P s[ws] w):Pu P (Dw s gs δ) w:=h1.bind h2
def Ay6(h1:Pu P gs[δ] ws)(h2:PuX P s[ws] c):PuX P (Dw s gs δ) c:=h1.bindX h2
def Cp(h1:Pu P f[δ] x)(h2:Pu P g[δ] y)(h3:Pu P (o.fn x y) z):Pu P (Bb o f g δ) z:=h1.bind h2.bind[h3]
def Ao(h1:Pu P f[δ] x)(h2:Pu P g[δ] y)(h3:Pu P (Fd op x y) z):Pu P (Ea op f g δ) z:=h1.bind h2.bind[h3]
def Dz(h1:Pu P f[δ] .bl[t8])(h2:Pu P g[δ] w):Pu P (Jj f g δ) w:=h1.bind h2
def Ap4(d:Pu P f[δ] .bl[p])(e:p=t8->Pu P g[δ] .bl[q]):Pu P (Jj f g δ) .bl[p&&q]:=by
 cases p
 .exact d.bind Pu.pure
 .exact Dz d e[rfl]
def Ag(h1:Pu P f[δ] .bl[p]):Pu P (Dl f δ) p:=h1.bind Pu.pure
def Akw(e:Pu P gs[δ] ws)(d:ws.length<=big):Pu P (Gs gs δ) .tup[ws]:=(e.bind (by unfold Apq;rw[di d];exact Pu.pure))
end
section
variable{P:SP}{b b':MS}{δ δ' δ1:De}{w:W}{c:Nat×W}{f:De->M W}{t:De->M Bool}{i k n:Nat}{gs:De->M (lg W)}{ws:lg W}
def Ax:PuN P Aj δ δ:=(λS a=>([],by rw[bU];rfl))
def Au1(g:PuN P b δ δ1)(d:PuN P b' δ1 δ'):PuN P (Ae b b') δ δ':=(λS a=>by
 let(G,e):=g S a;let(h,j):=d[S ++ G][P.st _ _ a];exact(G ++ h,by unfold Ae;simp_all))
def Dm(g:PuN P b δ δ1)(d:PuR P b' δ1 w):PuR P (Ae b b') δ w:=(λS a=>by
 let(G,e):=g S a;let(h,j):=d[S ++ G][P.st _ _ a];exact(G ++ h,by unfold Ae;simp_all))
def Bni(h:PuN P b δ δ1)(g:PuE P b' δ1 c):PuE P (Ae b b') δ c:=(λS d=>by
 let(G,e):=h S d;let(j,a,l):=g[S ++ G][P.st _ _ d];exact(G ++ j,a,by unfold Ae;simp_all))
def Bo(d:PuR P b δ w):PuR P (Ae b b') δ w:=(λS a=>by
 let(G,e):=d S a;exact(G,by unfold Ae;rw[e]))
def Anb(g:PuE P b δ c):PuE P (Ae b b') δ c:=(λS d=>by
 let(G,a,e):=g S d;exact(G,a,by unfold Ae;rw[e]))
def Dt(h:Pu P f[δ] w):PuN P (Bx i f) δ (δ.set i sr[w]):=(λS a=>by
 let(G,e):=h S a;exact(G,by unfold Bx Gu;rw[e]))
def Bc(h:Pu P f[δ] w):PuR P retS[f] δ w:=(λS a=>by
 let(G,e):=h S a;exact(G,by unfold retS Gu;rw[e]))
def Bnj(e:t δ S=.ok t8 S1)(h:b δ S1=r):ifS t b b' δ S=r:=by unfold ifS Gu;rwa [e]
def Bqc(e:t δ S=.ok t7 S1)(h:b' δ S1=r):ifS t b b' δ S=r:=by unfold ifS Gu;rwa [e]
def Af1(h:Pu P gs[δ] (w::a))(d:a.length+dv.length=1):PuE P (Jq k dv gs) δ (u6 k w):=(λS g=>by
 let(G,e):=h S g;exact(G,δ,by unfold Jq Gu;exact e ▸ di d))
def Bt(a:ws.length=k)(h:PuR P b (Df n ws) w):Pu P (Br k n b ws) w:=(λS d=>by
 let(G,e):=h S d;exact(G,by unfold Br;rw[di a,e]))
def Bej(d:ws.length=k)(h:PuE P b (Df n ws) c):PuX P (Br k n b ws) c:=(λS g=>by
 let(G,a,e):=h S g;exact(G,by unfold Br;rw[di d,e]))
def Akx:PuN P (Rj s b []) δ δ:=(λS a=>([],by rw[bU];rfl))
def X8(hs:s w δ=sr δ1)(h:PuN P b δ1 a)(g:PuN P (Rj s b ws) a δ'):PuN P (Rj s b (w::ws)) δ δ':=(λS d=>by
 let(G,e):=h S d;let(j,l):=g[S ++ G][P.st _ _ d];exact(G ++ j,by unfold Rj;simp_all))
def Aky(g:Pu P src[δ] .fix[ws])(d:PuN P (Rj s b ws) δ δ'):PuN P (Xw src s b) δ δ':=(λS a=>by
 let(G,e):=g S a;let(h,j):=d[S ++ G][P.st _ _ a];exact(G ++ h,by unfold Xw Gu;simp_all))
end
section
variable{P:SP}{δ:De}{cs:De}{t:De->M Bool}{e:De->M W}{f:W->W}{ws:lg W}
def Abv{b:Type}{m:M b}{a:b}(h:Pu P m a):Pu P noX[m] a:=(λS c=>by
 let(G,e):=h S c;exact(G,by unfold noX;rw[e]))
def Amh{h:Type}{xs:lg h}{a g:h->W}(i:∀x,x∈xs->Pu P (t (sr a[x]::cs)) t8/\Pu P (e (sr a[x]::cs)) g[x]):∀(d:o9 W)(acc:lg W),acc.length+xs.length<=big->Pu[P][Wg Ex[0] t e xs.map[a] (d::cs) acc][acc ++ xs.map g]:=by
 induction xs with
 |nil=>intro d acc _ S _;exact([],by simp[Wg];rfl)
 |cons x xs l=>
  intro d acc n;rw[dZ] at n;let j:=(i x bF);let p:=l (λk m=>i k (bC _ m)) sr[a[x]] (acc ++ [g x]) (by rw[bD,fY];omega)
  rw[cM] at p;intro S o;have:=(Abv j.1).bind (f:=λb=>if b=t8 then _ >>= λy=>if acc.length < big then Wg _ t e _ _ (acc ++ [y]) else bad else Wg Ex[0] t e xs.map[a] (sr a[x]::cs) acc) (b:=acc ++ _) (by
   apply (Abv j.2).bind;rw[di ()]
   omega)
  exact this S o
end
section
variable{P:SP}{δ:De}{t u:De->M Bool}{f g h:De->M W}{p q:Bool}{i j:Int}{x y z:t6}{w v o:W}{ws:lg W}{k:Nat}
def Cq(h1:Pu P t[δ] p):Pu[P][Jk t δ][!p]:=h1.bind Pu.pure
def Fb(a:Pu P t[δ] p)(b:Pu P u[δ] q):Pu[P][orT t u δ][p||q]:=(a.bind (by
 cases p
 .trivial
 .exact Pu.pure))
def Ash(a:Pu P t[δ] p)(b:Pu P u[δ] q):Pu[P][Bdq t u δ][p&&q]:=(a.bind (by
 cases p
 .exact Pu.pure
 trivial))
def Aaa(h1:Pu P f[δ] .bl[p])(h2:Pu P g[δ] .bl[q]):Pu P (Jj f g δ) .bl[p&&q]:=Ap4 h1 λuw=>h2
def Sd:Pu P (Fd .Lt .int[i] .int[j]) .bl[decide[i < j]]:=Pu.pure
def Sg:Pu P (Fd .LtE .int[i] .int[j]) .bl[decide[i<=j]]:=Pu.pure
def Rc:Pu P (Fd .Gt .int[i] .int[j]) .bl[decide[j < i]]:=Pu.pure
def M6:Pu P (Bop.fn .add .int[i] .int[j]) .int[i+j]:=Pu.pure
def Aen:Pu P (Bop.fn .sub .int[i] .int[j]) .int[i - j]:=Pu.pure
def Lb{b:Type}[Decidable c]{m n:M b}{a:b}(d:c)(h:Pu P m a):Pu P (if c then m else n) a:=by simp_all
def Fz(hl:x.length+y.length<=big):Pu P (Bop.fn .add .str[x] .str[y]) .str[x ++ y]:=Lb hl Pu.pure
def Aeo(hs:(small i||small j)=t8):Pu P (Bop.fn .mul .int[i] .int[j]) .int[i * j]:=Lb hs Pu.pure
def Ap5(hj:0<=j):Pu P (Bop.fn .shr .int[i] .int[j]) .int[i / 2 ^ j.toNat]:=Lb hj Pu.pure
def Ay7(hj:0 < j):Pu P (Bop.fn .mod .int[i] .int[j]) .int[i % j]:=Lb hj Pu.pure
def Ay8(b:k<=big):Li [.int (k:Int)]=pure .fix[(fD k).map λ(k:Nat)=>W.int[(0:Int)+(k:Int)]]:=by
 unfold Li;dsimp only;rw[di (by
   let h:(k:Int)<=1000000:=Int.ofNat_le.mpr b;let d:(0:Int)<=k:=wH k;let e:(2:Int) ^ 62=4611686018427387904:=rfl;rw[e];omega),gA]
def Qm(c:Pu P gs[δ] [.int (k:Int)])(b:k<=big):Pu P (V9 Li gs δ) .fix[(fD k).map λ(k:Nat)=>W.int[(0:Int)+(k:Int)]]:=by
 apply Pu.bind c;exact(Ay8 b) ▸ Pu.pure
def Qn:Pu P (Fd .Eq .int[i] .int[j]) .bl[i==j]:=(λS a=>([],by rw[bU];rfl))
def Dn(hx:tY x=t8)(hy:tY y=t8):Pu P (Fd .Eq .str[x] .str[y]) .bl[x==y]:=Pu.pure
def Ft:Pu P (Fd .Eq .str[x] .str[y]) .bl[x==y]:=Pu.pure
def Bkj:Pu P (Fd .NotEq .str[x] .str[y]) .bl[!(x==y)]:=Pu.pure
def Ay9:Pu P (Fd .Lt .str[x] .str[y]) .bl[J6 x y]:=Pu.pure
def Sh{b a:vW}{x y u:W}(m:Pu P f[δ] x)(l:Pu P g[δ] y)(e:Pu P (Fd b x y) .bl[p])(d:Pu P h[δ] u)(c:Pu P (Fd a y u) .bl[q]):Pu P (Ql b a f g h δ) .bl[p&&q]:=by
 refine m.bind l.bind[e.bind[?_]];cases p
 .exact Pu.pure
 .exact d.bind c
def Di(h1:Pu P f[δ] o)(h2:Pu P g[δ] v)(h3:Pu P (ixW o v) w):Pu P (ixF f g δ) w:=h1.bind h2.bind[h3]
end
section
variable{P:SP}{b b':MS}{δ δ':De}{w:W}{c:Nat×W}{t:De->M Bool}{p:Bool}
def Fx(f:Pu P t[δ] p)(hp:p=t7)(d:PuN P b' δ δ'):PuN P (ifS t b b') δ δ':=by
  intro S a;let(G,e):=(hp ▸ f) S a;let(g,h):=d[S ++ G][P.st _ _ a];exact(G ++ g,Bqc e (by simp_all))
def Wa(f:Pu P t[δ] p)(hp:p=t8)(d:PuR P b δ w):PuR P (ifS t b b') δ w:=by
  intro S a;let(G,e):=(hp ▸ f) S a;let(g,h):=d[S ++ G][P.st _ _ a];exact(G ++ g,Bnj e (by simp_all))
def Bnk(g:Pu P t[δ] p)(hp:p=t8)(f:PuE P b δ c):PuE P (ifS t b b') δ c:=by
  intro S d;let(G,e):=(hp ▸ g) S d;let(h,a,i):=f[S ++ G][P.st _ _ d];exact(G ++ h,a,Bnj e (by simp_all))
end
section
variable{P:SP}{δ cs:De}{f:De->M W}{ws:lg W}{w:W}{op:lg W->M W}{mop:W->lg W->M W}{z:t6}
def Asi(h:Pu P m ws)(a:ws.length<=big):PuL P (m >>= Dd) ws:=(λS b=>by
 let(G,e):=h S b;refine(G ++ [.lst ws],(S ++ G).length,?_,?_,())
 .rw[Dc,e];dsimp only;unfold Dd;rw[di a,cM]
 .rw[<-cM,bA aM[_],gB];rfl)
def Anc{b:Type}{m:M b}{a:b}{g:b->M W}(h:Pu P m a)(k:PuL P g[a] ws):PuL P (m >>= g) ws:=(λS c=>by
 let(G,e):=h S c;let(d,n,j,i,hf):=k[S ++ G][P.st _ _ c];exact(G ++ d,n,by rw[Dc];simp_all,by rw[<-cM];omega,by rw[bD] at hf;omega))
def Gv{b:Type}{xs:lg b}{φ ψ:b->W}{cap:lg Nat}(g:Pu P src[δ] .fix[xs.map[φ]])(d:Xx 1 cap δ=sy::cs)(i:xs.length<=big)(c:∀x,x∈xs->Pu P (t (sr φ[x]::cs)) t8/\Pu P (e (sr φ[x]::cs)) ψ[x]):PuL P (G7 1 cap src Ex[0] t e δ) xs.map[ψ]:=by
 apply Anc g;rw[d];refine Asi ?_ (by simp_all)
 have:=Amh c sy [] (by simp_all)
 trivial
def Akz(h:PuL P f[δ] ws)(a:∀(n:Nat)(S:Store),S[n]?=sr .lst[ws]->∃G,op [.ref n] S=.ok w (S ++ G)):Pu P Dw[op][Eo f nilF][δ] w:=(λS c=>by
 let(G,n,e,b,_):=h S c;let(g,i):=a n _ b;refine(G ++ g,?_);unfold Dw Eo;rw[Dc,Dc,e];show op ..=_;simp_all)
theorem Asj:∀bs:lg Bool,Cz Bi3 bs.map[W.bl]=sr bs
 |[]=>rfl
 |b::bs=>by rw[cB,Cz,Asj bs];rfl
theorem Ane:∀bs:lg Int,Cz asInt bs.map[W.int]=sr bs
 |[]=>rfl
 |b::bs=>by rw[cB,Cz,Ane bs];rfl
theorem Af2:∀bs:lg t6,Cz Amq bs.map[W.str]=sr bs
 |[]=>rfl
 |b::bs=>by rw[cB,Cz,Af2 bs];rfl
def Sq{bs:lg Bool}(h:PuL P f[δ] bs.map[W.bl]):Pu P Dw[Afk][Eo f nilF][δ] .bl[bs.all[id]]:=(Akz h λn S e=>([],by
 simp[Afk,e,Asj]))
def Bkk{is:lg Int}(h:PuL P f[δ] is.map[W.int]):Pu P Dw[Aum][Eo f nilF][δ] .int[is.sum]:=(Akz h λn S e=>([],by
 simp[Aum,e,Ane]))
def Bek(h:PuL P f[δ] a.map[W.str])(c:(a.map (·.length)).sum+a.length * z.length<=big):Pu P (Lp .str R6 kF[.str[z]] (Eo f nilF) δ) .str[aAr z a]:=(λS d=>by
 let(G,n,e,b,_):=h S d;refine(G,?_);let i:Eo f nilF δ S=.ok [.ref n] (S ++ G):=by unfold Eo;rw[Dc,e];rfl
 let g:Lp .str R6 kF[.str[z]] _ δ S=(Eo f nilF δ >>= _) S:=rfl;rw[g,Dc,i];simp only[R6,b,Af2];exact di c)
def Ak0(hz:z.length<=big)(h:Pu P f[δ] .str[z]):Pu P (Iu f δ) .fix[chars[z]]:=h.bind[Lb hz Pu.pure]
def Lq(h:Pu P f[δ] .tup[ws]):Pu P (Iu f δ) .fix[ws]:=h.bind Pu.pure
end
structure Ahr{β:Type}(s:Tg)(xs:List β)(φ:β->W)(Kd:De->Prop)(dx:β->De):Prop where
 set:∀x,x∈xs->∀δ,Kd δ->s (φ x) δ=sr (dx x)
 kd:∀x,x∈xs->Kd (dx x)
def Aza(P:SP){β:Type}(t:De->M Bool)(e:De->M W)(xs:lg β)(dx:β->De)(τ:β->Bool)(ψ:β->W):Prop:=∀x,x∈xs->Pu P t[dx[x]] τ[x]/\(τ x=t8->Pu P e[dx[x]] ψ[x])
section
variable{β:Type}{xs:lg β}{φ ψ:β->W}{dx:β->De}{τ:β->Bool}
theorem Bel:Ahr Ex[0] xs φ (λa=>∃d,a=d::b) (λx=>sr φ[x]::b):=(λx _ a ⟨d,h⟩=>by subst h;rfl,λx c=>(_,rfl))
theorem Ap6{a b:β->W}:Ahr Ahp[[0,1]] xs (λx=>.tup [a x,b x]) (λc=>∃d e,c=d::e::f) (λx=>sr a[x]::sr b[x]::f):=(λx _ c ⟨d,e,h⟩=>by subst h;rfl,λx g=>(_,_,rfl))
def Ahr.tail{x:β}(h:Ahr s (x::xs) φ Kd dx):Ahr s xs φ Kd dx:=(λy hy=>h.set y (bC _ hy),λy hy=>h.kd y (bC _ hy))
def Au2{x:β}:acc ++ ([x].filter τ).map ψ ++ (xs.filter τ).map ψ=acc ++ ((x::xs).filter τ).map ψ:=by
 cases a:τ x <;> simp[a]
def Azb{x:β}:(acc ++ ([x].filter τ).map ψ).length<=acc.length+1:=by
 cases a:τ x <;> simp[a]
def Ak1(hs:Ahr s xs φ Kd dx)(f:Aza P t e xs dx τ ψ):∀(b:De)(acc:lg W),Kd b->acc.length+xs.length<=big->Pu[P][Wg s t e xs.map[φ] b acc][acc ++ (xs.filter τ).map ψ]:=by
 induction xs with
 |nil=>intro b acc _ _;simpa [Wg,Ko] using (Pu.pure (a:=acc))
 |cons x xs h=>
  intro b acc hd k;rw[dZ] at k;let d:=f x bF;let c:=h hs.tail (λy i=>f y (bC _ i)) dx[x] (acc ++ ([x].filter τ).map ψ) (hs.kd x bF) (by have:=Azb (τ:=τ) (ψ:=ψ) (x:=x) (acc:=acc);omega)
  rw[Au2] at c;rw[cB];unfold Wg Ko;rw[hs.set x bF b hd];apply (Abv d.1).bind;cases j:τ x with
  |false=>
   rw[dm cR];have:acc ++ ([x].filter τ).map ψ=acc:=by simp_all
   rw[this] at c;exact c
  |true=>
   rw[di rfl];apply (Abv d.2[j]).bind;rw[di ()]
   have:acc ++ ([x].filter τ).map ψ=acc ++ [ψ x]:=by simp_all
   rw[this] at c;exact c
def Af3{gt:Store->Nat->o9 o9[W]}(hs:Ahr s xs φ Kd dx)(r:Aza P t e xs dx τ ψ):∀(m i:Nat)(b:De)(acc:lg W)(S:Store),(∀(G:Store)(j:Nat),gt (S ++ G) j=sr[xs[j]?.map φ])->P.p S->xs.length+1<=i+m->i<=xs.length->Kd b->acc.length+(xs.length - i)<=big->
  ∃G,La s t e gt m i b acc S=.ok[acc ++ ((xs.drop i).filter τ).map ψ][S ++ G]:=by
 intro m;induction m with
 |zero=>intro i b acc S l d hi y hd w;omega
 |succ m q=>
  intro i b acc S l d hi y hd w;unfold La;let a:=l [] i;rw[bU] at a;by_cases h:i < xs.length
  .let n:gt S i=sr sr[φ[getElem[xs][i][by get_elem_tactic]]]:=by rw[a,aQ h];rfl
   simp only[n];let c:(getElem[xs][i][by get_elem_tactic])∈xs:=jB h;rw[hs.set _ c b hd];dsimp only;let x:acc.length < big:=by omega
   let(g,A):=Abv (r _ c).1 S d;rw[Dc,A];dsimp only;let dr:xs.drop i=(getElem[xs][i][by get_elem_tactic])::xs.drop[i+1]:=(gO h);cases k:τ getElem[xs][i][by get_elem_tactic] with
   |false=>
    rw[dm cR];let(G,o):=q (i+1) dx[getElem[xs][i][by get_elem_tactic]] acc (S ++ g) (λG j=>by rw[cM];exact l _ j) (P.st _ _ d) () () (hs.kd _ c) ()
    refine(g ++ G,?_);rw[o,dr,yU,k,cM];rfl
   |true=>
    rw[di rfl];let(v,o):=Abv[(r _ c).2 k][S ++ g][P.st _ _ d];rw[Dc,o];dsimp only;rw[di x];let(G,z):=q (i+1) dx[getElem[xs][i][by get_elem_tactic]] (acc ++ [ψ getElem[xs][i][by get_elem_tactic]]) (S ++ g ++ v) (λG j=>by simp_all) P.st[_][_][P.st _ _ d] () () (hs.kd _ c) (by grind)
    refine(g ++ (v ++ G),?_);rw[z,dr,yU,k];simp[cM]
  .let n:gt S i=sr sy:=by rw[a,gR ()];rfl
   simp only[n];refine([],?_);rw[dC ()]
   simp
end
section
variable{β:Type}{xs:lg β}{φ ψ:β->W}{dx:β->De}{τ:β->Bool}{k:Nat}{cap:lg Nat}{n:Nat}
def Azc(h:m S=.ok a (S ++ G))(c:a.length<=big):∃(b:Store)(n:Nat),(m >>= Dd) S=.ok[.ref n][S ++ b]/\AtL n a (S ++ b)/\S.length<=n:=by
 refine(G ++ [.lst a],(S ++ G).length,?_,?_,())
 .rw[Dc,h];dsimp only;unfold Dd;rw[di c,cM]
 .unfold AtL;rw[<-cM,bA aM[_],gB];rfl
def Asl(d:Pu P src[δ] .fix[xs.map[φ]])(hs:Ahr s xs φ Kd dx)(c:Aza P t e xs dx τ ψ)(b:Kd[Xx k cap δ])(a:xs.length<=big):PuL[P][G7 k cap src s t e δ][(xs.filter τ).map ψ]:=by
 apply Anc d;refine Asi ?_ (by rw[aK];exact aF (pF ..) a)
 have:=Ak1 hs c _ [] b (by simp_all)
 trivial
def Bem(m:∀S,P.p S->AtL n xs.map[φ] S)(l:Pu P src[δ] .liv[n])(hs:Ahr s xs φ Kd dx)(i:Aza P t e xs dx τ ψ)(h:Kd[Xx k cap δ])(g:xs.length<=big):PuL[P][G7 k cap src s t e δ][(xs.filter τ).map ψ]:=(λS b=>by
 let(G,q):=l S b;let a:=(m S b).app G;let(w,d):=Af3 (gt:=liG n) hs i (xs.length+1) 0 _ [] _ (λc j=>by
  let z:(S ++ G ++ c)[n]?=_:=a.app c;unfold liG;rw[z];exact congrArg sr bJ) (P.st _ _ b) () () h (by simp_all)
 rw[nW,rE] at d;let(c,f,o,v,u):=Azc d (by rw[aK];exact aF (pF ..) g)
 refine(_,f,?_,by rwa [<-cM],by grind)
 unfold G7;rw[Dc,q];dsimp only;rw[a];dsimp only;rw[aK,o,cM])
def Ben(u:∀S,P.p S->∃G n m,src δ S=.ok[.zl n m][S ++ G]/\AtL n us (S ++ G)/\AtL m vs (S ++ G))(l:∀j:Nat,xs[j]?.map φ=match us[j]?,vs[j]? with|some a,sr b=>sr .tup[[a,b]]|_,_=>sy)(hu:xs.length<=us.length)(hs:Ahr s xs φ Kd dx)(q:Aza P t e xs dx τ ψ)(o:Kd[Xx k cap δ])(d:xs.length<=big):PuL[P][G7 k cap src s t e δ][(xs.filter τ).map ψ]:=(λS f=>by
 let(G,n,m,w,h,x):=u S f;let(B,g):=Af3 (gt:=zlG n m) hs q (us.length+1) 0 (Xx k cap δ) [] (S ++ G) (λc j=>by
  let b1:=h.app c;let b2:=x.app c;unfold zlG;rw[b1,b2];dsimp only;rw[l j];cases us[j]? <;> cases vs[j]? <;> rfl) (P.st _ _ f) () () o (by simpa using d)
 rw[nW,rE] at g;let(c,i,v,A,r):=Azc g (by rw[aK];exact aF (pF ..) d)
 refine(G ++ c,i,?_,by rwa [<-cM],by rw[bD] at r;omega)
 unfold G7;rw[Dc,w];dsimp only;rw[h];dsimp only;rw[v,cM])
end
def Wm{α:Type}(m:M α)(S:Store)(Q:α->Store->Prop):Prop:=∃(a:α)(S':Store),m S=.ok a S'/\Q a S'
structure Wb(b:MS)(δ:De)(S:Store)(K:RS->Prop):Prop where
 un:K (b δ S)
structure Fr(L:List Nat)(S S':Store):Prop where
 len:S.length<=S'.length
 get:∀i,i < S.length->i∉L->S'[i]?=S[i]?
section
variable{L L':lg Nat}{S S1 S2 G:Store}{i n:Nat}{c:Cell}
theorem Fr.app:Fr [] S (S ++ G):=((),λi hi a=>aW hi)
theorem Fr.set:Fr [n] S (S.set n c):=((),λi a hi=>cW[λe=>hi[by exact e ▸ aZ.mpr rfl]])
theorem Fr.trans(a:Fr L S S1)(d:Fr L' S1 S2)(f:∀i∈L',i∈L\/S.length<=i):Fr L S S2:=(aF a.len d.len,λi hi b=>by
 rw[d.get[i][aO hi a.len][λe=>(f i e).elim b (λz=>absurd hi aDt.mpr[z])],a.get i hi b])
def Fr.then0(b:Fr L S S1)(a:Fr [] S1 S2):Fr L S S2:=(b.trans a λd h=>(nomatch h))
def Fr.same(h1:Fr L S S1)(h2:Fr L S1 S2):Fr L S S2:=h1.trans h2 λuw h=>.inl h
def Fr.mono(h:Fr L S S1)(hL:∀i∈L,i∈L'):Fr L' S S1:=(h.len,λi hi hn=>h.get i hi (λz=>hn[hL i z]))
def Fr.of0(h:Fr [] S S1):Fr L S S1:=(h.mono λa h=>(nomatch h))
def Fr.at(h:Fr L S S1)(e:S[i]?=sr c)(hi:i∉L):S1[i]?=sr c:=(h.get i (aJ.mp e).1 hi).trans e
def Fr.at0(h:Fr [] S S1)(e:S[i]?=sr c):S1[i]?=sr c:=(h.at e (λz=>nomatch z))
def Fr.at1(h:Fr [n] S S1)(e:S[i]?=sr c)(hi:i≠n):S1[i]?=sr c:=h.at e (λz=>hi aZ.mp[z])
def Ff(e:S[i]?=sr c):i < S.length:=(aJ.mp e).1
def Ak2(h:i < S.length):(S.set i c)[i]?=sr c:=fO h
end
section
variable{α β:Type}{m:M α}{f:α->M β}{a:α}{S:Store}{Q Q2:α->Store->Prop}{Q':β->Store->Prop}{P:SP}{δ:De}{ws us:lg W}
def Az(h:Wm m S λa d=>Wm f[a] d Q'):Wm (m >>= f) S Q':=by
 let(a,i,e,b,c,g,q):=h;exact(b,c,by rw[Dc,e];omega,q)
def Du(q:Q a S):Wm pure[a] S Q:=(a,S,rfl,q)
def Acl(h:Pu P m a)(c:P.p S)(k:∀b,Fr [] S b->Q a b):Wm m S Q:=by
 let(G,e):=h S c;exact(a,_,e,k _ .app)
def Cw(h:Pu SP.any m a)(k:∀S',Fr [] S S'->Q a S'):Wm m S Q:=Acl h trivial k
def Be(h:Wm m S Q)(k:∀a b,Q a b->Q2 a b):Wm m S Q2:=by
 let(a,b,e,q):=h;exact(a,b,e,k a b q)
def Azd{m:M W}{Q:W->Store->Prop}(h:PuL P m ws)(d:P.p S)(k:∀n b,Fr [] S b->b[n]?=sr .lst[ws]->S.length<=n->Q .ref[n] b):Wm m S Q:=by
 let(G,n,e,c,hf):=h S d;exact(_,_,e,k n _ .app c hf)
def Aze(h:Wm m S Q):Wm noX[m] S Q:=by
 let(a,b,e,q):=h;exact(a,b,by unfold noX;rw[e],q)
def Fg{s:lg W->M W}{gs:De->M lg[W]}{Q:W->Store->Prop}(h:Wm gs[δ] S λws S'=>Wm s[ws] S' Q):Wm (Dw s gs δ) S Q:=Az h
def Av{g:De->M W}{d:De->M lg[W]}{Q:lg W->Store->Prop}(h:Wm g[δ] S λw i=>Wm d[δ] i λws e=>Q (w::ws) e):Wm (Eo g d δ) S Q:=(
 Az[Be h λc c h=>Az[Be h λc c q=>Du q]])
def Bg{Q:lg W->Store->Prop}(q:Q [] S):Wm nilF[δ] S Q:=Du q
theorem Bq{i:Nat}{w:W}{Q:W->Store->Prop}(e:δ[i]?=sr sr[w])(q:Q w S):Wm (Aa i δ) S Q:=(w,S,by unfold Aa;rw[e];rfl,q)
def G3{w:W}{Q:W->Store->Prop}(q:Q w S):Wm (kF w δ) S Q:=Du q
def Abw{o:Bop}{f g:De->M W}{Q:W->Store->Prop}(h:Wm f[δ] S λx S1=>Wm g[δ] S1 λy S2=>Wm (o.fn x y) S2 Q):Wm (Bb o f g δ) S Q:=Az[Be h λuw uw h=>Az h]
def Hz{o:vW}{f g:De->M W}{Q:W->Store->Prop}(h:Wm f[δ] S λx S1=>Wm g[δ] S1 λy S2=>Wm (Fd o x y) S2 Q):Wm (Ea o f g δ) S Q:=Az[Be h λuw uw h=>Az h]
def Azf{f g:De->M W}{Q:W->Store->Prop}(h:Wm f[δ] S λx S1=>Wm g[δ] S1 λy S2=>Wm (ixW x y) S2 Q):Wm (ixF f g δ) S Q:=Az[Be h λuw uw h=>Az h]
def Asm{f:De->M W}{Q:Bool->Store->Prop}{p:Bool}(h:Wm f[δ] S λx c=>x=.bl p/\Q p c):Wm (Dl f δ) S Q:=(Az (Be h λ_ _ ⟨e,q⟩=>by subst e;exact Du q))
def En{b:De->M lg[W]}{Q:W->Store->Prop}(h:Wm b[δ] S λws c=>ws.length<=big/\Q .tup[ws] c):Wm (Gs b δ) S Q:=(Az[Be h λws c ⟨hl,q⟩=>(_,_,by unfold Apq;rw[di hl];rfl,q)])
theorem Abx{Q:W->Store->Prop}(b:ws.length<=big)(q:Q[.ref S.length][S ++ [.lst ws]]):Wm Dd[ws] S Q:=(_,_,by unfold Dd;simp_all,q)
def Kq:(S ++ [c])[S.length]?=sr c:=by rw[bA aM[_],gB];rfl
theorem Ia{n:Nat}{i:Int}{w:W}{Q:W->Store->Prop}(b:S[n]?=sr .lst[ws])(hi:atI ws i=sr w)(q:Q w S):Wm (ixW .ref[n] .int[i]) S Q:=(w,S,by
 unfold ixW;dsimp only;rw[b];dsimp only;rw[hi];rfl,q)
theorem Asn{n:Nat}{Q:W->Store->Prop}(c:S[n]?=sr .lst[ws])(q:Q .int[ws.length] S):Wm Et[[.ref n]] S Q:=(_,S,by
 unfold Et;simp_all,q)
theorem Au3{n:Nat}{Q:W->Store->Prop}(c:S[n]?=sr .lst[ws])(q:Q .tup[ws] S):Wm Rz[[.ref n]] S Q:=(_,S,by
 unfold Rz;simp_all,q)
theorem Au4{n:Nat}{w:W}{Q:W->Store->Prop}(b:S[n]?=sr .lst[ws])(d:ws.length < big)(q:Q .non (S.set n .lst[ws ++ [w]])):Wm (Ky .ref[n] [w]) S Q:=(_,_,by
 unfold Ky Arq putL;dsimp only;rw[b];dsimp only;rw[di (by rw[bD,fY];omega)],q)
theorem Beo{a b:Nat}{ws us:lg W}{Q:W->Store->Prop}(h:S[a]?=sr .lst[ws])(g:S[b]?=sr .lst[us])(e:ws.length+us.length<=big)(q:Q[.ref S.length][S ++ [.lst[ws ++ us]]]):Wm (Bop.fn .add .ref[a] .ref[b]) S Q:=(_,_,by
 show addW .ref[a] .ref[b] S=_;unfold addW;simp_all,q)
end
section
variable{b b' b2:MS}{δ δ':De}{S:Store}{K:RS->Prop}{f:De->M W}{t:De->M Bool}{i k n:Nat}{P:SP}{ws:lg W}{p:Bool}
def Ss(b':MS)(K:RS->Prop):RS->Prop
 |.nx δ1 S1=>Wb b' δ1 S1 K
 |r=>K r
def Hd(h:Wb b δ S (Ss b' K)):Wb (Ae b b') δ S K:=(⟨by
 let h:=h.un;unfold Ae;revert h;cases b δ S with
 |nx a c=>exact λh=>h.un
 |_=>exact λh=>h⟩)
def Hn{c:Type}{m:M c}{k:c->MS}(h:Wm m S λa d=>K[k a δ d]):K[Gu m k δ S]:=by
 let(a,d,e,q):=h;unfold Gu;simp_all
def Dq(h:Wm f[δ] S λw S'=>Wb b' (δ.set i sr[w]) S' K):Wb Ae[Bx i f][b'] δ S K:=Hd ⟨Hn h⟩
def Aep(h:Wm f[δ] S λuw S'=>Wb b' δ S' K):Wb (Ae Hu[f] b') δ S K:=Hd ⟨Hn h⟩
def Cu(h:Wm f[δ] S λw S'=>K[.rt w S']):Wb (Ae retS[f] b') δ S K:=Hd ⟨Hn h⟩
def K3(h:K[.nx δ S]):Wb Aj δ S K:=⟨h⟩
def Er(h:Wm t[δ] S λp a=>Wb (if p then b else b2) δ a (Ss b' K)):Wb Ae[ifS t b b2][b'] δ S K:=(Hd ⟨Hn (Be h λp a q=>by cases p <;> exact q.un)⟩)
def N5(h:Wm t[δ] S λp a=>p=t8/\Wb b δ a (Ss b' K)):Wb Ae[ifS t b b2][b'] δ S K:=(Er (Be h λp a ⟨e,q⟩=>by subst e;exact q))
def Ib(h:Wm t[δ] S λp a=>p=t7/\Wb b' δ a K):Wb Ae[ifS t b Aj][b'] δ S K:=(Er (Be h λp a ⟨e,q⟩=>by subst e;exact⟨q⟩))
def Au5(Q:W->Store->Prop):RS->Prop
 |.rt w S'=>Q w S'
 |.nx _ S'=>Q .non S'
 |_=>False
def Ck(a:ws.length=k)(h:Wb b (Df n ws) S Au5[Q]):Wm (Br k n b ws) S Q:=by
 let h:=h.un;unfold Wm Br;rw[di a];revert h;cases b _ S with
 |nx δ c=>exact λh=>(_,_,rfl,h)
 |rt w c=>exact λh=>(_,_,rfl,h)
 |bk _ _=>exact λh=>h.elim
 |ct _ _=>exact λh=>h.elim
 |ex _ _ _=>exact λh=>h.elim
 |bad=>exact λh=>h.elim
def Azg(J:De->Store->Prop)(K:RS->Prop):RS->Prop
 |.nx δ S=>J δ S
 |.ct δ S=>J δ S
 |.bk δ S=>K (.nx δ S)
 |r=>K r
def Ak3{J:Nat->De->Store->Prop}(step:∀(i:Nat)(w:W)(δ:De)(S:Store),ws[i]?=sr w->J i δ S->∃d,s w δ=sr d/\Wb b d S (Azg J[i+1] K))(r:∀δ S,J ws.length δ S->K[.nx δ S])(y:J 0 δ S):Wb (Rj s b ws) δ S K:=by
 let o:∀(g:lg W)(i:Nat)(δ:De)(S:Store),ws.drop i=g->J i δ S->i<=ws.length->Wb (Rj s b g) δ S K:=by
  intro g;induction g with
  |nil=>
   intro i δ S hd q hi;have:i=ws.length:=by
    have:=uV.mp hd;omega
   subst this;exact⟨r δ S q⟩
  |cons w g u=>
   intro i δ S hd q hi;let e:i < ws.length:=by
    rcases xP i ws.length with h|h
    .exact h
    .rw[dC h] at hd;cases hd
   let l:=gO e;rw[hd] at l;let x:ws[i]?=sr w:=by rw[aQ e,(nQ l).1]
   let(d,z,a):=step i w δ S x q;let a:=a.un;refine⟨?_⟩;unfold Rj;rw[z];dsimp only;revert a;cases b d S with
   |nx c m=>exact λa=>(u (i+1) c m (nQ l).2.symm a e).un
   |ct c m=>exact λa=>(u (i+1) c m (nQ l).2.symm a e).un
   |bk c m=>exact λa=>a
   |rt _ _=>exact λa=>a
   |ex _ _ _=>exact λa=>a
   |bad=>exact λa=>a
 exact o ws 0 δ S rfl y dM[_]
def Bkl(e:Pu P src[δ] .fix[ws])(c:P.p S)(d:∀a,Fr [] S a->Wb (Rj s b ws) δ a (Ss b' K)):Wb Ae[Xw src s b][b'] δ S K:=(
 Hd ⟨Hn[Acl e c λa f=>(d a f).un]⟩)
def Aiq{J:Nat->De->lg W->Store->Prop}(step:∀(i:Nat)(w:W)(δ:De)(acc:lg W)(S:Store),ws[i]?=sr w->J i δ acc S->∃a,s w δ=sr a/\Wm t[a] S λp m=>if p=t8 then Wm e[a] m λy v=>acc.length < big/\J (i+1) a (acc ++ [y]) v else J (i+1) a acc m)(u:∀δ acc S,J ws.length δ acc S->Q acc S)(C:J 0 δ acc S):Wm (Ko s t e ws δ acc) S Q:=by
 let o:∀(g:lg W)(i:Nat)(δ:De)(acc:lg W)(S:Store),ws.drop i=g->J i δ acc S->i<=ws.length->Wm (Ko s t e g δ acc) S Q:=by
  intro g;induction g with
  |nil=>
   intro i δ acc S hd r hi;have:i=ws.length:=by
    have:=uV.mp hd;omega
   subst this;exact Du (u δ acc S r)
  |cons w g x=>
   intro i δ acc S hd r hi;let d:i < ws.length:=by
    rcases xP i ws.length with h|h
    .exact h
    .rw[dC h] at hd;cases hd
   let l:=gO d;rw[hd] at l;let z:ws[i]?=sr w:=by rw[aQ d,(nQ l).1]
   let(a,E,B):=step i w δ acc S z r;unfold Ko;rw[E];dsimp only;refine Az Aze[Be B λp m h=>?_];cases p with
   |false=>exact x (i+1) a acc m (nQ l).2.symm h d
   |true=>
    refine Az[Be h λy v ⟨hl,hJ2⟩=>?_];exact(di hl) ▸ x (i+1) a (acc ++ [y]) v (nQ l).2.symm hJ2 d
 exact o ws 0 δ acc S rfl C dM[_]
def Azh{J:Nat->De->lg W->Store->Prop}(step:∀(i:Nat)(w:W)(δ:De)(acc:lg W)(S:Store),ws[i]?=sr w->J i δ acc S->∃a,s w δ=sr a/\Wm t[a] S λp g=>if p=t8 then Wm e[a] g λy r=>acc.length < big/\J (i+1) a (acc ++ [y]) r else J (i+1) a acc g)(d:∀δ acc S,J ws.length δ acc S->Q acc S)(o:J 0 δ acc S):Wm (Wg s t e ws δ acc) S Q:=(
 Aiq (λi w δ acc S l m=>by
  let(a,q,h):=step i w δ acc S l m;refine(a,q,Be h λp g h=>?_);cases p with
  |false=>exact h
  |true=>exact Aze h) d o)
def Bep{k:Nat}{cap:lg Nat}(m:Pu P src[δ] .fix[ws])(j:P.p S)(l:∀a,Fr [] S a->Wm (Wg s t e ws (Xx k cap δ) []) a λacc d=>acc.length<=big/\Q[.ref d.length][d ++ [.lst acc]]):Wm (G7 k cap src s t e δ) S Q:=(
 Az[Acl m j λa f=>Az[Be[l a f] λ_ _ ⟨hl,q⟩=>Abx hl q]])
def Azi{k:Nat}{cap:lg Nat}(m:Pu P src[δ] .fix[ws])(j:P.p S)(l:∀a,Fr [] S a->Wm (Ko s t e ws (Xx k cap δ) []) a λacc d=>acc.length<=big/\Q[.ref d.length][d ++ [.lst acc]]):Wm (compX k cap src s t e δ) S Q:=(
 Az[Acl m j λa f=>Az[Be[l a f] λ_ _ ⟨hl,q⟩=>Abx hl q]])
end
end D
namespace M1
open PySem PySem.Builtin.Str
def sgs:t6:="0123456789abcdefghijklmnopqrstuvwxyzABCDEFGHIJKLMNOPQRSTUVWXYZ+-"
def Azj:sgs.cps.toList=[48,49,50,51,52,53,54,55,56,57,97,98,99,100,101,102,103,104,105,106,107,108,109,110,111,112,113,114,115,116,117,118,119,120,121,122,65,66,67,68,69,70,71,72,73,74,75,76,77,78,79,80,81,82,83,84,85,86,87,88,89,90,43,45]:=by rfl
def Af4:sgs.cps.size=64:=by trivial
def Ap7:sgs.length=64:=Af4
def sg(v:Nat):Nat:=sgs.cps.getD v 0
def one(c:Nat):t6:=⟨#[c]⟩
def Af5(c:Nat):(one c).length=1:=rfl
def Ap8{v:Nat}(h:v < 64):sgs.cps.toList[v]?=sr sg[v]:=by
 let b:v < sgs.cps.size:=by rw[Af4];omega
 unfold sg;simp_all
def subAt_one{c i:Nat}(hi:i < x.cps.size)(h:subAt x one[c] i=t8):x.cps[i]?=sr c:=by
 let b:=congrArg[λa=>a[0]?][eq_of_beq h];rw[Array.getElem?_extract_of_lt (by rw[Af5];omega)] at b
 rw[rG hi];trivial
def idx(c:Nat):Nat:=(occurrences sgs one[c] 0 sgs.length 1).headD 0
def inS(c:Nat):Bool:=!(occurrences sgs one[c] 0 sgs.length 1).isEmpty
def Anf{c:Nat}(h:inS c=t8):∃rest,occurrences sgs one[c] 0 sgs.length 1=idx c::rest:=by
 unfold inS at h;unfold idx;cases e:occurrences sgs _ 0 sgs.length 1 with
 |nil=>simp_all
 |cons i r=>exact(r,rfl)
def Ang{c:Nat}(h:inS c=t8):idx c < 64/\sgs.cps[idx c]?=sr c:=by
 let(r,e):=Anf h;let q:=StrLaws.occ_spec sgs _ 0 sgs.length 1 _ (e ▸ bF);rw[Af5,Ap7] at q;exact((),subAt_one (by rw[Af4];omega) q.2)
def Bkm{c:Nat}(h:inS c=t8):idx c < 64:=(Ang h).1
def Azk{v:Nat}(h:v < 64):inS sg[v]=t8:=by
 unfold inS one;rw[StrLaws.found_one];exact dj gG[Ap8[h]]
def Bkn{v:Nat}(h:v < 64):idx sg[v]=v:=by
 let(j,c):=Ang Azk[h];let a:sgs.cps.toList[idx sg[v]]?=sr sg[v]:=jK ▸ c;let b:=Ap8 h;let(i,e):=aJ.mp a;let(g,d):=aJ.mp b;exact(mW (by
   rw[Azj];decide)).mp e.trans[d.symm]
def Ej:Nat->Int->t6
 |0,_=>⟨#[]⟩
 |k+1,n=>one sg[(n / 64 ^ k % 64).toNat] ++ Ej k n
def Au6(k:Nat)(n:Int):(Ej k n).cps.size=k:=by
 induction k with
 |zero=>rfl
 |succ k a=>
  show ((one _).cps ++ _).size=k+1;rw[xU,a];show 1+k=k+1;omega
def Azl:lg Nat->Int->Int
 |[],n=>n
 |c::r,n=>Azl r (n * 64+(idx c:Int))
def Air(k:Nat)(n:Int):(Ej (k+1) n).cps.toList=sg (n / 64 ^ k % 64).toNat::(Ej k n).cps.toList:=by
 show ((one _).cps ++ _).toList=_;rw[iY];rfl
def toNat_lt(n:Int):(n % 64).toNat < 64:=by omega
def Azm(n:Int){p q:Int}(hp:0 < p)(b:0 < q):n % (p * q)=(n / p % q) * p+n % p:=by
 let j:=uJ n p;let i:=uJ (n / p) q;let d:=jN[n / p][aCe b];let h:=lQ (n / p) b;let c:=jN n aCe[hp];let g:=lQ n hp;generalize n / p % q=r at *
 generalize n % p=t at *
 generalize n / p / q=m at *
 let f:n=(r * p+t)+(p * q) * m:=by grind
 rw[f,Int.add_mul_emod_self_left];apply xV Int.add_nonneg[Int.mul_nonneg d aCf[hp]][c];let e:(r+1) * p<=q * p:=Int.mul_le_mul_of_nonneg_right () aCf[hp]
 rw[aCy,Int.one_mul] at e;rw[aCg p q];omega
def Azn(k:Nat)(n a:Int)(_hn:0<=n):Azl (Ej k n).cps.toList a=a * 64 ^ k+n % 64 ^ k:=by
 induction k generalizing a with
 |zero=>show a=_;omega
 |succ k c=>
  rw[Air];show Azl (Ej k n).cps.toList _=_;rw[c,Bkn toNat_lt[_]];let e:_=n / 64 ^ k % 64:=kY[jN _ ()]
  rw[e];let d:n % 64 ^ (k+1)=(n / 64 ^ k % 64) * 64 ^ k+n % 64 ^ k:=by
   rw[xW];exact Azm n (Int.pow_pos ()) ()
  rw[d,xW,aCy,Int.mul_assoc,aCg 64 _];omega
def Ak4{k:Nat}{n:Int}(b:0<=n)(c:n < 64 ^ k):Azl (Ej k n).cps.toList 0=n:=by
 rw[Azn k n 0 b,Int.zero_mul,tZ];exact xV b c
end M1
namespace M2
open PySem PySem.Builtin.Str M1
def okC(c:Nat):Bool:=decide[32<=c]&&decide[c<=126]&&decide[c≠37]
def Cj(x:t6):Bool:=x.cps.toList.all okC
def Bnl(l:lg Nat)(k:Nat):Int:=((fD k).map λ(i:Nat)=>((l.getD i 0:Nat) - 32+1:Int) * ((i:Int)+1)).sum
def chk(l:lg Nat):Int:=Bnl l l.length
def check(x:t6):t6:=Ej 2 (chk x.cps.toList % 4093)
def Beq{c:Nat}:okC c=t8 ↔ 32<=c/\c<=126/\c≠37:=by
 unfold okC;simp[and_assoc]
def Ber{l:lg Nat}{a:Nat}(h:l.all okC=t8)(c:a < l.length):okC[l.getD a 0]=t8:=by
 rw[bL,aQ c];exact bB.mp h _ jB[c]
def Anh{b:Type}{p:b->Bool}{a:b}{l:lg b}(f:p a=t8)(h:∃c∈a::l,p c=t7):∃c∈l,p c=t7:=by grind
theorem Aby{b:Type}(p:b->Bool):∀l:lg b,(∃c∈l,p c=t7)->(l.takeWhile p).length < l.length
 |[],h=>by simp_all
 |a::l,h=>by
  rw[qL];cases f:p a with
  |false=>simp
  |true=>
   have:=Aby p l (Anh f h);simp_all
theorem Ais{b:Type}(p:b->Bool):∀l:lg b,(∀c∈l,p c=t8)->l.takeWhile p=l
 |[],_=>rfl
 |a::l,h=>by
  rw[qL,h a .head[_],di rfl,Ais p l (λc f=>h c (.tail _ f))]
theorem Ait{b:Type}(p:b->Bool):∀l:lg b,(∃c∈l,p c=t7)->∃c∈l.drop (l.takeWhile p).length,p c=t7
 |[],h=>by trivial
 |a::l,h=>by
  rw[qL];cases f:p a with
  |false=>trivial
  |true=>
   exact Ait p l (Anh f h)
def Au7(h:∀c∈x.cps.toList,y.cps.contains c=t8):jJ x y=⟨#[]⟩:=by
 let lo:stripLo y.cps.contains t8 x=x.cps.size:=by
  unfold stripLo;rw[di rfl,Ais _ _ h,aX]
 unfold jJ aCz;split
 .rename_i hs;unfold stripSame at hs;rw[lo,aL] at hs;have:x.cps.size=0:=by simpa using hs.1
  cases x with|mk a=>
  exact congrArg aEj lG[this]
 .unfold stripped;exact lo ▸ congrArg aEj (lG ())
def Au8(h:∃c∈x.cps.toList,y.cps.contains c=t7):jJ x y≠⟨#[]⟩:=by
 let i:x.cps.toList.length=x.cps.size:=aX;let a:stripLo y.cps.contains t8 x=(x.cps.toList.takeWhile y.cps.contains).length:=rfl;let k:=Aby _ _ h;let j:=Ait _ _ h;let f:∃c∈(x.cps.toList.drop (x.cps.toList.takeWhile y.cps.contains).length).reverse,y.cps.contains c=t7:=by simp_all
 let d:=Aby _ _ f;rw[List.length_reverse,dX] at d;intro e;let e:=congrArg (λz:t6=>z.cps.size) e;unfold jJ aCz at e;split at e
 .let e:x.cps.size=0:=e;omega
 .unfold stripped at e;rw[a] at e;unfold stripHi at e;let e:(x.cps.extract (x.cps.toList.takeWhile y.cps.contains).length (x.cps.size - _)).size=0:=e;rw[Array.size_extract] at e;omega
def tsg:t6:=" !\"#$&'()*+,-./0123456789:;<=>?@ABCDEFGHIJKLMNOPQRSTUVWXYZ[\\]^_`abcdefghijklmnopqrstuvwxyz{|}~"
def Bes:∀c,c < 127->tsg.cps.contains c=okC c:=by decide +kernel
def Bet:tsg.cps.toList.all[λc=>decide[c < 127]]=t8:=by decide +kernel
def Azo(c:Nat):tsg.cps.contains c=okC c:=by
 by_cases h:c < 127
 .exact Bes c h
 .let e:okC c=t7:=by
   unfold okC;rw[dq (p:=c<=126) (),Bool.and_false,zZ]
  rw[e];cases f:tsg.cps.contains c with
  |false=>rfl
  |true=>
   let b:c∈tsg.cps.toList:=by simp_all
   exact absurd dg[bB.mp Bet c b] h
def Ap9(z:t6):(jJ z tsg==⟨#[]⟩)=Cj z:=by
 cases h:Cj z with
 |true=>
  exact(Au7 (λc a=>by rw[Azo];exact bB.mp h c a)) ▸ beq_self_eq_true _
 |false=>
  rw[beq_eq_false_iff_ne];apply Au8;let(c,a,hp):=List.all_eq_false.mp h;exact(c,a,by rw[Azo];exact tG _ ▸ hp)
end M2
namespace M1
open PySem PySem.Builtin.Str
end M1
namespace M2
open PySem PySem.Builtin.Str M1
def Azp{m n:Int}(g:0<=m)(f:m < 4096)(d:0<=n)(c:n < 4096)(e:Ej 2 m=Ej 2 n):m=n:=by
 let a:=Ak4 (k:=2) g (by simpa using f)
 let b:=Ak4 (k:=2) d (by simpa using c)
 rw[<-a,<-b,e]
def Azq{x y:t6}(e:check x=check y):chk x.cps.toList % 4093=chk y.cps.toList % 4093:=by
 refine Azp ?_ ?_ ?_ ?_ e <;> omega
end M2
namespace D
open PySem PySem.Spec PyProof.Rows L2
section
variable{α β:Type}{δ:De}{S S':Store}{n:Nat}{c:Nat}{f g e:De->M W}{gs:De->M (lg W)}{t u:De->M Bool}{Q:W->Store->Prop}{K:RS->Prop}{b b':MS}{x y v w z:W}{ws us:lg W}{k:Key}{kvs:lg (Key×W)}{fs fs':lg (t6×W)}{m nm:t6}{ok:Bool->Nat->t6->Bool}
def Iv{m:M α}{a:α}{Q:α->Store->Prop}(e:m S=.ok a S')(q:Q a S'):Wm m S Q:=(a,S',e,q)
def Azr(h:Wm f[δ] S λx S1=>Wm (Wf ok nm x) S1 Q):Wm (Ih ok nm f δ) S Q:=Az h
theorem Aso(h:S[n]?=sr[.ins c fs])(d:ok t7 c nm=t8)(a:fs.lookup nm=sr w)(q:Q w S):Wm (Wf ok nm .ref[n]) S Q:=(w,S,by
 unfold Wf;dsimp only;rw[h];dsimp only;rw[di d,a];rfl,q)
def Ak5{c0 c1:Cell}{P:Store->Prop}(hn:S[n]?=sr c0)(q:∀S',Fr [n] S S'->S'[n]?=sr c1->P S'):P[S.set n c1]:=q _ .set Ak2[Ff[hn]]
theorem Gn{Q:Unit->Store->Prop}(a:S[n]?=sr[.ins c fs])(h:(ok t7 c nm&&decide[fs.length < 1000])=t8)(e:Acf nm v fs=fs')(q:∀S',Fr [n] S S'->S'[n]?=sr[.ins c fs']->Q u9 S'):Wm (Acg ok nm .ref[n] v) S Q:=(u9,_,by
 unfold Acg;dsimp only;rw[a];dsimp only;rw[di h,e],Ak5 a q)
def Ak6(h:Wm e[δ] S λy S1=>Wm g[δ] S1 λx S2=>Wm (Acg ok nm x y) S2 λuw S3=>Wb b' δ S3 K):Wb Ae[G9 ok nm g e][b'] δ S K:=Hd ⟨Hn Az[Be h λuw uw h=>Az h]⟩
def Azs(h:Wm e[δ] S λv S1=>Wm f[δ] S1 λx S2=>Wm g[δ] S2 λy S3=>Wm (Aci x y v) S3 λuw S4=>Wb b' δ S4 K):Wb Ae[Jb f g e][b'] δ S K:=Hd ⟨Hn Az[Be h λuw uw h=>Az[Be h λuw uw h=>Az h]]⟩
theorem Ho{Q:Unit->Store->Prop}(d:S[n]?=sr .dct[kvs])(i:Abr y=sr k)(h:kvs.length < big)(q:∀S',Fr [n] S S'->S'[n]?=sr .dct[Ach kvs k v]->Q u9 S'):Wm (Aci .ref[n] y v) S Q:=(u9,_,by
 unfold Aci;simp_all,Ak5 d q)
theorem Beu{Q:Unit->Store->Prop}{i:Int}(d:S[n]?=sr .lst[ws])(j:0<=i)(hi:i < ws.length)(q:∀S',Fr [n] S S'->S'[n]?=sr .lst[ws.set i.toNat v]->Q u9 S'):Wm (Aci .ref[n] .int[i] v) S Q:=(u9,_,by
 unfold Aci;simp_all,Ak5 d q)
def Aeq(hn:S[n]?=sr .lst[ws])(hl:ws.length < big)(q:∀S',Fr [n] S S'->S'[n]?=sr .lst[ws ++ [w]]->Q .non S'):Wm (Ky .ref[n] [w]) S Q:=Au4 hn hl (Ak5 hn q)
theorem Azt(d:S[n]?=sr .dct[kvs])(h:Abr y=sr k)(a:Akl kvs k=sr w)(q:Q w S):Wm (ixW .ref[n] y) S Q:=(w,S,by
 unfold ixW;dsimp only;rw[d,h];dsimp only;rw[a];rfl,q)
def W9{mt:Nat->t6->o9 Fi}(h:Wm f[δ] S λx S1=>Wm (X3 mt m x) S1 λi S2=>Wm gs[δ] S2 λws S3=>Wm (Ahq i x ws) S3 Q):Wm (Bh mt m f gs δ) S Q:=Az[Be h λuw uw h=>Az[Be h λuw uw h=>Az h]]
theorem Ec{mt:Nat->t6->o9 Fi}{i:Fi}{Q:Fi->Store->Prop}(a:S[n]?=sr[.ins c fs])(h:fs.lookup m=sy)(d:mt c m=sr i)(q:Q i S):Wm (X3 mt m .ref[n]) S Q:=(i,S,by
 unfold X3;dsimp only;rw[a];dsimp only;rw[h,d],q)
def Xa{g:lg W->M W}{np:Nat}{dv:lg W}(h:ws.length+1=np)(q:Wm (g (x::ws)) S Q):Wm (Ahq (g,np,dv) x ws) S Q:=by
 unfold Ahq;rw[di h];omega
def Azu{T:Ty}{op:W->lg W->M W}(h:Wm f[δ] S λx S1=>T.is x S1=t8/\Wm gs[δ] S1 λws S2=>Wm (op x ws) S2 Q):Wm (Lp T op f gs δ) S Q:=Az[Be h λ_ _ ⟨e,h⟩=>Az (u9,_,di e,Az h)]
def Bko(a:S[n]?=sr .dct[kvs]):Ty.is .dct .ref[n] S=t8:=by
 unfold Ty.is;dsimp only;rw[a]
def Bkp(a:S[n]?=sr .lst[ws]):Ty.is .lst .ref[n] S=t8:=by
 unfold Ty.is;simp_all
def Cd(hl:ws.length<=big)(q:∀n S',Fr [] S S'->S'[n]?=sr .lst[ws]->S.length<=n->Q .ref[n] S'):Wm Dd[ws] S Q:=Abx hl (q _ _ .app Kq aM[_])
def Lr(h:Wm gs[δ] S λws S1=>Wm Dd[ws] S1 Q):Wm (Ez gs δ) S Q:=Az h
def TB(Q:Bool->Store->Prop)(x:W)(S:Store):Prop:=∃p,x=.bl p/\Q p S
def tb{Q:Bool->Store->Prop}{p:Bool}(q:Q p S):TB Q .bl[p] S:=(p,rfl,q)
def Js{Q:Bool->Store->Prop}(h:Wm f[δ] S TB[Q]):Wm (Dl f δ) S Q:=(Az (Be h λ_ _ ⟨p,e,q⟩=>by subst e;exact Du q))
def Bha{o:Bop}{a:W}(e:o.fn x y S=.ok a S')(q:Q a S'):Wm (o.fn x y) S Q:=(a,S',e,q)
def Bhb{o:vW}{a:W}(e:Fd o x y S=.ok a S')(q:Q a S'):Wm (Fd o x y) S Q:=(a,S',e,q)
def Azv{a:W}(e:ixW x y S=.ok a S')(q:Q a S'):Wm (ixW x y) S Q:=(a,S',e,q)
def Asp{a:W}(e:Et ws S=.ok a S')(q:Q a S'):Wm Et[ws] S Q:=(a,S',e,q)
def Acm{c:Prop}[Decidable c]{m n:M α}{Q:α->Store->Prop}(a:c)(h:Wm m S Q):Wm (if c then m else n) S Q:=by simp_all
def Ak7{i j:Int}(h:(small i||small j)=t8)(q:Q .int[i * j] S):Wm (Bop.fn .mul .int[i] .int[j]) S Q:=Acm h Du[q]
def Asq{i j:Int}(h:0 < j)(q:Q .int[i % j] S):Wm (Bop.fn .mod .int[i] .int[j]) S Q:=Acm h Du[q]
def Ani{i j:Int}(h:0 < j)(a:j < 1073741824)(q:Q .int[i / j] S):Wm (Bop.fn .fdiv .int[i] .int[j]) S Q:=(Acm (by rw[dj h,dj a];rfl) Du[q])
def Ak8{x y:t6}(h:x.length+y.length<=big)(q:Q .str[x ++ y] S):Wm (Bop.fn .add .str[x] .str[y]) S Q:=Acm h Du[q]
def Aab{x:t6}(h:x.length<=big)(q:Q .int[x.length] S):Wm Et[[.str x]] S Q:=Acm h Du[q]
def Azw{i j:Int}(q:Q .bl[decide[i < j]] S):Wm (Fd .Lt .int[i] .int[j]) S Q:=(_,S,rfl,q)
def Azx{i j:Int}(q:Q .bl[decide[i<=j]] S):Wm (Fd .LtE .int[i] .int[j]) S Q:=(_,S,rfl,q)
def Azy{i j:Int}(q:Q .bl[decide[j < i]] S):Wm (Fd .Gt .int[i] .int[j]) S Q:=(_,S,rfl,q)
def Azz{i j:Int}(q:Q .bl[decide[j<=i]] S):Wm (Fd .GtE .int[i] .int[j]) S Q:=(_,S,rfl,q)
def Az0{i j:Int}(q:Q .bl[decide[i=j]] S):Wm (Fd .Eq .int[i] .int[j]) S Q:=(_,S,rfl,q)
def Az1{i j:Int}(q:Q .bl[!decide (i=j)] S):Wm (Fd .NotEq .int[i] .int[j]) S Q:=(_,S,rfl,q)
def Cg(h:Wb b' δ S K):Wb Aj δ S (Ss b' K):=⟨h⟩
def Hf{c:Prop}[Decidable c]{b2:MS}(d:c->Wb b δ S K)(a:¬ c->Wb b2 δ S K):Wb (if decide c=t8 then b else b2) δ S K:=by
 by_cases h:c
 .rw[dj h];exact d h
 .rw[dq h];exact a h
def Vr{Q:Bool->Store->Prop}(h:Wm t[δ] S λp S1=>Q (!p) S1):Wm (Jk t δ) S Q:=Az[Be h λuw uw q=>Du q]
def Ak9{Q:Bool->Store->Prop}(h:Wm t[δ] S λp d=>p=t7/\Wm u[δ] d Q):Wm (orT t u δ) S Q:=(Az (Be h λ_ _ ⟨e,q⟩=>by subst e;exact q))
def Ala{Q:Bool->Store->Prop}(h:Wm t[δ] S λp d=>p=t8/\Q t8 d):Wm (orT t u δ) S Q:=(Az (Be h λ_ _ ⟨e,q⟩=>by subst e;exact Du q))
theorem Asr(a:S[n]?=sr .dct[kvs])(q:Q .int[kvs.length] S):Wm Et[[.ref n]] S Q:=(_,S,by
 unfold Et;simp_all,q)
def Ass(i:S[n]?=sr .lst[ws])(d:ws.length<=big)(q:∀n S',Fr [] S S'->S'[n]?=sr .lst[ws]->S.length<=n->Q .ref[n] S'):Wm Ail[[.ref n]] S Q:=by
 let(a,h,e,z):=Cd d q;refine(a,h,?_,z);unfold Ail;simp_all
def Alb{xs ys:lg W}(h:xs.length+ys.length<=big)(q:Q .tup[xs ++ ys] S):Wm (Bop.fn .add .tup[xs] .tup[ys]) S Q:=Acm h Du[q]
theorem Af6{s:Tg}{gt:Store->Nat->o9 o9[W]}{J:Nat->De->Store->Prop}(there:∀i δ S,J i δ S->gt S i=sr ws[i]?)(step:∀(i:Nat)(w:W)(δ:De)(S:Store),ws[i]?=sr w->J i δ S->∃h,s w δ=sr h/\Wb b h S (Azg J[i+1] K))(j:∀δ S,J ws.length δ S->K[.nx δ S]):∀(fuel i:Nat)(δ:De)(S:Store),J i δ S->i<=ws.length->ws.length < i+fuel->Wb (Akn s b gt fuel i) δ S K
 |0,i,_,_,_,_,_=>by omega
 |fuel+1,i,δ,S,q,hi,hf=>by
  refine⟨?_⟩;unfold Akn;rw[there i δ S q];by_cases p:i < ws.length
  .let r:=aQ p;let(h,A,a):=step i getElem[ws][i][by get_elem_tactic] δ S r q;rw[r];dsimp only;rw[A];dsimp only;let a:=a.un;revert a;cases b h S with
   |nx d o=>exact λa=>(Af6 there step j fuel (i+1) d o a p ()).un
   |ct d o=>exact λa=>(Af6 there step j fuel (i+1) d o a p ()).un
   |bk d o=>exact λa=>a
   |rt _ _=>exact λa=>a
   |ex _ _ _=>exact λa=>a
   |bad=>exact λa=>a
  .obtain rfl:i=ws.length:=by omega
   rw[gR aM[_]];exact j δ S q
def Bev{s:Tg}(h:Wm f[δ] S λx a=>∃n ws,x=.ref n/\a[n]?=sr .lst[ws]/\Wb (Akn s b liG[n] (ws.length+1) 0) δ a (Ss b' K)):Wb Ae[Xw Iu[f] s b][b'] δ S K:=by
 refine Hd ⟨Hn Az[Be h λx a ⟨n,ws,e,hn,hb⟩=>?_]⟩;refine(.liv n,a,?_,?_)
 .unfold Axu;simp_all
 .show Ss b' K (match a[n]? with|some (.lst ws)=>_|_=>_)
  rw[hn];exact hb.un
def Wh{b2:MS}(h:Wb b2 δ S K):Wb (if t7=t8 then b else b2) δ S K:=h
def Su{b2:MS}(h:Wb b δ S K):Wb (if t8=t8 then b else b2) δ S K:=h
def Bkq{f g:De->M W}(h:Wm t[δ] S λp S1=>Wm (if p=t8 then f δ else g δ) S1 Q):Wm (Arh t f g δ) S Q:=Az h
def Bnm{f g:De->M W}(h:Wm g[δ] S Q):Wm (if t7=t8 then f δ else g δ) S Q:=h
def Bnn{f g:De->M W}(h:Wm f[δ] S Q):Wm (if t8=t8 then f δ else g δ) S Q:=h
def Bkr{c:Prop}[Decidable c]{d a:M α}{Q:α->Store->Prop}(j:c->Wm d S Q)(i:¬ c->Wm a S Q):Wm (if decide c=t8 then d else a) S Q:=by
 by_cases h:c
 .rw[dj h];exact j h
 .rw[dq h];exact i h
end
section
variable{α β:Type}{δ:De}{S S':Store}{n:Nat}{c:Nat}{f g e:De->M W}{gs:De->M (lg W)}{t u:De->M Bool}{Q:W->Store->Prop}{K:RS->Prop}{b b':MS}{x y v w z:W}{ws us:lg W}{k:Key}{kvs:lg (Key×W)}
def Bno{l h:De->M o9[Int]}(q:Wm f[δ] S λx S1=>Wm l[δ] S1 λlo S2=>Wm h[δ] S2 λhi S3=>Wm (slW x lo hi) S3 Q):Wm (slF f l h δ) S Q:=Az[Be q λuw uw q=>Az[Be q λuw uw q=>Az q]]
def PI(Q:o9 Int->Store->Prop)(x:W)(S:Store):Prop:=∃i,x=.int i/\Q sr[i] S
def pi_{Q:o9 Int->Store->Prop}{i:Int}(q:Q sr[i] S):PI Q .int[i] S:=(i,rfl,q)
def Bew{Q:o9 Int->Store->Prop}(h:Wm f[δ] S PI[Q]):Wm (Dj f δ) S Q:=(Az (Be h λ_ _ ⟨i,e,q⟩=>by subst e;exact Du q))
def Bks{Q:o9 Int->Store->Prop}(q:Q sy S):Wm Cv[δ] S Q:=Du q
def Af7{z:t6}{lo hi:o9 Int}(hz:z.length<=big)(q:Q .str[cO z lo hi] S):Wm (slW .str[z] lo hi) S Q:=Acm hz Du[q]
def Az2{lo hi:o9 Int}(j:S[n]?=sr .lst[ws])(d:(Rw ws lo hi).length<=big)(q:∀n S',Fr [] S S'->S'[n]?=sr .lst[Rw ws lo hi]->S.length<=n->Q .ref[n] S'):Wm (slW .ref[n] lo hi) S Q:=by
 let(a,h,e,z):=Cd d q;refine(a,h,?_,z);unfold slW;simp_all
theorem Bkt(a:S[n]?=sr .dct[kvs])(d:Abr x=sr k)(q:Q .bl[(Akl kvs k).isSome] S):Wm (Fd .In x .ref[n]) S Q:=(_,S,by
 show inW t7 x .ref[n] S=_;unfold inW;dsimp only;rw[a];dsimp only;rw[d];rfl,q)
theorem Bex(a:S[n]?=sr .dct[kvs])(d:Abr x=sr k)(q:Q .bl[!(Akl kvs k).isSome] S):Wm (Fd .NotIn x .ref[n]) S Q:=(_,S,by
 show inW t8 x .ref[n] S=_;unfold inW;dsimp only;rw[a];dsimp only;rw[d];rfl,q)
def Alc{z:t6}{n:Int}(h:(decide[z.length<=16]&&decide[-1048576<=n]&&decide[n<=1048576])=t8)(q:Q .str[mJ z n] S):Wm (Bop.fn .mul .str[z] .int[n]) S Q:=Acm h Du[q]
def Bey{i j:Int}(q:Q (.int (if j > i then j else i)) S):Wm Axo[[.int i,.int j]] S Q:=(_,S,rfl,q)
def Bez{a:W->lg W->M W}(h:Wm f[δ] S λx d=>∃n kvs,x=.ref n/\d[n]?=sr .dct[kvs]/\Wm gs[δ] d λws l=>Wm (a x ws) l Q):Wm (Lp .dct a f gs δ) S Q:=(Azu (Be h λ_ _ ⟨n,kvs,e,hn,h⟩=>by subst e;exact(Bko hn,h)))
def Be0{a:W->lg W->M W}(h:Wm f[δ] S λx d=>∃n ws,x=.ref n/\d[n]?=sr .lst[ws]/\Wm gs[δ] d λws l=>Wm (a x ws) l Q):Wm (Lp .lst a f gs δ) S Q:=(Azu (Be h λ_ _ ⟨n,kvs,e,hn,h⟩=>by subst e;exact(Bkp hn,h)))
end
section
variable{α β:Type}{δ:De}{S S':Store}{n k i:Nat}{c:Nat}{f g e:De->M W}{gs:De->M (lg W)}{Q:W->Store->Prop}{X:Nat×W->Store->Prop}{K:RS->Prop}{b b' s1 s2:MS}{w:W}{ws us dv:lg W}{a1 n1 a2:Nat->Bool}{L:Lm->lg W->M W}
def WmX{α:Type}(m:M α)(S:Store)(X:Nat×W->Store->Prop):Prop:=∃c S',m S=.exc c S'/\X c S'
def Bnp(X:Nat×W->Store->Prop):RS->Prop
 |.ex c _ S'=>X c S'
 |_=>False
def Ls(a:ws.length=k)(h:Wb b (Df n ws) S Bnp[X]):WmX (Br k n b ws) S X:=by
 let h:=h.un;unfold WmX Br;rw[di a];revert h;cases b _ S with
 |ex c δ S'=>exact λh=>(_,_,rfl,h)
 |_=>exact λh=>h.elim
def Pk(h:Wm gs[δ] S λws a=>ws.length<=big/\K .ex[u6 c .non][δ][a]):Wb Ae[Hc c gs][b'] δ S K:=(Hd ⟨Hn (Be h λws a ⟨l,q⟩=>by rw[di l];exact q)⟩)
def Au9(h:Wm gs[δ] S λws a=>∃w us,ws=w::us/\us.length+dv.length=1/\K .ex[u6 c w][δ][a]):Wb Ae[Jq c dv gs][b'] δ S K:=(Hd ⟨Hn (Be h λws a ⟨w,us,e,l,q⟩=>by subst e;dsimp only;rw[di l];exact q)⟩)
def Aac{m:M α}{k:α->M β}(h:Wm m S λa d=>WmX k[a] d X):WmX (m >>= k) S X:=by
 let(a,d,e,c,l,j,q):=h;exact(c,l,by rw[Dc,e];exact j,q)
def Aiu{m:M α}{k:α->M β}(h:WmX m S X):WmX (m >>= k) S X:=by
 let(c,a,e,q):=h;exact(c,a,by rw[Dc,e],q)
def Jt{mt:Nat->t6->o9 Fi}{m:t6}(h:Wm f[δ] S λx S1=>Wm (X3 mt m x) S1 λi S2=>Wm gs[δ] S2 λws S3=>WmX (Ahq i x ws) S3 X):WmX (Bh mt m f gs δ) S X:=Aac[Be h λuw uw h=>Aac[Be h λuw uw h=>Aac h]]
def Ju{x:W}{g:lg W->M W}{np:Nat}{dv:lg W}(h:ws.length+1=np)(q:WmX (g (x::ws)) S X):WmX (Ahq (g,np,dv) x ws) S X:=by
 unfold Ahq;rw[di h];exact q
def Be1(h:WmX f[δ] S λc a=>K[.ex c δ a]):Wb (Ae retS[f] b') δ S K:=(Hd ⟨by
 let(c,a,e,q):=h;unfold retS Gu;rw[e];exact q⟩)
def Be2(h:WmX f[δ] S X):WmX Ez[Eo f nilF][δ] S X:=Aiu Aiu[h]
def Ava(h:Wm f[δ] S λx d=>∃n l ws,x=.ref n/\d[n]?=sr[.clo l ws]/\W5 l=t8/\Wm[L l ws][d.set n .dead][Q]):Wm (Afj L f δ) S Q:=(Az (Be h λx d ⟨n,l,ws,e,hn,hb,a,S2,e2,q⟩=>(a,S2,by
 subst e;unfold Aef;dsimp only;rw[hn];dsimp only;rw[di hb,e2],q)))
def Aqa(h:Wm f[δ] S λx d=>∃n l ws,x=.ref n/\d[n]?=sr[.clo l ws]/\W5 l=t8/\WmX[L l ws][d.set n .dead][X]):WmX (Afj L f δ) S X:=(Aac (Be h λx d ⟨n,l,ws,e,hn,hb,a,S2,e2,q⟩=>(a,S2,by
 subst e;unfold Aef;dsimp only;rw[hn];dsimp only;rw[di hb,e2],q)))
def Ast{j:Nat}{l:Lm}{cap:lg Nat}{g:lg W->M W}(p:Cz (λi=>δ.getD i sy) cap=sr ws)(o:S[j]?=sr .tab[l.qual])(h:Wm[g [.ref S.length]][S ++ [.clo l ws]] λv m=>Q v (m.set S.length .dead)):Wm (Dy j l cap g δ) S Q:=by
 let(v,m,e,q):=h;refine(v,_,?_,q);unfold Dy;rw[p];dsimp only;rw[o];dsimp only;rw[di rfl,e];rfl
end
end D
namespace K8
open PySem PySem.Spec PyProof.Rows L2 D
abbrev kI(i:Int):=kF .int[i]
abbrev kS(z:t6):=kF .str[z]
abbrev kB(b:Bool):=kF .bl[b]
abbrev yA(f:De->M W):=Eo f nilF
abbrev yB(f g:De->M W):=Eo f yA[g]
abbrev yC(f g h:De->M W):=Eo f (yB g h)
abbrev yD(f g h i:De->M W):=Eo f (yC g h i)
abbrev zA(s:lg W->M W)(f:De->M W):=Dw s yA[f]
abbrev zB(s:lg W->M W)(f g:De->M W):=Dw s (yB f g)
abbrev zC(s:lg W->M W)(f g h:De->M W):=Dw s (yC f g h)
abbrev tQ(o:vW)(f g:De->M W):=Dl[Ea o f g]
abbrev rQ(f:De->M W):=Ae retS[f] Aj
def top(i:Nat):cF:=PySem.Challenge.pw_leafhouse_k08_falls_amid_a_write.main.body.getD i (.Pass (0,0,0,0))
def Be3:lg Nat:=[0,1,2,3,4,5,6,7,8,9,10,11,12]
def Bnq:lg[Nat×Nat×Bool]:=Be3.flatMap λc=>Be3.map λk=>(u6 c u6[k][k==0||c==k])
def isa:Nat->W->o9 Bool:=Ay2 Bnq Be3
def Bnr:lg[Nat×t6]:=[(14,"size"),(14,"page_texts"),(14,"row_texts"),(14,"begun"),(14,"off"),(14,"turns_left"),(14,"signs_done"),(13,"body"),(13,"place")]
def xfL:lg[Nat×t6]:=[(6,"number"),(7,"key")]
def fld(b:Bool)(c:Nat)(f:t6):Bool:=if b then xfL.lookup c==sr f else Bnr.contains[u6 c f]
def mnL:lg t6:=["__init__","add","begin_write","clear","end_write","fall","is_off","next_cell","next_key","next_keys","next_number","next_numbers","next_row","next_rows","next_signs","pages","rows","up","write","writes"]
def mkL:lg[t6×Nat]:=[("BodyReader",13),("Disk",14)]
def Bns:lg[t6×W]:=(u6 "SIGNS" .str["0123456789abcdefghijklmnopqrstuvwxyzABCDEFGHIJKLMNOPQRSTUVWXYZ+-"])::(u6 "BITS" .int[6])::(u6 "LOWEST_BITS" .int[63])::(u6 "MOST_SIGNS" .int[3])::(u6 "TEXT_SIGNS" .str[" !\"#$&'()*+,-./0123456789:;<=>?@ABCDEFGHIJKLMNOPQRSTUVWXYZ[\\]^_`abcdefghijklmnopqrstuvwxyz{|}~"])::(u6 "CODES_AHEAD" .int[31])::(u6 "CHECK_DIVISOR" .int[4093])::(u6 "CHECK_SIGNS" .int[2])::(u6 "MOST_KEY_SIGNS" .int[12])::(u6 "MOST_VALUE_SIGNS" .int[400])::(u6 "LEAST_SIZE" .int[64])::(u6 "MOST_SIZE" .int[200])::(u6 "MOST_NUMBER" .int[4095])::(u6 "MOST_ROWS" .int[63])::(u6 "MOST_CELL_SIGNS" .int[63])::(u6 "NUMBER_SIGNS" .int[2])::(u6 "SIGNS_BESIDE_BODY" .int[5])::(u6 "BODY_START" .int[3])::(u6 "int" .ty["int"])::(u6 "bool" .ty["bool"])::(u6 "str" .ty["str"])::(u6 "tuple" .ty["tuple"])::(u6 "list" .ty["list"])::(u6 "ValueError" .ty["ValueError"])::(u6 "TableError" .cls[0])::(u6 "BadNumber" .cls[1])::(u6 "BadText" .cls[2])::(u6 "BadSize" .cls[3])::(u6 "BadKey" .cls[4])::(u6 "BadValue" .cls[5])::(u6 "BadPage" .cls[6])::(u6 "NoKey" .cls[7])::(u6 "InBundle" .cls[8])::(u6 "NoBundle" .cls[9])::(u6 "PowerGone" .cls[10])::(u6 "Closed" .cls[11])::(u6 "BadLine" .cls[12])::(u6 "BodyReader" .cls[13])::(u6 "Disk" .cls[14])::[]
def biL:lg t6:=["isinstance","len","ord","max","sum","all","tuple","list","sorted","range","zip","enumerate","set","int"]
def Bnt:lg[t6×Nat]:=[("TableError",0),("BadNumber",1),("BadText",2),("BadSize",3),("BadKey",4),("BadValue",5),("InBundle",8),("NoBundle",9),("PowerGone",10),("Closed",11),("BadLine",12)]
def Bnu:lg[t6×(Nat×lg W)]:=[("BadPage",(u6 6 [])),("NoKey",(u6 7 []))]
def Bnv:lg[t6×Nat]:=[("TableError",0),("BadText",2),("BadPage",6)]
def Bnw:lg[Nat×Nat]:=[(0,0),(0,1),(0,2),(0,3),(0,4),(0,5),(0,6),(0,7),(0,8),(0,9),(0,10),(0,11),(0,12),(2,2),(6,6)]
def exm(k c:Nat):Bool:=Bnw.contains[u6 k c]
def Bnx:lg[Nat×Nat]:=[(2,0),(2,1),(2,3),(2,4),(2,5),(2,6),(2,7),(2,8),(2,9),(2,10),(2,11),(2,12),(6,0),(6,1),(6,2),(6,3),(6,4),(6,5),(6,7),(6,8),(6,9),(6,10),(6,11),(6,12)]
def exn(k c:Nat):Bool:=Bnx.contains[u6 k c]
def Pn:lg[t6×t6]:=[("head","h"),("leaf","l"),("fork","f"),("rest","r"),("free","e")]
def Bny:lg[t6×lg[t6×t6]]:=[("LETTERS",Pn)]
def md:Md:={ con:=λx=>Bns.lookup x,bi:=λx=>biL.contains x,exc:=λx=>Bnt.lookup x,isa:=isa,fld:=fld,mdc:=λx=>Bny.lookup x,exi:=λx=>Bnu.lookup x,hcl:=λx=>Bnv.lookup x,exm:=exm,exn:=exn,mn:=λx=>mnL.contains x,mkl:=λx=>mkL.lookup x }
abbrev tE(x:t6)(g:lg W->M W)(n:Nat)(T:lg[t6×Fi]):lg[t6×Fi]:=(u6 x (g,n,[]))::T
abbrev uE(c:Nat)(x:t6)(g:lg W->M W)(n:Nat)(T:lg[(Nat×t6)×Fi]):lg[(Nat×t6)×Fi]:=(u6 (u6 c x) (g,n,[]))::T
abbrev eE(s:cF)(T:lg[t6×Fi])(N:lg t6)(U:lg[(Nat×t6)×Fi])(Q:lg[t6×Fi])(b:MS):Prop:=Jr[Aw s][md.gm T N Ai[s] U Q]=b
def T_0:lg[t6×Fi]:=[]
def U_0:lg[(Nat×t6)×Fi]:=[]
def Q_0:lg[t6×Fi]:=[]
abbrev Acn:cF:=top 73
def Sv:lg t6:=["_law_script"]
def Aco:MS:=rQ Acj[[((kS "script"),(Aa 0)),((kS "at"),(kI 0)),((kS "seed"),(kI 7))]]
def Sw:=Br 1 1 Aco
def Anj:eE Acn T_0 Sv U_0 Q_0 Aco:=by rfl'
def Acp:=tE "_law_tape" Sw 1 T_0
abbrev Af8:cF:=top 23
def Cy:lg t6:=["thing"]
def Af9:MS:=rQ Jj[zB Jl[isa] Aa[0] kF[.ty["int"]]][Biq[zB Jl[isa] Aa[0] kF[.ty["bool"]]]]
def Dr:=Br 1 1 Af9
def Aqb:eE Af8 Acp Cy U_0 Q_0 Af9:=by rfl'
def Aga:=tE "is_whole" Dr 1 Acp
abbrev Aiv:cF:=top 43
def Aiw:MS:=rQ Jj[zA Dr Aa[0]][Ql .LtE .LtE kI[64] Aa[0] kI[200]]
def Pq:=Br 1 1 Aiw
def Avb:eE Aiv Aga Cy U_0 Q_0 Aiw:=by rfl'
def Px:=tE "is_size" Pq 1 Aga
abbrev Rf:cF:=inClass top[70] 0
def Rg:lg t6:=["self","size"]
abbrev aA8:=ifS Jk[Dl[zA Pq Aa[1]]] Ae[Hc 3 yA[kS["no size from 64 to 200"]]][Aj] Aj
def Rh:MS:=Ae aA8
 (Ae (G9 fld "size" Aa[0] Aa[1])
 (Ae (G9 fld "page_texts" Aa[0] Ez[nilF])
 (Ae (G9 fld "row_texts" Aa[0] Ez[nilF])
 (Ae (G9 fld "begun" Aa[0] kI[0])
 (Ae (G9 fld "off" Aa[0] kB[t7])
 (Ae (G9 fld "turns_left" Aa[0] kI[0])
 (Ae (G9 fld "signs_done" Aa[0] kI[0])
 Aj)))))))
def Lh:=Br 2 2 Rh
def Aea:eE Rf Px Rg U_0 Q_0 Rh:=by rfl'
def Ri:=uE 14 "__init__" Lh 2 U_0
abbrev Aad:cF:=inClass top[70] 1
def Bp:lg t6:=["self"]
def Aae:MS:=rQ zA[Ail][Ih fld "page_texts" Aa[0]]
def Aaf:=Br 1 1 Aae
def Ald:eE Aad Px Bp Ri Q_0 Aae:=by rfl'
def Aag:=uE 14 "pages" Aaf 1 Ri
abbrev Acq:cF:=inClass top[70] 2
def Acr:MS:=rQ zA[Ail][Ih fld "row_texts" Aa[0]]
def Acs:=Br 1 1 Acr
def Ank:eE Acq Px Bp Aag Q_0 Acr:=by rfl'
def M7:=uE 14 "rows" Acs 1 Aag
abbrev Acu:cF:=top 72
def Anl:lg t6:=["_law_tape_here","_law_many","_law_cell"]
def Acv:MS:=Ae (Bx 2 kI[0])
 (Ae (ifS tQ[.Lt][ixF Aa[0] kS["at"]][zA[Et][ixF Aa[0] kS["script"]]] (Ae (Bx 2 ixF[ixF Aa[0] kS["script"]][ixF Aa[0] kS["at"]])
  Aj) Aj)
 (Ae (Jb Aa[0] kS["at"] Bb[.add][ixF Aa[0] kS["at"]][kI[1]])
 (Ae Jb[Aa 0][kS "seed"][Bb .mod Bb[.add][Bb .mul Bb[.add][ixF Aa[0] kS["seed"]][Aa[2]] kI[48271]][kI[11]] kI[2147483647]]
 (rQ[Bb .mod Bb[.fdiv][ixF Aa[0] kS["seed"]][kI[11]] Aa[1]]))))
def Ar:=Br 2 3 Acv
def Anm:eE Acu Px Anl M7 Q_0 Acv:=by rfl'
def Acw:=tE "_law_draw" Ar 2 Px
abbrev Acx:cF:=top 79
def Acy:lg t6:=["_law_tape_here"]
def Acz:MS:=rQ ixF[Ez[yD kI[64] kI[200] Bb[.add][kI[64]][zB Ar Aa[0] kI[137]] Bb[.add][kI[64]][zB Ar Aa[0] kI[20]]]][zB Ar Aa[0] kI[4]]
def M8:=Br 1 1 Acz
def Ann:eE Acx Acw Acy M7 Q_0 Acz:=by rfl'
def Sx:=tE "_law_size" M8 1 Acw
abbrev Aix:cF:=inClass top[70] 11
def Aiy:MS:=Ae (G9 fld "off" Aa[0] kB[t7])
 (Ae (G9 fld "turns_left" Aa[0] kI[0])
 Aj)
def Aiz:=Br 1 1 Aiy
def Avc:eE Aix Sx Bp M7 Q_0 Aiy:=by rfl'
def Bk:=uE 14 "up" Aiz 1 M7
abbrev Ano:cF:=top 25
def Az3:lg t6:=["number","many","text","left","place"]
abbrev aA0:=kS "0123456789abcdefghijklmnopqrstuvwxyzABCDEFGHIJKLMNOPQRSTUVWXYZ+-"
abbrev aA5:=Ae Bx[2][Bb .add ixF[aA0][Bb .and Aa[3] kI[63]] Aa[2]] (Ae Bx[3][Bb .shr Aa[3] kI[6]] Aj)
def Anp:MS:=Ae (ifS orT[Jk Dl[zA Dr Aa[0]]][tQ .Lt Aa[0] kI[0]] (Ae (Hc 1 yA[kS["no whole number from nought on"]])
  Aj) Aj)
 (Ae (ifS (orT Jk[Dl[zA Dr Aa[1]]] orT[tQ .Lt Aa[1] kI[1]][tQ .Gt Aa[1] kI[3]]) (Ae (Hc 1 yA[kS["a number is written by one to three signs"]])
  Aj) Aj)
 (Ae (ifS (tQ .Gt Bb[.shr][Aa[0]][Bb .mul kI[6] Aa[1]] kI[0]) (Ae (Hc 1 yA[kS["a number greater than so many signs write"]])
  Aj) Aj)
 (Ae (Bx 2 kS[""])
 (Ae (Bx 3 Aa[0])
 (Ae Xw[V9 Li yA[Aa[1]]][Ex[4]][aA5]
 (rQ Aa[2]))))))
def Hg:=Br 2 5 Anp
def Az4:eE Ano Sx Az3 Bk Q_0 Anp:=by rfl'
def Anq:=tE "digits" Hg 2 Sx
abbrev Sy:cF:=top 55
def Tc:lg t6:=["numbers"]
def Td:MS:=rQ[Lp .str R6 kS[""] yA[G7 1 [] Iu[Aa[0]] Ex[0] (λ_=>pure t8) (zB Hg Aa[0] kI[2])]]
def Ge:=Br 1 1 Td
def Agb:eE Sy Anq Tc Bk Q_0 Td:=by rfl'
def Te:=tE "numbers_text" Ge 1 Anq
abbrev Agc:cF:=top 56
def Agd:lg t6:=["key"]
def Age:MS:=rQ[Bb .add zB[Hg][zA Et Aa[0]][kI[1]] Aa[0]]
def Mp:=Br 1 1 Age
def Aqc:eE Agc Te Agd Bk Q_0 Age:=by rfl'
def Agf:=tE "key_text" Mp 1 Te
abbrev Ac0:cF:=top 57
def Ac1:lg t6:=["cell"]
def Ac2:MS:=Ae (ifS tQ[.Eq][ixF Aa[0] kI[0]][kS["in"]] rQ[Bb[.add][Bb[.add][kS["i"]][zB Hg zA[Et][ixF Aa[0] kI[1]] kI[1]]][ixF Aa[0] kI[1]]] Aj)
 (rQ[Bb .add kS["o"] zA[Ge][slF Aa[0] Dj[kI[1]] Cv]])
def Tf:=Br 1 1 Ac2
def Anr:eE Ac0 Agf Ac1 Bk Q_0 Ac2:=by rfl'
def Ac3:=tE "cell_text" Tf 1 Agf
abbrev Agg:cF:=top 58
def Agh:lg t6:=["row"]
def Agi:MS:=rQ[Bb .add zA[Mp][ixF Aa[0] kI[0]] zA[Tf][ixF Aa[0] kI[1]]]
def Qo:=Br 1 1 Agi
def Aqd:eE Agg Ac3 Agh Bk Q_0 Agi:=by rfl'
def Agj:=tE "row_text" Qo 1 Ac3
abbrev Ac4:cF:=top 59
def Ans:lg t6:=["page","keys"]
def Ac5:MS:=Ae (ifS tQ[.Eq][ixF Aa[0] kI[0]][kS["leaf"]] rQ[Bb[.add][zB Hg zA[Et][ixF Aa[0] kI[1]] kI[1]][Lp .str R6 kS[""] yA[G7 1 [] Iu[ixF Aa[0] kI[1]] Ex[0] (λ_=>pure t8) (zA Qo Aa[0])]]] Aj)
 (Ae (ifS tQ[.Eq][ixF Aa[0] kI[0]][kS["fork"]] (Ae Bx[1][Lp .str R6 kS[""] yA[G7 1 [] Iu[ixF Aa[0] kI[1]] Ex[0] (λ_=>pure t8) (zA Mp Aa[0])]]
  (rQ[Bb .add Bb[.add][zB Hg zA[Et][ixF Aa[0] kI[1]] kI[1]][Aa[1]] zA[Ge][ixF Aa[0] kI[2]]])) Aj)
 (Ae (ifS tQ[.Eq][ixF Aa[0] kI[0]][kS["rest"]] rQ[Bb[.add][zA[Ge][slF Aa[0] Dj[kI[2]] Cv]][ixF Aa[0] kI[1]]] Aj)
 (rQ zA[Ge][slF Aa[0] Dj[kI[1]] Cv])))
def M9:=Br 1 2 Ac5
def Ant:eE Ac4 Agj Ans Bk Q_0 Ac5:=by rfl'
def Ac6:=tE "body_text" M9 1 Agj
abbrev Ai0:cF:=top 48
def Ai1:MS:=Ae (ifS Bdq[Dl[zB Jl[isa] Aa[0] kF[.ty["tuple"]]]][Bdq tQ[.Gt][zA Et Aa[0]][kI[0]] Dl[zB[Jl isa][ixF Aa[0] kI[0]][kF .ty["str"]]]] rQ[ixF Aa[0] kI[0]] Aj)
 (rQ kF[.non])
def Vs:=Br 1 1 Ai1
def Avd:eE Ai0 Ac6 Cy Bk Q_0 Ai1:=by rfl'
def Ai2:=tE "word_of" Vs 1 Ac6
abbrev Ai3:cF:=top 24
def Ai4:MS:=rQ Jj[zB Jl[isa] Aa[0] kF[.ty["str"]]][Ea .Eq (Lp .str Akp Aa[0] yA[kS[" !\"#$&'()*+,-./0123456789:;<=>?@ABCDEFGHIJKLMNOPQRSTUVWXYZ[\\]^_`abcdefghijklmnopqrstuvwxyz{|}~"]]) kS[""]]
def Je:=Br 1 1 Ai4
def Ave:eE Ai3 Ai2 Cy Bk Q_0 Ai4:=by rfl'
def Ai5:=tE "is_text" Je 1 Ai2
abbrev Anu:cF:=top 32
def Anv:MS:=rQ Jj[zA Je Aa[0]][Ql .LtE .LtE kI[1] (zA Et Aa[0]) kI[12]]
def Ti:=Br 1 1 Anv
def Az5:eE Anu Ai5 Cy Bk Q_0 Anv:=by rfl'
def Anw:=tE "is_key" Ti 1 Ai5
abbrev Nb:cF:=top 49
def Nf:lg t6:=["keys"]
def Ng:MS:=Ae (ifS Jk[Dl[zA[Afk][G7 1 [] Iu[Aa[0]] Ex[0] (λ_=>pure t8) (zA Ti Aa[0])]]] rQ[kB[t7]] Aj)
 (rQ zA[Afk][G7 2 [] Auu[yB[Aa 0][slF Aa[0] Dj[kI[1]] Cv]] Ahp[[0,1]] (λ_=>pure t8) (Ea .Lt Aa[0] Aa[1])])
def El:=Br 1 1 Ng
def Aah:eE Nb Anw Nf Bk Q_0 Ng:=by rfl'
def Nh:=tE "are_rising_keys" El 1 Anw
abbrev Wi:cF:=top 47
def K4:lg t6:=["thing","many"]
def Wj:MS:=rQ Jj[zB Jl[isa] Aa[0] kF[.ty["tuple"]]][Ea .Eq (zA Et Aa[0]) Aa[1]]
def Ii:=Br 2 2 Wj
def Ahs:eE Wi Nh K4 Bk Q_0 Wj:=by rfl'
def Wk:=tE "is_tuple_of" Ii 2 Nh
abbrev Aai:cF:=top 46
def Aaj:lg t6:=["thing","least","most"]
def Aak:MS:=rQ Jj[zA Je Aa[0]][Ql .LtE .LtE Aa[1] (zA Et Aa[0]) Aa[2]]
def Lw:=Br 3 3 Aak
def Ale:eE Aai Wk Aaj Bk Q_0 Aak:=by rfl'
def Aal:=tE "is_text_of" Lw 3 Wk
abbrev Dg:cF:=top 45
def Anx:lg t6:=["thing","least"]
def Ac7:MS:=rQ Jj[zA Dr Aa[0]][Ql .LtE .LtE Aa[1] Aa[0] kI[4095]]
def Fj:=Br 2 2 Ac7
def Any:eE Dg Aal Anx Bk Q_0 Ac7:=by rfl'
def Ac8:lg[t6×Fi]:=(u6 "is_number" (Fj,2,[(.int 0)]))::Aal
abbrev Ai6:cF:=top 50
def Ai7:lg t6:=["thing","word"]
def Ai8:MS:=Ae Bx[1][zA Vs Aa[0]]
 (Ae ifS[tQ .Eq Aa[1] kS["in"]][rQ[Jj[Ea .Eq (zA Et Aa[0]) kI[2]][zC Lw (ixF Aa[0] kI[1]) kI[0] kI[63]]]][Aj]
 (Ae ifS[tQ .Eq Aa[1] kS["out"]][rQ[Jj[Ea .Eq (zA Et Aa[0]) kI[3]][Jj zA[Dr][ixF Aa[0] kI[1]] Jj[Ql .LtE .LtE kI[1] (ixF Aa[0] kI[1]) kI[400]][zB Fj (ixF Aa[0] kI[2]) kI[1]]]]][Aj]
 (rQ kB[t7])))
def Vt:=Br 1 2 Ai8
def Avf:eE Ai6 Ac8 Ai7 Bk Q_0 Ai8:=by rfl'
def Ai9:=tE "is_cell" Vt 1 Ac8
abbrev Agk:cF:=top 51
def Agl:MS:=Ae ifS[orT Jk[Dl[zB Jl[isa] Aa[0] kF[.ty["tuple"]]]] tQ[.Gt][zA Et Aa[0]][kI[63]]][rQ[kB[t7]]][Aj]
 (Ae (ifS Jk[Dl[zA[Afk][G7 1 [] Iu[Aa[0]] Ex[0] (λ_=>pure t8) Jj[zB Ii Aa[0] kI[2]][zA[Vt][ixF Aa[0] kI[1]]]]]] rQ[kB[t7]] Aj)
 (rQ zA[El][G7 1 [] Iu[Aa[0]] Ex[0] (λ_=>pure t8) (ixF Aa[0] kI[0])]))
def Xb:=Br 1 1 Agl
def Aqe:eE Agk Ai9 Cy Bk Q_0 Agl:=by rfl'
def Agm:=tE "are_rows" Xb 1 Ai9
abbrev Agn:cF:=top 52
def Ago:MS:=rQ Jj[zB Jl[isa] Aa[0] kF[.ty["tuple"]]][Jj[Ea .LtE (zA Et Aa[0]) kI[63]][zA El Aa[0]]]
def Xc:=Br 1 1 Ago
def Aqf:eE Agn Agm Cy Bk Q_0 Ago:=by rfl'
def Agp:=tE "are_keys" Xc 1 Agm
abbrev Agq:cF:=top 53
def Agr:MS:=rQ Jj[zB Ii Aa[0] Aa[1]][zA[Afk][G7 1 [] Iu[Aa[0]] Ex[0] (λ_=>pure t8) (zB Fj Aa[0] kI[1])]]
def Xd:=Br 2 2 Agr
def Aqg:eE Agq Agp K4 Bk Q_0 Agr:=by rfl'
def Ags:=tE "are_kids" Xd 2 Agp
abbrev Aja:cF:=top 54
def Ajb:MS:=Ae Bx[1][zA Vs Aa[0]]
 (Ae ifS[tQ .Eq Aa[1] kS["head"]][rQ[Jj Ea[.Eq][zA Et Aa[0]][kI[5]] zA[Afk][G7 1 [] Iu[slF Aa[0] Dj[kI[1]] Cv] Ex[0] (λ_=>pure t8) zA[λws=>Fj[ws ++ [(.int 0)]]][Aa 0]]]][Aj]
 (Ae ifS[tQ .Eq Aa[1] kS["leaf"]][rQ[Jj Ea[.Eq][zA Et Aa[0]][kI[2]] zA[Xb][ixF Aa[0] kI[1]]]][Aj]
 (Ae ifS[tQ .Eq Aa[1] kS["fork"]][rQ[Jj[Ea .Eq (zA Et Aa[0]) kI[3]][Jj zA[Xc][ixF Aa[0] kI[1]] zB[Xd][ixF Aa[0] kI[2]][Bb .add zA[Et][ixF Aa[0] kI[1]] kI[1]]]]][Aj]
 (Ae ifS[tQ .Eq Aa[1] kS["rest"]][rQ[Jj Ea[.Eq][zA Et Aa[0]][kI[3]] Jj[zC Lw (ixF Aa[0] kI[1]) kI[1] kI[400]][zA[λws=>Fj[ws ++ [(.int 0)]]][ixF Aa[0] kI[2]]]]][Aj]
 (Ae ifS[tQ .Eq Aa[1] kS["free"]][rQ[Jj Ea[.Eq][zA Et Aa[0]][kI[2]] zA[λws=>Fj[ws ++ [(.int 0)]]][ixF Aa[0] kI[1]]]][Aj]
 (rQ kB[t7]))))))
def Ma:=Br 1 2 Ajb
def Avg:eE Aja Ags Ai7 Bk Q_0 Ajb:=by rfl'
def Ajc:=tE "is_page" Ma 1 Ags
abbrev Ajd:cF:=top 60
def Abz:lg t6:=["page"]
def Aje:MS:=Ae (ifS Jk[Dl[zA Ma Aa[0]]] (Ae Jq[6][[]][yB kF[.non] kS["no page"]]
  Aj) Aj)
 (rQ[zA M9 Aa[0]])
def Py:=Br 1 1 Aje
def Avh:eE Ajd Ajc Abz Bk Q_0 Aje:=by rfl'
def Ajf:=tE "body_of" Py 1 Ajc
abbrev Pz:cF:=top 61
def Ab0:lg t6:=["page","body","size","start"]
def P0:MS:=Ae (Bx 3 Bb[.add][Bb .add mdF[Pn][ixF Aa[0] kI[0]] zB[Hg][zA Et Aa[1]][kI[2]]][Aa[1]])
 (rQ[Lp .str Ako Aa[3] yB[Bb .sub Aa[2] kI[2]][kS "0"]])
def Hq:=Br 3 4 P0
def Ab1:eE Pz Ajf Ab0 Bk Q_0 P0:=by rfl'
def Qa:=tE "unchecked_text" Hq 3 Ajf
abbrev Ajg:cF:=top 44
def Ajh:lg t6:=["size"]
def Aji:MS:=rQ[Bb .sub Aa[0] kI[5]]
def Ab2:=Br 1 1 Aji
def Avi:eE Ajg Qa Ajh Bk Q_0 Aji:=by rfl'
def Ajj:=tE "room_of" Ab2 1 Qa
abbrev Agt:cF:=top 28
def Aqh:lg t6:=["text","total"]
def Agu:MS:=Ae (ifS Jk[Dl[zA Je Aa[0]]] (Ae (Hc 2 yA[kS["no text"]])
  Aj) Aj)
 (Ae (Bx 1 zA[Aum][G7 2 [] Ax5[Aa[0]] Ahp[[0,1]] (λ_=>pure t8) (Bb .mul Bb[.sub][zA Aul Aa[1]][kI[31]] Aa[0])])
 (rQ zB[Hg][Bb .mod Aa[1] kI[4093]][kI[2]]))
def Qp:=Br 1 2 Agu
def Aqi:eE Agt Ajj Aqh Bk Q_0 Agu:=by rfl'
def Agv:=tE "check_of" Qp 1 Ajj
abbrev Ac9:cF:=top 62
def Anz:lg t6:=["page","size","body","text"]
def Ada:MS:=Ae Bx[2][zA Py Aa[0]]
 (Ae aA8
 (Ae (ifS tQ[.Gt][zA Et Aa[2]][zA Ab2 Aa[1]] (Ae Jq[6][[]][yB kF[.non] kS["a page that is too long for its size"]]
  Aj) Aj)
 (Ae Bx[3][zC Hq Aa[0] Aa[2] Aa[1]]
 (rQ Bb[.add][Aa[3]][zA Qp Aa[3]]))))
def Ni:=Br 2 4 Ada
def An0:eE Ac9 Agv Anz Bk Q_0 Ada:=by rfl'
def Adb:=tE "page_text" Ni 2 Agv
abbrev Aam:cF:=top 82
def Aan:lg t6:=["_law_world"]
def Aao:MS:=Ae (ifS Dl[ixF Aa[0] kS["off"]] rQ[kS["none"]] Aj)
 (Ae (Jb Aa[0] kS["begun"] Bb[.add][ixF Aa[0] kS["begun"]][kI[1]])
 (Ae (ifS tQ[.Is][ixF Aa[0] kS["due"]][kF[.non]] rQ[kS["whole"]] Aj)
 (Ae (Jb Aa[0] kS["due"] Bb[.sub][ixF Aa[0] kS["due"]][kI[1]])
 (Ae (ifS tQ[.Gt][ixF Aa[0] kS["due"]][kI[0]] rQ[kS["whole"]] Aj)
 (Ae (Jb Aa[0] kS["off"] kB[t8])
 (Ae (Jb Aa[0] kS["due"] kF[.non])
 (rQ kS["part"])))))))
def Gp:=Br 1 1 Aao
def Alf:eE Aam Adb Aan Bk Q_0 Aao:=by rfl'
def Aap:=tE "_law_begun" Gp 1 Adb
abbrev Aaq:cF:=top 74
def Alh:lg t6:=["_law_signs_here"]
def Aar:MS:=Ae (Bx 0 kS[" !\"#$&'()*+,-./0123456789:;<=>?@ABCDEFGHIJKLMNOPQRSTUVWXYZ[\\]^_`"])
 (rQ[Bb .add Aa[0] kS["abcdefghijklmnopqrstuvwxyz{|}~"]])
def Qq:=Br 0 1 Aar
def Ali:eE Aaq Aap Alh Bk Q_0 Aar:=by rfl'
def Aas:=tE "_law_signs" Qq 0 Aap
abbrev Adc:cF:=top 75
def An1:lg t6:=["_law_tape_here","_law_size_here","_law_first","_law_step"]
def Ade:MS:=Ae Bx[2][zB Ar Aa[0] kI[94]]
 (Ae (Bx 3 Bb[.add][kI[1]][zB Ar Aa[0] kI[93]])
 (rQ[Lp .str R6 kS[""] yA[G7 1 [2,3] (V9 Li yA[Aa[1]]) Ex[0] (λ_=>pure t8) ixF[Dw Qq nilF][Bb .mod Bb[.add][Aa[1]][Bb .mul Aa[0] Aa[2]] kI[94]]]]))
def Hh:=Br 2 4 Ade
def An2:eE Adc Aas An1 Bk Q_0 Ade:=by rfl'
def Adf:=tE "_law_text" Hh 2 Aas
abbrev Adg:cF:=top 76
def An3:lg t6:=["_law_tape_here","_law_many","_law_base","_law_at","_law_size_here","_law_signs_here"]
def Adh:MS:=Ae Bx[2][zB Hh Aa[0] kI[12]]
 (Ae (ifS tQ[.Eq][zB Ar Aa[0] kI[3]][kI[0]] rQ[G7[1][[2]][V9 Li yA[Aa[1]]][Ex 0][λ_=>pure t8][slF Aa[1] Cv Dj[Bb .add Aa[0] kI[1]]]] Aj)
 (Ae Bx[3][zB Ar Aa[0] kI[12]]
 (Ae Bx[4][Bb .add Aa[3] zB[Ar][Aa[0]][Bb .sub kI[13] Aa[3]]]
 (Ae (Bx 5 slF[zB Hh Aa[0] kI[94]][Cv][Dj[Aa[1]]])
 (rQ zA[Kp][G7 1 [3,2,4] Iu[Aa[5]] Ex[0] (λ_=>pure t8) Bb[.add][Bb[.add][slF Aa[2] Cv Dj[Aa[1]]][Aa[0]]][slF Aa[2] Dj[Bb .add Aa[1] kI[1]] Dj[Aa[3]]]])))))
def Nj:=Br 2 6 Adh
def An4:eE Adg Adf An3 Bk Q_0 Adh:=by rfl'
def Adi:=tE "_law_keys" Nj 2 Adf
abbrev Wl:cF:=top 77
def Aht:lg t6:=["_law_tape_here","_law_page_here","_law_key","_law_size_here","_law_most","_law_cell"]
abbrev aA7:=rQ Gs[yB kS["leaf"] Bb[.add][ixF Aa[1] kI[1]][Gs[yA[Gs[yB Aa[2] Aa[5]]]]]]
def Wn:MS:=Ae (ifS tQ[.Eq][ixF Aa[1] kI[0]][kS["fork"]] rQ[Gs[yC kS["fork"] Bb[.add][ixF Aa[1] kI[1]][Gs[yA[Aa[2]]]] Bb[.add][ixF Aa[1] kI[2]][Gs[yA[Bb[.add][kI[1]][zB Ar Aa[0] Aa[4]]]]]]] Aj)
 (Ae (Bx 5 Gs[yC kS["out"] Bb[.add][kI[1]][zB Ar Aa[0] kI[400]] Bb[.add][kI[1]][zB Ar Aa[0] Aa[4]]])
 (Ae (ifS tQ[.Gt][zB Ar Aa[0] kI[3]][kI[0]] (Ae (Bx 5 Gs[yB kS["in"] zB[Hh][Aa[0]][zB Ar Aa[0] Bb[.add][Bb .fdiv Aa[3] kI[8]][kI[1]]]])
  Aj) Aj)
 aA7))
def K6:=Br 5 6 Wn
def Ahu:eE Wl Adi Aht Bk Q_0 Wn:=by rfl'
def Wo:=tE "_law_longer" K6 5 Adi
abbrev Adj:cF:=top 78
def An5:lg t6:=["_law_tape_here","_law_size_here","_law_most","_law_way","_law_some","_law_long","_law_page_here","_law_key","_law_more"]
abbrev aA1:=Ae Xw[Iu zB[Nj][Aa[0]][zB Ar Aa[0] kI[10]]][Ex 7][Ae Bx[8][Dw K6 Eo[Aa 0][yD Aa[6] Aa[7] Aa[1] Aa[2]]] Ae[ifS tQ[.LtE][zA[Et][zA Py Aa[8]]][Bb .sub Aa[1] kI[5]] Ae[Bx 6 Aa[8]][Aj] Aj][Aj]] rQ[Aa[6]]
def Adk:MS:=Ae Bx[3][zB Ar Aa[0] kI[6]]
 (Ae (ifS (tQ .Eq Aa[3] kI[0]) (Ae Bx[4][G7 1 [2,0] (V9 Li yA[kI[4]]) Ex[0] (λ_=>pure t8) zB[Ar][Aa[2]][Bb .add Aa[1] kI[1]]]
  (rQ Gs[Eo kS["head"] yD[ixF Aa[4] kI[0]][ixF Aa[4] kI[1]][ixF Aa[4] kI[2]][ixF Aa[4] kI[3]]])) Aj)
 (Ae ifS[tQ .Eq Aa[3] kI[1]][rQ[Gs[yB kS["free"] zB[Ar][Aa[0]][Bb .add Aa[2] kI[1]]]]][Aj]
 (Ae (ifS (tQ .Eq Aa[3] kI[2]) (Ae (Bx 5 ixF[Ez yC[Bb .add kI[1] zB[Ar][Aa[0]][Bb .sub Aa[1] kI[7]]][Bb .sub Aa[1] kI[7]][kI 1]][zB Ar Aa[0] kI[3]])
  (rQ Gs[yC[kS "rest"][zB Hh Aa[0] Aa[5]][zB Ar Aa[0] (Bb .add Aa[2] kI[1])]])) Aj)
 (Ae (Bx 6 Gs[yB kS["leaf"] Gs[nilF]])
 (Ae (ifS (tQ .Eq Aa[3] kI[3]) (Ae (Bx 6 Gs[yC kS["fork"] Gs[nilF] Gs[yA[Bb[.add][kI[1]][zB Ar Aa[0] Aa[2]]]]])
  Aj) Aj)
 aA1)))))
def Tj:=Br 3 9 Adk
def An6:eE Adj Wo An5 Bk Q_0 Adk:=by rfl'
def Nk:=tE "_law_page" Tj 3 Wo
abbrev Tn:cF:=top 80
def An7:lg t6:=["_law_error","_law_words"]
def Adl:MS:=Ae (Bx 1 Bb[.add][Bb .mul kS["number "] zA[R5][zB Jl[isa] Aa[0] kF[.cls[1]]]][Bb .mul kS["text "] zA[R5][zB Jl[isa] Aa[0] kF[.cls[2]]]])
 (Ae (Bx 1 Bb[.add][Bb[.add][Aa[1]][Bb .mul kS["size "] zA[R5][zB Jl[isa] Aa[0] kF[.cls[3]]]]][Bb .mul kS["page "] zA[R5][zB Jl[isa] Aa[0] kF[.cls[6]]]])
 (Ae (Bx 1 Bb[.add][Aa[1]][Bb .mul kS["key "] zA[R5][zB Jl[isa] Aa[0] Gs[yC kF[.cls[4]] kF[.cls[5]] kF[.cls[7]]]]])
 (Ae (Bx 1 Bb[.add][Bb[.add][Aa[1]][Bb .mul kS["in "] zA[R5][zB Jl[isa] Aa[0] kF[.cls[8]]]]][Bb .mul kS["no "] zA[R5][zB Jl[isa] Aa[0] kF[.cls[9]]]])
 (Ae (Bx 1 Bb[.add][Bb[.add][Aa[1]][Bb .mul kS["gone "] zA[R5][zB Jl[isa] Aa[0] kF[.cls[10]]]]][Bb .mul kS["else "] zA[R5][zB Jl[isa] Aa[0] Gs[yB kF[.cls[11]] kF[.cls[12]]]]])
 (rQ[Bb .add Aa[1] Bb[.mul][kS["value "]][zA R5 Biq[zB Jl[isa] Aa[0] kF[.ty["ValueError"]]]]])))))
def Tr:=Br 1 2 Adl
def An8:Jr[Aw Tn][md.gq Q_0 An7 Ai[Tn]]=Adl:=by rfl'
def Am:=tE "_law_word" Tr 1 Q_0
abbrev Mq:cF:=inClass top[70] 8
def Mr:lg t6:=["self","text"]
def Ms:MS:=Ae (ifS Dl[Ih fld "off" Aa[0]] (Ae (Hc 10 yA[kS["the power is off"]])
  Aj) Aj)
 (Ae (G9 fld "begun" Aa[0] Bb[.add][Ih fld "begun" Aa[0]][kI[1]])
 (Ae (ifS tQ[.Gt][Ih fld "turns_left" Aa[0]][kI[0]] (Ae (G9 fld "turns_left" Aa[0] Bb[.sub][Ih fld "turns_left" Aa[0]][kI[1]])
  (Ae (G9 fld "off" Aa[0] Ea[.Eq][Ih fld "turns_left" Aa[0]][kI[0]])
  Aj)) Aj)
 (rQ Arh[Dl[Ih fld "off" Aa[0]]][Ih fld "signs_done" Aa[0]][zA Et Aa[1]])))
def Iw:=Br 2 2 Ms
def Xe:eE Mq Nk Mr Bk Am Ms:=by rfl'
def Mt:=uE 14 "begin_write" Iw 2 Bk
abbrev Qc:cF:=inClass top[70] 9
def Qd:MS:=Ae (ifS Dl[Ih fld "off" Aa[0]] (Ae (Hc 10 yA[kS["the power goes at this write"]])
  Aj) Aj)
 Aj
def g_Disk_end_write:=Br 1 1 Qd
def Ab3:eE Qc Nk Bp Mt Am Qd:=by rfl'
def Hr:=uE 14 "end_write" g_Disk_end_write 1 Mt
abbrev Lj:cF:=top 26
def Lk:MS:=Ae (ifS orT[Jk Dl[zB Jl[isa] Aa[0] kF[.ty["str"]]]][orT tQ[.Lt][zA Et Aa[0]][kI[1]] tQ[.Gt][zA Et Aa[0]][kI[3]]] rQ[kB[t7]] Aj)
 (rQ zA[Afk][G7 1 [] Iu[Aa[0]] Ex[0] (λ_=>pure t8) (Ea .In Aa[0] aA0)])
def Ie:=Br 1 1 Lk
def Wc:eE Lj Nk Cy Hr Am Lk:=by rfl'
def Ln:=tE "is_written_number" Ie 1 Nk
abbrev Adm:cF:=top 27
def An9:lg t6:=["text","number","sign"]
abbrev aA2:=Ae (Bx 1 Bb[.add][Bb .shl Aa[1] kI[6]][Lp .str Abt aA0 yA[Aa[2]]]) Aj
def Adn:MS:=Ae (ifS Jk[Dl[zA Ie Aa[0]]] (Ae (Hc 2 yA[kS["no number of one to three signs"]])
  Aj) Aj)
 (Ae (Bx 1 kI[0])
 (Ae (Xw Iu[Aa[0]] Ex[2] aA2)
 (rQ Aa[1])))
def Nm:=Br 1 3 Adn
def Aoa:eE Adm Ln An9 Hr Am Adn:=by rfl'
def Eg:=tE "number_of" Nm 1 Ln
abbrev J7:cF:=inClass top[63] 0
def J8:lg t6:=["self","body"]
def J9:MS:=Ae (G9 fld "body" Aa[0] Aa[1])
 (Ae (G9 fld "place" Aa[0] kI[0])
 Aj)
def G4:=Br 2 2 J9
def Rk:eE J7 Eg J8 Hr Am J9:=by rfl'
def Ka:=uE 13 "__init__" G4 2 Hr
abbrev Jf:cF:=inClass top[63] 1
def Qe:lg t6:=["self","many","start"]
def Jg:MS:=Ae Bx[2][Ih fld "place" Aa[0]]
 (Ae (G9 fld "place" Aa[0] (Bb .add Aa[2] Aa[1]))
 (rQ slF[Ih fld "body" Aa[0]][Dj[Aa[2]]][Dj[Ih fld "place" Aa[0]]]))
def Jh:=Br 2 3 Jg
def Qf:eE Jf Eg Qe Ka Am Jg:=by rfl'
def Gf:=uE 13 "next_signs" Jh 2 Ka
abbrev Ij:cF:=inClass top[63] 2
def Bl:lg t6:=["self","many"]
def Ik:MS:=rQ zA[Nm][Bh (λc n=>Gf.lookup[u6 c n]) "next_signs" Aa[0] yA[Aa[1]]]
def Il:=Br 2 2 Ik
def N6:eE Ij Eg Bl Gf Am Ik:=by rfl'
def Ef:=uE 13 "next_number" Il 2 Gf
abbrev Kc:cF:=inClass top[63] 4
def Ke:MS:=rQ[Bh (λc n=>Ef.lookup[u6 c n]) "next_signs" Aa[0] yA[Bh (λc n=>Ef.lookup[u6 c n]) "next_number" Aa[0] yA[kI[1]]]]
def Kf:=Br 1 1 Ke
def Rm:eE Kc Eg Bp Ef Am Ke:=by rfl'
def G5:=uE 13 "next_key" Kf 1 Ef
abbrev Jv:cF:=inClass top[63] 5
def Jw:MS:=rQ[zA Rz compX[1][[0]][V9 Li yA[Aa[1]]][Ex 0][λ_=>pure t8][Bh (λc n=>G5.lookup[u6 c n]) "next_key" Aa[1] nilF]]
def Jx:=Br 2 2 Jw
def Qs:eE Jv Eg Bl G5 Am Jw:=by rfl'
def Gq:=uE 13 "next_keys" Jx 2 G5
abbrev Hw:cF:=inClass top[63] 3
def Hx:MS:=rQ[zA Rz compX[1][[0]][V9 Li yA[Aa[1]]][Ex 0][λ_=>pure t8][Bh (λc n=>Gq.lookup[u6 c n]) "next_number" Aa[1] yA[kI[2]]]]
def Hy:=Br 2 2 Hx
def M3:eE Hw Eg Bl Gq Am Hx:=by rfl'
def Bd:=uE 13 "next_numbers" Hy 2 Gq
abbrev Jy:cF:=inClass top[63] 6
def Jz:MS:=Ae (ifS tQ[.Eq][Bh (λc n=>Bd.lookup[u6 c n]) "next_signs" Aa[0] yA[kI[1]]][kS["i"]] rQ[Gs[yB[kS "in"][Bh (λc n=>Bd.lookup[u6 c n]) "next_signs" Aa[0] yA[Bh (λc n=>Bd.lookup[u6 c n]) "next_number" Aa[0] yA[kI[1]]]]]] Aj)
 (rQ Bb[.add][Gs[yA[kS["out"]]]][Bh (λc n=>Bd.lookup[u6 c n]) "next_numbers" Aa[0] yA[kI[2]]])
def J0:=Br 1 1 Jz
def Qt:eE Jy Eg Bp Bd Am Jz:=by rfl'
def Dh:=uE 13 "next_cell" J0 1 Bd
abbrev Kg:cF:=inClass top[63] 7
def Rn:lg t6:=["self","key"]
def Kh:MS:=Ae Bx[1][Bh (λc n=>Dh.lookup[u6 c n]) "next_key" Aa[0] nilF]
 (rQ Gs[yB[Aa 1][Bh (λc n=>Dh.lookup[u6 c n]) "next_cell" Aa[0] nilF]])
def Kl:=Br 1 2 Kh
def Rp:eE Kg Eg Rn Dh Am Kh:=by rfl'
def G6:=uE 13 "next_row" Kl 1 Dh
abbrev J1:cF:=inClass top[63] 8
def J2:MS:=rQ[zA Rz compX[1][[0]][V9 Li yA[Aa[1]]][Ex 0][λ_=>pure t8][Bh (λc n=>G6.lookup[u6 c n]) "next_row" Aa[1] nilF]]
def J3:=Br 2 2 J2
def Qu:eE J1 Eg Bl G6 Am J2:=by rfl'
def Al:=uE 13 "next_rows" J3 2 G6
abbrev Ado:cF:=top 64
def Aob:lg t6:=["letter","body","reader","keys","after"]
def Adp:MS:=Ae (Bx 2 zA[λws=>R7 13 G4 ws][Aa 1])
 (Ae ifS[tQ .Eq Aa[0] kS["h"]][rQ[Bb[.add][Gs[yA[kS["head"]]]][Bh (λc n=>Al.lookup[u6 c n]) "next_numbers" Aa[2] yA[kI[4]]]]][Aj]
 (Ae ifS[tQ .Eq Aa[0] kS["l"]][rQ[Gs[yB[kS "leaf"][Bh (λc n=>Al.lookup[u6 c n]) "next_rows" Aa[2] yA[Bh (λc n=>Al.lookup[u6 c n]) "next_number" Aa[2] yA[kI[1]]]]]]][Aj]
 (Ae (ifS (tQ .Eq Aa[0] kS["f"]) (Ae Bx[3][Bh (λc n=>Al.lookup[u6 c n]) "next_keys" Aa[2] yA[Bh (λc n=>Al.lookup[u6 c n]) "next_number" Aa[2] yA[kI[1]]]]
  (rQ Gs[yC[kS "fork"][Aa 3][Bh (λc n=>Al.lookup[u6 c n]) "next_numbers" Aa[2] yA[Bb[.add][zA Et Aa[3]][kI[1]]]]])) Aj)
 (Ae (ifS (tQ .Eq Aa[0] kS["r"]) (Ae Bx[4][Bh (λc n=>Al.lookup[u6 c n]) "next_number" Aa[2] yA[kI[2]]]
  (rQ Gs[yC[kS "rest"][Bh (λc n=>Al.lookup[u6 c n]) "next_signs" Aa[2] yA[Bb[.sub][zA Et Aa[1]][kI[2]]]][Aa 4]])) Aj)
 (Ae ifS[tQ .Eq Aa[0] kS["e"]][rQ[Bb[.add][Gs[yA[kS["free"]]]][Bh (λc n=>Al.lookup[u6 c n]) "next_numbers" Aa[2] yA[kI[1]]]]][Aj]
 (rQ kF[.non]))))))
def Tt:=Br 2 5 Adp
def Aoc:eE Ado Eg Aob Al Am Adp:=by rfl'
def Adq:=tE "told_page" Tt 2 Eg
abbrev Np:cF:=top 65
def Em:lg t6:=["text"]
def Nq:MS:=rQ Ea[.Eq][zA[Qp][slF Aa[0] Cv Dj[Aft[kI[2]]]]][slF Aa[0] Dj[Aft[kI[2]]] Cv]
def J4:=Br 1 1 Nq
def Aat:eE Np Adq Em Al Am Nq:=by rfl'
def Nr:=tE "has_right_check" J4 1 Adq
abbrev Tu:cF:=top 66
def Agw:lg t6:=["text","long"]
def Tv:MS:=Ae (ifS Jk[Dl[zA J4 Aa[0]]] rQ[kF[.non]] Aj)
 (Ae (Bx 1 zA[Nm][slF Aa[0] Dj[kI[1]] Dj[kI[3]]])
 (rQ zB[Tt][ixF Aa[0] kI[0]][slF Aa[0] Dj[kI[3]] Dj[Bb .add kI[3] Aa[1]]]))
def J5:=Br 1 2 Tv
def Agx:eE Tu Nr Agw Al Am Tv:=by rfl'
def Tw:=tE "told_by_text" J5 1 Nr
abbrev Ajk:cF:=top 67
def Avj:lg t6:=["text","page"]
def Ajl:MS:=Ae (ifS (orT Jk[Dl[zB Jl[isa] Aa[0] kF[.ty["str"]]]] Jk[Dl[zA[Pq][zA Et Aa[0]]]]) (Ae Jq[6][[]][yB kF[.non] kS["no text of a size from 64 to 200"]]
  Aj) Aj)
 (Ae (Aus (λc=>c==2&&exm 2 c) 6 (yB kF[.non] kS["a text with other signs than a page's"]) (Ae Bx[1][zA J5 Aa[0]]
  Aj))
 (Ae (ifS Jk[Dl[zA Ma Aa[1]]] (Ae Jq[6][[]][yB kF[.non] kS["a text that tells no page"]]
  Aj) Aj)
 (Ae (ifS tQ[.NotEq][zC[Hq][Aa 1][zA M9 Aa[1]][zA Et Aa[0]]][slF Aa[0] Cv Dj[Aft[kI[2]]]] (Ae Jq[6][[]][yB kF[.non] kS["a text that isn't as its page's"]]
  Aj) Aj)
 (rQ Aa[1]))))
def Mf:=Br 1 2 Ajl
def Avk:eE Ajk Tw Avj Al Am Ajl:=by rfl'
def Ajm:=tE "page_of" Mf 1 Tw
abbrev Tz:cF:=top 69
def Va:lg t6:=["thing","size"]
def Vb:MS:=Ae (Amz exm[6] (Ae Hu[zA Mf Aa[0]]
  Aj) rQ[kB[t7]])
 (rQ Ea[.Eq][zA Et Aa[0]][Aa[1]])
def Hi:=Br 2 2 Vb
def Agy:eE Tz Ajm Va Al Am Vb:=by rfl'
def Bj:=tE "is_page_text" Hi 2 Ajm
abbrev Aau:cF:=inClass top[70] 5
def Alj:lg t6:=["self","number","text","there","done"]
abbrev aA4:=Jb (Ih fld "page_texts" Aa[0]) Aa[1] Bb[.add][slF Aa[2] Cv Dj[Aa[4]]][slF ixF[Ih fld "page_texts" Aa[0]][Aa 1] Dj[Aa[4]] Cv]
def Qv:MS:=Ae (Bx 3 zA[Et][Ih fld "page_texts" Aa[0]])
 (Ae (ifS (orT Jk[Dl[zA Dr Aa[1]]] orT[tQ .Lt Aa[1] kI[0]][tQ .Gt Aa[1] Aa[3]]) (Ae (Hc 1 yA[kS["neither the number of a page that is there nor the next one"]])
  Aj) Aj)
 (Ae (ifS Jk[Dl[zB[Hi][Aa[2]][Ih fld "size" Aa[0]]]] (Ae Jq[6][[]][yB Aa[1] kS["no page's text of the disk's size"]]
  Aj) Aj)
 (Ae Bx[4][Bh (λc n=>Al.lookup[u6 c n]) "begin_write" Aa[0] yA[Aa[2]]]
 (Ae (ifS (tQ .Eq Aa[1] Aa[3]) (Ae Hu[Lp .lst Ky (Ih fld "page_texts" Aa[0]) yA[Bb[.mul][kS[" "]][Ih fld "size" Aa[0]]]]
  Aj) Aj)
 (Ae aA4
 (Ae Hu[Bh (λc n=>Al.lookup[u6 c n]) "end_write" Aa[0] nilF]
 Aj))))))
def Qw:=Br 3 5 Qv
def Alk:eE Aau Bj Alj Al Am Qv:=by rfl'
def Lx:=uE 14 "write" Qw 3 Al
abbrev Agz:cF:=inClass top[70] 6
def Aqj:lg t6:=["self","row","done"]
def Xf:MS:=Ae (ifS Jk[Dl[zA Je Aa[1]]] (Ae (Hc 2 yA[kS["no text"]])
  Aj) Aj)
 (Ae Bx[2][Bh (λc n=>Lx.lookup[u6 c n]) "begin_write" Aa[0] yA[Aa[1]]]
 (Ae Hu[Lp .lst Ky (Ih fld "row_texts" Aa[0]) yA[slF Aa[1] Cv Dj[Aa[2]]]]
 (Ae Hu[Bh (λc n=>Lx.lookup[u6 c n]) "end_write" Aa[0] nilF]
 Aj)))
def Ag0:=Br 2 3 Xf
def Aqk:eE Agz Bj Aqj Lx Am Xf:=by rfl'
def Mu:=uE 14 "add" Ag0 2 Lx
abbrev Aav:cF:=inClass top[70] 7
def Qx:MS:=Ae Hu[Bh (λc n=>Mu.lookup[u6 c n]) "begin_write" Aa[0] yA[kS[""]]]
 (Ae (ifS Jk[Dl[Ih fld "off" Aa[0]]] (Ae (G9 fld "row_texts" Aa[0] Ez[nilF])
  Aj) Aj)
 (Ae Hu[Bh (λc n=>Mu.lookup[u6 c n]) "end_write" Aa[0] nilF]
 Aj))
def Alm:=Br 1 1 Qx
def Aln:eE Aav Bj Bp Mu Am Qx:=by rfl'
def Aaw:=uE 14 "clear" Alm 1 Mu
abbrev Adr:cF:=inClass top[70] 10
def Ads:lg t6:=["self","turn","cut"]
def Adt:MS:=Ae (ifS orT[Jk Dl[zA Dr Aa[1]]][tQ .Lt Aa[1] kI[1]] (Ae (Hc 1 yA[kS["no whole number of a write from one on"]])
  Aj) Aj)
 (Ae (ifS orT[Jk Dl[zA Dr Aa[2]]][tQ .Lt Aa[2] kI[0]] (Ae (Hc 1 yA[kS["no whole number of signs from nought on"]])
  Aj) Aj)
 (Ae (G9 fld "turns_left" Aa[0] Aa[1])
 (Ae (G9 fld "signs_done" Aa[0] Aa[2])
 Aj)))
def Vc:=Br 3 3 Adt
def Aod:eE Adr Bj Ads Aaw Am Adt:=by rfl'
def Ay:=uE 14 "fall" Vc 3 Aaw
abbrev Vd:cF:=top 81
def Aoe:lg t6:=["_law_deed_here","e"]
def Adu:MS:=Ae (Aur exm[0] 1 rQ[Ez[yA[Afj[md.lams Bj Ay Am][Aa 0]]]] rQ[Ez[yA[zA Tr Aa[1]]]])
 Aj
def Bv:=Br 1 2 Adu
def Aof:Jr[Aw Vd][md.gm Bj Aoe Ai[Vd] Ay Am sy sr[md.lams Bj Ay Am]]=Adu:=by rfl'
def Adv:=tE "_law_told" Bv 1 Bj
abbrev Adw:cF:=top 83
def Aog:lg t6:=["_law_world","_law_way","_law_text_here","_law_old","_law_found","_law_k"]
def Adx:MS:=Ae ifS[tQ .Eq Aa[1] kS["whole"]][rQ[Aa[2]]][Aj]
 (Ae (Bx 4 kS[""])
 (Ae (Xw (V9 Li yA[zB[Axo][zA Et Aa[2]][zA Et Aa[3]]]) Ex[5] (Ae (ifS tQ[.Lt][Aa[5]][ixF Aa[0] kS["cut"]] (Ae (Bx 4 Bb[.add][Aa[4]][slF Aa[2] Dj[Aa[5]] Dj[Bb .add Aa[5] kI[1]]])
   Aj) (Ae (Bx 4 Bb[.add][Aa[4]][slF Aa[3] Dj[Aa[5]] Dj[Bb .add Aa[5] kI[1]]])
   Aj))
  Aj))
 (rQ Aa[4])))
def Ji:=Br 4 6 Adx
def Aoh:eE Adw Adv Aog Ay Am Adx:=by rfl'
def Ady:=tE "_law_left" Ji 4 Adv
abbrev Ly:cF:=top 84
def Alo:lg t6:=["_law_tape_here","_law_disk","_law_world","_law_texts","_law_number","_law_text_here","_law_way","_law_old"]
def l_0:Lm:=Ana ("_law_write" ++ ".<locals>." ++ "<lambda>":t6) (xA 0 xL[xSt[(Aw Ly).getD 5 default]])
abbrev aA3:=Ez[yB Ez[yA[kF[.non]]] Ez[yA[kS["gone "]]]]
def Aax:MS:=Ae Bx[3][ixF Aa[2] kS["texts"]]
 (Ae (Bx 4 ixF[Ez yB[zA Et Aa[3]][zB Ar Aa[0] Bb[.add][zA Et Aa[3]][kI[1]]]][zB Ar Aa[0] kI[2]])
 (Ae (Bx 5 zB[Ni][zC Tj Aa[0] (ixF Aa[2] kS["size"]) kI[60]][ixF Aa[2] kS["size"]])
 (Ae Bx[6][zA Gp Aa[2]]
 (Ae (ifS (tQ .NotEq Aa[6] kS["none"]) (Ae (Bx 7 ixF[Bb .add Aa[3] Ez[yA[Bb[.mul][kS[" "]][ixF Aa[2] kS["size"]]]]][Aa 4])
  (Ae (Jb Aa[2] kS["texts"] Bb[.add][Bb[.add][slF Aa[3] Cv Dj[Aa[4]]][Ez[yA[Dw[Ji][yD Aa[2] Aa[6] Aa[5] Aa[7]]]]]][slF Aa[3] Dj[Bb .add Aa[4] kI[1]] Cv])
  Aj)) Aj)
 (rQ Ea[.Eq][Dy 4 l_0 [1,4,5] Bv][ixF aA3 zA[R5][Ea .NotEq Aa[6] kS["whole"]]])))))
def Qy:=Br 3 8 Aax
def Alp:Jr[Aw Ly][md.gm Ady Alo Ai[Ly] Ay Am sr[u6[4]["_law_write" ++ ".<locals>." ++ "<lambda>"]]]=Aax:=by rfl'
def Bqd:De->M W:=Bh[λc n=>Ay.lookup[u6 c n]]["write"][Aa 0][yB Aa[1] Aa[2]]
def Bnz:md.lams Bj Ay Am l_0=lamF 3 Bqd:=by rfl'
def Bn0:W5 l_0=t8:=by rfl'
def Aay:=tE "_law_write" Qy 3 Ady
abbrev Qz:cF:=top 85
def Aql:lg t6:=["_law_tape_here","_law_disk","_law_world","_law_row","_law_way"]
def l_1:Lm:=Ana ("_law_add" ++ ".<locals>." ++ "<lambda>":t6) (xA 0 xL[xSt[(Aw Qz).getD 3 default]])
def Ag1:MS:=Ae (Bx 3 zB[Hh][Aa[0]][zB Ar Aa[0] kI[90]])
 (Ae Bx[4][zA Gp Aa[2]]
 (Ae (ifS (tQ .NotEq Aa[4] kS["none"]) (Ae (Jb Aa[2] kS["rows"] Bb[.add][ixF Aa[2] kS["rows"]][Ez[yA[Dw[Ji][yD Aa[2] Aa[4] Aa[3] kS[""]]]]])
  Aj) Aj)
 (rQ Ea[.Eq][Dy 3 l_1 [1,3] Bv][ixF aA3 zA[R5][Ea .NotEq Aa[4] kS["whole"]]])))
def Xg:=Br 3 5 Ag1
def Aqm:Jr[Aw Qz][md.gm Aay Aql Ai[Qz] Ay Am sr[u6[3]["_law_add" ++ ".<locals>." ++ "<lambda>"]]]=Ag1:=by rfl'
def Bqe:De->M W:=Bh (λc n=>Ay.lookup[u6 c n]) "add" Aa[0] yA[Aa[1]]
def Bn1:md.lams Bj Ay Am l_1=lamF 2 Bqe:=by rfl'
def Bn2:W5 l_1=t8:=by rfl'
def Ag2:=tE "_law_add" Xg 3 Aay
abbrev Lz:cF:=top 86
def Alq:lg t6:=["_law_disk","_law_world","_law_way"]
def l_2:Lm:=Ana ("_law_clear" ++ ".<locals>." ++ "<lambda>":t6) (xA 0 xL[xSt[(Aw Lz).getD 2 default]])
def Aaz:MS:=Ae Bx[2][zA Gp Aa[1]]
 (Ae (ifS (tQ .Eq Aa[2] kS["whole"]) (Ae (Jb Aa[1] kS["rows"] Ez[nilF])
  Aj) Aj)
 (rQ Ea[.Eq][Dy 2 l_2 [0] Bv][ixF aA3 zA[R5][Ea .NotEq Aa[2] kS["whole"]]]))
def Q0:=Br 2 3 Aaz
def Alr:Jr[Aw Lz][md.gm Ag2 Alq Ai[Lz] Ay Am sr[u6[2]["_law_clear" ++ ".<locals>." ++ "<lambda>"]]]=Aaz:=by rfl'
def Bqf:De->M W:=Bh (λc n=>Ay.lookup[u6 c n]) "clear" Aa[0] nilF
def Bn3:md.lams Bj Ay Am l_2=lamF 1 Bqf:=by rfl'
def Bn4:W5 l_2=t8:=by rfl'
def Aa0:=tE "_law_clear" Q0 2 Ag2
abbrev Ld:cF:=top 87
def Aoi:lg t6:=["_law_tape_here","_law_disk","_law_world","_law_odd_here","_law_wrong","_law_turn","_law_cut","_law_size_here"]
def l_3:Lm:=Ana ("_law_fall" ++ ".<locals>." ++ "<lambda>":t6) (xA 0 xL[xSt[(Aw Ld).getD 8 default]])
def l_4:Lm:=Ana ("_law_fall" ++ ".<locals>." ++ "<lambda>":t6) (xA 0 xL[xSt[pIf[(Aw Ld).getD 2 default][0]]])
def Adz:MS:=Ae (Bx 3 ixF[Ez[Eo kI[0] Eo[Aft kI[1]][Eo kB[t8] Eo[kF .non][yD kS["1"] Ez[yA[kI[1]]] kB[t7] Aft[Bb .pow kI[10] kI[20]]]]]][zB Ar Aa[0] kI[8]])
 (Ae (Bx 4 ixF[Ez[Eo Aft[kI[1]] Eo[kB t8][yD kF[.non] kS["0"] Ez[yA[kI[0]]] kB[t7]]]][zB Ar Aa[0] kI[6]])
 (Ae (Xw Iu[Gs[yC Gs[yB Aa[3] kI[3]] Gs[yB kI[2] Aa[4]] Gs[yB Aa[3] Aa[4]]]] Ahp[[5,6]] (Ae (ifS tQ[.NotEq][Dy 1 l_4 [6,1,5] Bv][Ez[yA[kS["number "]]]] rQ[kB[t7]] Aj)
  Aj))
 (Ae (Bx 5 Bb[.add][kI[1]][zB Ar Aa[0] kI[6]])
 (Ae Bx[7][ixF Aa[2] kS["size"]]
 (Ae (Bx 6 ixF[Ez[Eo kI[0] Eo[kI 1][Eo Aa[7] Eo[Bb .sub Aa[7] kI[1]][yD[kI 1000][Bb .pow kI[10] kI[20]][zB Ar Aa[0] Aa[7]][zB Ar Aa[0] Aa[7]]]]]][zB Ar Aa[0] kI[8]])
 (Ae (Jb Aa[2] kS["due"] Aa[5])
 (Ae (Jb Aa[2] kS["cut"] Aa[6])
 (rQ Ea[.Eq][Dy 1 l_3 [6,1,5] Bv][Ez[yA[kF[.non]]]]))))))))
def Ve:=Br 3 8 Adz
def Aoj:Jr[Aw Ld][md.gm Aa0 Aoi Ai[Ld] Ay Am sr[u6[1]["_law_fall" ++ ".<locals>." ++ "<lambda>"]]]=Adz:=by rfl'
def Bqg:De->M W:=Bh[λc n=>Ay.lookup[u6 c n]]["fall"][Aa 1][yB Aa[2] Aa[0]]
def Bqh:md.lams Bj Ay Am l_3=lamF 3 Bqg:=by rfl'
def Bqi:W5 l_3=t8:=by rfl'
def Bqj:De->M W:=Bh[λc n=>Ay.lookup[u6 c n]]["fall"][Aa 1][yB Aa[2] Aa[0]]
def Bqk:md.lams Bj Ay Am l_4=lamF 3 Bqj:=by rfl'
def Bql:W5 l_4=t8:=by rfl'
def Ad0:=tE "_law_fall" Ve 3 Aa0
abbrev Kr:cF:=top 88
def Aqn:lg t6:=["_law_tape_here","_law_disk","_law_world","_law_size_here","_law_odd_here"]
def l_5:Lm:=Ana ("_law_odd" ++ ".<locals>." ++ "<lambda>":t6) (xA 0 xL[xSt[(Aw Kr).getD 2 default]])
def l_6:Lm:=Ana ("_law_odd" ++ ".<locals>." ++ "<lambda>":t6) (xA 0 xL[xSt[(Aw Kr).getD 3 default]])
def l_7:Lm:=Ana ("_law_odd" ++ ".<locals>." ++ "<lambda>":t6) (xA 0 xL[xSt[(Aw Kr).getD 4 default]])
def Ag3:MS:=Ae Bx[3][ixF Aa[2] kS["size"]]
 (Ae (Bx 4 ixF[Ez yD[Aft kI[1]][Bb .add zA[Et][ixF Aa[2] kS["texts"]] kI[1]][kB t8][kF .non]][zB Ar Aa[0] kI[4]])
 (Ae (ifS tQ[.NotEq][Dy 0 l_5 [1,4,3] Bv][Ez[yA[kS["number "]]]] rQ[kB[t7]] Aj)
 (Ae (ifS tQ[.NotEq][Dy 0 l_6 [1,3] Bv][Ez[yA[kS["page "]]]] rQ[kB[t7]] Aj)
 (rQ Ea[.Eq][Dy 0 l_7 [1,0] Bv][Ez[yA[kS["text "]]]]))))
def Xh:=Br 3 5 Ag3
def Aqo:Jr[Aw Kr][md.gm Ad0 Aqn Ai[Kr] Ay Am sr[u6[0]["_law_odd" ++ ".<locals>." ++ "<lambda>"]]]=Ag3:=by rfl'
def Bqm:De->M W:=Bh (λc n=>Ay.lookup[u6 c n]) "write" Aa[0] yB[Aa 1][zB Ni Gs[yB kS["free"] kI[1]] Aa[2]]
def Bqn:md.lams Bj Ay Am l_5=lamF 3 Bqm:=by rfl'
def Bqo:W5 l_5=t8:=by rfl'
def Bqp:De->M W:=Bh (λc n=>Ay.lookup[u6 c n]) "write" Aa[0] yB[kI 0][Bb .mul kS[" "] Aa[1]]
def Bqq:md.lams Bj Ay Am l_6=lamF 2 Bqp:=by rfl'
def Bqr:W5 l_6=t8:=by rfl'
def Bqs:De->M W:=Bh (λc n=>Ay.lookup[u6 c n]) "add" Aa[0] yA[ixF[Ez[yD kF[.non] kI[7] Ez[yA[kS["row"]]] kB[t8]]][zB Ar Aa[1] kI[4]]]
def Bqt:md.lams Bj Ay Am l_7=lamF 2 Bqs:=by rfl'
def Bqu:W5 l_7=t8:=by rfl'
def Ag4:=tE "_law_odd" Xh 3 Ad0
abbrev Ad1:cF:=top 89
def Aok:lg t6:=["_law_tape_here","_law_disk","_law_world","_law_way"]
def Ad2:MS:=Ae Bx[3][zB Ar Aa[0] kI[16]]
 (Ae ifS[tQ .Lt Aa[3] kI[6]][rQ[zC Qy Aa[0] Aa[1] Aa[2]]][Aj]
 (Ae ifS[tQ .Lt Aa[3] kI[9]][rQ[zC Xg Aa[0] Aa[1] Aa[2]]][Aj]
 (Ae ifS[tQ .Lt Aa[3] kI[10]][rQ[zB Q0 Aa[1] Aa[2]]][Aj]
 (Ae ifS[tQ .Lt Aa[3] kI[13]][rQ[zC Ve Aa[0] Aa[1] Aa[2]]][Aj]
 (Ae ifS[tQ .Eq Aa[3] kI[13]][rQ[zC Xh Aa[0] Aa[1] Aa[2]]][Aj]
 (Ae (Jb Aa[2] kS["off"] kB[t7])
 (Ae (Jb Aa[2] kS["due"] kF[.non])
 (rQ Ea[.Is][Bh (λc n=>Ay.lookup[u6 c n]) "up" Aa[1] nilF][kF[.non]]))))))))
def Nt:=Br 3 4 Ad2
def Aol:eE Ad1 Ag4 Aok Ay Am Ad2:=by rfl'
def Vf:=tE "_law_deed" Nt 3 Ag4
abbrev Wq:cF:=inClass top[70] 3
def Wr:MS:=rQ[Ih fld "begun" Aa[0]]
def Ws:=Br 1 1 Wr
def Ahv:eE Wq Vf Bp Ay Am Wr:=by rfl'
def Wt:=uE 14 "writes" Ws 1 Ay
abbrev Wu:cF:=inClass top[70] 4
def Wv:MS:=rQ[Ih fld "off" Aa[0]]
def Ww:=Br 1 1 Wv
def Ahw:eE Wu Vf Bp Wt Am Wv:=by rfl'
def By:=uE 14 "is_off" Ww 1 Wt
abbrev Aom:cF:=top 90
def Bn5:lg t6:=["_law_script","_law_tape_here","_law_world","_law_disk","_law_turn","_law_pages","_law_rows"]
abbrev aA6:=Ae Hu[Lp .lst Ky Aa[5] yA[kS["more"]]] (Ae Hu[Lp .lst Ky Aa[6] yA[kS["more"]]] Aj)
abbrev aA9:=ifS Jk[Dl[zC Nt Aa[1] Aa[3] Aa[2]]] rQ[kB[t7]] Aj
def Bhc:MS:=Ae Bx[1][zA Sw Aa[0]]
 (Ae (Bx 2 Acj[[((kS "size"),(zA M8 Aa[1])),((kS "texts"),(Ez nilF)),((kS "rows"),(Ez nilF)),((kS "begun"),(kI 0)),((kS "due"),(kF .non)),((kS "cut"),(kI 0)),((kS "off"),(kB t7))]])
 (Ae (Bx 3 zA[λws=>R7 14 Lh ws][ixF Aa[2] kS["size"]])
 (Ae (Xw (V9 Li yA[Bb[.add][kI[6]][zB Ar Aa[1] kI[25]]]) Ex[4] (Ae aA9
  (Ae Bx[5][Bh (λc n=>By.lookup[u6 c n]) "pages" Aa[3] nilF]
  (Ae Bx[6][Bh (λc n=>By.lookup[u6 c n]) "rows" Aa[3] nilF]
  (Ae (ifS orT[tQ .NotEq Aa[5] (ixF Aa[2] kS["texts"])][orT tQ[.NotEq][Aa[6]][ixF Aa[2] kS["rows"]] tQ[.NotEq][Bh (λc n=>By.lookup[u6 c n]) "writes" Aa[3] nilF][ixF Aa[2] kS["begun"]]] rQ[kB[t7]] Aj)
  (Ae ifS[orT Jk[Dl[zB[Jl isa][Bh (λc n=>By.lookup[u6 c n]) "is_off" Aa[3] nilF][kF .ty["bool"]]]] tQ[.NotEq][Bh (λc n=>By.lookup[u6 c n]) "is_off" Aa[3] nilF][ixF Aa[2] kS["off"]]][rQ[kB[t7]]][Aj]
  aA6))))))
 (rQ[Jj Ea[.Eq][Bh (λc n=>By.lookup[u6 c n]) "pages" Aa[3] nilF][ixF Aa[2] kS["texts"]] Ea[.Eq][Bh (λc n=>By.lookup[u6 c n]) "rows" Aa[3] nilF][ixF Aa[2] kS["rows"]]]))))
def Az6:=Br 1 7 Bhc
def Bn6:eE Aom Vf Bn5 By Am Bhc:=by rfl'
def qs:lg t6:=["_law_odd" ++ ".<locals>." ++ "<lambda>","_law_fall" ++ ".<locals>." ++ "<lambda>","_law_clear" ++ ".<locals>." ++ "<lambda>","_law_add" ++ ".<locals>." ++ "<lambda>","_law_write" ++ ".<locals>." ++ "<lambda>"]
abbrev Eh:cF:=inClass top[7] 0
theorem Aeb:Ek ["self","number","words"] ["self","number","words"] Ai[Eh]:=(rfl,rfl,rfl,(),rfl,(),())
abbrev Fo:cF:=inClass top[8] 0
theorem Ahx:Ek ["self","key","words"] ["self","key","words"] Ai[Fo]:=(rfl,rfl,rfl,(),rfl,(),())
def all_mk{l:zQ}{w:dO}{K:aB}{h:dD}{mg:t6->o9 aD}{fa:aG}{U c1 c2 c3 c4 c5 T S c8 c9 u r q g d:aG}{f21 Q O:aG}{od21 I od72 an72 od73 an73:o9 aG}{sl21 sl72 sl73:Array o9[aD]}{oc21 C F B y H oc72 kV72 dc72 pm72 cd72 ct72 oc73 kV73 dc73 pm73 cd73 ct73:aD}{j:lg aG}{A0 A1 A2 A3 A4:aG}{Z:aG}{do21:aD}{dd21:o9 aG}{dn21:Nat}{dz21:Array o9[aD]}{E:Tok}{t72:aG}{do72:aD}{dd72:o9 aG}{dn72:Nat}{dz72:Array o9[aD]}{dk72_1:Tok}{t73:aG}{do73:aD}{dd73:o9 aG}{dn73:Nat}{dz73:Array o9[aD]}{dk73_1:Tok}{tk0 tk1 tk2 tk3 tk4 tk5 tk6 tk7 tk8 tk9 tk10 tk11 tk12 tk13 tk14 tk15 tk16 tk17:Tok}{m0:aG}(X:K.In h)(G:h.Ns mainGlobals mg)(hfa:mg "law"=sr .ref[fa])(C0:aY K mainGlobals "TableError"=sr sr[.ref[U]])(C1:aY K mainGlobals "BadNumber"=sr sr[.ref[c1]])(C2:aY K mainGlobals "BadText"=sr sr[.ref[c2]])(C3:aY K mainGlobals "BadSize"=sr sr[.ref[c3]])(C4:aY K mainGlobals "BadKey"=sr sr[.ref[c4]])(C5:aY K mainGlobals "BadValue"=sr sr[.ref[c5]])(C6:aY K mainGlobals "BadPage"=sr sr[.ref[T]])(C7:aY K mainGlobals "NoKey"=sr sr[.ref[S]])(C8:aY K mainGlobals "InBundle"=sr sr[.ref[c8]])(C9:aY K mainGlobals "NoBundle"=sr sr[.ref[c9]])(C10:aY K mainGlobals "PowerGone"=sr sr[.ref[u]])(C11:aY K mainGlobals "Closed"=sr sr[.ref[r]])(C12:aY K mainGlobals "BadLine"=sr sr[.ref[q]])(C13:aY K mainGlobals "BodyReader"=sr sr[.ref[g]])(C14:aY K mainGlobals "Disk"=sr sr[.ref[d]])(D0:Ep K mg "_law_tape" Acn Sv)(D1:Ep K mg "is_whole" Af8 Cy)(D2:Ep K mg "is_size" Aiv Cy)(D3:Mm K d "__init__" "Disk.__init__" Rf Rg)(D4:Mm K d "pages" "Disk.pages" Aad Bp)(D5:Mm K d "rows" "Disk.rows" Acq Bp)(D6:Ep K mg "_law_draw" Acu ["_law_tape_here","_law_many"])(D7:Ep K mg "_law_size" Acx Acy)(D8:Mm K d "up" "Disk.up" Aix Bp)(D9:Ep K mg "digits" Ano ["number","many"])(D10:Ep K mg "numbers_text" Sy Tc)(D11:Ep K mg "key_text" Agc Agd)(D12:Ep K mg "cell_text" Ac0 Ac1)(D13:Ep K mg "row_text" Agg Agh)(D14:Ep K mg "body_text" Ac4 Abz)(D15:Ep K mg "word_of" Ai0 Cy)(D16:Ep K mg "is_text" Ai3 Cy)(D17:Ep K mg "is_key" Anu Cy)(D18:Ep K mg "are_rising_keys" Nb Nf)(D19:Ep K mg "is_tuple_of" Wi K4)(D20:Ep K mg "is_text_of" Aai Aaj)(ca21:aY K mainGlobals "is_number"=sr sr[.ref[f21]])(cl21:K.lookup f21=sr (oc21,od21,.func[cL "is_number" "is_number" Do[Dg] Aw[Dg] Ai[Dg] .ref[Z] C F B I y H],sl21))(cc21:iU K y "is_number"=t8)(ck21:cG K .ref[f21]=t8)(dl21:K.lookup Z=sr (do21,dd21,.seq #[(.int 0 E)] dn21,dz21))(D22:Ep K mg "is_cell" Ai6 Cy)(D23:Ep K mg "are_rows" Agk Cy)(D24:Ep K mg "are_keys" Agn Cy)(D25:Ep K mg "are_kids" Agq K4)(D26:Ep K mg "is_page" Aja Cy)(D27:Ep K mg "body_of" Ajd Abz)(D28:Ep K mg "unchecked_text" Pz ["page","body","size"])(D29:Ep K mg "room_of" Ajg Ajh)(D30:Ep K mg "check_of" Agt Em)(D31:Ep K mg "page_text" Ac9 ["page","size"])(D32:Ep K mg "_law_begun" Aam Aan)(D33:Ep K mg "_law_signs" Aaq [])(D34:Ep K mg "_law_text" Adc ["_law_tape_here","_law_size_here"])(D35:Ep K mg "_law_keys" Adg ["_law_tape_here","_law_many"])(D36:Ep K mg "_law_longer" Wl ["_law_tape_here","_law_page_here","_law_key","_law_size_here","_law_most"])(D37:Ep K mg "_law_page" Adj ["_law_tape_here","_law_size_here","_law_most"])(D38:Ep K mg "_law_word" Tn ["_law_error"])(D39:Mm K d "begin_write" "Disk.begin_write" Mq Mr)(D40:Mm K d "end_write" "Disk.end_write" Qc Bp)(D41:Ep K mg "is_written_number" Lj Cy)(D42:Ep K mg "number_of" Adm Em)(D43:Mm K g "__init__" "BodyReader.__init__" J7 J8)(D44:Mm K g "next_signs" "BodyReader.next_signs" Jf Bl)(D45:Mm K g "next_number" "BodyReader.next_number" Ij Bl)(D46:Mm K g "next_key" "BodyReader.next_key" Kc Bp)(D47:Mm K g "next_keys" "BodyReader.next_keys" Jv Bl)(D48:Mm K g "next_numbers" "BodyReader.next_numbers" Hw Bl)(D49:Mm K g "next_cell" "BodyReader.next_cell" Jy Bp)(D50:Mm K g "next_row" "BodyReader.next_row" Kg Bp)(D51:Mm K g "next_rows" "BodyReader.next_rows" J1 Bl)(D52:Ep K mg "told_page" Ado ["letter","body"])(D53:Ep K mg "has_right_check" Np Em)(D54:Ep K mg "told_by_text" Tu Em)(D55:Ep K mg "page_of" Ajk Em)(D56:Ep K mg "is_page_text" Tz Va)(D57:Mm K d "write" "Disk.write" Aau ["self","number","text"])(D58:Mm K d "add" "Disk.add" Agz ["self","row"])(D59:Mm K d "clear" "Disk.clear" Aav Bp)(D60:Mm K d "fall" "Disk.fall" Adr Ads)(D61:Ep K mg "_law_told" Vd ["_law_deed_here"])(D62:Ep K mg "_law_left" Adw ["_law_world","_law_way","_law_text_here","_law_old"])(D63:Af0 K mg "_law_write" Ly ["_law_tape_here","_law_disk","_law_world"] A4)(D64:Af0 K mg "_law_add" Qz ["_law_tape_here","_law_disk","_law_world"] A3)(D65:Af0 K mg "_law_clear" Lz ["_law_disk","_law_world"] A2)(D66:Af0 K mg "_law_fall" Ld ["_law_tape_here","_law_disk","_law_world"] A1)(D67:Af0 K mg "_law_odd" Kr ["_law_tape_here","_law_disk","_law_world"] A0)(D68:Ep K mg "_law_deed" Ad1 ["_law_tape_here","_law_disk","_law_world"])(D69:Mm K d "writes" "Disk.writes" Wq Bp)(D70:Mm K d "is_off" "Disk.is_off" Wu Bp)(D71:Ep K mg "law" Aom Sv)(ca72:bZ K .ref[T] "__init__"=sr sr[.ref[Q]])(cl72:K.lookup Q=sr (oc72,od72,.func[cL "__init__" "BadPage.__init__" Do[Eh] Aw[Eh] Ai[Eh] .ref[t72] kV72 dc72 pm72 an72 cd72 ct72],sl72))(cc72:iU K cd72 "BadPage.__init__"=t8)(ck72:cG K .ref[Q]=t8)(dl72:K.lookup t72=sr (do72,dd72,.seq #[.none,(.str "no page as it is wanted" dk72_1)] dn72,dz72))(ca73:bZ K .ref[S] "__init__"=sr sr[.ref[O]])(cl73:K.lookup O=sr (oc73,od73,.func[cL "__init__" "NoKey.__init__" Do[Fo] Aw[Fo] Ai[Fo] .ref[t73] kV73 dc73 pm73 an73 cd73 ct73],sl73))(cc73:iU K cd73 "NoKey.__init__"=t8)(ck73:cG K .ref[O]=t8)(dl73:K.lookup t73=sr (do73,dd73,.seq #[.none,(.str "no such key" dk73_1)] dn73,dz73))(g0:aY K mainGlobals "SIGNS"=sr sr[.str "0123456789abcdefghijklmnopqrstuvwxyzABCDEFGHIJKLMNOPQRSTUVWXYZ+-" tk0])(g1:aY K mainGlobals "BITS"=sr sr[.int 6 tk1])(g2:aY K mainGlobals "LOWEST_BITS"=sr sr[.int 63 tk2])(g3:aY K mainGlobals "MOST_SIGNS"=sr sr[.int 3 tk3])(g4:aY K mainGlobals "TEXT_SIGNS"=sr sr[.str " !\"#$&'()*+,-./0123456789:;<=>?@ABCDEFGHIJKLMNOPQRSTUVWXYZ[\\]^_`abcdefghijklmnopqrstuvwxyz{|}~" tk4])(g5:aY K mainGlobals "CODES_AHEAD"=sr sr[.int 31 tk5])(g6:aY K mainGlobals "CHECK_DIVISOR"=sr sr[.int 4093 tk6])(g7:aY K mainGlobals "CHECK_SIGNS"=sr sr[.int 2 tk7])(g8:aY K mainGlobals "MOST_KEY_SIGNS"=sr sr[.int 12 tk8])(g9:aY K mainGlobals "MOST_VALUE_SIGNS"=sr sr[.int 400 tk9])(g10:aY K mainGlobals "LEAST_SIZE"=sr sr[.int 64 tk10])(g11:aY K mainGlobals "MOST_SIZE"=sr sr[.int 200 tk11])(g12:aY K mainGlobals "MOST_NUMBER"=sr sr[.int 4095 tk12])(g13:aY K mainGlobals "MOST_ROWS"=sr sr[.int 63 tk13])(g14:aY K mainGlobals "MOST_CELL_SIGNS"=sr sr[.int 63 tk14])(g15:aY K mainGlobals "NUMBER_SIGNS"=sr sr[.int 2 tk15])(g16:aY K mainGlobals "SIGNS_BESIDE_BODY"=sr sr[.int 5 tk16])(g17:aY K mainGlobals "BODY_START"=sr sr[.int 3 tk17])(z0:aY K mainGlobals "isinstance"=sr sy)(z1:aY K mainGlobals "len"=sr sy)(z2:aY K mainGlobals "ord"=sr sy)(z3:aY K mainGlobals "max"=sr sy)(z4:aY K mainGlobals "sum"=sr sy)(z5:aY K mainGlobals "all"=sr sy)(z6:aY K mainGlobals "tuple"=sr sy)(z7:aY K mainGlobals "list"=sr sy)(z8:aY K mainGlobals "sorted"=sr sy)(z9:aY K mainGlobals "range"=sr sy)(z10:aY K mainGlobals "zip"=sr sy)(z11:aY K mainGlobals "enumerate"=sr sy)(z12:aY K mainGlobals "set"=sr sy)(z13:aY K mainGlobals "int"=sr sy)(z14:aY K mainGlobals "bool"=sr sy)(z15:aY K mainGlobals "str"=sr sy)(z16:aY K mainGlobals "ValueError"=sr sy)(x0:Vz K U)(x1:Vz K c1)(x2:Vz K c2)(x3:Vz K c3)(x4:Vz K c4)(x5:Vz K c5)(x8:Vz K c8)(x9:Vz K c9)(x10:Vz K u)(x11:Vz K r)(x12:Vz K q)(isL:Asd K [U,c1,c2,c3,c4,c5,T,S,c8,c9,u,r,q,g,d] Bnq=t8)(veL:Ay1 K [U,c1,c2,c3,c4,c5,T,S,c8,c9,u,r,q,g,d] Be3=t8)(exL:Asf K [U,c1,c2,c3,c4,c5,T,S,c8,c9,u,r,q,g,d] Bnw=t8)(exN:Asg K [U,c1,c2,c3,c4,c5,T,S,c8,c9,u,r,q,g,d] Bnx=t8)(hA0:j[0]?=sr A0)(hA1:j[1]?=sr A1)(hA2:j[2]?=sr A2)(hA3:j[3]?=sr A3)(hA4:j[4]?=sr A4)(hAn:j.length=5)(mg0:aY K mainGlobals "LETTERS"=sr sr[.ref[m0]])(mt0:aCx[aCd λb=>K.lookup b][λb=>K.lookup b][m0][Pn.map λp=>(u6 p.1 qQ[.str[p.2]])]=t8)(xa72:Ad8 K T Q=t8)(xk72:cG K .ref[T]=t8)(xf72:Beh K Q=t8)(xs72:xsB K T "number"=t8)(xb72:xbB K U=t8)(xa73:Ad8 K S O=t8)(xk73:cG K .ref[S]=t8)(xf73:Beh K O=t8)(xs73:xsB K S "key"=t8)(xb73:xbB K U=t8)(cm13:lU K g=t8)(cy13:cG K .ref[g]=t8)(o:Auy K g=t8)(cm14:lU K d=t8)(cy14:cG K .ref[d]=t8)(m:Auy K d=t8)(fl:Ase K [U,c1,c2,c3,c4,c5,T,S,c8,c9,u,r,q,g,d] Bnr=t8)(xl:Ay4 K [U,c1,c2,c3,c4,c5,T,S,c8,c9,u,r,q,g,d] xfL=t8): ∃fd:eN,(∀(s:aN)(v:aD),zV s fd ([v],[]) [("_law_script",v)])/\(∀P∈j,∃c,fJ K c P=t8)/\∀base:dD,K.In base->base.Ns mainGlobals mg->Bmo mg base->Hl l.prog w K mg base (CXo l.prog w) 148 fa fd ["_law_script"] spF[Ayz K addrs[[U,c1,c2,c3,c4,c5,T,S,c8,c9,u,r,q,g,d]] (λc=>xfL.lookup c) j][Az6]:=by
 let hd0:∃c,fJ K c A0=t8:=by let(_,_,_,_,_,c,_,_,_,z):=D67;exact(c,z)
 let hd1:∃c,fJ K c A1=t8:=by let(_,_,_,_,_,c,_,_,_,z):=D66;exact(c,z)
 let hd2:∃c,fJ K c A2=t8:=by let(_,_,_,_,_,c,_,_,_,z):=D65;exact(c,z)
 let hd3:∃c,fJ K c A3=t8:=by let(_,_,_,_,_,c,_,_,_,z):=D64;exact(c,z)
 let hd4:∃c,fJ K c A4=t8:=by let(_,_,_,_,_,c,_,_,_,z):=D63;exact(c,z)
 let(fL,kV,dc,pm,an,cc,ct,Fl,hm):=D71;let e:fa=fL:=aBa cA[hfa.symm.trans[hm]];rw[e];let hAll:∀P∈j,∃c,fJ K c P=t8:=by
  intro P hP;let(i,hi,rfl):=kO hP;rw[hAn] at hi;let go:∀i A,j[i]?=sr A->(h:i < j.length)->(getElem[j][i][by get_elem_tactic])=A:=λi A z h=>cA[(aQ h).symm.trans z]
  match i,hi with
  |0,_=>rw[go 0 A0 hA0];exact hd0
  |1,_=>rw[go 1 A1 hA1];exact hd1
  |2,_=>rw[go 2 A2 hA2];exact hd2
  |3,_=>rw[go 3 A3 hA3];exact hd3
  |4,_=>rw[go 4 A4 hA4];exact hd4
  |n+5,h=>exact absurd h ()
 let F21:=Abl (st:=Dg) cl21 cc21 ck21;let b21:Binds K (cL "is_number" "is_number" Do[Dg] Aw[Dg] Ai[Dg] .ref[Z] C F B I y H) ["thing","least"] []:=λs N KX hl=>by
  let hl':N.length=2:=by simpa using hl
  clear hl;revert N;exact alS λ_=>alS λ_=>al0[.of_defaults rfl (KX _ _ dl21) rfl rfl rfl]
 let v21:Binds K (cL "is_number" "is_number" Do[Dg] Aw[Dg] Ai[Dg] .ref[Z] C F B I y H) ["thing","least"] [(.int 0 E)]:=λs N KX hl=>by
  let hl':N.length=1:=by simpa using hl
  clear hl;revert N;exact alS λ_=>al0[.of_defaults rfl (KX _ _ dl21) rfl rfl rfl]
 let D21:M4 K mg "is_number" Dg ["thing","least"] f21 (cL "is_number" "is_number" Do[Dg] Aw[Dg] Ai[Dg] .ref[Z] C F B I y H):=(F21,aU X G ca21,b21);let F72:=Abl (st:=Eh) cl72 cc72 ck72;let b72:Binds K (cL "__init__" "BadPage.__init__" Do[Eh] Aw[Eh] Ai[Eh] .ref[t72] kV72 dc72 pm72 an72 cd72 ct72) ["self","number","words"] []:=λs N KX hl=>by
  let hl':N.length=3:=by simpa using hl
  clear hl;revert N;exact alS λ_=>alS λ_=>alS λ_=>al0[.of_defaults rfl (KX _ _ dl72) rfl rfl rfl]
 let F73:=Abl (st:=Fo) cl73 cc73 ck73;let b73:Binds K (cL "__init__" "NoKey.__init__" Do[Fo] Aw[Fo] Ai[Fo] .ref[t73] kV73 dc73 pm73 an73 cd73 ct73) ["self","key","words"] []:=λs N KX hl=>by
  let hl':N.length=3:=by simpa using hl
  clear hl;revert N;exact alS λ_=>alS λ_=>alS λ_=>al0[.of_defaults rfl (KX _ _ dl73) rfl rfl rfl]
 refine(cL "law" "law" Do[Aom] Aw[Aom] Ai[Aom] .none kV dc pm an cc ct,λs v=>.of_eq rfl,hAll,λbase _ _ bm=>?_);letI Y:=Ayz K addrs[[U,c1,c2,c3,c4,c5,T,S,c8,c9,u,r,q,g,d]] (λc=>xfL.lookup c) j;let M:md.Ok Y K mg:={
  hK:=rfl
  con:=AllP.at (L:=Bns) (P:=Ay0 Y mg) (Ar9[aU X G g0],Fy[aU X G g1],Fy[aU X G g2],Fy[aU X G g3],Ar9[aU X G g4],Fy[aU X G g5],Fy[aU X G g6],Fy[aU X G g7],Fy[aU X G g8],Fy[aU X G g9],Fy[aU X G g10],Fy[aU X G g11],Fy[aU X G g12],Fy[aU X G g13],Fy[aU X G g14],Fy[aU X G g15],Fy[aU X G g16],Fy[aU X G g17],Abu[bR X G z13][by rfl'],Abu[bR X G z14][by rfl'],Abu[bR X G z15][by rfl'],Abu[bR X G z6][by rfl'],Abu[bR X G z7][by rfl'],Abu[bR X G z16][by rfl'],Gk[aU X G C0],Gk[aU X G C1],Gk[aU X G C2],Gk[aU X G C3],Gk[aU X G C4],Gk[aU X G C5],Gk[aU X G C6],Gk[aU X G C7],Gk[aU X G C8],Gk[aU X G C9],Gk[aU X G C10],Gk[aU X G C11],Gk[aU X G C12],Gk[aU X G C13],Gk[aU X G C14],trivial)
  bi:=AllB.at (L:=biL) (P:=λx=>mg x=sy) (bR X G z0,bR X G z1,bR X G z2,bR X G z3,bR X G z4,bR X G z5,bR X G z6,bR X G z7,bR X G z8,bR X G z9,bR X G z10,bR X G z11,bR X G z12,bR X G z13,trivial)
  fld:=Bkg fl xl
  isa:=Bkf isL veL
  exc:=AllP.at (L:=Bnt) (P:=λx c=>Y.xf c=sy/\Vz K Y.cl[c]/\mg x=sr .ref[Y.cl[c]]) ((rfl,x0,aU X G C0),(rfl,x1,aU X G C1),(rfl,x2,aU X G C2),(rfl,x3,aU X G C3),(rfl,x4,aU X G C4),(rfl,x5,aU X G C5),(rfl,x8,aU X G C8),(rfl,x9,aU X G C9),(rfl,x10,aU X G C10),(rfl,x11,aU X G C11),(rfl,x12,aU X G C12),trivial)
  mdc:=AllP.at (L:=Bny) (P:=λx D=>∃a,Auv K a D/\mg x=sr .ref[a]) ((_,Bei mt0,aU X G mg0),trivial)
  hcl:=AllP.at (L:=Bnv) (P:=λx k=>mg x=sr .ref[Y.cl[k]]) (aU X G C0,aU X G C2,aU X G C6,trivial)
  exm:=λk c h=>Bkh exL k c h
  exn:=λk c h=>Bki exN k c h
  mkl:=AllP.at (L:=mkL) (P:=λx c=>mg x=sr .ref[Y.cl[c]]/\lU K Y.cl[c]=t8/\cG K .ref[Y.cl[c]]=t8) ((aU X G C13,cm13,cy13),(aU X G C14,cm14,cy14),trivial) }
 let hI:XiT Y md l.prog w K mg base 1:=λx c dv h=>AllP.at (L:=Bnu) (P:=λx (p:Nat×lg W)=>∃f,Y.xf p.1=sr f/\mg x=sr .ref[Y.cl[p.1]]/\∃(fI:aG)(fd:eN)(ps:lg t6)(dvs:lg V)(ds:lg aD),Ad8 K Y.cl[p.1] fI=t8/\cG K .ref[Y.cl[p.1]]=t8/\iT K .ref[fI]=sr .type["function"]/\(∀cm,Hl l.prog w K mg base (CXo l.prog w) 1 fI fd ps (Akc Y.cl[p.1] f) cm)/\Binds K fd ps ds/\Vals dvs ds/\dvs.length=p.2.length) ((_,rfl,aU X G C6,Q,_,_,[],[],xa72,xk72,Asc xf72,λ_=>Bgt F72 Aeb rfl (aU X G C0) Bg9[xb72] Bg8[xs72] xa72 () () () () () () (),b72,.nil,rfl),(_,rfl,aU X G C7,O,_,_,[],[],xa73,xk73,Asc xf73,λ_=>Bgt F73 Ahx rfl (aU X G C0) Bg9[xb73] Bg8[xs73] xa73 () () () () () () (),b73,.nil,rfl),trivial) x (u6 c dv) h
 let t:TU Y md l.prog w K mg base 2 T_0 U_0 Q_0:=(QTb.nil,Tbl.nil,MTb.nil,hI,(),M)
 let t:=Fw Anj t D0;let t:=Fw Aqb t D1;let t:=Fw Avb t D2;let t:=Nz (c:=14) Aea t m D3;let t:=Nz (c:=14) Ald t m D4;let t:=Nz (c:=14) Ank t m D5;let t:=Fw Anm t D6;let t:=Fw Ann t D7;let t:=Nz (c:=14) Avc t m D8;let t:=Fw Az4 t D9;let t:=Fw Agb t D10;let t:=Fw Aqc t D11;let t:=Fw Anr t D12;let t:=Fw Aqd t D13;let t:=Fw Ant t D14;let t:=Fw Avd t D15;let t:=Fw Ave t D16;let t:=Fw Az5 t D17;let t:=Fw Aah t D18;let t:=Fw Ahs t D19;let t:=Fw Ale t D20;let t:=Bnh (dv:=[(.int 0)]) Any t D21 rfl ((.cons (_,rfl) .nil)) v21;let t:=Fw Avf t D22;let t:=Fw Aqe t D23;let t:=Fw Aqf t D24;let t:=Fw Aqg t D25;let t:=Fw Avg t D26;let t:=Fw Avh t D27;let t:=Fw Ab1 t D28;let t:=Fw Avi t D29;let t:=Fw Aqi t D30;let t:=Fw An0 t D31;let t:=Fw Alf t D32;let t:=Fw Ali t D33;let t:=Fw An2 t D34;let t:=Fw An4 t D35;let t:=Fw Ahu t D36;let t:=Fw An6 t D37;let t:=Bqa An8 t D38;let t:=Nz (c:=14) Xe t m D39;let t:=Nz (c:=14) Ab3 t m D40;let t:=Fw Wc t D41;let t:=Fw Aoa t D42;let t:=Nz (c:=13) Rk t o D43;let t:=Nz (c:=13) Qf t o D44;let t:=Nz (c:=13) N6 t o D45;let t:=Nz (c:=13) Rm t o D46;let t:=Nz (c:=13) Qs t o D47;let t:=Nz (c:=13) M3 t o D48;let t:=Nz (c:=13) Qt t o D49;let t:=Nz (c:=13) Rp t o D50;let t:=Nz (c:=13) Qu t o D51;let t:=Fw Aoc t D52;let t:=Fw Aat t D53;let t:=Fw Agx t D54;let t:=Fw Avk t D55;let t:=Fw Agy t D56;let t:=Nz (c:=14) Alk t m D57;let t:=Nz (c:=14) Aqk t m D58;let t:=Nz (c:=14) Aln t m D59;let t:=Nz (c:=14) Aod t m D60;let t:=Bqb Aof t D61;let t:=Fw Aoh t D62;let t:=Ay5 bm hA4 Alp t D63;let t:=Ay5 bm hA3 Aqm t D64;let t:=Ay5 bm hA2 Alr t D65;let t:=Ay5 bm hA1 Aoj t D66;let t:=Ay5 bm hA0 Aqo t D67;let t:=Fw Aol t D68;let t:=Nz (c:=14) Ahv t m D69;let t:=Nz (c:=14) Ahw t m D70;exact Bp9 Bn6 t (Fl,hm,Pa λN h=>match N,h with|[_],_=>rfl)
section
def Eu(i:Int):Pu P Dr[[.int i]] .bl[t8]:=(λS b=>([],by rw[bU];rfl))
def Be4(v:Int)(b:0<=v)(h:v < 64):Pu P (ixW .str["0123456789abcdefghijklmnopqrstuvwxyzABCDEFGHIJKLMNOPQRSTUVWXYZ+-"] .int[v]) .str[M1.one[M1.sg[v.toNat]]]:=by
 let(k,rfl):=oJ b;let c:k < 64:=by omega
 let e:atI M1.sgs.cps.toList k=sr M1.sg[k]:=by
  unfold atI ixN;rw[di b,di[by trivial]]
  show M1.sgs.cps.toList[_]?=_;rw[gA,M1.Ap8 c]
 show Pu P (if M1.sgs.length<=big then Aho[(atI M1.sgs.cps.toList (k:Int)).map _] else bad) _
 exact e ▸ Lb (by trivial) Pu.pure
def Ag5{n:Int}(f:0<=n)(e:t.length<=10):PuN P aA5
  [a,b,sr .str[t],sr .int[n],c] [a,b,sr .str[M1.one M1.sg[(n % 64).toNat] ++ t],sr .int[n / 64],c]:=by
 refine Au1 Dt[Cp Di[Ak][Cp Af[rfl] Ak Pu.pure][?_] Af[rfl] Fz[?_]] (Au1 Dt[Cp[Af[rfl]][Ak][Ap5 ()]] Ax)
 .rw[bitAnd_m6 _];exact Be4 _ () ()
 .show 1+_<=big;unfold big;omega
def Be5{n:Int}(a:0<=n)(c:n < 64):Pu P Hg[[.int n,.int 1]] .str[M1.Ej 1 n]:=by
 apply Bt rfl;apply Dm Fx[Fb Cq[Ag[Ac[Ab Af[rfl] Ad][Eu n]]] Ag[Ao Af[rfl] Ak Sd]][by simp_all][Ax]
 refine Dm (Fx Fb[Cq Ag[Ac[Ab Af[rfl] Ad][Eu 1]]][Fb Ag[Ao Af[rfl] Ak Sd] Ag[Ao Af[rfl] Ak Rc]] rfl Ax) ?_;apply Dm Fx[Ag[Ao Cp[Af rfl][Cp Ak Af[rfl] Aeo[by rfl]][Ap5 ()] Ak Rc]][by grind][Ax]
 refine Dm[Dt Ak][Dm Dt[Af[rfl]] ?_];refine Dm Aky[Qm (Ab Af[rfl] Ad) ()][X8 rfl Ag5[a][by trivial] Akx] Bo[Bc[Pu.cast Af[rfl] ?_]]
 show W.str[_ ++ ⟨#[]⟩]=W.str[_ ++ ⟨_⟩];simp
def Als{n:Int}(b:0<=n)(c:n < 4096):Pu P Hg[[.int n,.int 2]] .str[M1.Ej 2 n]:=by
 apply Bt rfl;apply Dm[Fx (Fb Cq[Ag[Ac[Ab Af[rfl] Ad][Eu n]]] Ag[Ao Af[rfl] Ak Sd]) (by simp;omega) Ax]
 refine Dm (Fx Fb[Cq Ag[Ac[Ab Af[rfl] Ad][Eu 2]]][Fb Ag[Ao Af[rfl] Ak Sd] Ag[Ao Af[rfl] Ak Rc]] rfl Ax) ?_;apply Dm (Fx Ag[Ao Cp[Af rfl][Cp Ak Af[rfl] (Aeo ())][Ap5 ()] Ak Rc] (by
  simp;show n / 4096<=0;omega) Ax)
 refine Dm[Dt Ak][Dm Dt[Af[rfl]] ?_];refine Dm (Aky (Qm (k:=2) (Ab Af[rfl] Ad) ()) X8[rfl][Ag5 b ()][X8[rfl][Ag5 () (by show 1+0<=10;decide)][Akx]]) Bo[Bc[Pu.cast Af[rfl] ?_]]
 show _=W.str[M1.one M1.sg[(n / 64 ^ 1 % 64).toNat] ++ (M1.one M1.sg[(n / 64 ^ 0 % 64).toNat] ++ ⟨#[]⟩)];rw[Int.pow_zero,Int.ediv_one];rfl
end
section
def Be6{c:Nat}:Pu P Aul[[.str ⟨#[c]⟩]] (.int (c:Nat)):=Pu.pure
def Aqp(h:Pu P f[b] .str[z])(g:Pu P i[b] c)(e:Pu P (d .str[z] c) w):Pu P (Lp .str d f i b) w:=by
 refine h.bind (Pu.bind (a:=u9) (λS j=>([],?_)) g.bind[e]);rw[bU];rfl
def Avl:("":t6)=⟨#[]⟩:=rfl
def Aer(z:t6)(a:z.length<=big):Pu P Je[[.str z]] .bl[M2.Cj[z]]:=by
 apply Bt rfl;apply Bo;apply Bc;apply Pu.cast[Ao Aqp[Af rfl][Ab Ak Ad][Lb a Pu.pure] Ak Ft];show W.bl[jJ z M2.tsg==_]=_;rw[Avl,M2.Ap9]
def len_str(hz:z.length<=big):Pu P Et[[.str z]] .int[z.length]:=Lb hz Pu.pure
def Gr:Pu P Et[[.tup ws]] .int[ws.length]:=Pu.pure
def Aa1:Pu P (Jl isa [.str z,.ty "str"]) .bl[t8]:=(λS a=>([],by rw[bU];rfl))
def Aes:Pu P (Jl isa [.tup a,.ty "tuple"]) .bl[t8]:=(λS b=>([],by rw[bU];rfl))
def isKey(z:t6):Bool:=M2.Cj z&&(decide[1<=z.length]&&decide[z.length<=12])
def Az7(z:t6)(a:z.length<=big):Pu P Ti[[.str z]] .bl[isKey[z]]:=by
 apply Bt rfl;apply Bo;apply Bc;apply Pu.cast Aaa[Ac[Ab Af[rfl] Ad][Aer z a]][Sh Ak Ac[Ab Af[rfl] Ad][len_str a] Sg Ak Sg]
 congr 3
 .exact decide_eq_decide.mpr ()
 .exact decide_eq_decide.mpr ()
def Gg(n k:Int):Bool:=decide[k<=n]&&decide[n<=4095]
def Aqq(n k:Int):Pu P Fj[[.int n,.int k]] .bl[Gg n k]:=Bt rfl Bo[Bc[Dz[Ac[Ab Af[rfl] Ad][Eu n]][Sh Af[rfl] Af[rfl] Sg Ak Sg]]]
def Ajn(z:t6)(a b:Int)(hz:z.length<=big):Pu P Lw[[.str z,.int a,.int b]] .bl[M2.Cj z&&(decide[a<=z.length]&&decide[(z.length:Int)<=b])]:=Bt rfl Bo[Bc[Aaa[Ac[Ab Af[rfl] Ad][Aer z hz]][Sh Af[rfl] Ac[Ab Af[rfl] Ad][len_str hz] Sg Af[rfl] Sg]]]
def Aon(ws:lg W)(n:Int):Pu P Ii[[.tup ws,.int n]] .bl[(ws.length:Int)==n]:=Bt rfl Bo[Bc[Dz[Ac Ab[Af rfl][Ab Ak Ad] Aes][Ao Ac[Ab Af[rfl] Ad][Gr] Af[rfl] Qn]]]
def Bu{i:Int}(h:atI a i=sr w):Pu P (ixW .tup[a] .int[i]) w:=by
 show Pu P Aho[_] w;exact h ▸ Pu.pure
def Q3(z:t6)(a:lg W):Pu P Vs[[.tup (.str z::a)]] .str[z]:=by
 let e:atI (W.str z::a) 0=sr W.str[z]:=by
  unfold atI ixN;simp
 apply Bt rfl;apply Bo;apply Wa
 .apply Ash
  .exact Ag[Ac Ab[Af rfl][Ab Ak Ad] Aes]
  apply Ash
  .exact Ag[Ao Ac[Ab Af[rfl] Ad][Gr] Ak Rc]
  .exact Ag[Ac Ab[Di Af[rfl] Ak Bu[e]][Ab Ak Ad] Aa1]
 .simp
 .exact Bo Bc[Di Af[rfl] Ak Bu[e]]
end
inductive Cl where
 |inn (t:t6)
 |out (n p:Int)
def Cl.w:Cl->W
 |.inn t=>.tup [.str "in",.str t]
 |.out n p=>.tup [.str "out",.int n,.int p]
def Cl.ok:Cl->Bool
 |.inn t=>M2.Cj t&&decide (t.length<=63)
 |.out n p=>decide[1<=n]&&decide[n<=400]&&Gg p 1
inductive Pg where
 |head (a b c d:Int)
 |leaf (rs:List (t6×Cl))
 |fork (ks:List t6) (ps:List Int)
 |rest (t:t6) (n:Int)
 |free (n:Int)
def Ab4(r:t6×Cl):W:=.tup [.str r.1,r.2.w]
def Pg.w:Pg->W
 |.head a b c d=>.tup [.str "head",.int a,.int b,.int c,.int d]
 |.leaf rs=>.tup [.str "leaf",.tup rs.map[Ab4]]
 |.fork ks ps=>.tup [.str "fork",.tup ks.map[W.str],.tup ps.map[W.int]]
 |.rest t n=>.tup [.str "rest",.str t,.int n]
 |.free n=>.tup [.str "free",.int n]
section
def Cl.sm:Cl->Prop
 |.inn t=>t.length<=400
 |.out _ _=>True
def Bku(c:Cl)(h:c.sm):Pu P Vt[[c.w]] .bl[c.ok]:=by
 cases c with
 |inn t=>
  apply Bt rfl;refine Dm Dt[Ac[Ab Af[rfl] Ad][Q3 _ _]] Bo[Wa Ag[Ao[Af[rfl]][Ak][Dn () ()]] () Bo[Bc[?_]]]
  refine Pu.cast Dz[Ao Ac[Ab Af[rfl] Ad][Gr] Ak Qn][Ac[Ab[Di Af[rfl] Ak Bu[rfl]][Ab[Ak][Ab Ak Ad]]][Ajn t 0 63 (aF h ())]] ?_
  unfold Cl.ok;rw[dj (by omega:(0:Int)<=t.length),pR,decide_eq_decide.mpr (by omega:((t.length:Int)<=63 ↔ t.length<=63))]
 |out n p=>
  apply Bt rfl;refine Dm Dt[Ac[Ab Af[rfl] Ad][Q3 _ _]] Dm[Fx Ag[Ao[Af[rfl]][Ak][Dn () ()]] () Ax][Bo[Wa Ag[Ao[Af[rfl]][Ak][Dn () ()]] () Bo[Bc[?_]]]]
  exact Dz (Ao Ac[Ab Af[rfl] Ad][Gr] Ak Qn) Dz[Ac Ab[Di Af[rfl] Ak Bu[rfl]][Ad] Eu[n]][Aaa[Sh Ak (Di Af[rfl] Ak Bu[rfl]) Sg Ak Sg][Ac[Ab[Di Af[rfl] Ak Bu[rfl]][Ab Ak Ad]][Aqq p 1]]]
end
def Qg(ks:lg t6):Bool:=(ks.zip ks.drop[1]).all λp=>J6 p.1 p.2
def Bn7(a:lg W):Rw a sr[1] sy=a.drop 1:=by
 unfold Rw;cases a with
 |nil=>rfl
 |cons w a=>
  show (a.drop 0).take ((w::a).length - 1)=a.drop 0;simp
def zip_get(d c:lg t6)(j:Nat):(d.zip c)[j]?.map (λp=>W.tup [.str p.1,.str p.2])=match (d.map W.str)[j]?,(c.map W.str)[j]? with|some a,sr b=>sr .tup[[a,b]]|_,_=>sy:=by
 rw[bJ,bJ,aEk,uI];cases d[j]? <;> cases c[j]? <;> rfl
section
def Aqr{a:Type}(f:a->Bool)(l:lg a):(l.map f).all id=l.all f:=by simp
def Bn8{n:Nat}(g:∀S,P.p S->AtL n a.map[W.str] S)(q:a.length<=big)(r:∀k∈a,k.length<=big):Pu P El[[.ref n]] .bl[a.all isKey&&Qg a]:=by
 let h:=Bem (P:=P) (xs:=a) (φ:=W.str) (ψ:=λk=>W.bl isKey[k]) (τ:=λb=>t8) (s:=Ex 0) (t:=λb=>pure t8) (e:=Dw Ti yA[Aa[0]]) (k:=1) (cap:=[]) (δ:=Df 1 [.ref n]) (src:=Iu Aa[0]) (n:=n) g
  (λS f=>([],by
   have:=g S f;unfold AtL at this;show (match S[n]? with|some (.lst _)=>R.ok Src.liv[n] S|_=>.bad)=_
   rw[this,bU])) Bel (λk d=>(Pu.pure,λb=>Ac (Ab Af[rfl] Ad) Az7[k][r k d])) (sy,rfl) q
 rw[jZ.mpr[λb b=>rfl]] at h;let c:=Cq (Ag (Sq (bs:=a.map isKey) (dU ▸ h)));rw[Aqr] at c;apply Bt (ws:=[.ref n]) rfl;cases l:a.all isKey with
 |false=>exact Bo (Wa c (by rw[l];rfl) Bo[Bc[Ak]])
 |true=>
 rw[pR];apply Dm
 .exact Fx c (by rw[l];rfl) Ax
 .apply Bo;apply Bc;refine Pu.cast (Sq (bs:=(a.zip a.drop[1]).map λp=>J6 p.1 p.2) ?_) ?_
  .let h:=Ben (P:=P) (xs:=a.zip a.drop[1]) (φ:=λp=>W.tup [.str p.1,.str p.2]) (ψ:=λp=>W.bl[J6 p.1 p.2]) (τ:=λb=>t8) (s:=Ahp [0,1]) (t:=λb=>pure t8) (e:=Ea .Lt Aa[0] Aa[1]) (k:=2) (cap:=[]) (δ:=Df 1 [.ref n]) (src:=Auu yB[Aa 0][slF Aa[0] Dj[kI[1]] Cv]) (us:=a.map W.str) (vs:=(a.drop 1).map W.str)
    (λS f=>by
     let i:=g S f;let o:=i;unfold AtL at o;refine([.lst[(a.drop 1).map W.str]],n,S.length,?_,i.app _,?_)
     .let w:slF Aa[0] Dj[kI[1]] Cv (Df 1 [.ref n]) S=.ok[.ref S.length][S ++ [.lst[(a.drop 1).map W.str]]]:=by
       show (match S[n]? with|some (.lst ws)=>Dd (Rw ws sr[1] sy) S|_=>.bad)=_
       rw[o];dsimp only;unfold Dd;rw[Bn7,<-sO,di (by rw[aK,dX];omega)]
      let v:(yB[Aa 0][slF Aa[0] Dj[kI[1]] Cv]) (Df 1 [.ref n]) S=.ok [.ref n,.ref S.length] (S ++ [.lst[(a.drop 1).map W.str]]):=by
       let u:yA[slF Aa[0] Dj[kI[1]] Cv][Df 1 [.ref n]][S]=.ok [.ref S.length] (S ++ [.lst[(a.drop 1).map W.str]]):=by
        unfold yA Eo;rw[Dc,w];rfl
       unfold yB Eo;rw[Dc,show Aa 0 (Df 1 [.ref n]) S=.ok .ref[n] S from rfl];dsimp only;rw[Dc,u];rfl
      unfold Auu;rw[Dc,v];show Bdw [.ref n,.ref S.length] _=_;let m:=i.app [.lst[(a.drop 1).map W.str]];unfold AtL at m;unfold Bdw;dsimp only;rw[m,bA aM[_],gB];rfl
     .unfold AtL;rw[bA aM[_],gB];rfl) (λj=>zip_get _ _ j) () Ap6 (λp b=>(Pu.pure,λb=>Ao Af[rfl] Af[rfl] Ay9)) (sy,sy,rfl) (by rw[zR];omega)
   rw[jZ.mpr[λb b=>rfl]] at h
   rwa [dU]
  .unfold Qg;rw[aCh];rfl
end
section
def Vg{l h:De->M o9[Int]}{lo hi:o9 Int}(h1:Pu P f[δ] x)(h2:Pu P l[δ] lo)(h3:Pu P h[δ] hi)(h4:Pu P (slW x lo hi) w):Pu P (slF f l h δ) w:=h1.bind h2.bind[h3.bind[h4]]
def Fp{i:Int}(h:Pu P f[δ] .int[i]):Pu P (Dj f δ) sr[i]:=h.bind Pu.pure
def Gh:Pu P Cv[δ] sy:=Pu.pure
def Bn9(i:a.length<=big)(j:∀k∈a,k.length<=big):Pu P El[[.tup a.map[W.str]]] .bl[a.all isKey&&Qg a]:=by
 let h:=Gv (P:=P) (xs:=a) (φ:=W.str) (ψ:=λk=>W.bl isKey[k]) (t:=λb=>pure t8) (e:=Dw Ti yA[Aa[0]]) (cs:=[]) (cap:=[]) (δ:=Df 1 [.tup a.map[W.str]]) (src:=Iu Aa[0]) Lq[Af[rfl]] rfl i (λk f=>(Pu.pure,Ac (Ab Af[rfl] Ad) Az7[k][j k f]));let d:=Cq (Ag (Sq (bs:=a.map isKey) (by rw[dU];exact h)))
 rw[Aqr] at d;apply Bt (ws:=[.tup a.map[W.str]]) rfl;cases g:a.all isKey with
 |false=>exact Bo (Wa d (by rw[g];rfl) Bo[Bc[Ak]])
 |true=>
 rw[pR];apply Dm
 .exact Fx d (by rw[g];rfl) Ax
 .apply Bo;apply Bc;refine Pu.cast (Sq (bs:=(a.zip a.drop[1]).map λp=>J6 p.1 p.2) ?_) ?_
  .let l:Aut[a.map W.str][(a.map W.str).drop 1]=(a.zip a.drop[1]).map λp=>W.tup [.str p.1,.str p.2]:=by
    unfold Aut aEk;rw[<-sO,List.map_zipWith,List.zipWith_map]
   let h:=Asl (P:=P) (xs:=a.zip a.drop[1]) (φ:=λp=>W.tup [.str p.1,.str p.2]) (ψ:=λp=>W.bl[J6 p.1 p.2]) (τ:=λb=>t8) (s:=Ahp [0,1]) (t:=λb=>pure t8) (e:=Ea .Lt Aa[0] Aa[1]) (k:=2) (cap:=[]) (δ:=Df 1 [.tup a.map[W.str]]) (src:=Auu yB[Aa 0][slF Aa[0] Dj[kI[1]] Cv])
    (by
     rw[<-l,<-Bn7];exact Pu.bind (Ab Af[rfl] Ab[Vg Af[rfl] Fp[Ak] Gh Pu.pure][Ad]) Pu.pure) Ap6 (λp b=>(Pu.pure,λb=>Ao Af[rfl] Af[rfl] Ay9)) (sy,sy,rfl) (by rw[zR];omega)
   rw[jZ.mpr[λb b=>rfl]] at h;rw[dU];exact h
  .unfold Qg;rw[aCh];rfl
end
section
def keysAt(b:a.length<=big)(c:∀k∈a,k.length<=big)(n:Nat)(S:Store)(h:S[n]?=sr .lst[a.map[W.str]]):∃G,El [.ref n] S=.ok .bl[a.all isKey&&Qg a] (S ++ G):=(
 Bn8 (P:=SP.any.at n _) (λe h=>h.2) b c S (trivial,h))
def Aoo(rs:lg[t6×Cl]):Bool:=rs.all (·.2.ok)&&((rs.map (·.1)).all isKey&&Qg (rs.map (·.1)))
def Bkv(i:rs.length<=63)(f:∀r∈rs,r.1.length<=400/\r.2.sm):Pu P Xb[[.tup rs.map[Ab4]]] .bl[Aoo[rs]]:=by
 let g:rs.length<=big:=aF i ()
 let h:=Gv (P:=P) (xs:=rs) (φ:=Ab4) (ψ:=λr=>W.bl r.2.ok) (t:=λd=>pure t8) (e:=Jj (zB Ii Aa[0] kI[2]) zA[Vt][ixF Aa[0] kI[1]]) (cs:=[]) (cap:=[]) (δ:=Df 1 [.tup rs.map[Ab4]]) (src:=Iu Aa[0]) Lq[Af[rfl]] rfl g
  (λr a=>(Pu.pure,Dz Ac[Ab[Af rfl][Ab Ak Ad]][Aon [.str r.1,r.2.w] 2] Ac[Ab[Di Af[rfl] Ak Bu[rfl]][Ad]][Bku r.2 (f r a).2]))
 let c:=Cq (Ag (Sq (bs:=rs.map (·.2.ok)) (by rwa [dU])))
 rw[Aqr] at c;apply Bt rfl;apply Dm
 .refine Fx (Fb Cq[Ag[Ac Ab[Af rfl][Ab Ak Ad] Aes]] Ag[Ao Ac[Ab Af[rfl] Ad][Gr] Ak Rc]) ?_ Ax;simp;omega
 unfold Aoo;cases b:rs.all (·.2.ok) with
 |false=>exact Bo (Wa c (by rw[b];rfl) Bo[Bc[Ak]])
 |true=>
 rw[pR];refine Dm[Fx c (by rw[b];rfl) Ax][Bo Bc[Akz[?_][keysAt[by simp_all] λk j=>?_]]]
 .let h:=Gv (P:=P) (xs:=rs) (φ:=Ab4) (ψ:=λr=>W.str r.1) (t:=λd=>pure t8) (e:=ixF Aa[0] kI[0]) (cs:=[]) (cap:=[]) (δ:=Df 1 [.tup rs.map[Ab4]]) (src:=Iu Aa[0]) Lq[Af[rfl]] rfl g (λr d=>(Pu.pure,Di Af[rfl] Ak Bu[rfl]))
  rwa [dU]
 .let(r,a,rfl):=fC.mp j;exact aF (f r a).1 ()
def Be7(b:a.length<=63)(c:∀k∈a,k.length<=400):Pu P Xc[[.tup a.map[W.str]]] .bl[a.all isKey&&Qg a]:=(Bt rfl Bo[Bc[Dz[Ac Ab[Af rfl][Ab Ak Ad] Aes][Dz[(Ao Ac[Ab Af[rfl] Ad][Gr] Ak Sg).cast (by grind)][Ac[Ab Af[rfl] Ad][Bn9[aF b ()] λk h=>aF (c k h) ()]]]]])
def Bkw{ps:lg Int}{m:Int}(e:(ps.length:Int)=m)(c:ps.length<=big):Pu P Xd[[.tup ps.map[W.int],.int m]] .bl[ps.all λp=>Gg p 1]:=by
 apply Bt rfl;exact Bo (Bc (Dz ((Ac Ab[Af rfl][Ab Af[rfl] Ad] (Aon ps.map[W.int] m)).cast (by simp_all)) (Pu.cast (Sq (by exact dU ▸ (Gv (P:=P) (cs:=[]) Lq[Af[rfl]] rfl c
  (λp d=>(Pu.pure,Ac Ab[Af rfl][Ab Ak Ad] (Aqq p 1)))))) ())))
end
def Pg.word:Pg->t6
 |.head ..=>"head"
 |.leaf ..=>"leaf"
 |.fork ..=>"fork"
 |.rest ..=>"rest"
 |.free ..=>"free"
def Pg.okB:Pg->Bool
 |.head a b c d=>[a,b,c,d].all λn=>Gg n 0
 |.leaf rs=>Aoo rs
 |.fork ks ps=>(ks.all isKey&&Qg ks)&&ps.all λp=>Gg p 1
 |.rest t n=>(M2.Cj t&&(decide[1<=t.length]&&decide[t.length<=400]))&&Gg n 0
 |.free n=>Gg n 0
def Pg.sm:Pg->Prop
 |.head ..=>True
 |.leaf rs=>rs.length<=63/\∀r∈rs,r.1.length<=400/\r.2.sm
 |.fork ks ps=>ks.length<=63/\(∀k∈ks,k.length<=400)/\ps.length=ks.length+1
 |.rest t _=>t.length<=400
 |.free _=>True
def Bkx(rs:lg[t6×Cl]):Prop:=rs.length<=63/\(∀r∈rs,isKey r.1=t8/\r.2.ok=t8)/\Qg (rs.map (·.1))=t8
def Pg.ok:Pg->Prop
 |.head a b c d=>Gg a 0=t8/\Gg b 0=t8/\Gg c 0=t8/\Gg d 0=t8
 |.leaf rs=>Bkx rs
 |.fork ks ps=>(ks.length<=63/\(∀k∈ks,isKey k=t8)/\Qg ks=t8)/\ps.length=ks.length+1/\∀p∈ps,Gg p 1=t8
 |.rest t n=>M2.Cj t=t8/\1<=t.length/\t.length<=400/\Gg n 0=t8
 |.free n=>Gg n 0=t8
def Ag6(h:isKey k=t8):k.length<=400:=by
 unfold isKey at h;simp[dh] at h;exact aF h.2.2 ()
def Be8(h:isKey k=t8):k.length<=big:=(aF Ag6[h] ())
def Bhd{p:Pg}(h:p.ok):p.sm/\p.okB=t8:=by
 cases p with
 |head=>let(d,a,b,f):=h;exact(trivial,by simp[Pg.okB,d,a,b,f])
 |leaf rs=>
  let(d,a,b):=h;refine((d,λr c=>(Ag6 (a r c).1,?_)),?_)
  .have:=(a r c).2;cases e:r.2 with
   |out=>trivial
   |inn t=>
    rw[e] at this;unfold Cl.ok at this;simp only[aL,dh] at this;exact aF this.2 ()
  .show Aoo rs=t8;unfold Aoo;rw[b,bB.mpr λr c=>(a r c).2,bB.mpr λk g=>by let(r,c,rfl):=fC.mp g;exact(a r c).1]
   rfl
 |fork i ps=>
  let((d,a,b),f,j):=h;refine((d,λk g=>Ag6[a k g],f),?_);show ((i.all isKey&&Qg i)&&_)=t8;rw[bB.mpr a,b,bB.mpr j];rfl
 |rest t n=>
  let(d,a,b,f):=h;refine(b,?_);show (_&&Gg n 0)=t8;simp_all
 |free n=>exact(trivial,h)
section
def Bky(n:Int):Pu P ((λws=>Fj[ws ++ [.int 0]]) [.int n]) .bl[Gg n 0]:=Aqq n 0
def Bkz{p:Pg}(h:p.sm):Pu P Ma[[p.w]] .bl[p.okB]:=by
 cases p with
 |head a b c d=>
  apply Bt (ws:=[Pg.w[.head a b c d]]) rfl;refine Dm Dt[Ac[Ab Af[rfl] Ad][Q3 _ _]] Bo[Wa[Ag Ao[Af[rfl]][Ak][Dn () ()]][rfl][Bo Bc[Dz[(Ao Ac[Ab Af[rfl] Ad][Gr] Ak Qn).cast rfl][?_]]]]
  let h:=Gv (P:=P) (xs:=[a,b,c,d]) (φ:=W.int) (ψ:=λn=>W.bl[Gg n 0]) (t:=λi=>pure t8) (e:=Dw[λws=>Fj[ws ++ [(.int 0)]]][yA Aa[0]]) (cs:=[]) (cap:=[]) (δ:=(Df 2 [Pg.w[.head a b c d]]).set 1 sr[.str["head"]]) (src:=Iu[slF Aa[0] Dj[kI[1]] Cv]) Lq[Vg Af[rfl] Fp[Ak] Gh Pu.pure] rfl (show 4<=big by decide)
   (λn i=>(Pu.pure,Ac[Ab Af[rfl] Ad][Bky n]))
  exact Pu.cast (Sq (bs:=[a,b,c,d].map λn=>Gg n 0) (dU ▸ h)) (rfl)
 |leaf rs=>
  apply Bt (ws:=[Pg.w .leaf[rs]]) rfl;refine Dm[Dt Ac[Ab Af[rfl] Ad][Q3 _ _]][Dm Fx[Ag[Ao[Af[rfl]][Ak][Dn () ()]]][rfl][Ax] Bo[Wa[Ag Ao[Af[rfl]][Ak][Dn () ()]][rfl][Bo Bc[Dz[(Ao Ac[Ab Af[rfl] Ad][Gr] Ak Qn).cast rfl][?_]]]]]
  exact Ac Ab[Di Af[rfl] Ak Bu[rfl]][Ad] (Bkv h.1 h.2)
 |fork j ps=>
  apply Bt (ws:=[Pg.w[.fork j ps]]) rfl;refine Dm Dt[Ac[Ab Af[rfl] Ad][Q3 _ _]] Dm[Fx Ag[Ao[Af[rfl]][Ak][Dn () ()]] (rfl) Ax][Dm Fx[Ag[Ao[Af[rfl]][Ak][Dn () ()]]][rfl][Ax] Bo[Wa[Ag Ao[Af[rfl]][Ak][Dn () ()]][rfl][Bo Bc[Dz[(Ao Ac[Ab Af[rfl] Ad][Gr] Ak Qn).cast rfl][?_]]]]]
  let(g,l,k):=h;exact Aaa Ac[Ab[Di Af[rfl] Ak Bu[rfl]][Ad]][Be7 g l] (Ac Ab[Di Af[rfl] Ak Bu[rfl]][Ab Cp[Ac Ab[Di Af[rfl] Ak Bu[rfl]][Ad] Gr][Ak][M6] Ad] Bkw[by simp_all][k ▸ aF lC[g] ()])
 |rest t n=>
  apply Bt (ws:=[Pg.w[.rest t n]]) rfl;refine Dm[Dt Ac[Ab Af[rfl] Ad][Q3 _ _]][Dm Fx[Ag[Ao[Af[rfl]][Ak][Dn () ()]]][rfl][Ax] Dm[Fx Ag[Ao[Af[rfl]][Ak][Dn () ()]] (rfl) Ax][Dm Fx[Ag[Ao[Af[rfl]][Ak][Dn () ()]]][rfl][Ax] Bo[Wa[Ag Ao[Af[rfl]][Ak][Dn () ()]][rfl][Bo Bc[Dz[(Ao Ac[Ab Af[rfl] Ad][Gr] Ak Qn).cast rfl][?_]]]]]]
  refine Aaa[(Ac Ab[Di Af[rfl] Ak Bu[rfl]][Ab[Ak][Ab Ak Ad]] (Ajn t 1 400 (aF h ()))).cast ?_][Ac Ab[Di Af[rfl] Ak Bu[rfl]][Ad] Bky[n]]
  rw[decide_eq_decide.mpr (by omega:((1:Int)<=t.length ↔ 1<=t.length)),decide_eq_decide.mpr (by omega:((t.length:Int)<=400 ↔ t.length<=400))]
 |free n=>
  apply Bt (ws:=[Pg.w .free[n]]) rfl;refine Dm Dt[Ac[Ab Af[rfl] Ad][Q3 _ _]] Dm[Fx Ag[Ao[Af[rfl]][Ak][Dn () ()]] (rfl) Ax][Dm Fx[Ag[Ao[Af[rfl]][Ak][Dn () ()]]][rfl][Ax] Dm[Fx Ag[Ao[Af[rfl]][Ak][Dn () ()]] (rfl) Ax][Dm Fx[Ag[Ao[Af[rfl]][Ak][Dn () ()]]][rfl][Ax] Bo[Wa[Ag Ao[Af[rfl]][Ak][Dn () ()]][rfl][Bo Bc[Dz[(Ao Ac[Ab Af[rfl] Ad][Gr] Ak Qn).cast rfl][?_]]]]]]
  exact Ac Ab[Di Af[rfl] Ak Bu[rfl]][Ad] Bky[n]
end
abbrev jn(ys:lg t6):t6:=aAr "" ys
def Le(ps:lg Int):t6:=jn ps.map[M1.Ej[2]]
def Rq(k:t6):t6:=M1.Ej 1 k.length ++ k
def Cl.t:Cl->t6
 |.inn t=>"i" ++ M1.Ej 1 t.length ++ t
 |.out n p=>"o" ++ Le [n,p]
def Aa2(r:t6×Cl):t6:=Rq r.1 ++ r.2.t
def Pg.body:Pg->t6
 |.head a b c d=>Le [a,b,c,d]
 |.leaf rs=>M1.Ej 1 rs.length ++ jn rs.map[Aa2]
 |.fork ks ps=>M1.Ej 1 ks.length ++ jn ks.map[Rq] ++ Le ps
 |.rest t n=>Le [n] ++ t
 |.free n=>Le [n]
def len_app(x y:t6):(x ++ y).length=x.length+y.length:=by
 show (x.cps ++ y.cps).size=_;rw[xU];rfl
def Dp(k:Nat)(n:Int):(M1.Ej k n).length=k:=M1.Au6 k n
def Az8{a:lg t6}{c:Nat}(h:∀y∈a,y.length<=c):(a.map (·.length)).sum<=a.length * c:=by
 induction a with
 |nil=>simp
 |cons y a e=>
  let j:=h y bF;let i:=e λz f=>h z (bC _ f);rw[cB,sS,dZ,Nat.succ_mul];omega
def Aqs:jn []=⟨#[]⟩:=rfl
def Hj(x:t6):x ++ (⟨#[]⟩:t6)=x:=rfl
def Nu(y:t6)(a:lg t6):jn (y::a)=y ++ jn a:=by
 let e:∀l,jn l=_:=λl=>StrLaws.glued_eq_join "" l;rw[e,e];cases a with
 |nil=>rfl
 |cons z d=>
  rfl
theorem Ab5:∀a:lg t6,(jn a).length=(a.map (·.length)).sum
 |[]=>rfl
 |y::a=>by rw[Nu,len_app,Ab5 a,cB,sS]
section
def Aet{b:De}{f:De->M W}{a:lg t6}{c:Nat}(h:PuL P f[b] a.map[W.str])(e:∀y∈a,y.length<=c)(j:a.length * c<=big):Pu P (Lp .str R6 kS[""] yA[f] b) .str[jn[a]]:=(
 Bek h (by
  have:=Az8 e;show _+a.length * 0<=big;omega))
def Aa3{ps:lg Int}(hp:∀p∈ps,0<=p/\p < 4096)(b:ps.length<=1000):Pu P Ge[[.tup ps.map[W.int]]] .str[Le[ps]]:=by
 apply Bt rfl;apply Bo;apply Bc;refine Aet ?_ (λy d=>?_) (by rw[aK];exact aF (mR 2 b) ())
 .rw[dU];exact Gv (cs:=[]) Lq[Af[rfl]] rfl (aF b ())
   (λp a=>(Pu.pure,Ac Ab[Af rfl][Ab Ak Ad] (Als (hp p a).1 (hp p a).2)))
 .let(p,_,rfl):=fC.mp d;exact oM[Dp 2 p]
def Gx{n k:Int}(h:Gg n k=t8)(b:0<=k):0<=n/\n < 4096:=by
 unfold Gg at h;simp[dh] at h;omega
def Be9{n:Nat}(h:n<=63):Pu P Hg[[.int (n:Int),.int 1]] .str[M1.Ej 1 n]:=(Be5 () ())
def Asu(h:isKey k=t8):Pu P Mp[[.str k]] .str[Rq[k]]:=by
 let a:=Be8 h;unfold isKey at h;simp[dh] at h;exact Bt rfl Bo[Bc[Cp Ac[Ab[Ac[Ab Af[rfl] Ad][len_str a]][Ab Ak Ad]][Be9 ()] Af[rfl] Fz[aF (iZ h.2.2 1) ()]]]
def Az9{c:Cl}(h:c.ok=t8):Pu P Tf[[c.w]] .str[c.t]:=by
 cases c with
 |inn t=>
  unfold Cl.ok at h;rw[aL,dh] at h;let b:t.length<=big:=aF h.2 ()
  apply Bt (ws:=[Cl.w .inn[t]]) rfl;apply Bo;apply Wa
  .exact Ag Ao[Di Af[rfl] Ak Bu[rfl]][Ak][Dn () ()]
  .decide +kernel
  .apply Bo;apply Bc;exact Cp Cp[Ak][Ac Ab[Ac Ab[Di Af[rfl] Ak Bu[rfl]][Ad] len_str[b]][Ab Ak Ad] Be9[h.2]][Fz (by rw[Dp];decide)] (Di Af[rfl] Ak Bu[rfl]) (Fz (by
    rw[len_app,Dp];exact aF (iZ h.2 _) ()))
 |out n p=>
  unfold Cl.ok at h;rw[aL,aL,dh,dh] at h;apply Bt (ws:=[Cl.w[.out n p]]) rfl;apply Dm
  .exact Fx Ag[Ao[Di Af[rfl] Ak Bu[rfl]][Ak][Dn () ()]] (rfl) Ax
  .apply Bo;apply Bc;exact Cp Ak (Ac Ab[Vg Af[rfl] Fp[Ak] Gh Pu.pure][Ad] (Aa3 (ps:=[n,p]) (λq a=>by
    simp only[bH,cZ,or_false] at a;rcases a with rfl|rfl
    .omega
    .exact Gx h.2 ()) (show 2<=1000 by decide))) (Fz (by
     unfold Le;rw[Ab5];show 1+((M1.Ej 2 n).length+((M1.Ej 2 p).length+0))<=big;rw[Dp,Dp];decide))
end
section
def Aa4(h:isKey k=t8):(Rq k).length<=13:=by
 unfold isKey at h;simp[dh] at h;unfold Rq;rw[len_app,Dp];omega
def Ajo{c:Cl}(h:c.ok=t8):c.t.length<=65:=by
 cases c with
 |inn t=>
  unfold Cl.ok at h;rw[aL,dh] at h;unfold Cl.t;rw[len_app,len_app,Dp];show 1+1+t.length<=65;omega
 |out n p=>
  unfold Cl.t Le;rw[len_app,Ab5];show 1+((M1.Ej 2 n).length+((M1.Ej 2 p).length+0))<=65;rw[Dp,Dp];decide
def Aop(b:isKey r.1=t8)(a:r.2.ok=t8):(Aa2 r).length<=78:=by
 unfold Aa2;rw[len_app];have:=Aa4 b;have:=Ajo a;omega
def Bfa{r:t6×Cl}(b:isKey r.1=t8)(a:r.2.ok=t8):Pu P Qo[[Ab4 r]] .str[Aa2[r]]:=(Bt rfl (Bo (Bc (Cp (Ac Ab[Di Af[rfl] Ak Bu[rfl]][Ad] Asu[b]) (Ac Ab[Di Af[rfl] Ak Bu[rfl]][Ad] Az9[a]) (Fz (by
  have:=Aa4 b;have:=Ajo a;exact aF (mU ‹_› ‹_›) ()))))))
def Asv{c n:Nat}(h:∀y∈ys,y.length<=c)(a:ys.length<=n):(jn ys).length<=n * c:=by
 rw[Ab5];exact aF[Az8 h][mR c a]
def Gy(ps:lg Int):(Le ps).length=2 * ps.length:=by
 unfold Le;rw[Ab5,dU];induction ps with
 |nil=>rfl
 |cons p ps b=>
  rw[cB,sS,b,dZ];show (M1.Ej 2 p).length+_=_;rw[Dp];omega
def Asw{p:Pg}(h:p.ok):Pu P M9[[p.w]] .str[p.body]:=by
 cases p with
 |head a b c d=>
  let(i,g,o,v):=h;apply Bt (ws:=[Pg.w[.head a b c d]]) rfl;apply Dm
  .exact Fx Ag[Ao[Di Af[rfl] Ak Bu[rfl]][Ak][Dn () ()]] (rfl) Ax
  apply Dm
  .exact Fx Ag[Ao[Di Af[rfl] Ak Bu[rfl]][Ak][Dn () ()]] (rfl) Ax
  apply Dm
  .exact Fx Ag[Ao[Di Af[rfl] Ak Bu[rfl]][Ak][Dn () ()]] (rfl) Ax
  apply Bo;apply Bc;exact Ac Ab[Vg Af[rfl] Fp[Ak] Gh Pu.pure][Ad] (Aa3 (ps:=[a,b,c,d]) (λq f=>by
   simp only[bH,cZ,or_false] at f;rcases f with rfl|rfl|rfl|rfl <;> exact Gx ‹_› ()) (show 4<=1000 by decide))
 |leaf rs=>
  let(i,g,o):=h;apply Bt (ws:=[Pg.w .leaf[rs]]) rfl;apply Bo;apply Wa
  .exact Ag Ao[Di Af[rfl] Ak Bu[rfl]][Ak][Dn () ()]
  .decide +kernel
  .apply Bo;apply Bc;let m:∀y∈rs.map Aa2,y.length<=78:=λy s=>by
    let(r,l,rfl):=fC.mp s;exact Aop (g r l).1 (g r l).2
   refine Cp (y:=.str jn[rs.map[Aa2]]) (Ac Ab[(Ac Ab[Di Af[rfl] Ak Bu[rfl]][Ad] Gr).cast (by rw[aK])][Ab Ak Ad] Be9[i]) ?_ (Fz (by
    rw[Dp];exact aF (iZ Asv[m][by rwa [aK]] 1) ()))
   refine Aet (c:=78) ?_ m (by rw[aK];exact aF (mR 78 i) ())
   let h:=Gv (P:=P) (xs:=rs) (φ:=Ab4) (ψ:=λr=>W.str Aa2[r]) (t:=λx=>pure t8) (e:=Dw Qo yA[Aa[0]]) (cs:=[]) (cap:=[]) (δ:=Df 2 [Pg.w .leaf[rs]]) (src:=Iu[ixF Aa[0] kI[1]]) Lq[Di Af[rfl] Ak Bu[rfl]] rfl (aF i ())
    (λr l=>(Pu.pure,Ac[Ab Af[rfl] Ad][Bfa (g r l).1 (g r l).2]))
   rwa [dU]
 |fork j ps=>
  let((i,g,o),v,A):=h;let m:∀y∈j.map Rq,y.length<=13:=λy s=>by
   let(k,u,rfl):=fC.mp s;exact Aa4[g k u]
  let z:(jn j.map[Rq]).length<=63 * 13:=Asv m (by simp_all)
  apply Bt (ws:=[Pg.w[.fork j ps]]) rfl;apply Dm
  .exact Fx Ag[Ao[Di Af[rfl] Ak Bu[rfl]][Ak][Dn () ()]] (rfl) Ax
  apply Bo;apply Wa
  .exact Ag Ao[Di Af[rfl] Ak Bu[rfl]][Ak][Dn () ()]
  .decide +kernel
  .refine Dm (Dt (w:=.str jn[j.map[Rq]]) ?_) ?_
   .refine Aet (c:=13) ?_ m (by rw[aK];exact aF (mR 13 i) ())
    let h:=Gv (P:=P) (xs:=j) (φ:=W.str) (ψ:=λk=>W.str Rq[k]) (t:=λx=>pure t8) (e:=Dw Mp yA[Aa[0]]) (cs:=[]) (cap:=[]) (δ:=Df 2 [Pg.w[.fork j ps]]) (src:=Iu[ixF Aa[0] kI[1]]) Lq[Di Af[rfl] Ak Bu[rfl]] rfl (aF i ())
     (λk u=>(Pu.pure,Ac (Ab Af[rfl] Ad) Asu[g k u]))
    rwa [dU]
   .apply Bo;apply Bc;refine Cp Cp[Ac Ab[(Ac Ab[Di Af[rfl] Ak Bu[rfl]][Ad] Gr).cast (by rw[aK])][Ab Ak Ad] Be9[i]][Af rfl][Fz ?_] Ac[Ab[Di Af[rfl] Ak Bu[rfl]][Ad]][Aa3 (λq f=>Gx (A q f) ()) ()] Fz[?_]
    .rw[Dp];exact aF (iZ z 1) ()
    .rw[len_app,Dp,Gy];have:1+(jn j.map[Rq]).length+2 * ps.length<=1+63 * 13+128:=by omega
     exact aF this ()
 |rest t n=>
  let(i,g,o,v):=h;apply Bt (ws:=[Pg.w[.rest t n]]) rfl;apply Dm
  .exact Fx Ag[Ao[Di Af[rfl] Ak Bu[rfl]][Ak][Dn () ()]] (rfl) Ax
  apply Dm
  .exact Fx Ag[Ao[Di Af[rfl] Ak Bu[rfl]][Ak][Dn () ()]] (rfl) Ax
  apply Bo;apply Wa
  .exact Ag Ao[Di Af[rfl] Ak Bu[rfl]][Ak][Dn () ()]
  .decide +kernel
  .apply Bo;apply Bc;exact Cp (Ac Ab[Vg Af[rfl] Fp[Ak] Gh Pu.pure][Ad] (Aa3 (ps:=[n]) (λq f=>by
    rw[aZ] at f;subst f;exact Gx v ()) (show 1<=1000 by decide))) (Di Af[rfl] Ak Bu[rfl]) (Fz (by
     rw[Gy];exact aF (iZ o _) (show 2 * 1+400<=big by decide)))
 |free n=>
  apply Bt (ws:=[Pg.w .free[n]]) rfl;apply Dm
  .exact Fx Ag[Ao[Di Af[rfl] Ak Bu[rfl]][Ak][Dn () ()]] (rfl) Ax
  apply Dm
  .exact Fx Ag[Ao[Di Af[rfl] Ak Bu[rfl]][Ak][Dn () ()]] (rfl) Ax
  apply Dm
  .exact Fx Ag[Ao[Di Af[rfl] Ak Bu[rfl]][Ak][Dn () ()]] (rfl) Ax
  apply Bo;apply Bc;exact Ac Ab[Vg Af[rfl] Fp[Ak] Gh Pu.pure][Ad] (Aa3 (ps:=[n]) (λq f=>by
   rw[aZ] at f;subst f;exact Gx h ()) (show 1<=1000 by decide))
end
section
def Ajp{k:Nat}(h:k<=1000001):small (k:Int)=t8:=by
 unfold small
 grind
def Aoq(d:z.length<=big)(j:M2.Cj z=t8):Pu P Qp[[.str z]] .str[M2.check[z]]:=by
 let f:z.cps.toList.length=z.length:=aX;apply Bt (ws:=[.str z]) rfl;apply Dm
 .exact Fx Cq[Ag[Ac[Ab Af[rfl] Ad][Aer z d]]] (by rw[j];rfl) Ax
 refine Dm (Dt (w:=.int M2.chk[z.cps.toList]) ?_) ?_
 .refine Pu.cast (Bkk (is:=(fD z.length).map λ(i:Nat)=>(((z.cps.getD i 0:Nat):Int) - 31) * ((i:Int)+1)) ?_) ?_
  .let h:=Asl (P:=P) (xs:=fD z.length) (φ:=λ(i:Nat)=>W.tup [.int[(i:Int)+1],.str ⟨#[z.cps.getD i 0]⟩]) (ψ:=λ(i:Nat)=>W.int[(((z.cps.getD i 0:Nat):Int) - 31) * ((i:Int)+1)]) (τ:=λc=>t8) (s:=Ahp [0,1]) (t:=λc=>pure t8) (e:=Bb .mul Bb[.sub][zA Aul Aa[1]][kI[31]] Aa[0]) (k:=2) (cap:=[]) (δ:=Df 2 [.str z]) (src:=Ax5 Aa[0])
    (Pu.bind Af[rfl] Pu.pure) Ap6 (λi hi=>(Pu.pure,λc=>Cp (Cp Ac[Ab Af[rfl] Ad][Be6] Ak Aen) Af[rfl] (Aeo (by
     have:i < z.length:=iR.mp hi;let l:small (((i+1:Nat):Nat):Int)=t8:=Ajp (by unfold big at d;omega)
     rw[fV];exact .inr l)))) (sy,sy,rfl) (cD ▸ d)
   rw[jZ.mpr[λc c=>rfl]] at h
   rwa [dU]
  .congr 1
   unfold M2.chk M2.Bnl;rw[f]
   congr 1
   refine List.map_congr_left λi hi=>?_;rw[show z.cps.toList.getD i 0=z.cps.getD i 0 from by simp]
   rw[show (((z.cps.getD i 0:Nat):Int) - 32+1)=((z.cps.getD i 0:Nat):Int) - 31 by omega]
 .apply Bo;apply Bc;exact Ac Ab[Cp Af[rfl] Ak (Ay7 ())][Ab Ak Ad] (Als () ())
end
def Ig(x y:t6):M2.Cj[x ++ y]=(M2.Cj x&&M2.Cj y):=by
 unfold M2.Cj;show ((x.cps ++ y.cps).toList).all _=_;rw[iY,uF]
def Boa:∀v,v < 64->M2.okC M1.sg[v]=t8:=by decide +kernel
def Aqt(c:Nat):M2.Cj M1.one[c]=M2.okC c:=by
 unfold M2.Cj M1.one;simp
def Xi(k:Nat)(n:Int):M2.Cj[M1.Ej k n]=t8:=by
 induction k with
 |zero=>rfl
 |succ k a=>
  show M2.Cj[_ ++ _]=t8;rw[Ig,a,Aqt,Boa _ ()]
  rfl
theorem Aor:∀{a:lg t6},(∀y∈a,M2.Cj y=t8)->M2.Cj jn[a]=t8
 |[],_=>rfl
 |y::a,h=>by
  rw[Nu,Ig,h y bF,Aor λz c=>h z (bC _ c)];rfl
def Aa5(ps:lg Int):M2.Cj Le[ps]=t8:=(Aor λy b=>by
 let(p,_,rfl):=fC.mp b;exact Xi 2 p)
def Baa(h:isKey k=t8):M2.Cj k=t8:=by
 unfold isKey at h;rw[aL] at h;exact h.1
def Bab(h:isKey k=t8):M2.Cj Rq[k]=t8:=by
 unfold Rq;rw[Ig,Xi,Baa h];rfl
def Bfb{c:Cl}(h:c.ok=t8):M2.Cj c.t=t8:=by
 cases c with
 |inn t=>
  unfold Cl.ok at h;rw[aL] at h;unfold Cl.t;rw[Ig,Ig,Xi,h.1];decide +kernel
 |out n p=>
  unfold Cl.t;rw[Ig,Aa5];decide +kernel
def Bfc{p:Pg}(h:p.ok):M2.Cj p.body=t8:=by
 cases p with
 |head a b c d=>exact Aa5 _
 |leaf rs=>
  unfold Pg.body;rw[Ig,Xi,Aor λy e=>by
   let(r,f,rfl):=fC.mp e;unfold Aa2;rw[Ig,Bab (h.2.1 r f).1,Bfb (h.2.1 r f).2];rfl]
  rfl
 |fork i ps=>
  unfold Pg.body;rw[Ig,Ig,Xi,Aa5,Aor λy e=>by
   let(k,g,rfl):=fC.mp e;exact Bab[h.1.2.1 k g]]
  rfl
 |rest t n=>
  unfold Pg.body;rw[Ig,Aa5,h.1];rfl
 |free n=>exact Aa5 _
def Pg.letter:Pg->t6
 |.head ..=>"h"
 |.leaf ..=>"l"
 |.fork ..=>"f"
 |.rest ..=>"r"
 |.free ..=>"e"
def Pg.start(p:Pg):t6:=p.letter ++ M1.Ej 2 p.body.length ++ p.body
def Pg.unch(p:Pg)(size:Int):t6:=tX p.start (size - 2) 48
def Pg.text(p:Pg)(size:Int):t6:=p.unch size ++ M2.check p.unch[size]
def Mv(p:Pg):p.letter.length=1:=by cases p <;> rfl
def Avm(p:Pg):p.start.length=3+p.body.length:=by
 unfold Pg.start;rw[len_app,len_app,Mv,Dp]
def Asx(p:Pg)(a:Int):∃n,(p.unch a).cps=p.start.cps ++ jO n 48:=by
 unfold Pg.unch tX;split
 .simp
 .refine((a - 2).toNat - p.start.length,?_);show jO 0 48 ++ p.start.cps ++ _=_;simp
section
def Bfd(p:Pg):∃a,p.w=.tup (.str p.word::a):=by cases p <;> exact(_,rfl)
def ix0:atI (w::a) 0=sr w:=by
 unfold atI ixN;simp
def Avn(p:Pg):Pu P (mdW Pn .str[p.word]) .str[p.letter]:=by
 let e:Pn.lookup p.word=sr p.letter:=by
  cases p
  .rfl
  .rfl
  .rfl
  .rfl
  rfl
 unfold mdW;simp[e];exact Pu.pure
def Bob(h1:Pu P g[δ] k)(h2:Pu P (mdW D k) w):Pu P (mdF D g δ) w:=h1.bind h2
def Asy{p:Pg}{a:Int}(c:p.body.length < 4096)(i:64<=a)(h:a<=200):Pu P Hq[[p.w,.str p.body,.int a]] .str[p.unch[a]]:=by
 let(g,d):=Bfd p;rw[d];apply Bt rfl;refine Dm (Dt (w:=.str p.start) ?_) ?_
 .refine Cp[Cp Bob[Di Af[rfl] Ak Bu[ix0]][Avn p] Ac[Ab[Ac[Ab Af[rfl] Ad][len_str[aF gK[c] ()]]][Ab Ak Ad]][Als () ()] Fz[?_]][Af rfl][Fz ?_]
  .rw[Mv,Dp];decide
  .rw[len_app,Mv,Dp];exact aF (iZ gK[c] _) ()
 .apply Bo;apply Bc;refine Aqp Af[rfl] Ab[Cp Af[rfl] Ak Aen][Ab Ak Ad] (Lb ?_ Pu.pure);rw[aL];refine(?_,rfl);let e:∀k:Nat,k<=200->PadOk (k:Int)=t8:=by decide +kernel
  have:=e (a - 2).toNat ()
  rw[kY ()] at this
  exact this
def Avo(p:Pg):M2.Cj p.letter=t8:=by
 cases p
 .rfl
 .rfl
 .rfl
 .rfl
 rfl
def Bac{p:Pg}(h:M2.Cj p.body=t8)(a:Int):M2.Cj p.unch[a]=t8:=by
 let(n,e):=Asx p a;unfold M2.Cj;rw[e,iY,uF];let b:M2.Cj p.start=t8:=by
  unfold Pg.start;rw[Ig,Ig,Xi,h,Avo p];rfl
 unfold M2.Cj at b;rw[b,Array.toList_replicate,pR];rw[bB];intro c d;let(_,rfl):=wJ.mp d;decide
def Aa6{p:Pg}{a:Int}(c:(p.body.length:Int)<=a - 5):(p.unch a).length=(a - 2).toNat:=by
 unfold Pg.unch tX;have:=Avm p;split
 .omega
 .show (_ ++ p.start.cps ++ _).size=_;simp;show p.start.length+_=_;omega
def Aa7(i:Int):Pu P Pq[[.int i]] .bl[decide[64<=i]&&decide[i<=200]]:=Bt rfl Bo[Bc[Dz[Ac[Ab Af[rfl] Ad][Eu i]][Sh Ak Af[rfl] Sg Ak Sg]]]
def Ajq(x:t6):(M2.check x).length=2:=Dp 2 _
end
def cut(z:t6)(i j:Nat):t6:=⟨((z.cps.toList.drop i).take (j - i)).toArray⟩
def Vu{i j:Nat}(d:i<=j)(c:j<=z.length):cO[z][sr (i:Int)][sr (j:Int)]=cut z i j:=by
 rw[eq_of_beq[aAu () () ()]]
 unfold cut;simp
def Ku{j:Nat}(c:j<=z.length):cO z sy (sr (j:Int))=cut z 0 j:=by
 rw[eq_of_beq[yZ () ()]]
 rfl
def Aa8{i j:Nat}(d:i<=j)(c:j<=z.length):(cut z i j).length=j - i:=by
 let b:_=z.length:=aX;show ((z.cps.toList.drop i).take _).toArray.size=_;rw[cC,dW,dX];omega
def Ag7{i j:Nat}(h:M2.Cj z=t8):M2.Cj[cut z i j]=t8:=by
 unfold M2.Cj at h ⊢
 rw[bB] at h ⊢
 exact λc a=>h c pX[mV[a]]
abbrev Vh(ks:lg t6):Prop:=ks.Pairwise λa b=>J6 a b=t8
theorem Ag8:∀{c:lg t6},Vh c->Qg c=t8
 |[],_=>rfl
 |[a],_=>rfl
 |a::b::c,h=>by
  let h:=oE.mp h;let d:=Ag8 h.2;unfold Qg at d ⊢
  show (J6 a b&&((b::c).zip ((b::c).drop 1)).all _)=_;rw[d,h.1 b (bF),Bool.and_self]
def Avp(h:leS a b=t8)(ne:a≠b):J6 a b=t8:=by
 cases c:J6 a b with
 |true=>rfl
 |_=>
  let d:leS b a=t8:=by
   unfold leS;unfold J6 at c;rw[c];rfl
  exact absurd (Afd a b h d) ne
def Ahy(h:ks.Nodup):Vh Ad7[ks]:=((M5 ks).and ((Iz ks).nodup_iff.mpr h)).imp λ⟨a,b⟩=>Avp a b
def Ci(x y z:t6):x ++ y ++ z=x ++ (y ++ z):=by
 show (⟨x.cps ++ y.cps ++ z.cps⟩:t6)=⟨x.cps ++ (y.cps ++ z.cps)⟩;simp
theorem Asz:∀(a:lg t6)(y:t6),jn[a ++ [y]]=jn a ++ y
 |[],y=>by
  show y=⟨#[] ++ y.cps⟩;simp
 |x::a,y=>by rw[sY,Nu,Asz a y,Nu,Ci]
def Aqu(P:SP)(n:Nat)(c:Cell):SP:=(λS=>P.p S/\S[n]?=sr c,λS G h=>(P.st S G h.1,by rw[aW (aJ.mp h.2).1];exact h.2))
def Bae{i:Int}(h:Pu P f[δ] .int[i]):Pu P (Aft f δ) .int[-i]:=h.bind Pu.pure
def Ajy{j:Nat}(a:z.length<=big)(f:j < z.length):Pu P (ixW .str[z] .int[0+(j:Int)]) .str[⟨#[z.cps.toList.getD j 0]⟩]:=by
 let d:z.cps.toList.length=z.length:=aX;let e:atI z.cps.toList (0+j)=sr[z.cps.toList.getD j 0]:=by
  unfold atI ixN;simp_all
 unfold ixW;dsimp only;exact e ▸ Lb a Pu.pure
def As0{p:Pg}(h:p.ok):Pu P Ma[[p.w]] .bl[t8]:=(Bkz (Bhd h).1).cast (congrArg W.bl (Bhd h).2)
def Alu{p:Pg}(h:p.ok)(size:Int):M2.Cj p.unch[size]=t8:=Bac Bfc[h] size
theorem Alv:∀(k:Nat)(n:Int)(c:Nat),c∈(M1.Ej k n).cps.toList->M1.inS c=t8
 |0,_,c,h=>by cases h
 |k+1,n,c,h=>by
  rw[M1.Air] at h;rcases bH.mp h with h|h
  .subst h;exact M1.Azk ()
  .exact Alv k n c h
section
variable{P:SP}
def Aqv{k:Nat}{n:Int}(l:1<=k)(f:k<=3):Pu P Ie[[.str[M1.Ej k n]]] .bl[t8]:=by
 let b:=Dp k n;let a:(M1.Ej k n).length<=big:=by rw[b];exact aF f ()
 apply Bt rfl;refine Dm (Fx Fb[Cq Ag[Ac Ab[Af rfl][Ab Ak Ad] Aa1]][Fb Ag[Ao Ac[Ab Af[rfl] Ad][len_str a] Ak Sd] Ag[Ao Ac[Ab Af[rfl] Ad][len_str a] Ak Rc]] (by
  grind) Ax) ?_
 let h:=Gv (P:=P) (t:=λj=>pure t8) (e:=Ea .In Aa[0] aA0) (cs:=[]) (cap:=[]) (δ:=Df 1 [.str[M1.Ej k n]]) (src:=Iu Aa[0]) (Ak0 a Af[rfl]) rfl (by rw[aX];exact a)
  (λc d=>(Pu.pure,Ao Af[rfl] Ak (Pu.cast Pu.pure congrArg[W.bl][Alv k n c d])))
 refine Bo Bc[(Sq (by rw[dU];exact h)).cast ?_]
 simp
def Bfe{i:Int}(c:0<=i)(b:i < 1000000):Pu P (Bop.fn .shl .int[i] .int[6]) .int[i * 64]:=(Pu.cast Lb[by grind][Pu.pure] rfl)
def Baf{z:t6}{a:Int}{c:Nat}(d:M1.inS c=t8)(g:0<=a)(f:a < 1000000):PuN P aA2
  [sr .str[z],sr .int[a],sr .str[⟨#[c]⟩]] [sr .str[z],sr .int[a * 64+(M1.idx c:Int)],sr .str[⟨#[c]⟩]]:=by
 refine Au1 Dt[Cp Cp[Af[rfl]][Ak][Bfe g f] Aqp[Ak][Ab Af[rfl] Ad][?_] M6] Ax;let(r,e):=M1.Anf d;show Pu P (match dH M1.sgs M1.one[c] 0 M1.sgs.length 1 with|i::_=>_|[]=>bad) _
 rw[e];exact Pu.pure
def Ajr{k:Nat}{n:Int}(e:1<=k)(o:k<=3)(r:0<=n)(u:n < 64 ^ k):Pu P Nm[[.str[M1.Ej k n]]] .int[n]:=by
 let t:=Dp k n;let v:(M1.Ej k n).length<=big:=by rw[t];exact aF o ()
 apply Bt (ws:=[.str[M1.Ej k n]]) rfl;refine Dm[Fx Cq[Ag[Ac[Ab Af[rfl] Ad][Aqv e o]]] rfl Ax][Dm Dt[Ak] ?_];let h:∀(l:lg Nat)(a:Int)(m:Nat)(x:o9 W),(∀c∈l,M1.inS c=t8)->0<=a->a < 64 ^ m->m+l.length<=3->∃y,PuN P Rj[Ex[2]][aA2][l.map λc=>W.str ⟨#[c]⟩]
   [sr .str[M1.Ej k n],sr .int[a],x] [sr .str[M1.Ej k n],sr .int[M1.Azl l a],y]:=by
  intro l;induction l with
  |nil=>exact λa m x g g g g=>(x,Akx)
  |cons c l q=>
   intro a m x j z e s;let hi:=M1.Bkm[j c bF];rw[dZ] at s;let hp:(64:Int) ^ (m+1)=64 ^ m * 64:=xW 64 m;let(y,i):=q (a * 64+(M1.idx c:Int)) (m+1) sr[.str[⟨#[c]⟩]] (λd hd=>j d (bC _ hd)) () (by rw[hp];omega) ()
   let w:a < 1000000:=by
    have:m=0\/m=1\/m=2:=by omega
    rcases this with rfl|rfl|rfl
    .exact xX e ()
    .exact xX e ()
    .exact xX e ()
   exact(y,X8 rfl Baf[j c bF][z][w] i)
 let(y,i):=h (M1.Ej k n).cps.toList 0 0 sy (Alv k n) () () (by rw[aX];show 0+(M1.Ej k n).length<=3;omega)
 refine Dm Aky[Ak0 v Af[rfl]][i] Bo[Bc[Pu.cast Af[rfl] ?_]];rw[M1.Ak4 r u]
end
def rdr(B:t6)(k:Nat):Cell:=.ins 13 [("body",.str B),("place",.int (k:Int))]
def Rx(n:Nat)(m:M W)(x:t6)(w:W):Prop:=∀(B a r:t6)(S:Store),B=a ++ (x ++ r)->B.length<=400->S[n]?=sr[rdr B a.length]->Wm m S λv S'=>v=w/\S'[n]?=sr[rdr B (a ++ x).length]/\Fr [n] S S'
def Ag9(x y:t6):(x ++ y).cps.toList=x.cps.toList ++ y.cps.toList:=by
 show (x.cps ++ y.cps).toList=_;simp
def Aa9(a x r:t6):cut[a ++ (x ++ r)][a.length][a.length+x.length]=x:=by
 unfold cut;rw[Ag9,Ag9,show a.length=a.cps.toList.length from aX.symm,show x.length=x.cps.toList.length from aX.symm,List.drop_left,Nat.add_sub_cancel_left,List.take_left]
theorem Bag:∀xs a:lg t6,jn[xs ++ a]=jn xs ++ jn a
 |[],a=>by
  rw[Aqs];show jn a=⟨_⟩;simp
 |x::xs,a=>by rw[sY,Nu,Nu,Bag xs a,Ci]
section
variable{P:SP}{n k:Nat}{B x:t6}{δ:De}{S:Store}{Q:W->Store->Prop}{w:W}
def Rx.use{m:M W}{a r:t6}(h:Rx n m x w)(i:B=a ++ (x ++ r))(g:B.length<=400)(f:S[n]?=sr[rdr B a.length])(q:∀b,b[n]?=sr[rdr B (a ++ x).length]->Fr [n] S b->Q w b):Wm m S Q:=(
 Be[h B a r S i g f] λv b ⟨e,q1,q2⟩=>by subst e;exact q b q1 q2)
def Aha{j:Nat}(h:δ[j]?=sr sr[w]):Aa j δ S=.ok w S:=by unfold Aa;rw[h];rfl
def Aos{j:Nat}(h:δ[j]?=sr sr[.ref[n]]):Pu[Aqu P n (rdr B k)][Ih fld "place" Aa[j] δ][.int (k:Int)]:=(λS a=>([],by
 unfold Ih;rw[Dc,Aha h];unfold Wf;dsimp only;rw[a.2,bU];rfl))
def Bff{j:Nat}(h:δ[j]?=sr sr[.ref[n]]):Pu[Aqu P n (rdr B k)][Ih fld "body" Aa[j] δ][.str B]:=(λS a=>([],by
 unfold Ih;rw[Dc,Aha h];unfold Wf;dsimp only;rw[a.2,bU];rfl))
def Bah{k':Nat}{h:De->M W}{d:MS}{K:RS->Prop}(g:Pu[Aqu SP.any n (rdr B k)][h δ][.int (k':Int)])(f:δ[0]?=sr sr[.ref[n]])(c:S[n]?=sr[rdr B k])(q:∀b,Fr [n] S b->b[n]?=sr[rdr B k']->Wb d δ b K):Wb Ae[G9 fld "place" Aa[0] h][d] δ S K:=by
 let(G,e):=g S (trivial,c);let a:(S ++ G)[n]?=sr[rdr B k]:=Fr.app.at0 c;refine Hd ⟨?_⟩;refine Hn (u9,_,?_,q _ ?_ Ak2[Ff[a]])
 .rw[Dc,e];dsimp only;rw[Dc,Aha f];unfold Acg;dsimp only;rw[a];rfl
 .exact(Fr.of0 Fr.app).same Fr.set
def Alw{mt:Nat->t6->o9 Fi}{m:t6}{j:Nat}{f:De->M lg[W]}{i:Fi}(l:δ[j]?=sr sr[.ref[n]])(s:S[n]?=sr[rdr B k])(d:∀(B:t6)(k:Int),([(("body":t6),W.str B),("place",.int k)]:lg[t6×W]).lookup m=sy)(o:mt 13 m=sr i)(r:Wm f[δ] S λc h=>c.length+1=i.np/\Wm (i.g (.ref n::c)) h Q):Wm (Bh mt m Aa[j] f δ) S Q:=by
 refine Az[Bq l ?_];refine Az (i,S,?_,?_)
 .unfold X3;dsimp only;rw[s];show (match jQ m [(_,W.str B),("place",_)],mt 13 m with|none,sr i=>_|_,_=>_)=_
  rw[d,o]
 .refine Az[Be r λc h ⟨hl,q⟩=>?_];unfold Ahq;rw[di hl];omega
def Vi{m:Nat}(g:x.length=m):Rx n Jh[[.ref n,.int (m:Int)]] x .str[x]:=(λB a r S c h d=>by
 refine Ck rfl ?_;refine Dq (Acl (Aos (P:=SP.any) rfl) (trivial,d) λs f=>?_);refine Bah (k':=(a ++ x).length) (Pu.cast (Cp Af[rfl] Af[rfl] M6) (by rw[len_app,g];simp)) rfl f.at0[d] λq i b=>?_
 refine Cu (Acl (P:=Aqu SP.any n _) ?_ (trivial,b) λp e=>(rfl,e.at0 b,((f.of0).same i).then0 e));refine Vg Bff[rfl] Fp[Af[rfl]] Fp[Aos[rfl]] ?_;let o:B.length=a.length+(x.length+r.length):=by rw[c,len_app,len_app]
 show Pu _ (if _ then _ else bad) _
 rw[Vu (by rw[len_app];omega) (by rw[len_app];omega),len_app,c,Aa9]
 exact Lb (by rw[<-c];exact aF h ()) Pu.pure)
def Qh{k:Nat}{i:Int}(l:1<=k)(j:k<=3)(hi:0<=i)(g:i < 64 ^ k):Rx n Il[[.ref n,.int (k:Int)]] (M1.Ej k i) .int[i]:=(λB a r S o h d=>by
 refine Ck rfl ?_;exact Cu Fg[Av[Alw rfl d (λf f=>rfl) rfl Av[Bq[rfl][Bg (rfl,(Vi[Dp k i]).use o h d λs b m=>Bg[Cw[Ajr l j hi g] λq e=>(rfl,e.at0 b,m.then0 e)])]]]])
def Alx{l:Type}{xs:lg l}{b:l->t6}{j:l->W}{e:De->M W}(t:xs.length<=100)(y:∀x∈xs,∀d,Rx n e[[sr d,sr .ref[n]]] b[x] j[x]):
  Rx n (Dw Rz yA[compX 1 [0] (V9 Li yA[Aa[1]]) Ex[0] (λH=>pure t8) e] [sr .ref[n],sr[.int (xs.length:Int)]]) jn[xs.map[b]] .tup[xs.map[j]]:=(λB a r S E C A=>by
 let c:xs.length<=big:=aF t ()
 refine Fg Av[?_];refine Azi (P:=SP.any) (Qm (k:=xs.length) (Ab Af[rfl] Ad) c) trivial λL u=>?_;refine Aiq (J:=λi δ acc T=>i<=xs.length/\acc=(xs.take i).map j/\(∃d,δ=[d,sr .ref[n]])/\T[n]?=sr[rdr B (a ++ jn[(xs.take i).map b]).length]/\Fr [n] S T) ?_ ?_ ?_
 .rintro i w δ acc T v ⟨hi,rfl,⟨d,rfl⟩,h,p⟩;let f:i < xs.length:=by
   let z:=(aJ.mp v).1
   rwa [aK,cD] at z
  let s:xs.take[i+1]=xs.take i ++ [(getElem[xs][i][by get_elem_tactic])]:=(sU f).symm;refine([sr w,sr .ref[n]],rfl,Du ?_);rw[di rfl];let q:B=(a ++ jn[(xs.take i).map b]) ++ (b getElem[xs][i][by get_elem_tactic] ++ (jn[(xs.drop[i+1]).map b] ++ r)):=by
   let z:xs.map b=(xs.take i).map b ++ (b getElem[xs][i][by get_elem_tactic]::(xs.drop[i+1]).map b):=by
    rw[<-cB,<-dJ,List.getElem_cons_drop,pD]
   rw[E,z,Bag,Nu,Ci,Ci,Ci]
  refine(y getElem[xs][i][by get_elem_tactic] jB[f] w).use q C h λI m o=>?_;refine(?_,f,?_,(_,rfl),?_,p.same o)
  .rw[aK,dW];exact jG aF[pJ _ _][t] ()
  .rw[s,dJ];rfl
  .rw[s,dJ,cB,tW,Asz,<-Ci];exact m
 .rintro δ acc T ⟨_,rfl,_,h,p⟩;simp only[aK,cD,pL] at h ⊢
  refine(c,?_);refine Bg ?_;refine Au3 Kq (rfl,Fr.app.at0 h,p.then0 Fr.app)
 .exact(dM _,rfl,(sy,rfl),by rw[uW,tW,Aqs,Hj];exact u.at0 A,u.of0))
end
section
variable{P:SP}{n:Nat}{B x x1 x2:t6}{δ:De}{S:Store}{w:W}
def Aly{f:De->M W}{b':MS}{kk nn:Nat}{ws:lg W}(hl:ws.length=kk)(h:Rx n f[Df nn ws] x w):Rx n (Br kk nn (Ae retS[f] b') ws) x w:=λB a r S eB hB hS=>Ck hl Cu[h B a r S eB hB hS]
def Hs{mt:Nat->t6->o9 Fi}{m:t6}{j:Nat}{o:De->M lg[W]}{g:lg W->M W}{np:Nat}{dv e:lg W}(p:δ[j]?=sr sr[.ref[n]])(i:∀(B:t6)(k:Int),([(("body":t6),W.str B),("place",.int k)]:lg[t6×W]).lookup m=sy)(q:mt 13 m=sr (g,np,dv))(t:Pu SP.any o[δ] e)(s:e.length+1=np)(h:Rx n (g (.ref n::e)) x w):Rx n (Bh mt m Aa[j] o δ) x w:=(λB a r S z u l=>
 Alw p l i q (Cw t λE f=>(s,h.use z u f.at0[l] λC v y=>(rfl,v,f.of0.same y))))
def Aba{mt:Nat->t6->o9 Fi}{m:t6}{j:Nat}{f:De->M W}{g:lg W->M W}{np:Nat}{dv:lg W}{u:W}(p:δ[j]?=sr sr[.ref[n]])(e:∀(B:t6)(k:Int),([(("body":t6),W.str B),("place",.int k)]:lg[t6×W]).lookup m=sy)(q:mt 13 m=sr (g,np,dv))(s:2=np)(y:Rx n f[δ] x1 u)(v:Rx n g[[.ref n,u]] x2 w):Rx n (Bh mt m Aa[j] yA[f] δ) (x1 ++ x2) w:=(λB a r S i o l=>by
 refine Alw p l e q Av[?_];rw[Ci] at i;refine y.use i o l λF h A=>?_;refine Bg (s,?_);refine v.use (by rw[i,<-Ci]) o h λE t z=>(rfl,?_,A.same z)
 rw[<-Ci];omega)
def As1{is:lg Int}(h:∀i∈is,0<=i/\i < 4096)(e:is.length<=100):Rx n Hy[[.ref n,.int (is.length:Int)]] Le[is] .tup[is.map[W.int]]:=(
 Aly rfl (Alx e λi hi d=>Hs rfl (λc c=>rfl) rfl (Ab Ak Ad) rfl (Qh () () (h i hi).1 (h i hi).2)))
def Boc{k:t6}(h:isKey k=t8):k.length<=12:=by
 unfold isKey at h;simp_all
def Bai{k:t6}(h:isKey k=t8):Rx n Kf[[.ref n]] Rq[k] .str[k]:=by
 let c:=Boc h;exact Aly rfl (Aba rfl (λa a=>rfl) rfl rfl (Hs rfl (λa a=>rfl) rfl (Ab Ak Ad) rfl (Qh (k:=1) () () () ())) Vi[rfl])
def Bfg{a:lg t6}(h:∀k∈a,isKey k=t8)(e:a.length<=100):Rx n Jx[[.ref n,.int (a.length:Int)]] jn[a.map[Rq]] .tup[a.map[W.str]]:=(
 Aly rfl (Alx e λk f d=>Hs rfl (λc c=>rfl) rfl Ad rfl Bai[h k f]))
def Bfh{c:Cl}(l:c.ok=t8):Rx n J0[[.ref n]] c.t c.w:=(λB a r S d q E=>by
 let h:∀z:t6,z.length=1->Rx n Bh[λc n=>Bd.lookup[u6 c n]]["next_signs"][Aa 0][yA kI[1]][Df 1 [.ref n]] z .str[z]:=λz H=>Hs rfl (λe e=>rfl) rfl (Ab Ak Ad) rfl (Vi (m:=1) H);cases c with
 |inn t=>
  let O:t.length<=63:=by
   unfold Cl.ok at l;rw[aL,dh] at l;exact l.2
  let y:Cl.t .inn[t]=("i":t6) ++ (M1.Ej 1 t.length ++ t):=Ci _ _ _;rw[y] at d ⊢
  rw[Ci] at d;refine Ck rfl ?_;refine N5 (Asm (p:=true) Hz[?_]);refine(h ("i":t6) ()).use d q E λL g v=>?_
  refine G3[Cw Ft.cast[congrArg W.bl ()] λJ o=>(rfl,rfl,?_)]
  refine Cu En[Av[G3[Av[?_]]]];let s:Rx n Bh[λc n=>Bd.lookup[u6 c n]]["next_signs"][Aa[0]][yA[Bh (λc n=>Bd.lookup[u6 c n]) "next_number" Aa[0] yA[kI[1]]]][Df 1 [.ref n]] (M1.Ej 1 t.length ++ t) .str[t]:=
   Aba rfl (λe e=>rfl) rfl rfl (Hs rfl (λe e=>rfl) rfl (Ab Ak Ad) rfl (Qh (k:=1) (i:=(t.length:Int)) () () () ())) Vi[rfl]
  refine s.use (by rw[d,<-Ci]) q o.at0[g] λG f u=>?_
  refine Bg (show 2<=big by decide,rfl,?_,(v.then0 o).same u)
  rw[<-Ci];exact f
 |out i p=>
  let I:∀j∈[i,p],0<=j/\j < 4096:=by
   unfold Cl.ok Gg at l;simp only[aL,dh] at l;intro j C;simp only[bH,cZ,or_false] at C;rcases C with rfl|rfl <;> omega
  let y:Cl.t[.out i p]=("o":t6) ++ Le [i,p]:=rfl;rw[y] at d ⊢
  rw[Ci] at d;refine Ck rfl ?_;refine Ib (Asm (p:=false) Hz[?_]);refine(h ("o":t6) ()).use d q E λL g v=>?_
  refine G3[Cw Ft.cast[congrArg W.bl ()] λJ o=>(rfl,rfl,?_)]
  refine Cu Abw[En[Av[G3[Bg (show 1<=big by decide,?_)]]]]
  let s:Rx n Bh[λc n=>Bd.lookup[u6 c n]]["next_numbers"][Aa 0][yA kI[2]][Df 1 [.ref n]] Le[[i,p]] .tup[[.int i,.int p]]:=by
   let F:=As1 (n:=n) (is:=[i,p]) I pG[rfl];simp only[dZ,pY,aCi,Nat.reduceAdd,cB,tW,Int.cast_ofNat_Int] at F;exact Hs rfl (λe e=>rfl) rfl (Ab Ak Ad) rfl F
  refine s.use (by rw[d,<-Ci]) q o.at0[g] λG f u=>?_
  refine(.tup [.str "out",.int i,.int p],G,rfl,rfl,?_,(v.then0 o).same u);rw[<-Ci];exact f)
def Bk0{z:t6×Cl}(h:isKey z.1=t8)(i:z.2.ok=t8):Rx n Kl[[.ref n]] Aa2[z] Ab4[z]:=(λB a r S b g j=>by
 unfold Aa2 at b ⊢
 rw[Ci] at b;refine Ck rfl ?_;let l:Rx n Bh[λc n=>Dh.lookup[u6 c n]]["next_key"][Aa[0]][nilF][Df 2 [.ref n]] _ _:=Hs rfl (λd d=>rfl) rfl Ad rfl Bai[h];refine Dq[l.use b g j λs f o=>?_];let k:Rx n Bh[λc n=>Dh.lookup[u6 c n]]["next_cell"][Aa[0]][nilF][(Df 2 [.ref n]).set 1 sr[.str[z.1]]] z.2.t z.2.w:=Hs rfl (λd d=>rfl) rfl Ad rfl Bfh[i];refine Cu En[Av[Bq rfl Av[?_]]];refine k.use (by rw[b,<-Ci]) g f λq e m=>?_
 refine Bg (show 2<=big by decide,rfl,?_,o.same m)
 rw[<-Ci];exact e)
def Bfi{rs:lg[t6×Cl]}(h:∀z∈rs,isKey z.1=t8/\z.2.ok=t8)(e:rs.length<=100):Rx n J3[[.ref n,.int (rs.length:Int)]] jn[rs.map[Aa2]] .tup[rs.map[Ab4]]:=(
 Aly rfl (Alx e λz a d=>Hs rfl (λc c=>rfl) rfl Ad rfl (Bk0 (h z a).1 (h z a).2)))
end
def Alz(x:t6):(⟨#[]⟩:t6) ++ x=x:=by
 show ⟨_⟩=x;simp
def Bk1{S a:Store}(h:D.Fr [] S a):∃G,a=S ++ G:=by
 refine(a.drop S.length,?_);apply xR;intro i;by_cases hi:i < S.length
 .rw[aW hi,h.get i hi (λz=>nomatch z)]
 .rw[bA (),List.getElem?_drop,Nat.add_sub_cancel' ()]
theorem Baj{S a:Store}{n:Nat}(h:D.Fr [n] S a)(d:S.length<=n):D.Fr [] S a:=(h.len,λi hi c=>h.get i hi λz=>by
 have:=aZ.mp z;omega)
section
variable{P:SP}{n:Nat}{B x:t6}{δ:De}{S:Store}{w:W}{Q:W->Store->Prop}
def Bak{m:M W}(h:∀S,P.p S->Wm m S λv a=>v=w/\D.Fr [] S a):Pu P m w:=(λS b=>by
 let(v,a,e,rfl,f):=h S b;let(G,rfl):=Bk1 f;exact(G,e))
def As2{f:t6}{c:Nat}{fs:lg[t6×W]}{v:W}{h:De->M W}{b:MS}{K:RS->Prop}(g:h δ S=.ok v S)(e:δ[0]?=sr sr[.ref[n]])(k:S[n]?=sr[.ins c fs])(hok:fld t7 c f=t8)(j:fs.length < 1000)(q:Wb b δ (S.set n .ins[c][Acf f v fs]) K):
  Wb Ae[G9 fld f Aa[0] h][b] δ S K:=by
 refine Hd ⟨?_⟩;refine Hn (u9,_,?_,q);rw[Dc,g];dsimp only;rw[Dc,Aha e];unfold Acg;simp_all
def Bal{v:W}:Acf "body" v []=[(("body":t6),v)]:=rfl
def Avq{v u:W}:Acf "place" u [(("body":t6),v)]=[(("body":t6),v),("place",u)]:=rfl
def Bfj(q:∀a,D.Fr [] S a->a[S.length]?=sr[rdr B 0]->Q .ref[S.length] a):Wm (R7 13 G4 [.str B]) S Q:=by
 let c:(S ++ [Cell.ins 13 []])[S.length]?=sr[.ins 13 []]:=Kq;let b:=Ff c;unfold R7;refine Az (.ref S.length,S ++ [.ins 13 []],rfl,?_);refine Az[Ck rfl ?_];refine As2 (v:=.str B) Aha[rfl] rfl c () () ?_
 rw[Bal];refine As2 (v:=.int 0) rfl rfl Ak2[b] () (show 1 < 1000 by decide) ?_
 rw[Avq];refine K3 Du[q[_][?_][Ak2 (by rw[gJ];exact b)]]
 exact Baj (((Fr.app.of0 (L:=[S.length])).same Fr.set).same Fr.set) aM[_]
def read0{m:M W}{r:t6}{k:Nat}(h:Rx n m x w)(l:B=x ++ r)(e:B.length<=400)(c:k=0)(d:S[n]?=sr[rdr B k])(q:∀b,b[n]?=sr[rdr B x.length]->D.Fr [n] S b->Q w b):Wm m S Q:=by
 subst c;refine h.use (a:=⟨#[]⟩) (by rw[Alz];omega) e d λb g f=>q b ?_ f
 rw[Alz] at g;omega
abbrev mtR:Nat->t6->o9 Fi:=λc n=>Al.lookup[u6 c n]
def As3{i:Int}(b:δ[2]?=sr sr[.ref[n]])(d:0<=i)(c:i < 64):Rx[n][Bh mtR "next_number" Aa[2] yA[kI[1]] δ][M1.Ej 1 i][.int i]:=(Hs b (λa a=>rfl) rfl (Ab Ak Ad) rfl (Qh () () d c))
def Bfk{i:Int}(b:δ[2]?=sr sr[.ref[n]])(d:0<=i)(c:i < 4096):Rx[n][Bh mtR "next_number" Aa[2] yA[kI[2]] δ][M1.Ej 2 i][.int i]:=(Hs b (λa a=>rfl) rfl (Ab Ak Ad) rfl (Qh () () d c))
def Al0{f:De->M W}{is:lg Int}(d:δ[2]?=sr sr[.ref[n]])(hf:Pu SP.any f[δ] (.int (is.length:Int)))(h:∀i∈is,0<=i/\i < 4096)(e:is.length<=100):Rx n (Bh mtR "next_numbers" Aa[2] yA[f] δ) Le[is] .tup[is.map[W.int]]:=(
 Hs d (λc c=>rfl) rfl (Ab hf Ad) rfl (As1 h e))
def Bam{f:De->M W}(hv:δ[2]?=sr sr[.ref[n]])(hf:Pu SP.any f[δ] (.int (x.length:Int))):Rx n (Bh mtR "next_signs" Aa[2] yA[f] δ) x .str[x]:=Hs hv (λuw uw=>rfl) rfl (Ab hf Ad) rfl Vi[rfl]
def Bfl{rs:lg[t6×Cl]}(a:δ[2]?=sr sr[.ref[n]])(h:∀z∈rs,isKey z.1=t8/\z.2.ok=t8)(e:rs.length<=63):Rx[n][Bh mtR "next_rows" Aa[2] yA[Bh mtR "next_number" Aa[2] yA[kI[1]]] δ][M1.Ej 1 rs.length ++ jn rs.map[Aa2]][.tup rs.map[Ab4]]:=(
 Aba a (λc c=>rfl) rfl rfl (As3 a () ()) (Bfi h ()))
def Bfm{a:lg t6}(b:δ[2]?=sr sr[.ref[n]])(h:∀k∈a,isKey k=t8)(f:a.length<=63):Rx[n][Bh mtR "next_keys" Aa[2] yA[Bh mtR "next_number" Aa[2] yA[kI[1]]] δ][M1.Ej 1 a.length ++ jn a.map[Rq]][.tup a.map[W.str]]:=(
 Aba b (λd d=>rfl) rfl rfl (As3 b () ()) (Bfg h ()))
def Bfn{p:Pg}(h:p.ok)(k:p.body.length<=400):Pu P Tt[[.str p.letter,.str p.body]] p.w:=(Bak λS uw=>by
 let y:∀{Y q:Store},D.Fr [] S Y->D.Fr [S.length] Y q->D.Fr [] S q:=λm e=>Baj[(m.of0).same e][aM _];refine Ck rfl ?_;refine Dq Fg[Av[Bq rfl Bg[?_]]];refine Bfj λY m g=>?_;cases p with
 |head a b c d=>
  let L:∀i∈[a,b,c,d],0<=i/\i < 4096:=by
   let(I,H,T,v):=h;intro i hi;simp only[bH,cZ,or_false] at hi;rcases hi with rfl|rfl|rfl|rfl
   .exact Gx I ()
   .exact Gx H ()
   .exact Gx T ()
   .exact Gx v ()
  refine N5[Cw[(Ag[Ao Af[rfl] Ak Ft]).cast (by rfl')] λq e=>(rfl,?_)]
  refine Cu Abw[En[Av[G3[Bg (show 1<=big by decide,?_)]]]]
  refine read0 (r:=⟨#[]⟩) (Al0 (is:=[a,b,c,d]) rfl (Pu.cast Ak rfl) L pG[rfl]) (Hj _).symm k rfl e.at0[g] λo O f=>?_;exact(.tup [.str "head",.int a,.int b,.int c,.int d],o,rfl,rfl,y m.then0[e] f)
 |free i=>
  let L:∀j∈[i],0<=j/\j < 4096:=by
   intro j hj;rw[aZ.mp hj];exact Gx h ()
  refine Ib[Cw[(Ag[Ao Af[rfl] Ak Ft]).cast (by rfl')] λq e=>(rfl,?_)]
  refine Ib[Cw[(Ag[Ao Af[rfl] Ak Ft]).cast (by rfl')] λo f=>(rfl,?_)]
  refine Ib[Cw[(Ag[Ao Af[rfl] Ak Ft]).cast (by rfl')] λX l=>(rfl,?_)]
  refine Ib[Cw[(Ag[Ao Af[rfl] Ak Ft]).cast (by rfl')] λS5 C=>(rfl,?_)]
  refine N5[Cw[(Ag[Ao Af[rfl] Ak Ft]).cast (by rfl')] λS6 A=>(rfl,?_)]
  let E:=((((e.then0 f).then0 l).then0 C).then0 A);refine Cu Abw[En[Av[G3[Bg (show 1<=big by decide,?_)]]]]
  refine read0 (r:=⟨#[]⟩) (Al0 (is:=[i]) rfl (Pu.cast Ak rfl) L pG[rfl]) (Hj _).symm k rfl E.at0[g] λo O f=>?_;exact(.tup [.str "free",.int i],o,rfl,rfl,y m.then0[E] f)
 |leaf rs=>
  refine Ib[Cw[(Ag[Ao Af[rfl] Ak Ft]).cast (by rfl')] λq e=>(rfl,?_)]
  refine N5[Cw[(Ag[Ao Af[rfl] Ak Ft]).cast (by rfl')] λo f=>(rfl,?_)]
  refine Cu En[Av[G3[Av[?_]]]];let Z:rs.length<=63:=h.1;refine read0 (r:=⟨#[]⟩) Bfl[rfl][λz hz=>h.2.1 z hz][Z] (Hj _).symm k rfl ((e.then0 f).at0 g) λX hS4 l=>?_;exact Bg (show 2<=big by decide,rfl,y m.then0[e.then0[f]] l)
 |fork J ps=>
  let((I,H,T),v,h5):=h;refine Ib[Cw[(Ag[Ao Af[rfl] Ak Ft]).cast (by rfl')] λq e=>(rfl,?_)]
  refine Ib[Cw[(Ag[Ao Af[rfl] Ak Ft]).cast (by rfl')] λo f=>(rfl,?_)]
  refine N5[Cw[(Ag[Ao Af[rfl] Ak Ft]).cast (by rfl')] λX l=>(rfl,?_)]
  let G:=(e.then0 f).then0 l;refine Dq ?_;refine read0 (r:=Le ps) (Bfm rfl H I) rfl k rfl G.at0[g] λS5 N C=>?_;refine Cu En[Av[G3[Av[Bq rfl Av[?_]]]]];refine(Al0 (is:=ps) rfl ((Cp Ac[Ab Af[rfl] Ad][Gr] Ak M6).cast (congrArg W.int (show ((J.map W.str).length:Int)+1=(ps.length:Int) by rw[aK,v];rfl))) (λi hi=>Gx (h5 i hi) ()) ()).use (a:=M1.Ej 1 J.length ++ jn J.map[Rq]) (r:=⟨#[]⟩) (by rw[Hj];rfl) k N λS6 u A=>?_
  exact Bg (show 3<=big by decide,rfl,y m.then0[G] C.same[A])
 |rest t i=>
  let(I,H,T,v):=h;let hi:=Gx v ()
  let U:Pg.body[.rest t i]=M1.Ej 2 i ++ t:=by
   show jn [M1.Ej 2 i] ++ t=_;rw[Nu,Aqs,Hj]
  refine Ib[Cw[(Ag[Ao Af[rfl] Ak Ft]).cast (by rfl')] λq e=>(rfl,?_)]
  refine Ib[Cw[(Ag[Ao Af[rfl] Ak Ft]).cast (by rfl')] λo f=>(rfl,?_)]
  refine Ib[Cw[(Ag[Ao Af[rfl] Ak Ft]).cast (by rfl')] λX l=>(rfl,?_)]
  refine N5[Cw[(Ag[Ao Af[rfl] Ak Ft]).cast (by rfl')] λS5 C=>(rfl,?_)]
  let F:=((e.then0 f).then0 l).then0 C;refine Dq ?_;refine read0 (r:=t) (Bfk rfl hi.1 hi.2) U k rfl F.at0[g] λS6 u A=>?_;refine Cu En[Av[G3[Av[?_]]]];let Z:(Pg.body[.rest t i]).length=2+t.length:=by rw[U,len_app,Dp]
  refine(Bam (x:=t) rfl ((Cp Ac[Ab Af[rfl] Ad][len_str[aF k ()]] Ak Aen).cast (congrArg W.int (show ((Pg.body[.rest t i]).length:Int) - 2=((t.length:Nat):Int) by omega)))).use (a:=M1.Ej 2 i) (r:=⟨#[]⟩) (by rw[Hj];exact U) k u λS7 hS7 f7=>?_
  exact Av Bq[rfl][Bg (show 3<=big by decide,rfl,y m.then0[F] A.same[f7])])
end
def Avr{z:t6}(h:2<=z.length):cO z sy sr[-2]=cut z 0 (z.length - 2):=by
 rw[eq_of_beq[xY () () rfl]]
 unfold cut
 grind
def Avs{z:t6}(h:2<=z.length):cO z sr[-2] sy=cut z (z.length - 2) z.length:=by
 rw[eq_of_beq[wK () () rfl rfl]]
 unfold cut
 grind
def Aqw{z:t6}{i:Nat}(h:i<=z.length):cO z (sr (i:Int)) sy=cut z i z.length:=by
 rw[eq_of_beq[oZ () () rfl]]
 unfold cut;simp
def Avt(a r:t6):cut (a ++ r) 0 a.length=a:=by
 let h:=Aa9 ⟨#[]⟩ a r;rw[Alz] at h;let e:(⟨#[]⟩:t6).length=0:=rfl;rw[e,aCi] at h;omega
def Bfo(a r:t6):cut (a ++ r) a.length (a ++ r).length=r:=by
 rw[len_app];exact Aa9 a r ⟨#[]⟩
section
variable{P:SP}
def Ban{a:De}{f:De->M W}{z:t6}(h:Pu P f[a] .str[z])(c:2<=z.length)(b:z.length<=big):Pu P (slF f Cv Dj[Aft[kI[2]]] a) .str[cut[z][0][z.length - 2]]:=by
 refine Vg h Gh Fp[Bae[Ak]] ?_;show Pu P (if _ then _ else bad) _
 rw[Avr c];exact Lb b Pu.pure
def Bk2{a:De}{f:De->M W}{z:t6}(h:Pu P f[a] .str[z])(c:2<=z.length)(b:z.length<=big):Pu P (slF f Dj[Aft[kI[2]]] Cv a) .str[cut[z][z.length - 2][z.length]]:=by
 refine Vg h Fp[Bae[Ak]] Gh ?_;show Pu P (if _ then _ else bad) _
 rw[Avs c];exact Lb b Pu.pure
def Bao{a:De}{f g h:De->M W}{z:t6}{i j:Nat}(l:Pu P f[a] .str[z])(hi:Pu P g[a] (.int (i:Int)))(k:Pu P h[a] (.int (j:Int)))(d:i<=j)(c:j<=z.length)(e:z.length<=big):Pu P (slF f Dj[g] Dj[h] a) .str[cut z i j]:=by
 refine Vg l Fp[hi] Fp[k] ?_;show Pu P (if _ then _ else bad) _
 rw[Vu d c];exact Lb e Pu.pure
def Aot{z:t6}(b:2<=z.length)(a:z.length<=big)(c:M2.Cj cut[z][0][z.length - 2]=t8):Pu P J4[[.str z]] .bl[M2.check cut[z][0][z.length - 2]==cut z (z.length - 2) z.length]:=(Bt rfl Bo[Bc[Ao[Ac[Ab[Ban Af[rfl] b a][Ad]][Aoq (by rw[Aa8 dM[_] ()];omega) c]][Bk2 Af[rfl] b a][Ft]]])
def Aou{exm:Nat->Bool}{i:Nat}(h:PuN P b f a):PuN P (Aus exm i j b) f a:=(λS g=>by
 let(G,e):=h S g;exact(G,by unfold Aus;rw[e]))
def Bap:Pu P Ma[[.non]] .bl[t7]:=(λS a=>([],by rw[bU];rfl'))
def Aqx(p:Pg):∃c,p.letter=⟨#[c]⟩:=by cases p <;> exact(_,rfl)
def Baq{z r:t6}{c:Nat}(a:z.length<=big)(e:z=⟨#[c]⟩ ++ r):Pu P (ixW .str[z] .int[0]) .str[⟨#[c]⟩]:=by
 let b:0 < z.length:=by rw[e,len_app];exact aO (show 0 < 1 by simp) (mZ _ _)
 let h:=Ajy (P:=P) a b;let d:z.cps.toList.getD 0 0=c:=by rw[e,Ag9];rfl
 rw[d] at h;exact h
def text_len{p:Pg}{a:Int}(d:64<=a)(c:(p.body.length:Int)<=a - 5):(p.text a).length=a.toNat:=by
 unfold Pg.text;rw[len_app,Aa6 c,Ajq];omega
def Ahb{p:Pg}{a:Int}(h:p.ok)(g:64<=a)(o:a<=200)(m:(p.body.length:Int)<=a - 5):Pu P Mf[[.str p.text[a]]] p.w:=by
 let r:=text_len g m;let hu:=Aa6 m;let b:(p.text a).length<=big:=by rw[r];exact aF (show a.toNat<=200 by omega) ()
 let el:((p.text a).length:Int)=a:=by omega
 let l:cut p.text[a] 0 ((p.text a).length - 2)=p.unch a:=by
  let e:=Avt p.unch[a] M2.check[p.unch[a]];rw[show (p.text a).length - 2=(p.unch a).length by omega]
  exact e
 let x:cut p.text[a] ((p.text a).length - 2) (p.text a).length=M2.check p.unch[a]:=by
  let e:=Bfo p.unch[a] M2.check[p.unch[a]];rw[show (p.text a).length - 2=(p.unch a).length by omega]
  exact e
 let(n,s):=Asx p a;let t:p.unch a=p.start ++ ⟨jO n 48⟩:=by
  show p.unch a=⟨p.start.cps ++ jO n 48⟩;rw[<-s]
 let k:p.text a=p.letter ++ (M1.Ej 2 p.body.length ++ (p.body ++ (⟨jO n 48⟩ ++ M2.check p.unch[a]))):=by
  show p.unch a ++ M2.check p.unch[a]=_;rw[t];unfold Pg.start;rw[Ci,Ci,Ci]
 let(c,q):=Aqx p;let v:cut p.text[a] 1 3=M1.Ej 2 p.body.length:=by
  let e:=Aa9[p.letter][M1.Ej 2 p.body.length][p.body ++ (⟨jO n 48⟩ ++ M2.check p.unch[a])];rw[<-k,Mv,Dp] at e;exact e
 let u:cut p.text[a] 3 (3+p.body.length)=p.body:=by
  let e:=Aa9[p.letter ++ M1.Ej 2 p.body.length][p.body][⟨jO n 48⟩ ++ M2.check p.unch[a]];rw[Ci,<-k,len_app,Mv,Dp] at e;exact e
 let f:Pu P J5[[.str p.text[a]]] p.w:=by
  apply Bt (ws:=[.str p.text[a]]) rfl;apply Dm
  .refine Fx Cq[Ag[Ac[Ab Af[rfl] Ad][Aot () b (by rw[l];exact Alu h a)]]] ?_ Ax
   rw[l,x,beq_self_eq_true];rfl
  .refine Dm (Dt (w:=.int (p.body.length:Int)) (Ac (Ab ((Bao (i:=1) (j:=3) Af[rfl] Ak Ak () () b).cast (by rw[v])) Ad) (Ajr () () () (show (p.body.length:Int) < 64 ^ 2 by omega)))) ?_
   refine Bo (Bc (Ac (Ab Di[Af[rfl]][Ak][(Baq b k.trans[by rw[q]]).cast (by rw[q])] (Ab ((Bao (i:=3) (j:=3+p.body.length) Af[rfl] Ak ((Cp Ak Af[rfl] M6).cast (congrArg W.int ())) () () b).cast (by rw[u])) Ad)) (Bfn h ())))
 apply Bt (ws:=[.str p.text[a]]) rfl;apply Dm
 .refine Fx (Fb Cq[Ag[Ac Ab[Af rfl][Ab Ak Ad] Aa1]] Cq[Ag[Ac[Ab Ac[Ab Af[rfl] Ad][len_str b] Ad][Aa7 _]]]) ?_ Ax;rw[el,dj g,dj o];rfl
 refine Dm Aou[Au1 Dt[Ac[Ab Af[rfl] Ad][f]] Ax] ?_;refine Dm (Fx Cq[Ag[Ac[Ab Af[rfl] Ad][As0 h]]] rfl Ax) ?_;apply Dm
 .refine Fx Ag[Ao[Ac[Ab[Af rfl][Ab Ac[Ab Af[rfl] Ad][Asw h] Ab[(Ac[Ab Af[rfl] Ad][len_str b]).cast (by rw[el])][Ad]]][Asy () g o]][(Ban Af[rfl] () b).cast (by rw[l])][Bkj]] ?_ Ax
  rw[beq_self_eq_true];rfl
 .exact Bo Bc[Af[rfl]]
end
section
def Ajs{p:Pg}(h:p.ok):Pu P Py[[p.w]] .str[p.body]:=Bt rfl Dm[Fx Cq[Ag[Ac[Ab Af[rfl] Ad][As0 h]]] rfl Ax][Bo Bc[Ac[Ab Af[rfl] Ad][Asw h]]]
def Bfp(i:Int):Pu P Ab2[[.int i]] .int[i - 5]:=Bt rfl Bo[Bc[Cp Af[rfl] Ak Aen]]
def Fits(size:Int)(p:Pg):Prop:=p.ok/\(p.body.length:Int)<=size - 5
def Siz(size:Int):Prop:=64<=size/\size<=200
def Abb{p:Pg}{a:Int}(h:Fits a p)(hs:Siz a):Pu P Ni[[p.w,.int a]] .str[p.text[a]]:=by
 let(h,b):=h;let(d,c):=hs;let hu:(p.unch a).length<=big:=by rw[Aa6 b];exact aF (show (a - 2).toNat<=200 by omega) ()
 refine Bt rfl (Dm Dt[Ac[Ab Af[rfl] Ad][Ajs h]] ?_);refine Dm (Fx Cq[Ag[Ac[Ab Af[rfl] Ad][Aa7 a]]] (by rw[dj d,dj c];rfl) Ax) ?_
 refine Dm Fx[Ag[Ao Ac[Ab Af[rfl] Ad][len_str[aF (show p.body.length<=195 by omega) ()]] Ac[Ab Af[rfl] Ad][Bfp a] Rc]][dq ()][Ax] ?_
 refine Dm Dt[Ac[Ab Af[rfl] Ab[Af rfl][Ab Af[rfl] Ad]][Asy () d c]] ?_
 exact Bo (Bc (Cp Af[rfl] Ac[Ab Af[rfl] Ad][Aoq[hu][Alu h a]] (Fz (by
  rw[Ajq,Aa6 b];exact aF (show (a - 2).toNat+2<=400 by omega) ()))))
def Avu{p:Pg}{size:Int}(h:Fits size p)(hs:Siz size):Pu P Mf[[.str p.text[size]]] p.w:=Ahb h.1 hs.1 hs.2 h.2
def Ab6{p:Pg}{size:Int}(h:Fits size p)(hs:Siz size):(p.text size).length=size.toNat:=text_len hs.1 h.2
end
local macro_rules|`(tactic| array_mem_dec)=>`(tactic| first|assumption|(apply Fr.at0;assumption;array_mem_dec)|(apply Fr.at1;assumption;array_mem_dec;first|assumption|omega))
local macro_rules|`(tactic| array_get_dec)=>`(tactic| first|with_reducible refine G3 ?_|((with_reducible apply Bq);exact rfl)|(with_reducible first|refine Azf ?_|refine Abw ?_|refine Hz ?_|refine Av ?_|refine Bg ?_|refine Azr ?_|refine Js ?_|refine Vr ?_|refine W9 ?_|refine Lr ?_|refine Fg ?_|refine Dq ?_|refine Cu ?_|refine Aep ?_|refine Ak6 ?_|refine Azs ?_|refine Cg ?_|refine K3 ?_)|((with_reducible apply Aso);array_mem_dec;exact rfl;exact rfl)|((with_reducible apply Azt);array_mem_dec;exact rfl;exact rfl)|((with_reducible apply Ec);array_mem_dec;exact rfl;exact rfl)|((with_reducible refine Xa ?_ ?_);exact rfl)|with_reducible refine tb ?_|with_reducible refine Asq (by first|assumption|omega) ?_|with_reducible refine Ani () () ?_|with_reducible refine Ak7 () ?_|((with_reducible apply Asn);array_mem_dec)|((with_reducible apply Asr);array_mem_dec)|(with_reducible first|refine Azw ?_|refine Azx ?_|refine Azy ?_|refine Azz ?_|refine Az0 ?_|refine Az1 ?_)|((with_reducible apply Bha);exact rfl)|((with_reducible apply Bhb);exact rfl)|((with_reducible apply Azv);exact rfl)|((with_reducible apply Asp);exact rfl))
local macro_rules|`(tactic|symm)=>`(tactic|repeat array_get_dec)
def Bk3(ns:lg Int)(k s:Int):Cell:=.dct [(.inr "script",.scr ns),(.inr "at",.int k),(.inr "seed",.int s)]
def Tp(n:Nat)(S:Store):Prop:=∃ns k s,0<=k/\0<=s/\S[n]?=sr[Bk3 ns k s]
section
def Bk4:Ach [(.inr "script",.scr ns),(.inr "at",.int k),(.inr "seed",.int s)] .inr["at"] .int[j]=[(.inr "script",.scr ns),(.inr "at",.int j),(.inr "seed",.int s)]:=rfl
def Bar:Ach [(.inr "script",.scr ns),(.inr "at",.int k),(.inr "seed",.int s)] .inr["seed"] .int[j]=[(.inr "script",.scr ns),(.inr "at",.int k),(.inr "seed",.int j)]:=rfl
def Bk5{ns:lg Int}{k:Int}(c:0<=k)(h:k < ns.length):∃v,atI ns k=sr v:=by
 unfold atI ixN;simp_all
def Ca{m:Int}(h:Tp n S)(g:0 < m)(q:∀i S',Fr [n] S S'->Tp n S'->0<=i->i < m->Q .int[i] S'):Wm Ar[[.ref n,.int m]] S Q:=by
 let(ns,k,s,l,t,h):=h;unfold Bk3 at h;refine Ck rfl ?_;let go:∀v:Int,Wb Ae[Jb Aa[0] kS["at"] Bb[.add][ixF Aa[0] kS["at"]][kI[1]]][Ae Jb[Aa 0][kS "seed"][Bb .mod Bb[.add][Bb .mul Bb[.add][ixF Aa[0] kS["seed"]][Aa[2]] kI[48271]][kI[11]] kI[2147483647]] rQ[Bb .mod Bb[.fdiv][ixF Aa[0] kS["seed"]][kI[11]] Aa[1]]] [sr .ref[n],sr .int[m],sr .int[v]] S Au5[Q]:=λv=>by
  symm;refine Ho h rfl (show 3 < big by decide) λw p c=>?_
  rw[Bk4] at c
  symm;refine Ak7 (by rw[show small 48271=t8 by decide +kernel,tV]) ?_;symm;refine Ho c rfl (show 3 < big by decide) λu o e=>?_
  rw[Bar] at e
  symm;exact q _ _ p.same[o] (_,_,_,(),jN _ (),e) (jN _ ()) (lQ _ g)
 refine Dq G3[Er[?_]];symm;refine Hf[λj=>?_] λr=>K3 go[0];let(v,f):=Bk5 l j;symm;refine Iv (a:=.int v) (S':=S) (by show Aho ((atI ns k).map W.int) S=_;rw[f];rfl) ?_
 exact K3 go[v]
end
def Avv:t6:=(" !\"#$&'()*+,-./0123456789:;<=>?@ABCDEFGHIJKLMNOPQRSTUVWXYZ[\\]^_`":t6) ++ ("abcdefghijklmnopqrstuvwxyz{|}~":t6)
def Ahc:Avv.length=94:=by decide +kernel
def Bfq:M2.Cj Avv=t8:=by decide +kernel
def Bfr(i:Int):Nat:=Avv.cps.toList.getD i.toNat 0
def Bfs{i:Int}(b:0<=i)(h:i < 94):M2.okC Bfr[i]=t8:=(M2.Ber Bfq (by show _ < Avv.length;rw[Ahc];omega))
def Bft(a b:Int)(size:Nat):t6:=jn[(fD size).map λ(k:Nat)=>(⟨#[Bfr[(a+(0+(k:Int)) * b) % 94]]⟩:t6)]
def Bfu(a b:Int)(c:Nat):M2.Cj[Bft a b c]=t8:=(Aor λy d=>by
 let(k,_,rfl):=fC.mp d;exact(Aqt _).trans Bfs[jN _ ()][lQ _ ()])
def Bas(a b:Int)(c:Nat):(Bft a b c).length=c:=by
 unfold Bft;rw[Ab5];have:∀l:lg Nat,(l.map[(λx:t6=>x.length) ∘ λ(k:Nat)=>⟨#[Bfr[(a+(0+k) * b) % 94]]⟩]).sum=l.length:=by
  intro l;induction l with
  |nil=>rfl
  |cons x l f=>
   rw[cB,sS,f,dZ];show 1+_=_;omega
 rw[dU,this,cD]
section
def Bat:Pu P Qq[[]] .str[Avv]:=(Bt rfl (Dm Dt[Ak] Bo[Bc[Cp Af[rfl] Ak Fz[by trivial]]]))
def Bk6{i:Int}(a:0<=i)(h:i < 94):Pu P (ixW .str[Avv] .int[i]) .str[⟨#[Bfr i]⟩]:=by
 have:=Ajy (P:=P) (j:=i.toNat) (by rw[Ahc];decide) (by rw[Ahc];omega)
 rw[tZ,kY a] at this;exact this
def Avw{i:Int}(a:0<=i)(c:i<=1000000):small i=t8:=by
 have:=Ajp (k:=i.toNat) ()
 rw[kY a] at this;omega
def Abd{m:Int}(h:Tp n S)(E:0<=m)(C:m<=1000)(q:∀z g,Fr [n] S g->Tp n g->(z.length:Int)=m->M2.Cj z=t8->Q .str[z] g):Wm Hh[[.ref n,.int m]] S Q:=by
 obtain⟨k,rfl⟩:∃k:Nat,m=k:=(m.toNat,())
 refine Ck rfl Dq[?_];symm;refine Ca h () λa L w u H G=>?_;symm;refine Ca u () λb J v s F b1=>?_;symm;refine Cw (a:=.str Bft[a][1+b][k]) ?_ λI l=>?_
 .refine Aet (c:=1) ?_ (λy r=>?_) (by rw[aK,cD];exact aF (show k * 1<=1000 by omega) ())
  .let j:k<=big:=aF (show k<=1000 by omega) ()
   rw[dU];refine Gv (t:=λB=>pure t8) (xs:=fD k) Qm[Ab Af[rfl] Ad][j] rfl (by rw[cD];exact j) λi hi=>(Pu.pure,?_)
   let hi:=iR.mp hi;exact Di (Ac Ad Bat) (Cp (Cp Af[rfl] (Cp Af[rfl] Af[rfl] (Aeo (by rw[Avw (i:=0+(i:Int)) () ()];rfl))) M6) Ak (Ay7 ())) Bk6[jN _ ()][lQ _ ()]
  .let(k,_,rfl):=fC.mp r;exact aM 1
 .let(x,y,z,p,o,e):=s;exact q _ _ ((w.same v).then0 l) (x,y,z,p,o,l.at0 e) (by rw[Bas]) (Bfu _ _ _)
def Tp.at0(h:Tp n S)(f:Fr [] S S'):Tp n S':=by
 let(x,y,z,b,a,e):=h;exact(x,y,z,b,a,f.at0 e)
def Tp.lt(h:Tp n S):n < S.length:=by
 let(_,_,_,_,_,e):=h;exact Ff e
def Tp.mv(h:Tp n S)(f:Fr L S S')(c:n∉L):Tp n S':=by
 let(x,y,z,b,a,e):=h;exact(x,y,z,b,a,f.at e c)
def Bod{a b c:Int}(j:0<=a)(i:a < 137)(g:0<=b)(b1:b < 20)(f:0<=c)(e:c < 4):∃z,atI [W.int 64,.int 200,.int[64+a],.int[64+b]] c=sr .int[z]/\Siz z:=by
 let h:c=0\/c=1\/c=2\/c=3:=by omega
 rcases h with rfl|rfl|rfl|rfl
 .exact(_,rfl,(),())
 .exact(_,rfl,(),())
 .exact(_,rfl,(),())
 .exact(_,rfl,(),())
def Bfv(h:Tp n S)(q:∀z f,Fr [n] S f->Tp n f->Siz z->Q .int[z] f):Wm M8[[.ref n]] S Q:=by
 refine Ck rfl Cu[?_];symm;refine Ca h () λa C s o x w=>?_;symm;refine Ca o () λb B p g v b1=>?_;symm;refine Cd (show 4<=big by decide) λr A j l lr=>?_
 refine Ca g.at0[j] () λc y i m u t=>?_
 let(z,e,k):=Bod x w v b1 u t;exact Ia (i.at1 l (by have:=g.lt;omega)) e (q _ _ (((s.same p).then0 j).same i) m k)
structure Ks(ks:List t6):Prop where
 ok:∀k∈ks,isKey k=t8
 ri:Vh ks
def Bau{j:Nat}(d:0 < z.length):cO[z][sr ((j+1:Nat):Int)][sr (j:Int)]=⟨#[]⟩:=by
 let e:eY (sr (j+1:Nat)) sr[j] 1 z.length=[]:=by
  unfold eY sliceRange;let c:∀j:Nat,(if ((j:Int)) < 0 then j+(z.length:Int) else j)=j:=λj=>dm ()
  simp only[c,show (1:Int) > 0 by simp,if_true]
  rw[dm ()]
  rfl
 unfold cO;rw[e,dm (by simp;omega)]
 rfl
def Avx{z:t6}{i j:Nat}(c:M2.Cj z=t8)(hi:i<=j+1)(b:j<=z.length)(d:0 < z.length):(cO[z][sr (i:Int)][sr (j:Int)]).length=j - i/\M2.Cj cO[z][sr (i:Int)][sr (j:Int)]=t8:=by
 by_cases h:i<=j
 .rw[Vu h b];exact(Aa8 h b,Ag7 c)
 .obtain rfl:i=j+1:=by omega
  rw[Bau d];exact(by show 0=_;omega,rfl)
end
theorem As4:∀{l:lg Nat} {i j:Nat},i < j->j<=l.length->l.take i < l.take j
 |[],_,_,h,d=>by simp_all
 |a::l,0,j+1,h,d=>by simp
 |a::l,i+1,j+1,h,d=>by
  rw[vM,vM,List.cons_lt_cons_iff];exact .inr (rfl,As4 () (by simp_all))
def Bk7{z:t6}{i j:Nat}(h:i < j)(c:j<=z.length):J6[cut z 0 i][cut z 0 j]=t8:=(dj As4[h][by trivial])
theorem Aqy:∀l:lg t6,(ddS l).length<=l.length
 |[]=>aM _
 |a::l=>by
  unfold ddS;have:=Aqy l
  grind
section
def Bfw{b:lg t6}(f:S[r]?=sr .lst[b.map[W.str]])(i:b.length < 64)(q:∀n c,Fr [] S c->c[n]?=sr .lst[(Ad7 ddS[b]).map W.str]->S.length<=n->Q .ref[n] c):Wm Kp[[.ref r]] S Q:=by
 let hd:=Aqy b;let(a,h,e,z):=Cd (by rw[aK,(Iz _).length_eq];exact aF (show _<=64 by omega) ()) q
 refine(a,h,?_,z);unfold Kp;dsimp only;rw[f];dsimp only;rw[di[by simp_all],Af2]
 omega
def Bfx{z:t6}{k:Nat}(d:z.length=12)(a:M2.Cj z=t8)(f:1<=k)(e:k<=12):isKey[cut z 0 k]=t8:=by
 unfold isKey;rw[Ag7 a,Aa8 dM[_] ()]
 simp_all
theorem Bk8{z:t6}{m:Nat}(e:z.length=12)(d:M2.Cj z=t8)(n:m<=12):Ks[(fD m).map λk=>cut z 0 (k+1)] where
 ok:=λk f=>by
  let(i,hi,rfl):=fC.mp f;have:=iR.mp hi;exact Bfx e d () ()
 ri:=by
  unfold Vh;rw[List.pairwise_map];refine aBi (R:=λa b=>a < b) (λ{a b} ha hb h=>?_) List.pairwise_lt_range;have:=iR.mp hb;exact Bk7 () ()
def Bav{f:De->M W}{l h:De->M o9[Int]}{lo hi:o9 Int}{z:t6}(h1:Pu P f[δ] .str[z])(h2:Pu P l[δ] lo)(h3:Pu P h[δ] hi)(hz:z.length<=big):Pu P (slF f l h δ) .str[cO z lo hi]:=Vg h1 h2 h3 (Lb hz Pu.pure)
def Baw(z:t6)(a b:Nat)(c:Nat):t6:=cO z sy (sr (a:Int)) ++ ⟨#[c]⟩ ++ cO[z][sr ((a+1:Nat):Int)][sr (b:Int)]
def As5{z:t6}{a b c:Nat}(q:z.length=12)(f:M2.Cj z=t8)(s:a < 12)(k:a<=b)(r:b<=12)(h:M2.okC c=t8):isKey[Baw z a b c]=t8/\(cO z sy (sr (a:Int))).length=a/\(cO[z][sr ((a+1:Nat):Int)][sr (b:Int)]).length<=12:=by
 let(o,n):=Avx (i:=a+1) (j:=b) f () () ()
 let g:(cO z sy (sr (a:Int))).length=a:=by rw[Ku (),Aa8 () ()];rfl
 let m:M2.Cj cO[z][sy][sr (a:Int)]=t8:=by rw[Ku ()];exact Ag7 f
 let l:(Baw z a b c).length=a+1+(b - (a+1)):=by
  unfold Baw;rw[len_app,len_app,o,g];rfl
 refine(?_,g,())
 unfold isKey;rw[l];unfold Baw;rw[Ig,Ig,n,m,show M2.Cj ⟨_⟩=t8 from (Aqt c).trans h];simp;omega
def Bk9{ss:lg t6}(h:∀k∈ss,isKey k=t8):Ks Ad7[ddS[ss]]:=(λk hk=>h k Xz.mp[(Iz _).mem_iff.mp hk],Ahy Vn)
def Bfy{m:Int}(h:Tp n S)(h0:0<=m)(hm:m<=9)(q:∀A r u,Fr [n] S u->Tp n u->u[r]?=sr .lst[A.map[W.str]]->S.length<=r->Ks A->A.length<=9->Q .ref[r] u):Wm Nj[[.ref n,.int m]] S Q:=by
 obtain⟨k,rfl⟩:∃k:Nat,m=k:=(m.toNat,())
 let g:k<=big:=aF (show k<=9 by omega) ()
 refine Ck rfl Dq[?_];symm;refine Abd h () () λz S1 s h1 l w=>?_
 let l:z.length=12:=by omega
 let G:z.length<=big:=by rw[l];decide
 refine Er ?_;symm;refine Ca h1 () λa S2 p L a0 a1=>?_;symm;refine Hf[λv=>?_] λv=>Cg ?_
 .refine Cu (Azd (P:=SP.any) (ws:=((fD k).map λk=>cut z 0 (k+1)).map W.str) ?_ trivial λr S3 o C lr=>?_)
  .rw[dU];refine Gv (t:=λv=>pure t8) (xs:=fD k) (φ:=λ(k:Nat)=>W.int[(0:Int)+(k:Int)]) Qm[Ab Af[rfl] Ad][g] rfl (by rw[cD];exact g) λi hi=>(Pu.pure,?_)
   let hi:=iR.mp hi;refine Pu.cast (Bav Af[rfl] Gh Fp[Cp Af[rfl] Ak M6] G) ?_;rw[show (0+(i:Int)+1)=((i+1:Nat):Int) by omega,Ku ()]
   rfl
  .exact q _ _ _ ((s.same p).then0 o) L.at0[o] C (by have:=s.len;have:=p.len;omega) (Bk8 l w ()) (by rw[aK,cD];omega)
 symm;refine Ca L () λb S3 o h3 b0 b1=>?_;symm;refine Ca h3 () λc S4 T Z c0 c1=>?_;symm;obtain⟨b,rfl⟩:∃k:Nat,b=k:=(b.toNat,())
 obtain⟨c,rfl⟩:∃k:Nat,c=k:=(c.toNat,())
 refine Az Fg[?_];symm;refine Abd Z () () λy S5 O Y H ty=>?_
 let H:y.length=94:=by omega
 let by_:y.length<=big:=by rw[H];decide
 refine Cw (a:=.str[cut y 0 k]) Pu.bind[Gh][Pu.bind Fp[Af[rfl]] Pu.cast[Lb by_ Pu.pure][by rw[Ku ()]]] λS6 F=>?_
 let I:(cut y 0 k).length=k:=by rw[Aa8 () ()];rfl
 symm;let J:∀x∈(cut y 0 k).cps.toList,M2.okC x=t8:=by
  have:=Ag7 (i:=0) (j:=k) ty;unfold M2.Cj at this;exact bB.mp this
 refine Azd (P:=SP.any) (ws:=(((cut y 0 k).cps.toList.map Baw[z][b][b+c])).map W.str) ?_ trivial λr S7 E C lr=>?_
 .rw[dU];refine Gv (t:=λv=>pure t8) (xs:=(cut y 0 k).cps.toList) (φ:=λc=>W.str ⟨#[c]⟩) (Ak0 (by rw[I];exact g) Af[rfl]) rfl (by rw[aX];show (cut y 0 k).length<=big;rw[I];exact g) λi hi=>(Pu.pure,?_)
  let(_,U,e2):=As5 (a:=b) (b:=b+c) l w () () () (J i hi)
  refine Cp Cp[Bav Af[rfl] Gh Fp[Af[rfl]] G][Af rfl][Fz ?_] (Bav Af[rfl] Fp[Cp Af[rfl] Ak M6] Fp[Af[rfl]] G) Fz[?_]
  .rw[U];exact aF (show b+1<=13 by omega) ()
  .rw[len_app,U];exact aF (show b+1+(cO[z][sr ((b+1:Nat):Int)][sr ((b+c:Nat):Int)]).length<=30 by omega) ()
 refine Bg[Bfw C (by rw[aK,aX];show (cut y 0 k).length < 64;omega) λr2 S8 N B X=>?_]
 refine q _ _ _ ((((((s.same p).same o).same T).same O).then0 F).then0 E.then0[N]) (((Y.at0 F).at0 E).at0 N) B ?_ (Bk9 λk g=>?_) ?_
 .have:=s.len;have:=p.len;have:=o.len;have:=T.len;have:=O.len;have:=F.len;have:=E.len;omega
 .let(i,hi,rfl):=fC.mp g;exact(As5 l w () () () (J i hi)).1
 .rw[(Iz _).length_eq];refine aF Aqy[_] ?_;rw[aK,aX];show (cut y 0 k).length<=9;omega
end
def Gw(pre:lg t6):Pg->Prop
 |.leaf rs=>Vh (rs.map (·.1))/\(∀r∈rs,r.1∈pre/\r.2.ok=t8)/\rs.length<=pre.length
 |.fork ks ps=>Vh ks/\(∀k∈ks,k∈pre)/\ks.length<=pre.length/\ps.length=ks.length+1/\∀p∈ps,Gg p 1=t8
 |_=>False
section
def Gw.ok{p:Pg}(h:Gw pre p)(d:∀k∈pre,isKey k=t8)(c:pre.length<=63):p.ok:=by
 cases p with
 |leaf rs=>exact(aF h.2.2 c,λr b=>(d _ (h.2.1 r b).1,(h.2.1 r b).2),Ag8 h.1)
 |fork e ps=>exact((aF h.2.2.1 c,λk a=>d _ (h.2.1 k a),Ag8 h.1),h.2.2.2)
 |_=>exact h.elim
def Gw.more{p:Pg}(h:Gw pre p):Gw (pre ++ [k]) p:=by
 let b:pre.length<=(pre ++ [k]).length:=by simp
 cases p with
 |leaf rs=>exact(h.1,λr a=>(gW _ (h.2.1 r a).1,(h.2.1 r a).2),aF h.2.2 b)
 |fork d ps=>exact(h.1,λk c=>gW _ (h.2.1 k c),aF h.2.2.1 b,h.2.2.2)
 |_=>trivial
def As6{d:lg t6}(h:Vh d)(e:∀a∈d,J6 a k=t8):Vh[d ++ [k]]:=(
 uX.mpr (h,List.pairwise_singleton _ _,λa g b f=>by rw[aZ.mp f];exact e a g))
def Avy{p:Pg}{l:Int}(h:Tp n S)(hs:Siz l)(g:Gw pre p)(hl:pre.length<=60)(F:∀a∈pre,J6 a k=t8)(q:∀E C,Fr [n] S C->Tp n C->Gw (pre ++ [k]) E->Q E.w C):Wm K6[[.ref n,p.w,.str k,.int l,.int 60]] S Q:=by
 let(s1,s2):=hs;refine Ck rfl Er[?_];cases p with
 |fork x ps=>
  let(B,o,A,U,T):=g;let m:∀i:Nat,i<=100->i<=big:=λi hi=>aF hi ()
  refine Cw (a:=true) Ag[Ao[Di Af[rfl] Ak Bu[rfl]][Ak][Ft]] λS1 v=>?_;rw[di rfl];refine Cu En[?_];symm;refine En ?_;symm;refine(show 1<=big by decide,Alb (by rw[aK];exact m _ (by simp;omega)) ?_);symm;refine En ?_;symm;refine Ca h.at0[v] () λa s u t a0 a1=>?_;symm;refine(show 1<=big by decide,Alb (by rw[aK];exact m _ (by simp;omega)) ?_);symm;refine(show 3<=big by decide,?_)
  let e:W.tup [.str "fork",.tup[x.map W.str ++ [.str k]],.tup[ps.map W.int ++ [.int[1+a]]]]=(Pg.fork[x ++ [k]][ps ++ [1+a]]).w:=by
   show _=W.tup [.str "fork",.tup[(x ++ [k]).map W.str],.tup[(ps ++ [1+a]).map W.int]];rw[dJ,dJ];rfl
  rw[e];refine q _ _ (Fr.same v.of0 u) t (As6 B λa y=>F a (o a y),λb m=>?_,by simp;exact A,by simp;exact U,λb m=>?_)
  .rcases cU.mp m with z|z
   .exact gW _ (o b z)
   .exact cN _ z
  .rcases cU.mp m with z|z
   .exact T b z
   .rw[aZ.mp z];unfold Gg;rw[dj (),dj ()]
    rfl
 |leaf rs=>
  let(B,o,A):=g;let go:∀(c:Cl) s,c.ok=t8->Fr [n] S s->Tp n s->Wb aA7 [sr .ref[n],sr Pg.w[.leaf[rs]],sr .str[k],sr .int[l],sr .int[60],sr c.w] s Au5[Q]:=λc s L u t=>by
   refine Cu En[?_];symm;refine En ?_;symm;refine En ?_;symm;refine(show 2<=big by decide,?_);symm;refine(show 1<=big by decide,Alb (by rw[aK];exact aF (show rs.length+1<=100 by omega) ()) ?_);symm;refine(show 2<=big by decide,?_)
   let e:W.tup [.str "leaf",.tup[rs.map Ab4 ++ [.tup [.str k,c.w]]]]=(Pg.leaf[rs ++ [aEm k c]]).w:=by
    show _=W.tup [.str "leaf",.tup[(rs ++ [aEm k c]).map Ab4]];rw[dJ];rfl
   rw[e];refine q _ _ u t (?_,λb m=>?_,by simp;exact A)
   .rw[dJ];exact As6 B λa y=>by
     let(r,J,rfl):=fC.mp y;exact F _ (o r J).1
   .rcases cU.mp m with z|z
    .exact(gW _ (o b z).1,(o b z).2)
    .rw[aZ.mp z];exact(cN _ aZ.mpr[rfl],L)
  refine Cw (a:=false) Ag[Ao[Di Af[rfl] Ak Bu[rfl]][Ak][Ft]] λS1 v=>?_;rw[dm ()]
  refine Cg Dq[En[?_]];symm;refine Ca h.at0[v] () λa s u t a0 a1=>?_;symm;refine Ca t () λb S3 f3 P b0 b1=>?_;symm;refine(show 3<=big by decide,Er ?_);symm;refine Ca P () λc S4 Z G c0 c1=>?_
  let f:=((Fr.same v.of0 u).same f3).same Z;symm;refine Hf[λH=>Dq En[?_]] λH=>Cg (go .out[1+a][1+b] S4 ?_ f G)
  .symm
   refine Ca G () λd S5 Y O d0 d1=>?_;symm;refine Abd O d0 () λz S6 X N lz I=>?_;symm;refine(show 2<=big by decide,Cg[go .inn[z] S6 ?_ ((f.same Y).same X) N])
   show (M2.Cj z&&decide[z.length<=63])=t8;rw[I,dj ()]
   rfl
  .show (decide[1<=1+a]&&decide[1+a<=400]&&(decide[1<=1+b]&&decide[1+b<=4095]))=t8;rw[dj (),dj (),dj (),dj ()]
   rfl
 |_=>exact g.elim
end
section
def Vj{i k:Int}(b:k<=i)(a:i<=4095):Gg i k=t8:=by
 unfold Gg;rw[dj b,dj a];rfl
def Bax{p:Pg}(h:p.ok):p.body.length<=big:=by
 refine aF (m:=10000) ?_ ()
 cases p with
 |head a b c d=>rw[show (Pg.head a b c d).body.length=8 from Gy [a,b,c,d]];decide
 |leaf rs=>
  have:=Asv (ys:=rs.map Aa2) (c:=78) (n:=63) (λy g=>by
   let(r,i,rfl):=fC.mp g;exact Aop (h.2.1 r i).1 (h.2.1 r i).2) (by rw[aK];exact h.1)
  let e:(Pg.leaf rs).body.length=1+(jn rs.map[Aa2]).length:=(len_app _ _).trans (congrArg (·+_) (Dp 1 _));omega
 |fork f ps=>
  have:=Asv (ys:=f.map Rq) (c:=13) (n:=63) (λy g=>by
   let(k,j,rfl):=fC.mp g;exact Aa4[h.1.2.1 k j]) (by rw[aK];exact h.1.1)
  let e:(Pg.fork f ps).body.length=1+(jn f.map[Rq]).length+2 * ps.length:=by
   show (_ ++ _ ++ Le ps).length=_;rw[len_app,len_app,Dp,Gy]
  have:=h.1.1;have:=h.2.1;omega
 |rest t n=>
  rw[show (Pg.rest t n).body.length=2+t.length from (len_app _ _).trans (congrArg (·+_) Gy[[n]])];have:=h.2.2.1;omega
 |free n=>rw[show (Pg.free n).body.length=2 from Gy [n]];decide
def at3{x y z:W}{c:Int}(d:0<=c)(b:c < 3):∃w,atI [x,y,z] c=sr w/\(w=x\/w=y\/w=z):=by
 let h:c=0\/c=1\/c=2:=by omega
 rcases h with rfl|rfl|rfl
 .exact(_,rfl,.inl rfl)
 .exact(_,rfl,.inr .inl[rfl])
 .exact(_,rfl,.inr .inr[rfl])
def Bfz{j:Int}(h:Tp n S)(hs:Siz j)(q:∀p S',Fr [n] S S'->Tp n S'->Fits j p->Q p.w S'):Wm Tj[[.ref n,.int j,.int 60]] S Q:=by
 let s1:=hs.1;let s2:=hs.2;refine Ck rfl Dq[?_];symm;refine Ca h () λa S1 Z U a0 a1=>?_
 refine Er ?_;symm;refine Hf[λm=>Dq ?_] λm=>Cg Er[?_]
 .refine Bep (P:=SP.any) (ws:=(fD 4).map λ(k:Nat)=>W.int[(0:Int)+(k:Int)]) (Qm (k:=4) (Ab Ak Ad) ()) trivial λS2 t=>?_
  refine Azh (J:=λi B acc T=>(∃d,B=[d,sr .int[60],sr .ref[n]])/\(∃is:lg Int,acc=is.map W.int/\is.length=i/\∀k∈is,Gg k 0=t8)/\Fr [n] S T/\Tp n T) ?_ ?_ ((_,rfl),([],rfl,rfl,λm h=>nomatch h),Z.then0 t,U.at0 t)
  .rintro i w B acc T hw ⟨⟨d,rfl⟩,⟨is,rfl,v,hi⟩,o,s⟩;refine(_,rfl,Du ?_);rw[di rfl]
   symm;refine Ca s () λb T2 X l G b1=>(?_,(_,rfl),(is ++ [b],by rw[dJ];rfl,by simp;exact v,λk hk=>?_),o.same X,l)
   .have:=(aJ.mp hw).1;rw[aK,cD] at this;rw[aK,v];exact aO this ()
   .rcases cU.mp hk with z|z
    .exact hi k z
    .rw[aZ.mp z];exact Vj G ()
  .rintro B acc T ⟨⟨d,rfl⟩,⟨is,rfl,v,hi⟩,o,s⟩;rw[aK,cD] at v;refine(by rw[aK,v];decide,Cu En[?_])
   match is,v,hi with
   |[x,y,z,u],_,hi=>
    symm;refine Ia Kq (w:=.int x) rfl ?_;symm;refine Ia Kq (w:=.int y) rfl ?_;symm;refine Ia Kq (w:=.int z) rfl ?_;symm;refine Ia Kq (w:=.int u) rfl ?_;symm;let hl:(Pg.head x y z u).body.length=8:=Gy [x,y,z,u];exact(show 5<=big by decide,q (.head x y z u) _ o.then0[.app] s.at0[.app] ((hi x (),hi y (),hi z (),hi u ()),()))
 symm;refine Hf[λm=>Cu En[?_]] λm=>Cg Er[?_]
 .symm
  refine Ca U () λb S2 t l G b1=>?_;symm;let hl:(Pg.free b).body.length=2:=Gy [b];exact(show 2<=big by decide,q .free[b] _ Z.same[t] l (Vj G (),()))
 symm;refine Hf[λm=>Dq ?_] λm=>Cg ?_
 .symm
  refine Ca U () λb S2 t l G b1=>?_;symm;refine Cd (show 3<=big by decide) λr S3 f3 A lr=>?_;symm;refine Ca l.at0[f3] () λc S4 f4 h4 c0 c1=>?_
  obtain⟨L,e,hL⟩:∃L,atI [W.int[1+b],.int[j - 7],.int 1] c=sr .int[L]/\1<=L/\L<=j - 7:=by
   let(w,e,z):=at3 (x:=W.int[1+b]) (y:=.int[j - 7]) (z:=.int 1) c0 c1;rcases z with rfl|rfl|rfl
   .exact(_,e,(),())
   .exact(_,e,(),())
   .exact(_,e,(),())
  refine Ia (f4.at1 A (by have:=l.lt;omega)) e Cu[En[?_]];symm;refine Abd h4 () () λz S5 f5 h5 lz tz=>?_;symm;refine Ca h5 () λd S6 f6 h6 d0 d1=>?_;symm;let hl:(Pg.rest z d).body.length=2+z.length:=(len_app _ _).trans (congrArg (·+_) Gy[[d]]);exact(show 3<=big by decide,q (.rest z d) _ (((((Z.same t).then0 f3).same f4).same f5).same f6) h6 ((tz,(),(),Vj d0 ()),()))
 let C:∀(N:Pg)(T:Store),Gw [] N->Fits j N->Fr [n] S T->Tp n T->Wb aA1
   [sr .ref[n],sr .int[j],sr .int[60],sr .int[a],sy,sy,sr N.w,sy,sy] T Au5[Q]:=λN T g0 Y o s=>by
  refine Bev ?_;symm;refine Ca s () λb S2 t l G b1=>?_;symm;refine Bfy l G () λE r S3 f3 h3 A lr hk lk=>(_,_,rfl,A,?_)
  let hrn:r≠n:=by have:=l.lt;omega
  refine Af6 (ws:=E.map W.str) (J:=λi B T=>∃p x7 x8,B=[sr .ref[n],sr .int[j],sr .int[60],sr .int[a],sy,sy,sr Pg.w[p],x7,x8]/\Gw E.take[i] p/\Fits j p/\Fr [n] S T/\Tp n T/\T[r]?=sr .lst[E.map[W.str]]) ?_ ?_ ?_ _ _ _ _ (N,_,_,rfl,g0,Y,(o.same t).same f3,h3,A) dM[_] ()
  .rintro i B T ⟨p,x7,x8,rfl,g,ft,o,s,A⟩;unfold liG;rw[A]
  .rintro i w B T hw ⟨p,x7,x8,rfl,g,ft,o,s,A⟩;rw[bJ] at hw;let(k,hk',rfl):=bG.mp hw;let(v,ek):=aJ.mp hk';let tk:E.take[i+1]=E.take i ++ [k]:=by rw[<-ek];exact(sU v).symm
   let tl:(E.take i).length<=9:=by rw[dW];omega
   refine(_,rfl,Dq ?_);symm;refine Avy (pre:=E.take i) s hs g () ?_ λp' T2 X l gw=>?_
   .intro x hx;have:=hk.ri;rw[<-pD i E] at this;refine(uX.mp this).2.2 x hx k ?_;rw[<-ek,gO v];exact bF
   let F:p'.ok:=gw.ok (λy hy=>hk.ok y mV[tk ▸ hy]) (by simp;omega)
   let O:=X.at1 A hrn;refine Er ?_;symm;refine Cw Ajs[F] λT3 I=>?_;symm;refine Aab Bax[F] ?_;symm;refine Hf[λhb=>Dq ?_] λm=>?_
   .symm
    refine(p',_,_,rfl,tk ▸ gw,(F,hb),(o.same X).then0 I,l.at0 I,I.at0 O)
   .symm
    refine(p,_,_,rfl,tk ▸ g.more,ft,(o.same X).then0 I,l.at0 I,I.at0 O)
  .rintro B T ⟨p,x7,x8,rfl,g,ft,o,s,A⟩;refine Cu ?_
   symm;exact q p T o s ft
 let hl:(Pg.leaf []).body.length=1:=rfl;refine Dq En[?_];symm;refine En[Bg (show 0<=big by decide,?_)];symm;refine(show 2<=big by decide,Er ?_);symm;refine Hf[λm=>Dq En[?_]] λm=>Cg[C .leaf[[]] _ (.nil,(λm h=>nomatch h),aM _) (((),(λm h=>nomatch h),rfl),()) Z U];symm;refine En[Bg (show 0<=big by decide,?_)];symm;refine En ?_;symm;refine Ca U () λb S2 t l G b1=>?_;symm;refine(show 1<=big by decide,?_);symm;let hf:(Pg.fork [] [1+b]).body.length=3:=rfl;let hn:∀p∈[1+b],Gg p 1=t8:=λp hp=>by rw[aZ.mp hp];exact Vj () ()
 exact(show 3<=big by decide,Cg[C (.fork [] [1+b]) _ (.nil,(λm h=>nomatch h),aM _,rfl,hn) ((((),(λm h=>nomatch h),rfl),rfl,hn),()) Z.same[t] l])
end
abbrev Bqv(sz:Int)(t r:Nat)(b:Int):lg[t6×W]:=[("size",.int sz),("page_texts",.ref t),("row_texts",.ref r),("begun",.int b),("off",.bl t7),("turns_left",.int 0),("signs_done",.int 0)]
def Bqw(sz:Int)(t r:Nat)(b:Int):Cell:=.ins 14 (Bqv sz t r b)
def txs(sz:Int)(ps:lg Pg):lg W:=ps.map λp=>.str p.text[sz]
structure Dk(sz:Int)(ps:List Pg)(rs:List t6)(b:Int)(d t r:Nat)(S:Store):Prop where
 at_:S[d]?=sr (Bqw sz t r b)
 tx:S[t]?=sr (.lst (txs sz ps))
 ro:S[r]?=sr (.lst (rs.map W.str))
 dt:d≠t
 dr:d≠r
 tr:t≠r
section
def Boe{c:Nat}{g:lg W->M W}{d:lg W}(h:∀b,Fr [] S b->b[S.length]?=sr[.ins c []]->Wm (g (.ref S.length::d)) b λv f=>v=.non/\Q .ref[S.length] f):Wm (R7 c g d) S Q:=(
 Az (_,_,rfl,Az (Be[h _ .app Kq] λ_ _ ⟨e,q⟩=>by subst e;exact Du q)))
def Bf0{sz:Int}(hs:Siz sz)(q:∀d t r j,Fr [] S j->Dk sz [] [] 0 d t r j->S.length<=d->d < t->t < r->r < j.length->Q .ref[d] j):Wm (R7 14 Lh [.int sz]) S Q:=by
 refine Boe λS1 I G=>Ck rfl Ib[Cw Cq[Ag[Ac[Ab Af[rfl] Ad][Aa7 sz]]] λS2 v=>(by rw[dj hs.1,dj hs.2];rfl,?_)]
 generalize hd:S.length=d at *
 let F:=v.at0 G;symm;refine Gn F (by rfl') rfl λS3 H p=>?_;symm;refine Cd dM[_] λt S4 u m lt=>?_;symm;refine Gn u.at0[p] (by rfl') rfl λS5 l o=>?_;symm;refine Cd dM[_] λr Z h n lr=>?_;symm;refine Gn h.at0[o] (by rfl') rfl λY g E=>?_;symm;refine Gn E (by rfl') rfl λX f C=>?_;symm;refine Gn C (by rfl') rfl λU e B=>?_;symm;refine Gn B (by rfl') rfl λT c A=>?_;symm;refine Gn A (by rfl') rfl λw b y=>?_;symm;let lx:=Ff p;let P:=Ff m;let O:=Ff h.at0[o];let k:=l.at1 m ()
 let x:=l.len;let s:Fr [d] S w:=((((((((Fr.same (L:=[d]) (I.then0 v).of0 H).then0 u).same l).then0 h).same g).same f).same e).same c).same b;refine(rfl,q d t r w (s.len,λi hi N=>s.get i hi λz=>by rw[aZ.mp z] at hi;omega) (y,?_,?_,(),(),by have:=Ff k;omega) () () (by have:=Ff k;omega) (by have:=Ff n;have:=g.len;have:=f.len;have:=e.len;have:=c.len;have:=b.len;omega))
 .exact b.at1 (c.at1 (e.at1 (f.at1 (g.at1 h.at0[k] ()) ()) ()) ()) ()
 .exact b.at1 (c.at1 (e.at1 (f.at1 (g.at1 n ()) ()) ()) ()) ()
end
local macro_rules|`(tactic| array_get_dec)=>`(tactic| first|with_reducible refine G3 ?_|((with_reducible apply Bq);exact rfl)|(with_reducible first|refine Azf ?_|refine Abw ?_|refine Hz ?_|refine Av ?_|refine Bg ?_|refine Azr ?_|refine Js ?_|refine Vr ?_|refine W9 ?_|refine Lr ?_|refine Fg ?_|refine Bno ?_|refine Bew ?_|refine pi_ ?_|refine Bks ?_|refine Bey ?_|refine Dq ?_|refine Er ?_|refine Wh ?_|refine Su ?_|refine Bkq ?_|refine Bnm ?_|refine Bnn ?_|refine Cu ?_|refine Aep ?_|refine Ak6 ?_|refine Azs ?_|refine Cg ?_|refine K3 ?_)|((with_reducible apply Aso);array_mem_dec;exact rfl;exact rfl)|((with_reducible apply Azt);array_mem_dec;exact rfl;exact rfl)|((with_reducible apply Bkt);array_mem_dec;exact rfl)|((with_reducible apply Bex);array_mem_dec;exact rfl)|((with_reducible refine Bez ?_))|((with_reducible refine Be0 ?_))|((with_reducible apply Ec);array_mem_dec;exact rfl;exact rfl)|((with_reducible refine Xa ?_ ?_);exact rfl)|with_reducible refine tb ?_|with_reducible refine Asq (by first|assumption|omega) ?_|with_reducible refine Ani () () ?_|with_reducible refine Ak7 () ?_|((with_reducible apply Asn);array_mem_dec)|((with_reducible apply Asr);array_mem_dec)|(with_reducible first|refine Azw ?_|refine Azx ?_|refine Azy ?_|refine Azz ?_|refine Az0 ?_|refine Az1 ?_)|((with_reducible apply Bha);exact rfl)|((with_reducible apply Bhb);exact rfl)|((with_reducible apply Azv);exact rfl)|((with_reducible apply Asp);exact rfl))
section
def Bay{f:De->M W}(h:Pu P f[a] w):PuN P Hu[f] a a:=(λS b=>by
 let(G,e):=h S b;exact(G,by unfold Hu Gu;rw[e]))
def Baz{exm:Nat->Bool}{f:MS}(h:PuN P b d a):PuN P (Amz exm b f) d a:=(λS g=>by
 let(G,e):=h S g;exact(G,by unfold Amz;rw[e]))
def Bf1{p:Pg}{sz:Int}(h:Fits sz p)(hs:Siz sz):Pu P Hi[[.str p.text[sz],.int sz]] .bl[t8]:=by
 let a:=Ab6 h hs;have:=hs.1;have:=hs.2;refine Bt rfl (Dm Baz[Au1 Bay[Ac[Ab Af[rfl] Ad][Avu h hs]] Ax] Bo[Bc[Pu.cast[Ao Ac[Ab Af[rfl] Ad][len_str (by rw[a];exact aF (show sz.toNat<=200 by omega) ())] Af[rfl] Qn][?_]]])
 grind
def wr(ps:lg Pg)(k:Nat)(p:Pg):lg Pg:=ps.take k ++ p::ps.drop[k+1]
def Ab7{z:t6}{j:Int}(h:(z.length:Int)=j):cO z sy sr[j]=z:=by
 subst h;rw[Ku aM[_]];unfold cut;rw[rE,dR[by exact aM _]]
def Avz{z:t6}{j:Int}(h:(z.length:Int)=j):cO z sr[j] sy=⟨#[]⟩:=by
 subst h;rw[eq_of_beq[oZ () uY[_] rfl]]
 simp
def As7(x:t6):x ++ (⟨#[]⟩:t6)=x:=rfl
def Al1(n:Int):(mJ " " n).length=n.toNat:=by
 show (mJ ⟨#[32]⟩ n).cps.size=_;rw[<-aX,xZ,fB]
def As8{b:Type}{xs:lg b}{k:Nat}(h:k < xs.length):atI xs (k:Int)=xs[k]?:=by
 unfold atI ixN;simp_all
end
abbrev tl(z:t6):lg Nat:=z.cps.toList
def mkS(l:lg Nat):t6:=⟨l.toArray⟩
def Bla(z:t6)(i j:Nat):tl[cut z i j]=((tl z).drop i).take (j - i):=rfl
def Ab8(z:t6):(tl z).length=z.length:=aX
def Ba0(l:lg Nat):(mkS l).length=l.length:=cC
def cutE(z:t6)(j:Nat):tl[cut z j z.length]=(tl z).drop j:=by
 rw[Bla,dR];rw[dX,Ab8];simp
structure Chk(z:t6):Prop where
 tx:M2.Cj z=t8
 lo:64<=z.length
 hi:z.length<=200
 eq:M2.check (cut z 0 (z.length - 2))=cut z (z.length - 2) z.length
def other{z:t6}(h:Chk z){l:lg Nat}(i:l.length=z.length)(hd:l.drop[z.length - 2]=(tl z).drop (z.length - 2))(g:M2.chk l.take[z.length - 2] % 4093≠M2.chk ((tl z).take (z.length - 2)) % 4093):
  M2.check cut[mkS[l]][0][(mkS l).length - 2]≠cut mkS[l] ((mkS l).length - 2) (mkS l).length:=by
 rw[Ba0,i];intro e;let j:cut mkS[l] (z.length - 2) z.length=cut z (z.length - 2) z.length:=by
  unfold cut;show (⟨((l.drop[z.length - 2]).take _).toArray⟩:t6)=_;rw[hd]
 let b:=M2.Azq e.trans[j.trans[h.eq.symm]];let f:(cut mkS[l] 0 (z.length - 2)).cps.toList=l.take[z.length - 2]:=rfl;let d:(cut z 0 (z.length - 2)).cps.toList=(tl z).take (z.length - 2):=rfl;rw[f,d] at b;exact g b
section
variable{P:SP}{z x y:t6}{δ:De}{f g:De->M W}{S:Store}{ws:lg W}{w:W}{p:Pg}
def Bf2{z:t6}(d:2<=z.length)(a:z.length<=big)(b:M2.Cj cut[z][0][z.length - 2]=t8)(c:M2.check cut[z][0][z.length - 2]≠cut z (z.length - 2) z.length):Pu P J5[[.str z]] .non:=by
 apply Bt rfl;refine Bo[Wa Cq[Ag[Ac[Ab Af[rfl] Ad][Aot d a b]]] ?_ Bo[Bc[Ak]]];rw[beq_eq_false_iff_ne.mpr c];rfl
def Bf3{z:t6}(c:M2.Cj cut[z][0][z.length - 2]=t8)(e:2<=z.length)(b:z.length<=1000)(d:M2.check cut[z][0][z.length - 2]≠cut z (z.length - 2) z.length):PuX P Mf[[.str z]] (u6 6 .non):=by
 let a:z.length<=big:=aF b ()
 apply Bej rfl;by_cases h:64<=z.length/\z.length<=200
 .apply Bni
  .refine Fx (Fb Cq[Ag[Ac Ab[Af rfl][Ab Ak Ad] Aa1]] Cq[Ag[Ac[Ab Ac[Ab Af[rfl] Ad][len_str a] Ad][Aa7 _]]]) ?_ Ax
   grind
  exact Bni Aou[Au1 Dt[Ac[Ab Af[rfl] Ad][Bf2 e a c d]] Ax] Anb[Bnk Cq[Ag[Ac[Ab Af[rfl] Ad][Bap]]] rfl Anb[Af1 Ab[Ak][Ab Ak Ad] rfl]]
 .refine Anb Bnk[Fb Cq[Ag[Ac Ab[Af rfl][Ab Ak Ad] Aa1]] Cq[Ag[Ac[Ab Ac[Ab Af[rfl] Ad][len_str a] Ad][Aa7 _]]]][?_][Anb[Af1 Ab[Ak][Ab Ak Ad] rfl]]
  grind
def Bf4{a:Nat}{c:lg W}:Pu[Aqu SP.any a .lst[c]][Jl isa [.ref a,.ty "str"]][.bl t7]:=(λS d=>([],by
 rw[bU];unfold Jl tyW;dsimp only;rw[d.2];rfl))
end
section
variable{P:SP}{α β:Type}{δ:De}{b b' su:MS}{t:De->M Bool}{c:Nat×W}{exm:Nat->Bool}{gs:De->M (lg W)}{w u:W}
def Ba1(h:PuE P b δ c)(f:exm c.1=t8)(g:∀δ,PuR P su δ w):PuR P (Amz exm b su) δ w:=(λS d=>by
 let(G,a,e):=h S d;let(j,i):=g a _ (P.st _ _ d);exact(_,by unfold Amz;rw[e];dsimp only;rw[di f,i,cM];rfl))
def Ba2{f:De->M W}(h:PuX P f[δ] c):PuE P Hu[f] δ c:=(λS a=>by
 let(G,e):=h S a;exact(G,δ,by unfold Hu Gu;rw[e]))
end
section
variable{P:SP}{z x y:t6}{w v:W}{sz:Int}{S S':Store}
def Bf5(h:PuX P Mf[[w]] (u6 6 .non)):Pu P Hi[[w,.int sz]] .bl[t7]:=(
 Bt rfl Bo[Ba1[Anb Ba2[Ay6[Ab Af[rfl] Ad][h]]][by rfl'] λa=>Bo Bc[Ak]])
def Ba3{u:t6}(h:∃c∈tl y,M1.inS c=t7):M2.check u≠y:=by
 rintro rfl;let(c,a,e):=h;rw[Alv 2 _ c a] at e;cases e
def Av0(hs:Siz sz):Pu P Hi[[.str[mJ " " sz],.int sz]] .bl[t7]:=by
 have:=hs.1;have:=hs.2;let c:=Al1 sz;let a:tl[mJ " " sz]=bV sz.toNat 32:=xZ ..
 refine Bf5[Bf3 ?_ () () (Ba3 (32,?_,()))]
 .refine Ag7 ?_;show (tl[mJ " " sz]).all M2.okC=t8;rw[a,wL];split <;> decide
 .rw[cutE,a,c,List.drop_replicate];exact wJ.mpr ((),rfl)
def tk(c:Int)(z:t6):t6:=⟨(z.cps.toList.take c.toNat).toArray⟩
def dp(c:Int)(z:t6):t6:=⟨(z.cps.toList.drop c.toNat).toArray⟩
def Bof{c:Int}{n:Nat}(h:(n:Int)<=c):eY sy sr[c] 1 n=eY sy (sr (n:Int)) 1 n:=by
 unfold eY;dsimp only;rw[dm (by omega:¬ c < 0),dm (by omega:¬ (n:Int) < 0)]
 congr 1
 omega
def Blb{k n:Nat}(h:n<=k):eY (sr (k:Int)) sr[(k:Int)+1] 1 n=[]:=by
 unfold eY sliceRange;simp only[show (1:Int) > 0 from by decide,if_true,dm (show ¬ (k:Int) < 0 by omega),dm (show ¬ (k:Int)+1 < 0 by omega)]
 rw[dm ()]
 rfl
def Bhe{z:t6}{c:Int}(h:0<=c):cO z sy sr[c]=tk c z:=by
 by_cases d:c<=z.length
 .let(k,rfl):=oJ h;rw[Ku ()]
  unfold cut tk;simp
 .let e:cO z sy sr[c]=cO z sy (sr (z.length:Int)):=by
   unfold cO;rw[Bof ()]
  rw[e,Ab7 rfl];unfold tk;rw[dR (by rw[aX];show z.length<=_;omega)]
def Bog{z:t6}{c:Int}(h:0<=c):cO z sr[c] sy=dp c z:=by
 by_cases d:c<=z.length
 .let(k,rfl):=oJ h;rw[Aqw ()]
  unfold cut dp;rw[dR (by rw[dX,aX];exact aM _)]
  rfl
 .rw[aCj ()]
  unfold dp;rw[dC (by rw[aX];show z.length<=_;omega)]
  rfl
def Ba4{z:t6}{k:Nat}:cO z (sr (k:Int)) sr[(k:Int)+1]=⟨((z.cps.toList.drop k).take 1).toArray⟩:=by
 by_cases d:k < z.length
 .rw[show ((k:Int)+1)=((k+1:Nat):Int) from rfl,Vu () d]
  unfold cut;rw[show k+1 - k=1 by omega]
 .rw[dC (by rw[aX];show z.length<=_;omega)]
  unfold cO;rw[Blb ()]
  split
  .rename_i e;let e:0=z.length:=by simpa using e
   obtain⟨a⟩:=z;exact congrArg aEj lG[e.symm]
  .rfl
def Boh{c:Int}(h:M2.Cj z=t8):M2.Cj[tk c z]=t8:=by
 unfold M2.Cj at h ⊢
 rw[bB] at h ⊢
 exact λc a=>h c mV[a]
def Boi{c:Int}(h:M2.Cj z=t8):M2.Cj[dp c z]=t8:=by
 unfold M2.Cj at h ⊢
 rw[bB] at h ⊢
 exact λc a=>h c pX[a]
def Boj(h:M2.Cj x=t8)(k:M2.Cj y=t8):M2.Cj[x ++ y]=t8:=by
 unfold M2.Cj at h k ⊢
 show ((x.cps ++ y.cps).toList).all _=t8;rw[iY,uF,h,k];rfl
def Ba5(c:Int)(z:t6):(tk c z).length=min c.toNat z.length:=by
 show ((z.cps.toList.take _).toArray).size=_;rw[cC,dW,aX];rfl
def Ba6(c:Int)(z:t6):(dp c z).length=z.length - c.toNat:=by
 show ((z.cps.toList.drop _).toArray).size=_;rw[cC,dX,aX];rfl
def lf(c:Int)(z o:t6):t6:=tk c z ++ dp c o
def Blc{c:Int}(h:z.length=x.length):(lf c z x).length=x.length:=by
 unfold lf;rw[len_app,Ba5,Ba6];omega
def Bok{c:Int}(h:M2.Cj z=t8)(k:M2.Cj x=t8):M2.Cj[lf c z x]=t8:=Boj Boh[h] Boi[k]
def Ba7(n:Int):M2.Cj[mJ " " n]=t8:=by
 let a:tl[mJ " " n]=bV n.toNat 32:=xZ ..
 show (tl[mJ " " n]).all M2.okC=t8;rw[a,wL];split <;> decide
end
inductive Ro where
 |d|t|r|e|x|y
structure Wd(n:Nat)(A:Ro->Nat)(C:Ro->Cell)(S:Store):Prop where
 inj:∀x y,A x=A y->x=y
 at_:∀x,S[A x]?=sr (C x)
 tp:Tp n S
 nt:∀x,A x≠n
 lo:∀x,5<=A x
 ln:5<=n
 tb:∀(j:Nat)(c:Cell),(Rb qs)[j]?=sr c->S[j]?=sr c
structure St where
 sz:Int
 xs:List t6
 rs:List t6
 b:Int
 o:Bool
 tn:Int
 sd:Int
def dF(sz:Int)(t r:Nat)(b:Int)(o:Bool)(tn sd:Int):lg[t6×W]:=[("size",.int sz),("page_texts",.ref t),("row_texts",.ref r),("begun",.int b),("off",.bl o),("turns_left",.int tn),("signs_done",.int sd)]
def due(i:Int):W:=if i=0 then .non else .int i
def wD(sz:Int)(x y:Nat)(b:Int)(du:W)(sd:Int)(o:Bool):lg[Key×W]:=[(.inr "size",.int sz),(.inr "texts",.ref x),(.inr "rows",.ref y),(.inr "begun",.int b),(.inr "due",du),(.inr "cut",.int sd),(.inr "off",.bl o)]
def cel(A:Ro->Nat)(s u:St):Ro->Cell
 |.d=>.ins 14 (dF s.sz A[.t] A[.r] s.b s.o s.tn s.sd)
 |.t=>.lst s.xs.map[W.str]
 |.r=>.lst s.rs.map[W.str]
 |.e=>.dct (wD u.sz A[.x] A[.y] u.b due[u.tn] u.sd u.o)
 |.x=>.lst u.xs.map[W.str]
 |.y=>.lst u.rs.map[W.str]
structure Gd(N:Nat)(s:St):Prop where
 hs:Siz s.sz
 tx:∀z∈s.xs,z.length=s.sz.toNat/\M2.Cj z=t8
 ro:∀z∈s.rs,z.length<=100/\M2.Cj z=t8
 lx:s.xs.length<=N
 lr:s.rs.length<=N
 hN:N<=900
 tn:0<=s.tn
 sd:0<=s.sd
def bg(s:St):St:=if s.tn<=0 then { s with b:=s.b+1 } else { s with b:=s.b+1,tn:=s.tn - 1,o:=decide[s.tn - 1=0] }
noncomputable def upA(A:Ro->Nat)(x0:Ro)(a:Nat):Ro->Nat:=λx=>@ite _ (x=x0) aBq[_] a A[x]
section
variable{n:Nat}{A:Ro->Nat}{C C':Ro->Cell}{s u:St}{x0 x1:Ro}{S S':Store}{L:lg Nat}
def Ei{a:Nat}{x:Ro}(h:x≠x0):upA A x0 a x=A x:=dm h
def Q4{a:Nat}:upA A x0 a x0=a:=di rfl
def Wd.ne(W:Wd n A C S){x y:Ro}(h:x≠y):A x≠A y:=λe=>h[W.inj _ _ e]
def Wd.lt(W:Wd n A C S)(x:Ro):A x < S.length:=Ff W.at_[x]
def Abe{j:Nat}{c:Cell}(h:(Rb qs)[j]?=sr c):j < 5:=(aJ.mp h).1
theorem Wd.up(W:Wd n A C S)(f:Fr L S S')(b:∀i∈L,∃x,i=A x/\S'[A x]?=sr C'[x])(h:∀x,A x∉L->C' x=C x):Wd n A C' S' where
 inj:=W.inj
 nt:=W.nt
 lo:=W.lo
 ln:=W.ln
 tb:=λj c e=>f.at[W.tb j c e] λz=>by
  let(x,k,_):=b j z;have:=W.lo x;have:=Abe e;omega
 tp:=W.tp.mv f λz=>by
  let(x,e,_):=b n z;exact W.nt x e.symm
 at_:=λx=>by
  by_cases a:A x∈L
  .let(y,e,g):=b _ a;rw[W.inj _ _ e];exact g
  .rw[h x a];exact f.at W.at_[x] a
def Wd.up1(W:Wd n A C S)(f:Fr [A x0] S S')(b:S'[A x0]?=sr C'[x0])(h:∀x,x≠x0->C' x=C x):Wd n A C' S':=(
 W.up f (λi hi=>(x0,aZ.mp hi,b)) λx a=>h x λe=>a (by rw[e];exact aZ.mpr rfl))
theorem Wd.draw(W:Wd n A C S)(f:Fr [n] S S')(h:Tp n S'):Wd n A C S':=(W.inj,λx=>f.at1 W.at_[x] W.nt[x],h,W.nt,W.lo,W.ln,λj c e=>f.at1 (W.tb j c e) (by have:=Abe e;have:=W.ln;omega))
def Wd.mv(W:Wd n A C S)(f:Fr L S S')(hn:n∉L)(hA:∀x,A x∉L)(ht:∀j < 5,j∉L):Wd n A C S':=(W.inj,λx=>f.at W.at_[x] hA[x],W.tp.mv f hn,W.nt,W.lo,W.ln,λj c e=>f.at[W.tb j c e][ht j Abe[e]])
def Wd.grow(W:Wd n A C S)(f:Fr [] S S'):Wd n A C S':=(W.mv f () (λx=>by simp) λj a=>by simp)
theorem Wd.re{a:Nat}(W:Wd n A C S)(f:Fr [A x1] S S')(l:S.length<=a)(k:S'[a]?=sr C'[x0])(i:S'[A x1]?=sr C'[x1])(h:∀x,x≠x0->x≠x1->C' x=C x)(ne:x1≠x0):Wd n (upA A x0 a) C' S' where
 inj:=λx y e=>by
  by_cases ex:x=x0
  .by_cases b:y=x0
   .rw[ex,b]
   .subst ex;rw[Q4,Ei b] at e;have:=W.lt y;omega
  .by_cases b:y=x0
   .subst b;rw[Q4,Ei ex] at e;have:=W.lt x;omega
   .rw[Ei ex,Ei b] at e;exact W.inj _ _ e
 nt:=λx e=>by
  by_cases ex:x=x0
  .subst ex;rw[Q4] at e;have:=W.tp.lt;omega
  .rw[Ei ex] at e;exact W.nt x e
 lo:=λx=>by
  by_cases ex:x=x0
  .subst ex;rw[Q4];have:=W.lt x1;have:=W.lo x1;omega
  .rw[Ei ex];exact W.lo x
 ln:=W.ln
 tb:=λj c e=>f.at1 (W.tb j c e) (by have:=Abe e;have:=W.lo x1;omega)
 tp:=W.tp.mv f λz=>W.nt x1 (aZ.mp z).symm
 at_:=λx=>by
  by_cases ex:x=x0
  .subst ex;rw[Q4];exact k
  .rw[Ei ex];by_cases g:x=x1
   .subst g;exact i
   .rw[h x ex g];exact f.at1 W.at_[x] W.ne[g]
end
def Bqx(a:Nat->Bool)(i:Nat)(su:MS)(K:RS->Prop):RS->Prop
 |.ex c δ1 S1=>a c.1=t8/\Wb su (δ1.set i sr[.exn c.1 c.2]) S1 λr=>match r with
  |.rt w S2=>K (.rt w S2)
  |_=>False
 |r=>K r
inductive Told:Nat×W->t6->Prop
 |num:Told (u6 1 .non) "number "
 |txt:Told (u6 2 .non) "text "
 |pag {w:W}:Told (u6 6 w) "page "
 |gon:Told (u6 10 .non) "gone "
section
variable{P:SP}{δ:De}{S S':Store}{n j k i:Nat}{f:De->M W}{Q:W->Store->Prop}{X:Nat×W->Store->Prop}{ws us:lg W}{l:Lm}{cap:lg Nat}{K:RS->Prop}{b b':MS}
def As9{a:Nat->Bool}{e:MS}(h:Wb b δ S (Bqx a i e (Ss b' K))):Wb Ae[Aur a i b e][b'] δ S K:=by
 refine Hd ⟨?_⟩;let h:=h.un;unfold Aur;revert h;cases b δ S with
 |ex c d o=>
  rintro⟨m,h⟩;let h:=h.un;dsimp only;rw[di m];revert h;cases e (d.set i sr[.exn c.1 c.2]) o <;> first|exact λh=>h|exact λh=>h.elim
 |_=>exact λh=>h
def Ata{c d:Cell}:(S ++ [c]).set S.length d=S ++ [d]:=by
 rw[uK _ _ aM[_],gB];rfl
theorem Atb{c a:Store}(f:Fr [] c a):Fr [n] c (a.set n .dead):=(by rw[gJ];exact f.len,λi hi d=>by
 rw[cW (by simp at d;omega)]
 exact f.get i hi ())
def Aeu(o:Cz (λi=>δ.getD i sy) cap=sr ws)(g:S[j]?=sr .tab[l.qual])(r:md.lams Bj Ay Am l=lamF k f)(e:ws.length=k)(p:W5 l=t8)(h:Wm[f ws.map[sr]][S ++ [.dead]] λv c=>S.length < c.length/\∀m a,Fr [S.length] c a->a[m]?=sr .lst[[v]]->c.length<=m->Q .ref[m] a):Wm (Dy j l cap Bv δ) S Q:=by
 refine Ast o g (Ck rfl As9[Cu[Lr[Av[Ava[?_]]]]]);refine Bq rfl (_,l,ws,rfl,Kq,p,?_);rw[Ata,r];refine Be (show Wm (lamF k f ws) _ _ by unfold lamF;rw[di e];exact h) ?_
 rintro v c ⟨u,q⟩;refine Bg[Cd (show 1<=big by decide) λm a t s d=>?_]
 refine q m _ Atb[t] ?_ d;rw[cW ()]
 exact s
def Ba8{c:Nat×W}{z:t6}(h:Told c z):exm 0 c.1=t8/\Pu P Tr[[.exn c.1 c.2]] .str[z]:=by
 cases h <;> exact(by rfl',λS e=>([],by rw[bU];rfl'))
def Mw(r:Cz (λi=>δ.getD i sy) cap=sr ws)(p:S[j]?=sr .tab[l.qual])(u:md.lams Bj Ay Am l=lamF k f)(o:ws.length=k)(s:W5 l=t8)(h:WmX[f ws.map[sr]][S ++ [.dead]] λc a=>S.length < a.length/\∃z,Told c z/\∀m d,Fr [S.length] a d->d[m]?=sr .lst[[.str z]]->a.length<=m->Q .ref[m] d):Wm (Dy j l cap Bv δ) S Q:=by
 refine Ast r p (Ck rfl As9[Be1[Be2[Aqa[?_]]]]);refine Bq rfl (_,l,ws,rfl,Kq,s,?_);rw[Ata,u];let(c,a,e,A,z,t,q):=h;refine(c,a,by unfold lamF;rw[di o];exact e,(Ba8 (P:=SP.any) t).1,?_)
 refine Cu Lr[Av[Fg[Av[Bq rfl Bg[Cw (Ba8 t).2 λd g=>Bg ?_]]]]];refine Cd (show 1<=big by decide) λm B w v x=>?_
 let y:=g.len;exact q m _ Atb[g.then0[w]] (by rw[cW ()];exact v) ()
def Atc(h:WmX f[δ] S λc a=>K[.ex c δ a]):Wb Ae[Bx i f][b'] δ S K:=(Hd ⟨by
 let(c,a,e,q):=h;unfold Bx Gu;rw[e];exact q⟩)
def Aov(h:WmX f[δ] S λc a=>K[.ex c δ a]):Wb (Ae Hu[f] b') δ S K:=(Hd ⟨by
 let(c,a,e,q):=h;unfold Hu Gu;rw[e];exact q⟩)
end
section
variable{n N:Nat}{A:Ro->Nat}{s u:St}{S S':Store}{Q:W->Store->Prop}{X:Nat×W->Store->Prop}{K:RS->Prop}{z:t6}
def Wd.d(V:Wd n A (cel A s u) S):S[A .d]?=sr .ins[14][dF s.sz A[.t] A[.r] s.b s.o s.tn s.sd]:=V.at_ .d
def Wd.setd{s':St}(V:Wd n A (cel A s u) S)(f:Fr [A .d] S S')(h:S'[A .d]?=sr .ins[14][dF s'.sz A[.t] A[.r] s'.b s'.o s'.tn s'.sd])(i:s'.xs=s.xs)(g:s'.rs=s.rs):Wd n A (cel A s' u) S':=(
 V.up1 (x0:=.d) f h λx a=>by
  cases x <;> first|exact absurd rfl a|rfl|exact congrArg (λl=>Cell.lst[aAv W.str l]) i|exact congrArg (λl=>Cell.lst[aAv W.str l]) g)
def Ahd(V:Wd n A (cel A s u) S)(g:s.o=t7)(k:z.length<=big)(q:∀S',Wd n A (cel A bg[s] u) S'->S.length<=S'.length->Q (.int (if (bg s).o then s.sd else z.length)) S'):Wm Iw[[.ref A[.d],.str z]] S Q:=by
 let h:=V.d;rw[g] at h;unfold dF at h;refine Ck rfl Er[?_]
 symm;refine Gn h (by rfl') rfl λx i l=>?_;symm;refine Hf[λp=>?_] λp=>?_
 .symm
  refine Gn l (by rfl') rfl λy v r=>?_;symm;refine Gn r (by rfl') rfl λw t m=>?_
  let e:bg s={ s with b:=s.b+1,tn:=s.tn - 1,o:=decide[s.tn - 1=0] }:=dm ()
  let f:=(i.same v).same t;let j:=V.setd (s':=bg s) f (by rw[e];exact m) (by rw[e]) (by rw[e])
  let q:=q w j f.len;symm;rw[e] at q;refine Bkr[λc=>?_] λc=>?_
  .symm
   rw[show (({ s with b:=s.b+1,tn:=s.tn - 1,o:=decide[s.tn - 1=0] }:St).o)=t8 from dj c] at q
   exact q
  .symm
   rw[show (({ s with b:=s.b+1,tn:=s.tn - 1,o:=decide[s.tn - 1=0] }:St).o)=t7 from dq c] at q
   exact Aab k q
 .let e:bg s={ s with b:=s.b+1 }:=di ()
  let j:=V.setd (s':=bg s) i (by rw[e];show _=sr Cell.ins[14][dF _ _ _ _ s.o _ _];rw[g];exact l) (by rw[e]) (by rw[e])
  let q:=q x j i.len;rw[e] at q
  symm;rw[show (({ s with b:=s.b+1 }:St).o)=t7 from g] at q
  exact Aab k q
def Ab9(V:Wd n A (cel A s u) S)(b:s.o=t8)(q:X (u6 10 .non) S){w:D.W}:WmX Iw[[.ref A[.d],w]] S X:=by
 let h:=V.d;rw[b] at h;unfold dF at h;refine Ls rfl Er[?_]
 symm;exact Pk Av[G3[Bg (show 1<=big by decide,q)]]
def Al2{b:De}{U:lg[(Nat×t6)×Fi]}(V:Wd n A (cel A s u) S)(hd:b[0]?=sr sr[.ref[A[.d]]])(g:U.lookup[u6 14 ("end_write":t6)]=sr ((g_Disk_end_write,1,[]):Fi))(j:s.o=t8->K .ex[u6 10 .non][b][S])(k:s.o=t7->K[.nx b S]):Wb (Ae Hu[Bh (λc n=>U.lookup[u6 c n]) "end_write" Aa[0] nilF] Aj) b S K:=by
 let h:=V.d;unfold dF at h;cases e:s.o with
 |true=>
  rw[e] at h;refine Aov Jt[Bq[hd][Ec h rfl g Bg[Ju rfl ?_]]];refine Ls rfl Er[?_]
  symm;exact Pk Av[G3[Bg (show 1<=big by decide,j e)]]
 |false=>
  rw[e] at h;refine Aep W9[Bq[hd][Ec h rfl g Bg[Xa rfl ?_]]];refine Ck rfl Er[?_]
  symm;exact K3 k[e]
end
def wrS(xs:lg t6)(k:Nat)(z:t6):lg t6:=xs.take k ++ z::xs.drop[k+1]
def oldS(s:St)(k:Nat):t6:=(s.xs ++ [mJ " " s.sz]).getD k ""
def lv(s:St)(z o:t6):t6:=if (bg s).o then lf s.sd z o else z
def wrt(s:St)(k:Nat)(z:t6):St:={ bg s with xs:=wrS s.xs k lv[s][z][oldS s k] }
def addd(s:St)(z:t6):St:={ bg s with rs:=s.rs ++ [lv s z ""] }
section
variable{n N k:Nat}{A:Ro->Nat}{s u:St}{S S':Store}{Q:W->Store->Prop}{X:Nat×W->Store->Prop}{K:RS->Prop}{z:t6}{p:Pg}{δ:De}
def Wx:(bg s).sz=s.sz:=by unfold bg;split <;> rfl
def Ajt:(bg s).xs=s.xs:=by unfold bg;split <;> rfl
def Aju:(bg s).rs=s.rs:=by unfold bg;split <;> rfl
def Aow:(bg s).sd=s.sd:=by unfold bg;split <;> rfl
def Bol{o:t6}(h:0<=s.sd)(l:o.length=z.length\/o=""):cO z sy (sr (if (bg s).o=t8 then s.sd else (z.length:Int))) ++ cO o (sr (if (bg s).o=t8 then s.sd else (z.length:Int))) sy=lv s z o:=by
 unfold lv;cases (bg s).o with
 |true=>
  show cO z sy sr[s.sd] ++ cO o sr[s.sd] sy=lf s.sd z o;rw[Bhe h,Bog h];rfl
 |false=>
  show cO z sy (sr (z.length:Int)) ++ cO o (sr (z.length:Int)) sy=z;rw[Ab7 rfl];rcases l with l|rfl
  .rw[Avz ()]
   exact As7 z
  .rw[aCj (show ((0:Nat):Int)<=_ by omega)]
   exact As7 z
def Bld{xs:lg t6}{v:t6}(h:k < xs.length):(xs.map W.str).set k .str[v]=(wrS xs k v).map W.str:=by
 unfold wrS;rw[List.set_eq_take_append_cons_drop,di (by rw[aK];exact h),dJ,aBj,cB,sO]
def Ble{xs:lg t6}{v:t6}{w:W}:(xs.map W.str ++ [w]).set xs.length .str[v]=(wrS xs xs.length v).map W.str:=by
 unfold wrS;rw[pL,dC fM[_],dJ,uK _ _ (by rw[aK];exact aM _),aK,gB]
 rfl
def Wd.sett{a:lg t6}(V:Wd n A (cel A s u) S)(f:Fr [A .t] S S')(h:S'[A .t]?=sr .lst[a.map[W.str]]):Wd n A (cel A { s with xs:=a } u) S':=(
 V.up1 (x0:=.t) f h λx g=>by cases x <;> first|exact absurd rfl g|rfl)
def Wd.setr{a:lg t6}(V:Wd n A (cel A s u) S)(f:Fr [A .r] S S')(h:S'[A .r]?=sr .lst[a.map[W.str]]):Wd n A (cel A { s with rs:=a } u) S':=(
 V.up1 (x0:=.r) f h λx g=>by cases x <;> first|exact absurd rfl g|rfl)
def Aox(V:Wd n A (cel A s u) S)(G:Gd N s)(B:Fits s.sz p)(hk:k<=s.xs.length)(h2:s.o=t8->∀δ S',Wd n A (cel A s u) S'->Fr [] S S'->K .ex[u6 10 .non][δ][S'])(h1:s.o=t7->(bg s).o=t8->∀δ S',Wd n A cel[A][wrt s k p.text[s.sz]][u] S'->S.length<=S'.length->K .ex[u6 10 .non][δ][S'])(h0:s.o=t7->(bg s).o=t7->∀δ S',Wd n A cel[A][wrt s k p.text[s.sz]][u] S'->S.length<=S'.length->K[.nx δ S']):
  Wb Qv (Df 5 [.ref A[.d],.int k,.str p.text[s.sz]]) S K:=by
 let hs:=G.hs;let s1:=hs.1;let s2:=hs.2;let lt:=Ab6 B hs;let lb:(p.text s.sz).length<=big:=by rw[lt];exact aF (show s.sz.toNat<=200 by omega) ()
 let H:(s.xs.map W.str).length=s.xs.length:=aK _;let hd:=V.d;let ht:S[A .t]?=sr .lst[s.xs.map[W.str]]:=V.at_ .t;unfold dF at hd;refine Dq ?_
 symm;refine Cw (a:=false) (Pu.cast Fb[Cq Ag[Ac[Ab Af[rfl] Ad][Eu _]]][Fb Ag[Ao Af[rfl] Ak Sd] Ag[Ao Af[rfl] Af[rfl] Rc]] (by rw[dq (),dq ()];rfl)) λS1 T=>?_;symm;refine Cw[Bf1 B hs] λS2 P=>?_;symm;refine Wh Cg[?_];let F:=V.grow T.then0[P];let y:=F.d;unfold dF at y;by_cases l:s.o=t8
 .refine Atc Jt[Bq[rfl][Ec y rfl rfl Av[Bq rfl Bg[Ju rfl ?_]]]];exact Ab9 F l (h2 l _ _ F T.then0[P])
 .let l:s.o=t7:=by simpa using l
  symm;refine Ahd F l lb λZ m l3=>?_;let l0:S.length<=Z.length:=aF (T.then0 P).len l3;generalize J:(if (bg s).o=t8 then s.sd else ((p.text s.sz).length:Int))=dn
  let L:=m.d;let g:Z[A .t]?=sr .lst[(bg s).xs.map W.str]:=m.at_ .t;rw[Ajt] at g;let go:∀(E:lg W)(j:Store),S.length<=j.length->E[k]?=sr .str[oldS s k]->j[A .d]?=sr .ins[14][dF (bg s).sz A[.t] A[.r] (bg s).b (bg s).o (bg s).tn (bg s).sd]->j[A .t]?=sr .lst[E]->(∀v,E.set k .str[v]=(wrS s.xs k v).map W.str)->(∀q v,Fr [A .t] j q->q[A .t]?=sr .lst[(wrS s.xs k v).map W.str]->Wd n A (cel A { bg s with xs:=wrS s.xs k v } u) q)->Wb (Ae aA4
 (Ae Hu[Bh (λc n=>Al.lookup[u6 c n]) "end_write" Aa[0] nilF]
 Aj)) [sr .ref[A[.d]],sr[.int (k:Int)],sr .str[p.text[s.sz]],sr .int[(s.xs.map W.str).length],sr .int[dn]] j K:=λE j l4 I a4 b4 hw hv=>by
   let lo:(oldS s k).length=s.sz.toNat:=by
    unfold oldS;by_cases e:k < s.xs.length
    .rw[bL,aW e,aQ e];exact(G.tx _ jB[e]).1
    .rw[bL,bA (),show k - s.xs.length=0 by omega]
     exact Al1 _
   unfold dF at a4
   symm;refine Af7 lb ?_;symm;refine Ia b4 (by rw[As8 (aJ.mp I).1];exact I) ?_;symm;refine Af7 (by rw[lo];exact aF (show s.sz.toNat<=200 by omega) ()) ?_
   refine Ak8 (by
    let a:=xG p.text[s.sz] sy sr[dn];let b:=xG (oldS s k) sr[dn] sy;rw[lt] at a;rw[lo] at b;exact aF (show _<=400 by omega) ()) ?_
   rw[<-J,Bol G.sd .inl[by rw[lo,lt]]];symm;refine Beu b4 () (by have:=(aJ.mp I).1;omega) λq x w=>?_
   rw[gA,hw] at w;let Y:=hv q _ x w;let l5:=x.len;exact Al2 Y rfl rfl (λe=>h1 l e _ _ Y ()) λe=>h0 l e _ _ Y ()
  unfold dF at L
  symm;refine Hf (c:=(k:Int)=(s.xs.map W.str).length) (λe=>?_) λe=>?_
  .symm
   refine(_,_,rfl,g,?_);symm;refine Alc (by rw[Wx,dj (by omega:-1048576<=s.sz),dj (by omega:s.sz<=1048576)];rfl) ?_;symm;refine Aeq g (by rw[H];have:=G.lx;have:=G.hN;exact jG (show _<=900 by omega) ()) λj O h4=>Cg ?_
   obtain rfl:k=s.xs.length:=by omega
   let l4:=O.len;refine go _ j () ?_ O.at1[m.d][m.ne λh=>nomatch h] h4 (λv=>Ble) λq v x w=>m.sett O.same[x] w
   unfold oldS;rw[<-H,bA aM[_],gB,Wx,H,bL,bA aM[_],gB];rfl
  .let i:k < s.xs.length:=by omega
   refine Cg[go _ Z l0 ?_ m.d g (λv=>Bld i) λq v x w=>m.sett x w];unfold oldS;rw[bJ,aQ i,bL,aW i,aQ i];rfl
end
section
variable{n N k a:Nat}{A:Ro->Nat}{s u:St}{S S':Store}{Q:W->Store->Prop}{X:Nat×W->Store->Prop}{K:RS->Prop}{z:t6}{p:Pg}{δ:De}{v w:W}{us:lg W}
def lv0(h:0<=s.sd):cO z sy (sr (if (bg s).o=t8 then s.sd else (z.length:Int)))=lv s z "":=by
 unfold lv;cases (bg s).o with
 |true=>
  show cO z sy sr[s.sd]=lf s.sd z "";rw[Bhe h];unfold lf;rw[show dp s.sd ""=⟨#[]⟩ by unfold dp;rw[show ("":t6).cps.toList=[] from rfl,aBk]]
  rfl
 |false=>exact Ab7 rfl
def Ba9(V:Wd n A (cel A s u) S)(G:Gd N s)(x:M2.Cj z=t8)(t:z.length<=100)(B:s.o=t8->∀δ S',Wd n A (cel A s u) S'->Fr [] S S'->K .ex[u6 10 .non][δ][S'])(C:s.o=t7->(bg s).o=t8->∀δ S',Wd n A cel[A][addd s z][u] S'->S.length<=S'.length->K .ex[u6 10 .non][δ][S'])(E:s.o=t7->(bg s).o=t7->∀δ S',Wd n A cel[A][addd s z][u] S'->S.length<=S'.length->K[.nx δ S']):
  Wb Xf (Df 3 [.ref A[.d],.str z]) S K:=by
 let g:z.length<=big:=aF t ()
 refine Ib[Cw Cq[Ag[Ac[Ab Af[rfl] Ad][Aer z g]]] λO j=>(by rw[x];rfl,?_)]
 let f:=V.grow j;let hd:=f.d;unfold dF at hd;by_cases c:s.o=t8
 .refine Atc Jt[Bq[rfl][Ec hd rfl rfl Av[Bq rfl Bg[Ju rfl ?_]]]];exact Ab9 f c (B c _ _ f j)
 .let c:s.o=t7:=by simpa using c
  symm;refine Ahd f c g λH m J=>?_;let L:=j.len;let i:=m.d;let h:H[A .r]?=sr .lst[(bg s).rs.map W.str]:=m.at_ .r;rw[Aju] at h;unfold dF at i
  symm;refine(_,_,rfl,h,?_);symm;refine Af7 g ?_;rw[lv0 G.sd];symm;refine Aeq h (by rw[aK];have:=G.lr;have:=G.hN;exact jG (show _<=900 by omega) ()) λF q y=>?_
  let l:Wd n A cel[A][addd s z][u] F:=m.setr q (by rw[dJ];exact y)
  let I:=q.len;exact Al2 l rfl rfl (λe=>C c e _ _ l ()) λe=>E c e _ _ l ()
def Aoy(V:Wd n A (cel A s u) S)(L:s.o=t8->∀δ S',Wd n A (cel A s u) S'->Fr [] S S'->K .ex[u6 10 .non][δ][S'])(O:s.o=t7->(bg s).o=t8->∀δ S',Wd n A (cel A bg[s] u) S'->S.length<=S'.length->K .ex[u6 10 .non][δ][S'])(P:s.o=t7->(bg s).o=t7->∀a δ S',Wd n (upA A .r a) (cel (upA A .r a) { bg s with rs:=[] } u) S'->S.length<=a->S.length<=S'.length->K[.nx δ S']):
  Wb Qx (Df 1 [.ref A[.d]]) S K:=by
 let hd:=V.d;unfold dF at hd;by_cases f:s.o=t8
 .refine Aov Jt[Bq[rfl][Ec hd rfl rfl Av[G3[Bg[Ju rfl ?_]]]]];exact Ab9 V f (L f _ _ V (aM _,λq q q=>rfl))
 .let f:s.o=t7:=by simpa using f
  refine Aep ?_;symm;refine Ahd (z:="") V f () λS2 l E=>?_
  let c:=l.d;cases g:(bg s).o with
  |true=>
   rw[g] at c;unfold dF at c
   symm;refine Cg ?_;exact Al2 l rfl rfl (λe=>O f e _ _ l E) λe=>by rw[g] at e;cases e
  |false=>
   rw[g] at c;unfold dF at c
   symm;refine Su ?_;symm;refine Cd (show 0<=big by decide) λa S3 j J C=>?_;symm;refine Gn j.at0[c] (by rfl') rfl λZ m I=>K3 (Cg ?_).un
   let V3:=l.grow j;let ne:a≠A .d:=by have:=l.lt .d;omega
   let Y:upA A .r a .d=A .d:=Ei λh=>nomatch h;let B:Wd n (upA A .r a) (cel (upA A .r a) { bg s with rs:=[] } u) Z:=by
    refine Wd.re (x0:=.r) (x1:=.d) l (a:=a) (aF j.len m.len,λi hi F=>by rw[m.get i (aO hi j.len) F,j.get i hi ()]) C (m.at1 J ne) ?_ ?_ λh=>nomatch h
    .show _=sr Cell.ins[14][dF _ (upA A .r a .t) (upA A .r a .r) _ _ _ _];rw[Q4,show upA A .r a .t=A .t from Ei λh=>nomatch h];show _=sr Cell.ins[14][dF _ _ _ _ (bg s).o _ _];rw[g];exact I
    .intro x H G;cases x <;> first|exact absurd rfl H|exact absurd rfl G|rfl|skip
     show Cell.dct[wD _ (upA A .r a .x) (upA A .r a .y) _ _ _ _]=_;rw[show upA A .r a .x=A .x from Ei[λh=>nomatch h],show upA A .r a .y=A .y from Ei[λh=>nomatch h]];rfl
   let l4:=m.len;let l5:=j.len;let T:(Df 1 [W.ref A[.d]])[0]?=sr sr[W.ref[upA A .r a .d]]:=by rw[Y];rfl
   exact Al2 (U:=Mu) B T rfl (λe=>by rw[show ({ bg s with rs:=[] }:St).o=(bg s).o from rfl,g] at e;cases e) λe=>P f g a _ _ B () ()
end
inductive Q5(m:Int)(S:Store):W->Prop
 |no {w:W}:(∀S,Dr [w] S=.ok (.bl t7) S)->Q5 m S w
 |lst {a:Nat} {us:List W}:S[a]?=sr (.lst us)->Q5 m S (.ref a)
 |lo {i:Int}:i < m->Q5 m S (.int i)
inductive Av1(m:Int):W->Prop
 |no {w:W}:(∀S,Dr [w] S=.ok (.bl t7) S)->Av1 m w
 |lo {i:Int}:i < 0->Av1 m (.int i)
 |hi {i:Int}:m < i->Av1 m (.int i)
section
variable{n N k a:Nat}{A:Ro->Nat}{s u:St}{S S':Store}{Q:W->Store->Prop}{X:Nat×W->Store->Prop}{K:RS->Prop}{z:t6}{p:Pg}{δ:De}{v w:W}{us:lg W}{i j m:Int}{b' b2:MS}
def Av2:Pu[Aqu SP.any a .lst[us]][Dr [.ref a]][.bl t7]:=(Bt rfl (Bo (Bc (Ap4 (p:=false) (q:=true) (Ac Ab[Af rfl][Ab Ak Ad] λS b=>([],by
 let e:S[a]?=sr .lst[us]:=b.2;rw[bU];unfold Jl tyW;dsimp only;rw[e];rfl)) λh=>nomatch h))))
def Q5.mv(h:Q5 m S w)(f:Fr [] S S'):Q5 m S' w:=by
 cases h with
 |no h=>exact .no h
 |lst h=>exact .lst f.at0[h]
 |lo h=>exact .lo h
def Q5.wb{x:Nat}{b:MS}(h:Q5 m S w)(hd:δ[x]?=sr sr[w])(q:∀S',Fr [] S S'->Wb b δ S' (Ss b' K)):Wb Ae[ifS orT[Jk Dl[zA Dr Aa[x]]][tQ .Lt Aa[x] kI[m]] b Aj][b'] δ S K:=by
 cases h with
 |no e=>exact N5 Ala[Vr[Js[Fg[Av[Bq hd Bg[Iv[e _][tb (rfl,rfl,q S (aM _,λf f f=>rfl))]]]]]]]
 |lst e=>exact N5 Ala[Vr[Js[Fg[Av[Bq hd Bg[Acl Av2 (trivial,e) λd c=>tb (rfl,rfl,q d c)]]]]]]
 |lo l=>exact N5 (Cw (a:=true) (Pu.cast (Fb Cq[Ag[Ac[Ab Af[hd] Ad][Eu _]]] Ag[Ao Af[hd] Ak Sd]) (by rw[dj l];rfl)) λd c=>(rfl,q d c))
def Al3{x:Nat}{b:MS}(h:m<=i)(hd:δ[x]?=sr sr[.int[i]])(q:∀S',Fr [] S S'->Wb b' δ S' K):Wb Ae[ifS orT[Jk Dl[zA Dr Aa[x]]][tQ .Lt Aa[x] kI[m]] b Aj][b'] δ S K:=(
 Ib (Cw (a:=false) (Pu.cast (Fb Cq[Ag[Ac[Ab Af[hd] Ad][Eu _]]] Ag[Ao Af[hd] Ak Sd]) (by rw[dq ()];rfl)) λd c=>(rfl,q d c)))
def Bba(h:Q5 1 S w\/∃i,1<=i/\w=.int i/\Q5 0 S v)(q:∀S',Fr [] S S'->X (u6 1 .non) S'):WmX Vc[[.ref a,w,v]] S X:=by
 refine Ls rfl ?_;rcases h with h|⟨i,c,rfl,h⟩
 .exact h.wb rfl λe b=>Pk Av[G3[Bg (show 1<=big by decide,q _ b)]]
 .exact Al3 c rfl λe b=>(h.mv b).wb rfl λf d=>Pk Av[G3[Bg (show 1<=big by decide,q _ b.then0[d])]]
def Bf6(V:Wd n A (cel A s u) S)(t:1<=i)(r:0<=j)(q:∀S',Wd n A (cel A { s with tn:=i,sd:=j } u) S'->S.length<=S'.length->Q .non S'):Wm Vc[[.ref A[.d],.int i,.int j]] S Q:=by
 refine Ck rfl (Al3 t rfl λH y=>Al3 r rfl λG x=>?_);let f:=y.then0 x;let g:=V.grow f;let hd:=g.d;unfold dF at hd;let l:=f.len
 symm;refine Gn hd (by rfl') rfl λF e o=>?_;symm;refine Gn o (by rfl') rfl λC c h=>?_
 let B:=g.setd (s':={ s with tn:=i,sd:=j }) e.same[c] h rfl rfl
 let E:=(e.same c).len;symm;exact q C B ()
def Bom(V:Wd n A (cel A s u) S)(q:∀S',Wd n A (cel A { s with o:=false,tn:=0 } u) S'->S.length<=S'.length->Q .non S'):Wm Aiz[[.ref A[.d]]] S Q:=by
 let hd:=V.d;unfold dF at hd;refine Ck rfl Ak6[?_]
 symm;refine Gn hd (by rfl') rfl λt e g=>?_;symm;refine Gn g (by rfl') rfl λl c f=>?_
 let h:=V.setd (s':={ s with o:=false,tn:=0 }) e.same[c] f rfl rfl
 let r:=(e.same c).len;symm;exact q l h ()
def Aoz(V:Wd n A (cel A s u) S)(G:Gd N s)(q:∀m S',Fr [] S S'->S'[m]?=sr .lst[s.xs.map[W.str]]->S.length<=m->Q .ref[m] S'):Wm Aaf[[.ref A[.d]]] S Q:=by
 let hd:=V.d;unfold dF at hd;refine Ck rfl Cu[?_]
 symm;exact Ass V.at_[.t] (by rw[aK];have:=G.lx;have:=G.hN;exact aF (show _<=900 by omega) ()) q
def Atd(V:Wd n A (cel A s u) S)(G:Gd N s)(q:∀m S',Fr [] S S'->S'[m]?=sr .lst[s.rs.map[W.str]]->S.length<=m->Q .ref[m] S'):Wm Acs[[.ref A[.d]]] S Q:=by
 let hd:=V.d;unfold dF at hd;refine Ck rfl Cu[?_]
 symm;exact Ass V.at_[.r] (by rw[aK];have:=G.lr;have:=G.hN;exact aF (show _<=900 by omega) ()) q
def Av3(V:Wd n A (cel A s u) S)(q:Q .int[s.b] S):Wm Ws[[.ref A[.d]]] S Q:=by
 let hd:=V.d;unfold dF at hd;refine Ck rfl Cu[?_]
 symm;exact q
def Bbb(V:Wd n A (cel A s u) S)(q:Q .bl[s.o] S):Wm Ww[[.ref A[.d]]] S Q:=by
 let hd:=V.d;unfold dF at hd;refine Ck rfl Cu[?_]
 symm;exact q
def Bf7(V:Wd n A (cel A s u) S)(r:Av1 s.xs.length w)(q:∀S',Fr [] S S'->X (u6 1 .non) S'):WmX Qw[[.ref A[.d],w,v]] S X:=by
 let x:=V.d;let y:S[A .t]?=sr .lst[s.xs.map[W.str]]:=V.at_ .t;unfold dF at x;refine Ls rfl Dq[?_]
 symm;let o:(s.xs.map W.str).length=s.xs.length:=aK _;let c:∀f b',Fr [] S f->Wb (Ae Hc[1][Eo kF[.str["neither the number of a page that is there nor the next one"]] nilF] Aj) [sr .ref[A[.d]],sr w,sr v,sr .int[(s.xs.map W.str).length],sy] f (Ss b' Bnp[X]):=λf b' g=>Pk Av[G3[Bg (show 1<=big by decide,q _ g)]]
 cases r with
 |no e=>
  refine Ala Vr[Js[Fg[Av[Bq rfl Bg[?_]]]]];exact Iv e[_] (tb (rfl,Su[c S _ (aM _,λh h h=>rfl)]))
 |lo l=>
  exact Cw (a:=true) (Pu.cast Fb[Cq Ag[Ac[Ab Af[rfl] Ad][Eu _]]][Fb Ag[Ao Af[rfl] Ak Sd] Ag[Ao Af[rfl] Af[rfl] Rc]] (by rw[dj l];rfl)) λf g=>Su (c f _ g)
 |hi l=>
  exact Cw (a:=true) (Pu.cast Fb[Cq Ag[Ac[Ab Af[rfl] Ad][Eu _]]][Fb Ag[Ao Af[rfl] Ak Sd] Ag[Ao Af[rfl] Af[rfl] Rc]] (by rw[o,dj l,tV];rfl)) λf g=>Su[c f _ g]
def Av4(V:Wd n A (cel A s u) S)(G:Gd N s)(q:∀S',Fr [] S S'->X (u6 6 .int[0]) S'):WmX Qw[[.ref A[.d],.int 0,.str[mJ " " s.sz]]] S X:=by
 let c:=V.d;let l:S[A .t]?=sr .lst[s.xs.map[W.str]]:=V.at_ .t;unfold dF at c;refine Ls rfl Dq[?_]
 symm;let h:(s.xs.map W.str).length=s.xs.length:=aK _;refine Cw (a:=false) (Pu.cast Fb[Cq Ag[Ac[Ab Af[rfl] Ad][Eu _]]][Fb Ag[Ao Af[rfl] Ak Sd] Ag[Ao Af[rfl] Af[rfl] Rc]] (by rw[dq (),dq ()];rfl)) λo f=>?_;symm;refine Cw Av0[G.hs] λg e=>?_;symm;refine Su ?_;refine Au9 ?_;symm;exact(_,_,rfl,rfl,q g f.then0[e])
def Bf8(h:Wm Je[[w]] S λv b=>v=.bl t7/\X (u6 2 .non) b):WmX Ag0[[.ref a,w]] S X:=by
 refine Ls rfl ?_;refine N5 Vr[Js[Fg[Av[Bq rfl Bg[Be h ?_]]]]];rintro v b ⟨rfl,q⟩;exact tb (rfl,Pk Av[G3[Bg (show 1<=big by decide,q)]])
end
section
variable{n N k a:Nat}{A:Ro->Nat}{s u:St}{S S':Store}{Q:W->Store->Prop}{K:RS->Prop}{z o:t6}{δ:De}{v w:W}{us:lg W}
def Wd.e(V:Wd n A (cel A s u) S):S[A .e]?=sr .dct[wD u.sz A[.x] A[.y] u.b due[u.tn] u.sd u.o]:=V.at_ .e
def Wd.sete{g:St}(V:Wd n A (cel A s u) S)(f:Fr [A .e] S S')(h:S'[A .e]?=sr .dct[wD g.sz A[.x] A[.y] g.b due[g.tn] g.sd g.o])(p:g.xs=u.xs)(m:g.rs=u.rs):Wd n A (cel A s g) S':=(
 V.up1 (x0:=.e) f h λx i=>by
  cases x <;> first|exact absurd rfl i|rfl|exact congrArg (λl=>Cell.lst[aAv W.str l]) p|exact congrArg (λl=>Cell.lst[aAv W.str l]) m)
def Av5(V:Wd n A (cel A s u) S)(c:u.o=t8)(q:Q .str["none"] S):Wm Gp[[.ref A[.e]]] S Q:=by
 let h:=V.e;rw[c] at h;unfold wD at h;refine Ck rfl Er[?_]
 symm;exact q
def Av6(V:Wd n A (cel A s u) S)(j:u.o=t7)(J:0<=u.tn)(q:∀S',Wd n A (cel A s bg[u]) S'->Q (.str (if (bg u).o then "part" else "whole")) S'):Wm Gp[[.ref A[.e]]] S Q:=by
 let h:=V.e;rw[j] at h;unfold wD at h;refine Ck rfl Er[?_]
 symm;refine Ho h rfl (show 7 < big by decide) λB m f=>?_
 replace f:B[A .e]?=sr .dct[wD u.sz A[.x] A[.y] (u.b+1) due[u.tn] u.sd t7]:=f
 by_cases C:u.tn=0
 .let e:bg u={ u with b:=u.b+1 }:=di ()
  let H:Wd n A (cel A s bg[u]) B:=V.sete m (by rw[e];show _=sr Cell.dct[wD _ _ _ _ _ _ u.o];rw[j];exact f) (by rw[e]) (by rw[e])
  let q:=q B H;rw[show (bg u).o=t7 by rw[e];exact j] at q
  rw[show due u.tn=.non from di C] at f;unfold wD at f
  symm;refine Su ?_;symm;exact q
 .let e:bg u={ u with b:=u.b+1,tn:=u.tn - 1,o:=decide[u.tn - 1=0] }:=dm ()
  rw[show due u.tn=.int u.tn from dm C] at f;unfold wD at f
  symm;refine Wh Cg[?_];symm;refine Ho f rfl (show 7 < big by decide) λt E g=>?_
  replace g:t[A .e]?=sr .dct[wD u.sz A[.x] A[.y] (u.b+1) .int[u.tn - 1] u.sd t7]:=g
  unfold wD at g
  symm;refine Hf[λc=>?_] λc=>?_
  .let p:Wd n A (cel A s bg[u]) t:=V.sete m.same[E] (by rw[e];show _=sr Cell.dct[wD _ _ _ _ due[u.tn - 1] _ decide[u.tn - 1=0]];rw[dq (),show due[u.tn - 1]=.int[u.tn - 1] from dm ()];exact g) (by rw[e]) (by rw[e])
   let q:=q t p;rw[show (bg u).o=t7 by rw[e];exact dq ()] at q
   symm;exact q
  .symm
   refine Ho g rfl (show 7 < big by decide) λI G i=>?_
   replace i:I[A .e]?=sr .dct[wD u.sz A[.x] A[.y] (u.b+1) .int[u.tn - 1] u.sd t8]:=i
   unfold wD at i
   symm;refine Ho i rfl (show 7 < big by decide) λr F l=>?_
   replace l:r[A .e]?=sr .dct[wD u.sz A[.x] A[.y] (u.b+1) .non u.sd t8]:=l
   let p:Wd n A (cel A s bg[u]) r:=V.sete (((m.same E).same G).same F) (by rw[e];show _=sr Cell.dct[wD _ _ _ _ due[u.tn - 1] _ decide[u.tn - 1=0]];rw[dj (),show due[u.tn - 1]=.non from di ()];exact l) (by rw[e]) (by rw[e])
   let q:=q r p;rw[show (bg u).o=t8 by rw[e];exact dj ()] at q
   symm;exact q
def acc(c:Nat)(z o:t6)(i:Nat):t6:=mkS[(tl z).take (min i c) ++ ((tl o).take i).drop c]
def take1{l:lg Nat}{i:Nat}:(l.drop i).take 1=l[i]?.toList:=by rw[List.take_one,List.head?_drop]
def Aqz(a b:lg Nat):mkS a ++ (⟨b.toArray⟩:t6)=mkS[a ++ b]:=by
 show (⟨a.toArray ++ b.toArray⟩:t6)=⟨(a ++ b).toArray⟩;rw[List.append_toArray]
def Bon{c i:Nat}(h:i < c):acc c z o i ++ (⟨(((tl z).drop i).take 1).toArray⟩:t6)=acc c z o (i+1):=by
 let e:∀j,j<=c->((tl o).take j).drop c=[]:=λj f=>dC (by rw[dW];omega)
 unfold acc;rw[Aqz,lX gK[h],lX h,e i gK[h],e _ h,bU,bU,take1,uT]
def Boo{c i:Nat}(h:c<=i):acc c z o i ++ (⟨(((tl o).drop i).take 1).toArray⟩:t6)=acc c z o (i+1):=by
 unfold acc;rw[Aqz,nA (),nA (),cM,take1,uT]
 by_cases f:i < (tl o).length
 .rw[List.drop_append_of_le_length (by rw[dW];omega)]
 .rw[gR ()]
  simp
def Bf9{c i:Nat}:(acc c z o i).length<=z.length+o.length:=by
 unfold acc;rw[Ba0,bD,dW,dX,dW,Ab8,Ab8];omega
def Bga{c:Int}(h:0<=c){i:Nat}(f:z.length<=i)(e:o.length<=i):acc c.toNat z o i=lf c z o:=by
 unfold acc lf tk dp;rw[dR (l:=tl o) (by rw[Ab8];exact e)]
 show _=mkS[List.take c.toNat tl[z]] ++ (⟨(List.drop c.toNat tl[o]).toArray⟩:t6);rw[Aqz]
 congr 2
 by_cases d:c.toNat<=i
 .rw[nA d]
 .rw[lX (),dR (by rw[Ab8];exact f),dR (by rw[Ab8];omega)]
def Ate{gs:De->M lg[W]}{t:Tg}{b j:MS}{K:RS->Prop}(h:Wm gs[δ] S λi f=>∃k:Nat,i=[.int (k:Int)]/\k<=big/\∀l,Fr [] f l->Wb Rj[t][b][(fD k).map λ(k:Nat)=>W.int[(0:Int)+(k:Int)]] δ l (Ss j K)):Wb (Ae Xw[V9 Li gs][t][b] j) δ S K:=by
 let(i,f,r,k,rfl,p,q):=h;let(G,e):=Qm (P:=SP.any) (gs:=λm=>(pure [.int (k:Int)]:M lg[W])) (δ:=δ) Pu.pure p f trivial
 unfold V9 at e;rw[Dc,show (λm=>(pure [.int (k:Int)]:M lg[W]):De->M lg[W]) δ f=.ok [.int (k:Int)] f from rfl] at e;refine Hd ⟨Hn (.fix[(fD k).map λ(k:Nat)=>W.int[(0:Int)+(k:Int)]],f ++ G,?_,(q _ .app).un)⟩;unfold V9;rw[Dc,r];exact e
def Bbc(q:Q .str[z] S){w:W}:Wm Ji[[w,.str "whole",.str z,.str o]] S Q:=by
 refine Ck rfl Er[?_];symm;refine Su ?_;symm;exact q
def Bbd(V:Wd n A (cel A s u) S)(h:0<=u.sd)(C:z.length<=300)(E:o.length<=300)(q:∀S',Fr [] S S'->Q .str[lf u.sd z o] S'):Wm Ji[[.ref A[.e],.str "part",.str z,.str o]] S Q:=by
 let j:=V.e;let t:z.length<=big:=aF C ()
 let y:o.length<=big:=aF E ()
 refine Ck rfl Er[?_];symm;refine Wh Cg[?_];symm;refine Ate ?_;symm;refine Aab t ?_;symm;refine Aab y ?_;symm;refine(max z.length o.length,by split <;> (congr 2;omega),aF (show _<=300 by omega) (),λG F=>?_)
 refine Ak3 (J:=λi δ T=>(∃d,δ=[sr .ref[A[.e]],sr .str["part"],sr .str[z],sr .str[o],sr .str[acc u.sd.toNat z o i],d])/\Fr [] S T) ?_ ?_ ((sy,?_),F)
 .rintro i w δ T g ⟨⟨d,rfl⟩,f⟩;let m:=(aJ.mp g).1;rw[aK,cD] at m;rw[bJ,qK m] at g;cases g;refine(_,rfl,?_);let j:=f.at0 j;unfold wD at j;let p:=Bf9 (c:=u.sd.toNat) (z:=z) (o:=o) (i:=i);let r:∀x:t6,(⟨(((tl x).drop i).take 1).toArray⟩:t6).length<=1:=λx=>by
   show (List.toArray _).size<=1;rw[cC,dW];omega
  symm;refine Hf[λc=>?_] λc=>?_
  .symm
   refine Af7 t ?_;rw[tZ,Ba4];refine Ak8 (by have:=r z;exact aF[mU p this][aF (show _<=601 by omega) ()]) ?_
   rw[show (z.cps.toList)=tl z from rfl,Bon ()];symm;exact((_,rfl),f)
  .symm
   refine Af7 y ?_;rw[tZ,Ba4];refine Ak8 (by have:=r o;exact aF[mU p this][aF (show _<=601 by omega) ()]) ?_
   rw[show (o.cps.toList)=tl o from rfl,Boo ()];symm;exact((_,rfl),f)
 .rintro δ T ⟨⟨d,rfl⟩,f⟩;rw[aK,cD,Bga h () ()]
  refine(show Wb rQ[Aa[4]] _ T Au5[Q] from Cu ?_);symm;exact q T f
 .rw[show acc u.sd.toNat z o 0="" by unfold acc;rw[lX dM[_],uW,uW,aBk];rfl]
  rfl
end
theorem Atf{a:Type}{n:Nat}{f:a->W}{g:a->mO}(h:∀x,G8 S n f[x]=sr g[x]):∀xs:lg a,Cz[G8 S n][xs.map f]=sr xs.map[g]
 |[]=>rfl
 |x::xs=>by rw[cB,Cz,h,Atf h xs];rfl
def Bbe(h:M2.Cj x=t8):tY x=t8:=by
 unfold tY;unfold M2.Cj at h;rw[<-Array.all_toList];rw[bB] at h ⊢
 exact λc a=>dj (by have:=M2.Beq.mp[h c a];omega)
def lay(m:Nat)(x:mO):Prop:=PyData.canLay0 x=t8/\PyData.depth x<=m
def Bgb{m:Nat}(h:∀x∈xs,lay m x):lay[m+1][.tuple xs]:=by
 let a:∀xs,(∀x∈xs,lay m x)->PyData.canLayAll0 xs=t8/\PyData.depthAll xs<=m:=λxs=>by
  induction xs with
  |nil=>exact λj=>(rfl,dM _)
  |cons x xs f=>
   intro h;let(c,g):=jV.mp h;let i:=f g;show (_&&_)=t8/\_;rw[c.1,i.1];exact(rfl,Nat.max_le.mpr (c.2,i.2))
 let(e,d):=a xs h;exact(e,lC d)
def Vv{m:Nat}(h:M2.Cj t=t8):lay m .str[t]:=(Bbe h,dM _)
def Q6{m:Nat}:∀x∈([]:lg mO),lay m x:=by simp
def Mx{m:Nat}(h:lay m x)(h2:∀x∈xs,lay m x):∀y∈x::xs,lay m y:=jV.mpr (h,h2)
def Bgc{m:Nat}{xs:lg mO}(h:∀x∈xs,lay m x):lay[m+1][.list xs]:=Bgb (xs:=xs) h
def Bbf{a b:Nat}{d:lg W}{g:lg mO}{neg:Bool}(n:S[a]?=sr .lst[d])(m:S[b]?=sr .lst[d])(hd:Cz (G8 S 15) d=sr g)(k:∀x∈g,lay 4 x):eqD neg .ref[a] .ref[b] S=.ok .bl[!neg] S:=by
 let l:=Bgc k;let i:oW .list[g]=t8:=by
  unfold oW;rw[l.1,dj[aF l.2 ()]]
  rfl
 let e:∀c,S[c]?=sr .lst[d]->G8 S 16 .ref[c]=sr .list[g]:=λc h=>by
  show (match S[c]? with|some (.lst d)=>_|some (.dct [])=>_|_=>_)=_
  rw[h];dsimp only;rw[hd];rfl
 unfold eqD;rw[e a n,e b m];dsimp only;rw[i,SeqAt.eqv_refl _ SeqAt.canLay_of_shaped[i]];cases neg <;> rfl
def Aca{a b:Nat}{ws:lg W}{ds:lg mO}(ha:S[a]?=sr .lst[ws])(hb:S[b]?=sr .lst[ws])(hd:Cz (G8 S 15) ws=sr ds)(hl:∀x∈ds,lay 4 x)(q:Q .bl[t8] S):Wm (Fd .Eq .ref[a] .ref[b]) S Q:=(_,S,Bbf (neg:=false) ha hb hd hl,q)
def Ahe{a b:Nat}{ws:lg W}{ds:lg mO}(ha:S[a]?=sr .lst[ws])(hb:S[b]?=sr .lst[ws])(hd:Cz (G8 S 15) ws=sr ds)(hl:∀x∈ds,lay 4 x)(q:Q .bl[t7] S):Wm (Fd .NotEq .ref[a] .ref[b]) S Q:=(_,S,Bbf (neg:=true) ha hb hd hl,q)
def Blf{a:lg W}{j:Int}(h:0<=j):Rw a sy sr[j]=a.take j.toNat:=by
 show ((a.drop 0).take ((if j < 0 then _ else min j.toNat a.length) - 0))=_
 rw[dm (),rE,aCa]
 rcases aCk j.toNat a.length with h|h
 .rw[lX h]
 .rw[nA h,pL,dR h]
def Bbg{b:lg W}{j:Nat}:Rw b (sr (j:Int)) sy=b.drop j:=by
 let e:HT.sIx b.length 0 (sr (j:Int))=min j b.length:=by
  show (if (j:Int) < 0 then ((j:Int)+(b.length:Int)).toNat else min (j:Int).toNat b.length)=_
  rw[dm (),gA]
 unfold Rw;rw[e];show (b.drop _).take (b.length - _)=_;rcases aCk j b.length with h|h
 .rw[lX h,dR (by rw[dX];omega)]
 .rw[nA h,dC h,dC aM[_],List.take_nil]
def Atg{m:Nat}:lay m .none:=(rfl,dM _)
def Al4{S:Store}(zs:lg t6):Cz[G8 S 15][zs.map W.str]=sr zs.map[aDu]:=Atf (λuw=>rfl) zs
def Al5{a:lg t6}(h:∀z∈a,M2.Cj z=t8):∀x∈a.map aDu,lay 4 x:=(λx c=>by
 let(p,hp,rfl):=fC.mp c;exact Vv[h p hp])
section
variable{n N k:Nat}{A:Ro->Nat}{s u:St}{S S':Store}{Q:W->Store->Prop}{z:t6}{p:Pg}{δ:De}{L:lg Nat}{w:W}
def Abf{a:lg W}{lo hi:o9 Int}:(Rw a lo hi).length<=a.length:=by
 unfold Rw;rw[dW,dX];exact aF[pJ _ _][Nat.sub_le _ _]
def Blg{xs:lg t6}{v:t6}:Rw xs.map[W.str] sy (sr (k:Int)) ++ [.str v] ++ Rw xs.map[W.str] (sr (k+1:Int)) sy=(wrS xs k v).map W.str:=by
 rw[Blf (),show ((k:Int)+1)=((k+1:Nat):Int) from rfl,Bbg,gA]
 unfold wrS;rw[dJ,aBj,cB,sO,cM];rfl
def Bgd{xs:lg t6}{v:t6}(h:k<=xs.length):(wrS xs k v).length<=xs.length+1:=by
 unfold wrS;rw[bD,dW,dZ,dX];omega
def Bge{xs:lg t6}{v x:t6}(h:x∈wrS xs k v):x=v\/x∈xs:=by
 unfold wrS at h;rcases cU.mp h with h|h
 .exact .inr mV[h]
 .rcases bH.mp h with h|h
  .exact .inl h
  .exact .inr pX[h]
def Bbh(G:Gd N s)(a:k<=s.xs.length):(oldS s k).length=s.sz.toNat/\M2.Cj[oldS s k]=t8:=by
 unfold oldS;by_cases e:k < s.xs.length
 .rw[bL,aW e,aQ e];exact G.tx _ jB[e]
 .rw[bL,bA (),show k - s.xs.length=0 by omega]
  exact(Al1 _,Ba7 _)
def Bhf{o:t6}(a:M2.Cj z=t8)(b:M2.Cj o=t8):M2.Cj[lv s z o]=t8:=by
 unfold lv;split
 .exact Bok a b
 .exact a
def Bbi(h:0<=s.tn):0<=(bg s).tn:=by
 unfold bg;split
 .exact h
 .show 0<=s.tn - 1;omega
def Gd.up(G:Gd N s)(h:N+1<=900):Gd (N+1) s:=(G.hs,G.tx,G.ro,gC G.lx,gC G.lr,h,G.tn,G.sd)
def Gd.wrt(G:Gd N s)(h:N+1<=900)(b:k<=s.xs.length)(c:M2.Cj z=t8)(a:z.length=s.sz.toNat):Gd[N+1][wrt s k z]:=by
 let o:=Bbh G b;refine(by show Siz (bg s).sz;rw[Wx];exact G.hs,λy hy=>?_,λy hy=>G.ro y (by rw[<-Aju];exact hy),aF Bgd[b] lC[G.lx],by show (bg s).rs.length<=_;rw[Aju];exact gC G.lr,h,Bbi G.tn,by show 0<=(bg s).sd;rw[Aow];exact G.sd)
 show _=(bg s).sz.toNat/\_;rw[Wx];rcases Bge hy with rfl|hy
 .refine(?_,Bhf c o.2);unfold lv;split
  .rw[Blc[by rw[a,o.1]],o.1]
  .exact a
 .exact G.tx y hy
def Gd.addd(G:Gd N s)(h:N+1<=900)(b:M2.Cj z=t8)(a:z.length<=100):Gd[N+1][addd s z]:=by
 refine(by show Siz (bg s).sz;rw[Wx];exact G.hs,λy hy=>by show _=(bg s).sz.toNat/\_;rw[Wx];exact G.tx y (by rw[<-Ajt];exact hy),λy hy=>?_,by show (bg s).xs.length<=_;rw[Ajt];exact gC G.lx,by show (s.rs ++ [_]).length<=_;rw[bD];exact lC G.lr,h,Bbi G.tn,by show 0<=(bg s).sd;rw[Aow];exact G.sd)
 rcases cU.mp hy with hy|hy
 .exact G.ro y hy
 .rw[aZ.mp hy];refine(?_,Bhf b rfl);unfold lv;split
  .unfold lf;rw[len_app,Ba5,Ba6];show min _ _+(0 - _)<=100;omega
  .exact a
theorem Gd.bgd(G:Gd N s)(h:N+1<=900):Gd[N+1][bg s]:=(by rw[Wx];exact G.hs,λy a=>by rw[Wx];exact G.tx y (by rw[<-Ajt];exact a),λy a=>G.ro y (by rw[<-Aju];exact a),by rw[Ajt];exact gC G.lx,by rw[Aju];exact gC G.lr,h,Bbi G.tn,by rw[Aow];exact G.sd)
end
def Ahf(s:St):W:=if s.o=t8\/(bg s).o=t8 then .str "gone " else .non
def Q7(s:St):t6:=if s.o=t8 then "none" else if (bg s).o=t8 then "part" else "whole"
section
variable{n N k a x:Nat}{A:Ro->Nat}{s u t:St}{S S' S1 S2:Store}{Q:W->Store->Prop}{K:RS->Prop}{z:t6}{p:Pg}{δ:De}{v w:W}{L:lg Nat}
def Ao0:S.length < (S ++ [Cell.dead]).length:=by rw[bD];exact gY _
theorem Aev(f:Fr L (S ++ [.dead]) S1)(g:Fr [S.length] S1 S2):Fr L S S2:=(by have:=f.len;have:=g.len;rw[bD] at *;omega,λi hi b=>by
 have:=f.len;rw[bD] at this;rw[g.get i () (by simp;omega),f.get i (by rw[bD];omega) b,aW hi])
def Wd.dead{C h:Ro->Cell}(V:Wd n A C S)(l:Wd n A h S1)(g:Fr [S.length] S1 S2):Wd n A h S2:=(
 l.mv g nin[bM[V.tp.lt]] (λx=>nin bM[V.lt[x]]) λj o=>nin (by have:=V.lt .d;have:=V.lo .d;omega))
where nin {a b:Nat} (i:a≠b):a∉[b]:=by simp[i]
def Wd.tab{C:Ro->Cell}(V:Wd n A C S){j:Nat}{q:t6}(h:(Rb qs)[j]?=sr .tab[q]):S[j]?=sr .tab[q]:=V.tb _ _ h
def Ahg(V:Wd n A (cel A s u) S)(G:Gd N s)(r:Fits s.sz p)(H:k<=s.xs.length)(I:Cz (λi=>δ.getD i sy) [1,4,5]=sr [.ref A[.d],.int k,.str p.text[s.sz]])(q:∀m S',Wd n A (cel A (if s.o=t8 then s else wrt s k p.text[s.sz]) u) S'->S'[m]?=sr .lst[[Ahf s]]->Q .ref[m] S'):Wm (Dy 4 l_0 [1,4,5] Bv δ) S Q:=by
 let E:Wd n A (cel A s u) (S ++ [.dead]):=V.grow .app;let C:=Ao0 (S:=S);let hd:=E.d;unfold dF at hd;by_cases h:s.o=t8\/(bg s).o=t8
 .let e:Ahf s=.str "gone ":=di h;rw[e] at q;refine Mw I V.tab[rfl] Bnz rfl Bn0 Jt[Bq[rfl][Ec hd rfl rfl Av[Bq rfl Av[Bq rfl Bg[Ju[rfl][Ls rfl ?_]]]]]];refine Aox E G r H (λb c S' B f=>?_) (λb g c S' B l=>?_) λb g=>by rw[b,g] at h;simp at h
  .rw[di b] at q;exact(aO C f.len,_,.gon,λm S2 y j F=>q m S2 (V.dead B y) j)
  .rw[dm (by rw[b];simp)] at q
   exact(aO C l,_,.gon,λm S2 y j F=>q m S2 (V.dead B y) j)
 .let e:Ahf s=.non:=dm h;rw[e,dm[λz=>h .inl[z]]] at q;refine Aeu I V.tab[rfl] Bnz rfl Bn0 W9[Bq[rfl][Ec hd rfl rfl Av[Bq rfl Av[Bq rfl Bg[Xa[rfl][Ck rfl ?_]]]]]];refine Aox E G r H (λb=>absurd .inl[b] h) (λJ g=>absurd .inr[g] h) λb g c S' B l=>?_;exact(aO C l,λm S2 y j F=>q m S2 (V.dead B y) j)
def Ao1(V:Wd n A (cel A s u) S)(G:Gd N s)(H:M2.Cj z=t8)(E:z.length<=100)(I:Cz (λi=>δ.getD i sy) [1,3]=sr [.ref A[.d],.str z])(q:∀m S',Wd n A (cel A (if s.o=t8 then s else addd s z) u) S'->S'[m]?=sr .lst[[Ahf s]]->Q .ref[m] S'):Wm (Dy 3 l_1 [1,3] Bv δ) S Q:=by
 let C:Wd n A (cel A s u) (S ++ [.dead]):=V.grow .app;let B:=Ao0 (S:=S);let hd:=C.d;unfold dF at hd;by_cases h:s.o=t8\/(bg s).o=t8
 .let e:Ahf s=.str "gone ":=di h;rw[e] at q;refine Mw I V.tab[rfl] Bn1 rfl Bn2 Jt[Bq[rfl][Ec hd rfl rfl Av[Bq rfl Bg[Ju[rfl][Ls rfl ?_]]]]];refine Ba9 C G H E (λb c S' y f=>?_) (λb g c S' y l=>?_) λb g=>by rw[b,g] at h;simp at h
  .rw[di b] at q;exact(aO B f.len,_,.gon,λm S2 r j F=>q m S2 (V.dead y r) j)
  .rw[dm (by rw[b];simp)] at q
   exact(aO B l,_,.gon,λm S2 r j F=>q m S2 (V.dead y r) j)
 .let e:Ahf s=.non:=dm h;rw[e,dm[λz=>h .inl[z]]] at q;refine Aeu I V.tab[rfl] Bn1 rfl Bn2 W9[Bq[rfl][Ec hd rfl rfl Av[Bq rfl Bg[Xa[rfl][Ck rfl ?_]]]]];refine Ba9 C G H E (λb=>absurd .inl[b] h) (λJ g=>absurd .inr[g] h) λb g c S' y l=>?_;exact(aO B l,λm S2 r j F=>q m S2 (V.dead y r) j)
def Ahh(V:Wd n A (cel A s u) S)(H:Cz (λi=>δ.getD i sy) [0]=sr [.ref A[.d]])(I:s.o=t8\/(bg s).o=t8->∀m S',Wd n A (cel A (if s.o=t8 then s else bg s) u) S'->S'[m]?=sr .lst[[.str "gone "]]->Q .ref[m] S')(J:s.o=t7->(bg s).o=t7->∀a m S',Wd n (upA A .r a) (cel (upA A .r a) { bg s with rs:=[] } u) S'->S'[m]?=sr .lst[[.non]]->Q .ref[m] S'):Wm (Dy 2 l_2 [0] Bv δ) S Q:=by
 let F:Wd n A (cel A s u) (S ++ [.dead]):=V.grow .app;let E:=Ao0 (S:=S);let hd:=F.d;unfold dF at hd;by_cases h:s.o=t8\/(bg s).o=t8
 .let q:=I h;refine Mw H V.tab[rfl] Bn3 rfl Bn4 Jt[Bq[rfl][Ec hd rfl rfl Bg[Ju[rfl][Ls rfl ?_]]]];refine Aoy[F][λb g S' C f=>?_][λb c g S' C l=>?_] λb c=>by rw[b,c] at h;simp at h
  .rw[di b] at q;exact(aO E f.len,_,.gon,λm S2 B y G=>q m S2 (V.dead C B) y)
  .rw[dm (by rw[b];simp)] at q
   exact(aO E l,_,.gon,λm S2 B y G=>q m S2 (V.dead C B) y)
 .refine Aeu H V.tab[rfl] Bn3 rfl Bn4 W9[Bq[rfl][Ec hd rfl rfl Bg[Xa[rfl][Ck rfl ?_]]]];refine Aoy[F][λb=>absurd .inl[b] h][λO c=>absurd .inr[c] h] λb c a g S' C P l=>?_;refine(aO E l,λm S2 B y G=>J b c a m S2 (C.mv B ?_ (λx=>?_) λj T=>?_) y)
  .have:=V.tp.lt;simp;omega
  .have:=V.lt x;by_cases e:x=.r
   .subst e;rw[Q4];simp;omega
   .rw[Ei e];simp;omega
  .have:=V.lt .d;have:=V.lo .d;simp;omega
def Vw(m:δ[x]?=sr sr[.str[Q7[s]]])(b:S[k]?=sr .lst[[Ahf s]])(q:∀S',Fr [] S S'->Q .bl[t8] S'):Wm (ixF aA3 zA[R5][Ea .NotEq Aa[x] kS["whole"]] δ) S λy S1=>Wm (Fd .Eq .ref[k] y) S1 Q:=by
 refine Azf Lr[Av[Lr[Av[G3[Bg[?_]]]]]];refine Cd (show 1<=big by decide) λO S1 C B H=>Av Lr[Av[G3[Bg[?_]]]]
 refine Cd (show 1<=big by decide) λJ S2 j r G=>Bg[Cd (show 2<=big by decide) λI c g i F=>?_]
 refine Fg Av[Hz[Bq m G3[?_]]];let f:=(C.then0 j).then0 g;let b:=f.at0 b;by_cases h:s.o=t8\/(bg s).o=t8
 .rw[show Ahf s=.str "gone " from di h] at b;let e:∃y,Q7 s=y/\((y:t6)=="whole")=t7:=by
   unfold Q7;by_cases d:s.o=t8
   .rw[di d];exact(_,rfl,())
   .rw[dm d,di h.resolve_left[d]];exact(_,rfl,())
  let(y,e,l):=e;rw[e];refine Iv (a:=.bl t8) (S':=c) ?_ (Bg (Iv (a:=.int 1) (S':=c) rfl (Ia i rfl ?_)))
  .show R.ok W.bl[!(y=="whole")] c=_;rw[l];rfl
  .exact Aca b g.at0[r] (ds:=[.str "gone "]) rfl Mx[Vv ()][Q6] (q _ f)
 .rw[show Ahf s=.non from dm h] at b;rw[show Q7 s="whole" by unfold Q7;rw[dm λz=>h .inl[z],dm λz=>h .inr[z]]]
  refine Iv (a:=.bl t7) (S':=c) (by rfl') (Bg (Iv (a:=.int 0) (S':=c) rfl (Ia i rfl ?_)))
  exact Aca b g.at0[j.at0[B]] (ds:=[.none]) rfl (Mx Atg Q6) (q _ f)
end
def Nx(n N:Nat)(A:Ro->Nat)(Q:W->Store->Prop):Prop:=∀A' s' S',A' .d=A .d->A' .e=A .e->Wd n A' (cel A' s' s') S'->Gd (N+1) s'->Q .bl[t8] S'
section
variable{n N k a x:Nat}{A:Ro->Nat}{s u t:St}{S S' S1 S2:Store}{Q:W->Store->Prop}{K:RS->Prop}{z:t6}{p:Pg}{δ:De}{v w:W}{L:lg Nat}{ws us:lg W}
def Aew{b:Nat}(ha:S[a]?=sr .lst[ws])(hb:S[b]?=sr .lst[us])(hl:ws.length+us.length<=big)(q:∀n S',Fr [] S S'->S'[n]?=sr .lst[ws ++ us]->S.length<=n->Q .ref[n] S'):Wm (Bop.fn .add .ref[a] .ref[b]) S Q:=Beo ha hb hl (q _ _ .app Kq aM[_])
def Ahi(V:Wd n A (cel A s u) S)(c:0<=u.tn)(q:∀S',Wd n A (cel A s (if u.o=t8 then u else bg u)) S'->Q .str[Q7[u]] S'):Wm Gp[[.ref A[.e]]] S Q:=by
 unfold Q7 at q;cases b:u.o with
 |true=>
  rw[b,di rfl,di rfl] at q;exact Av5 V b (q S V)
 |false=>
  rw[b,dm[λh=>nomatch h],dm[λh=>nomatch h]] at q;exact Av6 V b c q
def Ath(V:Wd n A (cel A s u) S)(g:t.o=t7)(e:u.sd=t.sd)(h:0<=t.sd){o:t6}(f:z.length<=300)(lo:o.length<=300)(q:∀S',Fr [] S S'->Q .str[lv t z o] S'):Wm Ji[[.ref A[.e],.str Q7[t],.str z,.str o]] S Q:=by
 let i:Q7 t=if (bg t).o=t8 then ("part":t6) else ("whole":t6):=dm (by rw[g];exact λh=>nomatch h)
 rw[i];unfold lv at q;by_cases d:(bg t).o=t8
 .rw[di d] at q ⊢
  rw[<-e] at q;exact Bbd V (by rw[e];exact h) f lo q
 .rw[dm d] at q ⊢
  exact Bbc[q S (aM _,λc c c=>rfl)]
def Wd.setx{ys:lg t6}(V:Wd n A (cel A s u) S)(l:S.length<=a)(f:Fr [A .e] S S')(B:S'[a]?=sr .lst[ys.map[W.str]])(q:S'[A .e]?=sr .dct[wD u.sz a A[.y] u.b due[u.tn] u.sd u.o]):Wd n (upA A .x a) (cel (upA A .x a) s { u with xs:=ys }) S':=by
 refine Wd.re (x0:=.x) (x1:=.e) V f l B ?_ ?_ λh=>nomatch h
 .show _=sr Cell.dct[wD _ (upA A .x a .x) (upA A .x a .y) _ _ _ _];rw[Q4,show upA A .x a .y=A .y from Ei λh=>nomatch h];exact q
 .intro x m i;cases x <;> first|exact absurd rfl m|exact absurd rfl i|rfl|skip
  show Cell.ins _ (dF _ (upA A .x a .t) (upA A .x a .r) _ _ _ _)=_;rw[show upA A .x a .t=A .t from Ei[λh=>nomatch h],show upA A .x a .r=A .r from Ei[λh=>nomatch h]];rfl
def Wd.sety{ys:lg t6}(V:Wd n A (cel A s u) S)(l:S.length<=a)(f:Fr [A .e] S S')(B:S'[a]?=sr .lst[ys.map[W.str]])(q:S'[A .e]?=sr .dct[wD u.sz A[.x] a u.b due[u.tn] u.sd u.o]):Wd n (upA A .y a) (cel (upA A .y a) s { u with rs:=ys }) S':=by
 refine Wd.re (x0:=.y) (x1:=.e) V f l B ?_ ?_ λh=>nomatch h
 .show _=sr Cell.dct[wD _ (upA A .y a .x) (upA A .y a .y) _ _ _ _];rw[Q4,show upA A .y a .x=A .x from Ei λh=>nomatch h];exact q
 .intro x m i;cases x <;> first|exact absurd rfl m|exact absurd rfl i|rfl|skip
  show Cell.ins _ (dF _ (upA A .y a .t) (upA A .y a .r) _ _ _ _)=_;rw[show upA A .y a .t=A .t from Ei[λh=>nomatch h],show upA A .y a .r=A .r from Ei[λh=>nomatch h]];rfl
def Bgf(h:Fits t.sz p):M2.Cj p.text[t.sz]=t8:=by
 unfold Pg.text;rw[Ig,Alu h.1,show M2.Cj M2.check[_]=t8 from Xi 2 _];rfl
def Av7(V:Wd n A (cel A s s) S)(G:Gd N s)(hN:N+1<=900)(q:Nx n N A Q):Wm Qy[[.ref n,.ref A[.d],.ref A[.e]]] S Q:=by
 let hs:=G.hs;let s1:=hs.1;let s2:=hs.2;let Y:=V.e;let hx:S[A .x]?=sr .lst[s.xs.map[W.str]]:=V.at_ .x;let ll:(s.xs.map W.str).length=s.xs.length:=aK _;let lx:=G.lx;unfold wD at Y;refine Ck rfl Dq[?_]
 symm;refine Ca V.tp () λa S1 f1 t1 a0 a1=>?_
 let V1:=V.draw f1 t1;symm;refine Cd (show 2<=big by decide) λo1 S2 f2 h2 l2=>?_
 let V2:=V1.grow f2;symm;refine Ca V2.tp () λc S3 f3 t3 c0 c1=>?_
 let V3:=V2.draw f3 t3;let h3:=f3.at1 h2 (by have:=V1.tp.lt;omega)
 obtain⟨k,y,e⟩:∃k:Nat,k<=s.xs.length/\atI [W.int (s.xs.map W.str).length,.int a] c=sr[.int (k:Int)]:=by
  let h2:c=0\/c=1:=by omega
  rcases h2 with rfl|rfl
  .exact(s.xs.length,aM _,by rw[ll];rfl)
  .exact(a.toNat,(),by rw[kY a0];rfl)
 refine Ia h3 e ?_;clear h2 h3 f1 f2 f3 V1 V2 t1 t3 Y hx;let Y:=V3.e;let hx:S3[A .x]?=sr .lst[s.xs.map[W.str]]:=V3.at_ .x;unfold wD at Y
 symm;refine Bfz V3.tp hs λp S4 f4 t4 g=>?_;let V4:=V3.draw f4 t4;let he4:=V4.e;unfold wD at he4
 symm;refine Cw[Abb g hs] λS5 f5=>?_;let V5:=V4.grow f5;let lt:=Ab6 g hs;symm;refine Ahi V5 G.tn λS6 B=>?_;cases l:s.o with
 |true=>
  rw[l,di rfl] at B;let ew:Q7 s="none":=di l;rw[ew]
  symm;refine Wh Cg[?_];refine Cu Hz[?_];refine Ahg B G g y rfl λm S7 V7 Z=>?_;rw[l,di rfl] at V7;refine Vw (s:=s) (by rw[ew];rfl) Z λS8 f8=>?_
  exact q A s S8 rfl rfl V7.grow[f8] G.up[hN]
 |false=>
  rw[l,dm[λh=>nomatch h]] at B;let e1:Q7 s=if (bg s).o=t8 then ("part":t6) else ("whole":t6):=dm (by rw[l];exact λh=>nomatch h)
  let nn:(Q7 s=="none")=t7:=by
   rw[e1];split <;> decide +kernel
  let F:S6[A .x]?=sr .lst[s.xs.map[W.str]]:=by rw[<-Ajt];exact B.at_ .x
  let H:=B.e;unfold wD at H
  symm;rw[nn];refine Su ?_;symm;refine Alc (by rw[Wx,dj (by omega:-1048576<=s.sz),dj (by omega:s.sz<=1048576)];rfl) ?_;symm;refine Cd (show 1<=big by decide) λo2 S7 f7 Z l7=>?_
  refine Aew f7.at0[F] Z (by rw[ll];exact aF (show _<=901 by show _+1<=901;omega) ()) λo3 S8 f8 h8 l8=>?_;symm;refine Ia h8 (w:=.str[oldS s k]) ?_ ?_
  .rw[As8 (by rw[bD,ll];exact yE y),Wx]
   unfold oldS;rw[show s.xs.map W.str ++ [W.str[mJ " " s.sz]]=(s.xs ++ [mJ " " s.sz]).map W.str by rw[dJ];rfl,bJ,bL,aQ (by rw[bD];exact yE y)]
   rfl
  let j:=f7.then0 f8;let V8:=B.grow j;let E:=j.at0 F;let he8:=j.at0 H;let ok:=Bbh G y;let C:(s.xs.map W.str).length<=1000:=by omega
  clear Z h8 f7 f8 j;symm;refine Az2 E aF[Abf][aF C ()] λo4 S9 f9 h9 l9=>?_;symm;refine Ath V8.grow[f9] l Aow G.sd (by rw[lt];omega) (by rw[ok.1];omega) λS10 U=>?_;symm;refine Cd (show 1<=big by decide) λo5 S11 T h11 l11=>?_
  refine Aew T.at0[U.at0[h9]] h11 (aF mU[aF Abf C][aM 1] ()) λo6 S12 f12 h12 l12=>?_
  let i:=((f9.then0 U).then0 T).then0 f12;symm;refine Az2 i.at0[E] aF[Abf][aF C ()] λo7 S13 r h13 l13=>?_
  refine Aew r.at0[h12] h13 (by rw[bD];exact aF mU[mU[aF Abf C][aM 1]][aF Abf C] ()) λo8 S14 f14 J l14=>?_
  rw[Blg] at J;let f:=(i.then0 r).then0 f14;let V14:=V8.grow f;let I:=f.at0 he8;let l812:=i.len;let l0:=r.len
  symm;refine Ho I rfl (show 7 < big by decide) λS15 P h15=>?_
  let n8:A .e < S8.length:=V8.lt .e;let O:Fr [A .e] S8 S15:=Fr.same f.of0 P;let V15:=V8.setx (a:=o8) (ys:=wrS s.xs k lv[s][p.text[s.sz]][oldS s k]) () O (P.at1 J ()) h15
  refine K3 (Cg ?_).un;refine Cu Hz[?_];let ed:upA A .x o8 .d=A .d:=Ei λh=>nomatch h;let ee:upA A .x o8 .e=A .e:=Ei λh=>nomatch h;refine Ahg V15 G g y (by rw[ed];rfl) λm S16 X h16=>?_
  rw[l,dm[λh=>nomatch h]] at X;refine Vw (s:=s) rfl h16 λS17 f17=>?_;exact q _ (wrt s k p.text[s.sz]) S17 ed ee X.grow[f17] (G.wrt hN y Bgf[g] lt)
end
section
variable{n N k a x:Nat}{A:Ro->Nat}{s u t:St}{S S' S1 S2:Store}{Q:W->Store->Prop}{K:RS->Prop}{z:t6}{δ:De}{v w:W}
def Bgg(V:Wd n A (cel A s s) S)(G:Gd N s)(hN:N+1<=900)(q:Nx n N A Q):Wm Xg[[.ref n,.ref A[.d],.ref A[.e]]] S Q:=by
 let lr:=G.lr;let ll:(s.rs.map W.str).length=s.rs.length:=aK _;refine Ck rfl Dq[?_];symm;refine Ca V.tp () λa S1 f1 Y a0 a1=>?_
 let P:=V.draw f1 Y;symm;refine Abd P.tp a0 () λz S2 f2 X r C=>?_
 let V2:=P.draw f2 X;let r:z.length<=100:=by omega
 clear f1 Y f2 X P;symm;refine Ahi V2 G.tn λS6 c=>?_;cases g:s.o with
 |true=>
  rw[g,di rfl] at c;let ew:Q7 s="none":=di g;rw[ew]
  symm;refine Wh Cg[?_];refine Cu Hz[?_];refine Ao1 c G C r rfl λm S7 V7 h7=>?_;rw[g,di rfl] at V7;refine Vw (s:=s) (by rw[ew];rfl) h7 λS8 j=>?_
  exact q A s S8 rfl rfl V7.grow[j] G.up[hN]
 |false=>
  rw[g,dm[λh=>nomatch h]] at c;let e1:Q7 s=if (bg s).o=t8 then ("part":t6) else ("whole":t6):=dm (by rw[g];exact λh=>nomatch h)
  let nn:(Q7 s=="none")=t7:=by
   rw[e1];split <;> decide +kernel
  let E:S6[A .y]?=sr .lst[s.rs.map[W.str]]:=by rw[<-Aju];exact c.at_ .y
  let i:=c.e;unfold wD at i
  symm;rw[nn];refine Su ?_;symm;refine Ath c g Aow G.sd () () λS7 J=>?_;symm;refine Cd (show 1<=big by decide) λo5 S8 j h8 l8=>?_
  refine Aew j.at0[J.at0[E]] h8 (by rw[ll];exact aF (show _<=901 by show _+1<=901;omega) ()) λB S9 f9 Z l9=>?_
  rw[show s.rs.map W.str ++ [W.str[lv s z ""]]=(s.rs ++ [lv s z ""]).map W.str by rw[dJ];rfl] at Z
  let f:=(J.then0 j).then0 f9;let F:=f.at0 i;let l7:=J.len;let l8:=j.len;symm;refine Ho F rfl (show 7 < big by decide) λS15 l I=>?_
  let n8:A .e < S6.length:=c.lt .e;let O:=c.sety (a:=B) (ys:=s.rs ++ [lv s z ""]) () (Fr.same f.of0 l) (l.at1 Z ()) I
  refine K3 (Cg ?_).un;refine Cu Hz[?_];let ed:upA A .y B .d=A .d:=Ei λh=>nomatch h;let ee:upA A .y B .e=A .e:=Ei λh=>nomatch h;refine Ao1 O G C r (by rw[ed];rfl) λm S16 p H=>?_
  rw[g,dm[λh=>nomatch h]] at p;refine Vw (s:=s) rfl H λU L=>?_;exact q _ (addd s z) U ed ee p.grow[L] (G.addd hN C r)
def Gd.clr(G:Gd N s)(h:N+1<=900):Gd (N+1) { bg s with rs:=[] }:=(
 let g:=G.bgd h
 (g.hs,g.tx,(λb h=>nomatch h),g.lx,dM _,g.hN,g.tn,g.sd))
def Av8(V:Wd n A (cel A s s) S)(G:Gd N s)(hN:N+1<=900)(q:Nx n N A Q):Wm Q0[[.ref A[.d],.ref A[.e]]] S Q:=by
 refine Ck rfl Dq[?_];symm;refine Ahi V G.tn λS6 l=>?_;by_cases h:s.o=t8\/(bg s).o=t8
 .let e:∃y,Q7 s=y/\((y:t6)=="whole")=t7:=by
   unfold Q7;by_cases p:s.o=t8
   .rw[di p];exact(_,rfl,())
   .rw[dm p,di h.resolve_left[p]];exact(_,rfl,())
  let(y,j,Y):=e;let H:Ahf s=.str "gone ":=di h;rw[j];symm;rw[Y];refine Wh Cg[?_];refine Cu Hz[?_];refine Ahh l rfl (λO m S7 V7 P=>?_) λE T=>by rw[E,T] at h;simp at h
  rw[<-H] at P;refine Vw (s:=s) (by rw[j];rfl) P λS8 f8=>?_
  refine q A (if s.o=t8 then s else bg s) S8 rfl rfl V7.grow[f8] ?_
  split
  .exact G.up hN
  .exact G.bgd hN
 .let E:s.o=t7:=by simpa using λz=>h .inl[z]
  let T:(bg s).o=t7:=by simpa using λz=>h .inr[z]
  rw[E,dm[λh=>nomatch h]] at l;let j:Q7 s="whole":=by unfold Q7;rw[dm λz=>h .inl[z],dm λz=>h .inr[z]]
  let H:Ahf s=.non:=dm h;let f:=l.e;unfold wD at f;rw[j]
  symm;refine Su ?_;symm;refine Cd (show 0<=big by decide) λc S9 U h9 Z=>?_
  let B:=U.at0 f;symm;refine Ho B rfl (show 7 < big by decide) λS15 i C=>?_
  let n8:A .e < S6.length:=l.lt .e;let J:=l.sety (a:=c) (ys:=[]) Z (Fr.same U.of0 i) (i.at1 h9 ()) C
  refine K3 (Cg ?_).un;refine Cu Hz[?_];let X:upA A .y c .d=A .d:=Ei λh=>nomatch h;let ee:upA A .y c .e=A .e:=Ei λh=>nomatch h;refine Ahh J (by rw[X];rfl) (λz=>absurd z h) λO O a m S16 I g=>?_
  rw[<-H] at g;refine Vw (s:=s) (by rw[j];rfl) g λL F=>?_
  exact q _ _ L (by rw[show upA (upA A .y c) .r a .d=upA A .y c .d from Ei[λh=>nomatch h],X]) (by rw[show upA (upA A .y c) .r a .e=upA A .y c .e from Ei[λh=>nomatch h],ee]) I.grow[F] G.clr[hN]
end
section
variable{n N k a x:Nat}{A:Ro->Nat}{s u t:St}{S S' S1 S2:Store}{Q:W->Store->Prop}{K:RS->Prop}{z:t6}{δ:De}{v w:W}{i j:Int}{b b':MS}{ws us:lg W}
def Aq0(V:Wd n A (cel A s u) S)(l:Cz (λi=>δ.getD i sy) [6,1,5]=sr [v,.ref A[.d],w])(h:Q5 1 S w\/∃i,1<=i/\w=.int i/\Q5 0 S v)(q:∀m S',Fr [] S S'->S'[m]?=sr .lst[[.str "number "]]->Q .ref[m] S'):Wm (Dy 1 l_4 [6,1,5] Bv δ) S Q:=by
 let r:Wd n A (cel A s u) (S ++ [.dead]):=V.grow .app;let g:=Ao0 (S:=S);let hd:=r.d;unfold dF at hd;refine Mw l V.tab[rfl] Bqk rfl Bql Jt[Bq[rfl][Ec hd rfl rfl Av[Bq rfl Av[Bq rfl Bg[Ju rfl ?_]]]]];refine Bba[h.imp[λh=>h.mv .app] λ⟨i,h1,e,c⟩=>(i,h1,e,c.mv .app)] λS1 f=>?_;exact(aO g f.len,_,.num,λm S2 p c y=>q m S2 (Aev f p) c)
def Av9(V:Wd n A (cel A s u) S)(g:Cz (λi=>δ.getD i sy) [6,1,5]=sr [.int j,.ref A[.d],.int i])(h:1<=i)(c:0<=j)(q:∀m S',Wd n A (cel A { s with tn:=i,sd:=j } u) S'->S'[m]?=sr .lst[[.non]]->Q .ref[m] S'):Wm (Dy 1 l_3 [6,1,5] Bv δ) S Q:=by
 let e:Wd n A (cel A s u) (S ++ [.dead]):=V.grow .app;let f:=Ao0 (S:=S);let hd:=e.d;unfold dF at hd;refine Aeu g V.tab[rfl] Bqh rfl Bqi W9[Bq[rfl][Ec hd rfl rfl Av[Bq rfl Av[Bq rfl Bg[Xa rfl ?_]]]]];refine Bf6 e h c λS' p l=>?_;exact(aO f l,λm S2 o c r=>q m S2 (V.dead p o) c)
def Bbj(V:Wd n A (cel A s s) S)(G:Gd N s)(hN:N+1<=900)(q:Nx n N A Q):Wm Ve[[.ref n,.ref A[.d],.ref A[.e]]] S Q:=by
 let hs:=G.hs;let s1:=hs.1;let s2:=hs.2;refine Ck rfl Dq[?_];symm;refine Iv (a:=.int[-1]) (S':=S) rfl ?_;symm;refine Cd (show 1<=big by decide) λo1 S1 C O l1=>?_;symm;refine Iv (a:=.int[-(10 ^ aBr 20)]) (S':=S1) rfl ?_;symm;refine Cd (show 8<=big by decide) λo2 S2 B L l2=>?_
 let Y:=(V.grow C).grow B;symm;let n0:=V.tp.lt;let F:=C.len;refine Ca Y.tp () λa S3 p r a0 a1=>?_
 let X:=Y.draw p r;let h3:=p.at1 L ()
 let l:=p.at1 B.at0[O] ()
 obtain⟨w,e,hw⟩:∃w,atI [W.int 0,.int[-1],.bl t8,.non,.str "1",.ref o1,.bl t7,.int[-(10 ^ aBr 20)]] a=sr w/\Q5 1 S3 w:=by
  let I:a=0\/a=1\/a=2\/a=3\/a=4\/a=5\/a=6\/a=7:=by omega
  rcases I with rfl|rfl|rfl|rfl|rfl|rfl|rfl|rfl
  .exact(_,rfl,.lo ())
  .exact(_,rfl,.lo ())
  .exact(_,rfl,.no λE=>rfl)
  .exact(_,rfl,.no λE=>rfl)
  .exact(_,rfl,.no λE=>rfl)
  .exact(_,rfl,.lst l)
  .exact(_,rfl,.no λE=>rfl)
  .exact(_,rfl,.lo ())
 refine Ia h3 e ?_;clear e a0 a1 h3 l L O C B p r Y l1 l2 F V;symm;refine Iv (a:=.int[-1]) (S':=S3) rfl ?_;symm;refine Cd (show 1<=big by decide) λo1 S4 C O l1=>?_;symm;refine Cd (show 6<=big by decide) λo2 S5 B L l2=>?_
 let U:=(X.grow C).grow B;let hw5:=(hw.mv C).mv B;symm;let n0:=X.tp.lt;let F:=C.len;refine Ca U.tp () λa S6 p r a0 a1=>?_
 let V6:=U.draw p r;let h3:=p.at1 L ()
 let l:=p.at1 B.at0[O] ()
 let hw6:Q5 1 S6 w:=by
  cases hw5 with
  |no h=>exact .no h
  |lo h=>exact .lo h
  |@lst a us h=>
   by_cases e:a=n
   .let(ns,k,s,_,_,ht):=U.tp;rw[e,ht] at h;cases h
   .exact .lst[p.at1 h e]
 obtain⟨v,e,hv⟩:∃v,atI [W.int[-1],.bl t8,.non,.str "0",.ref o1,.bl t7] a=sr v/\Q5 0 S6 v:=by
  let I:a=0\/a=1\/a=2\/a=3\/a=4\/a=5:=by omega
  rcases I with rfl|rfl|rfl|rfl|rfl|rfl
  .exact(_,rfl,.lo ())
  .exact(_,rfl,.no λE=>rfl)
  .exact(_,rfl,.no λE=>rfl)
  .exact(_,rfl,.no λE=>rfl)
  .exact(_,rfl,.lst l)
  .exact(_,rfl,.no λE=>rfl)
 refine Ia h3 e ?_;clear e a0 a1 h3 l L O C B p r U hw5 l1 l2 F X hw n0;refine Bkl (P:=SP.any) (ws:=[.tup [w,.int 3],.tup [.int 2,v],.tup [w,v]]) ?_ trivial λS7 f7=>?_
 .exact Lq[Akw Ab[Akw Ab[Af rfl][Ab Ak Ad] (show 2<=big by decide)][Ab[Akw Ab[Ak][Ab Af[rfl] Ad] (show 2<=big by decide)][Ab[Akw Ab[Af rfl][Ab Af[rfl] Ad] (show 2<=big by decide)][Ad]]] (show 3<=big by decide)]
 refine Ak3 (J:=λi δ T=>(∃x5 x6,δ=[sr .ref[n],sr .ref[A[.d]],sr .ref[A[.e]],sr w,sr v,x5,x6,sy])/\Wd n A (cel A s s) T/\Q5 1 T w/\Q5 0 T v) ?_ ?_ ((_,_,rfl),V6.grow f7,hw6.mv f7,hv.mv f7)
 .rintro i y δ T H ⟨⟨x5,x6,rfl⟩,Z,bw,bv⟩;let hb:∃t c,y=.tup [t,c]/\(Q5 1 T t\/∃i,1<=i/\t=.int i/\Q5 0 T c):=by
   match i,H with
   |0,H=>cases H;exact(_,_,rfl,.inl bw)
   |1,H=>cases H;exact(_,_,rfl,.inr (2,(),rfl,bv))
   |2,H=>cases H;exact(_,_,rfl,.inl bw)
  let(t,c,rfl,hb):=hb;refine(_,rfl,?_);refine Er Js[Hz[?_]];refine Aq0 Z rfl hb λm T1 l O=>?_;symm;refine Cd (show 1<=big by decide) λo2 T2 g2 L l2=>?_
  refine Ahe g2.at0[O] L (ds:=[.str "number "]) rfl Mx[Vv ()][Q6] ?_;symm;let g:=l.then0 g2;exact((_,_,rfl),Z.grow g,bw.mv g,bv.mv g)
 .rintro δ T ⟨⟨x5,x6,rfl⟩,Z,bw,bv⟩;clear V6 hw6 hv f7 bw bv;refine Dq ?_
  symm;refine Ca Z.tp () λi T1 l t1 i0 i1=>?_
  let V1:=Z.draw l t1;let he:=V1.e;unfold wD at he
  symm;refine Ca V1.tp () λc1 T2 g2 t2 c10 c11=>?_
  let Y:=V1.draw g2 t2;symm;refine Ca Y.tp () λc2 T3 g3 r c20 c21=>?_
  let X:=Y.draw g3 r;symm;refine Cd (show 8<=big by decide) λo2 T4 g4 h4 l4=>?_
  let V4:=X.grow g4;symm;refine Ca V4.tp () λc T5 g5 t5 c0 cc=>?_
  let U:=V4.draw g5 t5;let n0:=X.tp.lt;let h5:=g5.at1 h4 ()
  obtain⟨j,e,hj⟩:∃j:Int,atI [W.int 0,.int 1,.int s.sz,.int[s.sz - 1],.int 1000,.int[10 ^ aBr 20],.int c1,.int c2] c=sr .int[j]/\0<=j:=by
   let I:c=0\/c=1\/c=2\/c=3\/c=4\/c=5\/c=6\/c=7:=by omega
   rcases I with rfl|rfl|rfl|rfl|rfl|rfl|rfl|rfl
   .exact(_,rfl,())
   .exact(_,rfl,())
   .exact(_,rfl,())
   .exact(_,rfl,())
   .exact(_,rfl,())
   .exact(_,rfl,())
   .exact(_,rfl,c10)
   .exact(_,rfl,c20)
  refine Ia h5 e ?_;clear he h4 h5 l g2 g3 g4 g5 t1 t2 r t5 V1 Y X V4 Z;let he:=U.e;unfold wD at he
  symm;refine Ho he rfl (show 7 < big by decide) λT6 g6 h6=>?_
  replace h6:T6[A .e]?=sr .dct[wD s.sz A[.x] A[.y] s.b .int[1+i] s.sd s.o]:=h6
  unfold wD at h6
  symm;refine Ho h6 rfl (show 7 < big by decide) λT7 g7 h7=>?_
  replace h7:T7[A .e]?=sr .dct[wD s.sz A[.x] A[.y] s.b .int[1+i] j s.o]:=h7
  let V7:Wd n A (cel A s { s with tn:=1+i,sd:=j }) T7:=U.sete g6.same[g7] (by show _=sr Cell.dct[wD _ _ _ _ due[1+i] _ _];rw[show due[1+i]=.int[1+i] from dm ()];exact h7) rfl rfl
  refine Cu Hz[?_];refine Av9 V7 rfl () hj λm T8 V8 I=>?_;symm;refine Cd (show 1<=big by decide) λo3 T9 g9 h9 l9=>?_
  refine Aca g9.at0[I] h9 (ds:=[.none]) rfl (Mx Atg Q6) ?_;exact q A { s with tn:=1+i,sd:=j } T9 rfl rfl V8.grow[g9] (hs,G.tx,G.ro,gC G.lx,gC G.lr,hN,(by show 0<=1+i;omega),hj)
end
section
variable{n N k a x:Nat}{A:Ro->Nat}{s u t:St}{S S' S1 S2:Store}{Q:W->Store->Prop}{K:RS->Prop}{z:t6}{δ:De}{v w:W}{i j:Int}{b b':MS}{ws us:lg W}
def Awa{sz:Int}(hs:Siz sz){i:Int}(e:0<=i)(d:i<=4095):Fits sz .free[i]:=by
 let f:(Pg.free i).body.length=2:=Gy [i];have:=hs.1;exact(Vj e d,())
def Bbk(V:Wd n A (cel A s u) S)(G:Gd N s)(l:Cz (λi=>δ.getD i sy) [1,4,3]=sr [.ref A[.d],w,.int s.sz])(h:Av1 s.xs.length w)(q:∀m S',Fr [] S S'->S'[m]?=sr .lst[[.str "number "]]->Q .ref[m] S'):Wm (Dy 0 l_5 [1,4,3] Bv δ) S Q:=by
 let e:Wd n A (cel A s u) (S ++ [.dead]):=V.grow .app;let g:=Ao0 (S:=S);let hd:=e.d;unfold dF at hd;refine Mw l V.tab[rfl] Bqn rfl Bqo Jt[Bq[rfl][Ec hd rfl rfl Av[Bq rfl Av[Fg[Av[En[Av[G3[Av[G3[Bg (show 2<=big by decide,Av[Bq rfl Bg[?_]])]]]]]]]]]]]
 refine Cw (Abb (p:=.free 1) (Awa G.hs () ()) G.hs) λS2 c=>Bg[Ju rfl ?_]
 refine Bf7 e.grow[c] h λB r=>?_;let f:=c.then0 r;exact(aO g f.len,_,.num,λm S2 c o y=>q m S2 (Aev f c) o)
def Aq1(V:Wd n A (cel A s u) S)(G:Gd N s)(g:Cz (λi=>δ.getD i sy) [1,3]=sr [.ref A[.d],.int s.sz])(q:∀m S',Fr [] S S'->S'[m]?=sr .lst[[.str "page "]]->Q .ref[m] S'):Wm (Dy 0 l_6 [1,3] Bv δ) S Q:=by
 let c:Wd n A (cel A s u) (S ++ [.dead]):=V.grow .app;let e:=Ao0 (S:=S);let hd:=c.d;let p:=G.hs.1;let o:=G.hs.2;unfold dF at hd;refine Mw g V.tab[rfl] Bqq rfl Bqr Jt[Bq[rfl][Ec hd rfl rfl Av[G3[Av[Abw[G3[Bq[rfl][Alc ?_ Bg[Ju rfl ?_]]]]]]]]]
 .rw[dj (by omega:-1048576<=s.sz),dj (by omega:s.sz<=1048576)]
  rfl
 refine Av4 c G λy f=>?_;exact(aO e f.len,_,.pag,λm S2 l h r=>q m S2 (Aev f l) h)
def Bbl{a:Nat}{us:lg W}:Pu[Aqu SP.any a .lst[us]][Je [.ref a]][.bl t7]:=(Bt rfl (Bo (Bc (Ap4 (p:=false) (q:=true) (Ac Ab[Af rfl][Ab Ak Ad] Bf4) λh=>nomatch h))))
def Bbm(V:Wd n A (cel A s u) S)(L:Cz (λi=>δ.getD i sy) [1,0]=sr [.ref A[.d],.ref n])(q:∀m S',Fr [n] S S'->Tp n S'->S'[m]?=sr .lst[[.str "text "]]->Q .ref[m] S'):Wm (Dy 0 l_7 [1,0] Bv δ) S Q:=by
 let E:Wd n A (cel A s u) (S ++ [.dead]):=V.grow .app;let l1:=Ao0 (S:=S);let hd:=E.d;unfold dF at hd;refine Mw L V.tab[rfl] Bqt rfl Bqu Jt[Bq[rfl][Ec hd rfl rfl ?_]];generalize X:S ++ [Cell.dead]=S1 at *
 symm;refine Cd (show 1<=big by decide) λa1 S2 B p I=>?_;symm;refine Cd (show 4<=big by decide) λa2 S3 y T l3=>?_
 let Y:=(E.grow B).grow y;symm;let n0:=E.tp.lt;let Z:=V.tp.lt;let J:=B.len;refine Ca Y.tp () λa f r H a0 a4=>?_
 let P:=r.at1 T ()
 let U:=r.at1 y.at0[p] ()
 let C:Fr [n] S1 f:=Fr.same (B.then0 y).of0 r;let e:∀h,Fr [] f h->S.length < h.length/\∃z,Told (u6 2 .non) z/\∀m S2,Fr [S.length] h S2->S2[m]?=sr .lst[[.str z]]->h.length<=m->Q .ref[m] S2:=λh l=>by
  let g:=C.then0 l;let l4:=g.len;refine((),_,.txt,λm S2 G p I=>q m S2 Aev[X ▸ g][G] ((H.at0 l).mv G (by simp;omega)) p)
 let O:a=0\/a=1\/a=2\/a=3:=by omega
 let o:Fr [] f f:=(aM _,λF F F=>rfl);rcases O with rfl|rfl|rfl|rfl <;> refine Ia P rfl Bg[Ju rfl Bf8[?_]]
 .exact Iv (a:=.bl t7) (S':=f) rfl (rfl,e _ o)
 .exact Iv (a:=.bl t7) (S':=f) rfl (rfl,e _ o)
 .exact Acl Bbl (trivial,U) λh l=>(rfl,e _ l)
 .exact Iv (a:=.bl t7) (S':=f) rfl (rfl,e _ o)
def Bgh(V:Wd n A (cel A s s) S)(G:Gd N s)(hN:N+1<=900)(q:Nx n N A Q):Wm Xh[[.ref n,.ref A[.d],.ref A[.e]]] S Q:=by
 let F:=V.e;let P:S[A .x]?=sr .lst[s.xs.map[W.str]]:=V.at_ .x;let Z:(s.xs.map W.str).length=s.xs.length:=aK _;unfold wD at F;refine Ck rfl Dq[?_]
 symm;refine Iv (a:=.int[-1]) (S':=S) rfl ?_;symm;refine Cd (show 4<=big by decide) λp S2 I f o=>?_
 let C:=V.grow I;symm;let Y:=V.tp.lt;refine Ca C.tp () λa S3 r E a0 a1=>?_
 let B:=C.draw r E;let H:=r.at1 f ()
 obtain⟨w,e,T⟩:∃w,atI [W.int[-1],.int[(s.xs.map W.str).length+1],.bl t8,.non] a=sr w/\Av1 s.xs.length w:=by
  let U:a=0\/a=1\/a=2\/a=3:=by omega
  rcases U with rfl|rfl|rfl|rfl
  .exact(_,rfl,.lo ())
  .exact(_,rfl,.hi ())
  .exact(_,rfl,.no λL=>rfl)
  .exact(_,rfl,.no λL=>rfl)
 refine Ia H e ?_;clear F P f H I r E C V;refine Er Js[Hz[?_]];refine Bbk B G rfl T λm T1 l h=>?_;symm;refine Cd (show 1<=big by decide) λp T2 g f o=>?_
 refine Ahe g.at0[h] f (ds:=[.str "number "]) rfl Mx[Vv ()][Q6] ?_
 let y:=B.grow l.then0[g];clear l g h f o B;refine tb Wh[Cg[?_]];refine Er Js[Hz[?_]];refine Aq1 y G rfl λm T3 l h=>?_;symm;refine Cd (show 1<=big by decide) λp T4 g f o=>?_
 refine Ahe g.at0[h] f (ds:=[.str "page "]) rfl Mx[Vv ()][Q6] ?_
 let J:=y.grow l.then0[g];clear l g h f o y;refine tb Wh[Cg[?_]];refine Cu Hz[?_];refine Bbm J rfl λm T5 l O h=>?_;symm;refine Cd (show 1<=big by decide) λp X g f o=>?_
 refine Aca g.at0[h] f (ds:=[.str "text "]) rfl Mx[Vv ()][Q6] ?_
 exact q A s X rfl rfl ((J.draw l O).grow g) G.up[hN]
end
section
variable{n N k a x:Nat}{A:Ro->Nat}{s u t:St}{S S' S1 S2:Store}{Q:W->Store->Prop}{K:RS->Prop}{z:t6}{δ:De}{v w:W}{i j:Int}{b b':MS}{ws us:lg W}
def Bgi(V:Wd n A (cel A s s) S)(G:Gd N s)(hN:N+1<=900)(q:Nx n N A Q):Wm Nt[[.ref n,.ref A[.d],.ref A[.e]]] S Q:=by
 refine Ck rfl Dq[?_];symm;refine Ca V.tp () λc S1 B p P O=>?_
 let g:=V.draw B p;clear B p V;symm;refine Hf[λh=>?_] λh=>?_
 .symm
  exact Av7 g G hN q
 symm;refine Hf[λh=>?_] λh=>?_
 .symm
  exact Bgg g G hN q
 symm;refine Hf[λh=>?_] λh=>?_
 .symm
  exact Av8 g G hN q
 symm;refine Hf[λh=>?_] λh=>?_
 .symm
  exact Bbj g G hN q
 symm;refine Hf[λh=>?_] λh=>?_
 .symm
  exact Bgh g G hN q
 let r:=g.e;unfold wD at r
 symm;refine Ho r rfl (show 7 < big by decide) λS2 H l=>?_
 replace l:S2[A .e]?=sr .dct[wD s.sz A[.x] A[.y] s.b due[s.tn] s.sd t7]:=l
 unfold wD at l
 symm;refine Ho l rfl (show 7 < big by decide) λE F m=>?_
 replace m:E[A .e]?=sr .dct[wD s.sz A[.x] A[.y] s.b .non s.sd t7]:=m
 let C:Wd n A (cel A s { s with o:=false,tn:=0 }) E:=g.sete H.same[F] m rfl rfl
 let hd:=C.d;unfold dF at hd
 symm;refine Bom C λJ I L=>?_;symm;exact q A { s with o:=false,tn:=0 } J rfl rfl I (G.hs,G.tx,G.ro,gC G.lx,gC G.lr,hN,uY _,G.sd)
def Bgj{ns:lg Int}(q:∀S',Fr [] S S'->Tp S.length S'->S'.length=S.length+1->Q .ref[S.length] S'):Wm Sw[[.scr ns]] S Q:=by
 let e:Lg [] [(.inr "script",.scr ns),(.inr "at",.int 0),(.inr "seed",.int 7)]=[((.inr "script":Key),W.scr ns),(.inr "at",.int 0),(.inr "seed",.int 7)]:=by rfl'
 refine Ck rfl (Cu (.ref S.length,S ++ [Bk3 ns 0 7],?_,q _ .app (ns,0,7,(),(),Kq) ()))
 show R.ok[W.ref S.length][S ++ [Cell.dct[Lg [] [(.inr "script",.scr ns),(.inr "at",.int 0),(.inr "seed",.int 7)]]]]=_;rw[e];rfl
def Bgk{l:lg[(De->M W)×(De->M W)]}(h:Wm (Jp l δ) S λkvs S1=>Wm Afn[Lg [] kvs] S1 Q):Wm (Acj l δ) S Q:=Az h
def My{f g:De->M W}{r:lg[(De->M W)×(De->M W)]}{Q:lg[Key×W]->Store->Prop}(h:Wm f[δ] S λk S1=>Wm g[δ] S1 λv S2=>Wm (Jp r δ) S2 λc m=>∃l,Abr k=sr l/\Q ((u6 l v)::c) m):Wm (Jp ((u6 f g)::r) δ) S Q:=by
 refine Az[Be h λk S1 h=>Az[Be h λv S2 h=>Az[Be h λc m ⟨l,e,q⟩=>?_]]];rw[e];exact Du q
def Bgl{Q:lg[Key×W]->Store->Prop}(q:Q [] S):Wm (Jp [] δ) S Q:=Du q
def Blh(h:Tp n S)(p:δ[1]?=sr sr[.ref[n]])(q:∀sz x y e S',Siz sz->Fr [n] S S'->Tp n S'->S'[e]?=sr .dct[wD sz x y 0 .non 0 t7]->S'[x]?=sr .lst[[]]->S'[y]?=sr .lst[[]]->S.length<=x->x < y->y < e->e < S'.length->Q .ref[e] S'):
  Wm (Acj [((kS "size"),(zA M8 Aa[1])),((kS "texts"),(Ez nilF)),((kS "rows"),(Ez nilF)),((kS "begun"),(kI 0)),((kS "due"),(kF .non)),((kS "cut"),(kI 0)),((kS "off"),(kB t7))] δ) S Q:=by
 refine Bgk My[G3[Fg[Av[Bq p Bg[?_]]]]];refine Bfv h λsz S1 m o hs=>?_;refine My G3[Lr[Bg[Cd (show 0<=big by decide) λx S2 l g lx=>?_]]]
 refine My G3[Lr[Bg[Cd (show 0<=big by decide) λy c d f B=>?_]]]
 refine My G3[G3[My[G3[G3[My[G3[G3[My[G3[G3[?_]]]]]]]]]]];refine Bgl (_,rfl,_,rfl,_,rfl,_,rfl,_,rfl,_,rfl,_,rfl,?_);let r:Lg [] (wD sz x y 0 .non 0 t7)=wD sz x y 0 .non 0 t7:=by rfl'
 let F:=m.len;let E:=Ff g;let C:=Ff f;refine(.ref c.length,c ++ [.dct[wD sz x y 0 .non 0 t7]],?_,q sz x y _ _ hs (((m.then0 l).then0 d).then0 .app) (((o.at0 l).at0 d).at0 .app) Kq Fr.app.at0[d.at0[g]] Fr.app.at0[f] () () () ())
 show R.ok[W.ref c.length][c ++ [.dct Lg[[]][wD sz x y 0 .non 0 t7]]]=_;rw[r]
end
section
variable{n N k a x:Nat}{A:Ro->Nat}{s u t:St}{S S' S1 S2:Store}{Q:W->Store->Prop}{K:RS->Prop}{z:t6}{δ:De}{v w:W}{i j:Int}{b b':MS}{ws us:lg W}{x0 x4 x5 x6:o9 W}
def Bbn{f g:De->M W}(h:Wm f[δ] S λx S1=>x=.bl t8/\Wm g[δ] S1 Q):Wm (Jj f g δ) S Q:=(Az (Be h λx S1 ⟨e,q⟩=>by subst e;exact q))
def Gd.tx'(G:Gd N s):∀z∈s.xs,M2.Cj z=t8:=λz h=>(G.tx z h).2
def Gd.ro'(G:Gd N s):∀z∈s.rs,M2.Cj z=t8:=λz h=>(G.ro z h).2
def Bbo(V:Wd n A (cel A s s) S)(G:Gd N s)(hN:N+1<=900){J:De->Store->Prop}(q:∀B p S' U T,B .d=A .d->B .e=A .e->Wd n B (cel B p p) S'->Gd (N+1) p->J [x0,sr .ref[n],sr .ref[A[.e]],sr .ref[A[.d]],x4,U,T] S'):
  Wb (Ae aA9
  (Ae Bx[5][Bh (λc n=>By.lookup[u6 c n]) "pages" Aa[3] nilF]
  (Ae Bx[6][Bh (λc n=>By.lookup[u6 c n]) "rows" Aa[3] nilF]
  (Ae (ifS orT[tQ .NotEq Aa[5] (ixF Aa[2] kS["texts"])][orT tQ[.NotEq][Aa[6]][ixF Aa[2] kS["rows"]] tQ[.NotEq][Bh (λc n=>By.lookup[u6 c n]) "writes" Aa[3] nilF][ixF Aa[2] kS["begun"]]] rQ[kB[t7]] Aj)
  (Ae ifS[orT Jk[Dl[zB[Jl isa][Bh (λc n=>By.lookup[u6 c n]) "is_off" Aa[3] nilF][kF .ty["bool"]]]] tQ[.NotEq][Bh (λc n=>By.lookup[u6 c n]) "is_off" Aa[3] nilF][ixF Aa[2] kS["off"]]][rQ[kB[t7]]][Aj]
  aA6))))) [x0,sr .ref[n],sr .ref[A[.e]],sr .ref[A[.d]],x4,x5,x6] S (Azg J K):=by
 refine Er ?_;symm;refine Bgi V G hN λB p S1 ed ee l m=>?_;rw[<-ed,<-ee] at q ⊢
 clear V G;let hd:=l.d;unfold dF at hd
 symm;refine Wh Cg[?_];symm;refine Aoz l m λY S2 P r l2=>?_;let h:=l.grow P;let H:=h.d;unfold dF at H
 symm;refine Atd h m λX S3 O I l3=>?_;let g:=h.grow O;let E:=g.e;let F:=g.d;unfold wD at E;unfold dF at F;let ne:Y≠X:=by have:=Ff r;omega
 let r:=O.at0 r;refine Ib Ak9[?_];symm;refine Ahe r g.at_[.x] Al4[_] Al5[m.tx'] ?_;refine tb (rfl,Ak9 ?_);symm;refine Ahe I g.at_[.y] Al4[_] Al5[m.ro'] ?_;refine tb (rfl,?_);symm;refine Av3 g ?_;symm;refine(by rw[dj rfl];rfl,?_)
 refine Ib Ak9[?_];symm;refine Bbb g ?_;symm;refine Iv (a:=.bl t8) (S':=S3) rfl ?_;refine tb (rfl,?_);symm;refine Bbb g ?_;symm;refine(by cases p.o <;> rfl,?_);symm;refine(_,_,rfl,r,?_);symm;refine Aeq r (by rw[aK];have:=m.lx;exact jG (show _<=900 by omega) ()) λS4 L h4=>?_
 let C:=L.at1 I eF[ne];let la:=P.len;let V4:=g.mv L (by have:=l.tp.lt;simp;omega) (λx=>by have:=l.lt x;simp;omega) λj Z=>by have:=l.lt .d;have:=l.lo .d;simp;omega
 symm;refine(_,_,rfl,C,?_);symm;refine Aeq C (by rw[aK];have:=m.lr;exact jG (show _<=900 by omega) ()) λS5 f5 h5=>?_
 let V5:=V4.mv f5 (by have:=h.tp.lt;simp;omega) (λx=>by have:=h.lt x;simp;omega) λj Z=>by have:=h.lt .d;have:=h.lo .d;simp;omega
 symm;exact q B p S5 _ _ rfl rfl V5 m
def Bgm(V:Wd n A (cel A s s) S)(G:Gd N s)(q:∀S,Q .bl[t8] S):
  Wb rQ[Jj Ea[.Eq][Bh (λc n=>By.lookup[u6 c n]) "pages" Aa[3] nilF][ixF Aa[2] kS["texts"]] Ea[.Eq][Bh (λc n=>By.lookup[u6 c n]) "rows" Aa[3] nilF][ixF Aa[2] kS["rows"]]] [x0,sr .ref[n],sr .ref[A[.e]],sr .ref[A[.d]],x4,x5,x6] S Au5[Q]:=by
 let hd:=V.d;let h:=V.e;unfold dF at hd;unfold wD at h;refine Cu Bbn[?_]
 symm;refine Aoz V G λC S2 p m F=>?_;let g:=V.grow p;symm;refine Aca m g.at_[.x] Al4[_] Al5[G.tx'] (rfl,?_);symm;refine Atd g G λB H o l E=>?_;let r:=g.grow o;symm;exact Aca l r.at_[.y] Al4[_] Al5[G.ro'] q[_]
end
def mkA(d t r e x y:Nat):Ro->Nat
 |.d=>d
 |.t=>t
 |.r=>r
 |.e=>e
 |.x=>x
 |.y=>y
section
variable{n:Nat}{S S':Store}
theorem Boq{sz:Int}{d t r e x y:Nat}(f:Fr [5] Rb[qs] S)(tp:Tp 5 S)(D:Dk sz [] [] 0 d t r S)(k:S[e]?=sr .dct[wD sz x y 0 .non 0 t7])(i:S[x]?=sr .lst[[]])(g:S[y]?=sr .lst[[]])(v:5 < x)(u:x < y)(s:y < e)(q:e < d)(p:d < t)(o:t < r):
  Wd 5 (mkA d t r e x y) (cel (mkA d t r e x y) (sz,[],[],0,t7,0,0) (sz,[],[],0,t7,0,0)) S where
 inj:=λa b h=>by
  cases a <;> cases b <;> first|rfl|(exfalso;simp only[mkA] at h;omega)
 at_:=λa=>by
  cases a
  .exact D.at_
  .exact D.tx
  .exact D.ro
  .exact k
  .exact i
  .exact g
 tp:=tp
 nt:=λa h=>by cases a <;> simp only[mkA] at h <;> omega
 lo:=λa=>by cases a <;> simp only[mkA] <;> omega
 ln:=aM _
 tb:=λj c h=>f.at1 h (by have:=Abe h;omega)
def Bgn{ns:lg Int}:Wm Az6[[.scr ns]] Rb[qs] λw m=>w=.bl t8:=by
 refine Ck rfl Dq[?_];symm;refine Bgj λS1 X F l1=>?_;refine Dq[Blh F rfl λsz x y e S2 hs U C u N L lx H le l2=>?_];let o:=u;unfold wD at o
 symm;refine Bf0 hs λd t r S3 c D3 ld lt lr l3=>?_;let q0:(Rb qs).length=5:=rfl;let f:Fr [5] Rb[qs] S3:=(Fr.same X.of0 U).then0 c;let V:=Boq f C.at0[c] D3 c.at0[u] c.at0[N] c.at0[L] () H le () lt lr
 let G:Gd 0 (sz,[],[],0,t7,0,0):=(hs,(λm h=>nomatch h),(λm h=>nomatch h),aM _,aM _,(),uY _,uY _)
 refine Ate ?_;symm;refine Ca V.tp () λa S4 Q B a0 a1=>?_
 let V4:=V.draw Q B;symm;refine((6+a).toNat,by congr 2;omega,aF (show _<=30 by omega) (),λS5 P=>?_)
 refine Ak3 (J:=λi g T=>(∃l k j,g=[sr .scr[ns],sr .ref[5],sr .ref[e],sr .ref[d],l,k,j])/\∃A s,A .e=e/\A .d=d/\Wd 5 A (cel A s s) T/\Gd i s) ?_ ?_ ((_,_,_,rfl),_,_,rfl,rfl,V4.grow P,G)
 .rintro i v g T O ⟨⟨l,k,j,rfl⟩,A,s,rfl,rfl,p,q⟩;let I:=(aJ.mp O).1;rw[aK,cD] at I;refine(_,rfl,?_);exact Bbo p q () λA' E S' z5 z6 Z Y V' G'=>((_,_,_,rfl),A',E,Y,Z,V',G')
 .rintro g T ⟨⟨l,k,j,rfl⟩,A,s,rfl,rfl,p,q⟩;exact Bgm p q λm=>rfl
def law_holds:∀ns:lg Int,ns.length<=63->∃S',Az6 [.scr ns] Rb[qs]=.ok .bl[t8] S':=(λns c=>by
 let(w,S',e,rfl):=Bgn (ns:=ns);exact(S',e))
end
end K8
open PySem PySem.W PyProof.Rows
set_option maxRecDepth 100000 in
set_option maxHeartbeats 0 in
theorem PySem.Challenge.cw_leafhouse_k08_falls_amid_a_write_holds : PySem.Challenge.rw_leafhouse_k08_falls_amid_a_write.Holds := by
 w_on;o_law;k_head;(case hw=>w_witness2)
 k_fill
 refine D.Au0 (l:=PySem.Challenge.rw_leafhouse_k08_falls_amid_a_write) (k:=148) (x:="_law_script") (qs:=K8.qs) (xf:=λc=>K8.xfL.lookup c) K8.law_holds rfl rfl ⟨λ_=>rfl,by decide,by decide⟩ (by rfl) (by decide) (λw h e=>⟨PySem.W.km_in_of e,PySem.W.km_tabs_of e⟩) (λp=>by kernel_rfl) ?F
 case F=>
  intro w mg r h b G a;apply Exists.intro;apply K8.all_mk b G a
  case hA0=>exact rfl
  case hA1=>exact rfl
  case hA2=>exact rfl
  case hA3=>exact rfl
  case hA4=>exact rfl
  all_goals try first|apply D.Bne b G|apply D.Bng b G|apply D.Bnf
  all_goals try k_is
  all_goals kernel_rfl
