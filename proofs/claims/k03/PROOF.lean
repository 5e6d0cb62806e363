import PyProof.Rows.All
import Wide.All
import OpenK.AllK
import Wide.FinOn
import Lean
import PyProof.EqAt
import PyProof.EqKinds
import PyProof.TupleCall
import PyProof.StrLawsIn
import PyProof.StrLawsRepr
import PyProof.ReprLen
import PySem.Challenge.RW_leafhouse_k03_keys_values_pages
set_option Elab.async false
set_option linter.all false
set_option compiler.extract_closed false
set_option maxRecDepth 100000
set_option maxHeartbeats 8000000
set_option autoImplicit true
set_option relaxedAutoImplicit true
set_option genSizeOf false
noncomputable section
open List renaming length_map->aA,map_cons->aG,mem_cons_self->aH,length_append->aK,getElem?_eq_some_iff->aL,mem_cons_of_mem->aM,append_assoc->aO,length_cons->aU,getElem?_eq_getElem->aW,prefix_refl->aX,getElem?_append_left->aY,mem_singleton->bA,map_map->bB,getElem?_append_right->bC,size_toArray->bD,mem_cons->bF,replicate->bG,append_nil->bJ,range->bR,not_mem_nil->bT,mem_map->bU,mem_append->bW,all_cons->bY,prefix_append->bZ,getElem?_map->cB,length_singleton->cC,length_drop->cD,all_eq_true->cG,getElem?_set_ne->cJ,getElem?_set_self->cQ,getD_eq_getElem?_getD->cR,map_nil->cT,mem_append_right->cU,length_range->cW,map_append->cX,getElem?_eq_none_iff->dZ,drop_eq_getElem_cons->eF,length_take->eQ,lookup_cons->eV,replicate_succ->eY,length_replicate->fB,length_set->fD,filter_eq_self->fH,drop_eq_nil_of_le->gG,mem_filterMap->gJ,mem_of_getElem?->gU,flatten_cons->gV,find?_cons->gZ,take_of_length_le->iI,any_cons->iJ,map_drop->iM,mem_range->iR,drop_zero->iZ,getElem?_eq_none->jC,all_map->jF,sum_cons->jH,filterMap_cons->jK,getElem?_replicate->jL,nodup_cons->jV,nil_append->jW,length_filter_le->kO,take_sublist->kZ,reverse_cons->lB,drop_sublist->lE,length_eraseIdx->lR,take_length->lY,getElem_mem->lZ,filter_cons->mG,pairwise_cons->mV,length->mW,not_lt->mY,nodup_append->nJ,take_append_drop->nR,map_take->nY,mem_append_left->nZ,length_nil->oG,forIn_cons->oH,length_reverse->oR,takeWhile_cons->oU,mem_map_of_mem->oV,length_take_le->oW,getElem?_take_of_lt->qG,length_filterMap_le->qL,mem_of_mem_eraseIdx->qM,cons_append->qR,eraseIdx_cons_succ->qW,length_eq_zero_iff->qX,mem_filter->rT,of_mem_zip->rW,length_zip->sE,getElem?_zipWith->sH,eraseIdx_sublist->sI,forIn_nil->sW,drop_eq_nil_iff->sZ,getLast?_append->tE,set_append_left->tG,mem_of_mem_drop->tH,mem_of_mem_take->tK,getElem_of_mem->tZ,length_zipWith->uD,contains_cons->vA,mem_replicate->vD,ext_getElem?->vZ,map_id'->wC,getElem_inj->wD,zipIdx_cons->wO,mem_reverse->wV,any_eq_true->wW,map_reverse->wX,zipIdx_nil->xM,foldl->yF,mapM_cons->yJ,nodup_nil->yK,lookup->aAn,range'->aAq,map->aAu,zip->aBs
open PySem renaming wpAny_bind->aB,Value->aJ,Addr->aQ,wpAny_pure->aV,Shared->aZ,PyData->bK,Expr->cA,Program->cP,wpAny_field->dF,Stmt->dG,wpAny_newObj_type->dI,wpAny_loadPart_at->dM,Heap->dN,World->dO,wpAny_truthy_bool->dW,FuncData->eO,wpAny_callSpecial?_slot->fC,wpAny_call_entry->fQ,Around->fV,wpAny_mono->fW,mem_of_lookup->iD,wpAny_seqItems->iW,wpAny_setField_rec->iY,wpAny_passesOwn->jD,codeAny_call_builtin->jE,wpAny_Call_Name_kw->jP,Keyword->jQ,wpAny_holding->jZ,Scope->kW,NameKind->lH,wpAny_execs_nil->mQ,IsPair->mU,sizeLine_eq->oA,wpAny_updateSeq_pair->oF,wpAny_typeOf->oY,codeAny_mono->oZ,wpAny_pyIter_tuple->pI,wpAny_setField->pM,wpAny_sequenceKey->qC,Paired->qD,wpAny_standAt->qH,wpAny_onRaise->qJ,PassesOwn->qO,noFill_tuple_add->qP,IsPart->rA,call_meets->rF,wpAny_call->rH,wpAny_rule->rJ,IsZip->rZ,wpAny_isTrue_Compare1->sG,GenState->sO,CmpOp->sS,Builtin->tV,wpAny_isSubtype_exc->uB,seq_tuple_add->uE,evalPart_none->uF,wpAny_attempt->uK,wpAny_newList->uL,tupleKind_room_in1->uV,wpAny_pyIter_list->vI,BindsTo->vN,concat_meets->vO,ExcBaseFacts->vW,wpAny_execs_cons->wF,take_succ_filter->wN,wpAny_pyIter_zip->wR,wpAny_letGo->xF,OwnTail->xR,wpAny_Name->xT,Operator->xU,typeIs_str->xY,typeIs_int->xZ,PlainAttrs->yE,fitsIndex_both->yG,call->yI,wpAny_newTuple->yL,repr_of_reads'->yR,intBits_le_64->yX,call_list_seq->zE,Within->zN,seqIndex_neg->zP,OsState->zR,Drawn->aAf
open Bool renaming and_eq_true->aC,and_eq_true_iff->aR,false_ne_true->bH,eq_false_iff->bI,not_eq_true'->dJ,or_eq_true->fO,true_and->iK,and_false->jM,or_true->mC,or_eq_true_iff->mJ,false_eq_true->pP,false_and->sU,or_eq_false_iff->tM,false_or->uG,not_true->uM,and_true->uN,noConfusion->wM,and_assoc->yV,or_false->yZ,and_self->zL,not_and->aAa
open Nat renaming le_trans->aD,le_refl->aN,lt_of_lt_of_le->bM,add_le_add_right->cZ,ne_of_lt->dC,zero_le->dU,mul_le_mul_right->dX,sub_self->eG,lt_irrefl->fK,add_le_add_left->iG,le_add_right->iQ,lt_succ_self->jO,le_succ->lL,le_of_lt->lU,succ_le_succ->lW,min_eq_left->oN,le_of_eq->pA,ne_of_gt->qY,sub_zero->rK,le_of_succ_le_succ->rP,add_le_add->tD,lt_of_le_of_lt->uZ,eq_zero_or_pos->vB,lt_trans->vP,succ_pos->wB,min_le_right->wJ,succ_mul->zQ,lt_or_ge->zZ,add_mul->aAv
open PySem.W renaming Frag->aF,nsIn->bL,mg_of->bQ,mg_none_of->cH,fnOf->dD,findIn->dH,kia_one->eN,hideAll_get->eX,keepIn->fM,kitOne->gR,hideAll->gY,exmOne->jN,mroIn->jY,codeIn->lJ,typeIn->lQ,kitAny->nG,of_hideAll->pG,methodObj->pX,hasDictIn->pY,specialIn->pZ,clsIn->qI,cellsFrom_some->qZ,funFrames_hide->rG,instObj->rR,OpenLaw->rY,hideAll_none->sJ,lookIn->sV,excIn->uH,isNs_of_in->uW,tail_of_in->uX,callWith_K->uY,kitx_list->vJ,kitx_dict->vK,plainGet->wH,readsIn->xO,findCls->xP,InstAt->xV,WalkO->zF
open PySem.Heap renaming get?_push_of_some->aP,lt_size->bN,get?_push_size->bO,get?_update_other->fY,get?_none_of_le->gQ,FlyingW->iH,get?_update_self->jB,MadeExcOf->lN,size_push->lO,SameBut->lV,size_update->qQ,get?_update_ne->uC,get?_push_ne->vV,NotedW->wZ,IsTuple->zT,ExtBut->aAo
open Option.some renaming inj->bV,injEq->gF
open Option renaming map_eq_some_iff->cF,getD_some->lX,isSome_iff_exists->mK,getD_none->wL
open PySem.Value renaming ref->cL,builtin->gP,none->gW,str->pD,int->tR,bool->uR,float->wY,isStrOf->yW,isInt->aAc,bytes->aAe,type->aBe
open PyProof.Rows renaming slot_tuple_getitem->cM,callWith_type1->kY,SortSt->oM,entry_tuple_getitem->oO,AllBare->oX,slicePart_none->pK,args_tuple_getitem->pL,subscriptTail_builtinR->rD,wpS_bind->sX,IntsAre->tU,StrsAre->tX,IsTup->vH,callWith_builtin1->wI,slice_closes_toL->xG,entry_list_sort->xN,Subscript_->xW,tail_any->xX,size_push'->yM,slot_list_sort->yN,args_list_sort->yO,wpS_pure->yP,Keyed->yQ,slice_closesL->yU,sortedAll_old->zH,strKind_oneLt->zJ,listUpdate_at->zK,sortedAll_at->zU,plain_sorted->zV,entry_sorted->zW,args_sorted1->zX,keyKind_strs->zY
open Array renaming length_toList->cN,getElem?_eq_some_iff->iU,getElem?_toList->jA,append_empty->jT,mem_toList_iff->lG,getElem?_setIfInBounds_ne->nO,eq_empty_of_size_eq_zero->nW,append_assoc->pH,getElem?_eq_none_iff->pO,all_eq_true'->pQ,getElem?_eq_getElem->pW,find?_toList->uT,size_append->vY,toList->zO
open PySem.SeqAt renaming shaped->cO,EqAt->aBf
open Int renaming toNat_natCast->cV,toNat_of_nonneg->eZ,emod_nonneg->gH,emod_lt_of_pos->gM,natCast_nonneg->mR,ediv_one->nC,fdiv_eq_ediv_of_nonneg->pJ,pow_zero->rN,zero_add->rO,ediv_nonneg->xQ
open PySem.PyData renaming strOk->cY,str->fJ,shownAll->iB,int->iC,eqv->jU,tuple->mF,canLayAll0->nM,bool->tL,eqvAll->uO,showableAll->vC,hasDictAll->wA,list->aAr
open PySem.Builtin.Tuple renaming tupleExact->dR,tupleItemsOf->lK,tupleIsExact->yS
open PySem.Builtin.Slice renaming slicePlaces->dY,sliceApplied->iT,sliceAdjust->mH,sliceFields->pR,slicePartIndex->xH
open PySem.NameKind renaming free->eU,cell->uI
open False renaming elim->fG
open PySem.Builtin.Str renaming occurrences->fP
open PySem.Str renaming ofString->fX,join->aAt,mk->aBr
open PySem.F renaming excBase_ValueError->fZ,slot_tuple_iterator_next->iV,args_tuple_add_2->mL,entry_tuple_add->mX,slot_tuple_add->nA,attr_ValueError->nF,typeOf_object_class->nQ,args_tuple_iterator_next_1->oJ,slot_zip_next->oK,entry_tuple_iterator_next->pB,store_ValueError->qK,plainAttrs_list->qU,plainAttrs_str->rM,slot_gs_get->uJ,args_zip_next_1->vU,entry_zip_next->wQ,slot_int_rmul->xJ,entry_bexc_ga->xK
open PySem.Txt renaming stripChars->gB,slice->pF,mul->tW,join->vR,stripBy->aAs
open True renaming intro->gK
open Ne renaming symm->gO
open PySem.Builtin.List renaming listTooLong->jG,listFitsIndex->yH
open Sum renaming inr->jJ,inl->tO
open PySem.Obj renaming data_mapFields->jR,mapSeq->lM,mapFields->mO,isFreed_of_fields->nP,cls_mapFields->vQ
open ForInStep renaming yield->jX
open List.cons renaming inj->kJ
open PySem.Calls renaming Name_function_global->lF,evalArgs_plain->oE,call_function_entry->pU,loadGlobal_global->qN,callWith_builtin->rE
open PySem.Builtin renaming bitAnd->mZ
open Subtype renaming mk->nU
open PySem.Code renaming quiet_builtin->pN,isFrame->vM,frames->aAh
open PySem.Paired renaming length->qF,snoc->aAl
open Std.Legacy.Range renaming forIn_eq_forIn_range'->sY,size->aAb
open PySem.EntryCells renaming newEntry->tY
open PySem.Heap.SameBut renaming update->uA
open PySem.SeqAt.EqAt renaming int_str->uP,str_int->uQ,none_bool->aAi,bool_none->aAj,bool_bool->aAk,none_int->aAw,none_str->aAx,bool_int->aAy,bool_str->aAz,int_none->aBa,int_bool->aBb,str_none->aBc,str_bool->aBd,int_int->aBg,str_str->aBh,same->aBp
open PySem.Heap.IsSliceOf renaming new->uU
open PySem.AutoListH renaming list___mul___list_int_3->vG
open PySem.Around renaming under->vL
open Nat.succ renaming inj->vX
open PySem.Data renaming cell->wG,fields->aAg,seq->aAm
open PyProof.Rows.IsTup renaming new->wK
open Std.Legacy renaming Range->wU
open PySem.Value.ref renaming inj->zG
open PySem.Builtin.Range renaming rangeSize->zM
open Sum.inr renaming inj->aAd
open PySem.Shared renaming heap->aAp
open List.Perm renaming cons_inv->aBi
open List.Pairwise renaming nil->aBj
open PySem.Heap.IsTuple renaming push->aBk
open PySem.PassesOwn renaming leaving->aBl
open PySem.DictEntry renaming refKey->aBm
open PySem.IsL renaming update->aBn
open PySem.W.Looks renaming ld->aBo
open PySem.Heap.DictOf renaming new->aBq
namespace PySem.W.Fast
def tw4972885919823103364:=0
def tw17448804160774968774:=0
def tw7945460680977619312:=0
def tw12471970095373711083:=0
def tw16713539392587542283:=0
def tw16929235941973257790:=0
def tw2238906686884482877:=0
def tw5217980611972958715:=0
def tw5077583428271294260:=0
def tw5012365379856919084:=0
def tw16873128582235416237:=0
def tw13808781615685217450:=0
def tw6012318898040239338:=0
def tw18352137030187010265:=0
def tw18049474777978646136:=0
def tw6150809356411508943:=0
def tw11510865763408616734:=0
def tw2973306689066783533:=0
def tw13413201082856369667:=0
def tw4077779093630960104:=0
def tw15962632890367684680:=0
def tw10682511475914886817:=0
def tw13500533802648954356:=0
def tw6353652707807705522:=0
def tw9025456639394752533:=0
def tw6966873454386134275:=0
def tw11009216959356953327:=0
def tw17140481148269503792:=0
def tw4527244750653697430:=0
def tw15980488807596999522:=0
def tw15436216579292995755:=0
def tw9346040267928422335:=0
def tw273047231736607570:=0
def tw3236651805857119275:=0
def tw13012617943323283859:=0
def tw7882312538745669328:=0
def tw10051391104990138680:=0
def tw14047032690748718644:=0
def tw15072547784419469412:=0
def tw3388905984948168821:=0
def tw9313023057543270301:=0
def tw10267622819127336538:=0
def tw8488438767907801158:=0
def tw13326375482341873630:=0
def tw4131829471780745466:=0
def tw15785684594636520817:=0
def tw2755241378704007248:=0
def tw4156488158778442138:=0
def tw16781193145790619249:=0
def tw2046358067596650646:=0
def tw12244359590327739651:=0
def tw11084894136658131580:=0
def tw12209158869860079178:=0
def tw4441967263802752597:=0
def tw2558044308778140897:=0
def tw14838665564255667324:=0
def tw11375155403908098513:=0
def tw10026372196598277870:=0
def tw11965096596985333043:=0
def tw9611190697576835443:=0
def tw18078842394525998054:=0
def tw3192740803153868807:=0
def tw11111422661732024536:=0
def tw13183773651860936703:=0
def tw10230909285059840973:=0
def tw2450623991687042489:=0
def tw10148418401944126039:=0
def tw11750191524096091130:=0
def tw17046347644109740247:=0
def tw17353227436178844125:=0
def tw12980401869141650042:=0
def tw17434380301188239094:=0
def tw16286736571972899629:=0
def tw17340244403892104496:=0
def tw8100609686586935614:=0
def tw2427398324794617085:=0
def tw15349557096898032432:=0
def tw14125041853575464644:=0
def tw9927410558440167733:=0
def tw14311204904233442318:=0
def tw981813550317693007:=0
def tw4347130815246811917:=0
def tw11738720475315456295:=0
def tw325704681538473681:=0
def tw15381302766587354777:=0
def tw18176368538393652090:=0
def tw14061937107493274918:=0
def tw2933090261076288838:=0
def tw14546868046253413868:=0
def tw11180193073559197826:=0
def tw1776896394162050109:=0
def tw13614504943051052646:=0
def tw13488887083731261065:=0
def tw3289767791077730452:=0
def tw853162573663093246:=0
def tw14807423387556476543:=0
def tw12597055581212421480:=0
def tw17566480387704708355:=0
def tw8820409020654204800:=0
def tw12541170042001981913:=0
def tw5873637059575270604:=0
def tw10474856676712856532:=0
def tw9356906007816901683:=0
def tw10190192923243755214:=0
def tw11475045601792046951:=0
def tw12531811150734596317:=0
def tw9156472789069907565:=0
def tw4791811488071689287:=0
def tw4206326592664827142:=0
def tw15077034676768784514:=0
def tw16863053477677464659:=0
def tw5654107066382524909:=0
def tw10441394735042157675:=0
def tw9298578840361259895:=0
def tw17223893842863591779:=0
def tw6176183582978762006:=0
def tw8594364569883674189:=0
def tw9656627780142088170:=0
def tw15613720167018343783:=0
def tw17931463011105612354:=0
def tw16026566266810862285:=0
def tw4160972620439489991:=0
def tw12486245171611498311:=0
def tw14168401744595973369:=0
def tw103316148211489755:=0
def tw15246490542604785210:=0
def tw12665452911605789290:=0
def tw15735971240292889652:=0
def tw10964526607570613165:=0
def tw4986355389164636155:=0
def tw2343923816818818885:=0
def tw14486585236439977457:=0
def tw11634061540817304477:=0
def tw13088956059078871286:=0
def tw7516585670748399014:=0
def tw11370963539809289249:=0
def tw16756721335398397920:=0
def tw12742500916784900187:=0
def tw10022463912508937840:=0
def tw11810652144252522923:=0
def tw18085726281772496810:=0
def tw12210053810222980635:=0
def tw18009343074800285293:=0
def tw7740396700555201797:=0
def tw11210370316385738183:=0
def tw10094794341032389282:=0
def tw11264340618443689442:=0
def tw16855525492397645612:=0
def tw4680301787255474882:=0
def tw10982341159616644602:=0
def tw2903516634789325926:=0
def tw17179244255522520441:=0
def tw4383083551312442229:=0
def tw5767311913221397489:=0
def tw7184364977802640182:=0
def tw17963765145417835221:=0
def tw16519113249833861388:=0
def tw9833513451554800499:=0
def tw5706974901293260057:=0
def tw18355791234442062578:=0
def tw17630750255367636150:=0
def tw14018703218054323166:=0
def tw5670352089083624752:=0
def tw6237485167727372264:=0
def tw4724850389802333192:=0
def tw11363709777298013218:=0
def tw11255696603340223537:=0
def tw3814995709782575072:=0
def tw2476634202797267280:=0
def tw563678199335212312:=0
def tw5054778030050506657:=0
def tw8701417058768958564:=0
def tw9586341707921432642:=0
def tw5848752217566112565:=0
def tw9543467963292783469:=0
def tw5647084131570109258:=0
def tw5569172477838848589:=0
def tw4157090716785973565:=0
def tw3397813837961497594:=0
def tw16411982361052448394:=0
def tw1454012588848519030:=0
def tw12303863477649268551:=0
def tw1213508567156406957:=0
def tw10697885204786956070:=0
def tw4674135067376747559:=0
def tw11423506243969248071:=0
def tw16196156164522693051:=0
def tw10020080700647862815:=0
def tw16999030609825021569:=0
def tw13222990254168355835:=0
def tw9816427601717641325:=0
def tw2035054706867758632:=0
def tw1817126440481006303:=0
def tw3489410440254545903:=0
def tw15515963106085407575:=0
def tw18391281724171479211:=0
def tw8692256858307697711:=0
def tw13905053887692493377:=0
def tw8672658766203766766:=0
def tw3176377826918002427:=0
def tw5482560030799784807:=0
def tw16361255946414299286:=0
def tw13213791280617804938:=0
def tw10143775404064494483:=0
def tw15798264715584132125:=0
def tw17705214990917816355:=0
def tw12617965675180877891:=0
def tw3805865056183760571:=0
def tw10783167949672696985:=0
def tw16101983896663241348:=0
def tw1064242357633331207:=0
def tw16677224218039704008:=0
def tw8324203441176993893:=0
def tw3989726968187509891:=0
def tw14456184609918261208:=0
def tw14509708819373500105:=0
def tw3878618074190423844:=0
def tw6631882019320674302:=0
def tw1924172562545488506:=0
def tw15754833401222959266:=0
def tw13854895041742695445:=0
def tw17619415925229409633:=0
def tw9393971701964332:=0
def tw8770538558819264986:=0
def tw5754021153565970907:=0
def tw17974525877642830659:=0
def tw10013380825090054894:=0
def tw6369109519945302552:=0
def tw17343360316378382361:=0
def tw11497836402691684679:=0
def tw7218880491278368851:=0
def tw4318477228538364559:=0
def tw3831075197171008404:=0
def tw14067689466572571561:=0
def tw7392706948871070970:=0
def tw13123604163423739734:=0
def tw8302301131349376347:=0
def tw4643057746824708830:=0
def tw8160930983913761938:=0
def tw7468148897525371811:=0
def tw1585414415115491340:=0
def tw4184635655977280300:=0
def tw10137930808261522582:=0
def tw5467250583631361267:=0
def tw4042629034761108586:=0
def tw17359629197658583471:=0
def tw11442667554073516764:=0
def tw10408432077690194436:=0
def tw15430299714532348344:=0
def tw6946490857072842954:=0
def tw14602905195087238804:=0
def tw13679399206335578562:=0
def tw5935453182761621168:=0
def tw13529568917644103440:=0
def tw10723745675758478985:=0
def tw17379612821545847033:=0
def tw1195022414259884749:=0
def tw17499912789919856882:=0
def tw14806519424071637920:=0
def tw4157617698988316306:=0
def tw17792974067479859001:=0
def tw9681844965233856809:=0
def tw8879762516447841426:=0
def tw3782621522946112523:=0
def tw10609249500333810028:=0
def tw17364021672095189957:=0
def tw13759870243639445996:=0
def tw16798850646107508921:=0
def tw4656176893338454697:=0
def tw8245266884231236437:=0
def tw12978375296827805356:=0
def tw7494818600050851001:=0
def tw4193720160550812789:=0
def tw5959638523629671502:=0
def tw4435523349898457315:=0
def tw17980791184674650794:=0
def tw11520732617205299720:=0
def tw6375052075866942486:=0
def tw15689002584808662491:=0
def tw6269509532982661056:=0
def tw6859699190217544356:=0
def tw6342633760357119430:=0
def tw17347143839702493200:=0
def tw1730777714236041780:=0
def tw11990915747709822550:=0
def tw1628906605707360093:=0
def tw5433095009201058744:=0
def tw9674676231460316063:=0
def tw7062290299626139198:=0
def tw1402303840757164444:=0
def tw12596275134263239478:=0
def tw11063320427444856683:=0
def tw15616277524885354741:=0
def tw4435403663359065711:=0
def tw6831772578872199491:=0
def tw10232587980822059505:=0
def tw16123929489498749742:=0
def tw1369777499935858094:=0
def tw5029216963787020708:=0
def tw7362395977478023501:=0
def tw2136475873959673732:=0
def tw11501563166361669930:=0
def tw8847778343896293536:=0
def tw6913740011009002818:=0
def tw663353183310111683:=0
def tw6593154556651077266:=0
def tw6584794079623199837:=0
def tw5953109952842988027:=0
def tw4793001735448757786:=0
def tw4610284788354891316:=0
def tw2286253251739880581:=0
def tw17972600863275938654:=0
def tw15616938452432441382:=0
def tw15180510130814093723:=0
def tw10051730724759515262:=0
def tw2940819892188351790:=0
def tw5661246219878420562:=0
def tw4889189445764796170:=0
def tw4303978968267728902:=0
def tw1033722649820468358:=0
def tw15072891355991133126:=0
def tw2792525691507607200:=0
def tw15759200115788484681:=0
def tw10508607098544292796:=0
def tw15361921851856133649:=0
def tw5703608137891147264:=0
def tw13102226578531475295:=0
def tw9531045870787866212:=0
def tw9328510752594636408:=0
def tw2228019299380188890:=0
def tw17621578233792292952:=0
def tw17227601143590312483:=0
end PySem.W.Fast
namespace L2
open PySem PySem.Spec PyProof.Rows
abbrev Key:=Sum Int Str
def Aae:Key->aJ->Bool
 |.inl k,v=>aAc k v
 |.inr x,v=>yW x v
def Bkq(w:dO):Key->Int
 |.inl k=>hashInt k
 |.inr x=>hashStr w x
theorem Ey:∀{k:Key} {v:aJ},Aae k v=true->(∃i t,k=tO i/\v=tR i t)\/(∃x t,k=jJ x/\v=pD x t)
 |.inl i,v,h=>by
  obtain⟨t,e⟩:=Value.isInt_shape (k:=i) (v:=v) h;exact .inl ⟨i,t,rfl,e⟩
 |.inr x,v,h=>by
  obtain⟨t,e⟩:=Value.isStrOf_shape (x:=x) (v:=v) h;exact .inr ⟨x,t,rfl,e⟩
theorem Ao9(i:Int)(t:Tok):Aae (.inl i) (.int i t)=true:=by simp[Aae,aAc]
theorem Apa(x:Str)(t:Tok):Aae (.inr x) (.str x t)=true:=by simp[Aae,yW]
theorem Bcn(a b:Int):decide ((tO a:Key)=tO b)=(a==b):=by
 by_cases e:a=b
 .subst e;simp
 .have h:¬ (tO a:Key)=tO b:=λq=>e (Sum.inl.inj q);rw[decide_eq_false h];exact(beq_eq_false_iff_ne.mpr e).symm
theorem Bco(a b:Str):decide ((jJ a:Key)=jJ b)=decide (a=b):=by
 by_cases e:a=b
 .subst e;simp
 .have h:¬ (jJ a:Key)=jJ b:=λq=>e (aAd q);rw[decide_eq_false h,decide_eq_false e]
theorem Bcp(a:Int)(b:Str):decide ((tO a:Key)=jJ b)=false:=decide_eq_false (λq=>nomatch q)
theorem Bcq(a:Str)(b:Int):decide ((jJ a:Key)=tO b)=false:=decide_eq_false (λq=>nomatch q)
def Fv(prog:cP)(w:dO):PySem.KeyKind prog w Key where
 is:=Aae
 hash:=Bkq w
 inj:=λv a b ha hb=>by
  rcases Ey ha with ⟨i,t,rfl,rfl⟩|⟨x,t,rfl,rfl⟩
  .rcases Ey hb with ⟨j,u,rfl,e⟩|⟨y,u,rfl,e⟩
   .injection e with e1 _;rw[e1]
   .exact nomatch e
  .rcases Ey hb with ⟨j,u,rfl,e⟩|⟨y,u,rfl,e⟩
   .exact nomatch e
   .injection e with e1 _;rw[e1]
 byValue:=λk v h=>by
  rcases Ey h with ⟨i,t,rfl,rfl⟩|⟨x,t,rfl,rfl⟩ <;> rfl
 pyHash:=λhv h=>by
  rcases Ey hv with ⟨i,t,rfl,rfl⟩|⟨x,t,rfl,rfl⟩
  .exact wpAny_pyHash_int h
  .exact wpAny_pyHash_str h
 eqBool:=λhu hv h=>by
  rcases Ey hu with ⟨i,t,rfl,rfl⟩|⟨x,t,rfl,rfl⟩
  .rcases Ey hv with ⟨j,u,rfl,rfl⟩|⟨y,u,rfl,rfl⟩
   .rw[Bcn] at h;exact wpAny_eqBool_int h
   .rw[Bcp] at h;exact uP i t y u _ _ _ _ h
  .rcases Ey hv with ⟨j,u,rfl,rfl⟩|⟨y,u,rfl,rfl⟩
   .rw[Bcq] at h;exact uQ x t j u _ _ _ _ h
   .rw[Bco] at h;exact wpAny_eqBool_str h
 «strs»:=λk x t v h=>by
  rcases Ey h with ⟨i,u,rfl,e⟩|⟨y,u,rfl,e⟩
  .exact nomatch e
  .injection e with e1 _
   subst e1;cases v <;> rfl
def Aic(prog:cP)(w:dO)(i:Int)(t:Tok):(Fv prog w).is (.inl i) (.int i t)=true:=Ao9 i t
def Aid(prog:cP)(w:dO)(x:Str)(t:Tok):(Fv prog w).is (.inr x) (.str x t)=true:=Apa x t
inductive V where
 |non|bl (b:Bool)|int (i:Int)|str (x:Str)|byt (b:Array UInt8)|flt (b:UInt64)|ref (a:aQ)|ty (n:String)
 deriving DecidableEq
def RelV:V->aJ->Prop
 |.non,u=>u=gW
 |.bl b,u=>u=uR b
 |.int i,u=>∃t,u=tR i t
 |.str x,u=>∃t,u=pD x t
 |.byt b,u=>∃t,u=aAe b t
 |.flt b,u=>∃t,u=wY b t
 |.ref a,u=>u=cL a
 |.ty n,u=>u=aBe n
abbrev Vals:List V->List aJ->Prop:=qD RelV
def Vals.length{xs:List V}{us:List aJ}(r:Vals xs us):xs.length=us.length:=qF r
theorem Vals.get:∀{xs:List V} {us:List aJ} {i:Nat} {x:V},Vals xs us->xs[i]?=some x->∃u,us[i]?=some u/\RelV x u
 |_,_,_,_,.nil,e=>by simp at e
 |_,_,0,_,.cons r _,e=>by simp at e;subst e;exact⟨_,rfl,r⟩
 |_,_,i+1,x,.cons _ t,e=>by
  obtain⟨u,h1,h2⟩:=Vals.get (i:=i) (x:=x) t (by simpa using e)
  exact⟨u,by simpa using h1,h2⟩
theorem Vals.set(r:RelV x u):∀{xs:List V} {us:List aJ} (i:Nat),Vals xs us->Vals (xs.set i x) (us.set i u)
 |_,_,_,.nil=>.nil
 |_,_,0,.cons _ t=>.cons r t
 |_,_,i+1,.cons q t=>.cons q (Vals.set r i t)
theorem Vals.append{xs ys:List V}{us ws:List aJ}(h:Vals xs us)(s:Vals ys ws):Vals (xs ++ ys) (us ++ ws):=by
 induction h with
 |nil=>exact s
 |cons r _ ih=>exact .cons r ih
theorem Vals.take:∀{xs:List V} {us:List aJ} (n:Nat),Vals xs us->Vals (xs.take n) (us.take n)
 |_,_,0,_=>.nil
 |_,_,_+1,.nil=>.nil
 |_,_,n+1,.cons r t=>.cons r (Vals.take n t)
theorem Vals.drop:∀{xs:List V} {us:List aJ} (n:Nat),Vals xs us->Vals (xs.drop n) (us.drop n)
 |_,_,0,r=>r
 |_,_,_+1,.nil=>.nil
 |_,_,n+1,.cons _ t=>Vals.drop n t
def Aa4:Option V->Option aJ->Prop
 |some v,some u=>RelV v u
 |none,none=>True
 |_,_=>False
def KV{κ:Type}:List (κ×V)->List (κ×aJ)->Prop:=qD λ(p:κ×V) (q:κ×aJ)=>p.1=q.1/\RelV p.2 q.2
def kV:Key->V
 |.inl i=>.int i
 |.inr x=>.str x
inductive HO where
 |lst (xs:List V)
 |tup (xs:List V)
 |dK (kvs:List (Key×V))|dT (kvs:List (List Key×V))
 |set (S:Int->Bool) (n:Nat)
 |ins (C dx:aQ) (fs:List (Str×V))
 |own (x:aQ)
 |xd (fs:List (Str×V))
 |met (f x:aQ)
 |rng (lo hi:Int)
 |frz (o:Obj) (u:HO)
 |tbl (ps:Array aJ)
 |ext (φ:dN->Prop)
abbrev Hp:=aQ->Option HO
def upd(H:Hp)(a:aQ)(o:HO):Hp:=λb=>if b=a then some o else H b
theorem Bl:upd H a o a=some o:=by unfold upd;rw[if_pos rfl]
theorem Bb(h:b≠a):upd H a o b=H b:=by unfold upd;rw[if_neg h]
theorem Aw2:upd (upd H a o) a u=upd H a u:=by
 funext b;unfold upd;split <;> rfl
theorem Bhn{H:Hp}{a b:aQ}{o u:HO}(h:H a=some o)(h':H b=some u)(d:o≠u):a≠b:=by
 intro e;subst e;rw[h] at h';exact d (bV h')
theorem Df{H:Hp}{a b:aQ}{o:HO}(h:H a=some o)(h':H b=none):a≠b:=by
 intro e;subst e;rw[h] at h';cases h'
section
variable(P:cP)(w:dO)
def Dr(H:Hp)(h:dN)(a:aQ):HO->Prop
 |.lst xs=>xs.length<=sizeLine/\∃(its:List aJ)(n:Nat),Vals xs its/\h.get? a=some { cls:=.type "list",data:=.seq its.toArray n }
 |.tup xs=>xs.length<=sizeLine/\∃its:List aJ,Vals xs its/\vH h a its.toArray
 |.dK kvs=>kvs.length<=sizeLine/\(a==sysModules)=false/\∃vs,KV kvs vs/\h.DictOf (Fv P w) a vs
 |.dT kvs=>kvs.length<=sizeLine/\(a==sysModules)=false/\∃xs:List (List Key×aQ×aJ),
   qD (λ(p:List Key×V) (q:List Key×aQ×aJ)=>p.1=q.1/\H q.2.1=some (.tup (p.1.map kV))/\RelV p.2 q.2.2) kvs xs/\
   ∃o es ep,h.get? a=some o/\o.ExactDict/\o.data=.dict es ep/\es.toList=xs.map (entryOfKey (tupleKind (Fv P w)))/\(xs.map (·.1)).Nodup
 |.set S n=>h.SetOf (intKind P w) a S n
 |.ins C dx fs=>H dx=some (.own a)/\fs.length<=1000/\dx≠a/\h.get? a=some (rR C dx)/\
   ∃mA,h.Ns1 dx mA/\(∀f,Aa4 (fs.lookup f) (mA f))/\zN mA (fs.map (·.1))
 |.own _=>∃o,h.get? a=some o
 |.xd fs=>∃mA,h.Ns1 a mA/\∀f,Aa4 (fs.lookup f) (mA f)
 |.rng lo hi=>∃t u v,h.get? a=some { cls:=.type "range",data:=.fields #[.int lo t,.int hi u,.int 1 v] }
 |.frz o u=>h.get? a=some o/\Dr H h a u
 |.tbl ps=>h.get? a=some { cls:=.none,data:=.fields ps }
 |.met f x=>h.get? a=some (pX (.ref f) (.ref x))
 |.ext φ=>φ h/\(∃o,h.get? a=some o)/\∀h1 h2:dN,φ h1->(∀o,h1.get? a=some o->h2.get? a=some o)->φ h2
def HOk(H:Hp)(h:dN):Prop:=∀a o,H a=some o->Dr P w H h a o
end
section
theorem Dr.lt(x:Dr P w H h a o):a < h.objs.size:=by
 cases o with
 |lst xs=>obtain⟨_,_,_,_,e⟩:=x;exact bN e
 |tup xs=>obtain⟨_,_,_,p⟩:=x;exact p.lt
 |dK kvs=>obtain⟨_,_,_,_,o,_,_,e,_⟩:=x;exact bN e
 |dT kvs=>obtain⟨_,_,_,_,o,_,_,e,_⟩:=x;exact bN e
 |set S n=>obtain⟨o,_,_,_,e,_⟩:=x;exact bN e
 |ins C dx fs=>obtain⟨_,_,_,e,_⟩:=x;exact bN e
 |own y=>obtain⟨_,e⟩:=x;exact bN e
 |xd fs=>obtain⟨_,⟨_,_,_,e,_⟩,_⟩:=x;exact bN e
 |rng lo hi=>obtain⟨_,_,_,e⟩:=x;exact bN e
 |frz ob u=>obtain⟨e,_⟩:=x;exact bN e
 |tbl ps=>exact bN (show h.get? a=some _ from x)
 |met f y=>exact bN (show h.get? a=some _ from x)
 |ext φ=>obtain⟨_,⟨_,e⟩,_⟩:=x;exact bN e
theorem Paired.mapP{α β:Type}{F G:α->β->Prop}{l₁:List α}{l₂:List β}(h:qD F l₁ l₂)(f:∀a b,F a b->G a b):qD G l₁ l₂:=by
 induction h with
 |nil=>exact .nil
 |cons r _ ih=>exact .cons (f _ _ r) ih
theorem Dr.stay(x:Dr P w H h a o)(k:∀b u,(b=a\/H b=some (.own a))->h.get? b=some u->h'.get? b=some u)(ho:∀b,H b=some (.own a)->H' b=some (.own a))(ht:∀b xs,H b=some (.tup xs)->H' b=some (.tup xs)):Dr P w H' h' a o:=by
 induction o with
 |lst xs=>obtain⟨z,its,n,r,e⟩:=x;exact⟨z,its,n,r,k _ _ (.inl rfl) e⟩
 |tup xs=>obtain⟨z,its,r,ob,e,c⟩:=x;exact⟨z,its,r,ob,k _ _ (.inl rfl) e,c⟩
 |dK kvs=>obtain⟨z,y,vs,r,ob,es,ep,e,c⟩:=x;exact⟨z,y,vs,r,ob,es,ep,k _ _ (.inl rfl) e,c⟩
 |dT kvs=>
  obtain⟨z,y,xs,r,ob,es,ep,e,c⟩:=x;exact⟨z,y,xs,Paired.mapP r λp q z=>⟨z.1,ht _ _ z.2.1,z.2.2⟩,ob,es,ep,k _ _ (.inl rfl) e,c⟩
 |set S n=>obtain⟨ob,es,ep,t,e,c⟩:=x;exact⟨ob,es,ep,t,k _ _ (.inl rfl) e,c⟩
 |ins C dx fs=>
  obtain⟨d,z,ne,e,mA,⟨od,es,ep,e2,c⟩,r⟩:=x;exact⟨ho _ d,z,ne,k _ _ (.inl rfl) e,mA,⟨od,es,ep,k _ _ (.inr d) e2,c⟩,r⟩
 |own y=>obtain⟨ob,e⟩:=x;exact⟨ob,k _ _ (.inl rfl) e⟩
 |xd fs=>obtain⟨mA,⟨od,es,ep,e,c⟩,r⟩:=x;exact⟨mA,⟨od,es,ep,k _ _ (.inl rfl) e,c⟩,r⟩
 |rng lo hi=>obtain⟨t,u,v,e⟩:=x;exact⟨t,u,v,k _ _ (.inl rfl) e⟩
 |frz ob u ih=>obtain⟨e,q⟩:=x;exact⟨k _ _ (.inl rfl) e,ih q⟩
 |tbl ps=>
  have e:h.get? a=some { cls:=.none,data:=.fields ps }:=x;show h'.get? a=some { cls:=.none,data:=.fields ps }
  exact k a _ (.inl rfl) e
 |met f y=>
  have e:h.get? a=some (pX (.ref f) (.ref y)):=x;show h'.get? a=some (pX (.ref f) (.ref y));exact k a _ (.inl rfl) e
 |ext φ=>obtain⟨p,⟨o,e⟩,st⟩:=x;exact⟨st _ _ p λo q=>k _ _ (.inl rfl) q,⟨o,k _ _ (.inl rfl) e⟩,st⟩
def HOk.lt(x:HOk P w H h)(e:H a=some o):a < h.objs.size:=(x a o e).lt
theorem HOk.fresh(x:HOk P w H h)(e:h.objs.size<=a):H a=none:=by
 cases q:H a with
 |none=>rfl
 |some u=>exact absurd (bM (x.lt q) e) (fK _)
theorem HOk.kept(x:HOk P w H h)(k:∀b u,h.get? b=some u->h'.get? b=some u):HOk P w H h':=λa o e=>
 (x a o e).stay (λb u _ q=>k b u q) (λ_ q=>q) λ_ _ q=>q
theorem HOk.laid(x:HOk P w H h)(k:∀b u,h.get? b=some u->h'.get? b=some u)(hp:h.objs.size<=a)(new:Dr P w (upd H a o) h' a o):HOk P w (upd H a o) h':=λb u e=>by
 have hn:=x.fresh hp;by_cases hb:b=a
 .subst hb;rw[Bl] at e;cases e;exact new
 .rw[Bb hb] at e;exact(x b u e).stay (λc v _ q=>k c v q) (λc q=>by rw[Bb (Df q hn)];exact q) λc xs q=>by rw[Bb (Df q hn)];exact q
end
def Rd(H:Hp)(a:aQ)(u:HO):Prop:=H a=some u\/∃o,H a=some (.frz o u)
def Rd.of(h:H a=some u):Rd H a u:=.inl h
theorem Rd.ok(r:Rd H a u)(x:HOk P w H h):Dr P w H h a u:=by
 rcases r with r|⟨o,r⟩
 .exact x a u r
 .obtain⟨_,q⟩:=x a _ r;exact q
def Mut:Option HO->Prop
 |some (.lst _)=>True
 |some (.dK _)=>True
 |some (.dT _)=>True
 |some (.set _ _)=>True
 |some (.ins _ _ _)=>True
 |some (.ext _)=>True
 |_=>False
section
theorem HOk.write(ok:HOk P w H h)(mu:Mut (H x))(he:e=x\/H e=some (.own x))(k:∀b u,b≠e->h.get? b=some u->h'.get? b=some u)(heo:∃u,h'.get? e=some u)(new:Dr P w (upd H x o') h' x o'):HOk P w (upd H x o') h':=λb u q=>by
 have nown:∀c y,H c=some (.own y)->c≠x:=λc y r z=>by subst z;rw[r] at mu;exact mu
 have ntup:∀c xs,H c=some (.tup xs)->c≠x:=λc xs r z=>by subst z;rw[r] at mu;exact mu
 by_cases hb:b=x
 .subst hb;rw[Bl] at q;cases q;exact new
 .rw[Bb hb] at q;by_cases hbe:b=e
  .have q':H b=some (.own x):=by
    rcases he with z|z
    .exact absurd (hbe.trans z) hb
    .rw[hbe];exact z
   rw[q] at q';cases q';obtain⟨v,hv⟩:=heo;exact⟨v,by rw[hbe];exact hv⟩
  .refine(ok b u q).stay (λc v hc r=>k c v ?_ r) (λc r=>by rw[Bb (nown c b r)];exact r) λc xs r=>by rw[Bb (ntup c xs r)];exact r
   rcases hc with rfl|hc
   .exact hbe
   .rintro rfl;rcases he with z|z
    .exact nown c b hc z
    .rw[hc] at z;cases z;exact hb rfl
end
structure Un(fs ex:List aQ)(H H':Hp)(h h':dN):Prop where
 keep:∀b o,h.get? b=some o->H b=none->b∉fs->b∉ex->h'.get? b=some o
 slot:∀b o,h.get? b=some o->H b=none->b∈fs->b∉ex->∃sl,h'.get? b=some { o with slots:=sl }
 free:∀b o,h.get? b=some o->H b=none->b∉ex->H' b=none
 there:∀b o,h.get? b=some o->b∉ex->∃o',h'.get? b=some o'
 tups:∀b xs,H b=some (.tup xs)->H' b=some (.tup xs)
 frzs:∀b o u,H b=some (.frz o u)->H' b=some (.frz o u)
 tbls:∀b ps,H b=some (.tbl ps)->∃more,H' b=some (.tbl (ps ++ more))
section
theorem Un.any(u:Un fs ex H H1 h h1)(q:h.get? b=some ob)(n:H b=none)(hx:b∉ex):∃sl,h1.get? b=some { ob with slots:=sl }:=by
 by_cases hb:b∈fs
 .exact u.slot b ob q n hb hx
 .exact⟨ob.slots,u.keep b ob q n hb hx⟩
theorem Un.kept(k:∀b u,h.get? b=some u->h'.get? b=some u):Un fs ex H H h h':=
 ⟨λb ob q _ _ _=>k b ob q,λb ob q _ _ _=>⟨ob.slots,k b ob q⟩,λ_ _ _ n _=>n,λb ob q _=>⟨ob,k b ob q⟩,λ_ _ q=>q,λ_ _ _ q=>q,λ_ ps q=>⟨#[],by rw[q];simp⟩⟩
def Un.refl:Un fs ex H H h h:=Un.kept λ_ _ q=>q
theorem Un.laid(k:∀b u,h.get? b=some u->h'.get? b=some u)(hp:h.objs.size<=a)(hn:H a=none):Un fs ex H (upd H a o) h h' where
 keep:=λb u q _ _ _=>k b u q
 slot:=λb u q _ _ _=>⟨u.slots,k b u q⟩
 free:=λb u q n _=>by rw[Bb (dC (bM (bN q) hp))];exact n
 there:=λb u q _=>⟨u,k b u q⟩
 tups:=λb xs q=>by rw[Bb (Df q hn)];exact q
 frzs:=λb u xs q=>by rw[Bb (Df q hn)];exact q
 tbls:=λb ps q=>⟨#[],by rw[Bb (Df q hn),q];simp⟩
theorem Un.write(mu:Mut (H x))(he:e=x\/H e=some (.own x))(k:∀b u,b≠e->h.get? b=some u->h'.get? b=some u)(heo:∃u,h'.get? e=some u):Un fs ex H (upd H x o) h h':=by
 have hx:∀b,H b=none->b≠x:=λb n z=>by subst z;rw[n] at mu;exact mu
 have hb:∀b,H b=none->b≠e:=λb n z=>by
  subst z;rcases he with r|r
  .exact hx b n r
  .rw[n] at r;cases r
 have hm:∀b u,H b=some u->¬ Mut (some u)->b≠x:=λb u q nm z=>by subst z;rw[q] at mu;exact nm mu
 refine⟨λb u q n _ _=>k b u (hb b n) q,λb u q n _ _=>⟨u.slots,k b u (hb b n) q⟩,λb u q n _=>by rw[Bb (hx b n)];exact n,λb u q _=>?_,
  λb xs q=>by rw[Bb (hm b _ q λz=>z)];exact q,λb u xs q=>by rw[Bb (hm b _ q λz=>z)];exact q,λb ps q=>⟨#[],by rw[Bb (hm b _ q λz=>z),q];simp⟩⟩
 by_cases hbe:b=e
 .subst hbe;exact heo
 .exact⟨u,k b u hbe q⟩
end
noncomputable def trk(h:dN)(H:Hp):List aQ:=(bR h.objs.size).filter λa=>(H a).isSome
def Agh(h:dN)(H:Hp):dN:=gY h (trk h H)
def Apb(h:dN)(H:Hp):(Agh h H).objs.size=h.objs.size:=PySem.W.hideAll_size _ _
theorem Asd(e:h.get? b=some o)(n:H b=none):(Agh h H).get? b=some o:=
 eX _ e λhm=>by
  have q:(H b).isSome=true:=(rT.mp hm).2;rw[n] at q;simp at q
theorem Aw3(e:(Agh h H).get? b=some o):h.get? b=some o/\H b=none:=by
 have e':h.get? b=some o:=pG (trk h H) e;refine⟨e',?_⟩;cases q:H b with
 |none=>rfl
 |some x=>
  have hm:b∈trk h H:=rT.mpr ⟨iR.mpr (bN e'),by simp[q]⟩
  have z:(Agh h H).get? b=none:=sJ (trk h H) hm;rw[z] at e;cases e
noncomputable def Aw4(g h:dN)(L:aQ):List (aQ×Obj):=(bR h.objs.size).filterMap λa=>if a=L\/(g.get? a).isSome=true then none else (h.get? a).map λo=>(a,o)
noncomputable def rest(g h:dN)(L d:aQ):List (aQ×Obj):=(Aw4 g h L).filter λp=>decide (p.1≠d)
structure Mod(K:aF)(mg:Str->Option aJ)(base:dN):Prop where
 kin:K.In base
 glob:base.Ns mainGlobals mg
 blt:∃mb,base.Ns builtinsNs mb/\∀x:Str,x≠"__name__"->mb x=bootBuiltins x
 nolimit:base.NoLimit
structure Cx where
 prog:cP
 w:dO
 K:aF
 mg:Str->Option aJ
 base:dN
 A:fV
 N:List Str
 s₀:aZ
 H₀:Hp
 env:Env
 outer:List Env
 stack:List Env
 ex:List aQ
 fn:Str->Bool
 calm:Bool
 pn:List (aQ×Obj)
 xe:aJ->aZ->Prop
noncomputable def frs(l:List Env):List aQ:=l.filterMap (·.frame)
abbrev Cx.fs(X:Cx):List aQ:=frs X.outer
def Vis(sc:kW)(x:Str):Prop:=sc.names.lookup x=some .local\/sc.names.lookup x=some .cell\/sc.names.lookup x=some .free
def Loc(sc:kW)(x:Str):Prop:=sc.names.lookup x=some .local\/sc.names.lookup x=some .cell
def Look(env:Env)(h:dN)(m:Str->Option aJ)(x:Str)(u:aJ):Prop:=
 (env.kindOf x=some .local/\m x=some u)\/((env.kindOf x=some .cell\/env.kindOf x=some .free)/\∃c,env.cells.lookup x=some c/\h.IsCell c (some u))
structure Cx.Ok(X:Cx):Prop where
 mod:Mod X.K X.mg X.base
 kind:X.env.scope.kind=.function
 glob:X.env.globals=mainGlobals
 blt:X.env.builtins=builtinsNs
 above:X.s₀.heap.objs.size<=X.env.locals
 inj:∀x y c,X.env.cells.lookup x=some c->X.env.cells.lookup y=some c->x=y
 has:∀x,(X.env.kindOf x=some .cell\/X.env.kindOf x=some .free)->∃c,X.env.cells.lookup x=some c
 cab:∀x c,X.fn x=true->X.env.cells.lookup x=some c->X.s₀.heap.objs.size<=c
 hd:X.calm=true->X.A.handled=none
 frames:X.A.frames=some X.stack
 stk:X.stack=X.outer\/(X.stack=X.env::X.outer/\X.env.frame=some X.env.locals)
 exf:∀b∈X.ex,b≠X.env.locals/\∀x c,X.env.cells.lookup x=some c->c≠b
 bs:∀b o,X.base.get? b=some o->X.s₀.heap.get? b=some o/\X.H₀ b=none
 bsz:X.base.objs.size<=X.s₀.heap.objs.size
 noex:∀b o,X.base.get? b=some o->b∉X.ex
 exfs:∀b∈X.ex,b∉X.fs
 funs:X.s₀.heap.FunFrames X.base X.outer
 frf:∀b∈X.fs,X.H₀ b=none
structure Inv(X:Cx)(aa:List (aQ×Obj))(σ:List (Option V))(H:Hp)(s:aZ):Prop where
 ok:X.Ok
 os:s.os=X.s₀.os
 bare:oX s.gens
 base:Un X.fs X.ex X.H₀ H X.s₀.heap s.heap
 loc:∃m,s.heap.Ns X.env.locals m/\∀(i:Nat)(x:Str)(v:V),X.N[i]?=some x->σ[i]?=some (some v)->Vis X.env.scope x->∃u,RelV v u/\Look X.env s.heap m x u
 cell:∀x c,X.env.cells.lookup x=some c->∃v,s.heap.IsCell c v
 free:H X.env.locals=none
 freeC:∀x c,X.env.cells.lookup x=some c->H c=none
 pin:∀p∈X.pn ++ aa,s.heap.get? p.1=some p.2/\H p.1=none/\p.1≠X.env.locals/\p.1∉X.fs/\∀v,p.2.data≠.cell v
 hok:HOk X.prog X.w H s.heap
 len:σ.length=X.N.length
section
theorem Cx.Ok.nofr{X:Cx}(ok:X.Ok)(e:X.base.get? b=some o):b∉X.fs:=λhb=>by
 have:=(ok.funs.mem hb).1;rw[e] at this;cases this
theorem Inv.bs{X:Cx}{aa:List (aQ×Obj)}{σ:List (Option V)}{H:Hp}{s:aZ}(I:Inv X aa σ H s):∀b o,X.base.get? b=some o->s.heap.get? b=some o/\H b=none:=λb o e=>
 ⟨I.base.keep b o (I.ok.bs b o e).1 (I.ok.bs b o e).2 (I.ok.nofr e) (I.ok.noex b o e),I.base.free b o (I.ok.bs b o e).1 (I.ok.bs b o e).2 (I.ok.noex b o e)⟩
def Inv.bk(I:Inv X aa σ H s):∀b o,X.base.get? b=some o->s.heap.get? b=some o:=λb o e=>(I.bs b o e).1
def Inv.mod(I:Inv X aa σ H s):Mod X.K X.mg X.base:=I.ok.mod
def Inv.kIn(I:Inv X aa σ H s):X.K.In s.heap:=I.ok.mod.kin.keeps I.bk
theorem Inv.lt(I:Inv X aa σ H s):X.env.locals < s.heap.objs.size:=let ⟨_,hn,_⟩:=I.loc;hn.lt
def Inv.sz(I:Inv X aa σ H s):X.s₀.heap.objs.size<=s.heap.objs.size:=aD I.ok.above (lU I.lt)
theorem Inv.nofs(I:Inv X aa σ H s)(h:s.heap.objs.size<=a):a∉X.fs:=λhb=>by
 obtain⟨_,o,ho,_⟩:=I.ok.funs.mem hb;exact absurd (bM (bN ho) (aD I.sz h)) (fK _)
theorem Inv.cne(I:Inv X aa σ H s):∀x c,X.env.cells.lookup x=some c->c≠X.env.locals:=λx c e z=>by
 obtain⟨v,o,ho,hd⟩:=I.cell x c e;obtain⟨m,⟨o',es,ep,ho',hd',_⟩,_⟩:=I.loc;rw[z,ho'] at ho;cases ho;rw[hd'] at hd;cases hd
theorem Inv.funs(I:Inv X aa σ H s):s.heap.FunFrames X.base X.outer:=by
 have all:∀(l:List Env),(∀b∈frs l,b∈X.fs)->X.s₀.heap.FunFrames X.base l->s.heap.FunFrames X.base l:=by
  intro l;induction l with
  |nil=>intro _ _;trivial
  |cons env r ih=>
   intro hs hl;obtain⟨hk,⟨L,o,hf,hn,ho,hd⟩,hr⟩:=hl;have hL:L∈X.fs:=hs L (by unfold frs;rw[jK,hf];exact aH)
   obtain⟨sl,e⟩:=I.base.slot L o ho (I.ok.frf L hL) hL λz=>I.ok.exfs L z hL
   exact⟨hk,⟨L,_,hf,hn,e,hd⟩,ih (λb hb=>hs b (by unfold frs;rw[jK,hf];exact aM _ hb)) hr⟩
 exact all X.outer (λ_ hb=>hb) I.ok.funs
theorem Inv.stack(I:Inv X aa σ H s):s.heap.FunFrames X.base X.stack:=by
 rcases I.ok.stk with e|⟨e,hf⟩
 .rw[e];exact I.funs
 .rw[e];obtain⟨m,hn,_⟩:=I.loc;refine .cons (by rw[I.ok.kind];decide) hf hn ?_ I.funs
  exact gQ (aD I.ok.bsz I.ok.above)
theorem Inv.stkSub(I:Inv X aa σ H s):∀b∈frs X.stack,b∈X.env.locals::X.fs:=λb hb=>by
 rcases I.ok.stk with e|⟨e,hf⟩
 .rw[e] at hb;exact aM _ hb
 .rw[e] at hb;unfold frs at hb;rw[jK,hf] at hb;exact hb
theorem Inv.stkFree(I:Inv X aa σ H s):∀b∈frs X.stack,H b=none:=λb hb=>by
 rcases bF.mp (I.stkSub b hb) with e|hb
 .rw[e];exact I.free
 .obtain⟨_,o,ho,_⟩:=I.ok.funs.mem hb;exact I.base.free b o ho (I.ok.frf b hb) λz=>I.ok.exfs b z hb
theorem Inv.step{g':Array sO}{t':Nat}{d':aAf}{ch:List aQ}(I:Inv X aa σ H s)(hch:∀b∈ch,(b∈X.ex\/X.s₀.heap.objs.size<=b)/\b≠X.env.locals/\(∀x c,X.env.cells.lookup x=some c->c≠b)/\∀p∈X.pn ++ aa,p.1≠b)(keep:∀b o,b≠X.env.locals->b∉X.fs->b∉ch->s.heap.get? b=some o->H b=none->h'.get? b=some o)(slot:∀b o,b≠X.env.locals->b∈X.fs->b∉ch->s.heap.get? b=some o->H b=none->∃sl,h'.get? b=some { o with slots:=sl })(free:∀b o,b∉ch->s.heap.get? b=some o->H b=none->H' b=none)(there:∀b o,b∉ch->s.heap.get? b=some o->∃o',h'.get? b=some o')(tups:∀b xs,H b=some (.tup xs)->H' b=some (.tup xs))(frzs:∀b o u,H b=some (.frz o u)->H' b=some (.frz o u))(tbls:∀b ps,H b=some (.tbl ps)->∃more,H' b=some (.tbl (ps ++ more)))(ns:∀m,s.heap.Ns X.env.locals m->h'.Ns X.env.locals m)(hok:HOk X.prog X.w H' h')(hg:oX g'):
  Inv X aa σ H' { s with heap:=h',gens:=g',drawn:=d',toks:=t' }:=by
 have neL:∀b o,X.s₀.heap.get? b=some o->b≠X.env.locals:=λb o e=>dC (bM (bN e) I.ok.above);have neC:∀b o,X.s₀.heap.get? b=some o->b∉X.ex->b∉ch:=λb o e hx hb=>by
  rcases(hch b hb).1 with z|z
  .exact hx z
  .exact absurd (bM (bN e) z) (fK _)
 have cellK:∀x c,X.env.cells.lookup x=some c->∀v,s.heap.IsCell c v->h'.IsCell c v:=λx c e v zz=>by
  obtain⟨o,ho,hd⟩:=zz;have nch:c∉ch:=λz=>(hch c z).2.2.1 x c e rfl;by_cases hc:c∈X.fs
  .obtain⟨sl,q⟩:=slot c o (I.cne x c e) hc nch ho (I.freeC x c e);exact⟨_,q,hd⟩
  .exact⟨o,keep c o (I.cne x c e) hc nch ho (I.freeC x c e),hd⟩
 refine⟨I.ok,I.os,hg,⟨λb o e n hb hx=>?_,λb o e n hb hx=>?_,λb o e n hx=>?_,λb o e hx=>?_,λb xs e=>tups b xs (I.base.tups b xs e),λb o xs e=>frzs b o xs (I.base.frzs b o xs e),λb ps e=>?_⟩,?_,λx c e=>?_,?_,λx c e=>?_,λp hp=>?_,hok,I.len⟩
 .exact keep b o (neL b o e) hb (neC b o e hx) (I.base.keep b o e n hb hx) (I.base.free b o e n hx)
 .obtain⟨sl,e1⟩:=I.base.slot b o e n hb hx;obtain⟨sl',e2⟩:=slot b _ (neL b o e) hb (neC b o e hx) e1 (I.base.free b o e n hx);exact⟨sl',e2⟩
 .obtain⟨o',e1⟩:=I.base.there b o e hx;exact free b o' (neC b o e hx) e1 (I.base.free b o e n hx)
 .obtain⟨o',e1⟩:=I.base.there b o e hx;exact there b o' (neC b o e hx) e1
 .obtain⟨m1,e1⟩:=I.base.tbls b ps e;obtain⟨m2,e2⟩:=tbls b _ e1;exact⟨m1 ++ m2,by rw[e2,pH]⟩
 .obtain⟨m,hn,hl⟩:=I.loc;refine⟨m,ns m hn,λi x v e1 e2 e3=>?_⟩;obtain⟨u,r,l⟩:=hl i x v e1 e2 e3;refine⟨u,r,?_⟩;rcases l with l|⟨k,c,e,z⟩
  .exact .inl l
  .exact .inr ⟨k,c,e,cellK x c e _ z⟩
 .obtain⟨v,z⟩:=I.cell x c e;exact⟨v,cellK x c e v z⟩
 .obtain⟨m,⟨o,_,_,ho,_⟩,_⟩:=I.loc;exact free _ o (λz=>(hch _ z).2.1 rfl) ho I.free
 .obtain⟨v,o,ho,hd⟩:=I.cell x c e;exact free c o (λz=>(hch c z).2.2.1 x c e rfl) ho (I.freeC x c e)
 .obtain⟨e,n,ne,nf,d⟩:=I.pin p hp;have nch:p.1∉ch:=λz=>(hch p.1 z).2.2.2 p hp rfl;exact⟨keep p.1 p.2 ne nf nch e n,free p.1 p.2 nch e n,ne,nf,d⟩
theorem Inv.un{t':Nat}(I:Inv X aa σ H s)(u:Un X.fs [] H H' s.heap h')(hok:HOk X.prog X.w H' h'):Inv X aa σ H' { s with heap:=h',toks:=t' }:=by
 obtain⟨m,⟨o,es,ep,ho,r⟩,_⟩:=id I.loc;obtain⟨sl,hL⟩:=u.any ho I.free (by simp)
 exact I.step (g':=s.gens) (d':=s.drawn) (ch:=[]) (λ_ z=>nomatch z) (λb o _ hb _ e n=>u.keep b o e n hb (by simp)) (λb o _ hb _ e n=>u.slot b o e n hb (by simp)) (λb o _ e n=>u.free b o e n (by simp)) (λb o _ e=>u.there b o e (by simp)) u.tups u.frzs u.tbls (λm' hm=>by
  obtain⟨o',es',ep',ho',r'⟩:=hm;rw[ho] at ho';cases ho';exact⟨_,es',ep',hL,r'⟩) hok I.bare
theorem Inv.call{g':Array sO}{t':Nat}{d':aAf}{ch:List aQ}(I:Inv X aa σ H s)(u:Un (frs X.stack) ch H H' s.heap h')(hok:HOk X.prog X.w H' h')(hg:oX g')(hch:∀b∈ch,(b∈X.ex\/X.s₀.heap.objs.size<=b)/\b≠X.env.locals/\(∀x c,X.env.cells.lookup x=some c->c≠b)/\∀p∈X.pn ++ aa,p.1≠b):
  Inv X aa σ H' { s with heap:=h',gens:=g',drawn:=d',toks:=t' }:=by
 obtain⟨m,⟨o,es,ep,ho,r⟩,_⟩:=id I.loc;obtain⟨sl,hL⟩:=u.any ho I.free λz=>(hch _ z).2.1 rfl
 exact I.step (ch:=ch) hch (λb o hL hb hc e n=>u.keep b o e n (λz=>(bF.mp (I.stkSub b z)).elim hL hb) hc) (λb o _ _ hc e n=>u.any e n hc) (λb o hc e n=>u.free b o e n hc) (λb o hc e=>u.there b o e hc) u.tups u.frzs u.tbls (λm' hm=>by
  obtain⟨o',es',ep',ho',r'⟩:=hm;rw[ho] at ho';cases ho';exact⟨_,es',ep',hL,r'⟩) hok hg
theorem Inv.turned{t':Nat}{it:aQ}(I:Inv X aa σ H s)(k:∀b o,b≠it->s.heap.get? b=some o->h'.get? b=some o)(hn:H it=none)(hL:it≠X.env.locals)(h1:it∈X.ex\/X.s₀.heap.objs.size<=it)(h2:∀x c,X.env.cells.lookup x=some c->c≠it)(h3:∀p∈X.pn ++ aa,p.1≠it):Inv X aa σ H { s with heap:=h',toks:=t' }:=by
 have nit:∀b u,H b=some u->b≠it:=λb u e z=>by rw[z,hn] at e;cases e
 refine I.step (g':=s.gens) (d':=s.drawn) (ch:=[it]) (λb hb=>?_) (λb o _ _ hc e _=>k b o (λz=>hc (by simp[z])) e) (λb o _ _ hc e _=>⟨o.slots,k b o (λz=>hc (by simp[z])) e⟩) (λ_ _ _ _ n=>n)
  (λb o hc e=>⟨o,k b o (λz=>hc (by simp[z])) e⟩) (λ_ _ e=>e) (λ_ _ _ e=>e) (λb ps e=>⟨#[],by rw[e];simp⟩) (λm hm=>?_) (λb u e=>?_) I.bare
 .have e:b=it:=by simpa using hb
  subst e;exact⟨h1,hL,h2,h3⟩
 .obtain⟨o,es,ep,ho,r⟩:=hm;exact⟨o,es,ep,k _ o (gO hL) ho,r⟩
 .refine(I.hok b u e).stay (λc v hc q=>k c v ?_ q) (λ_ q=>q) λ_ _ q=>q;rcases hc with z|z
  .rw[z];exact nit b u e
  .exact nit c _ z
def Inv.tok(I:Inv X aa σ H s)(t:Nat):Inv X aa σ H { s with toks:=t }:=I.un (h':=s.heap) (t':=t) Un.refl I.hok
def Inv.kept{t':Nat}(I:Inv X aa σ H s)(k:∀b u,s.heap.get? b=some u->h'.get? b=some u):Inv X aa σ H { s with heap:=h',toks:=t' }:=I.un (Un.kept k) (I.hok.kept k)
theorem Inv.laid{t':Nat}(I:Inv X aa σ H s)(k:∀b u,s.heap.get? b=some u->h'.get? b=some u)(hp:s.heap.objs.size<=a)(new:Dr X.prog X.w (upd H a o) h' a o):
  Inv X aa σ (upd H a o) { s with heap:=h',toks:=t' }:=I.un (Un.laid k hp (I.hok.fresh hp)) (I.hok.laid k hp new)
def Inv.write{t':Nat}(I:Inv X aa σ H s)(mu:Mut (H x))(he:e=x\/H e=some (.own x))(k:∀b u,b≠e->s.heap.get? b=some u->h'.get? b=some u)(heo:∃u,h'.get? e=some u)(new:Dr X.prog X.w (upd H x o) h' x o):Inv X aa σ (upd H x o) { s with heap:=h',toks:=t' }:=I.un (Un.write mu he k heo) (I.hok.write mu he k heo new)
theorem Inv.pins_of(I:Inv X aa σ H s)(h:∀p∈pins',s.heap.get? p.1=some p.2/\H p.1=none/\p.1≠X.env.locals/\p.1∉X.fs/\∀v,p.2.data≠.cell v):Inv X pins' σ H s:=
 ⟨I.ok,I.os,I.bare,I.base,I.loc,I.cell,I.free,I.freeC,λp hp=>(bW.mp hp).elim (λz=>I.pin p (nZ _ z)) (h p),I.hok,I.len⟩
theorem Abx{N:List Str}(hN:N.Nodup){i j:Nat}{x:Str}(a:N[i]?=some x)(b:N[j]?=some x):i=j:=by
 obtain⟨h1,e1⟩:=aL.mp a;obtain⟨h2,e2⟩:=aL.mp b;exact(wD hN).mp (e1.trans e2.symm)
theorem Apc{M:Model}{A:fV}{E:aJ->aZ->Prop}{i:Nat}{x:Str}{v:V}{u:aJ}{Q:Unit->aZ->Prop}(I:Inv X aa σ H s)(hN:X.N.Nodup)(hi:X.N[i]?=some x)(hx:Loc X.env.scope x)(r:RelV v u)(h:∀s',Inv X aa (σ.set i (some v)) H s'->(∃a,lV a s.heap s'.heap/\(a=X.env.locals\/X.env.cells.lookup x=some a))->Q () s')(hf:X.fn x=true\/X.env.scope.names.lookup x=some .local:=by first|exact .inl rfl|exact .inr rfl|assumption):wpAny M A (storeName X.env x u) Q E s:=by
 obtain⟨m,hn,hl⟩:=id I.loc;have hcls:(X.env.scope.kind==.class||(X.env.scope.kind==.module&&X.env.locals != X.env.globals))=false:=by rw[I.ok.kind];rfl
 have hiσ:i < σ.length:=by rw[I.len];exact(aL.mp hi).1
 have cne:=I.cne;have tracked:∀{a:aQ} {h':dN},(∃o,s.heap.get? a=some o/\H a=none)->lV a s.heap h'->HOk X.prog X.w H h':=λ{a h'} ha hs b ob e=>by
  obtain⟨_,_,bc⟩:=ha;refine(I.hok b ob e).stay (λc w' hc q=>(hs.2 c ?_).trans q) (λ_ q=>q) λ_ _ q=>q;rintro rfl;rcases hc with rfl|hc
  .rw[bc] at e;cases e
  .rw[bc] at hc;cases hc
 rcases hx with hk|hk
 .refine wpAny_storeName_local hk hn (λh' hn' hs=>?_) hcls;obtain⟨oL,_,_,hoL,_⟩:=id hn;refine h _ ⟨I.ok,I.os,I.bare,⟨λb o e n hb hx=>?_,λb o e n hb hx=>?_,I.base.free,λb o e hx=>?_,I.base.tups,I.base.frzs,I.base.tbls⟩,⟨_,hn',λj y v' e1 e2 e3=>?_⟩,λy c e=>?_,I.free,I.freeC,λp hp=>?_,tracked ⟨oL,hoL,I.free⟩ hs,by simpa using I.len⟩ ⟨_,hs,.inl rfl⟩
  .exact(hs.2 b (dC (bM (bN e) I.ok.above))).trans (I.base.keep b o e n hb hx)
  .obtain⟨sl,e1⟩:=I.base.slot b o e n hb hx;exact⟨sl,(hs.2 b (dC (bM (bN e) I.ok.above))).trans e1⟩
  .obtain⟨o',e1⟩:=I.base.there b o e hx;exact⟨o',(hs.2 b (dC (bM (bN e) I.ok.above))).trans e1⟩
  .by_cases hj:j=i
   .subst hj;rw[hi] at e1;cases e1;rw[cQ hiσ] at e2;cases e2;exact⟨u,r,.inl ⟨hk,by simp⟩⟩
   .rw[cJ (gO hj)] at e2;obtain⟨u',r',q⟩:=hl j y v' e1 e2 e3;refine⟨u',r',?_⟩;rcases q with ⟨k,e⟩|⟨k,c,e,z⟩
    .refine .inl ⟨k,?_⟩;have:y≠x:=λe=>hj (Abx hN e1 (e ▸ hi));simp[this,e]
    .exact .inr ⟨k,c,e,z.sameBut hs (cne y c e)⟩
  .obtain⟨w',z⟩:=I.cell y c e;exact⟨w',z.sameBut hs (cne y c e)⟩
  .obtain⟨e,n,ne,nf,d⟩:=I.pin p hp;exact⟨(hs.2 p.1 ne).trans e,n,ne,nf,d⟩
 .have hfn:X.fn x=true:=by
   rcases hf with z|z
   .exact z
   .rw[z] at hk;cases hk
  obtain⟨c,hc⟩:=I.ok.has x (.inl hk);obtain⟨w',z⟩:=I.cell x c hc;refine wpAny_storeName_cell I.ok.kind hk hc z (λh' hc' hs=>?_);obtain⟨oc,hoc,hocd⟩:=id z;refine h { s with heap:=h' } ⟨I.ok,I.os,I.bare,⟨λb o e n hb hx=>?_,λb o e n hb hx=>?_,I.base.free,λb o e hx=>?_,I.base.tups,I.base.frzs,I.base.tbls⟩,⟨m,hn.sameBut hs (gO (cne x c hc)),λj y v' e1 e2 e3=>?_⟩,λy c' e=>?_,I.free,I.freeC,λp hp=>?_,tracked ⟨oc,hoc,I.freeC x c hc⟩ hs,by simpa using I.len⟩ ⟨c,hs,.inr hc⟩
  .exact(hs.2 b (dC (bM (bN e) (I.ok.cab x c hfn hc)))).trans (I.base.keep b o e n hb hx)
  .obtain⟨sl,e1⟩:=I.base.slot b o e n hb hx;exact⟨sl,(hs.2 b (dC (bM (bN e) (I.ok.cab x c hfn hc)))).trans e1⟩
  .obtain⟨o',e1⟩:=I.base.there b o e hx;exact⟨o',(hs.2 b (dC (bM (bN e) (I.ok.cab x c hfn hc)))).trans e1⟩
  .by_cases hj:j=i
   .subst hj;rw[hi] at e1;cases e1;rw[cQ hiσ] at e2;cases e2;exact⟨u,r,.inr ⟨.inl hk,c,hc,hc'⟩⟩
   .rw[cJ (gO hj)] at e2;obtain⟨u',r',q⟩:=hl j y v' e1 e2 e3;refine⟨u',r',?_⟩;rcases q with q|⟨k,c',e,z'⟩
    .exact .inl q
    .refine .inr ⟨k,c',e,z'.sameBut hs ?_⟩;rintro rfl;exact hj (Abx hN e1 (I.ok.inj _ _ _ e hc ▸ hi))
  .by_cases hcc:c'=c
   .subst hcc;exact⟨_,hc'⟩
   .obtain⟨w2,z2⟩:=I.cell y c' e;exact⟨w2,z2.sameBut hs hcc⟩
  .obtain⟨e,n,ne,nf,d⟩:=I.pin p hp;refine⟨(hs.2 p.1 ?_).trans e,n,ne,nf,d⟩;intro q;rw[q,hoc] at e;have q':oc=p.2:=bV e;exact d w' (by rw[<-q'];exact hocd)
theorem Aby{i:Nat}(I:Inv X aa σ H s)(hN:X.N.Nodup)(hi:X.N[i]?=some x)(hx:Loc X.env.scope x)(r:RelV v u)(h:∀s',Inv X aa (σ.set i (some v)) H s'->Q () s')(hf:X.fn x=true\/X.env.scope.names.lookup x=some .local:=by first|exact .inl rfl|exact .inr rfl|assumption):wpAny M A (storeName X.env x u) Q E s:=
 Apc I hN hi hx r (λs' I' _=>h s' I') hf
theorem Inv.call'(I:Inv X aa σ H s)(ho:s'.os=s.os)(u:Un (frs X.stack) ch H H' s.heap s'.heap)(hok:HOk X.prog X.w H' s'.heap)(hg:oX s'.gens)(hch:∀b∈ch,(b∈X.ex\/X.s₀.heap.objs.size<=b)/\b≠X.env.locals/\(∀x c,X.env.cells.lookup x=some c->c≠b)/\∀p∈X.pn ++ aa,p.1≠b):Inv X aa σ H' s':=by
 obtain⟨h',g',d',t',o'⟩:=s';have e:o'=s.os:=ho;subst e;exact I.call (g':=g') (t':=t') (d':=d') u hok hg hch
end
abbrev XK:=aJ->Option (Nat×Option aQ)->Hp->Prop
abbrev St:=List (Option V)
abbrev VK:=V->Hp->Prop
abbrev TE:=St->Hp->VK->Prop
abbrev TT:=St->Hp->(Bool->Hp->Prop)->Prop
abbrev TA:=St->Hp->(List V->Hp->Prop)->Prop
structure Ends where
 nx:St->Hp->Prop
 rt:VK
 bk:St->Hp->Prop:=λ_ _=>False
 ct:St->Hp->Prop:=λ_ _=>False
abbrev TS:=Ends->St->Hp->Prop
def EP(X:Cx)(aa:List (aQ×Obj))(σ:St)(Q:VK)(u:aJ)(s':aZ):Prop:=∃v H',Inv X aa σ H' s'/\RelV v u/\Q v H'
def TP(X:Cx)(aa:List (aQ×Obj))(σ:St)(Q:Bool->Hp->Prop)(b:Bool)(s':aZ):Prop:=∃H',Inv X aa σ H' s'/\Q b H'
def AP(X:Cx)(aa:List (aQ×Obj))(σ:St)(Q:List V->Hp->Prop)(us:List aJ)(s':aZ):Prop:=∃vs H',Inv X aa σ H' s'/\Vals vs us/\Q vs H'
def SP(X:Cx)(aa:List (aQ×Obj))(D:Ends)(f:Flow)(s':aZ):Prop:=
 match f with
 |.next=>∃σ' H',Inv X aa σ' H' s'/\D.nx σ' H'
 |.brk=>∃σ' H',Inv X aa σ' H' s'/\D.bk σ' H'
 |.cont=>∃σ' H',Inv X aa σ' H' s'/\D.ct σ' H'
 |.ret u=>∃v σ' H',Inv X aa σ' H' s'/\RelV v u/\D.rt v H'
def PE(X:Cx)(e:cA)(t:TE):Prop:=
 ∀(aa:List (aQ×Obj))(s:aZ)(σ:St)(H:Hp)(Q:VK),Inv X aa σ H s->t σ H Q->wpAny (model X.prog X.w) X.A (eval e X.env) (EP X aa σ Q) X.xe s
def PT(X:Cx)(e:cA)(t:TT):Prop:=
 ∀(aa:List (aQ×Obj))(s:aZ)(σ:St)(H:Hp)(Q:Bool->Hp->Prop),Inv X aa σ H s->t σ H Q->wpAny (model X.prog X.w) X.A (isTrue e X.env (eval e X.env)) (TP X aa σ Q) X.xe s
def PW(X:Cx)(e:cA)(t:TT):Prop:=
 ∀(whole:Sem aJ)(aa:List (aQ×Obj))(s:aZ)(σ:St)(H:Hp)(Q:Bool->Hp->Prop),Inv X aa σ H s->t σ H Q->wpAny (model X.prog X.w) X.A (isTrue e X.env whole) (TP X aa σ Q) X.xe s
def PW.pt(h:PW X e t):PT X e t:=h _
def PA(X:Cx)(es:List cA)(t:TA):Prop:=
 ∀(pos:Pos)(aa:List (aQ×Obj))(s:aZ)(σ:St)(H:Hp)(Q:List V->Hp->Prop),Inv X aa σ H s->t σ H Q->wpAny (model X.prog X.w) X.A (spliced (backTo pos (starEach es X.env))) (AP X aa σ Q) X.xe s
def PS(X:Cx)(st:dG)(t:TS):Prop:=
 ∀(aa:List (aQ×Obj))(s:aZ)(σ:St)(H:Hp)(D:Ends),Inv X aa σ H s->t D σ H->wpAny (model X.prog X.w) X.A (exec st X.env) (SP X aa D) X.xe s
def PSs(X:Cx)(st:List dG)(t:TS):Prop:=
 ∀(aa:List (aQ×Obj))(s:aZ)(σ:St)(H:Hp)(D:Ends),Inv X aa σ H s->t D σ H->wpAny (model X.prog X.w) X.A (execs st X.env) (SP X aa D) X.xe s
def thn{α:Type}{t:Sem α}{Q Q':α->aZ->Prop}(h:wpAny M A t Q E s)(hQ:∀a s,Q a s->Q' a s):wpAny M A t Q' E s:=fW h hQ λ_ _ x=>x
section
theorem bin{a b:cA}{ta tb:TE}(ha:PE X a ta)(hb:PE X b tb){aa:List (aQ×Obj)}{s:aZ}{σ:St}{H:Hp}{R:V->V->Hp->Prop}(I:Inv X aa σ H s)(h:ta σ H λx H1=>tb σ H1 λy H2=>R x y H2){α:Type}{Q:α->aZ->Prop}{f:aJ->aJ->Sem α}(hf:∀v u s2 x y H2,Inv X aa σ H2 s2->RelV x v->RelV y u->R x y H2->wpAny (model X.prog X.w) X.A (f v u) Q X.xe s2):
  wpAny (model X.prog X.w) X.A (eval a X.env) (λv s₁=>wpAny (model X.prog X.w) X.A (eval b X.env) (λu s₂=>wpAny (model X.prog X.w) X.A (f v u) Q X.xe s₂) X.xe s₁) X.xe s:=by
 refine thn (ha aa s σ H _ I h) λv s1 zz=>?_;obtain⟨x,H1,I1,r1,q1⟩:=zz;refine thn (hb aa s1 σ H1 _ I1 q1) λu s2 zz=>?_;obtain⟨y,H2,I2,r2,q2⟩:=zz;exact hf v u s2 x y H2 I2 r1 r2 q2
def Bcr(i:Nat):TE:=λσ H Q=>∃v,σ[i]?=some (some v)/\Q v H
def tC(v:V):TE:=λ_ H Q=>Q v H
theorem Abz{i:Nat}(hN:X.N[i]?=some x)(hv:Vis X.env.scope x)(hd:(x==("__debug__":Str))=false:=by decide)(hcd:(x==("__classdict__":Str))=false:=by decide):PE X (.Name x pos) (Bcr i):=by
 intro aa s σ H Q I h;obtain⟨v,e,h⟩:=h;obtain⟨m,hn,hl⟩:=I.loc;obtain⟨u,r,l⟩:=hl i x v hN e hv;have fin:EP X aa σ Q u s:=⟨v,H,I,r,h⟩;rcases l with ⟨hk,hm⟩|⟨hk,c,hc,ao⟩
 .exact xT (wpAny_loadName_local I.ok.kind hk hn hm fin) hd
 .rcases hk with hk|hk
  .exact xT (wpAny_loadName_cell I.ok.kind hk hc ao fin) hd
  .exact xT (wpAny_loadName_free I.ok.kind hk hc ao fin hcd) hd
def Bcs{i j pos}:PE X (.Constant (.int i) j pos) (tC (.int i)):=λ_ _ _ H _ I h=>wpAny_Constant_int ⟨.int i,H,I.tok _,⟨_,rfl⟩,h⟩
def Bho{b j pos}:PE X (.Constant (.bool b) j pos) (tC (.bl b)):=λ_ _ _ H _ I h=>Constant_bool ⟨.bl b,H,I,rfl,h⟩
def Bct{j pos}:PE X (.Constant .none j pos) (tC .non):=λ_ _ _ H _ I h=>Constant_none ⟨.non,H,I,rfl,h⟩
def Bcu{x j pos}:PE X (.Constant (.str x) j pos) (tC (.str x)):=λ_ _ _ H _ I h=>Calls.Constant_str ⟨.str x,H,I.tok _,⟨_,rfl⟩,h⟩
def Gl(X:Cx)(x:Str):Prop:=X.env.kindOf x=some .globalImplicit
theorem R5(I:Inv X aa σ H s)(hg:Gl X x)(hm:X.mg x=some u)(h:Q u s)(hd:(x==("__debug__":Str))=false:=by decide):wpAny (model X.prog X.w) X.A (eval (.Name x pos) X.env) Q E s:=
 lF I.ok.kind hg (qN (by rw[I.ok.glob];exact I.mod.glob.keeps I.bk) hm h) hd
theorem Ab0(I:Inv X aa σ H s)(hg:Gl X x)(hm:X.mg x=none)(hv:bootBuiltins x=some u)(h:Q u s)(hn:x≠"__name__":=by decide)(hd:(x==("__debug__":Str))=false:=by decide):wpAny (model X.prog X.w) X.A (eval (.Name x pos) X.env) Q E s:=by
 obtain⟨mb,h1,h2⟩:=I.mod.blt;exact lF I.ok.kind hg (Calls.loadGlobal_builtin (by rw[I.ok.glob];exact I.mod.glob.keeps I.bk) hm (by rw[I.ok.blt];exact h1.keeps I.bk) ((h2 x hn).trans hv) h) hd
theorem Aw5(hg:Gl X x)(hm:X.mg x=some u)(r:RelV v u)(hd:(x==("__debug__":Str))=false:=by decide):PE X (.Name x pos) (tC v):=
 λ_ _ _ H _ I h=>R5 I hg hm ⟨v,H,I,r,h⟩ hd
theorem Aw6(hg:Gl X x)(hm:X.mg x=none)(hv:bootBuiltins x=some u)(r:RelV v u)(hn:x≠"__name__":=by decide)(hd:(x==("__debug__":Str))=false:=by decide):PE X (.Name x pos) (tC v):=
 λ_ _ _ H _ I h=>Ab0 I hg hm hv ⟨v,H,I,r,h⟩ hn hd
def PC(X:Cx)(op:sS)(a b:cA)(t:TE):Prop:=
 ∀(aa:List (aQ×Obj))(s:aZ)(σ:St)(H:Hp)(Q:VK),Inv X aa σ H s->t σ H Q->
  wpAny (model X.prog X.w) X.A (eval a X.env) (λv s₁=>wpAny (model X.prog X.w) X.A (eval b X.env) (λu s₂=>wpAny (model X.prog X.w) X.A (compareOp op v u) (EP X aa σ Q) X.xe s₂) X.xe s₁) X.xe s
theorem Ase(b:cA)(h:op≠.In)(h2:op≠.NotIn):behindInMarks op b=false:=by
 have e1:(op==CmpOp.In)=false:=by cases op <;> first|rfl|exact absurd rfl h
 have e2:(op==CmpOp.NotIn)=false:=by cases op <;> first|rfl|exact absurd rfl h2
 cases b <;> simp[behindInMarks,e1,e2]
def tB(t:TE):TT:=λσ H Q=>t σ H λx H1=>∃c,x=.bl c/\Q c H1
theorem Bkr(h:PC X op a b t)(h1:behindInMarks op b=false:=by first|exact Ase _ (by decide) (by decide)|rfl):PT X (.Compare a [op] [b] pos) (tB t):=by
 intro aa s σ H Q I hw;refine sG (thn (h aa s σ H _ I hw) λv s1 h1=>thn h1 λu s2 h2=>thn h2 λc s3 ⟨x,H1,I1,r1,q1⟩=>?_) h1;obtain⟨d,rfl,q⟩:=q1;cases r1;exact dW ⟨H1,I1,q⟩
theorem Bcv(h:PE X e t)(he:∀whole,isTrue e X.env whole=(do let v<-whole;standAt e.pos;holding [v] (truthy v)):=by intro _;rfl):PT X e (tB t):=by
 intro aa s σ H Q I hw;refine isTrue_plain (thn (h aa s σ H _ I hw) λv s1 ⟨x,H1,I1,r1,q1⟩=>?_) (he _);obtain⟨d,rfl,q⟩:=q1;cases r1;exact dW ⟨H1,I1,q⟩
def Bhp(t u:TT):TT:=λσ H Q=>t σ H λc H1=>if c=true then u σ H1 Q else Q false H1
def tOr(t u:TT):TT:=λσ H Q=>t σ H λc H1=>if c=true then Q true H1 else u σ H1 Q
def Bhq(t:TT):TT:=λσ H Q=>t σ H λc H1=>Q (!c) H1
theorem Aw7(ha:PT X a tA):PW X (.BoolOp .And [a] pos) tA:=by
 intro wh aa s σ H Q I h;refine isTrue_and (thn (ha aa s σ H Q I h) λc s1 e=>?_);cases c with
 |true=>exact isTrue_and_nil e
 |false=>exact e
theorem Bcw(ha:PT X a tA):PW X (.BoolOp .Or [a] pos) tA:=by
 intro wh aa s σ H Q I h;refine isTrue_or (thn (ha aa s σ H Q I h) λc s1 e=>?_);cases c with
 |false=>exact isTrue_or_nil e
 |true=>exact e
theorem Bcx{X:Cx}{a b:cA}{pos:Pos}{tA tB':TT}{rest:List cA}(ha:PT X a tA)(hb:PW X (.BoolOp .And (b::rest) pos) tB'):PW X (.BoolOp .And (a::b::rest) pos) (Bhp tA tB'):=by
 intro wh aa s σ H Q I h;refine isTrue_and (thn (ha aa s σ H _ I h) λc s1 zz=>?_);obtain⟨H1,I1,q1⟩:=zz;cases c with
 |true=>exact hb wh aa s1 σ H1 Q I1 q1
 |false=>exact⟨H1,I1,q1⟩
theorem Bhr{X:Cx}{a b:cA}{pos:Pos}{tA tB':TT}{rest:List cA}(ha:PT X a tA)(hb:PW X (.BoolOp .Or (b::rest) pos) tB'):PW X (.BoolOp .Or (a::b::rest) pos) (tOr tA tB'):=by
 intro wh aa s σ H Q I h;refine isTrue_or (thn (ha aa s σ H _ I h) λc s1 zz=>?_);obtain⟨H1,I1,q1⟩:=zz;cases c with
 |true=>exact⟨H1,I1,q1⟩
 |false=>exact hb wh aa s1 σ H1 Q I1 q1
theorem Bcy(ha:PT X a tA):PT X (.UnaryOp .Not a pos) (Bhq tA):=by
 intro aa s σ H Q I h;exact isTrue_not (ha aa s σ H (λc H1=>Q (!c) H1) I h)
def Bbt(ta tb:TE):TE:=λσ H Q=>ta σ H λx H1=>∃c,x=.bl c/\if c=true then tb σ H1 Q else Q (.bl false) H1
def Bhs(ta tb:TE):TE:=λσ H Q=>ta σ H λx H1=>∃c,x=.bl c/\if c=true then Q (.bl true) H1 else tb σ H1 Q
def Bbu(ta:TE):TE:=λσ H Q=>ta σ H λx H1=>∃c,x=.bl c/\Q (.bl (!c)) H1
def Bcz{op}(h:PE X a t):PE X (.BoolOp op [a] pos) t:=λaa s σ H Q I hw=>BoolOp_one (h aa s σ H Q I hw)
theorem Bc0{X:Cx}{a b:cA}{ta tb:TE}{pos:Pos}{rest:List cA}(ha:PE X a ta)(hb:PE X (.BoolOp .And (b::rest) pos) tb):PE X (.BoolOp .And (a::b::rest) pos) (Bbt ta tb):=by
 intro aa s σ H Q I h;refine BoolOp_and (thn (ha aa s σ H _ I h) λv s1 zz=>?_);obtain⟨x,H1,I1,r1,q1⟩:=zz;obtain⟨c,rfl,q1⟩:=q1;cases r1;refine dW ?_;cases c with
 |true=>exact hb aa s1 σ H1 Q I1 q1
 |false=>exact⟨.bl false,H1,I1,rfl,q1⟩
theorem Bht{X:Cx}{a b:cA}{ta tb:TE}{pos:Pos}{rest:List cA}(ha:PE X a ta)(hb:PE X (.BoolOp .Or (b::rest) pos) tb):PE X (.BoolOp .Or (a::b::rest) pos) (Bhs ta tb):=by
 intro aa s σ H Q I h;refine BoolOp_or (thn (ha aa s σ H _ I h) λv s1 zz=>?_);obtain⟨x,H1,I1,r1,q1⟩:=zz;obtain⟨c,rfl,q1⟩:=q1;cases r1;refine dW ?_;cases c with
 |false=>exact hb aa s1 σ H1 Q I1 q1
 |true=>exact⟨.bl true,H1,I1,rfl,q1⟩
theorem Bc1(ha:PE X a ta):PE X (.UnaryOp .Not a pos) (Bbu ta):=by
 intro aa s σ H Q I h;refine UnaryOp_ (thn (ha aa s σ H _ I h) λv s1 zz=>?_);obtain⟨x,H1,I1,r1,q1⟩:=zz;obtain⟨c,rfl,q1⟩:=q1;cases r1;exact not_of (dW ⟨.bl (!c),H1,I1,rfl,q1⟩)
def tIf(t:TT)(ta tb:TE):TE:=λσ H Q=>t σ H λc H1=>if c=true then ta σ H1 Q else tb σ H1 Q
theorem Asf(hc:PT X c tA)(ha:PE X a ta)(hb:PE X b tb):PE X (.IfExp c a b pos) (tIf tA ta tb):=by
 intro aa s σ H Q I h;refine wpAny_IfExp (thn (hc aa s σ H _ I h) λd s1 zz=>?_);obtain⟨H1,I1,q1⟩:=zz;cases d with
 |true=>exact ha aa s1 σ H1 Q I1 q1
 |false=>exact hb aa s1 σ H1 Q I1 q1
end
def SqL(K:aF)(H:Hp)(a:aQ)(xs:List V):Prop:=
 Rd H a (.lst xs)\/
  ∃(o:Obj)(its:Array aJ)(n:Nat),K.lookup a=some o/\o.cls=.type "list"/\o.dict=none/\o.data=.seq its n/\its.size<=sizeLine/\Vals xs its.toList
def SqT(K:aF)(H:Hp)(a:aQ)(xs:List V):Prop:=
 Rd H a (.tup xs)\/
  ∃(o:Obj)(its:Array aJ)(n:Nat),K.lookup a=some o/\o.cls=.type "tuple"/\o.data=.seq its n/\its.size<=sizeLine/\Vals xs its.toList
noncomputable def Bks:aJ->Option V
 |.none=>some .non
 |.bool b=>some (.bl b)
 |.int i _=>some (.int i)
 |.str x _=>some (.str x)
 |.bytes b _=>some (.byt b)
 |.float b _=>some (.flt b)
 |.ref a=>some (.ref a)
 |.type n=>some (.ty n)
 |_=>none
theorem RelV.abs(r:RelV x u):Bks u=some x:=by
 cases x with
 |non=>cases r;rfl
 |bl _=>cases r;rfl
 |int _=>obtain⟨t,rfl⟩:=r;rfl
 |str _=>obtain⟨t,rfl⟩:=r;rfl
 |byt _=>obtain⟨t,rfl⟩:=r;rfl
 |flt _=>obtain⟨t,rfl⟩:=r;rfl
 |ref _=>cases r;rfl
 |ty _=>cases r;rfl
def RelV.inj(r:RelV x u)(q:RelV y u):x=y:=bV (r.abs.symm.trans q.abs)
theorem Vals.inj{xs ys:List V}{us:List aJ}(h:Vals xs us)(k:Vals ys us):xs=ys:=by
 induction h generalizing ys with
 |nil=>cases k;rfl
 |cons r _ ih=>cases k with|cons r' t'=>rw[r.inj r',ih t']
section
def SqT.of{K:aF}(h:H a=some (.tup xs)):SqT K H a xs:=.inl (.inl h)
theorem Inv.list(I:Inv X aa σ H s)(h:SqL X.K H a xs):∃its:List aJ,Vals xs its/\PlainL s.heap a its.toArray/\xs.length<=sizeLine:=by
 rcases h with h|⟨o,its,n,hk,hc,hd,hs,hz,r⟩
 .obtain⟨z,its,n,r,e⟩:=h.ok I.hok;exact⟨its,r,⟨_,n,e,rfl,rfl,rfl⟩,z⟩
 .refine⟨its.toList,r,⟨o,n,I.kIn a o hk,hc,hd,by simpa using hs⟩,?_⟩
  have e:=r.length;simp only[cN] at e;omega
theorem Inv.tuple(I:Inv X aa σ H s)(h:SqT X.K H a xs):∃its:List aJ,Vals xs its/\vH s.heap a its.toArray/\xs.length<=sizeLine:=by
 rcases h with h|⟨o,its,n,hk,hc,hs,hz,r⟩
 .obtain⟨z,its,r,p⟩:=h.ok I.hok;exact⟨its,r,p,z⟩
 .refine⟨its.toList,r,⟨o,I.kIn a o hk,hc,n,by simpa using hs⟩,?_⟩
  have e:=r.length;simp only[cN] at e;omega
theorem Inv.list_inj(I:Inv X aa σ H s)(h:SqL X.K H a xs)(h':SqL X.K H a ys):xs=ys:=by
 obtain⟨its,r,⟨o,n,e,_,_,d⟩,_⟩:=I.list h;obtain⟨its',r',⟨o',n',e',_,_,d'⟩,_⟩:=I.list h';rw[e] at e';cases e';rw[d] at d';injection d' with d1 _
 have:its=its':=by simpa using congrArg zO d1
 subst this;exact r.inj r'
theorem Inv.tuple_inj(I:Inv X aa σ H s)(h:SqT X.K H a xs)(h':SqT X.K H a ys):xs=ys:=by
 obtain⟨its,r,⟨o,e,_,n,d⟩,_⟩:=I.tuple h;obtain⟨its',r',⟨o',e',_,n',d'⟩,_⟩:=I.tuple h';rw[e] at e';cases e';rw[d] at d';injection d' with d1 _
 have:its=its':=by simpa using congrArg zO d1
 subst this;exact r.inj r'
end
section
def Bbv:TS:=λD σ H=>D.nx σ H
def Bhu(t u:TS):TS:=λD σ H=>t { D with nx:=u D } σ H
def Aw8:PSs X [] Bbv:=λ_ _ σ H _ I h=>mQ ⟨σ,H,I,h⟩
theorem Aie{X:Cx}{st:dG}{rest:List dG}{t u:TS}(h1:PS X st t)(h2:PSs X rest u):PSs X (st::rest) (Bhu t u):=by
 intro aa s σ H D I h;refine wF (thn (h1 aa s σ H { D with nx:=u D } I h) λf s1 q=>?_)
 cases f with
 |next=>
  obtain⟨σ',H',I',q⟩:=q;exact h2 aa s1 σ' H' D I' q
 |ret v=>exact q
 |brk=>exact q
 |cont=>exact q
theorem Aw9{X:Cx}{st:dG}{t:TS}(h1:PS X st t):PSs X [st] t:=by
 intro aa s σ H D I h;refine wF (thn (h1 aa s σ H D I h) λf s1 q=>?_);cases f with
 |next=>exact mQ q
 |ret v=>exact q
 |brk=>exact q
 |cont=>exact q
theorem Inv.quiet(I:Inv X aa σ H s):interactive X.env=false:=by simp[interactive,I.ok.kind]
def Bbw(te:TE):TS:=λD σ H=>te σ H λ_ H1=>D.nx σ H1
theorem Anf(he:PE X e te)(hs:swapsWith e none pos.line X.env=pure false:=by rfl):PS X (.Expr e pos) (Bbw te):=by
 intro aa s σ H D I h;exact wpAny_Expr_any (thn (he aa s σ H _ I h) λv s1 ⟨x,H1,I1,r1,q1⟩=>⟨σ,H1,I1,q1⟩) I.quiet hs
def Bhv(te:TE):TS:=λD σ H=>te σ H D.rt
theorem Bc2(he:PE X e te):PS X (.Return (some e) pos) (Bhv te):=by
 intro aa s σ H D I h;exact wpAny_Return_some (thn (he aa s σ H _ I h) λv s1 ⟨x,H1,I1,r1,q1⟩=>⟨x,σ,H1,I1,r1,q1⟩)
def Bhw(c:TT)(t u:TS):TS:=λD σ H=>c σ H λb H1=>if b=true then t D σ H1 else u D σ H1
theorem Bhx(hc:PT X c tc)(ha:PSs X a t)(hb:PSs X b u):PS X (.If c a b pos) (Bhw tc t u):=by
 intro aa s σ H D I h;refine wpAny_If (thn (hc aa s σ H _ I h) λd s1 zz=>?_);obtain⟨H1,I1,q1⟩:=zz;cases d with
 |true=>exact ha aa s1 σ H1 D I1 q1
 |false=>exact hb aa s1 σ H1 D I1 q1
end
abbrev TG:=V->St->Hp->(St->Hp->Prop)->Prop
abbrev TGs:=List V->St->Hp->(St->Hp->Prop)->Prop
def PG(X:Cx)(target:cA)(t:TG):Prop:=
 ∀(aa:List (aQ×Obj))(s:aZ)(σ:St)(H:Hp)(v:V)(u:aJ)(Q:St->Hp->Prop),Inv X aa σ H s->RelV v u->t v σ H Q->
  wpAny (model X.prog X.w) X.A (assign target X.env u) (λ_ s'=>∃σ' H',Inv X aa σ' H' s'/\Q σ' H') X.xe s
def PGs(X:Cx)(ts:List cA)(t:TGs):Prop:=
 ∀(aa:List (aQ×Obj))(s:aZ)(σ:St)(H:Hp)(vs:List V)(us:List aJ)(Q:St->Hp->Prop),Inv X aa σ H s->Vals vs us->t vs σ H Q->
  wpAny (model X.prog X.w) X.A (assignInOrder ((assignEach ts X.env).map (·.2)) us) (λ_ s'=>∃σ' H',Inv X aa σ' H' s'/\Q σ' H') X.xe s
section
def Ms(i:Nat):TG:=λv σ H Q=>Q (σ.set i (some v)) H
theorem Axa{i:Nat}(hN:X.N.Nodup)(hi:X.N[i]?=some x)(hx:Loc X.env.scope x)(hf:X.fn x=true\/X.env.scope.names.lookup x=some .local:=by first|exact .inl rfl|exact .inr rfl|assumption):PG X (.Name x pos) (Ms i):=by
 intro aa s σ H v u Q I r h;exact wpAny_assign_Name (Aby I hN hi hx r (λs' I'=>⟨_,H,I',h⟩) hf)
def Bhy:TGs:=λvs σ H Q=>vs=[]/\Q σ H
def Bbx(t:TG)(u:TGs):TGs:=λvs σ H Q=>∃v r,vs=v::r/\t v σ H λσ' H'=>u r σ' H' Q
theorem Axb:PGs X [] Bhy:=by
 intro aa s σ H vs us Q I r h;obtain⟨e,h⟩:=h;subst e;cases r;exact assignInOrder_nil ⟨σ,H,I,h⟩
theorem Asg(h1:PG X e t)(h2:PGs X es u)(hs:(assignEach (e::es) X.env).map (·.2)=assign e X.env::(assignEach es X.env).map (·.2):=by rfl):PGs X (e::es) (Bbx t u):=by
 intro aa s σ H vs us Q I r h;obtain⟨v,vr,e1,h⟩:=h;subst e1;cases r with
 |cons r rr=>
  rw[hs];refine assignInOrder_cons (thn (h1 aa s σ H _ _ _ I r h) λ_ s1 zz=>?_);obtain⟨σ1,H1,I1,q1⟩:=zz;exact h2 aa s1 σ1 H1 _ _ Q I1 rr q1
def Bc3(K:aF)(n:Nat)(t:TGs):TG:=λv σ H Q=>∃a xs,v=.ref a/\SqT K H a xs/\xs.length=n/\t xs σ H Q
theorem Bc4{k:Nat}{n:Nat}(hc:X.calm=true)(h:PGs X es t)(hn:(assignEach es X.env).length=n:=by rfl)(hst:(assignEach es X.env).findIdx? (·.1)=none:=by rfl):PG X (.Tuple es k pos) (Bc3 X.K n t):=by
 intro aa s σ H v u Q I r hw;obtain⟨a,xs,e1,hq,hl,hw⟩:=hw;subst e1;cases r;obtain⟨its,rv,ht,hz⟩:=I.tuple hq;refine assign_Tuple_tuple (I.ok.hd hc) ht (by simp[hn,<-hl,rv.length]) hst λh' hx=>?_
 have I1:Inv X aa σ H { s with heap:=h' }:=I.kept (t':=s.toks) λb o e=>hx b o (dC (bN e)) e
 exact h aa _ σ H xs _ Q I1 (by simpa using rv) hw
def Axc(te:TE)(g:TG):TS:=λD σ H=>te σ H λx H1=>g x σ H1 D.nx
theorem Bc5{i:Nat}(hN:X.N.Nodup)(hi:X.N[i]?=some x)(hx:Loc X.env.scope x)(he:PE X e te)(hs:swapsWith e (some (.Name x pos')) pos.line X.env=pure false:=by rfl)(hf:X.fn x=true\/X.env.scope.names.lookup x=some .local:=by first|exact .inl rfl|exact .inr rfl|assumption):
  PS X (.Assign [.Name x pos'] e pos) (Axc te (Ms i)):=by
 intro aa s σ H D I h;refine wpAny_Assign_Name (thn (he aa s σ H _ I h) λv s1 ⟨y,H1,I1,r1,q1⟩=>?_) hs;exact Aby I1 hN hi hx r1 (λs2 I2=>⟨_,H1,I2,q1⟩) hf
end
section
def Bc6(c:TT)(tb:TS):TS:=λD σ H=>∃W:Nat->St->Hp->Prop,(∃m,W m σ H)/\∀m σ H,W m σ H->
 c σ H λb H1=>if b=true then ∃N:St->Hp->Prop,(∀σ' H',N σ' H'->∃m',m' < m/\W m' σ' H')/\tb { D with nx:=N,ct:=N,bk:=D.nx } σ H1 else D.nx σ H1
theorem Ash(hp:qO (model X.prog X.w) X.A X.env X.xe)(hc:PT X c tc)(hb:PSs X body tb):PS X (.While c body [] pos) (Bc6 tc tb):=by
 intro aa s σ H D I h;obtain⟨W,⟨m0,w0⟩,turn⟩:=h;refine wpAny_While (codeAny_whileLoop (λn s'=>∃σ' H',Inv X aa σ' H' s'/\W n σ' H') ?_ m0 ⟨σ,H,I,w0⟩);rintro n s1 ⟨σ1,H1,I1,w1⟩;refine jD hp (thn (hc aa s1 σ1 H1 _ I1 (turn n σ1 H1 w1)) λb s2 zz=>?_);obtain⟨H2,I2,q2⟩:=zz;cases b with
 |true=>
  obtain⟨N,hN,q2⟩:=q2;rw[if_pos rfl];refine jD hp (thn (hb aa s2 σ1 H2 _ I2 q2) λf s3 q3=>?_);cases f with
  |next=>
   obtain⟨σ3,H3,I3,n3⟩:=q3;obtain⟨m',hm,w3⟩:=hN σ3 H3 n3;exact⟨m',hm,σ3,H3,I3,w3⟩
  |cont=>
   obtain⟨σ3,H3,I3,n3⟩:=q3;obtain⟨m',hm,w3⟩:=hN σ3 H3 n3;exact⟨m',hm,σ3,H3,I3,w3⟩
  |brk=>exact q3
  |ret v=>exact q3
 |false=>
  rw[if_neg bH];exact mQ ⟨σ1,H2,I2,q2⟩
end
structure It where
 go:Nat->Hp->Prop
 yld:Nat->Hp->V->Hp->Prop
 stop:Nat->Hp->Prop
def Aeg(X:Cx)(aa:List (aQ×Obj))(H:Hp)(b:aQ):Prop:=
 H b=none/\b≠X.env.locals/\b∉X.fs/\(b∈X.ex\/X.s₀.heap.objs.size<=b)/\(∀x c,X.env.cells.lookup x=some c->c≠b)/\∀p∈X.pn ++ aa,p.1≠b
theorem Inv.fpOk(I:Inv X aa σ H s)(hb:s.heap.objs.size<=b)(hn:H' b=none):Aeg X aa H' b:=by
 refine⟨hn,qY (bM I.lt hb),I.nofs hb,.inr (aD I.sz hb),λx c e z=>?_,λp hp z=>?_⟩
 .obtain⟨v,q⟩:=I.cell x c e;exact absurd (bM q.lt (by rw[z];exact hb)) (fK _)
 .exact absurd (bM (bN (I.pin p hp).1) (by rw[z];exact hb)) (fK _)
structure Turn(P:cP)(w:dO)(K:aF)(tg:cA)(J:It)(fp:List aQ)(it:aQ)(tn:Nat->dN->Prop):Prop where
 mem:it∈fp
 obj:∀i h,tn i h->∀b∈fp,∃o,h.get? b=some o/\∀v,o.data≠.cell v
 keep:∀i h h',tn i h->(∀b∈fp,∀o,h.get? b=some o->h'.get? b=some o)->tn i h'
 item:∀(X:Cx),X.prog=P->X.w=w->X.K=K->X.calm=true->∀(i:Nat)(aa:List (aQ×Obj))(s:aZ)(σ:St)(H:Hp)(E:aJ->aZ->Prop),Inv X aa σ H s->(∀b∈fp,Aeg X aa H b)->tn i s.heap->J.go i H->
  wpAny (model P w) X.A (pyNext (.ref it)) (λr s1=>∃u,r=some u/\
   wpAny (model P w) X.A (letOwnedTupleGo tg (.ref it) u) (λ_ s2=>∃x H',Inv X aa σ H' s2/\RelV x u/\J.yld i H x H'/\tn (i+1) s2.heap/\∀b∈fp,H' b=none) E s1) E s
 done:∀(X:Cx),X.prog=P->X.w=w->X.K=K->X.calm=true->∀(i:Nat)(aa:List (aQ×Obj))(s:aZ)(σ:St)(H:Hp)(E:aJ->aZ->Prop),Inv X aa σ H s->(∀b∈fp,Aeg X aa H b)->tn i s.heap->J.stop i H->
  wpAny (model P w) X.A (pyNext (.ref it)) (λr s1=>r=none/\Inv X aa σ H s1) E s
 self:∀(A:fV)(i:Nat)(s:aZ)(Q:aJ->aZ->Prop)(E:aJ->aZ->Prop),tn i s.heap->Q (.ref it) s->wpAny (model P w) A (pyIter (.ref it)) Q E s
abbrev TI:=St->Hp->(It->Hp->Prop)->Prop
def PIE(X:Cx)(aa:List (aQ×Obj))(σ:St)(tg:cA)(R:It->Hp->Prop)(itv:aJ)(s2:aZ):Prop:=
 ∃(it:aQ)(fp:List aQ)(tn:Nat->dN->Prop)(J:It)(H':Hp),itv=.ref it/\Inv X aa σ H' s2/\Turn X.prog X.w X.K tg J fp it tn/\tn 0 s2.heap/\(∀b∈fp,Aeg X aa H' b)/\R J H'
def PI(X:Cx)(tg iter:cA)(wi:TI):Prop:=
 ∀(aa:List (aQ×Obj))(s:aZ)(σ:St)(H:Hp)(R:It->Hp->Prop),Inv X aa σ H s->wi σ H R->
  wpAny (model X.prog X.w) X.A (eval iter X.env) (λv s1=>wpAny (model X.prog X.w) X.A (pyIter v) (PIE X aa σ tg R) X.xe s1) X.xe s
theorem Ang(ho:s.heap.get? it=some o)(hc:o.cls=.type n)(hd:o.data=.fields vs)(hn:["enumerate","zip","dict_itemiterator","dict_reverseitemiterator","odict_iterator","itertools.zip_longest","itertools.pairwise"].contains n=false)(hQ:Q () s):wpAny M A (letOwnedTupleGo tg (.ref it) u) Q E s:=by
 unfold letOwnedTupleGo;cases tg <;> first
  |exact aV hQ
  |(cases u <;> first
    |exact aV hQ
    |(refine aB (wpAny_load ho ?_);rw[hc,hd];show wpAny M A (if (["enumerate","zip","dict_itemiterator","dict_reverseitemiterator","odict_iterator","itertools.zip_longest","itertools.pairwise"].contains n&&vs[0]?==some (rawInt _))=true then _ else _) Q E s;rw[if_neg (by intro h;rw[hn,sU] at h;cases h)];exact aV hQ))
def Itl(K:aF)(a:aQ):It:=
 ⟨λi H=>∃xs x,SqL K H a xs/\xs[i]?=some x,λi H x H'=>H'=H/\∀xs,SqL K H a xs->xs[i]?=some x,λi H=>∃xs,SqL K H a xs/\xs.length<=i⟩
def Itt(K:aF)(a:aQ):It:=
 ⟨λi H=>∃xs x,SqT K H a xs/\xs[i]?=some x,λi H x H'=>H'=H/\∀xs,SqT K H a xs->xs[i]?=some x,λi H=>∃xs,SqT K H a xs/\xs.length<=i⟩
def Itr(lo:Int)(n:Nat):It:=⟨λi _=>i < n,λi H x H'=>H'=H/\x=.int (lo+i),λi _=>n<=i⟩
theorem Apd{P:cP}{w:dO}{K:aF}{tg:cA}(a it:aQ):Turn P w K tg (Itl K a) [it] it (λi h=>h.IsListIter it a i) where
 mem:=by simp
 obj:=λi h st b hb=>by
  have e:b=it:=by simpa using hb
  subst e;obtain⟨o,e,c,d⟩:=st;exact⟨o,e,λv z=>by rw[d] at z;cases z⟩
 keep:=λi h h' st k=>st.at λo e=>k it (by simp) o e
 item:=by
  intro X hP hw hK hc i aa s σ H E I hf st hg;subst hP hw hK;obtain⟨xs,x,hq,hx⟩:=hg;obtain⟨its,rv,p,hz⟩:=I.list hq;obtain⟨u,hu,ru⟩:=rv.get hx;obtain⟨f0,f1,f2,f3,f4,f5⟩:=hf it (by simp)
  refine wpAny_pyNext_list_item st p.isList (x:=u) (by simpa using hu) λh' st' sb=>?_
  have I1:Inv X aa σ H { s with heap:=h' }:=I.turned (t':=s.toks) (λb o hb e=>(sb.2 b hb).trans e) f0 f1 f3 f4 f5
  obtain⟨o,e,c,d⟩:=id st';exact⟨u,rfl,Ang (s:={ s with heap:=h' }) e c d (by decide) ⟨x,H,I1,ru,⟨rfl,λys hy=>by rw[I.list_inj hy hq];exact hx⟩,st',λb hb=>(hf b hb).1⟩⟩
 done:=by
  intro X hP hw hK hc i aa s σ H E I hf st hg;subst hP hw hK;obtain⟨xs,hq,hx⟩:=hg;obtain⟨its,rv,p,hz⟩:=I.list hq;obtain⟨f0,f1,f2,f3,f4,f5⟩:=hf it (by simp)
  have hl:=rv.length;exact wpAny_pyNext_list_end (I.ok.hd hc) st p.isList (by simp;omega) λh' eb=>⟨rfl,I.turned (t':=s.toks) (λb o hb e=>eb b o hb e) f0 f1 f3 f4 f5⟩
 self:=λ_ _ _ _ _ st h=>wpAny_pyIter_listiter st h
theorem Akz{P:cP}{w:dO}{K:aF}{tg:cA}(a it:aQ):Turn P w K tg (Itt K a) [it] it (λi h=>h.IsTupleIter it a i) where
 mem:=by simp
 obj:=λi h st b hb=>by
  have e:b=it:=by simpa using hb
  subst e;obtain⟨o,e,c,d⟩:=st;exact⟨o,e,λv z=>by rw[d] at z;cases z⟩
 keep:=λi h h' st k=>st.at λo e=>k it (by simp) o e
 item:=by
  intro X hP hw hK hc i aa s σ H E I hf st hg;subst hP hw hK;obtain⟨xs,x,hq,hx⟩:=hg;obtain⟨its,rv,p,hz⟩:=I.tuple hq;obtain⟨u,hu,ru⟩:=rv.get hx;obtain⟨f0,f1,f2,f3,f4,f5⟩:=hf it (by simp)
  refine wpAny_pyNext_tuple_item st (show s.heap.IsTuple a its.toArray from p) (x:=u) (by simpa using hu) λh' st' sb=>?_
  have I1:Inv X aa σ H { s with heap:=h' }:=I.turned (t':=s.toks) (λb o hb e=>(sb.2 b hb).trans e) f0 f1 f3 f4 f5
  obtain⟨o,e,c,d⟩:=id st';exact⟨u,rfl,Ang (s:={ s with heap:=h' }) e c d (by decide) ⟨x,H,I1,ru,⟨rfl,λys hy=>by rw[I.tuple_inj hy hq];exact hx⟩,st',λb hb=>(hf b hb).1⟩⟩
 done:=by
  intro X hP hw hK hc i aa s σ H E I hf st hg;subst hP hw hK;obtain⟨xs,hq,hx⟩:=hg;obtain⟨its,rv,p,hz⟩:=I.tuple hq;obtain⟨f0,f1,f2,f3,f4,f5⟩:=hf it (by simp)
  have hl:=rv.length;exact wpAny_pyNext_tuple_end (I.ok.hd hc) st (show s.heap.IsTuple a its.toArray from p) (by simp;omega) λh' eb=>⟨rfl,I.turned (t':=s.toks) (λb o hb e=>eb b o hb e) f0 f1 f3 f4 f5⟩
 self:=λ_ _ _ _ _ st h=>wpAny_pyIter_tupleiter st h
theorem Ak0{P:cP}{w:dO}{K:aF}{tg:cA}(it:aQ)(lo:Int)(n:Nat):Turn P w K tg (Itr lo n) [it] it (λi h=>IsRangeIter h it (lo+(i:Nat) * 1) ((n:Int) - (i:Nat)) 1) where
 mem:=by simp
 obj:=λi h st b hb=>by
  have e:b=it:=by simpa using hb
  subst e;exact⟨_,st,λv z=>by
   have z':aAg _=wG v:=z;cases z'⟩
 keep:=λi h h' st k=>k it (by simp) _ st
 item:=by
  intro X hP hw hK hc i aa s σ H E I hf st hg;subst hP hw hK;obtain⟨f0,f1,f2,f3,f4,f5⟩:=hf it (by simp)
  have W:=Walks.range (prog:=X.prog) (w:=X.w) (I.ok.hd hc) it lo 1 n;refine W.item i s _ _ hg st λv h' tk hv st' kk=>?_;obtain⟨t,rfl⟩:=hv;have I1:Inv X aa σ H { s with heap:=h',toks:=tk }:=I.turned (λb o hb e=>kk b o (by simpa using hb) e) f0 f1 f3 f4 f5
  refine⟨_,rfl,Ang (s:={ s with heap:=h',toks:=tk }) (n:="range_iterator") st' rfl rfl (by decide) ⟨.int (lo+i),H,I1,⟨t,?_⟩,⟨rfl,rfl⟩,st',λb hb=>(hf b hb).1⟩⟩
  rw[Int.mul_one]
 done:=by
  intro X hP hw hK hc i aa s σ H E I hf st hg;subst hP hw hK;obtain⟨f0,f1,f2,f3,f4,f5⟩:=hf it (by simp)
  exact wpAny_pyNext_range_end (I.ok.hd hc) st (by have:n<=i:=hg;omega) λh' eb=>⟨rfl,I.turned (t':=s.toks) (λb o hb e=>eb b o hb e) f0 f1 f3 f4 f5⟩
 self:=λ_ _ _ _ _ st h=>wpAny_pyIter_rangeiter st h
section
def Bby(K:aF)(tl:TE):TI:=λσ H R=>tl σ H λx H1=>∃a,x=.ref a/\(∃xs,SqL K H1 a xs)/\R (Itl K a) H1
def Bhz(K:aF)(tl:TE):TI:=λσ H R=>tl σ H λx H1=>∃a,x=.ref a/\(∃xs,SqT K H1 a xs)/\R (Itt K a) H1
theorem Axd{l:cA}{tl:TE}(hl:PE X l tl):PI X tg l (Bby X.K tl):=by
 intro aa s σ H R I h;refine thn (hl aa s σ H _ I h) λv s1 zz=>?_;obtain⟨x,H1,I1,r1,q1⟩:=zz;obtain⟨a,e,⟨xs,hq⟩,q⟩:=q1;subst e;cases r1;obtain⟨its,rv,p,hz⟩:=I1.list hq;refine vI p.isList ?_;refine⟨s1.heap.objs.size,[s1.heap.objs.size],_,_,H1,rfl,I1.kept (t':=s1.toks) λb o e=>aP _ e,Apd a _,⟨_,bO _ rfl,rfl,rfl⟩,λb hb=>?_,q⟩;have e:b=s1.heap.objs.size:=by simpa using hb
 subst e;exact I1.fpOk (aN _) (I1.hok.fresh (aN _))
theorem Bc7{l:cA}{tl:TE}(hl:PE X l tl):PI X tg l (Bhz X.K tl):=by
 intro aa s σ H R I h;refine thn (hl aa s σ H _ I h) λv s1 zz=>?_;obtain⟨x,H1,I1,r1,q1⟩:=zz;obtain⟨a,e,⟨xs,hq⟩,q⟩:=q1;subst e;cases r1;obtain⟨its,rv,p,hz⟩:=I1.tuple hq;refine pI (show s1.heap.IsTuple a its.toArray from p) ?_;refine⟨s1.heap.objs.size,[s1.heap.objs.size],_,_,H1,rfl,I1.kept (t':=s1.toks) λb o e=>aP _ e,Akz a _,⟨_,bO _ rfl,rfl,rfl⟩,λb hb=>?_,q⟩;have e:b=s1.heap.objs.size:=by simpa using hb
 subst e;exact I1.fpOk (aN _) (I1.hok.fresh (aN _))
theorem Asi{lo hi:Int}{t u v:Tok}{tk:Nat}(I:Inv X aa σ H s)(h1:-(2 ^ 62)<=lo)(h2:lo < 2 ^ 62)(h3:-(2 ^ 62)<=hi)(h4:hi < 2 ^ 62)(q:R (Itr lo (hi - lo).toNat) H):wpAny (model X.prog X.w) X.A (pyIter (.ref s.heap.objs.size)) (PIE X aa σ tg R) E { s with heap:=s.heap.push { cls:=.type "range",data:=.fields #[.int lo t,.int hi u,.int 1 v] },toks:=tk }:=by
 refine wpAny_pyIter_range (IsRange.new ..) (small_one h1 h2 h3 h4) ?_;have I1:Inv X aa σ H { s with heap:=s.heap.push { cls:=.type "range",data:=.fields #[.int lo t,.int hi u,.int 1 v] },toks:=tk }:=I.kept λb o e=>aP _ e
 refine⟨(s.heap.push { cls:=.type "range",data:=.fields #[.int lo t,.int hi u,.int 1 v] }).objs.size,[(s.heap.push { cls:=.type "range",data:=.fields #[.int lo t,.int hi u,.int 1 v] }).objs.size],_,_,H,rfl,
  I1.kept (t':=tk) λb o e=>aP _ e,Ak0 _ lo (hi - lo).toNat,?_,λb hb=>?_,q⟩
 .have e1:lo+((0:Nat):Int) * 1=lo:=by simp
  have e2:(((hi - lo).toNat:Nat):Int) - ((0:Nat):Int)=zM lo hi 1:=by rw[rangeSize_one];split <;> omega
  show IsRangeIter _ _ (lo+((0:Nat):Int) * 1) ((((hi - lo).toNat:Nat):Int) - ((0:Nat):Int)) 1;rw[e1,e2];exact bO _ rfl
 .have e:b=(s.heap.push { cls:=.type "range",data:=.fields #[.int lo t,.int hi u,.int 1 v] }).objs.size:=by simpa using hb
  subst e;exact I1.fpOk (aN _) (I1.hok.fresh (aN _))
def Bbz(ta:TA):TI:=λσ H R=>ta σ H λvs H1=>∃j:Int,vs=[.int j]/\-(2 ^ 62)<=j/\j < 2 ^ 62/\R (Itr 0 j.toNat) H1
theorem Ape(hg:Gl X "range")(hm:X.mg "range"=none)(ha:PA X [a] ta)(hs:starEach [a] X.env=[(false,eval a X.env)]:=by rfl):PI X tg (.Call (.Name "range" p) [a] [] pos) (Bbz ta):=by
 intro aa s σ H R I h;refine Call_ (Ab0 I hg hm boot_range (kY (thn (ha pos aa s σ H _ I h) λus s1 ⟨vs,H1,I1,r1,q1⟩=>?_) hs rfl));obtain⟨j,e,q1,q2,q⟩:=q1;subst e;cases r1 with
 |cons r rr=>
  cases rr;obtain⟨t,rfl⟩:=r;exact call_range_1 (Asi I1 (by omega) (by omega) q1 q2 (by simpa using q))
def Bkt(wi:TI)(g:TG)(tb:TS):TS:=λD σ H=>wi σ H λJ H1=>∃W:Nat->Nat->St->Hp->Prop,(∃m,W 0 m σ H1)/\∀i m σ H,W i m σ H->
 (J.stop i H/\D.nx σ H)\/(J.go i H/\∃N:St->Hp->Prop,(∀σ' H',N σ' H'->∃m',m' < m/\W (i+1) m' σ' H')/\∀x H',J.yld i H x H'->g x σ H' λσ2 H2=>tb { D with nx:=N,ct:=N,bk:=D.nx } σ2 H2)
def Ab1(fp:List aQ)(h:dN):List (aQ×Obj):=fp.filterMap λb=>(h.get? b).map λo=>(b,o)
theorem Kr(hb:b∈fp)(e:h.get? b=some o):(b,o)∈Ab1 fp h:=gJ.mpr ⟨b,hb,by rw[e];rfl⟩
theorem Apf(hp:p∈Ab1 fp h):p.1∈fp/\h.get? p.1=some p.2:=by
 obtain⟨b,hb,e⟩:=gJ.mp hp;cases q:h.get? b with
 |none=>rw[q] at e;cases e
 |some o=>
  rw[q] at e;have e':(b,o)=p:=bV e;subst e';exact⟨hb,q⟩
theorem Inv.pinned(I:Inv X aa σ H s)(hf:∀b∈fp,Aeg X aa H b)(ho:∀b∈fp,∃o,s.heap.get? b=some o/\∀v,o.data≠.cell v):Inv X (aa ++ Ab1 fp s.heap) σ H s:=
 I.pins_of λp hp=>(bW.mp hp).elim (λz=>I.pin p (cU _ z)) λz=>by
  obtain⟨hb,e⟩:=Apf z;obtain⟨f0,f1,f2,_⟩:=hf p.1 hb;obtain⟨o,e',d⟩:=ho p.1 hb;rw[e] at e';cases e';exact⟨e,f0,f1,f2,d⟩
def Inv.unpinned(I:Inv X (aa ++ pl) σ H s):Inv X aa σ H s:=I.pins_of λp hp=>I.pin p (cU _ (nZ _ hp))
theorem Bc8(hp:qO (model X.prog X.w) X.A X.env X.xe)(hc:X.calm=true)(hi:PI X tg iter wi)(hg:PG X tg g)(hb:PSs X body tb)(hs:∀x,foldedSetIterable iter X.env x=pure x:=by intro _;rfl):PS X (.For tg iter body [] pos) (Bkt wi g tb):=by
 intro aa s σ H D I h;refine wpAny_For (thn (hi aa s σ H _ I h) λv s1 h1=>thn h1 λitv s2 h2=>?_) hs;obtain⟨it,fp,tn,J,H2,e,I2,T,st2,f2,W,⟨m0,w0⟩,turn⟩:=h2;subst e;have stat:∀{H':Hp},(∀b∈fp,H' b=none)->∀b∈fp,Aeg X aa H' b:=λhn b hb=>⟨hn b hb,(f2 b hb).2⟩;refine codeAny_forLoop_any (λn s'=>∃i σ' H',Inv X aa σ' H' s'/\tn i s'.heap/\(∀b∈fp,H' b=none)/\W i n σ' H') ?_ m0 ⟨0,σ,H2,I2,st2,λb hb=>(f2 b hb).1,w0⟩;rintro n s3 ⟨i,σ3,H3,I3,st3,fr3,w3⟩;rcases turn i n σ3 H3 w3 with ⟨stop,qn⟩|⟨go,N,hN,step⟩
 .refine jD hp (thn (T.done X rfl rfl rfl hc i aa s3 σ3 H3 X.xe I3 (stat fr3) st3 stop) λr s4 zz=>?_);obtain⟨hr,I4⟩:=zz;subst hr;exact mQ ⟨σ3,H3,I4,qn⟩
 .refine jD hp (thn (T.item X rfl rfl rfl hc i aa s3 σ3 H3 X.xe I3 (stat fr3) st3 go) λr s4 zz=>?_);obtain⟨u,hr,h4⟩:=zz;subst hr;refine jD hp (thn h4 λ_ s5 zz=>?_);obtain⟨x,H5,I5,r5,y5,st5,fr5⟩:=zz;have I5':=I5.pinned (stat fr5) (T.obj _ _ st5);refine jD hp (thn (hg _ s5 σ3 H5 x u _ I5' r5 (step x H5 y5)) λ_ s6 zz=>?_);obtain⟨σ6,H6,I6,q6⟩:=zz;refine jD hp (thn (hb _ s6 σ6 H6 _ I6 q6) λf s7 q7=>?_);have again:∀{σ7:St} {H7:Hp},Inv X (aa ++ Ab1 fp s5.heap) σ7 H7 s7->N σ7 H7->∃m,m < n/\∃i σ' H',Inv X aa σ' H' s7/\tn i s7.heap/\(∀b∈fp,H' b=none)/\W i m σ' H':=λ{σ7 H7} I7 n7=>by
   obtain⟨m',hm,w7⟩:=hN σ7 H7 n7;refine⟨m',hm,i+1,σ7,H7,I7.unpinned,T.keep _ _ _ st5 λb hb o e=>(I7.pin (b,o) (cU _ (cU _ (Kr hb e)))).1,λb hb=>?_,w7⟩;obtain⟨o,e,d⟩:=T.obj _ _ st5 b hb;exact(I7.pin (b,o) (cU _ (cU _ (Kr hb e)))).2.1
  cases f with
  |next=>obtain⟨σ7,H7,I7,n7⟩:=q7;exact again I7 n7
  |cont=>obtain⟨σ7,H7,I7,n7⟩:=q7;exact again I7 n7
  |brk=>obtain⟨σ7,H7,I7,q7⟩:=q7;exact⟨σ7,H7,I7.unpinned,q7⟩
  |ret v=>obtain⟨x7,σ7,H7,I7,r7,q7⟩:=q7;exact⟨x7,σ7,H7,I7.unpinned,r7,q7⟩
end
abbrev R2:=V->V->Hp->VK->Prop
def OpR(X:Cx)(f:aJ->aJ->Sem aJ)(r:R2):Prop:=
 ∀(aa:List (aQ×Obj))(s:aZ)(σ:St)(H:Hp)(x y:V)(v u:aJ)(Q:VK),Inv X aa σ H s->RelV x v->RelV y u->r x y H Q->
  wpAny (model X.prog X.w) X.A (f v u) (EP X aa σ Q) X.xe s
def UnR(X:Cx)(f:aJ->Sem aJ)(r:V->Hp->VK->Prop):Prop:=
 ∀(aa:List (aQ×Obj))(s:aZ)(σ:St)(H:Hp)(x:V)(v:aJ)(Q:VK),Inv X aa σ H s->RelV x v->r x H Q->
  wpAny (model X.prog X.w) X.A (f v) (EP X aa σ Q) X.xe s
def Gy(X:Cx)(f:aJ)(r:List V->Hp->VK->Prop):Prop:=
 ∀(aa:List (aQ×Obj))(s:aZ)(σ:St)(H:Hp)(xs:List V)(us:List aJ)(Q:VK),Inv X aa σ H s->Vals xs us->r xs H Q->
  wpAny (model X.prog X.w) X.A (call f us) (EP X aa σ Q) X.xe s
def Bku(X:Cx)(r:V->Hp->(Bool->Hp->Prop)->Prop):Prop:=
 ∀(aa:List (aQ×Obj))(s:aZ)(σ:St)(H:Hp)(x:V)(v:aJ)(Q:Bool->Hp->Prop),Inv X aa σ H s->RelV x v->r x H Q->
  wpAny (model X.prog X.w) X.A (truthy v) (TP X aa σ Q) X.xe s
def tOp(r:R2)(ta tb:TE):TE:=λσ H Q=>ta σ H λx H1=>tb σ H1 λy H2=>r x y H2 Q
def tUn(r:V->Hp->VK->Prop)(ta:TE):TE:=λσ H Q=>ta σ H λx H1=>r x H1 Q
def rI(C:Int->Int->Prop)(g:Int->Int->V):R2:=λx y H Q=>∃i j,x=.int i/\y=.int j/\C i j/\Q (g i j) H
def rI0(g:Int->Int->V):R2:=λx y H Q=>∃i j,x=.int i/\y=.int j/\Q (g i j) H
def rU(g:Int->V):V->Hp->VK->Prop:=λx H Q=>∃i,x=.int i/\Q (g i) H
section
theorem Bc9(ha:PE X a ta)(hb:PE X b tb){aa:List (aQ×Obj)}{s:aZ}{σ:St}{H:Hp}{R:V->V->Hp->Prop}(I:Inv X aa σ H s)(h:ta σ H λx H1=>tb σ H1 λy H2=>R x y H2){Q:aJ->aZ->Prop}{f:aJ->aJ->Sem aJ}(hf:∀v u s2 x y H2,Inv X aa σ H2 s2->RelV x v->RelV y u->R x y H2->wpAny (model X.prog X.w) X.A (f v u) Q X.xe s2):
  wpAny (model X.prog X.w) X.A (eval a X.env) (λv s₁=>wpAny (model X.prog X.w) X.A (eval b X.env) (λu s₂=>wpAny (model X.prog X.w) X.A (f v u) Q X.xe s₂) X.xe s₁) X.xe s:=by
 refine thn (ha aa s σ H _ I h) λv s1 zz=>?_;obtain⟨x,H1,I1,r1,q1⟩:=zz;refine thn (hb aa s1 σ H1 _ I1 q1) λu s2 zz=>?_;obtain⟨y,H2,I2,r2,q2⟩:=zz;exact hf v u s2 x y H2 I2 r1 r2 q2
theorem Bh0{op:xU}{r:R2}(ho:OpR X (binaryOp op) r)(ha:PE X a ta)(hb:PE X b tb):PE X (.BinOp a op b pos) (tOp r ta tb):=by
 intro aa s σ H Q I h;exact wpAny_BinOp (Bc9 ha hb I h λv u s2 x y H2 I2 rx ry q=>ho aa s2 σ H2 x y v u Q I2 rx ry q)
theorem Bh1(ho:UnR X (unaryOp op) r)(ha:PE X a ta):PE X (.UnaryOp op a pos) (tUn r ta):=by
 intro aa s σ H Q I h;exact UnaryOp_ (thn (ha aa s σ H _ I h) λv s1 ⟨x,H1,I1,r1,q1⟩=>ho aa s1 σ H1 x v Q I1 r1 q1)
theorem opI{C:Int->Int->Prop}{g:Int->Int->Int}(rule:∀(i j:Int)(t u:Tok)(s:aZ)(Q:aJ->aZ->Prop)(E:aJ->aZ->Prop),C i j->Q (.int (g i j) s.toks) { s with toks:=s.toks+1 }->wpAny (model X.prog X.w) X.A (f (.int i t) (.int j u)) Q E s):
  OpR X f (rI C λi j=>.int (g i j)):=by
 intro aa s σ H x y v u Q I rx ry h;obtain⟨i,j,rfl,rfl,hc,q⟩:=h;obtain⟨t,rfl⟩:=rx;obtain⟨t',rfl⟩:=ry;exact rule i j t t' s _ _ hc ⟨.int (g i j),H,I.tok _,⟨_,rfl⟩,q⟩
theorem Bda{g:Int->Int->Int}(rule:∀(i j:Int)(t u:Tok)(s:aZ)(Q:aJ->aZ->Prop)(E:aJ->aZ->Prop),Q (.int (g i j) s.toks) { s with toks:=s.toks+1 }->wpAny (model X.prog X.w) X.A (f (.int i t) (.int j u)) Q E s):
  OpR X f (rI0 λi j=>.int (g i j)):=by
 intro aa s σ H x y v u Q I rx ry h;obtain⟨i,j,rfl,rfl,q⟩:=h;obtain⟨t,rfl⟩:=rx;obtain⟨t',rfl⟩:=ry;exact rule i j t t' s _ _ ⟨.int (g i j),H,I.tok _,⟨_,rfl⟩,q⟩
theorem Bdb{g:Int->Int->Bool}(rule:∀(i j:Int)(t u:Tok)(s:aZ)(Q:aJ->aZ->Prop)(E:aJ->aZ->Prop),Q (.bool (g i j)) s->wpAny (model X.prog X.w) X.A (f (.int i t) (.int j u)) Q E s):
  OpR X f (rI0 λi j=>.bl (g i j)):=by
 intro aa s σ H x y v u Q I rx ry h;obtain⟨i,j,rfl,rfl,q⟩:=h;obtain⟨t,rfl⟩:=rx;obtain⟨t',rfl⟩:=ry;exact rule i j t t' s _ _ ⟨.bl (g i j),H,I,rfl,q⟩
def Bh2(i j:Int):Prop:=0 < j/\j < 1073741824
def Axe(i j:Int):Prop:=(-(2 ^ 64) < i/\i < 2 ^ 64)\/(-(2 ^ 64) < j/\j < 2 ^ 64)
theorem Axe.ok{i j:Int}(h:Axe i j):IntMulOk i j:=by
 rcases h with ⟨h1,h2⟩|⟨h1,h2⟩
 .exact .of_left (yX h1 h2)
 .exact .of_right (yX h1 h2)
theorem Ak1(k:Nat):(0:Int)<=2 ^ k:=by
 rw[two_pow_cast];exact mR _
def Bdc:OpR X (binaryOp .Add) (rI0 λi j=>.int (i+j)):=Bda λ_ _ _ _ _ _ _ q=>add_int q
def Bdd:OpR X (binaryOp .Sub) (rI0 λi j=>.int (i - j)):=Bda λ_ _ _ _ _ _ _ q=>sub_int q
def Bde:OpR X (binaryOp .Mult) (rI Axe λi j=>.int (i * j)):=opI λ_ _ _ _ _ _ _ hc q=>mul_int q hc.ok
theorem Axf:OpR X (binaryOp .FloorDiv) (rI Bh2 λi j=>.int (i / j)):=opI λi j _ _ _ _ _ hc q=>by
 have h1:(0:Int) < j:=hc.1;have h2:j < 1073741824:=hc.2;exact floordiv_int (by omega) (by rw[pJ i (by omega)];exact q) (.inl (PyProof.noPylong_small (by omega)))
theorem Bdf:OpR X (binaryOp .Mod) (rI (λ_ j=>0 < j) λi j=>.int (i % j)):=opI λi j _ _ _ _ _ hc q=>by
 have h1:(0:Int) < j:=hc;exact mod_int' (by omega) (by rw[Int.fmod_eq_emod_of_nonneg i (by omega)];exact q)
theorem Bdg:OpR X (binaryOp .RShift) (rI (λ_ j=>0<=j) λi j=>.int (i / 2 ^ j.toNat)):=opI λi j _ _ _ _ _ hc q=>
 rshift_int hc (by rw[pJ i (Ak1 _)];exact q)
def Bdh:OpR X (binaryOp .BitAnd) (rI0 λi j=>.int (mZ i j)):=Bda λ_ _ _ _ _ _ _ q=>and_int q
theorem unI{g:Int->Int}(rule:∀(i:Int)(t:Tok)(s:aZ)(Q:aJ->aZ->Prop)(E:aJ->aZ->Prop),Q (.int (g i) s.toks) { s with toks:=s.toks+1 }->wpAny (model X.prog X.w) X.A (f (.int i t)) Q E s):
  UnR X f (rU λi=>.int (g i)):=by
 intro aa s σ H x v Q I rx h;obtain⟨i,rfl,q⟩:=h;obtain⟨t,rfl⟩:=rx;exact rule i t s _ _ ⟨.int (g i),H,I.tok _,⟨_,rfl⟩,q⟩
def Bdi:UnR X (unaryOp .USub) (rU λi=>.int (-i)):=unI λ_ _ _ _ _ q=>neg_int q
end
section
theorem Vc(I:Inv X aa σ H s)(q:Q (.bl k) H)(e:k=k'):EP X aa σ Q (.bool k') s:=by
 subst e;exact⟨.bl k,H,I,rfl,q⟩
def Bh3:OpR X (compareOp .Lt) (rI0 λi j=>.bl (decide (i < j))):=Bdb λ_ _ _ _ _ _ _ q=>lt_int q
def Bh4:OpR X (compareOp .LtE) (rI0 λi j=>.bl (decide (i<=j))):=Bdb λ_ _ _ _ _ _ _ q=>le_int q
def Bh5:OpR X (compareOp .Gt) (rI0 λi j=>.bl (decide (j < i))):=Bdb λ_ _ _ _ _ _ _ q=>gt_int q
theorem Apg:OpR X (compareOp .Lt) (λx y H Q=>∃i j,x=.str i/\y=.str j/\Q (.bl (decide (i.cps.toList < j.cps.toList))) H):=by
 intro aa s σ H x y v u Q I rx ry h;obtain⟨i,j,rfl,rfl,q⟩:=h;obtain⟨t,rfl⟩:=rx;obtain⟨t',rfl⟩:=ry;exact lt_str (Vc I q rfl)
theorem Aph:OpR X (compareOp .In) (λx y H Q=>∃i j,x=.str i/\y=.str j/\Q (.bl (!(fP j i 0 j.length 1).isEmpty)) H):=by
 intro aa s σ H x y v u Q I rx ry h;obtain⟨i,j,rfl,rfl,q⟩:=h;obtain⟨t,rfl⟩:=rx;obtain⟨t',rfl⟩:=ry;exact in_str (Vc I q rfl)
theorem Bdj:OpR X (compareOp .Is) (λx y H Q=>y=.non/\Q (.bl (decide (x=.non))) H):=by
 intro aa s σ H x y v u Q I rx ry h;obtain⟨rfl,q⟩:=h;cases ry;refine is_none_gen (Vc I q ?_);cases x <;> first
  |(cases rx;rfl)
  |(obtain⟨t,rfl⟩:=rx;rfl)
theorem OpR.or(h:OpR X f r)(h':OpR X f r'):OpR X f (λx y H Q=>r x y H Q\/r' x y H Q):=by
 intro aa s σ H x y v u Q I rx ry q;rcases q with q|q
 .exact h aa s σ H x y v u Q I rx ry q
 .exact h' aa s σ H x y v u Q I rx ry q
theorem Axg{op:sS}{r:R2}(ho:OpR X (compareOp op) r)(ha:PE X a ta)(hb:PE X b tb)(hm:behindInMarks op b=false):PE X (.Compare a [op] [b] pos) (tOp r ta tb):=by
 intro aa s σ H Q I h;exact wpAny_Compare1 (Bc9 ha hb I h λv u s2 x y H2 I2 rx ry q=>ho aa s2 σ H2 x y v u Q I2 rx ry q) hm
def Anh(t:TE):TT:=λσ H Q=>t σ H λx H'=>∃k,x=.bl k/\Q k H'
theorem Axh(ho:OpR X (compareOp op) r)(ha:PE X a ta)(hb:PE X b tb)(hm:behindInMarks op b=false):PT X (.Compare a [op] [b] pos) (Anh (tOp r ta tb)):=by
 intro aa s σ H Q I h;refine sG (thn (ha aa s σ H _ I h) λv s1 ⟨x,H1,I1,r1,q1⟩=>thn (hb aa s1 σ H1 _ I1 q1) λu s2 ⟨y,H2,I2,r2,q2⟩=>
  thn (ho aa s2 σ H2 x y v u _ I2 r1 r2 q2) λc s3 ⟨z,H3,I3,r3,k,e,q3⟩=>?_) hm
 subst e;cases r3;exact dW ⟨H3,I3,q3⟩
def Ab2(r r':R2)(ta tb tc:TE):TE:=λσ H Q=>ta σ H λx H1=>tb σ H1 λy H2=>r x y H2 λz H3=>∃k,z=.bl k/\
 (if k=true then tc σ H3 λw' H4=>r' y w' H4 Q else Q (.bl false) H3)
theorem Asj(ho:OpR X (compareOp op) r)(ho':OpR X (compareOp op') r')(ha:PE X a ta)(hb:PE X b tb)(hc:PE X c tc)(hm:lastMarks [op,op'] [b,c]=false:=by with_unfolding_all rfl):PE X (.Compare a [op,op'] [b,c] pos) (Ab2 r r' ta tb tc):=by
 intro aa s σ H Q I h;refine Compare_chain (thn (ha aa s σ H _ I h) λv s1 ⟨x,H1,I1,r1,q1⟩=>chain_link (thn (hb aa s1 σ H1 _ I1 q1) λu s2 ⟨y,H2,I2,r2,q2⟩=>
  thn (ho aa s2 σ H2 x y v u _ I2 r1 r2 q2) λd s3 ⟨z,H3,I3,r3,k,e,q3⟩=>?_)) hm
 subst e;cases r3;refine dW ?_;cases k with
 |false=>exact ite_ff ⟨.bl false,H3,I3,rfl,q3⟩
 |true=>exact ite_tt (chain_last (thn (hc aa s3 σ H3 _ I3 q3) λw' s4 ⟨z',H4,I4,r4,q4⟩=>ho' aa s4 σ H4 y z' u w' Q I4 r2 r4 q4))
theorem Asl(ho:OpR X (compareOp op) r)(ho':OpR X (compareOp op') r')(ha:PE X a ta)(hb:PE X b tb)(hc:PE X c tc)(hm:lastMarks [op,op'] [b,c]=false:=by with_unfolding_all rfl):PT X (.Compare a [op,op'] [b,c] pos) (Anh (Ab2 r r' ta tb tc)):=by
 intro aa s σ H Q I h;refine isTrue_chain (thn (ha aa s σ H _ I h) λv s1 ⟨x,H1,I1,r1,q1⟩=>test_link (thn (hb aa s1 σ H1 _ I1 q1) λu s2 ⟨y,H2,I2,r2,q2⟩=>
  thn (ho aa s2 σ H2 x y v u _ I2 r1 r2 q2) λd s3 ⟨z,H3,I3,r3,k,e,q3⟩=>?_)) hm
 subst e;cases r3;refine dW ?_;cases k with
 |false=>
  obtain⟨k',e',q'⟩:=q3;cases e';exact ite_ff ⟨H3,I3,q'⟩
 |true=>
  refine ite_tt (test_last (thn (hc aa s3 σ H3 _ I3 q3) λw' s4 ⟨z',H4,I4,r4,q4⟩=>thn (ho' aa s4 σ H4 y z' u w' _ I4 r2 r4 q4) λd' s5 zz=>?_));obtain⟨z2,H5,I5,r5,k2,e2,q5⟩:=zz;subst e2;cases r5;exact dW ⟨H5,I5,q5⟩
def Bkv(K:aF)(x:V)(H:Hp)(k:Bool):Prop:=
 match x with
 |.non=>k=false
 |.bl b=>k=b
 |.int i=>k=(i != 0)
 |.str y=>y.length<=sizeLine/\k=((y.length:Int) != 0)
 |.byt y=>y.size<=sizeLine/\k=((y.size:Int) != 0)
 |.ref p=>(∃xs,SqL K H p xs/\k=!xs.isEmpty)\/(∃xs,SqT K H p xs/\k=!xs.isEmpty)\/∃kvs,H p=some (.dK kvs)/\k=!kvs.isEmpty
 |_=>False
theorem Ak2{κ:Type}{kvs:List (κ×V)}{vs:List (κ×aJ)}(r:KV kvs vs):(!vs.isEmpty)=!kvs.isEmpty:=by
 cases r <;> rfl
theorem Ab3{xs:List V}{its:List aJ}(r:Vals xs its):(!its.toArray.isEmpty)=!xs.isEmpty:=by
 cases r <;> simp
theorem Xb:(sizeLine:Nat) < 2 ^ 63:=by rw[oA];decide
theorem Bkw:Bku X (λx H Q=>∃k,Bkv X.K x H k/\Q k H):=by
 intro aa s σ H x v Q I rx h;obtain⟨k,e,q⟩:=h;have hl:=Xb;have hs:sizeLine=16777216:=oA;cases x with
 |non=>
  cases rx;have e':k=false:=e;subst e';exact truthy_none ⟨H,I,q⟩
 |bl b=>
  cases rx;have e':k=b:=e;subst e';exact dW ⟨H,I,q⟩
 |int i=>
  obtain⟨t,rfl⟩:=rx;have e':k=(i != 0):=e;subst e';exact PySem.P.truthy_int ⟨H,I,q⟩
 |str y=>
  obtain⟨t,rfl⟩:=rx;obtain⟨hy,e'⟩:y.length<=sizeLine/\k=((y.length:Int) != 0):=e;subst e';exact PySem.P.truthy_str (by omega) ⟨H,I.tok _,q⟩
 |byt y=>
  obtain⟨t,rfl⟩:=rx;obtain⟨hy,e'⟩:y.size<=sizeLine/\k=((y.size:Int) != 0):=e;subst e';exact PySem.W.truthy_bytes (by omega) ⟨H,I.tok _,q⟩
 |ref p=>
  cases rx;have e':(∃xs,SqL X.K H p xs/\k=!xs.isEmpty)\/(∃xs,SqT X.K H p xs/\k=!xs.isEmpty)\/∃kvs,H p=some (.dK kvs)/\k=!kvs.isEmpty:=e;rcases e' with ⟨xs,hx,e'⟩|⟨xs,hx,e'⟩|⟨kvs,hx,e'⟩
  .subst e';obtain⟨its,r,pl,hz⟩:=I.list hx;have hlen:=r.length;exact wpAny_truthy_list pl.isList (by simp only[bD];omega) ⟨H,I.tok _,by rw[Ab3 r];exact q⟩
  .subst e';obtain⟨its,r,pl,hz⟩:=I.tuple hx;have hlen:=r.length;exact truthy_tuple pl (by simp only[bD];omega) ⟨H,I.tok _,by rw[Ab3 r];exact q⟩
  .subst e';obtain⟨hz,hS,vs,r,m⟩:kvs.length<=sizeLine/\(p==sysModules)=false/\∃vs,KV kvs vs/\s.heap.DictOf (Fv X.prog X.w) p vs:=I.hok p _ hx;have hlen:kvs.length=vs.length:=qF r;exact wpAny_truthy_dict hS m (by omega) ⟨H,I.tok _,by rw[Ak2 r];exact q⟩
 |_=>exact(show False from e).elim
theorem Ak3:OpR X (binaryOp .Add) (λx y H Q=>∃i j,x=.str i/\y=.str j/\i.length+j.length<=sizeLine/\Q (.str (i ++ j)) H):=by
 intro aa s σ H x y v u Q I rx ry h;obtain⟨i,j,rfl,rfl,hz,q⟩:=h;obtain⟨t,rfl⟩:=rx;obtain⟨t',rfl⟩:=ry;exact add_str (λt' tk=>⟨.str (i ++ j),H,I.tok _,⟨_,rfl⟩,q⟩) hz
theorem vals1(r:Vals [x] us):∃u,us=[u]/\RelV x u:=by
 cases r with
 |cons r1 r2=>cases r2;exact⟨_,rfl,r1⟩
theorem vals2(r:Vals [x,y] us):∃u w',us=[u,w']/\RelV x u/\RelV y w':=by
 cases r with
 |cons r1 r2=>
  cases r2 with
  |cons r3 r4=>cases r4;exact⟨_,_,rfl,r1,r3⟩
theorem Api(hc:X.calm=true):Gy X (.builtin "max") (λxs H Q=>∃i j,xs=[.int i,.int j]/\Q (.int (if j > i then j else i)) H):=by
 intro aa s σ H xs us Q I r h;obtain⟨i,j,rfl,q⟩:=h;obtain⟨u,w',rfl,⟨t,rfl⟩,⟨t',rfl⟩⟩:=vals2 r;refine max_two_ints (I.ok.hd hc) λh' tk k=>⟨_,H,I.kept k,?_,q⟩;by_cases hj:j > i
 .rw[if_pos hj,if_pos hj];exact⟨_,rfl⟩
 .rw[if_neg hj,if_neg hj];exact⟨_,rfl⟩
def Bh6(K:aF)(x:V)(H:Hp)(n:Nat):Prop:=
 match x with
 |.str y=>y.length<=sizeLine/\n=y.length
 |.byt y=>y.size<=sizeLine/\n=y.size
 |.ref p=>(∃xs,SqL K H p xs/\n=xs.length)\/∃xs,SqT K H p xs/\n=xs.length
 |_=>False
theorem Asm:Gy X (.builtin "len") (λxs H Q=>∃x n,xs=[x]/\Bh6 X.K x H n/\Q (.int n) H):=by
 intro aa s σ H xs us Q I r h;obtain⟨x,n,rfl,e,q⟩:=h;obtain⟨u,rfl,rx⟩:=vals1 r;have hl:=Xb;have hs:sizeLine=16777216:=oA;cases x with
 |str y=>
  obtain⟨t,rfl⟩:=rx;obtain⟨hy,e'⟩:y.length<=sizeLine/\n=y.length:=e;subst e';exact len_str (by omega) ⟨.int _,H,I.tok _,⟨_,rfl⟩,q⟩
 |byt y=>
  obtain⟨t,rfl⟩:=rx;obtain⟨hy,e'⟩:y.size<=sizeLine/\n=y.size:=e;subst e';exact PySem.W.len_bytes (by omega) ⟨.int _,H,I.tok _,⟨_,rfl⟩,q⟩
 |ref p=>
  cases rx;have e':(∃xs,SqL X.K H p xs/\n=xs.length)\/∃xs,SqT X.K H p xs/\n=xs.length:=e;rcases e' with ⟨xs,hx,e'⟩|⟨xs,hx,e'⟩
  .subst e';obtain⟨its,r',pl,hz⟩:=I.list hx;have hlen:=r'.length;exact Calls.call_len_list pl.isList (by simp only[bD];omega) ⟨.int xs.length,H,I.tok _,⟨_,by simp only[bD];rw[hlen]⟩,q⟩
  .subst e';obtain⟨its,r',pl,hz⟩:=I.tuple hx;have hlen:=r'.length;exact len_tuple pl (by simp only[bD];omega) ⟨.int xs.length,H,I.tok _,⟨_,by simp only[bD];rw[hlen]⟩,q⟩
 |_=>exact(show False from e).elim
end
structure Bdk(h:dN)(x dx C:aQ)(mA:Str->Option aJ):Prop where
 obj:h.get? x=some (rR C dx)
 ns:h.Ns1 dx mA
 ne:dx≠x
theorem Aey{h:dN}{dx:aQ}{mA:Str->Option aJ}(n:h.Ns1 dx mA):∃od,h.get? dx=some od/\∀name,sV name od=some (mA name):=by
 obtain⟨o,es,ep,ho,hd,hk,_,hm⟩:=n;refine⟨o,ho,λname=>?_⟩;have e:=hm name;unfold nsFind findBy at e;rw[<-uT] at e;unfold sV;rw[hd];dsimp only;split
 .rename_i y q;rw[q] at e;exact congrArg some e
 .rename_i q;rw[q] at e;have a:es.toList.any (·.refKey)=false:=by
   rw[List.any_eq_false];intro y hy;obtain⟨z,t,hkey⟩:=hk y (lG.mp hy);simp[aBm,hkey]
  have a':¬ es.toList.any (·.refKey)=true:=by rw[a];exact bH
  rw[if_neg a'];exact congrArg some e
theorem Bdk.look(I:Bdk h x dx C mA):∃od,xV h x (rR C dx) C (some od)/\∀name,sV name od=some (mA name):=
 let ⟨od,ho,hl⟩:=Aey I.ns
 ⟨od,⟨I.obj,rfl,rfl,ho⟩,hl⟩
theorem Aa4.some_of(r:Aa4 (some v) o):∃u,o=some u/\RelV v u:=by
 cases o with
 |none=>exact(show False from r).elim
 |some u=>exact⟨u,rfl,r⟩
theorem Apj(r:RelV v u):PySem.W.handedIn u=true:=by
 cases v with
 |non=>cases (show u=gW from r);rfl
 |bl b=>cases (show u=uR b from r);rfl
 |int i=>obtain⟨t,e⟩:=(show ∃t,u=tR i t from r);cases e;rfl
 |str x=>obtain⟨t,e⟩:=(show ∃t,u=pD x t from r);cases e;rfl
 |byt b=>obtain⟨t,e⟩:=(show ∃t,u=aAe b t from r);cases e;rfl
 |flt b=>obtain⟨t,e⟩:=(show ∃t,u=wY b t from r);cases e;rfl
 |ref a=>cases (show u=cL a from r);rfl
 |ty n=>cases (show u=aBe n from r);rfl
section
theorem Axi(hok:HOk P w H h)(e:H a=some (.ins C dx fs)):∃mA,Bdk h a dx C mA/\(∀f,Aa4 (fs.lookup f) (mA f))/\zN mA (fs.map (·.1))/\fs.length<=1000/\H dx=some (.own a):=by
 obtain⟨d,z,ne,ob,mA,n,r,q⟩:=(show Dr P w H h a (.ins C dx fs) from hok a _ e);exact⟨mA,⟨ob,n,ne⟩,r,q,z,d⟩
end
structure Cls(K:aF)(C:aQ):Prop where
 pg:wH K C Str.empty=true
 hd:pY K C=true
 po:PySem.W.plainOver K C=true
 sa:dH K (.ref C) "__setattr__"=some (some (.builtin "object.__setattr__"))
def Cls.get{K:aF}{C:aQ}(c:Cls K C)(f:Str):wH K C f=true:=c.pg
section
theorem Axj(hb:attributeBase e f env (eval e env)=eval e env)(h:wpAny (model prog w) A (eval e env) (λo s₁=>wpAny (model prog w) A (getAttr o f true) Q E s₁) E s):wpAny (model prog w) A (eval (.Attribute e f pos) env) Q E s:=
 Attribute_any_ h (by rw[arm_eval_Attribute,hb])
end
section
def Bh7:V->V->Hp->VK->Prop:=λx y H Q=>∃i j,x=.int i/\y=.int j/\Q (.int (i+j)) H
def Bh8:V->V->Hp->VK->Prop:=λx y H Q=>∃i j,x=.int i/\y=.int j/\Q (.int (i - j)) H
end
section
inductive Xc(K:aF)(H:Hp):V->aJ->Prop where
 |non:Xc K H .non (.type "NoneType")
 |bl (x:Bool):Xc K H (.bl x) (.type "bool")
 |int (i:Int):Xc K H (.int i) (.type "int")
 |str (x:Str):Xc K H (.str x) (.type "str")
 |flt (x:UInt64):Xc K H (.flt x) (.type "float")
 |lst {a:aQ} {xs:List V} (e:H a=some (.lst xs)):Xc K H (.ref a) (.type "list")
 |frz {a:aQ} {o:Obj} {xs:List V} (e:H a=some (.frz o (.lst xs))):Xc K H (.ref a) (.type "list")
 |tup {a:aQ} {xs:List V} (e:H a=some (.tup xs)):Xc K H (.ref a) (.type "tuple")
 |dK {a:aQ} {kvs:List (Key×V)} (e:H a=some (.dK kvs)):Xc K H (.ref a) (.type "dict")
 |dT {a:aQ} {kvs:List (List Key×V)} (e:H a=some (.dT kvs)):Xc K H (.ref a) (.type "dict")
 |ins {a C dx:aQ} {fs:List (Str×V)} (e:H a=some (.ins C dx fs)) (cl:Cls K C) (ha:dH K (.ref C) "__class__"=some (some (.builtin "object.__class__")))
   (hn:pZ K (.builtin "object.__class__") "__get__"=some (some (.builtin "getset_descriptor.__get__"))) (htk:PySem.W.takesIn K (.builtin "object.__class__")=some true)
   (hm:jY K C (.type "object")=some true):Xc K H (.ref a) (.ref C)
theorem Apk(I:Inv X aa σ H s)(rx:RelV x u)(ty:Xc X.K H x t)(e:gR X.K t c=some b)(h:∀tk,Q (.bool b) { s with toks:=tk }):
  wpAny (model X.prog X.w) A (call (.builtin "isinstance") [u,c]) Q E s:=by
 cases ty with
 |non=>cases (show u=gW from rx);exact eN PySem.W.kitx_none I.kIn gK e (λz=>nomatch z) h
 |bl y=>cases (show u=uR y from rx);exact eN PySem.W.kitx_bool I.kIn gK e (λz=>nomatch z) h
 |int i=>obtain⟨t,q⟩:=(show ∃t,u=tR i t from rx);cases q;exact eN PySem.W.kitx_int I.kIn gK e (λz=>nomatch z) h
 |str y=>obtain⟨t,q⟩:=(show ∃t,u=pD y t from rx);cases q;exact eN PySem.W.kitx_str I.kIn gK e (λz=>nomatch z) h
 |flt y=>obtain⟨t,q⟩:=(show ∃t,u=wY y t from rx);cases q;exact eN PySem.W.kitx_float I.kIn gK e (λz=>nomatch z) h
 |@lst a xs ea=>
  cases (show u=cL a from rx);obtain⟨_,_,n,_,h1⟩:=(show Dr X.prog X.w H s.heap a (.lst xs) from I.hok a _ ea);exact eN vJ I.kIn ⟨_,h1,rfl⟩ e (λz=>nomatch z) h
 |@frz a ob xs ea=>
  cases (show u=cL a from rx);obtain⟨_,_,_,n,_,h1⟩:=(show Dr X.prog X.w H s.heap a (.frz ob (.lst xs)) from I.hok a _ ea);exact eN vJ I.kIn ⟨_,h1,rfl⟩ e (λz=>nomatch z) h
 |@tup a xs ea=>
  cases (show u=cL a from rx);obtain⟨_,_,_,p⟩:=(show Dr X.prog X.w H s.heap a (.tup xs) from I.hok a _ ea);obtain⟨o,h1,h2,_⟩:=p;exact eN PySem.W.kitx_tuple I.kIn ⟨o,h1,h2⟩ e (λz=>nomatch z) h
 |@dK a kvs ea=>
  cases (show u=cL a from rx);obtain⟨_,_,vs,_,p⟩:=(show Dr X.prog X.w H s.heap a (.dK kvs) from I.hok a _ ea);obtain⟨o,es,ep,h1,h2,_⟩:=p;exact eN vK I.kIn ⟨o,h1,h2.1⟩ e (λz=>nomatch z) h
 |@dT a kvs ea=>
  cases (show u=cL a from rx);obtain⟨_,_,xs,_,o,es,ep,h1,h2,_⟩:=(show Dr X.prog X.w H s.heap a (.dT kvs) from I.hok a _ ea);exact eN vK I.kIn ⟨o,h1,h2.1⟩ e (λz=>nomatch z) h
 |@ins a C dx fs ea cl ha hn htk hm=>
  cases (show u=cL a from rx);obtain⟨mA,O,_⟩:=Axi I.hok ea;obtain⟨od,J,_⟩:=O.look;exact eN (PySem.W.kitx_own (cl.get _) cl.hd ha hn htk hm) I.kIn J e (λz=>nomatch z) h
end
structure Im(k:Nat)(A:fV)(cm:Bool:=true):Prop where
 hd:cm=true->A.handled=none
 dp:A.depth+3 * k+5 < recursionLimit
 un:A.units+16 * k+200 < cLine
 gd:A.guards=some []
theorem Im.mono{j k:Nat}(r:Im k A cm)(h:j<=k):Im j A cm:=⟨r.hd,by have:=r.dp;omega,by have:=r.un;omega,r.gd⟩
theorem Im.deeper{k:Nat}(r:Im (k+1) A cm)(env:Env):Im k (A.deeper env) cm:=
 ⟨r.hd,by have:=r.dp;show A.depth+1+3 * k+5 < _;omega,by have:=r.un;show A.units+3+16 * k+200 < _;omega,r.gd⟩
theorem Ak4{A:fV}{C:aQ}{us:List aJ}{kw:List (Str×aJ)}:(A.under (.builtin "type.__call__" ⟨.ref C::us,kw⟩)).depth=A.depth+1:=by
 first|rfl|simp[vL,Code.weight,Code.isCreation,Code.isGuard,Code.isCaller,aAh,vM,guardIds]
theorem Ak5{A:fV}{C:aQ}{us:List aJ}{kw:List (Str×aJ)}:(A.under (.builtin "type.__call__" ⟨.ref C::us,kw⟩)).units=A.units+1:=by
 first|rfl|simp[vL,Code.cUnits,aAh,vM]
theorem Im.make{k:Nat}(r:Im (k+1) A cm)(C:aQ)(us:List aJ)(kw:List (Str×aJ)):Im k (A.under (.builtin "type.__call__" ⟨.ref C::us,kw⟩)) cm:=
 ⟨r.hd,by have:=r.dp;rw[Ak4];omega,by have:=r.un;rw[Ak5];omega,r.gd⟩
theorem Im.depth{k:Nat}(r:Im k A cm):A.depth < recursionLimit:=by have:=r.dp;omega
def Bh9:TA:=λ_ H Q=>Q [] H
def Bb0(ta:TE)(tr:TA):TA:=λσ H Q=>ta σ H λx H1=>tr σ H1 λxs H2=>Q (x::xs) H2
section
def Asn:PA X [] Bh9:=λ_ _ _ _ H Q I h=>Calls.spliced_nil ⟨[],H,I,.nil,h⟩
theorem Agi(ha:PE X e te)(hr:PA X es t)(hs:starEach (e::es) X.env=(false,eval e X.env)::starEach es X.env:=by rfl):PA X (e::es) (Bb0 te t):=by
 intro pos aa s σ H Q I h;rw[hs];show wpAny _ _ (spliced ((false,eval e X.env)::backTo pos (starEach es X.env))) _ _ s;refine Calls.spliced_cons (thn (ha aa s σ H _ I h) λu s1 zz=>?_);obtain⟨x,H1,I1,r1,q1⟩:=zz;exact thn (hr pos aa s1 σ H1 _ I1 q1) λus s2 ⟨xs,H2,I2,r2,q2⟩=>⟨x::xs,H2,I2,.cons r1 r2,q2⟩
def Bia(t:TA):TE:=λσ H Q=>t σ H λxs H1=>xs.length<=sizeLine/\∀p,H1 p=none->Q (.ref p) (upd H1 p (.tup xs))
def Bib(t:TA):TE:=λσ H Q=>t σ H λxs H1=>xs.length<=sizeLine/\∀p,H1 p=none->Q (.ref p) (upd H1 p (.lst xs))
theorem Bdl{x1}(h:PA X es t):PE X (.Tuple es x1 pos) (Bia t):=by
 intro aa s σ H Q I hq;refine wpAny_Tuple_spliced (thn (h pos aa s σ H _ I hq) λus s1 ⟨xs,H1,I1,r,z,q⟩=>⟨by rw[<-r.length];exact z,?_⟩)
 have hf:H1 s1.heap.objs.size=none:=I1.hok.fresh (aN _);refine⟨.ref s1.heap.objs.size,upd H1 s1.heap.objs.size (.tup xs),I1.laid (t':=s1.toks) (λb u e=>aP _ e) (aN _) ?_,rfl,q _ hf⟩;exact⟨z,us,r,⟨_,bO _ rfl,rfl,_,rfl⟩⟩
theorem Bdm(h:PA X es t):PE X (.List es pos) (Bib t):=by
 intro aa s σ H Q I hq;refine wpAny_List_spliced (thn (h pos aa s σ H _ I hq) λus s1 ⟨xs,H1,I1,r,z,q⟩=>⟨by rw[<-r.length];exact z,?_⟩)
 have hf:H1 s1.heap.objs.size=none:=I1.hok.fresh (aN _);refine⟨.ref s1.heap.objs.size,upd H1 s1.heap.objs.size (.lst xs),I1.laid (t':=s1.toks) (λb u e=>aP _ e) (aN _) ?_,rfl,q _ hf⟩;exact⟨z,us,0,r,bO _ rfl⟩
end
abbrev Sp:=List V->Hp->VK->XK->Prop
abbrev CXT:=List Env->Hp->aZ->XK->aJ->aZ->Prop
structure Ak6(P:cP)(w:dO)(K:aF)(mg:Str->Option aJ)(base:dN)(A:fV)(outer:List Env)(s:aZ)(H:Hp):Prop where
 frames:A.frames=some outer
 mod:Mod K mg base
 bs:∀b o,base.get? b=some o->s.heap.get? b=some o/\H b=none
 bsz:base.objs.size<=s.heap.objs.size
 funs:s.heap.FunFrames base outer
 frf:∀b∈frs outer,H b=none
 hok:HOk P w H s.heap
 bare:oX s.gens
def CE(outer:List Env)(P:cP)(w:dO)(H:Hp)(s:aZ)(Q:VK)(u:aJ)(s':aZ):Prop:=
 ∃v H',s'.os=s.os/\oX s'.gens/\Un (frs outer) [] H H' s.heap s'.heap/\HOk P w H' s'.heap/\RelV v u/\Q v H'
def CR(CX:CXT)(outer:List Env)(P:cP)(w:dO)(H:Hp)(s:aZ)(Q:VK)(E:XK)(r:Result)(s':aZ):Prop:=
 match r with
 |.ok (.ret u)=>CE outer P w H s Q u s'
 |.ok _=>False
 |.error e=>CX outer H s E e s'
structure Io(P:cP)(w:dO)(K:aF)(mg:Str->Option aJ)(base:dN)(CX:CXT)(k:Nat)(f:aQ)(fd:eO)(ps:List Str)(sp:Sp)(cm:Bool:=true):Prop where
 len:∀vs H Q E,sp vs H Q E->vs.length=ps.length
 run:∀(A:fV)(outer:List Env)(s:aZ)(H:Hp)(args:Args)(us:List aJ)(vs:List V)(Q:VK)(E:XK),Im k A cm->Ak6 P w K mg base A outer s H->vN s fd args (ps.zip us)->Vals vs us->sp vs H Q E->
  codeAny (model P w) A (.call (.ref f) args) (CR CX outer P w H s Q E) s
theorem Io.mono{P:cP}{w:dO}{K:aF}{mg:Str->Option aJ}{base:dN}{CX:CXT}{j k:Nat}{f:aQ}{fd:eO}{ps:List Str}{sp:Sp}{cm:Bool}(F:Io P w K mg base CX j f fd ps sp cm)(h:j<=k):
  Io P w K mg base CX k f fd ps sp cm:=⟨F.len,λA outer s H args us vs Q E hr=>F.run A outer s H args us vs Q E (hr.mono h)⟩
theorem Ak6.make{P:cP}{w:dO}{K:aF}{mg:Str->Option aJ}{base:dN}{A:fV}{outer:List Env}{s:aZ}{H:Hp}(e:Ak6 P w K mg base A outer s H)(C:aQ)(us:List aJ)(kw:List (Str×aJ)):
  Ak6 P w K mg base (A.under (.builtin "type.__call__" ⟨.ref C::us,kw⟩)) outer s H:=⟨by first|exact e.frames|(simpa [vL,Code.envs,vM,pushEnvs] using e.frames),e.mod,e.bs,e.bsz,e.funs,e.frf,e.hok,e.bare⟩
section
theorem Inv.env0(I:Inv X aa σ H s):Ak6 X.prog X.w X.K X.mg X.base X.A X.stack s H:=
 ⟨I.ok.frames,I.ok.mod,I.bs,aD I.ok.bsz I.sz,I.stack,I.stkFree,I.hok,I.bare⟩
theorem Inv.after(I:Inv X aa σ H s)(h:CE X.stack X.prog X.w H s Q u s'):EP X aa σ Q u s':=by
 obtain⟨v,H',os,bare,un,hok,r,q⟩:=h;obtain⟨hh,g,d,t,os'⟩:=s';obtain rfl:os'=s.os:=os;exact⟨v,H',I.call (h':=hh) (g':=g) (d':=d) (t':=t) (ch:=[]) un hok bare (λb z=>absurd z (by simp)),r,q⟩
end
def Binds(K:aF)(fd:eO)(ps:List Str)(ds:List aJ):Prop:=
 ∀(s:aZ)(us:List aJ),K.In s.heap->(us ++ ds).length=ps.length->vN s fd ⟨us,[]⟩ (ps.zip (us ++ ds))
theorem Binds.all{K:aF}{fd:eO}{ps:List Str}(h:∀us:List aJ,us.length=ps.length->bindArgs fd ⟨us,[]⟩=pure (ps.zip us)):Binds K fd ps []:=λs us _ hl=>by
 rw[bJ] at hl ⊢
 exact .of_eq (h us hl)
def Bdn(CX:CXT)(X:Cx)(E:XK):Prop:=∀(aa:List (aQ×Obj))(σ:St)(H:Hp)(s:aZ)(e:aJ)(s':aZ),Inv X aa σ H s->CX X.stack H s E e s'->X.xe e s'
structure Hf(N P:List Str)(sc:kW):Prop where
 kind:sc.kind=.function
 co:sc.isCoroutine=false
 gen:sc.isGenerator=false
 nd:N.Nodup
 pre:N.take P.length=P
 par:∀x∈P,sc.names.lookup x=some .local\/sc.names.lookup x=some .cell
 nofree:∀y∈sc.names,y.2≠.free
theorem Aez{kindOf:Str->Option lH}{x:Str}:∀{binds:List (Str×aJ)} {m:Str->Option aJ},(∀v,(x,v)∉binds)->bindL kindOf binds m x=m x
 |[],_,_=>rfl
 |(n,v)::r,m,h=>by
  unfold bindL;rw[Aez λw hw=>h w (aM _ hw)];split
  .have:x≠n:=by rintro rfl;exact h v aH
   simp[this]
  .rfl
theorem Ae0{kindOf:Str->Option lH}{x:Str}:∀{binds:List (Str×aJ)} {m:Str->Option aJ},(∀v,(x,v)∉binds)->bindC kindOf binds m x=m x
 |[],_,_=>rfl
 |(n,v)::r,m,h=>by
  unfold bindC;rw[Ae0 λw hw=>h w (aM _ hw)];split
  .rfl
  .have:x≠n:=by rintro rfl;exact h v aH
   simp[this]
theorem Ae1{kindOf:Str->Option lH}{x:Str}{v:aJ}:∀{P:List Str} {vs:List aJ} {i:Nat} {m:Str->Option aJ},P.Nodup->P[i]?=some x->vs[i]?=some v->kindOf x=some .local->
  bindL kindOf (P.zip vs) m x=some v
 |[],_,_,_,_,h,_,_=>by simp at h
 |_::_,[],_,_,_,_,h,_=>by simp at h
 |p::P,w::vs,0,m,nd,h1,h2,hk=>by
  simp at h1 h2;subst h1;subst h2;show bindL kindOf ((p,w)::P.zip vs) m p=_;unfold bindL;rw[Aez λv hv=>(jV.mp nd).1 (rW hv).1,if_pos hk];simp
 |p::P,w::vs,i+1,m,nd,h1,h2,hk=>by
  show bindL kindOf ((p,w)::P.zip vs) m x=_;unfold bindL;exact Ae1 (i:=i) (jV.mp nd).2 (by simpa using h1) (by simpa using h2) hk
theorem Ae2{kindOf:Str->Option lH}{x:Str}{v:aJ}:∀{P:List Str} {vs:List aJ} {i:Nat} {m:Str->Option aJ},P.Nodup->P[i]?=some x->vs[i]?=some v->kindOf x≠some .local->
  bindC kindOf (P.zip vs) m x=some v
 |[],_,_,_,_,h,_,_=>by simp at h
 |_::_,[],_,_,_,_,h,_=>by simp at h
 |p::P,w::vs,0,m,nd,h1,h2,hk=>by
  simp at h1 h2;subst h1;subst h2;show bindC kindOf ((p,w)::P.zip vs) m p=_;unfold bindC;rw[Ae0 λv hv=>(jV.mp nd).1 (rW hv).1,if_neg hk];simp
 |p::P,w::vs,i+1,m,nd,h1,h2,hk=>by
  show bindC kindOf ((p,w)::P.zip vs) m x=_;unfold bindC;exact Ae2 (i:=i) (jV.mp nd).2 (by simpa using h1) (by simpa using h2) hk
noncomputable def start(N:List Str)(vs:List V):St:=vs.map some ++ bG (N.length - vs.length) none
noncomputable def Vd(CX:CXT)(P:cP)(w:dO)(K:aF)(mg:Str->Option aJ)(base:dN)(N:List Str)(aj:Str)(scope:kW)(f:aQ)(cd:aJ)(A:fV)(outer:List Env)(s:aZ)(H:Hp)(E:XK)(cm:Bool:=true):Cx where
 prog:=P
 w:=w
 K:=K
 mg:=mg
 base:=base
 A:=A.deeper (envOfC aj scope s.heap.objs.size f cd)
 N:=N
 s₀:=s
 H₀:=H
 env:=envOfC aj scope s.heap.objs.size f cd
 outer:=outer
 stack:=envOfC aj scope s.heap.objs.size f cd::outer
 ex:=[]
 calm:=cm
 fn:=λ_=>true
 pn:=[]
 xe:=λe s'=>wpAny (model P w) (A.deeper (envOfC aj scope s.heap.objs.size f cd)) (leaving (envOfC aj scope s.heap.objs.size f cd) e) (λ_ s''=>CX outer H s E e s'') (λe' s''=>CX outer H s E e' s'') s'
theorem Aif{sc:kW}{n:Nat}{x:Str}(h:sc.names.lookup x=some .cell):∃c,(cellsFrom n sc.names []).lookup x=some c:=by
 have q:=qZ sc.names n [] (.inl h);exact mK.mp q
theorem Apl{cm:Bool}{CX:CXT}{P:cP}{w:dO}{K:aF}{mg:Str->Option aJ}{base:dN}{N ps:List Str}{aj:Str}{scope:kW}{f:aQ}{cd:aJ}{A:fV}{outer:List Env}{s s1:aZ}{H:Hp}{E:XK}{us:List aJ}{vs:List V}(S:Hf N ps scope)(hd:cm=true->A.handled=none)(e0:Ak6 P w K mg base A outer s H)(hl:vs.length=ps.length)(r:Vals vs us)(x:InCallC s s.heap.objs.size (bindL (envOfC aj scope s.heap.objs.size f cd).kindOf (ps.zip us) λ_=>none) (cellsFrom (s.heap.objs.size+1) scope.names []) (bindC (envOfC aj scope s.heap.objs.size f cd).kindOf (ps.zip us) λ_=>none) s1):
  Inv (Vd CX P w K mg base N aj scope f cd A outer s H E cm) [] (start N vs) H s1:=by
 have hpl:ps.length<=N.length:=by have:=congrArg mW S.pre;rw[eQ] at this;omega
 obtain⟨h1,tk,rfl,hk⟩:=x.done;have noA:∀b:aQ,b∉(Vd CX P w K mg base N aj scope f cd A outer s H E cm).ex:=λb z=>absurd (show b∈([]:List aQ) from z) (by simp)
 refine⟨⟨e0.mod,S.kind,rfl,rfl,aN _,λy z c h1 h2=>?_,λy hy=>?_,λy c _ h=>?_,hd,Around.frames_deeper e0.frames,.inr ⟨rfl,rfl⟩,λb z=>absurd z (noA b),e0.bs,e0.bsz,λb _ _=>noA b,λb z=>absurd z (noA b),e0.funs,e0.frf⟩,
  rfl,e0.bare,Un.kept hk,⟨_,x.toInCall.ns,λi y v h1 h2 h3=>?_⟩,λy c h=>⟨_,x.cell y c h⟩,e0.hok.fresh (aN _),λy c h=>?_,λp hp=>absurd (show p∈([]:List (aQ×Obj)) from hp) (by simp),e0.hok.kept hk,?_⟩
 .exact name_of_addr x.apart (iD h1) (iD h2)
 .have hy:scope.names.lookup y=some .cell\/scope.names.lookup y=some .free:=hy;rcases hy with hy|hy
  .exact Aif hy
  .exact absurd rfl (S.nofree _ (iD hy))
 .exact lU (x.above y c (iD h))
 .have hi:i < vs.length:=by
   unfold start at h2;by_cases hi:i < vs.length
   .exact hi
   .rw[bC (by simpa using hi)] at h2
    rw[jL] at h2;split at h2 <;> cases h2
  have ha:vs[i]?=some v:=by
   unfold start at h2;rw[aY (by simpa using hi),cB] at h2
   cases e:vs[i]? with
   |none=>rw[e] at h2;cases h2
   |some a=>rw[e] at h2;cases h2;rfl
  obtain⟨u,hu,rv⟩:=r.get ha;have hp:ps[i]?=some y:=by
   rw[<-S.pre,qG (by omega)];exact h1
  have ndP:ps.Nodup:=by rw[<-S.pre];exact S.nd.sublist (kZ _ _)
  refine⟨u,rv,?_⟩;rcases S.par y (gU hp) with k|k
  .exact .inl ⟨k,Ae1 ndP hp hu k⟩
  .obtain⟨c,e⟩:=Aif (n:=s.heap.objs.size+1) k;refine .inr ⟨.inl k,c,e,?_⟩;have q:=x.cell y c e;rw[Ae2 ndP hp hu (by show scope.names.lookup y≠_;rw[k];decide)] at q
   exact q
 .exact e0.hok.fresh (lU (x.above y c (iD h)))
 .unfold start;show _=N.length;rw[aK,aA,fB];omega
theorem Bic{cm:Bool}{CX:CXT}{P:cP}{w:dO}{K:aF}{mg:Str->Option aJ}{base:dN}{k:Nat}{f:aQ}{name aj:Str}{params:Arguments}{body:List dG}{scope:kW}{dV kV doc pm cdv ct oc:aJ}{an od:Option aQ}{osl:Array (Option aJ)}{N ps:List Str}{sp:Sp}(lk:K.lookup f=some ⟨oc,od,.func (dD name aj params body scope dV kV doc pm an cdv ct),osl⟩)(hcd:lJ K cdv aj=true)(S:Hf N ps scope)(len:∀vs H Q E,sp vs H Q E->vs.length=ps.length)(hbody:∀(A:fV)(outer:List Env)(s:aZ)(H:Hp)(vs:List V)(Q:VK)(E:XK),Im k (A.deeper (envOfC aj scope s.heap.objs.size f cdv)) cm->sp vs H Q E->
   ∃t,PSs (Vd CX P w K mg base N aj scope f cdv A outer s H E cm) body t/\t { nx:=λ_ H'=>Q .non H',rt:=Q } (start N vs) H):
  Io P w K mg base CX (k+1) f (dD name aj params body scope dV kV doc pm an cdv ct) ps sp cm:=by
 refine⟨len,λA outer s H args us vs Q E hr e0 hb r hsp=>?_⟩;have hl:=len _ _ _ _ hsp;have KX:K.In s.heap:=e0.mod.kin.keeps λb o e=>(e0.bs b o e).1;have lim:s.heap.NoLimit:=e0.mod.nolimit.keeps λb o e=>(e0.bs b o e).1;have az:∀y∈ps.zip us,scope.names.lookup y.1=some .local\/(scope.names.lookup y.1=some .cell/\((cellsFrom (s.heap.objs.size+1) scope.names []).lookup y.1).isSome=true):=λzz hy=>by
  obtain⟨n,v⟩:=zz;rcases S.par n (rW hy).1 with q|q
  .exact .inl q
  .exact .inr ⟨q,qZ _ _ _ (.inl q)⟩
 refine codeAny_call_function hr.depth (KX _ _ lk) rfl S.co S.gen rfl (PySem.W.codeRec_of KX hcd) (hb _ _ _ _ ?_);refine wpAny_newFunctionEnv_cells S.kind az λenv he s1 x=>?_;subst he;refine⟨lim.keeps x.toInCall.keep,codeAny_func ?_⟩;obtain⟨t,ht,hq⟩:=hbody A outer s H vs Q E (hr.deeper _) hsp;have I:Inv (Vd CX P w K mg base N aj scope f cdv A outer s H E cm) [] (start N vs) H s1:=Apl S hr.hd e0 hl r x;refine fW (ht [] s1 (start N vs) H _ I hq) (λfl s' hs=>?_) λe s' hs=>hs;have fin:∀{σ':St} {H':Hp} {v:V} {u:aJ},Inv (Vd CX P w K mg base N aj scope f cdv A outer s H E cm) [] σ' H' s'->RelV v u->Q v H'->CE outer P w H s Q u s':=
  λ{σ' H' v u} J rv q=>⟨v,H',J.os,J.bare,J.base,J.hok,rv,q⟩
 cases fl with
 |ret u=>
  obtain⟨v,σ',H',J,rv,q⟩:=hs;exact fin J rv q
 |next=>
  obtain⟨σ',H',J,q⟩:=hs;exact fin (v:=V.non) (u:=gW) J rfl q
 |brk=>
  obtain⟨_,_,_,q⟩:=hs;exact fG q
 |cont=>
  obtain⟨_,_,_,q⟩:=hs;exact fG q
section
def tCB(r:List V->Hp->VK->Prop)(t:TA):TE:=λσ H Q=>t σ H λvs H1=>r vs H1 Q
theorem Aso{X:Cx}{x:Str}{p pos:Pos}{e:cA}{es:List cA}{t:TA}{id:String}{r:List V->Hp->VK->Prop}(hc:Gy X (.builtin id) r)(hg:Gl X x)(hm:X.mg x=none)(hv:bootBuiltins x=some (.builtin id))(ha:PA X (e::es) t)(hn:x≠"__name__":=by decide)(hdb:(x==("__debug__":Str))=false:=by decide)(he:starEach (e::es) X.env=(false,eval e X.env)::starEach es X.env:=by rfl)(hpl:(backTo pos (starEach es X.env)).any (·.1)=false:=by rfl):PE X (.Call (.Name x p) (e::es) [] pos) (tCB r t):=by
 intro aa s σ H Q I h;refine jP (Ab0 I hg hm hv ?_ hn hdb);exact wI (thn (ha pos aa s σ H _ I h) λus s1 ⟨vs,H1,I1,r1,q1⟩=>hc aa s1 σ H1 vs us Q I1 r1 q1) he hpl
theorem Apm(hc:Gy X (.type T) r)(hg:Gl X x)(hm:X.mg x=none)(hv:bootBuiltins x=some (.type T))(ha:PA X (e::es) t)(hn:x≠"__name__":=by decide)(hdb:(x==("__debug__":Str))=false:=by decide)(he:starEach (e::es) X.env=(false,eval e X.env)::starEach es X.env:=by rfl)(hpl:(backTo pos (starEach es X.env)).any (·.1)=false:=by rfl):PE X (.Call (.Name x p) (e::es) [] pos) (tCB r t):=by
 intro aa s σ H Q I h;refine jP (Ab0 I hg hm hv ?_ hn hdb);exact kY (thn (ha pos aa s σ H _ I h) λus s1 ⟨vs,H1,I1,r1,q1⟩=>hc aa s1 σ H1 vs us Q I1 r1 q1) he hpl
end
end L2
namespace HT
open PySem PyProof.Rows
section
open PySem.SeqAt
open PySem.AutoSeq1 (wpAny_loadPart')
open PySem.MeetsSeq PySem.MeetsSeq2 PySem.MeetsSeq3
end
section
theorem cat_tup(ht:vH s.heap t vs.toArray)(hb:vH s.heap b ws.toArray)(hv:vs≠[])(h1:ws=[]->Q (.ref t) s)(h2:ws≠[]->Q (.ref s.heap.objs.size) { s with heap:=s.heap.push { cls:=.type "tuple",data:=.seq (vs ++ ws).toArray } })(hsz:vs.length+ws.length<=sizeLine):wpAny (model prog w) A (binaryOp .Add (.ref t) (.ref b)) Q E s:=by
 obtain⟨⟨cls,dd,data,sl⟩,ho,hc,n,hd⟩:=id ht;obtain⟨⟨cls2,dd2,data2,sl2⟩,ho2,hc2,n2,hd2⟩:=id hb;simp only at hc hd hc2 hd2;subst hc hd hc2 hd2;have e:vs.toArray ++ ws.toArray=(vs ++ ws).toArray:=by simp
 by_cases hw:ws=[]
 .exact vO ⟨_,ho,rfl⟩ ⟨_,ho2,rfl⟩ qP uE nA mX (mL _ _)
   (tuple_addW1 t b vs.toArray ws.toArray n n2 dd dd2 sl sl2 (by simpa using hv) (by simp[hw])) ⟨ho,ho2,h1 hw⟩
 .refine vO ⟨_,ho,rfl⟩ ⟨_,ho2,rfl⟩ qP uE nA mX (mL _ _)
   (tuple_addW2 t b vs.toArray ws.toArray n n2 dd dd2 sl sl2 (by simpa using hv) (by simpa using hw) (by rw[bD,bD];exact hsz)) ⟨ho,ho2,?_⟩
  rw[e];exact h2 hw
noncomputable def sIx(n d:Nat):Option Int->Nat
 |none=>d
 |some v=>if v < 0 then (v+(n:Int)).toNat else min v.toNat n
theorem sIx_nat(n d k:Nat):sIx n d (some (k:Int))=min k n:=by
 show (if (k:Int) < 0 then ((k:Int)+(n:Int)).toNat else min (k:Int).toNat n)=min k n
 rw[if_neg (by omega),cV]
theorem Bdo(n d:Nat)(hd:d<=n)(o:Option Int):sIx n d o<=n:=by
 cases o with
 |none=>exact hd
 |some v=>
  show (if v < 0 then (v+(n:Int)).toNat else min v.toNat n)<=n
  by_cases hv:v < 0
  .rw[if_pos hv];omega
  .rw[if_neg hv];exact wJ _ _
theorem Ani(v:Int)(n d:Nat):(if v < 0 then max (v+(n:Int)) 0 else min v (n:Int))=((sIx n d (some v):Nat):Int):=by
 show (if v < 0 then max (v+(n:Int)) 0 else min v (n:Int))=(((if v < 0 then (v+(n:Int)).toNat else min v.toNat n):Nat):Int)
 by_cases hv:v < 0
 .simp only[if_pos hv];omega
 .simp only[if_neg hv];omega
theorem Ak7(lo hi:Option Int)(n:Nat):mH lo hi 1 (n:Int)=(((sIx n 0 lo:Nat):Int),((sIx n n hi:Nat):Int)):=by
 have h1:¬ ((1:Int) < 0):=by omega
 unfold mH;simp only[h1,if_false];refine Prod.ext ?_ ?_
 .cases lo with
  |none=>rfl
  |some v=>exact Ani v n 0
 .cases hi with
  |none=>rfl
  |some v=>exact Ani v n n
theorem Ak8(i j:Nat):dY (i:Int) (j:Int) 1=j - i:=by
 unfold dY;have h1:(1:Int) > 0:=by omega
 simp only[h1,if_true,nC];split <;> omega
theorem Ve{o:Option Int}{Q:Option Int->aZ->Prop}(p:rA v o)(h:Q o s):wpAny (model prog w) A (xH v) Q E s:=by
 cases p with
 |none=>exact pK h
 |int i t=>exact slicePart_int h
theorem Mt{lo hi:Option Int}{n:Nat}{Q:Int×Int×Nat->aZ->Prop}(hs:s.heap.IsSliceOf sl vl vu .none)(pl:rA vl lo)(pu:rA vu hi)(h:Q (((sIx n 0 lo:Nat):Int),1,sIx n n hi - sIx n 0 lo) s):wpAny (model prog w) A (iT (.ref sl) (pure (n:Int))) Q E s:=by
 obtain⟨os,hos,hcs,hds⟩:=id hs;unfold iT pR;refine aB (aB (dF hos hds (x:=vl) rfl (aB (dF hos hds (x:=vu) rfl (aB (dF hos hds (x:=.none) rfl (aV ?_)))))));refine aB (pK ?_);show wpAny _ _ (if ((1:Int)==0)=true then _ else _) _ _ s
 rw[if_neg (by decide)]
 refine aB (Ve pl (aB (Ve pu (aB (aV ?_)))));show wpAny _ _ (match mH lo hi 1 (n:Int) with|(lo,hi)=>pure (lo,(1:Int),dY lo hi 1)) _ _ s
 rw[Ak7 lo hi n];show wpAny _ _ (pure (((sIx n 0 lo:Nat):Int),(1:Int),dY ((sIx n 0 lo:Nat):Int) ((sIx n n hi:Nat):Int) 1)) _ _ s;rw[Ak8];exact aV h
theorem Aig(xs:Array aJ)(i k:Nat):((bR k).filterMap λ(m:Nat)=>xs[((i:Int)+(m:Int) * 1).toNat]?).toArray=((xs.toList.drop i).take k).toArray:=by
 have e:(λ(m:Nat)=>xs[((i:Int)+(m:Int) * 1).toNat]?)=λm=>xs[i+m]?:=by
  funext m;have:((i:Int)+(m:Int) * 1).toNat=i+m:=by omega
  rw[this]
 rw[e];have:=pick_run xs i k;rw[List.filterMap_map] at this;have e2:((λx=>xs[x]?) ∘ λx=>i+x)=λm=>xs[i+m]?:=rfl;rw[e2] at this;rw[this]
theorem getItem_tuple_cut{lo hi:Option Int}(ht:vH s.heap t items)(hs:s.heap.IsSliceOf sl vl vu .none)(pl:rA vl lo)(pu:rA vu hi)(hw:¬ (sIx items.size 0 lo=0/\sIx items.size items.size hi=items.size))(h:Q (.ref s.heap.objs.size) { s with heap:=s.heap.push { cls:=.type "tuple",data:=.seq ((items.toList.drop (sIx items.size 0 lo)).take (sIx items.size items.size hi - sIx items.size 0 lo)).toArray } })(hsz:items.size<=sizeLine):wpAny (model prog w) A (getItem (.ref t) (.ref sl)) Q E s:=by
 have htake:sizeOk (.seq ((items.toList.drop (sIx items.size 0 lo)).take (sIx items.size items.size hi - sIx items.size 0 lo)).toArray):=by
  show ((items.toList.drop (sIx items.size 0 lo)).take (sIx items.size items.size hi - sIx items.size 0 lo)).toArray.size<=sizeLine;rw[bD,eQ,cD,cN];omega
 have hj:sIx items.size items.size hi<=items.size:=Bdo _ _ (aN _) hi;obtain⟨os,hos,hcs,hds⟩:=id hs;have hTs:s.TypeIs (.ref sl) "slice":=⟨os,hos,hcs⟩;unfold getItem
 try with_reducible refine jZ ?_
 first|refine aB (aV ?_)|skip
 refine aB (qC ht.typeIs (by decide) ?_)
 refine aB (fC (name:=fX "__getitem__") ht.typeIs cM
  (fQ cM ht.typeIs oO ?_ (pL _ _)))
 show wpAny _ _ (lK (.ref t) >>= _) _ _ s;refine aB (tupleItemsOf_ ht ?_);refine aB (oY hTs ?_);rw[if_pos (by decide)]
 refine aB (Mt hs pl pu ?_);have hno:¬ ((((sIx items.size 0 lo:Nat):Int)==0&&(1:Int)==1&&(sIx items.size items.size hi - sIx items.size 0 lo)==items.size)=true):=by
  intro q;rw[aC,aC] at q;have q1:((sIx items.size 0 lo:Nat):Int)=0:=eq_of_beq q.1.1;have q2:sIx items.size items.size hi - sIx items.size 0 lo=items.size:=eq_of_beq q.2;exact hw ⟨by omega,by omega⟩
 show wpAny _ _ (if (((sIx items.size 0 lo:Nat):Int)==0&&(1:Int)==1&&(sIx items.size items.size hi - sIx items.size 0 lo)==items.size)=true then _ else _) _ _ s
 rw[if_neg hno,Aig]
 first
  |exact aB (m:=dR _) (dI (aV ⟨_,rfl,aV h⟩) htake)
  |exact aB (m:=dR _) (dI (aB (aV (aV ⟨_,rfl,aV h⟩))) htake)
  |exact aB (aB (m:=dR _) (dI (aV (aV ⟨_,rfl,aV h⟩)) htake))
  |exact aB (aB (m:=dR _) (dI (aV ⟨_,rfl,aV h⟩) htake))
end
end HT
namespace L2
open PySem PySem.Spec PyProof.Rows
abbrev TO:=St->Hp->(Option Int->Hp->Prop)->Prop
def PO(X:Cx)(e:Option cA)(t:TO):Prop:=
 ∀(aa:List (aQ×Obj))(s:aZ)(σ:St)(H:Hp)(Q:Option Int->Hp->Prop),Inv X aa σ H s->t σ H Q->
  wpAny (model X.prog X.w) X.A (evalPart e X.env) (λu s'=>∃o H',Inv X aa σ H' s'/\rA u o/\Q o H') X.xe s
def Anj:TO:=λ_ H Q=>Q none H
def Bb1(t:TE):TO:=λσ H Q=>t σ H λx H1=>∃i,x=.int i/\Q (some i) H1
theorem intsAre_of{ns:List Int}:∀{us:List aJ},Vals (ns.map V.int) us->tU us ns:=by
 induction ns with
 |nil=>intro us r;rw[cT] at r;cases r;exact .nil
 |cons n ns ih=>
  intro us r;rw[aG] at r;cases r with
  |cons r1 r2=>
   obtain⟨t,e⟩:=r1;subst e;exact .cons n t (ih r2)
section
theorem Axk:PO X none Anj:=by
 intro aa s σ H Q I h;rw[uF];exact aV ⟨none,H,I,.none,h⟩
theorem Axl(h:PE X e te):PO X (some e) (Bb1 te):=by
 intro aa s σ H Q I hw;rw[evalPart_some];refine thn (h aa s σ H _ I hw) λu s1 zz=>?_;obtain⟨x,H1,I1,r1,q1⟩:=zz;obtain⟨i,rfl,q⟩:=q1;obtain⟨t,rfl⟩:=r1;exact⟨some i,H1,I1,.int i t,q⟩
def SlR(X:Cx)(r:V->Option Int->Option Int->Hp->VK->Prop):Prop:=
 ∀(aa:List (aQ×Obj))(s:aZ)(σ:St)(H:Hp)(x:V)(v vl vu:aJ)(lo hi:Option Int)(sl:aQ)(Q:VK),Inv X aa σ H s->RelV x v->s.heap.IsSliceOf sl vl vu .none->rA vl lo->rA vu hi->r x lo hi H Q->
  ∃T id,typeLookup (.type T) "__getitem__"=pure (some (.builtin id))/\s.TypeIs v T/\wpAny (model X.prog X.w) X.A (getItem v (.ref sl)) (EP X aa σ Q) X.xe s
theorem SlR.or{r r':V->Option Int->Option Int->Hp->VK->Prop}(h:SlR X r)(h':SlR X r'):SlR X (λx lo hi H Q=>r x lo hi H Q\/r' x lo hi H Q):=by
 intro aa s σ H x v vl vu lo hi sl Q I rx hs pl pu q;rcases q with q|q
 .exact h aa s σ H x v vl vu lo hi sl Q I rx hs pl pu q
 .exact h' aa s σ H x v vl vu lo hi sl Q I rx hs pl pu q
def tSl(r:V->Option Int->Option Int->Hp->VK->Prop)(te:TE)(tl th:TO):TE:=λσ H Q=>te σ H λx H1=>tl σ H1 λl H2=>th σ H2 λu H3=>r x l u H3 Q
theorem Asp{X:Cx}{e:cA}{te:TE}{lo hi:Option cA}{tl th:TO}{pos p2:Pos}{r:V->Option Int->Option Int->Hp->VK->Prop}(hr:SlR X r)(he:PE X e te)(hl:PO X lo tl)(hu:PO X hi th):PE X (.Subscript e (.Slice lo hi none p2) pos) (tSl r te tl th):=by
 intro aa s σ H Q I h;refine xW (thn (he aa s σ H _ I h) λv s1 zz=>?_);obtain⟨x,H1,I1,r1,q1⟩:=zz;refine wpAny_Slice (thn (hl aa s1 σ H1 _ I1 q1) λvl s2 ⟨l,H2,I2,pl,q2⟩=>thn (hu aa s2 σ H2 _ I2 q2) λvu s3 zz=>?_);obtain⟨u,H3,I3,pu,q3⟩:=zz;rw[uF];refine aV ?_;have I4:Inv X aa σ H3 { s3 with heap:=s3.heap.push { cls:=.type "slice",data:=.fields #[vl,vu,.none] } }:=I3.kept (t':=s3.toks) λb ob q=>aP _ q
 obtain⟨T,id,hT,ht,hg⟩:=hr aa { s3 with heap:=s3.heap.push { cls:=.type "slice",data:=.fields #[vl,vu,.none] } } σ H3 x v vl vu l u s3.heap.objs.size Q I4 r1 (uU ..) pl pu q3;show wpAny (model X.prog X.w) X.A (subscriptTail e (.Slice lo hi none p2) v (.ref s3.heap.objs.size)) (EP X aa σ Q) X.xe { s3 with heap:=s3.heap.push { cls:=.type "slice",data:=.fields #[vl,vu,.none] } }
 exact xX (ops:=[.ref s3.heap.objs.size,v]) ht hT hg (by with_unfolding_all rfl)
def Aeh(xs:List V)(lo hi:Option Int):List V:=(xs.drop (HT.sIx xs.length 0 lo)).take (HT.sIx xs.length xs.length hi - HT.sIx xs.length 0 lo)
theorem Aaf(xs:List V)(lo hi:Option Int):(Aeh xs lo hi).length<=xs.length:=by
 unfold Aeh;rw[eQ,cD];omega
def Bid(K:aF):V->Option Int->Option Int->Hp->VK->Prop:=λx lo hi H Q=>∃a xs,x=.ref a/\SqT K H a xs/\
 ¬ (HT.sIx xs.length 0 lo=0/\HT.sIx xs.length xs.length hi=xs.length)/\∀p,H p=none->Q (.ref p) (upd H p (.tup (Aeh xs lo hi)))
theorem Bdp:SlR X (Bid X.K):=by
 intro aa s σ H x v vl vu lo hi sl Q I rx hs pl pu h;obtain⟨a,xs,rfl,hx,hw,q⟩:=h;cases rx;obtain⟨its,r,ht,hz⟩:=I.tuple hx;have hlen:its.toArray.size=xs.length:=by rw[bD];exact r.length.symm
 refine⟨"tuple",_,cM.lookup,ht.typeIs,?_⟩;refine HT.getItem_tuple_cut ht hs pl pu (by rw[hlen];exact hw) ?_ (by rw[hlen];exact hz)
 rw[hlen];refine⟨.ref s.heap.objs.size,_,I.laid (t':=s.toks) (o:=.tup (Aeh xs lo hi)) (λb ob q=>aP _ q) (aN _) ?_,rfl,q _ (I.hok.fresh (aN _))⟩;exact⟨aD (Aaf xs lo hi) hz,_,(r.drop (HT.sIx xs.length 0 lo)).take (HT.sIx xs.length xs.length hi - HT.sIx xs.length 0 lo),wK _ _⟩
def Bb2(K:aF):R2:=λx y H Q=>∃a b xs ys,x=.ref a/\y=.ref b/\SqT K H a xs/\SqT K H b ys/\xs≠[]/\xs.length+ys.length<=sizeLine/\
 (ys=[]->Q (.ref a) H)/\(ys≠[]->∀p,H p=none->Q (.ref p) (upd H p (.tup (xs ++ ys))))
theorem Vals.nil_iff(r:Vals xs us):us=[] ↔ xs=[]:=by
 cases r with
 |nil=>simp
 |cons _ _=>simp
theorem Axm:OpR X (binaryOp .Add) (Bb2 X.K):=by
 intro aa s σ H x y v u Q I rx ry h;obtain⟨a,b,xs,ys,rfl,rfl,ha,hb,hx,hz,q1,q2⟩:=h;cases rx;cases ry;obtain⟨its,r1,p1,_⟩:=I.tuple ha;obtain⟨its2,r2,p2,_⟩:=I.tuple hb;refine HT.cat_tup p1 p2 (λz=>hx (r1.nil_iff.mp z)) (λz=>⟨.ref a,H,I,rfl,q1 (r2.nil_iff.mp z)⟩) (λz=>?_) (by rw[<-r1.length,<-r2.length];exact hz)
 refine⟨.ref s.heap.objs.size,_,I.laid (t':=s.toks) (o:=.tup (xs ++ ys)) (λb ob q=>aP _ q) (aN _) ?_,rfl,q2 (λw=>z (r2.nil_iff.mpr w)) _ (I.hok.fresh (aN _))⟩;exact⟨by rw[aK];exact hz,_,r1.append r2,wK _ _⟩
end
noncomputable def ixN(n:Nat)(i:Int):Option Nat:=if 0<=i then (if i < n then some i.toNat else none) else if -(n:Int)<=i then some (i+n).toNat else none
def atI{α:Type}(xs:List α)(i:Int):Option α:=(ixN xs.length i).bind λj=>xs[j]?
theorem Ank{n:Nat}{i:Int}{j:Nat}(h:ixN n i=some j):seqIndex? i n=some j/\j < n/\-(n:Int)<=i/\i < n:=by
 unfold ixN at h;by_cases h0:0<=i
 .rw[if_pos h0] at h;by_cases h1:i < n
  .rw[if_pos h1] at h;have e:i.toNat=j:=bV h;exact⟨by rw[seqIndex_of h0 h1,e],by omega,by omega,h1⟩
  .rw[if_neg h1] at h;cases h
 .rw[if_neg h0] at h;by_cases h1:-(n:Int)<=i
  .rw[if_pos h1] at h;have e:(i+n).toNat=j:=bV h;exact⟨by rw[zP (by omega) h1,e],by omega,h1,by omega⟩
  .rw[if_neg h1] at h;cases h
theorem Agj{α:Type}{xs:List α}{i:Int}{v:α}(h:atI xs i=some v):∃j,seqIndex? i xs.length=some j/\xs[j]?=some v/\j < xs.length/\-(xs.length:Int)<=i/\i < xs.length:=by
 unfold atI at h;cases e:ixN xs.length i with
 |none=>rw[e] at h;cases h
 |some j=>
  rw[e] at h;obtain⟨h1,h2,h3,h4⟩:=Ank e;exact⟨j,h1,h,h2,h3,h4⟩
theorem Abf{α:Type}{xs:List α}{j:Nat}{v:α}(h:xs[j]?=some v):atI xs (j:Int)=some v:=by
 have hj:j < xs.length:=(aL.mp h).1;have e:ixN xs.length (j:Int)=some j:=by
  unfold ixN;rw[if_pos (by omega),if_pos (by omega)];simp
 unfold atI;rw[e];exact h
def Abg(b:cA):Prop:=∀o i,subscripted b false o i=operate [o,i] (getItem o i)
def IxR(X:Cx)(r:R2):Prop:=
 ∀(value slice:cA)(aa:List (aQ×Obj))(s:aZ)(σ:St)(H:Hp)(x y:V)(v u:aJ)(Q:VK),Inv X aa σ H s->RelV x v->RelV y u->r x y H Q->
  subscripted slice false v u=operate [v,u] (getItem v u)->wpAny (model X.prog X.w) X.A (subscriptTail value slice v u) (EP X aa σ Q) X.xe s
def MtR(X:Cx)(id:String)(r:V->List V->Hp->VK->Prop):Prop:=
 ∀(aa:List (aQ×Obj))(s:aZ)(σ:St)(H:Hp)(x:V)(xs:List V)(v:aJ)(us:List aJ)(Q:VK),Inv X aa σ H s->RelV x v->Vals xs us->r x xs H Q->
  wpAny (model X.prog X.w) X.A (call (.builtin id) (v::us)) (EP X aa σ Q) X.xe s
section
theorem IxR.or(h:IxR X r)(h':IxR X r'):IxR X (λx y H Q=>r x y H Q\/r' x y H Q):=by
 intro value slice aa s σ H x y v u Q I rx ry q hs;rcases q with q|q
 .exact h value slice aa s σ H x y v u Q I rx ry q hs
 .exact h' value slice aa s σ H x y v u Q I rx ry q hs
theorem Bie{r:R2}(hr:IxR X r)(ha:PE X a ta)(hb:PE X b tb)(hs:Abg b):PE X (.Subscript a b pos) (tOp r ta tb):=by
 intro aa s σ H Q I h;exact xW (Bc9 ha hb I h λv u s2 x y H2 I2 rx ry q=>hr a b aa s2 σ H2 x y v u Q I2 rx ry q (hs _ _))
def Bif(K:aF):R2:=λx y H Q=>∃p xs i v,x=.ref p/\y=.int i/\SqL K H p xs/\atI xs i=some v/\Q v H
def Big(K:aF):R2:=λx y H Q=>∃p xs i v,x=.ref p/\y=.int i/\SqT K H p xs/\atI xs i=some v/\Q v H
def Bih:R2:=λx y H Q=>∃z i c,x=.str z/\y=.int i/\z.length<=sizeLine/\atI z.cps.toList i=some c/\Q (.str ⟨#[c]⟩) H
theorem Axn:IxR X (Bif X.K):=by
 intro value slice aa s σ H x y v u Q I rx ry h hs;obtain⟨p,xs,i,z,rfl,rfl,hq,he,q⟩:=h;cases rx;obtain⟨t,rfl⟩:=ry;obtain⟨its,r,pl,hz⟩:=I.list hq;obtain⟨j,h1,h2,h3,h4,h5⟩:=Agj he;obtain⟨w,ew,rw'⟩:=r.get h2;have hl:=r.length;have hn:=Xb;have fin:EP X aa σ Q w s:=⟨z,H,I,rw',q⟩;by_cases h0:0<=i
 .have hj:i.toNat=j:=by
   rw[seqIndex_of h0 h5] at h1;exact bV h1
  exact item_listR pl.isList h0 (by omega) (by rw[hj];simpa using ew) fin hs
 .have hj:(i+(its.toArray.size:Int)).toNat=j:=by
   rw[zP (by omega) h4] at h1
   rw[bD,<-hl];exact bV h1
  exact rD (x:=w) pl.isList.typeIs slot_list_getitem.lookup
   (wpAny_getItem_list_neg (Q:=λr s'=>r=w/\EP X aa σ Q r s') pl.isList (by omega) (by rw[bD] <;> omega) (by omega) (by rw[hj];simpa using ew) ⟨rfl,fin⟩) hs
theorem Ak:IxR X (Big X.K):=by
 intro value slice aa s σ H x y v u Q I rx ry h hs;obtain⟨p,xs,i,z,rfl,rfl,hq,he,q⟩:=h;cases rx;obtain⟨t,rfl⟩:=ry;obtain⟨its,r,pl,hz⟩:=I.tuple hq;obtain⟨j,h1,h2,h3,h4,h5⟩:=Agj he;obtain⟨w,ew,rw'⟩:=r.get h2;have hl:=r.length;have hn:=Xb;have fin:EP X aa σ Q w s:=⟨z,H,I,rw',q⟩;exact rD (x:=w) pl.typeIs slot_tuple_getitem.lookup
  (getItem_tuple (j:=j) (Q:=λr s'=>r=w/\EP X aa σ Q r s') pl (by omega) (by omega) (by rw[bD,<-hl];exact h1) (by simpa using ew) ⟨rfl,fin⟩) hs
theorem Ak9:IxR X Bih:=by
 intro value slice aa s σ H x y v u Q I rx ry h hs;obtain⟨z,i,c,rfl,rfl,hz,he,q⟩:=h;obtain⟨t,rfl⟩:=rx;obtain⟨t',rfl⟩:=ry;obtain⟨j,h1,h2,h3,h4,h5⟩:=Agj he;have hl:z.cps.toList.length=z.length:=by simp[Str.length]
 rw[hl] at h1 h4 h5;have hn:=Xb;exact xX (xY s z t) slot_str_getitem.lookup (getItem_str (c:=c) (by
  have e1:decide (i < -(2 ^ 63:Int))=false:=decide_eq_false (by omega)
  have e2:decide (i>=2 ^ 63)=false:=decide_eq_false (by omega)
  rw[e1,e2,yZ]) (by rw[h1];simpa using h2) ⟨.str ⟨#[c]⟩,H,I.tok _,⟨_,rfl⟩,q⟩) hs
def rIx(K:aF):R2:=λx y H Q=>Bif K x y H Q\/Big K x y H Q\/Bih x y H Q
def Bdq:IxR X (rIx X.K):=Axn.or (Ak.or Ak9)
theorem Agk(lo hi:Option Int)(n:Nat):(sliceBounds lo hi none n).1=((HT.sIx n 0 lo:Nat):Int)/\(sliceBounds lo hi none n).2.1=((HT.sIx n n hi:Nat):Int)/\(sliceBounds lo hi none n).2.2=1:=by
 refine⟨?_,?_,rfl⟩
 .cases lo with
  |none=>simp[sliceBounds,HT.sIx]
  |some i=>
   simp only[sliceBounds,HT.sIx,wL,show (1:Int) > 0 by decide,if_true]
   by_cases h:i < 0
   .simp only[h,if_true] <;> omega
   .simp only[h,if_false] <;> omega
 .cases hi with
  |none=>simp[sliceBounds,HT.sIx]
  |some i=>
   simp only[sliceBounds,HT.sIx,wL,show (1:Int) > 0 by decide,if_true]
   by_cases h:i < 0
   .simp only[h,if_true] <;> omega
   .simp only[h,if_false] <;> omega
theorem Aei(its:List aJ)(lo hi:Option Int):slicePick its.toArray lo hi none=((its.drop (HT.sIx its.length 0 lo)).take (HT.sIx its.length its.length hi - HT.sIx its.length 0 lo)).toArray:=by
 obtain⟨h1,h2,h3⟩:=Agk lo hi its.toArray.size;unfold slicePick;rw[h1,h2,h3];simp only[sliceRange_one,pick_run,bD] <;> rfl
def Bii(K:aF):V->Option Int->Option Int->Hp->VK->Prop:=λx lo hi H Q=>∃a xs,x=.ref a/\SqL K H a xs/\∀p,H p=none->Q (.ref p) (upd H p (.lst (Aeh xs lo hi)))
theorem Axo:SlR X (Bii X.K):=by
 intro aa s σ H x v vl vu lo hi sl Q I rx hs pl pu h;obtain⟨a,xs,rfl,hx,q⟩:=h;cases rx;obtain⟨its,r,ht,hz⟩:=I.list hx;have hlen:=r.length;refine⟨"list",_,slot_list_getitem.lookup,ht.isList.typeIs,?_⟩;refine wpAny_getItem_list_slice ht.isList hs pl pu .none (by simp) ?_ (by rw[bD] <;> omega)
 rw[Aei,<-hlen];refine⟨.ref s.heap.objs.size,_,I.laid (t':=s.toks) (o:=.lst (Aeh xs lo hi)) (λb ob q=>aP _ q) (aN _) ?_,rfl,q _ (I.hok.fresh (aN _))⟩;exact⟨aD (Aaf xs lo hi) hz,_,0,(r.drop (HT.sIx xs.length 0 lo)).take (HT.sIx xs.length xs.length hi - HT.sIx xs.length 0 lo),bO _ rfl⟩
noncomputable def Gr:V->Bool
 |.non=>true
 |.bl _=>true
 |.int _=>true
 |.str _=>true
 |_=>false
noncomputable def eqV:V->V->Bool
 |.non,.non=>true
 |.bl a,.bl b=>a==b
 |.bl a,.int b=>(if a then 1 else 0)==b
 |.int a,.bl b=>a==(if b then 1 else 0)
 |.int a,.int b=>a==b
 |.str a,.str b=>a==b
 |_,_=>false
theorem Bdr(ry:RelV y u)(rx:RelV x v)(fy:Gr y=true)(fx:Gr x=true):aBf A s u v (eqV y x):=by
 cases y with
 |non=>
  cases ry;cases x with
  |non=>cases rx;exact aBp _
  |bl b=>cases rx;exact aAi b
  |int b=>obtain⟨t,rfl⟩:=rx;exact aAw b t
  |str b=>obtain⟨t,rfl⟩:=rx;exact aAx b t
  |_=>exact absurd (show false=true from fx) bH
 |bl a=>
  cases ry;cases x with
  |non=>cases rx;exact aAj a
  |bl b=>cases rx;exact aAk a b
  |int b=>obtain⟨t,rfl⟩:=rx;exact aAy a b t
  |str b=>obtain⟨t,rfl⟩:=rx;exact aAz a b t
  |_=>exact absurd (show false=true from fx) bH
 |int a=>
  obtain⟨t',rfl⟩:=ry;cases x with
  |non=>cases rx;exact aBa a t'
  |bl b=>cases rx;exact aBb a t' b
  |int b=>obtain⟨t,rfl⟩:=rx;exact aBg a t' b t
  |str b=>obtain⟨t,rfl⟩:=rx;exact uP a t' b t
  |_=>exact absurd (show false=true from fx) bH
 |str a=>
  obtain⟨t',rfl⟩:=ry;cases x with
  |non=>cases rx;exact aBc a t'
  |bl b=>cases rx;exact aBd a t' b
  |int b=>obtain⟨t,rfl⟩:=rx;exact uQ a t' b t
  |str b=>obtain⟨t,rfl⟩:=rx;exact aBh a t' b t
  |_=>exact absurd (show false=true from fx) bH
 |_=>exact absurd (show false=true from fy) bH
noncomputable def eqU(x:V)(u:aJ):Bool:=match u with
 |.none=>eqV .non x
 |.bool b=>eqV (.bl b) x
 |.int i _=>eqV (.int i) x
 |.str z _=>eqV (.str z) x
 |_=>false
theorem Asq(r:RelV y u)(f:Gr y=true):eqU x u=eqV y x:=by
 cases y with
 |non=>cases r;rfl
 |bl b=>cases r;rfl
 |int i=>obtain⟨t,rfl⟩:=r;rfl
 |str z=>obtain⟨t,rfl⟩:=r;rfl
 |_=>exact absurd (show false=true from f) bH
theorem Abh{xs:List V}{us:List aJ}(h:Vals xs us)(f:xs.all Gr=true):us.any (eqU x)=xs.any λy=>eqV y x:=by
 induction h with
 |nil=>rfl
 |cons r t ih=>
  rw[bY,aC] at f;rw[iJ,iJ,Asq r f.1,ih f.2]
theorem Ql(rx:RelV x v)(fx:Gr x=true):∀{xs:List V} {us:List aJ},Vals xs us->xs.all Gr=true->∀u∈us,aBf A s u v (eqU x u)
 |_,_,.nil,_=>λu hu=>by cases hu
 |y::xs,u::us,.cons r t,f=>λu' hu=>by
  rw[bY,aC] at f;rcases bF.mp hu with rfl|hu
  .rw[Asq r f.1];exact Bdr r rx f.1 fx
  .exact Ql rx fx t f.2 u' hu
def inV(x:V)(xs:List V):Bool:=xs.any λy=>eqV y x
def rIn(K:aF)(neg:Bool):R2:=λx y H Q=>∃p xs,y=.ref p/\(SqL K H p xs\/SqT K H p xs)/\Gr x=true/\xs.all Gr=true/\Q (.bl (if neg then !inV x xs else inV x xs)) H
theorem Apn:OpR X (compareOp .In) (rIn X.K false):=by
 intro aa s σ H x y v u Q I rx ry h;obtain⟨p,xs,rfl,hq,fx,fs,q⟩:=h;cases ry;rcases hq with hq|hq
 .obtain⟨its,r,pl,hz⟩:=I.list hq;refine SeqAt.in_listAt (eqU x) pl.isList (λw hw=>Ql rx fx r fs w (by simpa using hw)) ⟨.bl _,H,I,rfl,?_⟩
  rw[show its.toArray.any (eqU x)=its.any (eqU x) by simp,Abh r fs]
  exact q
 .obtain⟨its,r,pl,hz⟩:=I.tuple hq;refine SeqAt.in_tupleAt (eqU x) pl (λw hw=>Ql rx fx r fs w (by simpa using hw)) ⟨.bl _,H,I,rfl,?_⟩
  rw[show its.toArray.any (eqU x)=its.any (eqU x) by simp,Abh r fs]
  exact q
theorem Agl:OpR X (compareOp .NotIn) (rIn X.K true):=by
 intro aa s σ H x y v u Q I rx ry h;obtain⟨p,xs,rfl,hq,fx,fs,q⟩:=h;cases ry;rcases hq with hq|hq
 .obtain⟨its,r,pl,hz⟩:=I.list hq;refine SeqAt.notIn_listAt (eqU x) pl.isList (λw hw=>Ql rx fx r fs w (by simpa using hw)) ⟨.bl _,H,I,rfl,?_⟩
  rw[show its.toArray.any (eqU x)=its.any (eqU x) by simp,Abh r fs]
  exact q
 .obtain⟨its,r,pl,hz⟩:=I.tuple hq;refine SeqAt.notIn_tupleAt (eqU x) pl (λw hw=>Ql rx fx r fs w (by simpa using hw)) ⟨.bl _,H,I,rfl,?_⟩
  rw[show its.toArray.any (eqU x)=its.any (eqU x) by simp,Abh r fs]
  exact q
theorem Agm:OpR X (compareOp .NotIn) (λx y H Q=>∃i j,x=.str i/\y=.str j/\Q (.bl (!(!(fP j i 0 j.length 1).isEmpty))) H):=by
 intro aa s σ H x y v u Q I rx ry h;obtain⟨i,j,rfl,rfl,q⟩:=h;obtain⟨t,rfl⟩:=rx;obtain⟨t',rfl⟩:=ry;exact notIn_str ⟨.bl _,H,I,rfl,q⟩
theorem Gy.or(h:Gy X f r)(h':Gy X f r'):Gy X f (λxs H Q=>r xs H Q\/r' xs H Q):=by
 intro aa s σ H xs us Q I rs q;rcases q with q|q
 .exact h aa s σ H xs us Q I rs q
 .exact h' aa s σ H xs us Q I rs q
theorem Agn:Gy X (.type "list") (λxs H Q=>∃p ys,xs=[.ref p]/\(SqL X.K H p ys\/SqT X.K H p ys)/\∀l,H l=none->Q (.ref l) (upd H l (.lst ys))):=by
 intro aa s σ H xs us Q I r h;obtain⟨p,ys,rfl,hq,q⟩:=h;obtain⟨u,rfl,rx⟩:=vals1 r;cases rx;have fin:∀(its:List aJ),Vals ys its->ys.length<=sizeLine->∀(h':dN)(c':Nat),(∀b o',s.heap.get? b=some o'->h'.get? b=some o')->
   h'.get? s.heap.objs.size=some { cls:=.type "list",dict:=none,data:=.seq its.toArray c',slots:=#[] }->EP X aa σ Q (.ref s.heap.objs.size) { s with heap:=h' }:=λits r' hz h' c' kp e=>
  ⟨.ref s.heap.objs.size,_,I.laid (t':=s.toks) kp (aN _) (show Dr X.prog X.w _ h' _ (.lst ys) from ⟨hz,its,c',r',e⟩),rfl,q _ (I.hok.fresh (aN _))⟩
 rcases hq with hq|hq
 .obtain⟨its,r',pl,hz⟩:=I.list hq;have hlen:=r'.length;obtain⟨o,ho,hc,n,hd⟩:=pl.isList;exact zE p (.inl rfl) ho hc hd (λh' c' kp e=>fin its r' hz h' c' kp e) (by simp only[bD] <;> omega)
 .obtain⟨its,r',pl,hz⟩:=I.tuple hq;have hlen:=r'.length;obtain⟨o,ho,hc,n,hd⟩:=pl;exact zE p (.inr rfl) ho hc hd (λh' c' kp e=>fin its r' hz h' c' kp e) (by simp only[bD] <;> omega)
theorem Aej:Gy X (.type "tuple") (λxs H Q=>∃p ys,xs=[.ref p]/\((SqL X.K H p ys/\∀l,H l=none->Q (.ref l) (upd H l (.tup ys)))\/(SqT X.K H p ys/\Q (.ref p) H))):=by
 intro aa s σ H xs us Q I r h;obtain⟨p,ys,rfl,h⟩:=h;obtain⟨u,rfl,rx⟩:=vals1 r;cases rx;rcases h with ⟨hq,q⟩|⟨hq,q⟩
 .obtain⟨its,r',pl,hz⟩:=I.list hq;have hlen:=r'.length;refine call_tuple_list pl.isList (λh' kp=>?_) (by simp only[bD] <;> omega)
  have I1:Inv X aa σ H { s with heap:=h' }:=I.kept (t':=s.toks) kp
  have I2:Inv X aa σ (upd H h'.objs.size (.tup ys)) { s with heap:=h'.push { cls:=.type "tuple",data:=.seq its.toArray } }:=
   I1.laid (t':=s.toks) (λb o e=>aP _ e) (aN _) (show Dr X.prog X.w _ _ _ (.tup ys) from ⟨hz,its,r',wK _ _⟩)
  exact⟨.ref h'.objs.size,_,I2,rfl,q _ (I1.hok.fresh (aN _))⟩
 .obtain⟨its,r',pl,hz⟩:=I.tuple hq;exact call_tuple_same pl ⟨.ref p,H,I,rfl,q⟩
def tyV(K:aF)(T:String)(x:V)(H:Hp):Prop:=match x with
 |.str _=>T="str"
 |.int _=>T="int"
 |.ref p=>(T="list"/\∃xs,SqL K H p xs)\/(T="tuple"/\∃o,K.lookup p=some o/\o.cls=.type "tuple"/\o.dict=none)\/
   (T="dict"/\((∃kvs,H p=some (.dK kvs))\/∃kvs,H p=some (.dT kvs)))\/(T="set"/\∃S n,H p=some (.set S n))
 |_=>False
theorem Bds(I:Inv X aa σ H s)(r:RelV x v)(ty:tyV X.K T x H):
  s.TypeIs v T/\∀a,v=.ref a->∃ob,s.heap.get? a=some ob/\ob.dict=none:=by
 cases x with
 |str z=>
  obtain⟨t,rfl⟩:=r;cases (show T="str" from ty);exact⟨xY s z t,λ_ e=>nomatch e⟩
 |int i=>
  obtain⟨t,rfl⟩:=r;cases (show T="int" from ty);exact⟨xZ s i t,λ_ e=>nomatch e⟩
 |ref p=>
  cases r;rcases ty with ⟨rfl,xs,hq⟩|⟨rfl,o,hk,hc,hd⟩|⟨rfl,hk⟩|⟨rfl,S,n,hk⟩
  .obtain⟨its,_,pl,_⟩:=I.list hq;refine⟨pl.isList.typeIs,λa e=>?_⟩;cases e;obtain⟨o,n,e,c,hd,_⟩:=pl;exact⟨o,e,hd⟩
  .refine⟨⟨o,I.kIn p o hk,hc⟩,λa e=>?_⟩;cases e;exact⟨o,I.kIn _ o hk,hd⟩
  .have z:∃o,s.heap.get? p=some o/\o.ExactDict:=by
    rcases hk with ⟨kvs,hk⟩|⟨kvs,hk⟩
    .obtain⟨_,_,_,_,o,_,_,e,ex,_⟩:=I.hok p _ hk;exact⟨o,e,ex⟩
    .obtain⟨_,_,_,_,o,_,_,e,ex,_⟩:=I.hok p _ hk;exact⟨o,e,ex⟩
   obtain⟨o,e,ex⟩:=z;refine⟨⟨o,e,ex.1⟩,λa e2=>?_⟩;cases e2;exact⟨o,e,ex.2.1⟩
  .obtain⟨o,_,_,_,e,ex,_⟩:=I.hok p _ hk;refine⟨⟨o,e,ex.1⟩,λa e2=>?_⟩;cases e2;exact⟨o,e,ex.2.1⟩
 |_=>exact fG ty
def tBM(K:aF)(T:String)(r:V->List V->Hp->VK->Prop)(to:TE)(t:TA):TE:=λσ H Q=>to σ H λx H1=>tyV K T x H1/\t σ H1 λxs H2=>r x xs H2 Q
theorem Bij{X:Cx}{o e:cA}{es:List cA}{to:TE}{t:TA}{name:Str}{ak cpos:Pos}{T id:String}{r:V->List V->Hp->VK->Prop}(pa:yE T)(slot:Slot T name id)(hty:typeOf (.builtin id)=pure (.type "method_descriptor"))(hm:MtR X id r)(ho:PE X o to)(ha:PA X (e::es) t)(bf:attributeBase o name X.env (eval o X.env)=eval o X.env:=by rfl)(hfew:((backTo cpos (starEach (e::es) X.env)).all (λx=>!x.1)&&(backToKw cpos (keywordEach [] X.env)).all (λx=>x.1.isSome)
   &&decide ((e::es).length+([]:List jQ).length+(if ([]:List jQ).isEmpty then 0 else 1) < 30))=true:=by rfl)(aq:(ak.endLine==cpos.line)=true:=by rfl)(hs:starEach (e::es) X.env=(false,eval e X.env)::starEach es X.env:=by rfl)(hplain:(backTo cpos (starEach es X.env)).any (·.1)=false:=by rfl):
  PE X (.Call (.Attribute o name ak) (e::es) [] cpos) (tBM X.K T r to t):=by
 intro aa s σ H Q I h;refine wpAny_Call_method_late bf hfew aq rfl (thn (ho aa s σ H _ I h) λv s1 zz=>?_);obtain⟨x,H1,I1,r1,ty,q1⟩:=zz;obtain⟨h1,h2⟩:=Bds I1 r1 ty;refine⟨T,id,pa,slot,hty,h1,h2,?_⟩;have hA:=ha cpos aa s1 σ H1 _ I1 q1;rw[hs] at hA ⊢
 refine rE (by show (false||(backTo cpos (starEach es X.env)).any (·.1))=false;rw[hplain] <;> rfl) (oE ?_)
 exact thn hA λus s2 ⟨vs,H2,I2,r2,q2⟩=>hm aa s2 σ H2 x vs v us Q I2 r1 r2 q2
end
def MtM(X:Cx)(id:String)(r:V->List V->Hp->VK->Prop):Prop:=
 ∀(aa:List (aQ×Obj))(s:aZ)(σ:St)(H:Hp)(x:V)(xs:List V)(v:aJ)(us:List aJ)(Q:VK),Inv X aa σ H s->RelV x v->Vals xs us->r x xs H Q->
  wpAny (model X.prog X.w) X.A (call (.builtin id) (v::us)) (EP X aa σ Q) X.xe s
theorem Vals.one{x:V}{us:List aJ}(h:Vals [x] us):∃u,us=[u]/\RelV x u:=by
 cases h with|cons r t=>
 cases t;exact⟨_,rfl,r⟩
theorem Vals.two{x y:V}{us:List aJ}(h:Vals [x,y] us):∃u v,us=[u,v]/\RelV x u/\RelV y v:=by
 cases h with|cons r t=>
 obtain⟨v,rfl,q⟩:=Vals.one t;exact⟨_,_,rfl,r,q⟩
theorem Vals.eraseIdx:∀{xs:List V} {us:List aJ} (i:Nat),Vals xs us->Vals (xs.eraseIdx i) (us.eraseIdx i)
 |_,_,_,.nil=>.nil
 |_,_,0,.cons _ t=>t
 |_,_,i+1,.cons r t=>.cons r (Vals.eraseIdx i t)
theorem Vals.rep(h:Vals xs us):∀k:Nat,Vals (bG k xs).flatten (bG k us).flatten
 |0=>.nil
 |k+1=>by
  rw[eY,eY,gV,gV];exact Vals.append h (Vals.rep h k)
theorem Ae3{α:Type}:∀(l:List α)(i:Nat),(l.eraseIdx i).length<=l.length
 |[],_=>aN _
 |_::_,0=>lL _
 |_::r,i+1=>lW (Ae3 r i)
theorem foldl_rep(its:List aJ):∀(k:Nat)(acc:List aJ),
  yF (λx1 x2=>x1 ++ x2) acc.toArray (bG k its.toArray)=(acc ++ (bG k its).flatten).toArray
 |0,acc=>by simp
 |k+1,acc=>by
  have e:acc.toArray ++ its.toArray=(acc ++ its).toArray:=by simp
  have e2:(acc ++ its) ++ (bG k its).flatten=acc ++ (bG (k+1) its).flatten:=by
   rw[eY,gV,aO]
  rw[<-e2,<-foldl_rep its k (acc ++ its),<-e,eY,List.foldl_cons]
section
theorem Inv.lset{its its':List aJ}{n:Nat}{f:Array aJ->Array aJ}{t':Nat}(I:Inv X aa σ H s)(hH:H l=some (.lst xs))(e:s.heap.get? l=some { cls:=.type "list",data:=.seq its.toArray n })(hf:f its.toArray=its'.toArray)(hv:Vals ys its')(hz:ys.length<=sizeLine):
  Inv X aa σ (upd H l (.lst ys)) { s with heap:=s.heap.update l (lM f),toks:=t' }:=by
 have q:=aBn e f;rw[hf] at q;refine I.write (x:=l) (e:=l) (by rw[hH];exact trivial) (.inl rfl) (λb' u hb hu=>(fY s.heap (lM f) (gO hb)).trans hu) ⟨_,q⟩ ?_
 exact⟨hz,its',_,hv,q⟩
theorem Inv.lnew{t':Nat}(I:Inv X aa σ H s)(hv:Vals ys its)(hz:ys.length<=sizeLine):
  Inv X aa σ (upd H s.heap.objs.size (.lst ys)) { s with heap:=s.heap.push { cls:=.type "list",data:=.seq its.toArray },toks:=t' }:=
 I.laid (λ_ _ q=>aP _ q) (aN _) ⟨hz,its,0,hv,bO _ rfl⟩
def Inv.fresh(I:Inv X aa σ H s):H s.heap.objs.size=none:=I.hok.fresh (aN _)
theorem Inv.lstM(I:Inv X aa σ H s)(hH:H l=some (.lst xs)):xs.length<=sizeLine/\∃(its:List aJ)(n:Nat),Vals xs its/\xs.length=its.length/\s.heap.get? l=some { cls:=.type "list",data:=.seq its.toArray n }:=by
 obtain⟨z,its,n,r,e⟩:=I.hok l _ hH;exact⟨z,its,n,r,r.length,e⟩
theorem Aih{n:Nat}(h:n<=sizeLine):jG n=false:=by
 unfold jG;exact decide_eq_false (by omega)
end
section
def Anl:V->List V->Hp->VK->Prop:=λx vs H Q=>∃l xs y,x=.ref l/\vs=[y]/\H l=some (.lst xs)/\xs.length < sizeLine/\Q .non (upd H l (.lst (xs ++ [y])))
theorem Ae4:MtM X "list.append" Anl:=by
 intro aa s σ H x vs v us Q I rx rv h;obtain⟨l,xs,y,rfl,rfl,hH,hz,q⟩:=h;cases rx;obtain⟨u,rfl,ru⟩:=rv.one;obtain⟨z,its,n,r,hl,e⟩:=I.lstM hH;refine rF F.slot_list_append ⟨_,e,rfl⟩ F.entry_list_append (F.args_list_append_2 _ _) (PySem.list_append l its.toArray n u (by rw[bD];omega)) ⟨e,?_⟩
 refine⟨.non,_,I.lset (its':=its ++ [u]) hH e (by simp) (r.append (.cons ru .nil)) ?_,rfl,q⟩
 rw[aK,cC];omega
def Axp:V->List V->Hp->VK->Prop:=λx vs H Q=>∃l b xs zs,x=.ref l/\vs=[.ref b]/\H l=some (.lst xs)/\H b=some (.lst zs)/\xs.length+zs.length<=sizeLine/\Q .non (upd H l (.lst (xs ++ zs)))
theorem Bhm:MtM X "list.extend" Axp:=by
 intro aa s σ H x vs v us Q I rx rv h;obtain⟨l,b,xs,zs,rfl,rfl,hH,hB,hz,q⟩:=h;cases rx;obtain⟨u,rfl,ru⟩:=rv.one;cases ru;obtain⟨z,its,n,r,hl,e⟩:=I.lstM hH;obtain⟨z2,its2,n2,r2,hl2,e2⟩:=I.lstM hB;have hsz:its.toArray.size+its2.toArray.size<=sizeLine:=by rw[bD,bD];omega
 have hlong:¬ (!its.toArray.isEmpty&&jG (its.toArray.size+its2.toArray.size))=true:=by
  rw[Aih hsz,jM];exact bH
 refine rF F.slot_list_extend ⟨_,e,rfl⟩ F.entry_list_extend (F.args_list_extend_2 _ _)
  (AutoSeq1.list_extend_list_list_0 l its.toArray n b its2.toArray n2 hlong (by rw[bD];omega) (by omega)) ⟨e,e2,?_⟩
 refine⟨.non,_,I.lset (its':=its ++ its2) hH e (by simp) (r.append r2) ?_,rfl,q⟩
 rw[aK];omega
def Asr:V->List V->Hp->VK->Prop:=λx vs H Q=>∃l xs i k y,x=.ref l/\vs=[.int i]/\H l=some (.lst xs)/\-(2 ^ 63)<=i/\i < 2 ^ 63/\seqIndex? i xs.length=some k/\xs[k]?=some y/\Q y (upd H l (.lst (xs.eraseIdx k)))
theorem Ass:MtM X "list.pop" Asr:=by
 intro aa s σ H x vs v us Q I rx rv h;obtain⟨l,xs,i,k,y,rfl,rfl,hH,h1,h2,hk,hy,q⟩:=h;cases rx;obtain⟨u,rfl,ru⟩:=rv.one;obtain⟨t,rfl⟩:=ru;obtain⟨z,its,n,r,hl,e⟩:=I.lstM hH;obtain⟨w,hw,rw'⟩:=r.get hy;refine rF F.slot_list_pop ⟨_,e,rfl⟩ F.entry_list_pop (F.args_list_pop_2 _ _)
  (MeetsSeq.list_pop_at l its.toArray n i t k w (yG h1 h2) (by rw[bD,<-hl];exact hk) (by rw[<-jA];exact hw) (by rw[bD];omega)) ⟨e,?_⟩
 refine⟨y,_,I.lset (its':=its.eraseIdx k) hH e ?_ (r.eraseIdx k) ?_,rw',q⟩
 .show its.toArray.eraseIdxIfInBounds k=(its.eraseIdx k).toArray;rw[List.eraseIdxIfInBounds_toArray]
 .have:=Ae3 xs k;omega
def Bik:R2:=λx y H Q=>∃l b xs zs,x=.ref l/\y=.ref b/\H l=some (.lst xs)/\H b=some (.lst zs)/\xs.length+zs.length<=sizeLine/\∀p,H p=none->Q (.ref p) (upd H p (.lst (xs ++ zs)))
theorem Bdt:OpR X (binaryOp .Add) Bik:=by
 intro aa s σ H x y v u Q I rx ry h;obtain⟨l,b,xs,zs,rfl,rfl,hH,hB,hz,q⟩:=h;cases rx;cases ry;obtain⟨z,its,n,r,hl,e⟩:=I.lstM hH;obtain⟨z2,its2,n2,r2,hl2,e2⟩:=I.lstM hB;refine PySem.P.add_list e e2 ?_ (by rw[bD,bD];omega)
 have ea:its.toArray ++ its2.toArray=(its ++ its2).toArray:=by simp
 rw[ea];exact⟨.ref _,_,I.lnew (t':=s.toks) (r.append r2) (by rw[aK];omega),rfl,q _ I.fresh⟩
def Bil:R2:=λx y H Q=>∃l k xs,x=.ref l/\y=.int k/\H l=some (.lst xs)/\-(2 ^ 63)<=k/\k < 2 ^ 63/\xs.length * k.toNat<=sizeLine/\
 ∀p,H p=none->Q (.ref p) (upd H p (.lst (bG k.toNat xs).flatten))
theorem len_rep{α:Type}(xs:List α)(k:Nat):(bG k xs).flatten.length=k * xs.length:=by
 induction k with
 |zero=>simp
 |succ k ih=>rw[eY,gV,aK,ih,zQ,Nat.add_comm]
theorem Bdu:OpR X (binaryOp .Mult) Bil:=by
 intro aa s σ H x y v u Q I rx ry h;obtain⟨l,k,xs,rfl,rfl,hH,h1,h2,hz,q⟩:=h;cases rx;obtain⟨t,rfl⟩:=ry;obtain⟨z,its,n,r,hl,e⟩:=I.lstM hH;have hlen:its.toArray.size * k.toNat<=sizeLine:=by rw[bD,<-hl];exact hz
 have hcap:¬ its.toArray.size * k.toNat > (2 ^ 63 - 1) / 8:=by
  have:(sizeLine:Nat)<=(2 ^ 63 - 1) / 8:=by decide
  omega
 have hfit:¬ (!yH k)=true:=by
  rw[yG h1 h2];exact bH
 have hlong:¬ jG (its.toArray.size * k.toNat)=true:=by
  rw[Aih hlen];exact bH
 have hnew:yF (λx1 x2=>x1 ++ x2) #[] (bG (if its.toArray.isEmpty=true then 0 else k.toNat) its.toArray)=(bG k.toNat its).flatten.toArray:=by
  have f0:∀m:Nat,yF (λx1 x2=>x1 ++ x2) #[] (bG m its.toArray)=(bG m its).flatten.toArray:=λm=>by
   have:=foldl_rep its m [];rw[jW] at this;exact this
  rw[f0];cases its with
  |nil=>simp
  |cons a r'=>rw[if_neg (by simp)]
 refine wpAny_binaryOp_repeat_ref (T:="list") (U:="int") (by decide) ⟨_,e,rfl⟩ (λs'=>xZ s' k t) noFill_list_mul F.fills_int_mul xJ repeat_list F.slot_int_index.lookup
  (rF xJ (xZ s k t) F.entry_int_rmul (F.args_int_rmul_2 _ _) (int___rmul___int_list k t l its.toArray n)
   ⟨e,rfl,⟨_,e,rfl⟩,rF F.slot_list_mul ⟨_,e,rfl⟩ F.entry_list_mul (F.args_list_mul_2 _ _) (vG l its.toArray n k t hfit hcap hlong) ⟨e,?_⟩⟩)
 rw[hnew];exact⟨.ref _,_,I.lnew (t':=s.toks) (r.rep k.toNat) (by rw[len_rep,Nat.mul_comm];exact hz),rfl,q _ I.fresh⟩
end
section
set_option maxRecDepth 100000 in
end
section
variable{κ:Type}[DecidableEq κ]
noncomputable def V1(kvs:List (κ×V))(k:κ):Option V:=(kvs.find? λkv=>decide (kv.1=k)).map (·.2)
noncomputable def putK(kvs:List (κ×V))(k:κ)(v:V):List (κ×V):=
 if (kvs.any λkv=>decide (kv.1=k))=true then kvs.map (λkv=>if kv.1=k then (kv.1,v) else kv) else kvs ++ [(k,v)]
theorem Ab4{p:κ×V}{r:List (κ×V)}{k:κ}(e:p.1=k):V1 (p::r) k=some p.2:=by simp[V1,gZ,e]
theorem Ab5{p:κ×V}{r:List (κ×V)}{k:κ}(e:¬ p.1=k):V1 (p::r) k=V1 r k:=by simp[V1,gZ,e]
theorem Aii(k:κ):∀kvs:List (κ×V),(kvs.any λkv=>decide (kv.1=k))=(V1 kvs k).isSome
 |[]=>rfl
 |p::r=>by
  rw[iJ];by_cases e:p.1=k
  .simp only[Ab4 e,decide_eq_true e,Bool.true_or,Option.isSome_some]
  .rw[Ab5 e,decide_eq_false e,uG];exact Aii k r
theorem Qm(kvs:List (κ×V))(k:κ)(v:V):(putK kvs k v).length<=kvs.length+1:=by
 unfold putK;split
 .rw[aA];omega
 .rw[aK,aU,oG];omega
theorem Aa4.isSome_eq(r:Aa4 o u):o.isSome=u.isSome:=by
 cases o with
 |none=>cases u with
  |none=>rfl
  |some _=>exact(show False from r).elim
 |some _=>cases u with
  |none=>exact(show False from r).elim
  |some _=>rfl
theorem KV.val{kvs:List (κ×V)}{vs:List (κ×aJ)}(r:KV kvs vs)(k:κ):Aa4 (V1 kvs k) (valueAt vs k):=by
 unfold KV at r;induction r with
 |nil=>exact gK
 |@cons p q ps qs h t ih=>
  obtain⟨h1,h2⟩:=h;by_cases e:p.1=k
  .have e':q.1=k:=h1.symm.trans e;have b:valueAt (q::qs) k=some q.2:=by simp[valueAt,gZ,e']
   rw[Ab4 e,b];exact h2
  .have e':¬ q.1=k:=λz=>e (h1.trans z);have b:valueAt (q::qs) k=valueAt qs k:=by simp[valueAt,gZ,e']
   rw[Ab5 e,b];exact ih
theorem KV.any(r:KV kvs vs)(k:κ):(kvs.any λkv=>decide (kv.1=k))=vs.any λkv=>decide (kv.1=k):=by
 unfold KV at r;induction r with
 |nil=>rfl
 |cons h t ih=>rw[iJ,iJ,ih,h.1]
theorem KV.repl(r:KV kvs vs)(k:κ)(ry:RelV y u):
  KV (kvs.map λkv=>if kv.1=k then (kv.1,y) else kv) (vs.map λkv=>if kv.1=k then (kv.1,u) else kv):=by
 unfold KV at r ⊢
 induction r with
 |nil=>exact .nil
 |@cons p q ps qs h t ih=>
  rw[aG,aG];refine .cons ?_ ih;obtain⟨h1,h2⟩:=h;by_cases e:p.1=k
  .rw[if_pos e,if_pos (h1.symm.trans e)];exact⟨h1,ry⟩
  .rw[if_neg e,if_neg (λz=>e (h1.trans z))];exact⟨h1,h2⟩
theorem KV.put(r:KV kvs vs)(k:κ)(ry:RelV y u):KV (putK kvs k y) (stored vs k u):=by
 unfold putK stored;rw[r.any k];by_cases e:(vs.any λkv=>decide (kv.1=k))=true
 .rw[if_pos e,if_pos e];exact r.repl k ry
 .rw[if_neg e,if_neg e];exact aAl r ⟨rfl,ry⟩
def KV.length(r:KV kvs vs):kvs.length=vs.length:=qF r
end
theorem Anm(r:RelV (kV k) u):(Fv P w).is k u=true:=by
 cases k with
 |inl i=>obtain⟨t,e⟩:=(show ∃t,u=tR i t from r);subst e;exact Aic P w i t
 |inr x=>obtain⟨t,e⟩:=(show ∃t,u=pD x t from r);subst e;exact Aid P w x t
theorem Ae5:∀{ks:List Key} {us:List aJ},Vals (ks.map kV) us->ItemsAre (Fv P w) ks us
 |[],_,r=>by rw[cT] at r;cases r;exact .nil
 |k::ks,_,r=>by
  rw[aG] at r;cases r with
  |cons h t=>exact .cons (Anm h) (Ae5 t)
abbrev KT(H:Hp):List (List Key×V)->List (List Key×aQ×aJ)->Prop:=qD λp q=>p.1=q.1/\H q.2.1=some (.tup (p.1.map kV))/\RelV p.2 q.2.2
theorem KT.val{H:Hp}{kvs:List (List Key×V)}{xs:List (List Key×aQ×aJ)}(r:KT H kvs xs)(k:List Key):Aa4 (V1 kvs k) ((atKey xs k).map (·.2)):=by
 induction r with
 |nil=>exact gK
 |@cons p q ps qs h t ih=>
  obtain⟨h1,_,h2⟩:=h;by_cases e:p.1=k
  .have e':q.1=k:=h1.symm.trans e;have b:atKey (q::qs) k=some q.2:=by simp[atKey,gZ,e']
   rw[Ab4 e,b];exact h2
  .have e':¬ q.1=k:=λz=>e (h1.trans z);have b:atKey (q::qs) k=atKey qs k:=by simp[atKey,gZ,e']
   rw[Ab5 e,b];exact ih
theorem KT.repl(r:KT H kvs xs)(k:List Key)(ry:RelV y u):
  KT H (kvs.map λkv=>if kv.1=k then (kv.1,y) else kv) (xs.map (putAt k u)):=by
 induction r with
 |nil=>exact .nil
 |@cons p q ps qs h t ih=>
  rw[aG,aG];refine .cons ?_ ih;obtain⟨h1,h2,h3⟩:=h;unfold putAt;by_cases e:p.1=k
  .rw[if_pos e,if_pos (h1.symm.trans e)];exact⟨h1,h2,ry⟩
  .rw[if_neg e,if_neg (λz=>e (h1.trans z))];exact⟨h1,h2,h3⟩
theorem KT.put(r:KT H kvs xs)(k:List Key)(hb:H b=some (.tup (k.map kV)))(ry:RelV y u):
  KT H (putK kvs k y) (storedH xs k b u):=by
 have e:(kvs.any λkv=>decide (kv.1=k))=(atKey xs k).isSome:=by
  rw[Aii,(r.val k).isSome_eq,Option.isSome_map]
 unfold putK storedH;rw[e];by_cases q:(atKey xs k).isSome=true
 .rw[if_pos q,if_pos q];exact r.repl k ry
 .rw[if_neg q,if_neg q];exact aAl r ⟨rfl,hb,ry⟩
theorem KT.keeps(r:KT H kvs xs)(ht:∀b ys,H b=some (.tup ys)->H' b=some (.tup ys)):KT H' kvs xs:=
 Paired.mapP r λ_ _ z=>⟨z.1,ht _ _ z.2.1,z.2.2⟩
section
def Mu(ok:HOk P w H h)(e:Rd H a u):Dr P w H h a u:=e.ok ok
theorem Ast(ok:HOk P w H h)(e:Rd H a (.dK kvs)):kvs.length<=sizeLine/\(a==sysModules)=false/\∃vs,KV kvs vs/\h.DictOf (Fv P w) a vs:=
 show Dr P w H h a (.dK kvs) from Mu ok e
def Bb3(ok:HOk P w H h)(e:H a=some (.dK kvs)):kvs.length<=sizeLine/\(a==sysModules)=false/\∃vs,KV kvs vs/\h.DictOf (Fv P w) a vs:=Ast ok (.inl e)
theorem Ala(ok:HOk P w H h)(e:H a=some (.tup (ks.map kV))):(tupleKind (Fv P w)).is h ks a:=by
 obtain⟨_,its,r,o,h1,h2,n,h3⟩:=(show Dr P w H h a (.tup (ks.map kV)) from ok a _ e);exact⟨o,its.toArray,n,h1,h2,h3,by simpa using Ae5 r⟩
theorem Asu(ok:HOk P w H h)(e:Rd H a (.dT kvs)):kvs.length<=sizeLine/\(a==sysModules)=false/\
  ∃xs,KT H kvs xs/\h.DictOfH (tupleKind (Fv P w)) a xs:=by
 obtain⟨z,y,xs,r,o,es,ep,h1,h2,h3,h4,h5⟩:=(show Dr P w H h a (.dT kvs) from Mu ok e);refine⟨z,y,xs,r,o,es,ep,h1,h2,h3,h4,λx hx=>?_,h5⟩;have all:∀{l:List (List Key×V)} {m:List (List Key×aQ×aJ)},KT H l m->∀x∈m,(tupleKind (Fv P w)).is h x.1 x.2.1:=by
  intro l m q;induction q with
  |nil=>intro x hx;exact nomatch hx
  |@cons p q ps qs hq t ih=>
   intro x hx;rcases bF.mp hx with e|hx
   .subst e;exact Ala ok (by rw[<-hq.1];exact hq.2.1)
   .exact ih x hx
 exact all r x hx
theorem Bim(ok:HOk P w H h)(e:H a=some (.dT kvs)):kvs.length<=sizeLine/\(a==sysModules)=false/\
  ∃xs,KT H kvs xs/\h.DictOfH (tupleKind (Fv P w)) a xs:=Asu ok (.inl e)
end
def Alb(H:Hp)(a:aQ)(y:V)(r:Option V):Prop:=
 (∃kvs k,Rd H a (.dK kvs)/\y=kV k/\r=V1 kvs k)\/∃kvs k b,Rd H a (.dT kvs)/\y=.ref b/\H b=some (.tup (k.map kV))/\r=V1 kvs k
def Apo(H:Hp)(a:aQ)(y v:V)(H':Hp):Prop:=
 (∃kvs k,H a=some (.dK kvs)/\y=kV k/\kvs.length < sizeLine/\H'=upd H a (.dK (putK kvs k v)))\/
 ∃kvs k b,H a=some (.dT kvs)/\y=.ref b/\H b=some (.tup (k.map kV))/\kvs.length < sizeLine/\H'=upd H a (.dT (putK kvs k v))
def Alb.k{H:Hp}{a:aQ}{kvs:List (Key×V)}{k:Key}(e:H a=some (.dK kvs)):Alb H a (kV k) (V1 kvs k):=.inl ⟨kvs,k,.inl e,rfl,rfl⟩
def Apo.k{H:Hp}{a:aQ}{kvs:List (Key×V)}{k:Key}{v:V}(e:H a=some (.dK kvs))(hl:kvs.length < sizeLine):Apo H a (kV k) v (upd H a (.dK (putK kvs k v))):=.inl ⟨kvs,k,e,rfl,hl,rfl⟩
section
theorem Inv.big(I:Inv X aa σ H s):sysModules < s.heap.objs.size:=by
 have h:mainGlobals < s.heap.objs.size:=(I.mod.glob.keeps I.bk).lt;exact vP (by decide) h
theorem App(hu:A.units+1 < cLine)(I:Inv X aa σ H s)(g:Alb H a y (some v))(ry:RelV y u)(h:∀w' s',Inv X aa σ H s'->RelV v w'->Q w' s'):
  wpAny (model X.prog X.w) A (getItem (.ref a) u) Q E s:=by
 rcases g with ⟨kvs,k,e,ey,l⟩|⟨kvs,k,b,e,ey,eb,l⟩
 .subst ey;obtain⟨z,hd,vs,rel,dd⟩:=Ast I.hok e;obtain⟨w',hw,rw'⟩:=Aa4.some_of (v:=v) (o:=valueAt vs k) (by rw[l];exact rel.val k)
  exact wpAny_getItem_of (Anm ry) dd.mapOf hw (h w' _ (I.tok _) rw')
 .subst ey;cases (show u=cL b from ry);obtain⟨z,hd,xs,rel,dd⟩:=Asu I.hok e;obtain⟨w',hw,rw'⟩:=Aa4.some_of (v:=v) (o:=(atKey xs k).map (·.2)) (by rw[l];exact rel.val k)
  obtain⟨p,hp,hp2⟩:=cF.mp hw;refine wpAny_getItem_heap (uV hu) (Ala I.hok eb) dd hp ?_;rw[hp2];exact h w' _ (I.tok _) rw'
theorem Ago{t':Nat}(I:Inv X aa σ H s)(mu:Mut (H a))(hs:lV a s.heap h')(he:∃q,h'.get? a=some q)(new:Dr X.prog X.w (upd H a ob) h' a ob):
  Inv X aa σ (upd H a ob) { s with heap:=h',toks:=t' }:=
 I.write (x:=a) (e:=a) mu (.inl rfl) (λb q hb z=>(hs.2 b hb).trans z) he new
theorem Asv(z:kvs.length<=sizeLine)(hd:(a==sysModules)=false)(rel:KV kvs vs)(dd:h'.DictOf (Fv P w) a vs):
  Dr P w H' h' a (.dK kvs):=⟨z,hd,vs,rel,dd⟩
theorem Apq(hu:A.units+1 < cLine)(I:Inv X aa σ H s)(g:Apo H a y v H')(ry:RelV y u)(rv:RelV v r)(h:∀s',Inv X aa σ H' s'->Q () s'):
  wpAny (model X.prog X.w) A (setItem (.ref a) u r) Q E s:=by
 rcases g with ⟨kvs,k,e,ey,l,eH⟩|⟨kvs,k,b,e,ey,eb,l,eH⟩
 .subst ey eH;obtain⟨z,hd,vs,rel,dd⟩:=Bb3 I.hok e;have hz:vs.length<=sizeLine:=by rw[<-rel.length];exact z
  have hl:(putK kvs k v).length<=sizeLine:=by have:=Qm kvs k v;omega
  refine wpAny_setItem_pairs (hsz:=hz) (Anm ry) dd λh' dd' hs=>h _ ?_;have he:∃q,h'.get? a=some q:=let ⟨q,_,_,hq,_⟩:=dd';⟨q,hq⟩;exact Ago I (by rw[e];exact gK) hs he (Asv hl hd (rel.put k rv) dd')
 .subst ey eH;cases (show u=cL b from ry);obtain⟨z,hd,xs,rel,dd⟩:=Bim I.hok e;have hz:xs.length<=sizeLine:=by rw[<-qF rel];exact z
  have hl:(putK kvs k v).length<=sizeLine:=by have:=Qm kvs k v;omega
  refine wpAny_setItem_heap (hsz:=hz) (uV hu) (Ala I.hok eb) dd λh' dd' hs=>h _ ?_;obtain⟨q,es,ep,hq,h2,h3,h4,_,h5⟩:=dd';refine Ago I (by rw[e];exact gK) hs ⟨q,hq⟩ ⟨hl,hd,_,(rel.put k eb rv).keeps λc ys ec=>?_,q,es,ep,hq,h2,h3,h4,h5⟩
  rw[Bb (Bhn ec e (λz=>nomatch z))];exact ec
end
theorem Aij(I:Inv X aa σ H s)(g:Alb H a y o):s.TypeIs (.ref a) "dict":=by
 rcases g with ⟨kvs,k,e,_,_⟩|⟨kvs,k,b,e,_,_,_⟩
 .obtain⟨_,_,vs,_,dd⟩:=Ast I.hok e;exact dd.typeIs
 .obtain⟨_,_,xs,_,dd⟩:=Asu I.hok e;exact dd.typeIs
def Bb4(td ty tv:TE):TS:=λD σ H=>tv σ H λv H1=>td σ H1 λx H2=>ty σ H2 λy H3=>∃a H4,x=.ref a/\Apo H3 a y v H4/\D.nx σ H4
section
theorem Axq(hu:X.A.units+1 < cLine)(ho:PE X o td)(hi:PE X i ty)(hv:PE X value tv)(hs:swapsWith value (some (.Subscript o i pos')) pos.line X.env=pure false):
  PS X (.Assign [.Subscript o i pos'] value pos) (Bb4 td ty tv):=by
 intro aa s σ H D I h;refine wpAny_Assign_Subscript (thn (hv aa s σ H _ I h) λr s1 ⟨v,H1,I1,rv,q1⟩=>thn (ho aa s1 σ H1 _ I1 q1) λu s2 ⟨x,H2,I2,rx,q2⟩=>thn (hi aa s2 σ H2 _ I2 q2) λiv s3 ⟨y,H3,I3,ry,a,H4,ex,g,q3⟩=>?_) hs;subst ex;obtain rfl:u=cL a:=rx;exact Apq hu I3 g ry rv λs4 I4=>⟨σ,H4,I4,q3⟩
end
theorem Aik(h:dN)(hb:sysModules < h.objs.size):Dr P w H (h.push { cls:=.type "dict",data:=.dict #[] }) h.objs.size (.dK []):=
 ⟨dU _,beq_eq_false_iff_ne.mpr (gO (dC hb)),[],.nil,aBq h⟩
def Bdv:TE:=λ_ H Q=>∀p,H p=none->Q (.ref p) (upd H p (.dK []))
section
theorem Asw:PE X (.Dict [] [] pos) Bdv:=λaa s σ H Q I h=>
 wpAny_Dict_empty ⟨.ref s.heap.objs.size,_,I.laid (a:=s.heap.objs.size) (o:=.dK []) (t':=s.toks) (λ_ _ q=>aP _ q) (aN _) (Aik s.heap I.big),rfl,h _ (I.hok.fresh (aN _))⟩
end
def Agp:List (TE×TE)->St->Hp->(List (V×V)->Hp->Prop)->Prop
 |[],_,H,Q=>Q [] H
 |(tk,tv)::r,σ,H,Q=>tk σ H λx H1=>tv σ H1 λy H2=>Agp r σ H2 λps H3=>Q ((x,y)::ps) H3
abbrev VV:List (V×V)->List (aJ×aJ)->Prop:=qD λp q=>RelV p.1 q.1/\RelV p.2 q.2
def PPs(X:Cx)(pos:Pos)(keys:List (Option cA))(values:List cA)(trs:List (TE×TE)):Prop:=
 ∀(aa:List (aQ×Obj))(s:aZ)(σ:St)(H:Hp)(Q:List (V×V)->Hp->Prop),Inv X aa σ H s->Agp trs σ H Q->
  wpAny (model X.prog X.w) X.A (evalPairs (pairTrees keys values X.env pos)) (λvs s'=>∃ps H',Inv X aa σ H' s'/\VV ps vs/\Q ps H') X.xe s
def Axr:PPs X pos [] [] []:=λaa s σ H Q I h=>pairTrees_nil_walk ⟨[],H,I,.nil,h⟩
theorem Asx(hk:PE X k tk)(hv:PE X v tv)(hr:PPs X pos ks vs trs):
  PPs X pos (some k::ks) (v::vs) ((tk,tv)::trs):=λaa s σ H Q I h=>
 pairTrees_cons_walk (thn (hk aa s σ H _ I h) λu s1 ⟨x,H1,I1,rx,q1⟩=>thn (hv aa s1 σ H1 _ I1 q1) λw2 s2 ⟨y,H2,I2,ry,q2⟩=>
  thn (hr aa s2 σ H2 _ I2 q2) λws s3 ⟨ps,H3,I3,rel,q3⟩=>⟨(x,y)::ps,H3,I3,.cons ⟨rx,ry⟩ rel,q3⟩)
noncomputable def Ks(kvs more:List (Key×V)):List (Key×V):=more.foldl (λacc kv=>putK acc kv.1 kv.2) kvs
theorem KV.merge:∀{more:List (Key×V)} {rs:List (Key×aJ)} {kvs:List (Key×V)} {vs:List (Key×aJ)},KV more rs->KV kvs vs->KV (Ks kvs more) (merged vs rs):=by
 intro more rs kvs vs r;unfold KV at r;induction r generalizing kvs vs with
 |nil=>intro q;exact q
 |@cons p q ps qs h t ih=>
  intro r0;have e:KV (putK kvs p.1 p.2) (stored vs q.1 q.2):=by
   have:=r0.put p.1 h.2;rw[<-h.1];exact this
  exact ih e
theorem Tf:∀(more kvs:List (Key×V)),(Ks kvs more).length<=kvs.length+more.length
 |[],kvs=>by show kvs.length<=kvs.length+0;omega
 |p::r,kvs=>by
  have h1:=Tf r (putK kvs p.1 p.2);have h2:=Qm kvs p.1 p.2;show (Ks (putK kvs p.1 p.2) r).length<=_;rw[aU];omega
theorem Ab6:∀{kvs:List (Key×V)} {ws:List (aJ×aJ)},VV (kvs.map λkv=>(kV kv.1,kv.2)) ws->∃rs,Carries (Fv P w) ws rs/\KV kvs rs
 |[],_,r=>by rw[cT] at r;cases r;exact⟨[],gK,.nil⟩
 |p::kvs,_,r=>by
  rw[aG] at r;cases r with
  |@cons a b as bs h t=>
   obtain⟨rs,c,q⟩:=Ab6 (P:=P) (w:=w) t;obtain⟨b1,b2⟩:=b;exact⟨(p.1,b2)::rs,⟨Anm h.1,rfl,c⟩,.cons ⟨rfl,h.2⟩ q⟩
def Bin(trs:List (TE×TE)):TE:=λσ H Q=>∀p,H p=none->Agp trs σ (upd H p (.dK [])) λps H2=>H2 p=some (.dK [])/\∃kvs:List (Key×V),ps=kvs.map (λkv=>(kV kv.1,kv.2))/\kvs.length<=15/\Q (.ref p) (upd H2 p (.dK (Ks [] kvs)))
theorem Axs(h:PPs X pos keys values trs)(hall:keys.all (·.isSome)=true)(hl:keys.length=values.length)(h0:keys≠[])(h15:keys.length<=15):PE X (.Dict keys values pos) (Bin trs):=by
 intro aa s σ H Q I q;have hn:=I.hok.fresh (aN s.heap.objs.size);have I1:=I.laid (a:=s.heap.objs.size) (o:=.dK []) (h':=s.heap.push { cls:=.type "dict",data:=.dict #[] }) (t':=s.toks) (λ_ _ q=>aP _ q) (aN _) (Aik s.heap I.big);refine wpAny_Dict_walk (knd:=Fv X.prog X.w) hall hl h0 h15 (thn (h aa _ σ _ _ I1 (q _ hn)) λws s2 zz=>?_);obtain⟨ps,H2,I2,rel,e,kvs,ep,lk,q2⟩:=zz;subst ep;obtain⟨rs,c,rk⟩:=Ab6 (P:=X.prog) (w:=X.w) rel;obtain⟨z,hd,vs0,r0,dd⟩:=Bb3 I2.hok e;cases r0;refine⟨rs,c,dd,λh' dd' hs=>⟨.ref s.heap.objs.size,_,?_,rfl,q2⟩⟩;have hz:(Ks [] kvs).length<=sizeLine:=by
  have h1:=Tf kvs [];rw[oG] at h1;rw[oA];omega
 have he:∃q,h'.get? s.heap.objs.size=some q:=let ⟨q,_,_,hq,_⟩:=dd';⟨q,hq⟩;exact Ago I2 (by rw[e];exact gK) hs he (Asv hz hd (rk.merge .nil) dd')
structure M1(X:Cx)(o:cA)(m:Str)(ak:Pos)(e:cA)(cpos:Pos):Prop where
 base:attributeBase o m X.env (eval o X.env)=eval o X.env
 few:((backTo cpos (starEach [e] X.env)).all (λx=>!x.1)&&(backToKw cpos (keywordEach [] X.env)).all (λx=>x.1.isSome)
  &&decide (([e]:List cA).length+([]:List jQ).length+(if ([]:List jQ).isEmpty then 0 else 1) < 30))=true
 line:(ak.endLine==cpos.line)=true
 trees:backTo cpos (starEach [e] X.env)=[(false,eval e X.env)]
structure M2(X:Cx)(o:cA)(m:Str)(ak:Pos)(e f:cA)(cpos:Pos):Prop where
 base:attributeBase o m X.env (eval o X.env)=eval o X.env
 few:((backTo cpos (starEach [e,f] X.env)).all (λx=>!x.1)&&(backToKw cpos (keywordEach [] X.env)).all (λx=>x.1.isSome)
  &&decide (([e,f]:List cA).length+([]:List jQ).length+(if ([]:List jQ).isEmpty then 0 else 1) < 30))=true
 line:(ak.endLine==cpos.line)=true
 trees:backTo cpos (starEach [e,f] X.env)=[(false,eval e X.env),(false,eval f X.env)]
end L2
namespace Att
open PySem PySem.W PySem.Calls PyProof.Rows
theorem Aa5:∀(ns:List Int)(vs:List aJ),WellAll P h vs (ns.map WData.int)->tU vs ns:=by
 intro ns;induction ns with
 |nil=>
  intro vs w;rw[cT] at w;cases w;exact .nil
 |cons n ns ih=>
  intro vs w;rw[aG] at w;cases w with
  |cons a b=>
   cases a;exact .cons _ _ (ih _ b)
theorem Aps{l:OpenLaw}{n:Nat}(hn:l.most=some n){P:Params}{h:dN}{args:List WData}{vals:List aJ}(hpre:l.row.toRowW.claim.pre args=true)(hwl:WellAll P h vals args):
  ∃a vs ns,vals=[cL a]/\args=[WData.list (ns.map WData.int)]/\h.get? a=some { cls:=.type "list",data:=.seq vs.toArray }/\tU vs ns/\ns.length<=n:=by
 have hsh:WShape.hasAll [] args [.list .int]=true:=(pre_splitW hpre).1;have hc:l.pre.holds [] { args:=args }=true:=(pre_splitW hpre).2;obtain⟨d,r,rfl,h1,h2⟩:=hasAllW_cons hsh;obtain rfl:=hasAllW_nil h2;obtain⟨xs,rfl,h3⟩:=hasW_list h1;obtain⟨ns,rfl⟩:=items_int h3;have hlen:ns.length<=n:=by
  unfold OpenLaw.pre at hc;have h4:(WTm.not (.lt (.lit (.int (n:Int))) (.len (.arg 0)))).holds [] { args:=[.list (ns.map .int)] }=true:=by
   have h4:=(holds_andW hc).1;rw[hn] at h4;exact h4
  have h5:=condW_of h4 (w_not (w_lt w_lit (w_len_list (w_arg rfl))));rw[aA] at h5;refine Nat.le_of_not_lt λq=>?_;have q':(n:Int) < ((ns.length:Nat):Int):=by omega
  first
   |(rw[decide_eq_true q'] at h5;exact absurd h5 (by decide))
   |(simp at h5;omega)
 cases hwl with
 |cons w1 w2=>
  cases w2;cases w1 with
  |list ho hall=>exact⟨_,_,ns,rfl,rfl,ho,Aa5 ns _ hall,hlen⟩
theorem Apt(l:OpenLaw)(args:List WData):l.row.toRowW.claim.post args (.bool true) args=true:=
 postW_of (r:=l.row.toRowW) (X:=(true==true))
  (show WShape.has [] (.bool true) .bool=true by first|rfl|decide|simp[WShape.has,WShape.arms,WShape.armsAll])
  (show (WTm.eq .res (.lit (.bool true))).value [] { args:=args,res:=some (.bool true),after:=args }=some (.bool (true==true)) from w_eq_bool (w_res rfl) w_lit) rfl
theorem attach_call{l:OpenLaw}{n:Nat}{q:cP}{loose:List Str}{XP:(Str->Option aJ)->dN->Prop}{YP:dO->dN->Prop}{d:DefRec}(hn:l.most=some n)(hdf:d.params.defaults=[])(call:∀(w:dO)(s₀ s₁:aZ)(mg mb:Str->Option aJ)(fa:aQ)(o:Obj)(pm cd doc:aJ)(a:aQ)(vs:List aJ)(ns:List Int),
   Ground q loose [] XP w s₀ mg mb s₁.heap->YP w s₁.heap->
   s₁.heap.get? fa=some o->o.data=.func (docDef d.name d.params d.body d.scope pm cd doc)->s₁.heap.CodeRec cd d.name->mg d.name=some (.ref fa)->
   s₁.heap.get? a=some { cls:=.type "list",data:=.seq vs.toArray }->tU vs ns->ns.length<=n->s₁.gens=#[]->
   codeAny (model l.prog w) callerA (.call (.ref fa) ⟨[.ref a],[]⟩) (λr s'=>r=.ok (.ret (.bool true))/\OldK s₁.heap s'.heap/\s'.os=s₁.os/\oX s'.gens) s₁):
  WalkO q loose XP YP l.row.toRowW d [] (λf vs=>yI f vs):=by
 intro w s₀ s₁ mg mb G yY fa o pm cd doc dV kV ho hd hcd hD hmg hg args vals as hpre hlay hrd hwl hlo;obtain rfl:dV=.none:=Dflts.none hD hdf;obtain rfl:kV=.none:=Dflts.noKw hD;obtain⟨a,vs,ns,rfl,rfl,hobj,hints,hlen⟩:=Aps hn hpre hwl;refine enter_call (oZ (call w s₀ s₁ mg mb fa o pm cd doc a vs ns G yY ho (fd_plain hd) hcd hmg hobj hints hlen hg) λr s' hq=>?_);obtain⟨rfl,h2,h3,h4⟩:=hq;exact⟨.inl ⟨.bool true,.bool true,[],rfl,λ_=>rfl,.bool true,Apt l _,λ_=>⟨aBj,λ_ hm=>(nomatch hm)⟩⟩,h2,h3,h4⟩
end Att
namespace L2
open PySem PySem.Spec PyProof.Rows
theorem Ae6:∀{vs:List aJ} {ns:List Int},tU vs ns->Vals (ns.map V.int) vs
 |_,_,.nil=>.nil
 |_,_,.cons n t h=>.cons ⟨t,rfl⟩ (Ae6 h)
def Only(H:Hp):Prop:=∀b,H b=none\/∃o xs,H b=some (.frz o (.lst xs))
theorem Asy{P:cP}{w:dO}{K:aF}{mg mb:Str->Option aJ}{CX:CXT}{k:Nat}{fa a:aQ}{fd:eO}{x:Str}{sp:Sp}{s₁:aZ}{vs:List aJ}{ns:List Int}(KX:K.In s₁.heap)(hns:s₁.heap.Ns mainGlobals mg)(hb:s₁.heap.Ns builtinsNs mb)(hbb:∀x:Str,x≠"__name__"->mb x=bootBuiltins x)(hlim:s₁.heap.NoLimit)(hg:s₁.gens=#[])(ha:s₁.heap.get? a=some { cls:=.type "list",data:=.seq vs.toArray })(hi:tU vs ns)(hl:ns.length<=sizeLine)(hr:Im k callerA)(F:∀base:dN,K.In base->base.Ns mainGlobals mg->Io P w K mg base CX k fa fd [x] sp)(hbind:∀(s:aZ)(u:aJ),vN s fd ⟨[u],[]⟩ [(x,u)])(hsp:∀H:Hp,Only H->SqL K H a (ns.map V.int)->sp [.ref a] H (λv _=>v=.bl true) λ_ _ _=>False)(hCX:∀H e s',CX [] H s₁ (λ_ _ _=>False) e s'->False):
  codeAny (model P w) callerA (.call (.ref fa) ⟨[.ref a],[]⟩) (λr s'=>r=.ok (.ret (.bool true))/\OldK s₁.heap s'.heap/\s'.os=s₁.os/\oX s'.gens) s₁:=by
 have rv:=Ae6 hi;have lenV:=hi.length;have core:∀H:Hp,Only H->SqL K H a (ns.map V.int)->HOk P w H s₁.heap->(∀b,H b≠none->b=a)->(H a≠none->K.lookup a=none)->
   codeAny (model P w) callerA (.call (.ref fa) ⟨[.ref a],[]⟩) (λr s'=>r=.ok (.ret (.bool true))/\OldK s₁.heap s'.heap/\s'.os=s₁.os/\oX s'.gens) s₁:=by
  intro H hO hS hok hA hK;have base_of:∀{b:aQ} {o:Obj},s₁.heap.get? b=some o->H b=none->(Agh s₁.heap H).get? b=some o:=λe n=>Asd e n;have noA:∀{b:aQ} {o:Obj} {es:Array DictEntry} {ep:Nat},s₁.heap.get? b=some o->o.data=.dict es ep->H b=none:=λ{b o es ep} e d=>by
   cases q:H b with
   |none=>rfl
   |some u=>
    have e':b=a:=hA b (by rw[q];simp)
    subst e';rw[ha] at e;cases e;have d':aAm vs.toArray _=Data.dict es ep:=d;cases d'
  have nsK:∀{b:aQ} {m:Str->Option aJ},s₁.heap.Ns b m->(Agh s₁.heap H).Ns b m:=λ{b m} ⟨o,es,ep,e,d,r⟩=>⟨o,es,ep,base_of e (noA e d),d,r⟩;have hKb:K.In (Agh s₁.heap H):=λb o e=>base_of (KX b o e) (by
   cases q:H b with
   |none=>rfl
   |some u=>
    have e':b=a:=hA b (by rw[q];simp)
    subst e';rw[hK (by rw[q];simp)] at e;cases e)
  have hM:Mod K mg (Agh s₁.heap H):=⟨hKb,nsK hns,⟨mb,nsK hb,hbb⟩,let ⟨mc,h1,h2⟩:=hlim;⟨mc,nsK h1,h2⟩⟩;have e0:Ak6 P w K mg (Agh s₁.heap H) callerA [] s₁ H:=⟨rfl,hM,λb o e=>Aw3 e,pA (Apb _ _),trivial,λb hb=>absurd (show b∈([]:List aQ) from hb) (by simp),hok,.of_eq hg⟩
  refine oZ ((F _ hKb (nsK hns)).run callerA [] s₁ H ⟨[.ref a],[]⟩ [.ref a] [.ref a] _ _ hr e0 (hbind s₁ (.ref a)) (.cons rfl .nil) (hsp H hO hS)) λr s' h=>?_;cases r with
  |error e=>exact(hCX H e s' h).elim
  |ok fl=>
   cases fl with
   |next=>exact fG h
   |brk=>exact fG h
   |cont=>exact fG h
   |ret u=>
    obtain⟨v,H',os,bare,un,hok',r',q⟩:=h;have q':v=.bl true:=q;subst q';obtain rfl:u=uR true:=r';refine⟨rfl,OldK.of_keep λb o e=>?_,os,bare⟩;cases q:H b with
    |none=>exact un.keep b o e q (by intro z;exact absurd (show b∈([]:List aQ) from z) (by simp)) (by simp)
    |some u=>
     rcases hO b with z|⟨ob,xs,z⟩
     .rw[q] at z;cases z
     .have z2:=un.frzs b ob _ z;obtain⟨e1,_⟩:=hok b _ z;obtain⟨e2,_⟩:=hok' b _ z2;rw[e] at e1;cases e1;exact e2
 cases hk:K.lookup a with
 |some o=>
  have e:=KX a o hk;rw[ha] at e;cases e;refine core (λ_=>none) (λ_=>.inl rfl) (.inr ⟨_,vs.toArray,_,hk,rfl,rfl,rfl,by rw[bD,lenV];exact hl,by simpa using rv⟩) (λb u z=>by have z':(none:Option HO)=some u:=z;cases z') (λb z=>absurd rfl z) λz=>absurd rfl z
 |none=>
  refine core (λb=>if b=a then some (.frz { cls:=.type "list",data:=.seq vs.toArray } (.lst (ns.map V.int))) else none) (λb=>?_) (.inl (.inr ⟨{ cls:=.type "list",data:=.seq vs.toArray },if_pos rfl⟩)) (λb u z=>?_) (λb z=>?_) λ_=>hk
  .by_cases hb:b=a
   .exact .inr ⟨_,_,if_pos hb⟩
   .exact .inl (if_neg hb)
  .by_cases hb:b=a
   .have z':=(if_pos hb).symm.trans z;cases z';subst hb;exact⟨ha,by rw[aA];exact hl,vs,_,rv,ha⟩
   .have z':=(if_neg hb).symm.trans z;cases z'
  .by_cases hb:b=a
   .exact hb
   .exact absurd (if_neg hb) z
theorem Axt{l:rY}{n k:Nat}{q:cP}{loose:List Str}{XP:(Str->Option aJ)->dN->Prop}{YP:dO->dN->Prop}{d:DefRec}{K:Params->aF}{CX:dO->CXT}{sp:dO->Sp}{x:Str}(hn:l.most=some n)(hn2:n<=sizeLine)(hdf:d.params.defaults=[])(hr:Im k callerA)(hY:∀(w:dO)(h:dN),YP w h->(K w.params).In h)(F:∀(w:dO)(mg:Str->Option aJ)(fa:aQ)(h:dN),(K w.params).In h->h.Ns mainGlobals mg->mg d.name=some (.ref fa)->
   ∃fd:eO,(∀(s:aZ)(u:aJ),vN s fd ⟨[u],[]⟩ [(x,u)])/\
    ∀base:dN,(K w.params).In base->base.Ns mainGlobals mg->Io l.prog w (K w.params) mg base (CX w) k fa fd [x] (sp w))(hsp:∀(w:dO)(H:Hp)(a:aQ)(ns:List Int),ns.length<=n->Only H->SqL (K w.params) H a (ns.map V.int)->sp w [.ref a] H (λv _=>v=.bl true) λ_ _ _=>False)(hCX:∀(w:dO)(H:Hp)(s:aZ)(e:aJ)(s':aZ),CX w [] H s (λ_ _ _=>False) e s'->False):
  zF q loose XP YP l.row.toRowW d [] (λf vs=>yI f vs):=by
 refine Att.attach_call hn hdf λw s₀ s₁ mg mb fa o pm cd doc a vs ns G yY ho hd hcd hmg hobj hints hlen hg=>?_;have KX:=hY w _ yY;obtain⟨fd,hb,hF⟩:=F w mg fa _ KX G.T.g hmg;exact Asy KX G.T.g G.T.b G.T.builtins G.T.nolimit hg hobj hints (aD hlen hn2) hr hF hb (λH hO hS=>hsp w H a ns hlen hO hS) λH e s'=>hCX w H s₁ e s'
def inClass(s:dG)(j:Nat):dG:=match s with
 |.ClassDef _ _ _ body _ _ _ _ _ _ _=>body.getD j (.Pass ⟨0,0,0,0⟩)
 |_=>.Pass ⟨0,0,0,0⟩
def Fw(s:dG):Arguments:=match s with
 |.FunctionDef _ a _ _ _ _ _ _ _ _=>a
 |_=>{ posonlyargs:=[],args:=[],vararg:=none,kwonlyargs:=[],kw_defaults:=[],kwarg:=none,defaults:=[] }
def Ax(s:dG):List dG:=match s with
 |.FunctionDef _ _ b _ _ _ _ _ _ _=>b
 |_=>[]
def Am(s:dG):kW:=match s with
 |.FunctionDef _ _ _ _ _ _ sc _ _ _=>sc
 |_=>{ kind:=.function,names:=[],isGenerator:=false,isCoroutine:=false }
abbrev E0:XK:=λ_ _ _=>False
structure Fun(K:aF)(x aj:Str)(st:dG)(f:aQ)(fd:eO):Prop where
 ex:∃(oc:aJ)(od:Option aQ)(dV kV doc pm:aJ)(an:Option aQ)(cdv ct:aJ)(osl:Array (Option aJ)),
  fd=dD x aj (Fw st) (Ax st) (Am st) dV kV doc pm an cdv ct/\K.lookup f=some ⟨oc,od,.func fd,osl⟩/\lJ K cdv aj=true
 kp:fM K (.ref f)=true
section
def Ail{K:aF}{x aj:Str}{st:dG}{ps:List Str}{an:Option aQ}{kV doc pm cdv ct:aJ}(h:∀us:List aJ,us.length=ps.length->bindArgs (dD x aj (Fw st) (Ax st) (Am st) .none kV doc pm an cdv ct) ⟨us,[]⟩=pure (ps.zip us)):Binds K (dD x aj (Fw st) (Ax st) (Am st) .none kV doc pm an cdv ct) ps []:=.all h
def Alc{K:aF}{x aj:Str}{st:dG}{f:aQ}{oc:aJ}{od an:Option aQ}{osl:Array (Option aJ)}{dV kV doc pm cdv ct:aJ}(l:K.lookup f=some ⟨oc,od,.func (dD x aj (Fw st) (Ax st) (Am st) dV kV doc pm an cdv ct),osl⟩)(c:lJ K cdv aj=true)(k:fM K (.ref f)=true):Fun K x aj st f (dD x aj (Fw st) (Ax st) (Am st) dV kV doc pm an cdv ct):=⟨⟨oc,od,dV,kV,doc,pm,an,cdv,ct,osl,rfl,l,c⟩,k⟩
end
theorem Aim{A B:Prop}(h:B):if false=true then A else B:=by
 rw[if_neg bH];exact h
theorem Agq{A B:Prop}(h:A):if true=true then A else B:=by
 rw[if_pos rfl];exact h
def Qn(n:Nat)(h:dN)(e:aQ)(od:Option aQ):Prop:=∃oe vs,h.get? e=some oe/\oe.data=.fields vs/\(n=0->vs[2]?=some .none)/\oe.dict=od
theorem Asz(ob:Obj):(mO f ob).dict=ob.dict:=by
 obtain⟨c,d,dt,sl⟩:=ob;cases dt <;> rfl
section
variable{M:Model}{A:fV}{E:aJ->aZ->Prop}{s:aZ}{n:Nat}{od:Option aQ}
theorem Bb5(fr:A.frames=some (env::outer))(ff:s.heap.FunFrames B (env::outer))(fL:env.frame=some L)(at_:s.heap.get? e=some ob)(kB:B.StaysIn s.heap)(nB:B.get? e=none)(dt:ob.data=.fields vs)(sz:1 < vs.size)(v0:vs[0]?=some a0)(v2:n=0->vs[2]?=some .none)(k:∀g,wZ B (env::outer) e ob.cls a0 (rawInt L) s.heap g->Qn n g e ob.dict->Q () { s with heap:=g }):
  wpAny M A (do let a<-frameOf env;let pl<-entryPlaceOf L nx;let b<-tY hd a .none (rawInt L) .none pl;setField (.ref e) 1 b) Q E s:=by
 have off:e∉(env::outer).filterMap (·.frame):=λz=>by
  obtain⟨_,o,q,n⟩:=ff.mem z;rw[at_] at q;exact n vs (by rw[<-bV q];exact dt)
 refine aB (wpAny_frameOf_fun fr ff fL λg1 only=>?_);refine aB (wpAny_entryPlaceOf λpl hpl=>?_);unfold tY newFields;refine aB (dI ?_ (hpl.sizeOk5 _ _ _ _ _));generalize hT:({ cls:=.type "traceback",dict:=none,data:=.fields ([hd,.ref L,.none,rawInt L,.none] ++ (if pl.isEmpty then bG 6 gW else pl)).toArray }:Obj)=tb
 have q1:g1.get? e=some ob:=(only.2.1 e off).trans at_;have kB1:B.StaysIn g1:=λb o z=>(only.2.1 b λw=>by rw[(ff.mem w).1] at z;cases z).trans (kB b o z)
 have q2:(g1.push tb).get? e=some ob:=aP tb q1;refine pM q2 dt sz ?_;have ne:g1.objs.size≠e:=qY (bN q1);have d3:=jR dt (·.setIfInBounds 1 (cL g1.objs.size));have q3:=jB (mO (·.setIfInBounds 1 (cL g1.objs.size))) q2 (nP d3);have t3:=(fY (g1.push tb) (mO (·.setIfInBounds 1 (cL g1.objs.size))) (gO ne)).trans (bO g1 (by rw[<-hT];rfl))
 have stay:∀b o,b≠e->g1.get? b=some o->((g1.push tb).update e (mO (·.setIfInBounds 1 (cL g1.objs.size)))).get? b=some o:=λb o n z=>(fY _ _ (gO n)).trans (aP tb z);have nrec:∀b o,s.heap.get? b=some o->(∀us,o.data≠.fields us)->b≠e:=λb o z n w=>by
  subst w;rw[at_] at z;exact n vs (by rw[<-bV z];exact dt)
 refine k _ ⟨λb o z=>stay b o (λw=>by rw[w,nB] at z;cases z) (kB1 b o z),ff.of_keeps λb o z n=>?_,?_,λb o z n=>?_⟩ ⟨_,_,q3,d3,λz=>by rw[nO (by decide)];exact v2 z,Asz ob⟩
 .obtain⟨sl,w⟩:=only.2.2 b o z;exact⟨_,stay b _ (nrec b o z n) w,rfl⟩
 .refine⟨_,_,g1.objs.size,_,_,q3,⟨vQ _ _,by rw[nO (by decide)];exact v0⟩,d3,by simp[sz],kB1.fresh,ne,t3,by rw[<-hT],?_⟩
  first
   |(simp;done)
   |(rcases hpl with rfl|⟨_,_,_,_,_,_,_,rfl⟩ <;> simp)
 .obtain⟨sl,w⟩:=only.2.2 b o z;exact⟨sl,stay b _ (nrec b o z n) w⟩
theorem Ald(kB:B.StaysIn s.heap)(ff:s.heap.FunFrames B l)(tr:s.heap.TracedAtW B e cls a0 fl)(cx:Qn n s.heap e od)(k:∀g,B.StaysIn g->g.FunFrames B l->g.TracedW B e cls a0->Qn n g e od->s.heap.UpToSlots g->Q () { s with heap:=g }):wpAny M A (setFlight (.ref e) none) Q E s:=by
 obtain⟨oe,vs,T,oT,ts,q1,hc,dt,v1,nT,nTe,qT,dT,t3⟩:=tr;obtain⟨oe',vs',c1,c2,c3,c4⟩:=cx;rw[q1] at c1;obtain rfl:=bV c1;rw[dt] at c2;obtain rfl:vs=vs':=by injection c2
 have s3:3 < ts.size:=(iU.mp t3).1;have oth:∀b,b≠T->(s.heap.update T (mO (·.setIfInBounds 3 .none))).get? b=s.heap.get? b:=λb n=>fY _ _ (gO n);have nrec:∀b o,s.heap.get? b=some o->(∀us,o.data≠.fields us)->b≠T:=λb o z n w=>by
  subst w;rw[qT] at z;exact n ts (by rw[<-bV z];exact dT)
 have q2:=(oth e (gO nTe)).trans q1;refine wpAny_setFlight_none q1 dt v1 qT dT s3 (k _ (λb o z=>(oth b λw=>by rw[w,nT] at z;cases z).trans (kB b o z)) (ff.of_keeps λb o z n=>⟨o,(oth b (nrec b o z n)).trans z,rfl⟩) ?_ ⟨_,_,q2,dt,c3,c4⟩ λb o z n=>⟨o.slots,(oth b (nrec b o z n)).trans z⟩)
 exact⟨oe,vs,T,_,_,q2,hc,dt,v1,nT,nTe,jB _ qT (nP (jR dT _)),jR dT _,by simp[s3]⟩
theorem Bdw(fr:A.frames=some (env::outer))(ff:s.heap.FunFrames B (env::outer))(fL:env.frame=some L)(at_:s.heap.get? e=some ob)(kB:B.StaysIn s.heap)(nB:B.get? e=none)(dt:ob.data=.fields vs)(v1:vs[1]?=some .none)(v0:vs[0]?=some a0)(v2:n=0->vs[2]?=some .none)(k:∀g,wZ B (env::outer) e ob.cls a0 (rawInt L) s.heap g->Qn n g e ob.dict->Q () { s with heap:=g }):wpAny M A (noteFrame (.ref e) env) Q E s:=by
 unfold noteFrame;simp only[fL];refine aB (dF at_ dt v1 ?_);rw[if_neg (by decide)]
 exact Bb5 fr ff fL at_ kB nB dt (iU.mp v1).1 v0 v2 k
theorem As0(fr:A.frames=some (env::outer))(ff:s.heap.FunFrames B (env::outer))(fL:env.frame=some L)(tr:s.heap.TracedW B e cls a0)(kB:B.StaysIn s.heap)(nB:B.get? e=none)(cx:Qn n s.heap e od)(k:∀g,wZ B (env::outer) e cls a0 (rawInt L) s.heap g->Qn n g e od->Q () { s with heap:=g }):wpAny M A (noteFrame (.ref e) env) Q E s:=by
 obtain⟨oe,vs,T,oT,ts,q1,⟨hc,v0⟩,dt,v1,nT,nTe,qT,dT,t3⟩:=tr;obtain⟨oe',vs',c1,c2,c3,c4⟩:=cx;rw[q1] at c1;obtain rfl:=bV c1;rw[dt] at c2;obtain rfl:vs=vs':=by injection c2
 subst hc;subst c4;unfold noteFrame;simp only[fL];refine aB (dF q1 dt v1 ?_);rw[if_pos (show (cL T != gW)=true by simp)]
 refine aB (dF qT dT t3 ?_);rw[if_neg (show ¬ ((gW==rawInt L)=true) by simp[rawInt])]
 refine aB (pM qT dT (iU.mp t3).1 ?_);have oth:∀b,b≠T->(s.heap.update T (mO (·.setIfInBounds 3 gW))).get? b=s.heap.get? b:=λb n=>fY _ _ (gO n);have nrec:∀b o,s.heap.get? b=some o->(∀us,o.data≠.fields us)->b≠T:=λb o z n w=>by
  subst w;rw[qT] at z;exact n ts (by rw[<-bV z];exact dT)
 refine Bb5 fr (ff.of_keeps λb o z n=>⟨o,(oth b (nrec b o z n)).trans z,rfl⟩) fL ((oth e (gO nTe)).trans q1) (λb o z=>(oth b λw=>by rw[w,nT] at z;cases z).trans (kB b o z)) nB dt (iU.mp v1).1 v0 c3 λg N cx=>k g ⟨N.1,N.2.1,N.2.2.1,λb o z n=>N.2.2.2 b o ((oth b (nrec b o z n)).trans z) n⟩ cx
theorem Ann(fr:A.frames=some (env::outer))(ff:s.heap.FunFrames B (env::outer))(fL:env.frame=some L)(at_:s.heap.get? e=some ob)(kB:B.StaysIn s.heap)(nB:B.get? e=none)(dt:ob.data=.fields vs)(v1:vs[1]?=some .none)(v0:vs[0]?=some a0)(v2:n=0->vs[2]?=some .none)(k:∀g,Heap.LeftW B (env::outer) e ob.cls a0 s.heap g->Qn n g e ob.dict->Q () { s with heap:=g }):wpAny M A (leaving env (.ref e)) Q E s:=by
 unfold leaving;refine aB (Bdw fr ff fL at_ kB nB dt v1 v0 v2 λg N cx=>?_);exact Ald (s:={ s with heap:=g }) N.1 N.2.1 N.2.2.1 cx λg2 x1 x2 x3 x4 x5=>k g2 ⟨x1,x2,x3,λb o z n=>by
  obtain⟨sl,w⟩:=N.2.2.2 b o z n;obtain⟨sl2,w2⟩:=x5 b _ w n;exact⟨sl2,w2⟩⟩ x4
theorem Axu(fr:A.frames=some (env::outer))(fL:env.frame=some L)(fl:iH B (env::outer) e cls a0 s.heap)(cx:Qn n s.heap e od)(k:∀g,iH B outer e cls a0 g->Qn n g e od->s.heap.UpToSlots g->Q () { s with heap:=g }):wpAny M A (leaving env (.ref e)) Q E s:=by
 obtain⟨f1,f2,f3,f4⟩:=fl;unfold leaving;refine aB (As0 fr f3 fL f4 f1 f2 cx λg N cx2=>?_);exact Ald (s:={ s with heap:=g }) N.1 N.2.1 N.2.2.1 cx2 λg2 x1 x2 x3 x4 x5=>by
  obtain⟨_,_,x2'⟩:=x2;exact k g2 ⟨x1,f2,x2',x3⟩ x4 λb o z n=>by
   obtain⟨sl,w⟩:=N.2.2.2 b o z n;obtain⟨sl2,w2⟩:=x5 b _ w n;exact⟨sl2,w2⟩
def okX(o:Option (Nat×Option aQ))(h:dN)(e:aQ):Prop:=∀n od,o=some (n,od)->Qn n h e od
theorem Qn.ok{n:Nat}(c:Qn 0 h e od):okX (some (n,od)) h e:=λ_ _ z=>by
 cases z;obtain⟨oe,vs,h1,h2,h3,h4⟩:=c;exact⟨oe,vs,h1,h2,λ_=>h3 rfl,h4⟩
theorem okX.none:okX none h e:=λ_ _ z=>nomatch z
theorem Qn.okS{n:Nat}(c:Qn n h e od):okX (some (n,od)) h e:=λ_ _ z=>by cases z;exact c
theorem Bdx{o:Option (Nat×Option aQ)}(fr:A.frames=some (env::outer))(fL:env.frame=some L)(fl:iH B (env::outer) e cls a0 s.heap)(ox:okX o s.heap e)(k:∀g,iH B outer e cls a0 g->okX o g e->s.heap.UpToSlots g->Q () { s with heap:=g }):wpAny M A (leaving env (.ref e)) Q E s:=by
 cases o with
 |none=>exact wpAny_leaves_onW fr fL fl λg f sm=>k g f okX.none sm
 |some p=>exact Axu fr fL fl (ox p.1 p.2 rfl) λg f cx sm=>k g f cx.okS sm
theorem Bdy{o:Option (Nat×Option aQ)}(fr:A.frames=some (env::outer))(fL:env.frame=some L)(fl:iH B (env::outer) e cls a0 s.heap)(ox:okX o s.heap e)(k:∀g,Heap.HeldW B (env::outer) e cls a0 L g->okX o g e->s.heap.UpToSlots g->Q () { s with heap:=g }):wpAny M A (noteFrame (.ref e) env) Q E s:=by
 obtain⟨f1,f2,f3,f4⟩:=fl;cases o with
 |none=>exact wpAny_looks_onW fr fL ⟨f1,f2,f3,f4⟩ λg f sm=>k g f okX.none sm
 |some p=>exact As0 fr f3 fL f4 f1 f2 (ox p.1 p.2 rfl) λg N cx=>k g ⟨N.1,f2,N.2.1,N.2.2.1⟩ cx.okS N.2.2.2
theorem As1{o:Option (Nat×Option aQ)}(kB:B.StaysIn s.heap)(nB:B.get? e=none)(ff:s.heap.FunFrames B l)(tr:s.heap.TracedAtW B e cls a0 fl)(ox:okX o s.heap e)(k:∀g,iH B l e cls a0 g->okX o g e->s.heap.UpToSlots g->Q () { s with heap:=g }):wpAny M A (setFlight (.ref e) none) Q E s:=by
 cases o with
 |none=>exact wpAny_setFlight_noneW kB ff tr λg x1 x2 x3 x4=>k g ⟨x1,nB,x2,x3⟩ okX.none λb ob hb hn=>⟨ob.slots,x4 b ob hb hn⟩
 |some p=>exact Ald kB ff tr (ox p.1 p.2 rfl) λg x1 x2 x3 cx sm=>k g ⟨x1,nB,x2,x3⟩ cx.okS sm
theorem Bdz(fr:A.frames=some (env::outer))(fL:env.frame=some L)(kB:B.StaysIn h)(ff:h.FunFrames B (env::outer))(hx:lN h s.heap e cls args)(k:∀g t,iH B outer e cls (.ref t) g->Qn 0 g e none->s.heap.UpToSlots g->Q () { s with heap:=g }):wpAny M A (leaving env (.ref e)) Q E s:=by
 obtain⟨t,q1,_,_⟩:=hx.there;have nB:B.get? e=none:=by
  cases z:B.get? e with
  |none=>rfl
  |some o=>
   have w:=kB e o z;rw[hx.new] at w;cases w
 refine Ann (n:=0) (a0:=.ref t) fr (ff.of_keeps λb o z _=>⟨o,hx.keeps b o z,rfl⟩) fL q1 (λb o z=>hx.keeps b o (kB b o z)) nB rfl rfl rfl (λ_=>rfl) λg hL cx=>?_;obtain⟨k1,⟨_,_,k2⟩,k3,k4⟩:=hL;exact k g t ⟨k1,nB,k2,k3⟩ cx k4
end
theorem Dr.there(x:Dr P w H h a o):∃ob,h.get? a=some ob:=by
 cases o with
 |lst xs=>obtain⟨_,_,_,_,e⟩:=x;exact⟨_,e⟩
 |tup xs=>obtain⟨_,_,_,ob,e,_⟩:=x;exact⟨_,e⟩
 |dK kvs=>obtain⟨_,_,_,_,o,_,_,e,_⟩:=x;exact⟨_,e⟩
 |dT kvs=>obtain⟨_,_,_,_,o,_,_,e,_⟩:=x;exact⟨_,e⟩
 |set S n=>obtain⟨o,_,_,_,e,_⟩:=x;exact⟨_,e⟩
 |ins C dx fs=>obtain⟨_,_,_,e,_⟩:=x;exact⟨_,e⟩
 |own y=>exact x
 |xd fs=>obtain⟨_,⟨_,_,_,e,_⟩,_⟩:=x;exact⟨_,e⟩
 |rng lo hi=>obtain⟨_,_,_,e⟩:=x;exact⟨_,e⟩
 |frz ob u=>obtain⟨e,_⟩:=x;exact⟨_,e⟩
 |tbl ps=>exact⟨_,(show h.get? a=some _ from x)⟩
 |met f y=>exact⟨_,(show h.get? a=some _ from x)⟩
 |ext φ=>obtain⟨_,z,_⟩:=x;exact z
structure Fly(P:cP)(w:dO)(outer:List Env)(H:Hp)(s:aZ)(H':Hp)(e:aQ)(cls:aJ)(s':aZ):Prop where
 os:s'.os=s.os
 bare:oX s'.gens
 un:Un (frs outer) [] H H' s.heap s'.heap
 hok:HOk P w H' s'.heap
 new:s.heap.get? e=none
 fre:H' e=none
 fly:∃(B:dN)(a0:aJ),iH B outer e cls a0 s'.heap/\(∀b o,s.heap.get? b=some o->H b=none->b∉frs outer->B.get? b=some o)/\
  (∀b o,s.heap.get? b=some o->b∉frs outer->∃o',B.get? b=some o')/\∀a u o,H' a=some u->s'.heap.get? a=some o->B.get? a=some o
def CXo(P:cP)(w:dO):CXT:=λouter H s E e s'=>∃(ea:aQ)(cls:aJ)(H':Hp)(o:Option (Nat×Option aQ)),e=cL ea/\Fly P w outer H s H' ea cls s'/\okX o s'.heap ea/\E cls o H'
section
variable{X:Cx}{aa:List (aQ×Obj)}{σ:St}{H H':Hp}{s s':aZ}
theorem Inv.notStk(I:Inv X aa σ H s)(e:X.s₀.heap.get? b=some o)(hb:b∉X.fs):b∉frs X.stack:=λz=>by
 rcases bF.mp (I.stkSub b z) with q|q
 .exact absurd (bM (bN e) (by rw[q];exact I.ok.above)) (fK _)
 .exact hb q
theorem Inv.fsStk(I:Inv X aa σ H s)(hs:X.stack=X.env::X.outer):∀b∈X.fs,b∈frs X.stack:=λb hb=>by
 rw[hs];unfold frs;obtain⟨env,he,hf⟩:=gJ.mp hb;exact gJ.mpr ⟨env,bF.mpr (.inr he),hf⟩
theorem Inv.locStk(I:Inv X aa σ H s)(hs:X.stack=X.env::X.outer)(hf:X.env.frame=some X.env.locals):X.env.locals∈frs X.stack:=by
 rw[hs];exact gJ.mpr ⟨X.env,bF.mpr (.inl rfl),hf⟩
theorem Inv.fly_made(I:Inv X aa σ H s)(bh:X.stack=X.env::X.outer)(hfr:X.env.frame=some X.env.locals)(hex:X.ex=[])(hx:lN s.heap h' e cls args)(k:∀h'':dN,Fly X.prog X.w X.outer X.H₀ X.s₀ H e cls { s with heap:=h'' }->Qn 0 h'' e none->Q () { s with heap:=h'' }):wpAny M X.A (leaving X.env (.ref e)) Q E { s with heap:=h' }:=by
 have hin:∀env∈X.stack,∀a,env.frame=some a->a∈frs X.stack:=λenv he a ha=>gJ.mpr ⟨env,he,ha⟩;have st:(gY s.heap (frs X.stack)).StaysIn s.heap:=λb o q=>pG _ q;have ff:s.heap.FunFrames (gY s.heap (frs X.stack)) X.stack:=rG I.stack hin;have noex:∀b,b∉X.ex:=λb z=>by rw[hex] at z;exact absurd z (by simp)
 have ff:s.heap.FunFrames (gY s.heap (frs X.stack)) (X.env::X.outer):=by rw[<-bh];exact ff
 refine Bdz (s:={ s with heap:=h' }) (B:=gY s.heap (frs X.stack)) (h:=s.heap) (by rw[I.ok.frames,bh]) hfr st ff hx λh'' t x1 cx x4=>k h'' ?_ cx
 have x4:h'.UpToSlots h'':=x4;have keepB:∀b o,s.heap.get? b=some o->b∉frs X.stack->h''.get? b=some o:=λb o q n=>x1.1 b o (eX _ q n);have frm:∀b o,s.heap.get? b=some o->b∈frs X.stack->∃sl,h''.get? b=some { o with slots:=sl }:=λb o q hb=>by
  obtain⟨_,o',q',nf⟩:=I.stack.mem hb;rw[q] at q';cases q';exact x4 b o (hx.keeps b o q) nf
 refine⟨I.os,I.bare,⟨λb o q n hb _=>?_,λb o q n hb _=>?_,λb o q n _=>I.base.free b o q n (noex b),λb o q _=>?_,I.base.tups,I.base.frzs,I.base.tbls⟩,λa u q=>?_,?_,?_,?_⟩
 .exact keepB b o (I.base.keep b o q n hb (noex b)) (I.notStk q hb)
 .obtain⟨sl,q1⟩:=I.base.slot b o q n hb (noex b);obtain⟨sl',q2⟩:=frm b _ q1 (I.fsStk bh b hb);exact⟨sl',q2⟩
 .obtain⟨o',q1⟩:=I.base.there b o q (noex b);by_cases hb:b∈frs X.stack
  .obtain⟨sl,q2⟩:=frm b o' q1 hb;exact⟨_,q2⟩
  .exact⟨o',keepB b o' q1 hb⟩
 .refine(I.hok a u q).stay (λb v hb z=>keepB b v z λm=>?_) (λ_ z=>z) λ_ _ z=>z;have n:=I.stkFree b m;rcases hb with rfl|hb
  .rw[n] at q;cases q
  .rw[n] at hb;cases hb
 .cases q:X.s₀.heap.get? e with
  |none=>rfl
  |some o=>
   obtain⟨o',q1⟩:=I.base.there e o q (noex e);rw[hx.new] at q1;cases q1
 .cases q:H e with
  |none=>rfl
  |some u=>
   obtain⟨o',q1⟩:=(I.hok e u q).there;rw[hx.new] at q1;cases q1
 .refine⟨_,_,x1,λb o q n hb=>eX _ (I.base.keep b o q n hb (noex b)) (I.notStk q hb),λb o q hb=>?_,λa u o q z=>?_⟩
  .obtain⟨o',q1⟩:=I.base.there b o q (noex b);exact⟨o',eX _ q1 (I.notStk q hb)⟩
  .obtain⟨ob,q1⟩:=(I.hok a u q).there;have q2:=eX (frs X.stack) q1 λm=>by
    have n:=I.stkFree a m;rw[n] at q;cases q
   have q3:=x1.1 a ob q2;have z:h''.get? a=some o:=z;rw[q3] at z;cases z;exact q2
theorem Inv.fly_on(I:Inv X aa σ H s)(bh:X.stack=X.env::X.outer)(hfr:X.env.frame=some X.env.locals)(hex:X.ex=[])(F:Fly X.prog X.w X.stack H s H' e cls s'){o:Option (Nat×Option aQ)}(ox:okX o s'.heap e)(k:∀h'':dN,Fly X.prog X.w X.outer X.H₀ X.s₀ H' e cls { s' with heap:=h'' }->okX o h'' e->Q () { s' with heap:=h'' }):wpAny M X.A (leaving X.env (.ref e)) Q E s':=by
 obtain⟨B,a0,fl,k1,kE,k2⟩:=F.fly;have noex:∀b,b∉X.ex:=λb z=>by rw[hex] at z;exact absurd z (by simp)
 have fl':=fl;rw[bh] at fl';refine Bdx (by rw[I.ok.frames,bh]) hfr fl' ox λh'' x1 ox2 x2=>k h'' ?_ ox2
 have frm:∀b o,s'.heap.get? b=some o->b∈frs X.stack->∃sl,h''.get? b=some { o with slots:=sl }:=λb o q hb=>by
  obtain⟨_,o',q',nf⟩:=fl.2.2.1.mem hb;rw[q] at q';cases q';exact x2 b o q nf
 refine⟨F.os.trans I.os,F.bare,⟨λb o q n hb _=>?_,λb o q n hb _=>?_,λb o q n _=>?_,λb o q _=>?_,λb xs q=>F.un.tups b xs (I.base.tups b xs q),λb o u q=>F.un.frzs b o u (I.base.frzs b o u q),λb ps q=>?_⟩,λa u q=>?_,?_,F.fre,?_⟩
 .exact x1.1 b o (k1 b o (I.base.keep b o q n hb (noex b)) (I.base.free b o q n (noex b)) (I.notStk q hb))
 .obtain⟨sl,q1⟩:=I.base.slot b o q n hb (noex b);have hb':=I.fsStk bh b hb;obtain⟨sl',q2⟩:=F.un.slot b _ q1 (I.base.free b o q n (noex b)) hb' (by simp)
  obtain⟨sl'',q3⟩:=frm b _ q2 hb';exact⟨sl'',q3⟩
 .obtain⟨o',q1⟩:=I.base.there b o q (noex b);exact F.un.free b o' q1 (I.base.free b o q n (noex b)) (by simp)
 .obtain⟨o',q1⟩:=I.base.there b o q (noex b);by_cases hb:b∈frs X.stack
  .obtain⟨_,o'',q2,_⟩:=fl.2.2.1.mem hb;obtain⟨sl,q3⟩:=frm b o'' q2 hb;exact⟨_,q3⟩
  .obtain⟨o'',q2⟩:=kE b o' q1 hb;exact⟨o'',x1.1 b o'' q2⟩
 .obtain⟨m1,e1⟩:=I.base.tbls b ps q;obtain⟨m2,e2⟩:=F.un.tbls b _ e1;exact⟨m1 ++ m2,by rw[e2,pH]⟩
 .refine(F.hok a u q).stay (λb v hb z=>?_) (λ_ z=>z) λ_ _ z=>z;rcases hb with rfl|hb
  .exact x1.1 b v (k2 b u v q z)
  .exact x1.1 b v (k2 b _ v hb z)
 .cases q:X.s₀.heap.get? e with
  |none=>rfl
  |some o=>
   obtain⟨o',q1⟩:=I.base.there e o q (noex e);rw[F.new] at q1;cases q1
 .refine⟨B,a0,x1,λb o q n hb=>k1 b o (I.base.keep b o q n hb (noex b)) (I.base.free b o q n (noex b)) (I.notStk q hb),λb o q hb=>?_,λa u o q z=>?_⟩
  .obtain⟨o',q1⟩:=I.base.there b o q (noex b);exact kE b o' q1 (I.notStk q hb)
  .obtain⟨ob,q1⟩:=(F.hok a u q).there;have q2:=k2 a u ob q q1;have q3:=x1.1 a ob q2;have z:h''.get? a=some o:=z;rw[q3] at z;cases z;exact q2
end
def Raises(X:Cx)(E:XK):Prop:=∀(aa:List (aQ×Obj))(σ:St)(H:Hp)(s:aZ)(e:aQ)(cls:aJ)(args:List aJ)(h':dN)(n:Nat),
 Inv X aa σ H s->lN s.heap h' e cls args->E cls (some (n,none)) H->X.xe (.ref e) { s with heap:=h' }
section
variable{P:cP}{w:dO}{K:aF}{mg:Str->Option aJ}{base:dN}{N:List Str}{aj:Str}{sc:kW}{f:aQ}{cd:aJ}{A:fV}{outer:List Env}{s₀:aZ}{H₀:Hp}{E:XK}{cm:Bool}
theorem Apu:Raises (Vd (CXo P w) P w K mg base N aj sc f cd A outer s₀ H₀ E cm) E:=λaa σ H s e cls args h' n I hx q=>
 I.fly_made rfl rfl rfl hx λh'' F cx=>⟨e,cls,H,_,rfl,F,cx.ok,q⟩
theorem Apv:Bdn (CXo P w) (Vd (CXo P w) P w K mg base N aj sc f cd A outer s₀ H₀ E cm) E:=λaa σ H s e s' I h=>by
 obtain⟨ea,cls,H',o,rfl,F,ox,q⟩:=h;exact I.fly_on rfl rfl rfl F ox λh'' F' ox'=>⟨ea,cls,H',o,rfl,F',ox',q⟩
end
theorem Axv{K:aF}{h:dN}{C:aQ}{bmB:List aJ}{newId:String}(X:K.In h)(q:uH K C bmB newId=true):
  ∃bm N nm qn bs hdct sn sub ab col dd k0 k1 k2 k3 k5 mN,h.get? C=some (excClassObj nm qn C N bs bm hdct sn sub ab col dd k0 k1 k2 k3 k5 newId)/\h.Ns N mN/\mN "__init__"=none/\xR h bmB bm:=by
 unfold uH at q;split at q
 .rename_i dd cd sl ho;split at q
  .rename_i C' bm k0 k1 k2 k3 n k5 hm hs;simp only[aC,beq_iff_eq,dJ] at q;obtain⟨⟨⟨⟨⟨rfl,rfl⟩,hdel⟩,ht⟩,hok⟩,hni⟩:=q;obtain⟨nm,bs,mro,ns,qn,hd,sn,sub,ab,col,del⟩:=cd;dsimp only at hm hdel hok hni;subst hm hdel;have hsl:sl=#[k0,k1,k2,k3,some (.builtin n),k5]:=by
    obtain⟨l⟩:=sl;simp only at hs;rw[hs]
   subst hsl;exact⟨bm,ns,nm,qn,bs,hd,sn,sub,ab,col,dd,k0,k1,k2,k3,k5,_,X _ _ ho,.of_isNs (uW X hok),PySem.W.nsMap_none_of_in X hok hni,uX X ht⟩
  .cases q
 .cases q
def As2(ta:TA)(C:aQ)(E:XK):TS:=λ_ σ H=>ta σ H λvs H1=>vs.length<=sizeLine/\∃n,E (.ref C) (some (n,none)) H1
abbrev Ab7:List aJ:=[.type "ValueError",.type "Exception",.type "BaseException",.type "object"]
abbrev Ain(K:aF)(C:aQ):Prop:=uH K C Ab7 "ValueError.__new__"=true
theorem As3{X:Cx}{E:XK}{x:Str}{C:aQ}{e₀:cA}{es:List cA}{ta:TA}{np cpos pos:Pos}(hx:Ain X.K C)(hg:Gl X x)(hm:X.mg x=some (.ref C))(hc:X.calm=true)(hR:Raises X E)(ha:PA X (e₀::es) ta)(hd:(x==("__debug__":Str))=false:=by decide)(he:starEach (e₀::es) X.env=(false,eval e₀ X.env)::starEach es X.env:=by rfl)(hpl:(backTo cpos (starEach es X.env)).any (·.1)=false:=by rfl):
  PS X (.Raise (some (.Call (.Name x np) (e₀::es) [] cpos)) none pos) (As2 ta C E):=by
 intro aa s σ H D I h;obtain⟨tl,N,nm,q,bs,hdct,sn,sub,ab,col,dd,k0,k1,k2,k3,k5,mN,hC,hN,hni,T⟩:=Axv I.ok.mod.kin hx;refine wpAny_Raise_call_subT (C:=C) (nm:=nm) (q:=q) (N:=N) (bs:=bs) (bm:=tl) (hdct:=hdct) (sn:=sn) (sub:=sub) (ab:=ab) (col:=col) (dd:=dd) (k0:=k0) (k1:=k1) (k2:=k2) (k3:=k3) (k5:=k5)
  fZ (mN:=mN) (T.hasType fZ.hasBase) (I.ok.hd hc) (by rw[he];show (false||(backTo cpos (starEach es X.env)).any (·.1))=false;rw[hpl];rfl) hni (R5 I hg hm ⟨rfl,?_⟩ hd)
 have ha':=ha cpos aa s σ H _ I h;rw[he] at ha' ⊢
 refine oE (fW ha' (λus s2 h2=>?_) λ_ _ y=>y);obtain⟨vs,H2,I2,r,hl,o,q2⟩:=h2;exact⟨rfl,by rw[<-r.length];exact hl,I2.bk _ _ hC,hN.keeps I2.bk,T.keeps I2.bk,λh' e hmade=>hR aa σ H2 s2 e (.ref C) us h' o I2 hmade q2⟩
def Gx(CX:CXT)(X:Cx)(E:St->XK):Prop:=∀(aa:List (aQ×Obj))(σ:St)(H:Hp)(s:aZ)(e:aJ)(s':aZ),Inv X aa σ H s->CX X.stack H s (E σ) e s'->X.xe e s'
def Ale(sp:Sp)(dvs:List V)(E:St->XK)(t:TA):TE:=λσ H Q=>t σ H λvs H1=>sp (vs ++ dvs) H1 Q (E σ)
theorem Aio{k:Nat}(F:Io X.prog X.w X.K X.mg X.base CX k f fd ps sp cm)(hr:Im k X.A cm)(hg:Gl X x)(hm:X.mg x=some (.ref f))(hk:fM X.K (.ref f)=true)(hb:Binds X.K fd ps ds)(hd:Vals dvs ds)(hx:Gx CX X E)(ha:PA X (e::es) t)(hdb:(x==("__debug__":Str))=false:=by decide)(he:starEach (e::es) X.env=(false,eval e X.env)::starEach es X.env:=by rfl)(hpl:(backTo pos (starEach es X.env)).any (·.1)=false:=by rfl):
  PE X (.Call (.Name x p) (e::es) [] pos) (Ale sp dvs E t):=by
 intro aa s σ H Q I h;refine jP (R5 I hg hm ?_ hdb);refine uY (h₀:=X.base) I.ok.mod.kin hk (thn (ha pos aa s σ H _ I h) λus s1 ⟨vs,H1,I1,r,q⟩=>⟨I1.kIn,?_⟩) he hpl;have r2:Vals (vs ++ dvs) (us ++ ds):=r.append hd;have hl:(us ++ ds).length=ps.length:=by rw[<-r2.length];exact F.len _ _ _ _ q
 refine rH (oZ (F.run X.A X.stack s1 H1 ⟨us,[]⟩ (us ++ ds) (vs ++ dvs) Q (E σ) hr I1.env0 (hb s1 us I1.kIn hl) r2 q) λr s' hq=>?_);cases r with
 |error e=>exact hx aa σ H1 s1 e s' I1 hq
 |ok fl=>
  cases fl with
  |ret u=>exact I1.after hq
  |next=>exact fG hq
  |brk=>exact fG hq
  |cont=>exact fG hq
def Ng(a:aQ)(cls:aJ)(o:Option (Nat×Option aQ)):HO:=.ext λh=>(∃o vs,h.get? a=some o/\o.cls=cls/\o.data=.fields vs)/\okX o h a
abbrev Cx.tryB(X:Cx)(pn:List (aQ×Obj))(xe:aJ->aZ->Prop):Cx:={ X with pn:=pn,xe:=xe }
abbrev Cx.suite(X:Cx)(e:aQ):Cx:={ X with A:=X.A.mark (some (.ref e)),calm:=false,xe:=λ_ _=>False }
section
variable{X:Cx}{aa pins':List (aQ×Obj)}{σ:St}{H H':Hp}{s s':aZ}{xe:aJ->aZ->Prop}
theorem Inv.tryIn(I:Inv X aa σ H s):Inv (X.tryB (X.pn ++ aa) xe) [] σ H s:=
 ⟨⟨I.ok.mod,I.ok.kind,I.ok.glob,I.ok.blt,I.ok.above,I.ok.inj,I.ok.has,I.ok.cab,I.ok.hd,I.ok.frames,I.ok.stk,I.ok.exf,I.ok.bs,I.ok.bsz,I.ok.noex,I.ok.exfs,I.ok.funs,I.ok.frf⟩,
 I.os,I.bare,I.base,I.loc,I.cell,I.free,I.freeC,λp hp=>I.pin p (by simpa using hp),I.hok,I.len⟩
theorem Inv.tryOut(I:Inv (X.tryB (X.pn ++ aa) xe) pins' σ H s):Inv X aa σ H s:=
 ⟨⟨I.ok.mod,I.ok.kind,I.ok.glob,I.ok.blt,I.ok.above,I.ok.inj,I.ok.has,I.ok.cab,I.ok.hd,I.ok.frames,I.ok.stk,I.ok.exf,I.ok.bs,I.ok.bsz,I.ok.noex,I.ok.exfs,I.ok.funs,I.ok.frf⟩,
 I.os,I.bare,I.base,I.loc,I.cell,I.free,I.freeC,λp hp=>I.pin p (nZ _ hp),I.hok,I.len⟩
theorem Inv.suiteIn(I:Inv X aa σ H s)(e:aQ):Inv (X.suite e) aa σ H s:=
 ⟨⟨I.ok.mod,I.ok.kind,I.ok.glob,I.ok.blt,I.ok.above,I.ok.inj,I.ok.has,I.ok.cab,λz=>wM (show false=true from z),I.ok.frames,I.ok.stk,I.ok.exf,I.ok.bs,I.ok.bsz,I.ok.noex,I.ok.exfs,I.ok.funs,I.ok.frf⟩,
 I.os,I.bare,I.base,I.loc,I.cell,I.free,I.freeC,I.pin,I.hok,I.len⟩
theorem Inv.suiteOut(hd:X.calm=true->X.A.handled=none)(I:Inv (X.suite e) aa σ H s):Inv X aa σ H s:=
 ⟨⟨I.ok.mod,I.ok.kind,I.ok.glob,I.ok.blt,I.ok.above,I.ok.inj,I.ok.has,I.ok.cab,hd,I.ok.frames,I.ok.stk,I.ok.exf,I.ok.bs,I.ok.bsz,I.ok.noex,I.ok.exfs,I.ok.funs,I.ok.frf⟩,
 I.os,I.bare,I.base,I.loc,I.cell,I.free,I.freeC,I.pin,I.hok,I.len⟩
theorem Inv.goes{i:Nat}{t':Nat}(I:Inv X aa σ H s)(hN:X.N.Nodup)(hi:X.N[i]?=some x)(hn:s.heap.Ns X.env.locals m)(hl:∀(j:Nat)(y:Str)(v:V),X.N[j]?=some y->σ[j]?=some (some v)->Vis X.env.scope y->∃u,RelV v u/\Look X.env s.heap m y u)(hn':h'.Ns X.env.locals (λy=>if y=x then v else m y))(hs:lV X.env.locals s.heap h'):Inv X aa (σ.set i none) H { s with heap:=h',toks:=t' }:=by
 have cne:=I.cne;obtain⟨oL,_,_,hoL,_⟩:=id hn;have tracked:HOk X.prog X.w H h':=λb ob e=>by
  refine(I.hok b ob e).stay (λc w' hc q=>(hs.2 c ?_).trans q) (λ_ q=>q) λ_ _ q=>q;rintro rfl;rcases hc with rfl|hc
  .rw[I.free] at e;cases e
  .rw[I.free] at hc;cases hc
 have neL:∀{b:aQ} {o:Obj},X.s₀.heap.get? b=some o->b≠X.env.locals:=λe=>dC (bM (bN e) I.ok.above);refine⟨I.ok,I.os,I.bare,⟨λb o e n hb hx=>?_,λb o e n hb hx=>?_,I.base.free,λb o e hx=>?_,I.base.tups,I.base.frzs,I.base.tbls⟩,⟨_,hn',λj y v' e1 e2 e3=>?_⟩,λy c e=>?_,I.free,I.freeC,λp hp=>?_,tracked,by simpa using I.len⟩
 .exact(hs.2 b (neL e)).trans (I.base.keep b o e n hb hx)
 .obtain⟨sl,e1⟩:=I.base.slot b o e n hb hx;exact⟨sl,(hs.2 b (neL e)).trans e1⟩
 .obtain⟨o',e1⟩:=I.base.there b o e hx;exact⟨o',(hs.2 b (neL e)).trans e1⟩
 .by_cases hj:j=i
  .subst hj;have hj':j < σ.length:=by
    by_cases hz:j < σ.length
    .exact hz
    .rw[jC (by simpa using hz)] at e2;cases e2
   rw[cQ hj'] at e2;cases e2
  .rw[cJ (gO hj)] at e2;obtain⟨u',r',q⟩:=hl j y v' e1 e2 e3;refine⟨u',r',?_⟩;rcases q with ⟨k,e⟩|⟨k,c,e,z⟩
   .refine .inl ⟨k,?_⟩;have:y≠x:=λe=>hj (Abx hN e1 (e ▸ hi));simp[this,e]
   .exact .inr ⟨k,c,e,z.sameBut hs (cne y c e)⟩
 .obtain⟨w',z⟩:=I.cell y c e;exact⟨w',z.sameBut hs (cne y c e)⟩
 .obtain⟨e,n,ne,nf,d⟩:=I.pin p hp;exact⟨(hs.2 p.1 ne).trans e,n,ne,nf,d⟩
theorem Inv.caught{o:Option (Nat×Option aQ)}(I:Inv X aa σ H s)(bh:X.stack=X.env::X.outer)(hfr:X.env.frame=some X.env.locals)(F:Fly X.prog X.w X.stack H s H' e cls s')(fl:iH B X.stack e cls a0 s'.heap)(k1:∀b o,s.heap.get? b=some o->H b=none->b∉frs X.stack->B.get? b=some o)(kE:∀b o,s.heap.get? b=some o->b∉frs X.stack->∃o',B.get? b=some o')(k2:∀a u o,H' a=some u->s'.heap.get? a=some o->B.get? a=some o)(fl6:iH B X.stack e cls a0 h6)(sm:s'.heap.UpToSlots h6)(ox:okX o h6 e):
  Inv X aa σ (upd H' e (Ng e cls o)) { s' with heap:=h6 }:=by
 obtain⟨hh,g,d,t,os'⟩:=s';obtain rfl:os'=s.os:=F.os;have frm:∀b o,hh.get? b=some o->b∈frs X.stack->∃sl,h6.get? b=some { o with slots:=sl }:=λb o q hb=>by
  obtain⟨_,o',q',nf⟩:=fl.2.2.1.mem hb;have q':hh.get? b=some o':=q';rw[q] at q';cases q';exact sm b o q nf
 have nstk:∀b,b≠X.env.locals->b∉X.fs->b∉frs X.stack:=λb h1 h2 z=>(bF.mp (I.stkSub b z)).elim h1 h2;have ne:∀{b:aQ} {u:HO},H' b=some u->b≠e:=λq=>Df q F.fre;refine I.step (s:=s) (g':=g) (d':=d) (t':=t) (h':=h6) (ch:=[]) (λ_ z=>nomatch z) (λb o h1 h2 _ q n=>fl6.1 b o (k1 b o q n (nstk b h1 h2))) (λb o _ h2 _ q n=>?_) (λb o _ q n=>?_) (λb o _ q=>?_)
  (λb xs q=>by have z:=F.un.tups b xs q;rw[Bb (ne z)];exact z) (λb o u q=>by have z:=F.un.frzs b o u q;rw[Bb (ne z)];exact z) (λb ps q=>?_) (λm hm=>?_) (λa u q=>?_) F.bare
 .have hb:=I.fsStk bh b h2;obtain⟨sl,q1⟩:=F.un.slot b o q n hb (by simp)
  obtain⟨sl',q2⟩:=frm b _ q1 hb;exact⟨sl',q2⟩
 .rw[Bb (by rintro rfl;rw[F.new] at q;cases q)]
  exact F.un.free b o q n (by simp)
 .by_cases hb:b∈frs X.stack
  .obtain⟨_,o'',q2,_⟩:=fl.2.2.1.mem hb;obtain⟨sl,q3⟩:=frm b o'' q2 hb;exact⟨_,q3⟩
  .obtain⟨o'',q2⟩:=kE b o q hb;exact⟨o'',fl6.1 b o'' q2⟩
 .obtain⟨m,z⟩:=F.un.tbls b ps q;exact⟨m,by rw[Bb (ne z)];exact z⟩
 .obtain⟨o,es,ep,ho,r⟩:=hm;have hb:=I.locStk bh hfr;obtain⟨sl,q1⟩:=F.un.slot X.env.locals o ho I.free hb (by simp)
  obtain⟨sl',q2⟩:=frm X.env.locals _ q1 hb;exact⟨_,es,ep,q2,r⟩
 .by_cases ha:a=e
  .subst ha;rw[Bl] at q;cases q;obtain⟨oe,vs,ho,hc,hd,_⟩:=fl6.first;refine⟨⟨⟨oe,vs,ho,hc,hd⟩,ox⟩,⟨oe,ho⟩,λh1 h2 p k=>?_⟩;obtain⟨⟨o,vs',p1,p2,p3⟩,p4⟩:=p;refine⟨⟨o,vs',k o p1,p2,p3⟩,λn od z=>?_⟩;obtain⟨o',vs2,z1,z2⟩:=p4 n od z;exact⟨o',vs2,k o' z1,z2⟩
  .rw[Bb ha] at q;refine(F.hok a u q).stay (λb v hb z=>?_) (λb z=>by rw[Bb (ne z)];exact z) λb xs z=>by rw[Bb (ne z)];exact z
   rcases hb with rfl|hb
   .exact fl6.1 b v (k2 b u v q z)
   .exact fl6.1 b v (k2 b _ v hb z)
end
def Bio(K:aF)(C:aQ)(i:Nat)(tb:(St->XK)->TS)(th:TS):TS:=λD σ H=>
 tb (λσ' cls o H'=>jN K cls (.ref C)=some true/\∀ea,H' ea=none->th { nx:=λσ2 H2=>D.nx (σ2.set i none) H2,rt:=D.rt,bk:=λσ2 H2=>D.bk (σ2.set i none) H2,ct:=λσ2 H2=>D.ct (σ2.set i none) H2 }
  (σ'.set i (some (.ref ea))) (upd H' ea (Ng ea cls o))) D σ H
theorem Bd0{i:Nat}(bh:X.stack=X.env::X.outer)(hfr:X.env.frame=some X.env.locals)(hN:X.N.Nodup)(hi:X.N[i]?=some n)(hn:X.env.scope.names.lookup n=some .local)(hg:Gl X x)(hm:X.mg x=some (.ref C))(hd:(x==("__debug__":Str))=false:=by decide)(hb:∀(pn:List (aQ×Obj))(xe:aJ->aZ->Prop)(E:St->XK),Gx (CXo X.prog X.w) (X.tryB pn xe) E->PSs (X.tryB pn xe) body (tb E))(hs:∀e,PSs (X.suite e) (b₀::suite) th):
  PS X (.Try body [.ExceptHandler (some (.Name x np)) (some n) (b₀::suite) hpos] [] [] pos) (Bio X.K C i tb th):=by
 intro aa s σ H D I h;have hkL:X.env.kindOf n=some .local:=hn;have hcls:(X.env.scope.kind==.class||(X.env.scope.kind==.module&&X.env.locals != X.env.globals))=false:=by rw[I.ok.kind];rfl
 refine wpAny_Try_except (fW (hb (X.pn ++ aa) _ _ ?pass [] s σ H D I.tryIn h) (λf s1 q=>?_) λe s1 q=>q)
 case pass=>
  intro pins' σ1 H1 s1 e s2 I1 hcx;obtain⟨ea,cls,H2,o,rfl,F,ox,hx,q⟩:=hcx;have I1:Inv X aa σ1 H1 s1:=I1.tryOut;obtain⟨B,a0,fl,k1,kE,k2⟩:=F.fly;have fl':=fl;rw[bh] at fl';refine Bdy (by rw[I1.ok.frames,bh]) hfr fl' ox λh4 held ox4 sm4=>?_
  refine As1 held.1 held.2.1 held.2.2.1 held.2.2.2 ox4 λh5 fl5 ox5 sm5=>?_;have bk5:∀b o,X.base.get? b=some o->h5.get? b=some o:=λb o e=>fl5.1 b o (k1 b o (I1.bs b o e).1 (I1.bs b o e).2 λm=>by
   have z:=(I1.stack.mem m).1;rw[e] at z;cases z)
  have K5:X.K.In h5:=I1.ok.mod.kin.keeps bk5;have LT:PySem.W.Looks (model X.prog X.w) h5 (typeOf (.ref ea)) cls:=by
   obtain⟨ob,ho,hc⟩:=fl5.there;exact hc ▸ (aBo ho).andThen .now
  refine wpAny_handleBy_cons (codeAny_handlers_test ?_) (by intro q;cases q)
  refine lF I1.ok.kind hg (qN (by rw[I1.ok.glob];exact I1.mod.glob.keeps bk5) hm ?_) hd
  refine(PySem.W.exm_one K5 LT hx) _ _ _ _ (λ_ _ e=>e) ?_;show codeAny _ _ _ _ _;refine codeAny_handlers_suite_as (As1 fl5.1 fl5.2.1 fl5.2.2.1 fl5.2.2.2.at ox5 λh6 fl6 ox6 sm6=>?_);have fl6':=fl6;rw[<-bh] at fl6';have I6:Inv X aa σ1 (upd H2 ea (Ng ea cls o)) { s2 with heap:=h6 }:=I1.caught bh hfr F fl k1 kE k2 fl6' (sm4.trans (sm5.trans sm6)) ox6
  refine Aby I6 hN hi (.inl hn) (v:=.ref ea) rfl (λs7 I7=>?_) (.inr hn);refine fW (hs ea aa s7 _ _ _ (I7.suiteIn ea) (q ea F.fre)) (λf s8 q8=>?_) λ_ _ z=>z.elim;have out:∀{σ8:St} {H8:Hp},Inv (X.suite ea) aa σ8 H8 s8->∀{Q':Flow->aZ->Prop},(∀s9,Inv X aa (σ8.set i none) H8 s9->Q' f s9)->
    wpAny (model X.prog X.w) X.A (do bindName X.env n .none;unbindBehindTheSuite X.env n hpos) (λ_ s9=>Q' f s9) X.xe s8:=λ{σ8 H8} J {Q'} k=>by
   have J:Inv X aa σ8 H8 s8:=J.suiteOut I.ok.hd;obtain⟨m,hm',hl⟩:=id J.loc;exact wpAny_nameGoes_keeps hkL hm' hcls λh' v hn' hs'=>k _ (J.goes hN hi hm' hl hn' hs')
  cases f with
  |next=>obtain⟨σ8,H8,I8,z⟩:=q8;exact out I8 (Q':=SP X aa D) λs9 I9=>⟨_,H8,I9,z⟩
  |brk=>obtain⟨σ8,H8,I8,z⟩:=q8;exact out I8 (Q':=SP X aa D) λs9 I9=>⟨_,H8,I9,z⟩
  |cont=>obtain⟨σ8,H8,I8,z⟩:=q8;exact out I8 (Q':=SP X aa D) λs9 I9=>⟨_,H8,I9,z⟩
  |ret u=>obtain⟨v,σ8,H8,I8,r8,z⟩:=q8;exact out I8 (Q':=SP X aa D) λs9 I9=>⟨v,_,H8,I9,r8,z⟩
 .cases f with
  |next=>obtain⟨σ8,H8,I8,z⟩:=q;exact mQ ⟨σ8,H8,I8.tryOut,z⟩
  |brk=>obtain⟨σ8,H8,I8,z⟩:=q;exact⟨σ8,H8,I8.tryOut,z⟩
  |cont=>obtain⟨σ8,H8,I8,z⟩:=q;exact⟨σ8,H8,I8.tryOut,z⟩
  |ret u=>obtain⟨v,σ8,H8,I8,r8,z⟩:=q;exact⟨v,σ8,H8,I8.tryOut,r8,z⟩
noncomputable def Ku(cells:List (Str×aQ)):List (Str×lH)->List (Str×aQ)->List (Str×aQ)
 |[],acc=>acc
 |(n,k)::r,acc=>if (k==.free)=true then Ku cells r ((n,(cells.lookup n).getD 0)::acc) else Ku cells r acc
theorem Alf(h:∀x∈scope.names,x.2=.free->∃c,env.cells.lookup x.1=some c):closureFor scope env=pure (Ku env.cells scope.names []):=by
 have all:∀(l:List (Str×lH))(acc:List (Str×aQ)),(∀x∈l,x.2=.free->∃c,env.cells.lookup x.1=some c)->
   (forIn l acc λ(x:Str×lH) (r:List (Str×aQ))=>match x with
    |(name,kind)=>if (kind==eU)=true then (do let a<-cellOf env name;pure (jX ((name,a)::r)):Sem (ForInStep (List (Str×aQ)))) else pure (jX r))=pure (Ku env.cells l acc):=by
  intro l;induction l with
  |nil=>intro acc _;rfl
  |cons y r ih=>
   intro acc hl;obtain⟨n,k⟩:=y;rw[oH];dsimp only;by_cases hk:(k==eU)=true
   .obtain⟨c,hc⟩:=hl (n,k) aH (beq_iff_eq.mp hk);have hc:env.cells.lookup n=some c:=hc;have hco:cellOf env n=pure c:=by unfold cellOf;rw[hc]
    rw[if_pos hk,hco];simp only[pure_bind];rw[ih _ λx hx=>hl x (aM _ hx)]
    conv=>rhs;unfold Ku
    rw[if_pos hk,hc];rfl
   .rw[if_neg hk];simp only[pure_bind];rw[ih _ λx hx=>hl x (aM _ hx)]
    conv=>rhs;unfold Ku
    rw[if_neg hk]
 have q:=all scope.names [] h;unfold closureFor;dsimp only;rw[q];rfl
theorem Ab8:∀(l:List (Str×lH))(acc:List (Str×aQ))(x:Str)(c:aQ),(∀y∈l,y.2=.free->∃c,cells.lookup y.1=some c)->(Ku cells l acc).lookup x=some c->
  acc.lookup x=some c\/cells.lookup x=some c
 |[],acc,x,c,_,h=>.inl h
 |(n,k)::r,acc,x,c,hl,h=>by
  unfold Ku at h;by_cases hk:(k==eU)=true
  .rw[if_pos hk] at h;obtain⟨d,hd⟩:=hl (n,k) aH (beq_iff_eq.mp hk);have hd:cells.lookup n=some d:=hd;rcases Ab8 r _ x c (λy hy=>hl y (aM _ hy)) h with q|q
   .rw[hd,lX,eV] at q;cases e:x==n with
    |true=>
     rw[e] at q;have z:x=n:=beq_iff_eq.mp e;subst z;exact .inr (hd.trans q)
    |false=>rw[e] at q;exact .inl q
   .exact .inr q
  .rw[if_neg hk] at h;exact Ab8 r acc x c (λy hy=>hl y (aM _ hy)) h
theorem Vf:∀(l:List (Str×lH))(acc:List (Str×aQ))(x:Str),(∃c,acc.lookup x=some c)->∃c,(Ku cells l acc).lookup x=some c
 |[],acc,x,h=>h
 |(n,k)::r,acc,x,h=>by
  unfold Ku;by_cases hk:(k==eU)=true
  .rw[if_pos hk];refine Vf r _ x ?_;rw[eV];cases e:x==n with
   |true=>exact⟨_,rfl⟩
   |false=>exact h
  .rw[if_neg hk];exact Vf r acc x h
theorem R6:∀(l:List (Str×lH))(acc:List (Str×aQ))(x:Str),(x,eU)∈l->∃c,(Ku cells l acc).lookup x=some c
 |(n,k)::r,acc,x,h=>by
  unfold Ku;rcases bF.mp h with e|e
  .obtain⟨e1,e2⟩:=Prod.mk.inj e;subst e1;subst e2;rw[if_pos (by rfl)]
   refine Vf r _ x ⟨(cells.lookup x).getD 0,?_⟩;rw[eV,beq_self_eq_true]
  .by_cases hk:(k==eU)=true
   .rw[if_pos hk];exact R6 r _ x e
   .rw[if_neg hk];exact R6 r acc x e
theorem Agr(ao:∀y∈scope.names,y.2≠.cell)(h:(relabel scope env).names.lookup x=some .cell\/(relabel scope env).names.lookup x=some .free):(x,eU)∈scope.names:=by
 have go:∀(l:List (Str×lH))(k:lH),(∀y∈l,y.2≠.cell)->k=.cell\/k=.free->
   (l.map λ(n,k)=>if (k==eU&&env.scope.kind==.function&&env.kindOf n==some .cell) then (n,uI) else (n,k)).lookup x=some k->(x,eU)∈l:=by
  intro l;induction l with
  |nil=>intro k _ _ h;simp at h
  |cons y r ih=>
   intro k hc hk h;obtain⟨n,kk⟩:=y;have hkk:kk≠.cell:=hc (n,kk) aH;rw[aG,eV] at h;dsimp only at h;by_cases hb:(kk==eU&&env.scope.kind==.function&&env.kindOf n==some .cell)=true
   .rw[if_pos hb] at h;dsimp only at h;cases e:x==n with
    |true=>
     have z:x=n:=beq_iff_eq.mp e;subst z;simp only[aC,beq_iff_eq] at hb;rw[<-hb.1.1];exact aH
    |false=>
     rw[e] at h;exact aM _ (ih k (λy hy=>hc y (aM _ hy)) hk h)
   .rw[if_neg hb] at h;dsimp only at h;cases e:x==n with
    |true=>
     have z:x=n:=beq_iff_eq.mp e;subst z;rw[e] at h;have h:kk=k:=bV h;subst h;rcases hk with hk|hk
     .exact absurd hk hkk
     .rw[hk];exact aH
    |false=>
     rw[e] at h;exact aM _ (ih k (λy hy=>hc y (aM _ hy)) hk h)
 rcases h with h|h
 .exact go scope.names .cell ao (.inl rfl) h
 .exact go scope.names .free ao (.inr rfl) h
theorem Ags(h:scope.names.lookup x=some .free):(relabel scope env).names.lookup x=some .cell\/(relabel scope env).names.lookup x=some .free:=by
 show aAn x (scope.names.map λ(n,k)=>if (k==eU&&env.scope.kind==.function&&env.kindOf n==some .cell) then (n,uI) else (n,k))=some .cell\/aAn x (scope.names.map λ(n,k)=>if (k==eU&&env.scope.kind==.function&&env.kindOf n==some .cell) then (n,uI) else (n,k))=some .free
 revert h;generalize scope.names=l;intro h;induction l with
 |nil=>simp at h
 |cons y r ih=>
  obtain⟨n,kk⟩:=y;rw[aG,eV];dsimp only;rw[eV] at h;by_cases hb:(kk==eU&&env.scope.kind==.function&&env.kindOf n==some .cell)=true
  .rw[if_pos hb];dsimp only;cases e:x==n with
   |true=>exact .inl rfl
   |false=>rw[e] at h;exact ih h
  .rw[if_neg hb];dsimp only;cases e:x==n with
   |true=>rw[e] at h;exact .inr h
   |false=>rw[e] at h;exact ih h
noncomputable def Cx.comp(X:Cx)(scope:kW)(own:List Str)(cap:List Nat)(C:aQ)(s:aZ)(H:Hp)(ex:List aQ):Cx where
 prog:=X.prog
 w:=X.w
 K:=X.K
 mg:=X.mg
 base:=X.base
 A:=X.A
 N:=own ++ cap.map λj=>X.N.getD j ""
 s₀:=s
 H₀:=H
 env:=compEnvC scope (Ku X.env.cells scope.names []) C X.env
 outer:=X.stack
 stack:=X.stack
 ex:=ex
 fn:=λ_=>false
 calm:=X.calm
 pn:=[]
 xe:=λ_ _=>False
noncomputable def As4(own:List Str)(cap:List Nat)(σ:St):St:=bG own.length none ++ cap.map λj=>σ.getD j none
def PTs(X:Cx)(ifs:List cA)(t:TT):Prop:=
 ∀(aa:List (aQ×Obj))(s:aZ)(σ:St)(H:Hp)(Q:Bool->Hp->Prop),Inv X aa σ H s->t σ H Q->
  wpAny (model X.prog X.w) X.A (forIn ifs true λc r=>if r=true then do let ok<-isTrue c X.env (eval c X.env);pure (jX ok) else pure (jX r)) (TP X aa σ Q) X.xe s
def Abi:TT:=λ_ H Q=>Q true H
def Axw:PTs X [] Abi:=λ_ _ _ H _ I h=>wpAny_tests_nil ⟨H,I,h⟩
def Axx(h:PT X c t):PTs X [c] t:=λaa s σ H Q I q=>wpAny_tests_one (h aa s σ H Q I q)
section
theorem Agt(I:Nat->aZ->Prop)(turn:∀n s,I n s->wpAny (model prog w) A (pyNext it) (λr s₁=>match r with
   |none=>R (.ok .next) s₁
   |some v=>wpAny (model prog w) A (letOwnedTupleGo target it v) (λ_ s₁'=>wpAny (model prog w) A (assign target env v) (λ_ s₂=>
     wpAny (model prog w) A (forIn ifs true λc r=>if r=true then do let ok<-isTrue c env (eval c env);pure (jX ok) else pure (jX r)) (λok s₃=>
      if ok=true then wpAny (model prog w) A (eval elt env) (λx s₄=>
       wpAny (model prog w) A (call (.builtin "list.append") [acc,x]) (λ_ s₅=>∃m,m < n/\I m s₅) (λ_ _=>False) s₄) (λ_ _=>False) s₃
      else ∃m,m < n/\I m s₃) (λ_ _=>False) s₂) (λ_ _=>False) s₁') (λ_ _=>False) s₁) (λ_ _=>False) s)(n:Nat)(h:I n s):codeAny (model prog w) A (.compLoop (.ListComp elt [⟨target,iter,ifs,0⟩] scope pos) 0 it acc env) R s:=by
 refine codeAny_loop rfl I (λn s hI=>?_) n h;show wpAny _ A ((compTurn (.ListComp elt [⟨target,iter,ifs,0⟩] scope pos) 0 it acc env).onRaise (λx=>do noteFrame x env;theTreesLotGoes x)) _ _ s
 refine wpAny_noted ?_;rw[compTurn_list];refine aB (qH (aB (fW (turn n s hI) (λr s₁ h₁=>?_) λ_ _ z=>z.elim)));cases r with
 |none=>exact aV h₁
 |some v=>
  refine aB (fW h₁ (λ_ s₁' h₁'=>?_) λ_ _ z=>z.elim);refine aB (fW h₁' (λ_ s₂ h₂=>aB (fW h₂ (λok s₃ h₃=>?_) λ_ _ z=>z.elim)) λ_ _ z=>z.elim);cases ok with
  |false=>exact aV ⟨rfl,h₃⟩
  |true=>
   exact aB (aB (fW h₃ (λx s₄ h₄=>aB (fW h₄ (λ_ s₅ h₅=>aV (aV ⟨rfl,h₅⟩)) λ_ _ z=>z.elim)) λ_ _ z=>z.elim))
end
def Ae7(J:It)(g:TG)(tt:TT)(te:TE)(D:aQ)(σ0:St)(H1:Hp)(Q:VK):Prop:=
 ∃W:Nat->Nat->List V->St->Hp->Prop,(∃m,W 0 m [] σ0 (upd H1 D (.lst [])))/\∀i m acc σ' H',W i m acc σ' H'->H' D=some (.lst acc)->
  (J.stop i H'/\Q (.ref D) H')\/(J.go i H'/\∀x H'',J.yld i H' x H''->g x σ' H'' λσ2 H2=>tt σ2 H2 λb H3=>if b=true then te σ2 H3 λy H4=>
   H4 D=some (.lst acc)/\acc.length < sizeLine/\∃m',m' < m/\W (i+1) m' (acc ++ [y]) σ2 (upd H4 D (.lst (acc ++ [y])))
   else H3 D=some (.lst acc)/\∃m',m' < m/\W (i+1) m' acc σ2 H3)
def Ae8(wi:TI)(g:TG)(tt:TT)(te:TE)(own:List Str)(cap:List Nat):TE:=λσ H Q=>wi σ H λJ H1=>∀D,H1 D=none->Ae7 J g tt te D (As4 own cap σ) H1 Q
theorem Ae9{cap:List Nat}(hc:X.calm=true)(hE:X.env.scope=es)(hi:PI X tg iter wi)(hg:∀C s H ex,PG (X.comp scope own cap C s H ex) tg g)(ht:∀C s H ex,PTs (X.comp scope own cap C s H ex) ifs tt)(he:∀C s H ex,PE (X.comp scope own cap C s H ex) elt te)(hcap:∀j∈cap,∃x,X.N[j]?=some x/\scope.names.lookup x=some .free)(az:scope.kind=.function:=by rfl)(ao:∀y∈scope.names,y.2≠.cell:=by decide)(au:∀y∈scope.names,y.2=.local->scope.names.lookup y.1=some .local:=by decide)(hfree':∀y∈scope.names,y.2=.free->(es.names.lookup y.1=some .cell\/es.names.lookup y.1=some .free):=by decide +kernel)(hs:∀x,foldedSetIterable iter X.env x=pure x:=by intro _;rfl)(I:Inv X aa σ H s)(h:Ae8 wi g tt te own cap σ H Q)(fin:∀(D C:aQ)(s6:aZ)(H5:Hp)(m:Str->Option aJ),(∀h',lV C s6.heap h'->Inv X aa σ H5 { s6 with heap:=h' })->s6.heap.Ns C m->Aeg X aa H5 C->Q (.ref D) H5->
   compPost (model X.prog X.w) X.A X.xe use Q' (.ref D) C (.ok .next) s6):
  wpAny (model X.prog X.w) X.A (comprehension (.ListComp elt [⟨tg,iter,ifs,0⟩] scope pos) scope X.env p0 (newList []) false (eval iter X.env) use) Q' X.xe s:=by
 subst hE;have bc:∀y∈scope.names,y.2=.free->(X.env.kindOf y.1=some .cell\/X.env.kindOf y.1=some .free):=hfree';have hfr:∀x∈scope.names,x.2=.free->∃c,X.env.cells.lookup x.1=some c:=λx hx hk=>I.ok.has x.1 (bc x hx hk);refine wpAny_comprehension_free (use:=use) rfl hs (Alf hfr) az au (thn (hi aa s σ H _ I h) λv s1 h1=>thn h1 λitv s2 h2=>?_);obtain⟨it,fp,tn,J,H2,rfl,I2,T,st2,f2,q⟩:=h2;have hD2:H2 s2.heap.objs.size=none:=I2.hok.fresh (aN _);obtain⟨W,⟨m0,w0⟩,turn⟩:=q s2.heap.objs.size hD2;refine dI ?_;have I3:=I2.lnew (ys:=[]) (its:=[]) (t':=s2.toks) .nil (dU _);generalize hs3:({ s2 with heap:=s2.heap.push { cls:=.type "list",data:=.seq ([]:List aJ).toArray } }:aZ)=s3 at I3 ⊢
 have fp3:∀b∈fp,∃o,s3.heap.get? b=some o/\∀v,o.data≠.cell v:=λb hb=>by
  obtain⟨o,e,d⟩:=T.obj _ _ st2 b hb;exact⟨o,by rw[<-hs3];exact aP _ e,d⟩
 have st3:tn 0 s3.heap:=T.keep _ _ _ st2 λb _ o e=>by rw[<-hs3];exact aP _ e
 have hDl:s2.heap.objs.size < s3.heap.objs.size:=by rw[<-hs3];simp[lO]
 have fpD:∀b∈fp,b≠s2.heap.objs.size:=λb hb z=>by
  obtain⟨o,e,_⟩:=T.obj _ _ st2 b hb;exact absurd (bN e) (by rw[z];exact fK _)
 refine wpAny_newFunctionEnv ao (by intro y hy;simp at hy) (λh₁ hns₁ hsb₁=>?_) az
 generalize hC:s3.heap.objs.size=C at hns₁ hsb₁ hDl ⊢
 have old:∀b o,s3.heap.get? b=some o->h₁.get? b=some o:=λb o e=>hsb₁.extBut b o (by rw[<-hC];exact dC (bN e)) (aP _ e)
 have ltC:∀{b:aQ} {o:Obj},s3.heap.get? b=some o->b≠C:=λe=>by rw[<-hC];exact dC (bN e)
 have cellIn:∀x c,(Ku X.env.cells scope.names []).lookup x=some c->X.env.cells.lookup x=some c:=λx c e=>by
  rcases Ab8 scope.names [] x c hfr e with z|z
  .simp at z
  .exact z
 have fpX:∀b∈fp,Aeg X aa (upd H2 s2.heap.objs.size (.lst [])) b:=λb hb=>⟨by rw[Bb (fpD b hb)];exact(f2 b hb).1,(f2 b hb).2⟩
 have I4:Inv (X.comp scope own cap C s3 (upd H2 s2.heap.objs.size (.lst [])) fp) [] (As4 own cap σ) (upd H2 s2.heap.objs.size (.lst [])) { s3 with heap:=h₁,toks:=s3.toks+([]:List (Str×aJ)).length }:=by
  refine⟨⟨I.ok.mod,az,I.ok.glob,I.ok.blt,pA hC,λx y c h1 h2=>I.ok.inj x y c (cellIn x c h1) (cellIn y c h2),λx hx=>R6 _ _ x (Agr ao hx),λx c z=>absurd z (by show ¬ (false=true);decide),
   I.ok.hd,I.ok.frames,.inl rfl,λb hb=>⟨?_,λx c e=>(fpX b hb).2.2.2.2.1 x c (cellIn x c e)⟩,I3.bs,aD I3.ok.bsz I3.sz,λb o e hb=>?_,λb hb z=>?_,I3.stack,I3.stkFree⟩,
   rfl,I3.bare,Un.kept old,⟨_,hns₁,λi x v e1 e2 e3=>?_⟩,λx c e=>?_,?_,λx c e=>I3.freeC x c (cellIn x c e),λp hp=>absurd (show p∈([]:List (aQ×Obj)) ++ [] from hp) (by simp),I3.hok.kept old,?_⟩
  .obtain⟨o,e,_⟩:=fp3 b hb;exact ltC e
  .rcases(fpX b hb).2.2.2.1 with z|z
   .exact I.ok.noex b o e z
   .exact absurd (bM (bN e) (aD I.ok.bsz z)) (fK _)
  .exact(bF.mp (I3.stkSub b z)).elim (fpX b hb).2.1 (fpX b hb).2.2.1
  .
   have hlen:(bG own.length (none:Option V)).length=own.length:=fB;by_cases hi:i < own.length
   .have e2:(bG own.length (none:Option V) ++ cap.map λj=>σ.getD j none)[i]?=some (some v):=e2;rw[aY (by rw[hlen];exact hi),jL] at e2
    split at e2 <;> cases e2
   .have e2:(bG own.length (none:Option V) ++ cap.map λj=>σ.getD j none)[i]?=some (some v):=e2;have e1:(own ++ cap.map λj=>X.N.getD j "")[i]?=some x:=e1;rw[bC (by rw[hlen];omega),cB,hlen] at e2
    rw[bC (by omega),cB] at e1
    cases ej:cap[i - own.length]? with
    |none=>rw[ej] at e1;cases e1
    |some j=>
     rw[ej] at e1 e2;obtain⟨y,hy,hf⟩:=hcap j (gU ej);have e1:X.N.getD j ""=x:=bV e1;have e2:σ.getD j none=some v:=bV e2;rw[cR,hy] at e1;have e1:y=x:=e1;subst e1;have e2':σ[j]?=some (some v):=by
      rw[cR] at e2;cases z:σ[j]? with
      |none=>rw[z] at e2;cases e2
      |some o=>rw[z] at e2;exact congrArg some e2
     have hmem:(y,eU)∈scope.names:=by
      exact iD hf
     obtain⟨m,hn,hl⟩:=I3.loc;have hv:Vis X.env.scope y:=.inr (bc _ hmem rfl);obtain⟨u,ru,lk⟩:=hl j y v hy e2' hv;refine⟨u,ru,.inr ⟨Ags hf,?_⟩⟩;rcases lk with ⟨k1,_⟩|⟨_,c,hcc,hz⟩
     .rcases bc _ hmem rfl with k2|k2 <;> (have k2:X.env.kindOf y=_:=k2;rw[k1] at k2;cases k2)
     .obtain⟨c',hc'⟩:=R6 (cells:=X.env.cells) scope.names [] y hmem;have ec:c=c':=bV (hcc.symm.trans (cellIn y c' hc'));rw[<-ec] at hc';obtain⟨oc,ho,hd⟩:=hz;exact⟨c,hc',oc,old c oc ho,hd⟩
  .obtain⟨v,o,ho,hd⟩:=I3.cell x c (cellIn x c e);exact⟨v,o,old c o ho,hd⟩
  .show upd H2 s2.heap.objs.size (.lst []) C=none;rw[<-hC];exact I3.hok.fresh (aN _)
  .show (bG own.length (none:Option V) ++ cap.map λj=>σ.getD j none).length=(own ++ cap.map λj=>X.N.getD j "").length;simp
 have fpC:∀{H':Hp},(∀b∈fp,H' b=none)->∀b∈fp,Aeg (X.comp scope own cap C s3 (upd H2 s2.heap.objs.size (.lst [])) fp) [] H' b:=λhn b hb=>
  ⟨hn b hb,(by obtain⟨o,e,_⟩:=fp3 b hb;exact ltC e),λz=>(bF.mp (I3.stkSub b z)).elim (fpX b hb).2.1 (fpX b hb).2.2.1,.inl hb,λx c e=>(fpX b hb).2.2.2.2.1 x c (cellIn x c e),λp hp=>absurd (show p∈([]:List (aQ×Obj)) ++ [] from hp) (by simp)⟩
 have loop:codeAny (model X.prog X.w) X.A (.compLoop (.ListComp elt [⟨tg,iter,ifs,0⟩] scope pos) 0 (.ref it) (.ref s2.heap.objs.size) (compEnvC scope (Ku X.env.cells scope.names []) C X.env))
   (compPost (model X.prog X.w) X.A X.xe use Q' (.ref s2.heap.objs.size) C) { s3 with heap:=h₁,toks:=s3.toks+([]:List (Str×aJ)).length }:=by
  refine Agt (λn s'=>∃i acc σ' H',Inv (X.comp scope own cap C s3 (upd H2 s2.heap.objs.size (.lst [])) fp) [] σ' H' s'/\tn i s'.heap/\(∀b∈fp,H' b=none)/\H' s2.heap.objs.size=some (.lst acc)/\W i n acc σ' H') ?_ m0
   ⟨0,[],_,_,I4,T.keep _ _ _ st3 λb _ o e=>old b o e,λb hb=>(fpX b hb).1,Bl,w0⟩
  rintro n s5 ⟨i,acc,σ5,H5,I5,st5,fr5,hD5,w5⟩;rcases turn i n acc σ5 H5 w5 hD5 with ⟨stop,qn⟩|⟨go,step⟩
  .refine thn (T.done (X.comp scope own cap C s3 (upd H2 s2.heap.objs.size (.lst [])) fp) rfl rfl rfl hc i [] s5 σ5 H5 _ I5 (fpC fr5) st5 stop) λr s6 zz=>?_;obtain⟨hr,I6⟩:=zz;subst hr;obtain⟨m,hn,_⟩:=id I6.loc;have hCs:X.s₀.heap.objs.size<=C:=by rw[<-hC];exact I3.sz
   have ltS:∀{b:aQ} {o:Obj},s3.heap.get? b=some o->b≠C:=ltC;refine fin _ C s6 H5 m (λh' hsb=>?_) hn ⟨I6.free,?_,?_,.inr hCs,?_,?_⟩ qn
   rotate_left
   .obtain⟨_,⟨o,_,_,ho,_⟩,_⟩:=I3.loc;exact(ltS ho).symm
   .intro z;obtain⟨o',e1⟩:=I3.base.there C _ (I3.ok.funs.mem z).2.choose_spec.1 (λw=>I3.ok.exfs C w z)
    exact ltS e1 rfl
   .intro x c e;obtain⟨_,o,ho,_⟩:=I3.cell x c e;exact ltS ho
   .intro p hp;exact ltS (I3.pin p hp).1
   have neC:∀{b:aQ} {o:Obj},s3.heap.get? b=some o->b≠C:=ltC;have B:=I6.base;refine I3.call' (s':={ s6 with heap:=h' }) (ch:=fp) I6.os ⟨λb o e n hb hx=>?_,λb o e n hb hx=>?_,B.free,λb o e hx=>?_,B.tups,B.frzs,B.tbls⟩ (λa u e=>?_) I6.bare λb hb=>⟨(fpX b hb).2.2.2.1,(fpX b hb).2.1,(fpX b hb).2.2.2.2.1,(fpX b hb).2.2.2.2.2⟩
   .exact(hsb.2 b (neC e)).trans (B.keep b o e n hb hx)
   .obtain⟨sl,e1⟩:=B.slot b o e n hb hx;exact⟨sl,(hsb.2 b (neC e)).trans e1⟩
   .obtain⟨o',e1⟩:=B.there b o e hx;exact⟨o',(hsb.2 b (neC e)).trans e1⟩
   .refine(I6.hok a u e).stay (λb v hb z=>(hsb.2 b ?_).trans z) (λ_ z=>z) λ_ _ z=>z;rintro rfl;have f0:H5 b=none:=I6.free;rcases hb with rfl|hb
    .rw[f0] at e;cases e
    .rw[f0] at hb;cases hb
  .refine thn (T.item (X.comp scope own cap C s3 (upd H2 s2.heap.objs.size (.lst [])) fp) rfl rfl rfl hc i [] s5 σ5 H5 _ I5 (fpC fr5) st5 go) λr s6 zz=>?_;obtain⟨u,hr,h6⟩:=zz;subst hr;refine thn h6 λ_ s7 zz=>?_;obtain⟨x,H7,I7,r7,y7,st7,fr7⟩:=zz;have I7':=I7.pinned (fpC fr7) (T.obj _ _ st7);refine thn (hg _ _ _ _ _ s7 σ5 H7 x u _ I7' r7 (step x H7 y7)) λ_ s8 zz=>?_;obtain⟨σ8,H8,I8,q8⟩:=zz;refine thn (ht _ _ _ _ _ s8 σ8 H8 _ I8 q8) λb s9 zz=>?_;obtain⟨H9,I9,q9⟩:=zz;have again:∀{s':aZ} {H':Hp} {acc':List V} {m':Nat},Inv (X.comp scope own cap C s3 (upd H2 s2.heap.objs.size (.lst [])) fp) ([] ++ Ab1 fp s7.heap) σ8 H' s'->H' s2.heap.objs.size=some (.lst acc')->m' < n->W (i+1) m' acc' σ8 H'->
     ∃m,m < n/\∃i acc σ' H',Inv (X.comp scope own cap C s3 (upd H2 s2.heap.objs.size (.lst [])) fp) [] σ' H' s'/\tn i s'.heap/\(∀b∈fp,H' b=none)/\H' s2.heap.objs.size=some (.lst acc)/\W i m acc σ' H':=λ{s' H' acc' m'} J hD hm hw=>by
    refine⟨m',hm,i+1,acc',σ8,H',J.unpinned,T.keep _ _ _ st7 λb hb o e=>(J.pin (b,o) (cU _ (cU _ (Kr hb e)))).1,λb hb=>?_,hD,hw⟩;obtain⟨o,e,d⟩:=T.obj _ _ st7 b hb;exact(J.pin (b,o) (cU _ (cU _ (Kr hb e)))).2.1
   cases b with
   |false=>
    rw[if_neg bH] at q9 ⊢
    obtain⟨hD9,m',hm,hw⟩:=q9;exact again I9 hD9 hm hw
   |true=>
    rw[if_pos rfl] at q9 ⊢
    refine thn (he _ _ _ _ _ s9 σ8 H9 _ I9 q9) λuy s10 zz=>?_;obtain⟨y,H10,I10,r10,hD10,hl10,m',hm,hw⟩:=zz;refine thn (Ae4 (X:=X.comp scope own cap C s3 (upd H2 s2.heap.objs.size (.lst [])) fp) _ s10 σ8 H10 (.ref s2.heap.objs.size) [y] (.ref s2.heap.objs.size) [uy]
     (λ_ H'=>H'=upd H10 s2.heap.objs.size (.lst (acc ++ [y]))) I10 rfl (.cons r10 .nil) ⟨_,acc,y,rfl,rfl,hD10,hl10,rfl⟩) λ_ s11 ⟨_,H11,I11,_,e11⟩=>?_
    subst e11;exact again I11 Bl hm hw
 exact codeAny_compStart_list loop (T.self _ 0 _ _ _ (T.keep _ _ _ st3 λb _ o e=>old b o e) loop)
theorem Axy{cap:List Nat}(hc:X.calm=true)(hE:X.env.scope=es)(hi:PI X tg iter wi)(hg:∀C s H ex,PG (X.comp scope own cap C s H ex) tg g)(ht:∀C s H ex,PTs (X.comp scope own cap C s H ex) ifs tt)(he:∀C s H ex,PE (X.comp scope own cap C s H ex) elt te)(hcap:∀j∈cap,∃x,X.N[j]?=some x/\scope.names.lookup x=some .free)(az:scope.kind=.function:=by rfl)(ao:∀y∈scope.names,y.2≠.cell:=by decide)(au:∀y∈scope.names,y.2=.local->scope.names.lookup y.1=some .local:=by decide)(hfree':∀y∈scope.names,y.2=.free->(es.names.lookup y.1=some .cell\/es.names.lookup y.1=some .free):=by decide +kernel)(hs:∀x,foldedSetIterable iter X.env x=pure x:=by intro _;rfl):
  PE X (.ListComp elt [⟨tg,iter,ifs,0⟩] scope pos) (Ae8 wi g tt te own cap):=by
 intro aa s σ H Q I h;rw[eval_ListComp];exact Ae9 (use:=none) hc hE hi hg ht he hcap az ao au hfree' hs I h λD C s6 H5 m J hn _ qn=>⟨m,hn,λh' hsb=>⟨.ref D,H5,J h' hsb,rfl,qn⟩⟩
theorem Axz{i:Nat}{cap:List Nat}(hc:X.calm=true)(hE:X.env.scope=es)(hi:PI X tg iter wi)(hg:∀C s H ex,PG (X.comp scope own cap C s H ex) tg g)(ht:∀C s H ex,PTs (X.comp scope own cap C s H ex) ifs tt)(he:∀C s H ex,PE (X.comp scope own cap C s H ex) elt te)(hcap:∀j∈cap,∃x,X.N[j]?=some x/\scope.names.lookup x=some .free)(az:scope.kind=.function)(ao:∀y∈scope.names,y.2≠.cell)(au:∀y∈scope.names,y.2=.local->scope.names.lookup y.1=some .local)(hfree':∀y∈scope.names,y.2=.free->(es.names.lookup y.1=some .cell\/es.names.lookup y.1=some .free))(hs:∀x,foldedSetIterable iter X.env x=pure x)(hy:PG X (.Name y py) (Ms i))(hsw:swapsWith (.ListComp elt [⟨tg,iter,ifs,0⟩] scope pos) (some (.Name y py)) spos.line X.env=pure true):
  PS X (.Assign [.Name y py] (.ListComp elt [⟨tg,iter,ifs,0⟩] scope pos) spos) (Axc (Ae8 wi g tt te own cap) (Ms i)):=by
 intro aa s σ H D I h;rw[exec_Assign_Name_used _ _ _ _ hsw];refine aB (qH (aB ?_));show wpAny _ X.A (do let _<-comprehension (.ListComp elt [⟨tg,iter,ifs,0⟩] scope pos) scope X.env _ (newList []) false (eval iter X.env) (some (assign (.Name y py) X.env))) _ _ s
 refine aB (fW (Ae9 (Q':=λ_ s'=>SP X aa D .next s') hc hE hi hg ht he hcap az ao au hfree' hs I h λD' C s6 H5 m J hn fp qn=>?_) (λ_ s' q=>aV (aV q)) λ_ _ z=>z);show wpAny _ _ (assign (.Name y py) X.env (.ref D')) _ _ _;have I6:Inv X aa σ H5 s6:=J s6.heap ⟨rfl,λ_ _=>rfl⟩;obtain⟨oC,es',ep',hoC,hdC,rC⟩:=id hn;have nc:∀v,oC.data≠.cell v:=λv z=>by rw[hdC] at z;cases z
 have I6p:=I6.pinned (fp:=[C]) (λb hb=>by obtain rfl:=bA.mp hb;exact fp) (λb hb=>by obtain rfl:=bA.mp hb;exact⟨oC,hoC,nc⟩)
 refine thn (hy _ s6 σ H5 (.ref D') (.ref D') _ I6p rfl qn) λ_ s7 zz=>?_;obtain⟨σ7,H7,I7,q7⟩:=zz;have pC:=I7.pin (C,oC) (cU _ (cU _ (Kr (bA.mpr rfl) hoC)));have hC7:s7.heap.get? C=some oC:=pC.1;have I7:=I7.unpinned;refine⟨m,⟨oC,es',ep',hC7,hdC,rC⟩,λh' hsb=>⟨σ7,H7,?_,q7⟩⟩;have neC:∀{b:aQ} {u:HO},H7 b=some u->b≠C:=λq=>Df q pC.2.1;refine I7.step (s:=s7) (g':=s7.gens) (d':=s7.drawn) (t':=s7.toks) (h':=h') (ch:=[C]) (λb hb=>by obtain rfl:=bA.mp hb;exact⟨fp.2.2.2.1,fp.2.1,fp.2.2.2.2.1,fp.2.2.2.2.2⟩)
  (λb o _ _ hb q _=>(hsb.2 b (λz=>hb (bA.mpr z))).trans q) (λb o _ _ hb q _=>⟨o.slots,(hsb.2 b (λz=>hb (bA.mpr z))).trans q⟩) (λ_ _ _ _ q=>q)
  (λb o hb q=>⟨o,(hsb.2 b (λz=>hb (bA.mpr z))).trans q⟩) (λ_ _ q=>q) (λ_ _ _ q=>q) (λb ps q=>⟨#[],by rw[jT];exact q⟩) (λm' hm=>?_) (λa u q=>?_) I7.bare
 .obtain⟨o,e1,e2,ho,r⟩:=hm;exact⟨o,e1,e2,(hsb.2 _ (λz=>fp.2.1 z.symm)).trans ho,r⟩
 .refine(I7.hok a u q).stay (λb v hb z=>(hsb.2 b ?_).trans z) (λ_ z=>z) λ_ _ z=>z;rcases hb with rfl|hb
  .exact neC q
  .exact neC hb
mutual
inductive DV(H:Hp):V->bK->Prop
 |non:DV H .non .none
 |bl (b:Bool):DV H (.bl b) (.bool b)
 |int (i:Int):DV H (.int i) (.int i)
 |str (x:Str):DV H (.str x) (.str x)
 |lst {a:aQ} {vs:List V} {ds:List bK}:H a=some (.lst vs)->DVs H vs ds->DV H (.ref a) (.list ds)
 |tup {a:aQ} {vs:List V} {ds:List bK}:H a=some (.tup vs)->DVs H vs ds->DV H (.ref a) (.tuple ds)
 |dct {a:aQ}:H a=some (.dK [])->DV H (.ref a) (.dict [])
inductive DVs(H:Hp):List V->List bK->Prop
 |nil:DVs H [] []
 |cons {v:V} {d:bK} {vs:List V} {ds:List bK}:DV H v d->DVs H vs ds->DVs H (v::vs) (d::ds)
end
noncomputable def tyD:bK->String
 |.none=>"NoneType"|.bool _=>"bool"|.int _=>"int"|.str _=>"str"|.list _=>"list"|.tuple _=>"tuple"|.dict _=>"dict"
section
variable{X:Cx}{aa:List (aQ×Obj)}{σ:St}{H:Hp}{s:aZ}
mutual
theorem DV.reads(I:Inv X aa σ H s):∀{v:V} {d:bK} {u:aJ},DV H v d->RelV v u->∃as,Reads s.heap u d as
 |_,_,_,.non,r=>by cases r;exact⟨_,.none⟩
 |_,_,_,.bl b,r=>by cases r;exact⟨_,.bool b⟩
 |_,_,_,.int i,r=>by obtain⟨t,rfl⟩:=r;exact⟨_,.int i t⟩
 |_,_,_,.str x,r=>by obtain⟨t,rfl⟩:=r;exact⟨_,.str x t⟩
 |_,_,_,.lst h q,r=>by
  cases r;obtain⟨_,its,n,rv,e⟩:=I.hok _ _ h;obtain⟨as,ra⟩:=DVs.reads I q rv;exact⟨_,.list e rfl rfl (by simpa using ra)⟩
 |_,_,_,.tup h q,r=>by
  cases r;obtain⟨_,its,rv,o,e,c,n,d⟩:=I.hok _ _ h;obtain⟨as,ra⟩:=DVs.reads I q rv;exact⟨_,.tuple e c d (by simpa using ra)⟩
 |_,_,_,.dct h,r=>by
  cases r;obtain⟨_,_,vs,rv,o,es,ep,e,x,d,_,p,_⟩:=I.hok _ _ h;cases rv;have z:es.toList=[]:=by
   revert p;generalize es.toList=l;intro p;cases p;rfl
  exact⟨_,.dict e x.1 d (by rw[z];exact .nil) (by rw[z];exact .nil)⟩
theorem DVs.reads(I:Inv X aa σ H s):∀{vs:List V} {ds:List bK} {us:List aJ},DVs H vs ds->Vals vs us->∃as,ReadsAll s.heap us ds as
 |_,_,_,.nil,.nil=>⟨_,.nil⟩
 |_,_,_,.cons h q,.cons r t=>by
  obtain⟨as,ra⟩:=DV.reads I h r;obtain⟨bs,rb⟩:=DVs.reads I q t;exact⟨_,.cons ra rb⟩
end
end
def Bkx:R2:=λx y H Q=>∃d e,DV H x d/\DV H y e/\cO d=true/\cO e=true/\Q (.bl (jU d e)) H
def Bky:R2:=λx y H Q=>∃d e,DV H x d/\DV H y e/\cO d=true/\cO e=true/\Q (.bl (!jU d e)) H
section
variable{X:Cx}
theorem Bd1(hu:X.A.units+64 < cLine):OpR X (compareOp .Eq) Bkx:=by
 intro aa s σ H x y v u Q I rx ry h;obtain⟨d,e,hd,he,sd,se,q⟩:=h;obtain⟨as,ra⟩:=hd.reads I rx;obtain⟨bs,rb⟩:=he.reads I ry;exact eq_dataH ra rb sd se hu ⟨.bl _,H,I,rfl,q⟩
theorem Bd2(hu:X.A.units+64 < cLine):OpR X (compareOp .NotEq) Bky:=by
 intro aa s σ H x y v u Q I rx ry h;obtain⟨d,e,hd,he,sd,se,q⟩:=h;obtain⟨as,ra⟩:=hd.reads I rx;obtain⟨bs,rb⟩:=he.reads I ry;exact ne_dataH ra rb sd se hu ⟨.bl _,H,I,rfl,q⟩
variable{e:cA}{es:List cA}{d:bK}{ds:List bK}{pos:Pos}
end
structure Te(K:aF)(C:aQ):Prop where
 cls:(qI K C).isSome=true
 ga:dH K (.ref C) "__getattribute__"=some (some (.builtin "BaseException.__getattribute__"))
 gn:dH K (.ref C) "__getattr__"=some none
 cl:dH K (.ref C) "__class__"=some (some (.builtin "object.__class__"))
 mb:jY K C (.type "BaseException")=some true
 mo:jY K C (.type "object")=some true
section
variable{prog:cP}{w:dO}{A:fV}{E:aJ->aZ->Prop}{h:dN}{g:Array sO}{d:aAf}{t:Nat}{os:zR}{a C:aQ}{o:Obj}{K:aF}
open PySem.W in
theorem Alh(KX:K.In h)(F1:Te K C)(hx:h.get? a=some o)(hc:o.cls=.ref C)(hq:R (.ok (.ret (.ref C))) ⟨h,g,d,t,os⟩):
  codeAny (model prog w) A (.call (.builtin "getset_descriptor.__get__") ⟨[.builtin "object.__class__",.ref a,.ref C],[]⟩) R ⟨h,g,d,t,os⟩:=by
 have hT5:(⟨h,g,d,t,os⟩:aZ).TypeIs (.builtin "object.__class__") "getset_descriptor":=nQ;have L8:Looks (model prog w) h (isSubtype (.ref C) (.type (".".intercalate ("object.__class__".cutAt '.').dropLast))) true:=by rw[F.owner_object_class];exact looks_mroIn KX F1.mo
 refine jE uJ.plain F.entry_gs_get (uJ.check _ _ _ _ _ _ _ _ hT5 (F.args_gs_get _ _ _) ?_)
 repeat (any_goals (first|assumption|(with_reducible refine dM hx ?_;rw[hc])|with_reducible refine L8.at ?_|wp_step))
 refine⟨pN _ (by decide +kernel),codeAny_builtin F.entry_object_class ?_⟩
 repeat (any_goals (first|assumption|(with_reducible refine dM hx ?_;rw[hc])|wp_step))
open PySem.W in
theorem V2(KX:K.In h)(F1:Te K C)(hx:h.get? a=some o)(hc:o.cls=.ref C)(hq:Q () ⟨h,g,d,t,os⟩):
  wpAny M A (checkBuiltinCall "BaseException.__getattribute__" ⟨[.ref a,nameV],[]⟩) Q E ⟨h,g,d,t,os⟩:=by
 have hk:builtinKind "BaseException.__getattribute__"=some .slot:=by decide +kernel
 have hsplit:splitId "BaseException.__getattribute__"=some ("BaseException","__getattribute__"):=by decide +kernel
 have L8:Looks M h (isSubtype (.ref C) (.type "BaseException")) true:=looks_mroIn KX F1.mb;have ha:=F.args_bexc_ga (.ref a) nameV;simp only[checkBuiltinCall,hk,hsplit];refine aB ?_
 .unfold isInstance
  repeat (first|(with_reducible refine dM hx ?_;rw[hc])|with_reducible refine L8.at ?_|wp_step)
  exact hq
open PySem.W in
theorem Agu{tk:Tok}(KX:K.In h)(F1:Te K C)(hx:h.get? a=some o)(hc:o.cls=.ref C)(hq:Q (.done (.ret (.ref C))) ⟨h,g,d,t,os⟩):
  wpAny (model prog w) A (tV.«object.__getattribute__» ⟨[.ref a,.str "__class__" tk],[]⟩) Q E ⟨h,g,d,t,os⟩:=by
 have hT5:(⟨h,g,d,t,os⟩:aZ).TypeIs (.builtin "object.__class__") "getset_descriptor":=nQ;have L4:Looks (model prog w) h (typeLookup (.ref C) "__class__") (some (.builtin "object.__class__")):=looks_findIn KX F1.cl;have f5:=nQ;have f6:=uJ.lookup;have f7:=F.slot_gs_set.lookup
 repeat (any_goals (first|assumption|(with_reducible refine dM hx ?_;rw[hc])|with_reducible refine L4.at ?_|wp_step))
 refine Alh KX F1 hx hc ?_
 repeat (any_goals (first|assumption|wp_step))
open PySem.W in
theorem Apw{tk:Tok}{fill expr:Bool}{Q:aJ->aZ->Prop}(KX:K.In h)(F1:Te K C)(hx:h.get? a=some o)(hc:o.cls=.ref C)(hq:Q (.ref C) ⟨h,g,d,t,os⟩):
  wpAny (model prog w) A (getAttrBy (.ref a) (.str "__class__" tk) fill expr) Q E ⟨h,g,d,t,os⟩:=by
 have f3:=nF.ga.bind (.ref a);have hx0:(expr&&onTheHeap (gP "BaseException.__getattribute__"))=false:=by cases expr <;> rfl
 have hx2:(gP "BaseException.__getattribute__"==gP "object.__getattribute__")=false:=by decide +kernel
 have hx1:(onTheHeap (cL C)&&gP "BaseException.__getattribute__"==gP "object.__getattribute__")=false:=by rw[hx2];rfl
 have L1:Looks (model prog w) h (typeLookup (.ref C) "__getattribute__") (some (.builtin "BaseException.__getattribute__")):=looks_findIn KX F1.ga;have L2:Looks (model prog w) h (typeLookup (.ref C) "__getattr__") none:=looks_findIn KX F1.gn
 repeat (any_goals (first|assumption|(with_reducible refine dM hx ?_;rw[hc])|with_reducible refine L1.at ?_|with_reducible refine L2.at ?_|wp_step))
 refine jE nF.ga.plain xK (V2 KX F1 hx hc (Agu KX F1 hx hc ?_))
 repeat (any_goals (first|assumption|wp_step))
open PySem.W in
theorem Aip{Q:Option aJ->aZ->Prop}(KX:K.In h)(F1:Te K C)(hx:h.get? a=some o)(hc:o.cls=.ref C)(hq:Q (some (.ref C)) ⟨h,g,d,t+1,os⟩):
  wpAny (model prog w) A (getAttr? (.ref a) "__class__") Q E ⟨h,g,d,t,os⟩:=by
 unfold getAttr? getAttrBy?
 repeat (any_goals (first|assumption|with_reducible apply Apw KX F1 hx hc|wp_step))
open PySem.W in
theorem Aiq(F1:Te K C):KitX K (.ref a) (.ref C) (λh=>∃o vs,h.get? a=some o/\o.cls=.ref C/\o.data=.fields vs) where
 ty:=λ_ _ _ ⟨o,_,h1,h2,_⟩=>h2 ▸ (Looks.ld h1).andThen .now
 it:=λ_ _ X _=>by
  obtain⟨cdD,hcD⟩:=mK.mp F1.cls;unfold clsIn at hcD;split at hcD
  .rename_i c' d' cd' sl' ho;intro A' Q' E' s' k q;unfold isType loadHead;exact aB (wpAny_loadPart (k _ _ (X _ _ ho)) (aV q))
  .cases hcD
 ne:=λh tp dd its n sl X htp=>by
  obtain⟨cdD,hcD⟩:=mK.mp F1.cls;refine bI.mpr λq=>?_;have e:C=tp:=zG (beq_iff_eq.mp q);subst e;unfold clsIn at hcD;split at hcD
  .rename_i c' d' cd' sl' ho;have z:=(X _ _ ho).symm.trans htp;cases z
  .cases hcD
 ca:=λ{_ _ _ _ _ s} X ⟨o,_,h1,h2,_⟩ k=>by obtain⟨h,g,d,t,os⟩:=s;exact Aip X F1 h1 h2 k
end
inductive TyX(K:aF)(H:Hp):V->aJ->Prop
 |of {x:V} {t:aJ}:Xc K H x t->TyX K H x t
 |exc {a C:aQ} {o:Option (Nat×Option aQ)}:H a=some (Ng a (.ref C) o)->Te K C->TyX K H (.ref a) (.ref C)
section
variable{X:Cx}{aa:List (aQ×Obj)}{σ:St}{H:Hp}{s:aZ}
theorem Ano{o:Option (Nat×Option aQ)}(I:Inv X aa σ H s)(e:H a=some (Ng a (.ref C) o)):∃o vs,s.heap.get? a=some o/\o.cls=.ref C/\o.data=.fields vs:=by
 obtain⟨p,_,_⟩:=(show Dr X.prog X.w H s.heap a (Ng a (.ref C) o) from I.hok a _ e);exact p.1
noncomputable def Xd:V->Option aJ
 |.ty n=>some (.type n)
 |.ref a=>some (.ref a)
 |_=>none
theorem Air(h:Xd c=some cv)(r:RelV c u):u=cv:=by
 cases c <;> simp[Xd] at h <;> subst h <;> exact r
theorem Ais:∀{cs:List V} {its cvs:List aJ},Vals cs its->cs.mapM Xd=some cvs->its=cvs
 |[],_,_,.nil,hc=>by simp at hc;exact hc.symm
 |y::r,_,cvs,.cons r1 r2,hc=>by
  rw[yJ] at hc;cases h1:Xd y with
  |none=>rw[h1] at hc;cases hc
  |some cv=>
   rw[h1] at hc;cases h2:r.mapM Xd with
   |none=>rw[h2] at hc;cases hc
   |some cvs'=>
    rw[h2] at hc;have hc:cv::cvs'=cvs:=bV hc;rw[<-hc,Air h1 r1,Ais r2 h2]
theorem As5:Gy X (.builtin "isinstance") (λxs H Q=>∃x c cv t b,xs=[x,c]/\TyX X.K H x t/\Xd c=some cv/\gR X.K t cv=some b/\Q (.bl b) H):=by
 intro aa s σ H xs us Q I r h;obtain⟨x,c,cv,t,b,rfl,ty,hc,hk,q⟩:=h;obtain⟨u,v,rfl,ru,rv⟩:=vals2 r;obtain rfl:=Air hc rv;have fin:∀tk,EP X aa σ Q (.bool b) { s with toks:=tk }:=λtk=>⟨.bl b,H,I.tok tk,rfl,q⟩
 cases ty with
 |of ty=>exact Apk I ru ty hk fin
 |exc e k=>
  cases ru;exact eN (Aiq k) I.kIn (Ano I e) hk (λz=>nomatch z) fin
theorem Apx:Gy X (.builtin "isinstance") (λxs H Q=>∃x p cs cvs t b,xs=[x,.ref p]/\H p=some (.tup cs)/\TyX X.K H x t/\cs.mapM Xd=some cvs/\nG X.K t cvs=some b/\(∃a C o,x=.ref a/\t=.ref C/\H a=some (Ng a (.ref C) o)/\Te X.K C)/\Q (.bl b) H):=by
 intro aa s σ H xs us Q I r h;obtain⟨x,p,cs,cvs,t,b,rfl,hp,ty,hc,hk,⟨a,C,o0,rfl,rfl,he,ek⟩,q⟩:=h;obtain⟨u,v,rfl,ru,rv⟩:=vals2 r;cases ru;cases rv;obtain⟨hz,its,ri,o,e,c,n,dd⟩:=(show Dr X.prog X.w H s.heap p (.tup cs) from I.hok p _ hp);have hits:its=cvs:=Ais ri hc;subst hits;obtain⟨oc,od,odt,osl⟩:=o;have c:oc=.type "tuple":=c;have dd:odt=.seq its.toArray n:=dd;subst c dd;exact PySem.W.kia_tup (Aiq ek) I.kIn (Ano I he) e hk (λz=>nomatch z) λtk=>⟨.bl b,H,I.tok tk,rfl,q⟩
end
def Its(x:Str):It:=⟨λi _=>i < x.cps.size,λi H v H'=>H'=H/\∃c,x.cps[i]?=some c/\v=.str ⟨#[c]⟩,λi _=>i=x.cps.size⟩
theorem Ait{P:cP}{w:dO}{K:aF}{tg:cA}(it:aQ)(ty:String)(x:Str)(t:Tok)(hty:["enumerate","zip","dict_itemiterator","dict_reverseitemiterator","odict_iterator","itertools.zip_longest","itertools.pairwise"].contains ty=false)(W:∀A:fV,A.handled=none->Walks P w A it [it] [it] x.cps.size (SignAt x) (λi h=>h.IsStrIter it ty x t i))(hself:∀(A:fV)(i:Nat)(s:aZ)(Q:aJ->aZ->Prop)(E:aJ->aZ->Prop),s.heap.IsStrIter it ty x t i->Q (.ref it) s->wpAny (model P w) A (pyIter (.ref it)) Q E s):
  Turn P w K tg (Its x) [it] it (λi h=>h.IsStrIter it ty x t i) where
 mem:=by simp
 obj:=λi h st b hb=>by
  have e:b=it:=by simpa using hb
  subst e;obtain⟨o,e,c,d⟩:=st;exact⟨o,e,λv z=>by rw[d] at z;cases z⟩
 keep:=λi h h' st k=>let ⟨o,e,r⟩:=st;⟨o,k it (by simp) o e,r⟩
 item:=by
  intro X hP hw hK hc i aa s σ H E I hf st hg;subst hP hw hK;obtain⟨f0,f1,f2,f3,f4,f5⟩:=hf it (by simp)
  refine(W X.A (I.ok.hd hc)).item i s _ _ hg st λv h' tk hv st' kk=>?_;obtain⟨c,u,hcp,rfl⟩:=hv;have I1:Inv X aa σ H { s with heap:=h',toks:=tk }:=I.turned (λb o hb e=>kk b o (by simpa using hb) e) f0 f1 f3 f4 f5
  obtain⟨o,e,oc,d⟩:=id st';exact⟨_,rfl,Ang (s:={ s with heap:=h',toks:=tk }) e oc d hty ⟨.str ⟨#[c]⟩,H,I1,⟨u,rfl⟩,⟨rfl,c,hcp,rfl⟩,st',λb hb=>(hf b hb).1⟩⟩
 done:=by
  intro X hP hw hK hc i aa s σ H E I hf st hg;subst hP hw hK;have hg:i=x.cps.size:=hg;subst hg;obtain⟨f0,f1,f2,f3,f4,f5⟩:=hf it (by simp)
  refine(W X.A (I.ok.hd hc)).done s _ _ st λh' tk kk=>⟨rfl,I.turned (λb o hb e=>kk b o (by simpa using hb) e) f0 f1 f3 f4 f5⟩
 self:=hself
def Bip(ts:TE):TI:=λσ H R=>ts σ H λv H1=>∃x,v=.str x/\R (Its x) H1
theorem Bd3{X:Cx}{tg e:cA}{ts:TE}(he:PE X e ts):PI X tg e (Bip ts):=by
 intro aa s σ H R I h;refine thn (he aa s σ H _ I h) λv s1 zz=>?_;obtain⟨z,H1,I1,r1,q1⟩:=zz;obtain⟨x,rfl,q⟩:=q1;obtain⟨t,rfl⟩:=r1;have I2:∀o,Inv X aa σ H1 { s1 with heap:=s1.heap.push o }:=λo=>I1.kept (t':=s1.toks) λb u e=>aP _ e
 have fp:∀b∈[s1.heap.objs.size],Aeg X aa H1 b:=λb hb=>by
  have e:b=s1.heap.objs.size:=by simpa using hb
  subst e;exact I1.fpOk (aN _) (I1.hok.fresh (aN _))
 cases ha:x.cps.all (· < 128)
 .refine wpAny_pyIter_wide ha ⟨s1.heap.objs.size,[s1.heap.objs.size],_,_,H1,rfl,I2 _,Ait _ "str_iterator" x t (by decide) (λA hA=>Walks.strWide hA _ x t) (λ_ _ _ _ _ st h=>wpAny_pyIter_striter_wide st h),⟨_,bO _ rfl,rfl,rfl⟩,fp,q⟩
 .refine wpAny_pyIter_ascii ha ⟨s1.heap.objs.size,[s1.heap.objs.size],_,_,H1,rfl,I2 _,Ait _ "str_ascii_iterator" x t (by decide) (λA hA=>Walks.strAscii hA _ x t) (λ_ _ _ _ _ st h=>wpAny_pyIter_striter_ascii st h),⟨_,bO _ rfl,rfl,rfl⟩,fp,q⟩
structure As6(J:It)(xs:List V)(ok:Hp->Prop):Prop where
 go:∀i H,i < xs.length->ok H->J.go i H
 yld:∀i H x H',i < xs.length->J.yld i H x H'->ok H->H'=H/\xs[i]?=some x
 stop:∀H,ok H->J.stop xs.length H
theorem Aiu(S:As6 J xs ok)(hD:H1 D=none)(Sl:St->Prop)(h0:Sl σ0)(p:V->Bool)(f:V->V)(hz:xs.length<=sizeLine)(hok:∀acc,ok (upd H1 D (.lst acc)))(hs:∀(i:Nat)(x:V)(σ:St)(acc:List V)(A:St->V->Hp->Prop)(B:St->Hp->Prop),xs[i]?=some x->Sl σ->(∀σ2,Sl σ2->p x=true->A σ2 (f x) (upd H1 D (.lst acc)))->(∀σ2,Sl σ2->p x=false->B σ2 (upd H1 D (.lst acc)))->
   g x σ (upd H1 D (.lst acc)) λσ2 H2=>tt σ2 H2 λb H3=>if b=true then te σ2 H3 λy H4=>A σ2 y H4 else B σ2 H3)(hq:Q (.ref D) (upd H1 D (.lst ((xs.filter p).map f)))):
  Ae7 J g tt te D σ0 H1 Q:=by
 refine⟨λi m acc σ H=>m=xs.length - i/\i<=xs.length/\Sl σ/\acc=((xs.take i).filter p).map f/\H=upd H1 D (.lst acc),⟨xs.length,by simp,dU _,h0,by simp,rfl⟩,?_⟩
 rintro i m acc σ H ⟨rfl,hi,sl,ha,rfl⟩ _;by_cases hlt:i < xs.length
 .refine .inr ⟨S.go i _ hlt (hok _),λx H'' y=>?_⟩;obtain⟨rfl,hx⟩:=S.yld i _ x H'' hlt y (hok _);have hlen:acc.length < sizeLine:=by
   rw[ha,aA];refine uZ (kO _ _) ?_;rw[eQ];omega
  refine hs i x σ acc _ _ hx sl (λσ2 s2 hp=>⟨Bl,hlen,xs.length - (i+1),by omega,rfl,hlt,s2,?_,?_⟩) (λσ2 s2 hp=>⟨Bl,xs.length - (i+1),by omega,rfl,hlt,s2,?_,rfl⟩)
  .rw[ha,wN p xs i x hx,if_pos hp,cX];rfl
  .rw[Aw2]
  .rw[ha,wN p xs i x hx,hp];simp
 .have e:i=xs.length:=by omega
  subst e;rw[lY] at ha;subst ha;exact .inl ⟨S.stop _ (hok _),hq⟩
def Bd4(h:R true H):Abi σ H R:=h
theorem Aiv(S:As6 J xs ok)(hD:H1 D=none)(Sl:St->Prop)(h0:Sl σ0)(f:V->V)(hz:xs.length<=sizeLine)(hok:∀acc,ok (upd H1 D (.lst acc)))(hs:∀(i:Nat)(x:V)(σ:St)(acc:List V)(A:St->V->Hp->Prop)(R:St->Hp->Prop),xs[i]?=some x->Sl σ->(∀σ2,Sl σ2->A σ2 (f x) (upd H1 D (.lst acc)))->(∀σ2 H2,te σ2 H2 (λy H4=>A σ2 y H4)->R σ2 H2)->g x σ (upd H1 D (.lst acc)) R)(hq:Q (.ref D) (upd H1 D (.lst (xs.map f)))):Ae7 J g Abi te D σ0 H1 Q:=by
 refine Aiu S hD Sl h0 (λ_=>true) f hz hok (λi x σ acc A B hx hsl hA _=>?_) ?_
 .exact hs i x σ acc A _ hx hsl (λσ2 s2=>hA σ2 s2 rfl) λσ2 H2 h=>Bd4 (Agq h)
 .rw[fH.mpr (λ_ _=>rfl)];exact hq
section
variable{X:Cx}
theorem Ali:OpR X (binaryOp .Mult) (λx y H Q=>∃z n,x=.str z/\y=.int n/\z.length<=16/\0<=n/\n<=1048576/\Q (.str (tW z n)) H):=by
 intro aa s σ H x y v u Q I rx ry h;obtain⟨z,n,rfl,rfl,h1,h2,h3,q⟩:=h;obtain⟨t,rfl⟩:=rx;obtain⟨t',rfl⟩:=ry;exact SB.mul (mulOk_of 16 1048576 h1 (by omega) (by omega) (by decide) (by decide)) λt' k=>⟨.str _,H,I.tok _,⟨_,rfl⟩,q⟩
theorem Abj:∀{ys:List Str} {us:List aJ},Vals (ys.map V.str) us->tX us ys
 |[],_,h=>by cases h;exact .nil
 |y::r,_,h=>by
  cases h with
  |cons h1 h2=>
   obtain⟨t,rfl⟩:=h1;exact .cons y t (Abj h2)
theorem Ax0:MtR X "str.join" (λx vs H Q=>∃z p ys,x=.str z/\vs=[.ref p]/\H p=some (.lst (ys.map V.str))/\(ys.map (·.length)).sum+ys.length * z.length<=16777216/\Q (.str (vR z ys)) H):=by
 intro aa s σ H x vs v us Q I rx rv h;obtain⟨z,p,ys,rfl,rfl,hp,hz,q⟩:=h;obtain⟨t,rfl⟩:=rx;obtain⟨u,rfl,ru⟩:=rv.one;cases ru;obtain⟨_,its,n,r,e⟩:=(show Dr X.prog X.w H s.heap p (.lst (ys.map V.str)) from I.hok p _ hp);exact join_list (D:=p) (items:=its.toArray) ⟨_,e,rfl,_,rfl⟩ (by simpa using Abj r) hz λt' k=>⟨.str _,H,I.tok _,⟨_,rfl⟩,q⟩
theorem range_all(bs:List Bool):(bR bs.length).all (λi=>bs.getD i false)=bs.all id:=by
 rw[Bool.eq_iff_iff,cG,cG];constructor
 .intro h x hx;obtain⟨i,hi,rfl⟩:=tZ hx;have:=h i (iR.mpr hi);rw[cR,aW hi] at this;exact this
 .intro h i hi;have hi:=iR.mp hi;rw[cR,aW hi];exact h _ (lZ hi)
theorem As7(hc:X.calm=true):Gy X (.builtin "all") (λxs H Q=>∃p,∃bs:List Bool,xs=[.ref p]/\H p=some (.lst (bs.map V.bl))/\Q (.bl (bs.all id)) H):=by
 intro aa s σ H xs us Q I r h;obtain⟨p,bs,rfl,hp,q⟩:=h;obtain⟨u,rfl,ru⟩:=vals1 r;cases ru;obtain⟨_,its,n,rv,e⟩:=(show Dr X.prog X.w H s.heap p (.lst (bs.map V.bl)) from I.hok p _ hp);have hl:s.heap.IsList p its.toArray:=⟨_,e,rfl,_,rfl⟩;have hlen:its.length=bs.length:=by rw[<-rv.length,aA]
 refine call_all_walk (vI hl ?_);have hne:p≠s.heap.objs.size:=dC (bN e);have hnew:∀o b u,s.heap.get? b=some u->(s.heap.push o).get? b=some u:=λo b u z=>aP _ z;refine⟨s.heap.objs.size,[s.heap.objs.size,p],[s.heap.objs.size],its.toArray.size,_,_,λi=>bs.getD i false,rfl,Walks.list (A:=X.A.in1) (show X.A.in1.handled=none from I.ok.hd hc) _ p hne its.toArray,⟨⟨_,bO _ rfl,rfl,rfl⟩,?_⟩,λi v s' Q' E' hv hq=>?_,λh' tk k=>?_⟩
 .exact⟨_,hnew _ _ _ e,rfl,_,rfl⟩
 .have hv:its[i]?=some v:=by simpa using hv
  cases eb:bs[i]? with
  |none=>
   have:=dZ.mp eb;have:=(aL.mp hv).1;omega
  |some b=>
   obtain⟨u,hu,ru⟩:=rv.get (i:=i) (x:=.bl b) (by rw[cB,eb];rfl)
   rw[hv] at hu;cases hu;cases ru;have z:bs.getD i false=b:=by rw[cR,eb];rfl
   have hq:Q' (bs.getD i false) s':=hq;rw[z] at hq;exact dW hq
 .refine⟨.bl _,H,I.kept (t':=tk) λb u z=>k b u (λm=>?_) (hnew _ _ _ z),rfl,?_⟩
  .have:b=s.heap.objs.size:=by simpa using m
   subst this;exact absurd (bN z) (fK _)
  .have z:(bR its.toArray.size).all (λi=>bs.getD i false)=bs.all id:=by
    rw[bD,hlen];exact range_all bs
   rw[z];exact q
end
structure Pk(K:aF)(mg:Str->Option aJ)(x:Str)(st:dG)(ps:List Str)(f:aQ)(fd:eO):Prop where
 fn:Fun K x x st f fd
 gl:mg x=some (.ref f)
 bd:Binds K fd ps []
section
theorem Fun.okX{P:cP}{w:dO}{K:aF}{mg:Str->Option aJ}{base:dN}{cm:Bool}{x aj:Str}{st:dG}{f:aQ}{fd:eO}{N ps:List Str}{k:Nat}{sp:Sp}(F:Fun K x aj st f fd)(S:Hf N ps (Am st))(len:∀vs H Q E,sp vs H Q E->vs.length=ps.length)(hbody:∀(cdv:aJ)(A:fV)(outer:List Env)(s:aZ)(H:Hp)(vs:List V)(Q:VK)(E:XK),Im k (A.deeper (envOfC aj (Am st) s.heap.objs.size f cdv)) cm->sp vs H Q E->
   ∃t,PSs (Vd (CXo P w) P w K mg base N aj (Am st) f cdv A outer s H E cm) (Ax st) t/\t { nx:=λ_ H'=>Q .non H',rt:=Q } (start N vs) H):Io P w K mg base (CXo P w) (k+1) f fd ps sp cm:=by
 obtain⟨oc,od,dV,kV,doc,pm,an,cdv,ct,osl,rfl,lk,hcd⟩:=F.ex;exact Bic lk hcd S len λA outer s H vs Q E hr hsp=>hbody cdv A outer s H vs Q E hr hsp
def Anp:Gx (CXo P w) X (λ_=>E0):=λ_ _ _ _ _ _ _ ⟨_,_,_,_,_,_,_,z⟩=>z.elim
end
theorem Bd5{X:Cx}{CX:CXT}{k:Nat}{f:aQ}{fd:eO}{ps:List Str}{sp:Sp}{E:St->XK}{x:Str}{st:dG}{p pos:Pos}{e:cA}{es:List cA}{t:TA}{cm:Bool}(D:Pk X.K X.mg x st ps f fd)(F:Io X.prog X.w X.K X.mg X.base CX k f fd ps sp cm)(hr:Im k X.A cm)(hx:Gx CX X E)(ha:PA X (e::es) t)(hg:Gl X x:=by rfl)(hdb:(x==("__debug__":Str))=false:=by decide)(he:starEach (e::es) X.env=(false,eval e X.env)::starEach es X.env:=by rfl)(hpl:(backTo pos (starEach es X.env)).any (·.1)=false:=by rfl):
  PE X (.Call (.Name x p) (e::es) [] pos) (Ale sp [] E t):=Aio F hr hg D.gl D.fn.kp D.bd .nil hx ha hdb he hpl
theorem pbi{X:Cx}{x:Str}{id:String}{r:List V->Hp->VK->Prop}{p pos:Pos}{e:cA}{es:List cA}{t:TA}(hc:Gy X (.builtin id) r)(hm:X.mg x=none)(hv:bootBuiltins x=some (.builtin id))(ha:PA X (e::es) t)(hg:Gl X x:=by rfl)(hn:x≠"__name__":=by decide)(hdb:(x==("__debug__":Str))=false:=by decide)(he:starEach (e::es) X.env=(false,eval e X.env)::starEach es X.env:=by rfl)(hpl:(backTo pos (starEach es X.env)).any (·.1)=false:=by rfl):
  PE X (.Call (.Name x p) (e::es) [] pos) (tCB r t):=Aso hc hg hm hv ha hn hdb he hpl
set_option maxHeartbeats 2000000 in
section
theorem As8(hc:X.calm=true):Gy X (.builtin "sum") (λxs H Q=>∃p,∃ns:List Int,xs=[.ref p]/\H p=some (.lst (ns.map V.int))/\Q (.int ns.sum) H):=by
 intro aa s σ H xs us Q I r h;obtain⟨p,ns,rfl,hp,q⟩:=h;obtain⟨u,rfl,ru⟩:=vals1 r;cases ru;obtain⟨_,its,n,rv,e⟩:=(show Dr X.prog X.w H s.heap p (.lst (ns.map V.int)) from I.hok p _ hp);have hi:tU its ns:=intsAre_of rv;obtain⟨zs,hx⟩:=hi.allInts.items;have hl:s.heap.IsList p (intItems zs):=hx ▸ (⟨_,e,rfl,_,rfl⟩:s.heap.IsList p its.toArray);refine sum_intListG (I.ok.hd hc) hl λh' tk t' hk=>⟨.int ns.sum,H,I.kept (t':=tk) hk,⟨t',?_⟩,q⟩;have e1:ns=zs.toList.map (·.1):=by
  rw[<-nums_intItems,<-hx];exact(show numsOf its.toArray.toList=ns from hi.numsOf).symm
 rw[preSum_eq,iI (by simp),e1]
theorem Apy:OpR X (compareOp .LtE) (λx y H Q=>∃i j,x=.str i/\y=.str j/\Q (.bl (!decide (j.cps.toList < i.cps.toList))) H):=by
 intro aa s σ H x y v u Q I rx ry h;obtain⟨i,j,rfl,rfl,q⟩:=h;obtain⟨t,rfl⟩:=rx;obtain⟨t',rfl⟩:=ry;exact PySem.P.le_str (Vc I q rfl)
theorem As9:MtR X "str.strip" (λx vs H Q=>∃z y,x=.str z/\vs=[.str y]/\z.length<=sizeLine/\Q (.str (gB z y)) H):=by
 intro aa s σ H x vs v us Q I rx rv h;obtain⟨z,y,rfl,rfl,hz,q⟩:=h;obtain⟨t,rfl⟩:=rx;obtain⟨u,rfl,t',rfl⟩:=rv.one;exact SC.stripChars (λt' k=>⟨.str _,H,I.tok k,⟨t',rfl⟩,q⟩) hz
theorem Bd6:SlR X (λx lo hi H Q=>∃z,x=.str z/\z.length<=sizeLine/\Q (.str (pF z lo hi)) H):=by
 intro aa s σ H x v vl vu lo hi sl Q I rx hs pl pu h;obtain⟨z,rfl,hz,q⟩:=h;obtain⟨t,rfl⟩:=rx;refine⟨"str",_,PySem.F.slot_str_getitem.lookup,xY _ _ _,?_⟩;have fin:∀(l u:Option (Int×Tok)),vl=partValue l->vu=partValue u->lo=l.map (·.1)->hi=u.map (·.1)->wpAny (model X.prog X.w) X.A (getItem (.str z t) (.ref sl)) (EP X aa σ Q) X.xe s:=by
  rintro l u rfl rfl rfl rfl;exact wpAny_getItem_str_slice (l:=l) (u:=u) (st:=none) hs rfl (post_val_or_str ⟨aD (Txt.slice_le z (l.map (·.1)) (u.map (·.1))) hz,λt' k=>⟨.str _,H,I.tok k,⟨t',rfl⟩,q⟩⟩)
 cases pl with
 |none=>cases pu with
  |none=>exact fin none none rfl rfl rfl rfl
  |int j tj=>exact fin none (some (j,tj)) rfl rfl rfl rfl
 |int i ti=>cases pu with
  |none=>exact fin (some (i,ti)) none rfl rfl rfl rfl
  |int j tj=>exact fin (some (i,ti)) (some (j,tj)) rfl rfl rfl rfl
end
def Alj(sc:kW)(x:Str):Bool:=match sc.names.lookup x with
 |some .local=>true
 |some .cell=>true
 |some .free=>true
 |_=>false
def Alk(sc:kW)(x:Str):Bool:=match sc.names.lookup x with
 |some .local=>true
 |some .cell=>true
 |_=>false
theorem Ab9(h:Alj sc x=true):Vis sc x:=by
 unfold Alj at h;split at h
 .exact .inl ‹_›
 .exact .inr (.inl ‹_›)
 .exact .inr (.inr ‹_›)
 .cases h
theorem Ata(h:Alk sc x=true):Loc sc x:=by
 unfold Alk at h;split at h
 .exact .inl ‹_›
 .exact .inr ‹_›
 .cases h
section
theorem Apz(K':aF)(hK:X.K=K'):Gy X (.builtin "isinstance") (λxs H Q=>∃x c cv t b,xs=[x,c]/\TyX K' H x t/\Xd c=some cv/\gR K' t cv=some b/\Q (.bl b) H):=by
 subst hK;exact As5
end
structure WE(X:Cx)(e:cA)(t:TE):Prop where
 un:PE X e t
structure WT(X:Cx)(e:cA)(t:TT):Prop where
 un:PT X e t
structure WW(X:Cx)(e:cA)(t:TT):Prop where
 un:PW X e t
structure WA(X:Cx)(es:List cA)(t:TA):Prop where
 un:PA X es t
structure WS(X:Cx)(st:dG)(t:TS):Prop where
 un:PS X st t
structure WSs(X:Cx)(sts:List dG)(t:TS):Prop where
 un:PSs X sts t
structure WG(X:Cx)(e:cA)(t:TG):Prop where
 un:PG X e t
structure WI(X:Cx)(tg e:cA)(t:TI):Prop where
 un:PI X tg e t
structure WTs(X:Cx)(es:List cA)(t:TT):Prop where
 un:PTs X es t
structure WO(X:Cx)(e:Option cA)(t:TO):Prop where
 un:PO X e t
structure WPs(X:Cx)(pos:Pos)(ks:List (Option cA))(vs:List cA)(trs:List (TE×TE)):Prop where
 un:PPs X pos ks vs trs
section
variable{X:Cx}{x:Str}{pos pos' p ak cpos:Pos}{a b c e o k v:cA}{es rest:List cA}{sts:List dG}{st:dG}{ta tb tc te to tl:TE}{t:TA}{tA tB':TT}{u u':TS}
theorem kv(i:Nat)(hN:X.N[i]?=some x:=by kernel_rfl)(hv:Alj X.env.scope x=true:=by kernel_rfl)(hd:(x==("__debug__":Str))=false:=by kernel_rfl)(hcd:(x==("__classdict__":Str))=false:=by kernel_rfl):
  WE X (.Name x pos) (Bcr i):=⟨Abz hN (Ab9 hv) hd hcd⟩
def Bkz{i:Int}{j:Nat}:WE X (.Constant (.int i) j pos) (tC (.int i)):=⟨Bcs⟩
def kbl{j:Nat}:WE X (.Constant (.bool i) j pos) (tC (.bl i)):=⟨Bho⟩
def Bk0{j:Nat}:WE X (.Constant .none j pos) (tC .non):=⟨Bct⟩
def Bk1{j:Nat}:WE X (.Constant (.str i) j pos) (tC (.str i)):=⟨Bcu⟩
def Biq{v:V}{u:aJ}(hm:X.mg x=some u)(r:RelV v u)(hg:X.env.kindOf x=some .globalImplicit:=by kernel_rfl)(hd:(x==("__debug__":Str))=false:=by kernel_rfl):WE X (.Name x pos) (tC v):=⟨Aw5 hg hm r hd⟩
def Bir{v:V}{u:aJ}(hm:X.mg x=none)(hv:bootBuiltins x=some u)(r:RelV v u)(hg:X.env.kindOf x=some .globalImplicit:=by kernel_rfl)(hn:decide (x=("__name__":Str))=false:=by kernel_rfl)(hd:(x==("__debug__":Str))=false:=by kernel_rfl):WE X (.Name x pos) (tC v):=⟨Aw6 hg hm hv r (of_decide_eq_false hn) hd⟩
def kop(ho:OpR X (binaryOp op) r)(ha:WE X a ta)(hb:WE X b tb):WE X (.BinOp a op b pos) (tOp r ta tb):=⟨Bh0 ho ha.un hb.un⟩
def kun(ho:UnR X (unaryOp op) r)(ha:WE X a ta):WE X (.UnaryOp op a pos) (tUn r ta):=⟨Bh1 ho ha.un⟩
def Bk2(ho:OpR X (compareOp op) r)(ha:WE X a ta)(hb:WE X b tb)(hm:behindInMarks op b=false:=by kernel_rfl):WE X (.Compare a [op] [b] pos) (tOp r ta tb):=⟨Axg ho ha.un hb.un hm⟩
def Bd7(ho:OpR X (compareOp op) r)(ho':OpR X (compareOp op') r')(ha:WE X a ta)(hb:WE X b tb)(hc:WE X c tc)(hm:lastMarks [op,op'] [b,c]=false:=by kernel_rfl):WE X (.Compare a [op,op'] [b,c] pos) (Ab2 r r' ta tb tc):=⟨Asj ho ho' ha.un hb.un hc.un hm⟩
def Bk3(ha:WE X a ta)(hb:WE X (.BoolOp .And (b::rest) pos) tb):WE X (.BoolOp .And (a::b::rest) pos) (Bbt ta tb):=⟨Bc0 ha.un hb.un⟩
def kor(ha:WE X a ta)(hb:WE X (.BoolOp .Or (b::rest) pos) tb):WE X (.BoolOp .Or (a::b::rest) pos) (Bhs ta tb):=⟨Bht ha.un hb.un⟩
def Bis(ha:WE X a ta):WE X (.BoolOp op [a] pos) ta:=⟨Bcz ha.un⟩
def knot(ha:WE X a ta):WE X (.UnaryOp .Not a pos) (Bbu ta):=⟨Bc1 ha.un⟩
def kif(hc:WT X c tA)(ha:WE X a ta)(hb:WE X b tb):WE X (.IfExp c a b pos) (tIf tA ta tb):=⟨Asf hc.un ha.un hb.un⟩
def kix(hr:IxR X r)(ha:WE X a ta)(hb:WE X b tb)(hs:Abg b:=by exact λ_ _=>rfl):WE X (.Subscript a b pos) (tOp r ta tb):=⟨Bie hr ha.un hb.un hs⟩
def Bk4(h:WA X es t):WE X (.List es pos) (Bib t):=⟨Bdm h.un⟩
def Bk5{j:Nat}(h:WA X es t):WE X (.Tuple es j pos) (Bia t):=⟨Bdl h.un⟩
theorem kbm{T:String}{name:Str}{id:String}{r:V->List V->Hp->VK->Prop}(pa:yE T)(slot:Slot T name id)(hty:typeOf (.builtin id)=pure (.type "method_descriptor"))(hm:MtR X id r)(ho:WE X o to)(ha:WA X (e::es) t)(bf:attributeBase o name X.env (eval o X.env)=eval o X.env:=by kernel_rfl)(hfew:((backTo cpos (starEach (e::es) X.env)).all (λx=>!x.1)&&(backToKw cpos (keywordEach [] X.env)).all (λx=>x.1.isSome)&&decide ((e::es).length+([]:List jQ).length+(if ([]:List jQ).isEmpty then 0 else 1) < 30))=true:=by kernel_rfl)(aq:(ak.endLine==cpos.line)=true:=by kernel_rfl)(he:starEach (e::es) X.env=(false,eval e X.env)::starEach es X.env:=by kernel_rfl)(hpl:(backTo cpos (starEach es X.env)).any (·.1)=false:=by kernel_rfl):WE X (.Call (.Attribute o name ak) (e::es) [] cpos) (tBM X.K T r to t):=by
 exact⟨Bij pa slot hty hm ho.un ha.un bf hfew aq he hpl⟩
def Ax1:WO X none Anj:=⟨Axk⟩
def Ax2(h:WE X e te):WO X (some e) (Bb1 te):=⟨Axl h.un⟩
def Bd8{r:V->Option Int->Option Int->Hp->VK->Prop}{lo hi:Option cA}{tl th:TO}{p2:Pos}(hr:SlR X r)(he:WE X e te)(hl:WO X lo tl)(hu:WO X hi th):WE X (.Subscript e (.Slice lo hi none p2) pos) (tSl r te tl th):=⟨Asp hr he.un hl.un hu.un⟩
def Bd9:WPs X pos [] [] []:=⟨Axr⟩
def Ax3(hk:WE X k ta)(hv:WE X v tb)(hr:WPs X pos ks vs trs):WPs X pos (some k::ks) (v::vs) ((ta,tb)::trs):=⟨Asx hk.un hv.un hr.un⟩
def Bk6(ho:OpR X (compareOp op) r)(ha:WE X a ta)(hb:WE X b tb)(hm:behindInMarks op b=false:=by kernel_rfl):WT X (.Compare a [op] [b] pos) (Anh (tOp r ta tb)):=⟨Axh ho ha.un hb.un hm⟩
def Bea(ho:OpR X (compareOp op) r)(ho':OpR X (compareOp op') r')(ha:WE X a ta)(hb:WE X b tb)(hc:WE X c tc)(hm:lastMarks [op,op'] [b,c]=false:=by kernel_rfl):WT X (.Compare a [op,op'] [b,c] pos) (Anh (Ab2 r r' ta tb tc)):=⟨Asl ho ho' ha.un hb.un hc.un hm⟩
def Bk7(ha:WT X a tA):WT X (.UnaryOp .Not a pos) (Bhq tA):=⟨Bcy ha.un⟩
def Bk8(h:WE X e te)(he:∀whole,isTrue e X.env whole=(do let v<-whole;standAt e.pos;holding [v] (truthy v)):=by intro _;rfl):WT X e (tB te):=⟨Bcv h.un he⟩
def Bk9(ha:WT X a tA)(hb:WW X (.BoolOp .And (b::rest) pos) tB'):WW X (.BoolOp .And (a::b::rest) pos) (Bhp tA tB'):=⟨Bcx ha.un hb.un⟩
def tor(ha:WT X a tA)(hb:WW X (.BoolOp .Or (b::rest) pos) tB'):WW X (.BoolOp .Or (a::b::rest) pos) (tOr tA tB'):=⟨Bhr ha.un hb.un⟩
def Bit(ha:WT X a tA):WW X (.BoolOp .And [a] pos) tA:=⟨Aw7 ha.un⟩
def Bla(ha:WT X a tA):WW X (.BoolOp .Or [a] pos) tA:=⟨Bcw ha.un⟩
def tw(h:WW X a tA):WT X a tA:=⟨h.un.pt⟩
def Beb:WA X [] Bh9:=⟨Asn⟩
def Ax4(ha:WE X e te)(hr:WA X es t)(hs:starEach (e::es) X.env=(false,eval e X.env)::starEach es X.env:=by kernel_rfl):WA X (e::es) (Bb0 te t):=⟨Agi ha.un hr.un hs⟩
theorem Bec{n:Nat}(D:Pk X.K X.mg x df ps f fd)(F:Io X.prog X.w X.K X.mg X.base CX n f fd ps sp cm)(hr:Im n X.A cm)(hx:Gx CX X E)(ha:WA X (e::es) t)(hg:X.env.kindOf x=some .globalImplicit:=by kernel_rfl)(hdb:(x==("__debug__":Str))=false:=by kernel_rfl)(he:starEach (e::es) X.env=(false,eval e X.env)::starEach es X.env:=by kernel_rfl)(hpl:(backTo pos (starEach es X.env)).any (·.1)=false:=by kernel_rfl):
  WE X (.Call (.Name x p) (e::es) [] pos) (Ale sp [] E t):=⟨Bd5 D F hr hx ha.un hg hdb he hpl⟩
theorem kbi{id:String}{r:List V->Hp->VK->Prop}(hc:Gy X (.builtin id) r)(hm:X.mg x=none)(hv:bootBuiltins x=some (.builtin id))(ha:WA X (e::es) t)(hg:X.env.kindOf x=some .globalImplicit:=by kernel_rfl)(hn:decide (x=("__name__":Str))=false:=by kernel_rfl)(hdb:(x==("__debug__":Str))=false:=by kernel_rfl)(he:starEach (e::es) X.env=(false,eval e X.env)::starEach es X.env:=by kernel_rfl)(hpl:(backTo pos (starEach es X.env)).any (·.1)=false:=by kernel_rfl):
  WE X (.Call (.Name x p) (e::es) [] pos) (tCB r t):=⟨pbi hc hm hv ha.un hg (of_decide_eq_false hn) hdb he hpl⟩
theorem Atb{i:Nat}(nd:decide X.N.Nodup=true:=by kernel_rfl)(hi:X.N[i]?=some x:=by kernel_rfl)(hl:Alk X.env.scope x=true:=by kernel_rfl)(hf:(X.fn x||decide (X.env.scope.names.lookup x=some .local))=true:=by kernel_rfl):
  WG X (.Name x pos) (Ms i):=⟨Axa (of_decide_eq_true nd) hi (Ata hl) (by
 rcases mJ.mp hf with h|h
 .exact .inl h
 .exact .inr (of_decide_eq_true h))⟩
def Ax5(hm:X.mg "range"=none)(ha:WA X [a] t)(hg:X.env.kindOf "range"=some .globalImplicit:=by kernel_rfl)(hs:starEach [a] X.env=[(false,eval a X.env)]:=by kernel_rfl):WI X tg (.Call (.Name "range" p) [a] [] pos) (Bbz t):=⟨Ape hg hm ha.un hs⟩
def Bed(h:WE X e te):WI X tg e (Bip te):=⟨Bd3 h.un⟩
def Ax6(h:WE X e te):WI X tg e (Bby X.K te):=⟨Axd h.un⟩
def Bee(h:WE X e te):WI X tg e (Bhz X.K te):=⟨Bc7 h.un⟩
def Ax7:WTs X [] Abi:=⟨Axw⟩
def Ax8(h:WT X c tA):WTs X [c] tA:=⟨Axx h.un⟩
theorem Biu{cap:List Nat}(hc:X.calm=true)(hE:X.env.scope=sc)(hi:WI X tg iter wi)(hg:∀C s H ex,WG (X.comp scope own cap C s H ex) tg g)(ht:∀C s H ex,WTs (X.comp scope own cap C s H ex) ifs tt)(he:∀C s H ex,WE (X.comp scope own cap C s H ex) elt te)(hcap:cap.all (λj=>match X.N[j]? with|some x=>decide (scope.names.lookup x=some .free)|none=>false)=true:=by kernel_rfl)(az:scope.kind=.function:=by kernel_rfl)(ao:scope.names.all (λy=>decide (y.2≠.cell))=true:=by kernel_rfl)(au:scope.names.all (λy=>!decide (y.2=.local)||decide (scope.names.lookup y.1=some .local))=true:=by kernel_rfl)(bc:scope.names.all (λy=>!decide (y.2=.free)||(decide (sc.names.lookup y.1=some .cell)||decide (sc.names.lookup y.1=some .free)))=true:=by kernel_rfl)(hs:∀x,foldedSetIterable iter X.env x=pure x:=by intro _;rfl):
  WE X (.ListComp elt [⟨tg,iter,ifs,0⟩] scope pos) (Ae8 wi g tt te own cap):=by
 refine⟨Axy hc hE hi.un (λC s H ex=>(hg C s H ex).un) (λC s H ex=>(ht C s H ex).un) (λC s H ex=>(he C s H ex).un) (λj hj=>?_) az (λy hy=>?_) (λy hy hl=>?_) (λy hy hl=>?_) hs⟩
 .have q:=cG.mp hcap j hj;cases e:X.N[j]? with
  |none=>rw[e] at q;cases q
  |some x=>rw[e] at q;exact⟨x,rfl,of_decide_eq_true q⟩
 .exact of_decide_eq_true (cG.mp ao y hy)
 .have q:=cG.mp au y hy;rw[decide_eq_true hl] at q;exact of_decide_eq_true q
 .have q:=cG.mp bc y hy;rw[decide_eq_true hl] at q;rcases mJ.mp q with z|z
  .cases z
  rcases mJ.mp z with z|z
  .exact .inl (of_decide_eq_true z)
  .exact .inr (of_decide_eq_true z)
def Blb{i:Nat}(he:WE X e te)(nd:decide X.N.Nodup=true:=by kernel_rfl)(hi:X.N[i]?=some x:=by kernel_rfl)(hl:Alk X.env.scope x=true:=by kernel_rfl)(hs:swapsWith e (some (.Name x pos')) pos.line X.env=pure false:=by kernel_rfl)(hf:X.fn x=true:=by kernel_rfl):WS X (.Assign [.Name x pos'] e pos) (Axc te (Ms i)):=⟨Bc5 (of_decide_eq_true nd) hi (Ata hl) he.un hs (.inl hf)⟩
def Blc(h:WE X e te):WS X (.Return (some e) pos) (Bhv te):=⟨Bc2 h.un⟩
def Biv(h:WE X e te)(hs:swapsWith e none pos.line X.env=pure false:=by kernel_rfl):WS X (.Expr e pos) (Bbw te):=⟨Anf h.un hs⟩
def sif{tc:TT}{A B:List dG}(hc:WT X c tc)(ha:WSs X A u)(hb:WSs X B u'):WS X (.If c A B pos) (Bhw tc u u'):=⟨Bhx hc.un ha.un hb.un⟩
def Biw(hu:X.A.units+1 < cLine)(ho:WE X o ta)(hi:WE X b tb)(hv:WE X v tc)(hs:swapsWith v (some (.Subscript o b pos')) pos.line X.env=pure false:=by kernel_rfl):WS X (.Assign [.Subscript o b pos'] v pos) (Bb4 ta tb tc):=⟨Axq hu ho.un hi.un hv.un hs⟩
theorem Bef(hx:Ain X.K C)(hm:X.mg x=some (.ref C))(hc:X.calm=true)(hR:Raises X E)(ha:WA X (e::es) t)(hg:X.env.kindOf x=some .globalImplicit:=by kernel_rfl)(hd:(x==("__debug__":Str))=false:=by kernel_rfl)(he:starEach (e::es) X.env=(false,eval e X.env)::starEach es X.env:=by kernel_rfl)(hpl:(backTo cpos (starEach es X.env)).any (·.1)=false:=by kernel_rfl):
  WS X (.Raise (some (.Call (.Name x p) (e::es) [] cpos)) none pos) (As2 t C E):=⟨As3 hx hg hm hc hR ha.un hd he hpl⟩
theorem Bld{body suite:List dG}{b0:dG}{n:Str}{C:aQ}{i:Nat}{np hpos:Pos}{tb:(St->XK)->TS}{th:TS}(bh:X.stack=X.env::X.outer)(hfr:X.env.frame=some X.env.locals)(nd:X.N.Nodup)(hm:X.mg x=some (.ref C))(hb:∀(pn:List (aQ×Obj))(xe:aJ->aZ->Prop)(E:St->XK),Gx (CXo X.prog X.w) (X.tryB pn xe) E->WSs (X.tryB pn xe) body (tb E))(hs:∀e,WSs (X.suite e) (b0::suite) th)(hi:X.N[i]?=some n:=by kernel_rfl)(hn:X.env.scope.names.lookup n=some .local:=by kernel_rfl)(hg:X.env.kindOf x=some .globalImplicit:=by kernel_rfl)(hd:(x==("__debug__":Str))=false:=by kernel_rfl):
  WS X (.Try body [.ExceptHandler (some (.Name x np)) (some n) (b0::suite) hpos] [] [] pos) (Bio X.K C i tb th):=⟨Bd0 bh hfr nd hi hn hg hm hd (hb:=λpn xe E hx=>(hb pn xe E hx).un) (hs:=λe=>(hs e).un)⟩
def Ble:WSs X [] Bbv:=⟨Aw8⟩
def Bix(h:WS X st u)(q:WSs X sts u'):WSs X (st::sts) (Bhu u u'):=⟨Aie h.un q.un⟩
end
section
variable{P:cP}{w:dO}{K:aF}{mg:Str->Option aJ}{base:dN}
theorem Fun.okW{cm:Bool}{x aj:Str}{st:dG}{f:aQ}{fd:eO}{N ps:List Str}{k:Nat}{sp:Sp}(F:Fun K x aj st f fd)(S:Hf N ps (Am st))(len:∀vs H Q E,sp vs H Q E->vs.length=ps.length)(hbody:∀(cdv:aJ)(A:fV)(outer:List Env)(s:aZ)(H:Hp)(vs:List V)(Q:VK)(E:XK),Im k (A.deeper (envOfC aj (Am st) s.heap.objs.size f cdv)) cm->sp vs H Q E->
   ∃t,WSs (Vd (CXo P w) P w K mg base N aj (Am st) f cdv A outer s H E cm) (Ax st) t/\t { nx:=λ_ H'=>Q .non H',rt:=Q } (start N vs) H):Io P w K mg base (CXo P w) (k+1) f fd ps sp cm:=
 F.okX S len λcdv A outer s H vs Q E hr hsp=>by
  obtain⟨t,ht,q⟩:=hbody cdv A outer s H vs Q E hr hsp;exact⟨t,ht.un,q⟩
end
open PySem.Builtin.SmallTypes in
structure Nx(P:cP)(w:dO)(i l:aQ)(St:Nat->dN->Prop)(Sc:Array aJ->dN->Prop):Prop where
 live:∀k h,St k h->∃o,h.get? i=some o/\∀v,o.data≠.cell v
 keep:∀k h h',St k h->(∀o,h.get? i=some o->h'.get? i=some o)->St k h'
 src:∀xs h h',Sc xs h->(∀o,h.get? l=some o->h'.get? l=some o)->Sc xs h'
 item:∀(A:fV)(k:Nat)(s:aZ)(xs:Array aJ)(x:aJ)(Q:aJ->aZ->Prop)(E:aJ->aZ->Prop),St k s.heap->Sc xs s.heap->xs[k]?=some x->(∀h',St (k+1) h'->lV i s.heap h'->Q x { s with heap:=h' })->
  wpAny (model P w) A (nextOf (.ref i)) Q E s
 done:∀(A:fV)(k:Nat)(s:aZ)(xs:Array aJ)(Q:aJ->aZ->Prop)(E:aJ->aZ->Prop),A.handled=none->St k s.heap->Sc xs s.heap->xs[k]?=none->
  (∀h' e,aAo i s.heap h'->(∃o,h'.get? e=some o/\o.cls=.type "StopIteration")->E (.ref e) { s with heap:=h' })->wpAny (model P w) A (nextOf (.ref i)) Q E s
section
variable{prog:cP}{w:dO}{A:fV}{E:aJ->aZ->Prop}{s:aZ}
open PySem.Builtin.SmallTypes in
theorem Ax9{k:Nat}(st:s.heap.IsTupleIter it l k)(hl:s.heap.IsTuple l xs)(hx:xs[k]?=some x)(go:∀h',h'.IsTupleIter it l (k+1)->lV it s.heap h'->Q x { s with heap:=h' }):wpAny (model prog w) A (nextOf (.ref it)) Q E s:=by
 obtain⟨oi,hi,ci,di⟩:=id st;obtain⟨ot,ht,_,n,dt⟩:=hl;unfold nextOf;refine aB (fC (name:=fX "__next__") st.typeIs iV (fQ iV st.typeIs pB ?_ (oJ _)));refine aB (m:=field (.ref it) 0) (dF hi di (x:=.ref l) rfl ?_);have nn:¬ ((cL l==gW)=true):=bH;show wpAny _ _ (if (cL l==gW)=true then _ else _) _ _ s
 rw[if_neg nn];refine aB (m:=field (.ref it) 1) (dF hi di (x:=.int k 0) rfl (aB (m:=seqItems? (.ref l)) (iW ht dt ?_)));simp only[cV,hx];refine aB (pM hi di (by simp) (aV ⟨x,rfl,aV (go _ ⟨_,jB _ hi (nP (jR di _)),(vQ ..).trans ci,?_⟩ (uA ..))⟩))
 rw[jR di];simp[rawInt]
open PySem.Builtin.SmallTypes in
theorem Aya{k:Nat}(hh:A.handled=none)(st:s.heap.IsTupleIter it l k)(hl:s.heap.IsTuple l xs)(hx:xs[k]?=none)(go:∀h' e,aAo it s.heap h'->(∃o,h'.get? e=some o/\o.cls=.type "StopIteration")->E (.ref e) { s with heap:=h' }):wpAny (model prog w) A (nextOf (.ref it)) Q E s:=by
 obtain⟨oi,hi,ci,di⟩:=id st;obtain⟨ot,ht,_,n,dt⟩:=hl;unfold nextOf;refine aB (fC (name:=fX "__next__") st.typeIs iV (fQ iV st.typeIs pB ?_ (oJ _)));refine aB (m:=field (.ref it) 0) (dF hi di (x:=.ref l) rfl ?_);have nn:¬ ((cL l==gW)=true):=bH;show wpAny _ _ (if (cL l==gW)=true then _ else _) _ _ s
 rw[if_neg nn];refine aB (m:=field (.ref it) 1) (dF hi di (x:=.int k 0) rfl (aB (m:=seqItems? (.ref l)) (iW ht dt ?_)));simp only[cV,hx];refine aB (rJ (aB (pM hi di (by simp) ?_)))
 refine aB (m:=newExc (.type "StopIteration") []) ?_;simp only[newExc,newTuple];refine aB (dI ?_ (by size_fits))
 refine aB (m:=firstArgMember _ _) (wpAny_of_eq (a:=gW) (by first|rfl|(simp only[firstArgMember];rfl)) (dI ?_ (by size_fits)))
 simp only[raiseNew];refine aB (wpAny_handled ?_);rw[show A.in1.handled=none from hh];exact aB (aV (wpAny_throw (go _ _ (((uA ..).extBut.push _).push _) ⟨_,bO _ rfl,rfl⟩)))
theorem Atc(i l:aQ):Nx P w i l (λk h=>h.IsTupleIter i l k) (λxs h=>h.IsTuple l xs) where
 live:=λk h st=>by obtain⟨o,ho,_,hd⟩:=st;exact⟨o,ho,λv z=>by rw[hd] at z;cases z⟩
 keep:=λk h h' st k1=>st.at k1
 src:=λxs h h' st k2=>let ⟨o,ho,r⟩:=st;⟨o,k2 o ho,r⟩
 item:=λA k s xs x Q E st sc hx go=>Ax9 st sc hx go
 done:=λA k s xs Q E hh st sc hx go=>Aya hh st sc hx go
theorem Ayb(i l:aQ):Nx P w i l (λk h=>h.IsListIter i l k) (λxs h=>h.IsList l xs) where
 live:=λk h st=>by obtain⟨o,ho,_,hd⟩:=st;exact⟨o,ho,λv z=>by rw[hd] at z;cases z⟩
 keep:=λk h h' st k1=>st.at k1
 src:=λxs h h' st k2=>st.at k2
 item:=λA k s xs x Q E st sc hx go=>wpAny_nextOf_list_item st sc hx go
 done:=λA k s xs Q E hh st sc hx go=>wpAny_nextOf_list_end hh st sc hx go
structure ZA(z TI TO i1 i2 l1 l2:aQ):Prop where
 a:[z,TI,TO,i1,i2].Nodup
 b1:l1∉[z,TI,TO,i1,i2]
 b2:l2∉[z,TI,TO,i1,i2]
section
variable{St1 St2:Nat->dN->Prop}{Sc1 Sc2:Array aJ->dN->Prop}{z TI TO i1 i2 l1 l2:aQ}{k:Nat}{xs ys:Array aJ}{x y a b:aJ}
theorem ZA.ne(D:ZA z TI TO i1 i2 l1 l2):z≠TI/\z≠TO/\z≠i1/\z≠i2/\TI≠TO/\TI≠i1/\TI≠i2/\TO≠i1/\TO≠i2/\i1≠i2:=by
 have h:=D.a;simp only[jV,bF,bT,or_false,not_or,not_false_eq_true,yK,and_true] at h;obtain⟨⟨h1,h2,h3,h4⟩,⟨h5,h6,h7⟩,⟨h8,h9⟩,h10⟩:=h;exact⟨h1,h2,h3,h4,h5,h6,h7,h8,h9,h10⟩
open PySem.Builtin PySem.Builtin.SmallTypes in
theorem Atd(n1:Nx prog w i1 l1 St1 Sc1)(n2:Nx prog w i2 l2 St2 Sc2)(D:ZA z TI TO i1 i2 l1 l2){Q:aJ->aZ->Prop}(hz:rZ s.heap z TI TO .none)(hTI:mU s.heap TI (.ref i1) (.ref i2))(hTO:mU s.heap TO a b)(s1:St1 k s.heap)(s2:St2 k s.heap)(c1:Sc1 xs s.heap)(c2:Sc2 ys s.heap)(hx:xs[k]?=some x)(hy:ys[k]?=some y)(go:∀h',rZ h' z TI TO (rawInt s.heap.objs.size)->mU h' TO x y->St1 (k+1) h'->St2 (k+1) h'->mU h' s.heap.objs.size x y->(∀c o,c∉[z,TO,i1,i2]->s.heap.get? c=some o->h'.get? c=some o)->Q (.ref s.heap.objs.size) { s with heap:=h' }):
  wpAny (model prog w) A («zip.__next__» ⟨[.ref z],[]⟩) (λfin s'=>∃v,fin=.done (.ret v)/\Q v s') E s:=by
 obtain⟨d1,d2,d3,d4,d5,d6,d7,d8,d9,d10⟩:=D.ne;have b1:=D.b1;have b2:=D.b2;simp only[bF,bT,or_false,not_or] at b1 b2;refine aB (m:=field (.ref z) 2) (dF hz rfl (x:=.bool false) rfl (aB (m:=field (.ref z) 3) (dF hz rfl (x:=.ref TI) rfl (aB (iW hTI rfl ?_)))));refine aB (m:=ownedTupleIsFree (.ref z)) ?_;unfold ownedTupleIsFree;refine aB (dF hz rfl (x:=.none) rfl (aV ?_));simp only[if_true];refine aB (rJ (aB (dF hz rfl (x:=.ref TO) rfl (aB (iY hz (by simp) λh1 z1 e1=>aB ?_)))))
 have z1:rZ h1 z TI TO .ellipsis:=z1;simp only[wO,xM,oH,sW];refine aB (aB (qJ (aB (m:=nextOf (.ref i1)) ?_)));have keep1:∀c o,c≠z->s.heap.get? c=some o->h1.get? c=some o:=λc o hc q=>e1.extBut _ _ hc q;refine n1.item _ k _ xs x _ _ (n1.keep _ _ _ s1 λo q=>keep1 _ o d3.symm q) (n1.src _ _ _ c1 λo q=>keep1 _ o b1.1 q) hx λh2 t2 e2=>aV ?_;have o2:mU h2 TO a b:=e2.extBut _ _ d8 (keep1 _ _ d2.symm hTO);refine aB (iW o2 rfl (aB (oF o2 λh3 o3 e3=>aB (xF (aV ?_)))));have o3:mU h3 TO x b:=o3;refine aB (aB (qJ (aB (m:=nextOf (.ref i2)) ?_)));have keep3:∀c o,c≠z->c≠TO->c≠i1->s.heap.get? c=some o->h3.get? c=some o:=λc o q1 q2 q3 q=>e3.extBut _ _ q2 (e2.extBut _ _ q3 (keep1 c o q1 q));refine n2.item _ k _ ys y _ _ (n2.keep _ _ _ s2 λo q=>keep3 _ o d4.symm d9.symm d10.symm q) (n2.src _ _ _ c2 λo q=>keep3 _ o b2.1 b2.2.2.1 b2.2.2.2.1 q) hy λh4 t4 e4=>aV ?_;have o4:mU h4 TO x b:=e4.extBut _ _ d9 o3;refine aB (iW o4 rfl (aB (oF o4 λh5 o5 e5=>aB (xF (aV (aV ?_))))));have o5:mU h5 TO x y:=o5;refine aB (iW o5 rfl (aB (yL ?_)));have sz:h5.objs.size=s.heap.objs.size:=by rw[e5.1,e4.1,e3.1,e2.1,e1.1]
 have z5:rZ h5 z TI TO .ellipsis:=e5.extBut _ _ d2 (e4.extBut _ _ d4 (e3.extBut _ _ d2 (e2.extBut _ _ d3 z1)));have keep5:∀c o,c∉[z,TO,i1,i2]->s.heap.get? c=some o->h5.get? c=some o:=λc o hc q=>by
  simp only[bF,bT,or_false,not_or] at hc;exact e5.extBut _ _ hc.2.1 (e4.extBut _ _ hc.2.2.2 (keep3 c o hc.1 hc.2.1 hc.2.2.1 q))
 have zl:z < h5.objs.size:=bN z5;refine aB (m:=ownedTupleHandOut (.ref z) (.ref h5.objs.size)) ?_;unfold ownedTupleHandOut;have z6:rZ (h5.push { cls:=.type "tuple",data:=.seq #[x,y] }) z TI TO .ellipsis:=aP _ z5;refine aB (iY z6 (by simp) λh7 z7 e7=>?_)
 have z7:rZ h7 z TI TO (rawInt h5.objs.size):=z7;refine iY z7 (by simp) λh8 z8 e8=>aV ⟨_,rfl,?_⟩
 have z8:rZ h8 z TI TO (rawInt h5.objs.size):=z8;have up:∀c o,c≠z->h5.get? c=some o->h8.get? c=some o:=λc o hc q=>e8.extBut _ _ hc (e7.extBut _ _ hc (aP _ q));have new:mU h8 h5.objs.size x y:=e8.extBut _ _ (qY zl) (e7.extBut _ _ (qY zl) (bO _ rfl));show Q (.ref h5.objs.size) _;rw[sz] at z8 new ⊢
 refine go h8 z8 (up _ _ d2.symm o5) (n1.keep _ _ _ t2 λo q=>up _ o d3.symm (e5.extBut _ _ d8.symm (e4.extBut _ _ d10 (e3.extBut _ _ d8.symm q)))) (n2.keep _ _ _ t4 λo q=>up _ o d4.symm (e5.extBut _ _ d9.symm q)) new λc o hc q=>?_;exact up c o (λw=>hc (by simp[w])) (keep5 c o hc q)
open PySem.Builtin PySem.Builtin.SmallTypes in
theorem Ate(n1:Nx prog w i1 l1 St1 Sc1)(n2:Nx prog w i2 l2 St2 Sc2)(D:ZA z TI TO i1 i2 l1 l2)(hh:A.handled=none)(hz:rZ s.heap z TI TO .none)(hTI:mU s.heap TI (.ref i1) (.ref i2))(hTO:mU s.heap TO a b)(s1:St1 k s.heap)(s2:St2 k s.heap)(c1:Sc1 xs s.heap)(c2:Sc2 ys s.heap)(he:xs[k]?=none\/ys[k]?=none)(go:∀h' e,(∀c o,c∉[z,TO,i1,i2]->s.heap.get? c=some o->h'.get? c=some o)->(∃o,h'.get? e=some o/\o.cls=.type "StopIteration")->E (.ref e) { s with heap:=h' }):
  wpAny (model prog w) A («zip.__next__» ⟨[.ref z],[]⟩) Q E s:=by
 obtain⟨d1,d2,d3,d4,d5,d6,d7,d8,d9,d10⟩:=D.ne;have b1:=D.b1;have b2:=D.b2;simp only[bF,bT,or_false,not_or] at b1 b2;refine aB (m:=field (.ref z) 2) (dF hz rfl (x:=.bool false) rfl (aB (m:=field (.ref z) 3) (dF hz rfl (x:=.ref TI) rfl (aB (iW hTI rfl ?_)))));refine aB (m:=ownedTupleIsFree (.ref z)) ?_;unfold ownedTupleIsFree;refine aB (dF hz rfl (x:=.none) rfl (aV ?_));simp only[if_true];refine aB (rJ (aB (dF hz rfl (x:=.ref TO) rfl (aB (iY hz (by simp) λh1 z1 e1=>aB ?_)))))
 have z1:rZ h1 z TI TO .ellipsis:=z1;simp only[wO,xM,oH,sW];refine aB (aB (qJ (aB (m:=nextOf (.ref i1)) ?_)));have keep1:∀c o,c≠z->s.heap.get? c=some o->h1.get? c=some o:=λc o hc q=>e1.extBut _ _ hc q;have t1:=n1.keep _ _ _ s1 λo q=>keep1 _ o d3.symm q;have r1:=n1.src _ _ _ c1 λo q=>keep1 _ o b1.1 q;cases hx:xs[k]? with
 |none=>
  refine n1.done _ k _ xs _ _ hh t1 r1 hx λh2 e e2 he'=>?_;obtain⟨oe,q1,q2⟩:=he';have z2:rZ h2 z TI TO .ellipsis:=e2 _ _ d3 z1;have ez:e≠z:=λw=>by subst w;rw[z2] at q1;cases q1;simp at q2
  refine iY z2 (by simp) λh3 _ e3=>go h3 e (λc o hc q=>?_) ⟨oe,e3.extBut _ _ ez q1,q2⟩
  simp only[bF,bT,or_false,not_or] at hc;exact e3.extBut _ _ hc.1 (e2 _ _ hc.2.2.1 (keep1 c o hc.1 q))
 |some x=>
  have hy:ys[k]?=none:=by
   rcases he with q|q
   .rw[hx] at q;cases q
   .exact q
  refine n1.item _ k _ xs x _ _ t1 r1 hx λh2 t2 e2=>aV ?_;have o2:mU h2 TO a b:=e2.extBut _ _ d8 (keep1 _ _ d2.symm hTO);refine aB (iW o2 rfl (aB (oF o2 λh3 o3 e3=>aB (xF (aV ?_)))));refine aB (aB (qJ (aB (m:=nextOf (.ref i2)) ?_)));have keep3:∀c o,c≠z->c≠TO->c≠i1->s.heap.get? c=some o->h3.get? c=some o:=λc o q1 q2 q3 q=>e3.extBut _ _ q2 (e2.extBut _ _ q3 (keep1 c o q1 q));refine n2.done _ k _ ys _ _ hh (n2.keep _ _ _ s2 λo q=>keep3 _ o d4.symm d9.symm d10.symm q) (n2.src _ _ _ c2 λo q=>keep3 _ o b2.1 b2.2.2.1 b2.2.2.2.1 q) hy λh4 e e4 he'=>?_;obtain⟨oe,q1,q2⟩:=he';have z4:rZ h4 z TI TO .ellipsis:=e4 _ _ d4 (e3.extBut _ _ d2 (e2.extBut _ _ d3 z1));have ez:e≠z:=λw=>by subst w;rw[z4] at q1;cases q1;simp at q2
  refine iY z4 (by simp) λh5 _ e5=>go h5 e (λc o hc q=>?_) ⟨oe,e5.extBut _ _ ez q1,q2⟩
  simp only[bF,bT,or_false,not_or] at hc;exact e5.extBut _ _ hc.1 (e4 _ _ hc.2.2.2 (keep3 c o hc.1 hc.2.1 hc.2.2.1 q))
end
end
def Sq2(K:aF)(T:Bool)(H:Hp)(a:aQ)(xs:List V):Prop:=match T with
 |true=>SqT K H a xs
 |false=>SqL K H a xs
def St2(T:Bool)(i l:aQ)(k:Nat)(h:dN):Prop:=match T with
 |true=>h.IsTupleIter i l k
 |false=>h.IsListIter i l k
def Sc2(T:Bool)(l:aQ)(xs:Array aJ)(h:dN):Prop:=match T with
 |true=>h.IsTuple l xs
 |false=>h.IsList l xs
theorem nx2(T:Bool)(i l:aQ):Nx P w i l (St2 T i l) (Sc2 T l):=by
 cases T
 .exact Ayb i l
 .exact Atc i l
section
theorem Inv.sq2(I:Inv X aa σ H s)(h:Sq2 X.K T H a xs):∃its:List aJ,Vals xs its/\Sc2 T a its.toArray s.heap:=by
 cases T
 .obtain⟨its,r,p,_⟩:=I.list h;exact⟨its,r,p.isList⟩
 .obtain⟨its,r,p,_⟩:=I.tuple h;exact⟨its,r,p⟩
theorem Inv.sq2_inj(I:Inv X aa σ H s)(h:Sq2 X.K T H a xs)(h':Sq2 X.K T H a ys):xs=ys:=by
 cases T
 .exact I.list_inj h h'
 .exact I.tuple_inj h h'
end
def Itz(K:aF)(T:Bool)(a b:aQ):It:=⟨λi H=>∃xs ys x y,Sq2 K T H a xs/\Sq2 K T H b ys/\xs[i]?=some x/\ys[i]?=some y,
 λi H v H'=>∃p x y,(∀xs,Sq2 K T H a xs->xs[i]?=some x)/\(∀ys,Sq2 K T H b ys->ys[i]?=some y)/\H p=none/\v=.ref p/\H'=upd H p (.tup [x,y]),
 λi H=>∃xs ys,Sq2 K T H a xs/\Sq2 K T H b ys/\(xs.length<=i\/ys.length<=i)⟩
def zSt(T:Bool)(z TI TO i1 i2 a b:aQ)(i:Nat)(h:dN):Prop:=rZ h z TI TO .none/\mU h TI (.ref i1) (.ref i2)/\(∃u v,mU h TO u v)/\St2 T i1 a i h/\St2 T i2 b i h
theorem Atf{P:cP}{w:dO}{K:aF}{elts:List cA}{kt:Nat}{tpos:Pos}(T:Bool)(z TI TO i1 i2 a b:aQ)(D:ZA z TI TO i1 i2 a b):
  Turn P w K (.Tuple elts kt tpos) (Itz K T a b) [z,TI,TO,i1,i2] z (zSt T z TI TO i1 i2 a b) where
 mem:=by simp
 obj:=λi h st c hc=>by
  obtain⟨hz,hTI,⟨u,v,hTO⟩,t1,t2⟩:=st;simp only[bF,bT,or_false] at hc;rcases hc with rfl|rfl|rfl|rfl|rfl
  .exact⟨_,hz,λv q=>by have q:aAg _=wG v:=q;cases q⟩
  .exact⟨_,hTI,λv q=>by have q:aAm _ _=wG v:=q;cases q⟩
  .exact⟨_,hTO,λv q=>by have q:aAm _ _=wG v:=q;cases q⟩
  .exact(nx2 (P:=P) (w:=w) T _ a).live _ _ t1
  .exact(nx2 (P:=P) (w:=w) T _ b).live _ _ t2
 keep:=λi h h' st k=>by
  obtain⟨hz,hTI,⟨u,v,hTO⟩,t1,t2⟩:=st;exact⟨k z (by simp) _ hz,k TI (by simp) _ hTI,⟨u,v,k TO (by simp) _ hTO⟩,(nx2 (P:=P) (w:=w) T i1 a).keep _ _ _ t1 (k i1 (by simp)),(nx2 (P:=P) (w:=w) T i2 b).keep _ _ _ t2 (k i2 (by simp))⟩
 item:=by
  intro X hP hw hK hc i aa s σ H E I hf st hg;subst hP hw hK;obtain⟨hz,hTI,⟨u,v,hTO⟩,t1,t2⟩:=st;obtain⟨xs,ys,x,y,qx,qy,ex,ey⟩:=hg;obtain⟨its,rx,cx⟩:=I.sq2 qx;obtain⟨jts,ry,cy⟩:=I.sq2 qy;obtain⟨ux,hux,rux⟩:=rx.get ex;obtain⟨uy,huy,ruy⟩:=ry.get ey;have hT:s.TypeIs (.ref z) "zip":=⟨_,hz,rfl⟩;have lt:∀{c:aQ} {o:Obj},s.heap.get? c=some o->c≠s.heap.objs.size:=λe=>dC (bN e);unfold pyNext;refine aB (uK (fC (name:=fX "__next__") hT oK (fQ oK hT wQ
   (Atd (nx2 T i1 a) (nx2 T i2 b) D hz hTI hTO t1 t2 cx cy (x:=ux) (y:=uy) (by simpa using hux) (by simpa using huy) λh' a1 a2 a3 a4 a5 hk=>aV ⟨_,rfl,?_⟩) (vU _))))
  refine wpAny_letOwnedTupleGo_zip (s:={ s with heap:=h' }) a1 λh2 z2 e2=>?_
  obtain⟨d1,d2,d3,d4,d5,d6,d7,d8,d9,d10⟩:=D.ne;have k2:∀c o,c∉[z,TI,TO,i1,i2]->s.heap.get? c=some o->h2.get? c=some o:=λc o hc q=>by
   simp only[bF,bT,or_false,not_or] at hc;exact e2.extBut _ _ hc.1 (hk c o (by simp[hc]) q)
  have hpn:H s.heap.objs.size=none:=I.hok.fresh (aN _);have nH:∀c u,H c=some u->c∉[z,TI,TO,i1,i2]:=λc u q hc=>by rw[(hf c hc).1] at q;cases q
  have nz:s.heap.objs.size≠z:=(lt hz).symm;have hp2:vH h2 s.heap.objs.size #[ux,uy]:=⟨_,e2.extBut _ _ nz a5,rfl,_,rfl⟩;refine⟨.ref s.heap.objs.size,upd H s.heap.objs.size (.tup [x,y]),?_,rfl,⟨_,x,y,λxs' q=>by rw[I.sq2_inj q qx];exact ex,λys' q=>by rw[I.sq2_inj q qy];exact ey,hpn,rfl,rfl⟩,
   ⟨z2,e2.extBut _ _ d1.symm (hk _ _ (by simp[d1.symm,d5,d6,d7]) hTI),⟨_,_,e2.extBut _ _ d2.symm a2⟩,(nx2 (P:=X.prog) (w:=X.w) T i1 a).keep _ _ _ a3 (λo q=>e2.extBut _ _ d3.symm q),(nx2 (P:=X.prog) (w:=X.w) T i2 b).keep _ _ _ a4 (λo q=>e2.extBut _ _ d4.symm q)⟩,λc hc=>?_⟩
  .show Inv X aa σ (upd H s.heap.objs.size (.tup [x,y])) { s with heap:=h2,gens:=s.gens,drawn:=s.drawn,toks:=s.toks }
   refine I.step (s:=s) (g':=s.gens) (d':=s.drawn) (ch:=[z,TI,TO,i1,i2]) (λc hc=>?_) (λc o _ _ hc q _=>k2 c o hc q) (λc o _ _ hc q _=>⟨o.slots,k2 c o hc q⟩) (λc o _ q n=>by rw[Bb (lt q)];exact n)
    (λc o hc q=>⟨o,k2 c o hc q⟩) (λc xs q=>by rw[Bb (Df q hpn)];exact q) (λc o u q=>by rw[Bb (Df q hpn)];exact q) (λc ps q=>⟨#[],by rw[Bb (Df q hpn),q];simp⟩) (λm hm=>?_) (λc u q=>?_) I.bare
   .obtain⟨f0,f1,f2,f3,f4,f5⟩:=hf c hc;exact⟨f3,f1,f4,f5⟩
   .obtain⟨o,es,ep,ho,r⟩:=hm;exact⟨o,es,ep,k2 _ o (λhc=>(hf _ hc).2.1 rfl) ho,r⟩
   .by_cases hb:c=s.heap.objs.size
    .subst hb;rw[Bl] at q;cases q;exact⟨(show 2<=sizeLine by decide),_,.cons rux (.cons ruy .nil),hp2⟩
    .rw[Bb hb] at q;refine(I.hok c u q).stay (λd v hd z=>k2 d v ?_ z) (λd z=>by rw[Bb (Df z hpn)];exact z) λd xs z=>by rw[Bb (Df z hpn)];exact z
     rcases hd with rfl|hd
     .exact nH d u q
     .exact nH d _ hd
  .obtain⟨o,ho,_⟩:∃o,s.heap.get? c=some o/\True:=by
    simp only[bF,bT,or_false] at hc;rcases hc with rfl|rfl|rfl|rfl|rfl
    .exact⟨_,hz,trivial⟩
    .exact⟨_,hTI,trivial⟩
    .exact⟨_,hTO,trivial⟩
    .obtain⟨o,ho,_⟩:=(nx2 (P:=X.prog) (w:=X.w) T _ a).live _ _ t1;exact⟨o,ho,trivial⟩
    .obtain⟨o,ho,_⟩:=(nx2 (P:=X.prog) (w:=X.w) T _ b).live _ _ t2;exact⟨o,ho,trivial⟩
   rw[Bb (lt ho)];exact(hf c hc).1
 done:=by
  intro X hP hw hK hc i aa s σ H E I hf st hg;subst hP hw hK;obtain⟨hz,hTI,⟨u,v,hTO⟩,t1,t2⟩:=st;obtain⟨xs,ys,qx,qy,he⟩:=hg;obtain⟨its,rx,cx⟩:=I.sq2 qx;obtain⟨jts,ry,cy⟩:=I.sq2 qy;have hT:s.TypeIs (.ref z) "zip":=⟨_,hz,rfl⟩;have he':its.toArray[i]?=none\/jts.toArray[i]?=none:=by
   rcases he with q|q
   .exact .inl (by rw[pO,bD,<-rx.length];exact q)
   .exact .inr (by rw[pO,bD,<-ry.length];exact q)
  have nH:∀c u,H c=some u->c∉[z,TI,TO,i1,i2]:=λc u q hc=>by rw[(hf c hc).1] at q;cases q
  unfold pyNext;refine aB (uK (fC (name:=fX "__next__") hT oK (fQ oK hT wQ
   (Ate (nx2 T i1 a) (nx2 T i2 b) D (show X.A.in1.handled=none from I.ok.hd hc) hz hTI hTO t1 t2 cx cy he' λh' e hk q=>?_) (vU _))))
  obtain⟨o,ho,hcl⟩:=q;refine aB (wpAny_isInstance (T:="StopIteration") (b:=true) ⟨o,ho,hcl⟩ isSubtype_stop (aV ⟨rfl,?_⟩));have k2:∀c o,c∉[z,TI,TO,i1,i2]->s.heap.get? c=some o->h'.get? c=some o:=λc o hc q=>hk c o (λm=>hc (by simp only[bF,bT,or_false] at m ⊢;rcases m with m|m|m|m <;> simp[m])) q
  refine I.step (s:=s) (g':=s.gens) (d':=s.drawn) (t':=s.toks) (h':=h') (ch:=[z,TI,TO,i1,i2]) (λc hc=>?_) (λc o _ _ hc q _=>k2 c o hc q) (λc o _ _ hc q _=>⟨o.slots,k2 c o hc q⟩) (λc o _ q n=>n)
   (λc o hc q=>⟨o,k2 c o hc q⟩) (λc xs q=>q) (λc o u q=>q) (λc ps q=>⟨#[],by rw[q];simp⟩) (λm hm=>?_) (λc u q=>?_) I.bare
  .obtain⟨f0,f1,f2,f3,f4,f5⟩:=hf c hc;exact⟨f3,f1,f4,f5⟩
  .obtain⟨o,es,ep,ho,r⟩:=hm;exact⟨o,es,ep,k2 _ o (λhc=>(hf _ hc).2.1 rfl) ho,r⟩
  .refine(I.hok c u q).stay (λd v hd z=>k2 d v ?_ z) (λ_ z=>z) λ_ _ z=>z;rcases hd with rfl|hd
   .exact nH d u q
   .exact nH d _ hd
 self:=λ_ _ _ _ _ st h=>wR st.1 h
abbrev itT(a:aQ):Obj:={ cls:=.type "tuple_iterator",data:=.fields #[.ref a,.int 0 0] }
abbrev Anq(u v:aJ):Obj:={ cls:=.type "tuple",data:=.seq #[u,v] }
abbrev Biy(TI TO:aQ):Obj:={ cls:=.type "zip",data:=.fields #[.none,.bool false,.bool false,.ref TI,.ref TO] }
noncomputable def zT2(h:dN)(a b:aQ):dN:=(h.push (itT a)).push (itT b)
noncomputable def zT3(h:dN)(a b:aQ):dN:=(zT2 h a b).push (Anq (.ref h.objs.size) (.ref (h.push (itT a)).objs.size))
noncomputable def zT4(h:dN)(a b:aQ):dN:=(zT3 h a b).push (Anq .none .none)
noncomputable def zT5(h:dN)(a b:aQ):dN:=(zT4 h a b).push (Biy (zT2 h a b).objs.size (zT3 h a b).objs.size)
theorem Alm(a b:aQ)(xs ys:Array aJ):
  Meets (tV.«zip.__new__» ⟨[.type "zip",.ref a,.ref b],[]⟩) (λ_ R s=>s.heap.IsTuple a xs/\s.heap.IsTuple b ys/\R (.ok (.ret (.ref (zT4 s.heap a b).objs.size))) { s with heap:=zT5 s.heap a b }):=
 .of_wp λprog w A R s h=>by
  obtain⟨hp,g,d,tk,os⟩:=s;obtain⟨t1,t2,h⟩:=h;have e0:=sub_zip;have p1:zT (aAp ⟨hp,g,d,tk,os⟩) a xs:=t1;have p2:zT (aAp ⟨hp.push (itT a),g,d,tk,os⟩) b ys:=aBk t2 _
  wp_walk using pI p1,pI p2
  exact⟨_,rfl,h⟩
section
theorem Ap0(h1:s.heap.IsTuple a xs)(h2:s.heap.IsTuple b ys)(go:∀h',rZ h' (s.heap.objs.size+4) (s.heap.objs.size+2) (s.heap.objs.size+3) .none->mU h' (s.heap.objs.size+2) (.ref s.heap.objs.size) (.ref (s.heap.objs.size+1))->mU h' (s.heap.objs.size+3) .none .none->
   h'.IsTupleIter s.heap.objs.size a 0->h'.IsTupleIter (s.heap.objs.size+1) b 0->(∀c o,s.heap.get? c=some o->h'.get? c=some o)->Q (.ref (s.heap.objs.size+4)) { s with heap:=h' }):
  wpAny (model prog w) A (call (.type "zip") [.ref a,.ref b]) Q E s:=by
 refine callType_new F.called_zip (by decide) (F.typeCall_zip_2 _ _) (F.newCall_zip_2 _ _) (λobj=>F.args_object_init_3 obj _ _) F.entry_zip_new (Alm a b xs ys) ⟨h1,h2,?_⟩
 have n1:(s.heap.push (itT a)).objs.size=s.heap.objs.size+1:=lO ..
 have n2:(zT2 s.heap a b).objs.size=s.heap.objs.size+2:=by unfold zT2;rw[lO,n1]
 have n3:(zT3 s.heap a b).objs.size=s.heap.objs.size+3:=by unfold zT3;rw[lO,n2]
 have n4:(zT4 s.heap a b).objs.size=s.heap.objs.size+4:=by unfold zT4;rw[lO,n3]
 have up2:∀c o,(zT2 s.heap a b).get? c=some o->(zT5 s.heap a b).get? c=some o:=λc o q=>by unfold zT5 zT4 zT3;exact aP _ (aP _ (aP _ q))
 have g5:(zT5 s.heap a b).get? (zT4 s.heap a b).objs.size=some (Biy (zT2 s.heap a b).objs.size (zT3 s.heap a b).objs.size):=by unfold zT5;exact bO _ rfl
 have g4:(zT5 s.heap a b).get? (zT3 s.heap a b).objs.size=some (Anq .none .none):=by unfold zT5 zT4;exact aP _ (bO _ rfl)
 have g3:(zT5 s.heap a b).get? (zT2 s.heap a b).objs.size=some (Anq (.ref s.heap.objs.size) (.ref (s.heap.push (itT a)).objs.size)):=by unfold zT5 zT4 zT3;exact aP _ (aP _ (bO _ rfl))
 have g2:(zT5 s.heap a b).get? (s.heap.push (itT a)).objs.size=some (itT b):=up2 _ _ (by unfold zT2;exact bO _ rfl)
 have g1:(zT5 s.heap a b).get? s.heap.objs.size=some (itT a):=up2 _ _ (by unfold zT2;exact aP _ (bO _ rfl))
 show _/\_;rw[n2,n3,n4] at g5;rw[n3] at g4;rw[n1,n2] at g3;rw[n1] at g2;rw[n4];exact⟨⟨_,g5,rfl⟩,go _ g5 g3 g4 ⟨_,g1,rfl,rfl⟩ ⟨_,g2,rfl,rfl⟩ λc o q=>up2 _ _ (by unfold zT2;exact aP _ (aP _ q))⟩
theorem Ap1(h1:Sc2 T a xs s.heap)(h2:Sc2 T b ys s.heap)(go:∀h',zSt T (s.heap.objs.size+4) (s.heap.objs.size+2) (s.heap.objs.size+3) s.heap.objs.size (s.heap.objs.size+1) a b 0 h'->(∀c o,s.heap.get? c=some o->h'.get? c=some o)->Q (.ref (s.heap.objs.size+4)) { s with heap:=h' }):
  wpAny (model prog w) A (call (.type "zip") [.ref a,.ref b]) Q E s:=by
 cases T
 .exact call_zip_2 h1 h2 λh' q1 q2 q3 q4 q5 _ k=>go h' ⟨q1,q2,⟨_,_,q3⟩,q4,q5⟩ k
 .exact Ap0 h1 h2 λh' q1 q2 q3 q4 q5 k=>go h' ⟨q1,q2,⟨_,_,q3⟩,q4,q5⟩ k
end
theorem boot_zip:bootBuiltins "zip"=some (.type "zip"):=by decide +kernel
def Blf(K:aF)(ta:TA):TI:=λσ H R=>ta σ H λvs H1=>∃T a b xs ys,vs=[.ref a,.ref b]/\Sq2 K T H1 a xs/\Sq2 K T H1 b ys/\R (Itz K T a b) H1
theorem Beg{kt:Nat}(hg:Gl X "zip")(hm:X.mg "zip"=none)(ha:PA X (e::es) ta)(hs:starEach (e::es) X.env=(false,eval e X.env)::starEach es X.env)(hpl:(backTo pos (starEach es X.env)).any (·.1)=false):
  PI X (.Tuple elts kt tpos) (.Call (.Name "zip" p) (e::es) [] pos) (Blf X.K ta):=by
 intro aa s σ H R I h;refine Call_ (Ab0 I hg hm boot_zip (kY (thn (ha pos aa s σ H _ I h) λus s1 ⟨vs,H1,I1,r1,q1⟩=>?_) hs hpl));obtain⟨T,a,b,xs,ys,rfl,qx,qy,q⟩:=q1;obtain⟨u,v,rfl,ru,rv⟩:=r1.two;obtain rfl:u=cL a:=ru;obtain rfl:v=cL b:=rv;obtain⟨its,rx,cx⟩:=I1.sq2 qx;obtain⟨jts,ry,cy⟩:=I1.sq2 qy;have there:∀{c:aQ} {us:Array aJ},Sc2 T c us s1.heap->c < s1.heap.objs.size:=λ{c us} q=>by
  cases T
  .obtain⟨o,ho,_⟩:=q;exact bN ho
  .obtain⟨o,ho,_⟩:=q;exact bN ho
 have la:=there cx;have lb:=there cy;have hn:∀c∈[s1.heap.objs.size+4,s1.heap.objs.size+2,s1.heap.objs.size+3,s1.heap.objs.size,s1.heap.objs.size+1],s1.heap.objs.size<=c:=λc hc=>by
  simp only[bF,bT,or_false] at hc;rcases hc with rfl|rfl|rfl|rfl|rfl
  .exact iQ _ _
  .exact iQ _ _
  .exact iQ _ _
  .exact aN _
  .exact iQ _ _
 refine Ap1 cx cy λh' st k=>wR st.1 ?_;refine⟨_,[s1.heap.objs.size+4,s1.heap.objs.size+2,s1.heap.objs.size+3,s1.heap.objs.size,s1.heap.objs.size+1],_,_,H1,rfl,I1.kept (t':=s1.toks) k,Atf T _ _ _ _ _ a b ⟨by simp,λm=>absurd (bM la (hn a m)) (fK _),λm=>absurd (bM lb (hn b m)) (fK _)⟩,st,λc hc=>I1.fpOk (hn c hc) (I1.hok.fresh (hn c hc)),q⟩
def leS(a b:Str):Bool:=!decide (b.cps.toList < a.cps.toList)
def Mw(ss:List Str):List Str:=ss.mergeSort leS
theorem Afa{α:Type}{r:α->α->Prop}(as:∀a b,r a b->r b a->a=b):∀{l1 l2:List α},l1.Perm l2->l1.Pairwise r->l2.Pairwise r->l1=l2
 |[],l2,p,_,_=>p.nil_eq
 |a::l1,[],p,_,_=>by have:=p.length_eq;simp at this
 |a::l1,b::l2,p,h1,h2=>by
  rw[mV] at h1 h2;have e:a=b:=by
   rcases bF.mp (p.mem_iff.mp aH) with q|q
   .exact q
   .rcases bF.mp (p.mem_iff.mpr aH) with z|z
    .exact z.symm
    .exact as a b (h1.1 b z) (h2.1 a q)
  subst e;rw[Afa as (aBi p) h1.2 h2.2]
theorem Ap2(a b:Str):(leS a b||leS b a)=true:=by
 unfold leS;rw[fO,dJ,dJ,decide_eq_false_iff_not,decide_eq_false_iff_not];rcases List.le_total a.cps.toList b.cps.toList with h|h
 .exact .inl (mY.mpr h)
 .exact .inr (mY.mpr h)
theorem Afb(a b c:Str)(h1:leS a b=true)(h2:leS b c=true):leS a c=true:=by
 unfold leS at *
 rw[dJ,decide_eq_false_iff_not] at *
 exact mY.mpr (List.le_trans (mY.mp h1) (mY.mp h2))
theorem Aiw(a b:Str)(h1:leS a b=true)(h2:leS b a=true):a=b:=by
 unfold leS at *
 rw[dJ,decide_eq_false_iff_not] at *
 have e:=List.le_antisymm (mY.mp h1) (mY.mp h2);obtain⟨⟨x⟩⟩:=a;obtain⟨⟨y⟩⟩:=b;have e:x=y:=e;rw[e]
def Gs(ss:List Str):(Mw ss).Perm ss:=List.mergeSort_perm ss leS
def Aag(ss:List Str):(Mw ss).Pairwise (λa b=>leS a b=true):=List.pairwise_mergeSort Afb Ap2 ss
theorem Aca:∀(p:Str)(l:List Str),risingS p l=true->(p::l).Pairwise (λa b=>leS a b=true)
 |p,[],_=>by simp
 |p,x::r,h=>by
  have h:(!ltCps x.cps.toList p.cps.toList&&risingS x r)=true:=h;rw[aC,ltCps_eq] at h;have ih:=Aca x r h.2;rw[mV];refine⟨λy hy=>?_,ih⟩;rcases bF.mp hy with rfl|hy
  .exact h.1
  .exact Afb p x y h.1 ((mV.mp ih).1 y hy)
theorem Agv(p:ss'.Perm ss)(h:sortedS ss'=true):ss'=Mw ss:=by
 refine Afa Aiw (p.trans (Gs ss).symm) ?_ (Aag ss);cases ss' with
 |nil=>exact .nil
 |cons x r=>exact Aca x r h
section
variable{tk:Nat}
theorem Inv.newO(I:Inv X aa σ H s)(hk:∀b ob,s.heap.get? b=some ob->h'.get? b=some ob)(hn:s.heap.get? e=none)(ho:Dr X.prog X.w (upd H e o) h' e o):Inv X aa σ (upd H e o) { s with heap:=h',toks:=tk }:=by
 have ne:∀{b:aQ} {o:Obj},s.heap.get? b=some o->b≠e:=λq z=>by rw[z,hn] at q;cases q
 have nt:∀{b:aQ} {u:HO},H b=some u->b≠e:=λq=>by
  obtain⟨o,ho⟩:=(I.hok _ _ q).there;exact ne ho
 refine I.step (s:=s) (g':=s.gens) (d':=s.drawn) (t':=tk) (h':=h') (ch:=[]) (λ_ z=>nomatch z) (λb o _ _ _ q _=>hk b o q) (λb o _ _ _ q _=>⟨o.slots,hk b o q⟩) (λb o _ q n=>by rw[Bb (ne q)];exact n)
  (λb o _ q=>⟨o,hk b o q⟩) (λb xs q=>by rw[Bb (nt q)];exact q) (λb o u q=>by rw[Bb (nt q)];exact q) (λb ps q=>⟨#[],by rw[Bb (nt q),jT];exact q⟩) (λm hm=>hm.keeps hk) (λa u q=>?_) I.bare
 by_cases ha:a=e
 .subst ha;rw[Bl] at q;cases q;exact ho
 .rw[Bb ha] at q;exact(I.hok a u q).stay (λb v _ z=>hk b v z) (λb z=>by rw[Bb (nt z)];exact z) λb xs z=>by rw[Bb (nt z)];exact z
theorem R7:∀{us:List aJ} {ss:List Str},tX us ss->Vals (ss.map V.str) us
 |_,_,.nil=>.nil
 |_,_,.cons x t h=>.cons ⟨t,rfl⟩ (R7 h)
end
section
theorem Agw:Gy X (.builtin "sorted") (λxs H Q=>∃p,∃ss:List Str,xs=[.ref p]/\H p=some (.lst (ss.map V.str))/\ss.length < 64/\∀q,H q=none->Q (.ref q) (upd H q (.lst ((Mw ss).map V.str)))):=by
 intro aa s σ H xs us Q I r h;obtain⟨p,ss,rfl,hp,h64,q⟩:=h;obtain⟨u,rfl,ru⟩:=vals1 r;cases ru;obtain⟨_,its,n,rv,e⟩:=(show Dr X.prog X.w H s.heap p (.lst (ss.map V.str)) from I.hok p _ hp);have hS:=Abj rv;have hl:its.length=ss.length:=by rw[<-rv.length,aA]
 refine sorted_strs (l:=p) ⟨_,e,rfl,_,rfl⟩ hS (by omega) λout ss' h1 h2 h3=>?_
 obtain rfl:=Agv h2 h3;obtain⟨ep,hat⟩:=zU s.heap its out;have hnew:s.heap.get? (s.heap.objs.size+1)=none:=gQ (lL _);refine⟨.ref (s.heap.objs.size+1),_,I.newO (o:=.lst ((Mw ss).map V.str)) (tk:=s.toks) (λb o q=>zH q) hnew ⟨?_,out.toList,ep,R7 h1,hat⟩,rfl,q _ (I.hok.fresh (lL _))⟩;rw[aA,(Gs ss).length_eq];exact aD (lU h64) (by decide)
theorem Aln{ss:List Str}{vs:List (Key×aJ)}(hk:vs.map (·.1)=ss.map jJ){us:List aJ}(hl:us.length=vs.length)(h:∀(j:Nat)(v:aJ),us[j]?=some v->∃k x,vs[j]?=some (k,x)/\Aae k v=true):tX us ss:=by
 induction ss generalizing vs us with
 |nil=>
  cases vs with
  |nil=>cases us with
   |nil=>exact .nil
   |cons u us=>simp at hl
  |cons p vs=>simp at hk
 |cons s ss ih=>
  cases vs with
  |nil=>simp at hk
  |cons p vs=>
   cases us with
   |nil=>simp at hl
   |cons u us=>
    rw[aG,aG] at hk;obtain⟨h1,h2⟩:=kJ hk;obtain⟨k,x,e,q⟩:=h 0 u rfl;have e:p=(k,x):=by simpa using e
    subst e;have h1:k=jJ s:=h1;subst h1;rcases Ey q with ⟨_,_,e1,_⟩|⟨y,tk,e1,rfl⟩
    .cases e1
    cases e1;exact .cons _ _ (ih h2 (by simpa using hl) λj v z=>by simpa using h (j+1) v (by simpa using z))
theorem Ayc:∀{kvs:List (Key×V)} {vs:List (Key×aJ)},KV kvs vs->vs.map (·.1)=kvs.map (·.1):=λ{kvs vs} r=>by
 unfold KV at r;induction r with
 |nil=>rfl
 |cons h _ ih=>rw[aG,aG,ih,h.1]
theorem Agx(hc:X.calm=true):Gy X (.builtin "sorted") (λxs H Q=>∃p kvs,xs=[.ref p]/\H p=some (.dK kvs)/\kvs.length < 64/\
  ∃ss:List Str,kvs.map (·.1)=ss.map jJ/\∀q,H q=none->Q (.ref q) (upd H q (.lst ((Mw ss).map V.str)))):=by
 intro aa s σ H xs us Q I r h;obtain⟨p,kvs,rfl,hp,h64,q⟩:=h;obtain⟨u,rfl,ru⟩:=vals1 r;cases ru;obtain⟨_,lo,vs,rk,hd⟩:=(show Dr X.prog X.w H s.heap p (.dK kvs) from I.hok p _ hp);obtain⟨ep,hat⟩:=hd.dictAt;have ek:=Ayc rk;have lk:vs.length=kvs.length:=by simpa using congrArg mW ek
 refine pU kind_sorted zV zW (zX _) ?_;unfold tV.«sorted»
 refine aB (m:=checkCount "sorted" 1 1 _) (aV (aB (PySem.W.kdu_collect (A:=X.A.in1) (PySem.W.kdl_dict (knd:=Fv X.prog X.w) (kvs:=vs) (ep:=ep) lo) (show X.A.in1.handled=none from I.ok.hd hc) hat (by rw[lk];exact aD (lU h64) (by decide)) λh1 tk acc hk hacc=>?_)))
 have la:acc.toList.length=vs.length:=by rw[cN];exact hacc.1
 refine aB (uL ?_ (by rw[la,lk];exact aD (lU h64) (by decide)))
 have items:∀(j:Nat)(v:aJ),acc.toList[j]?=some v->∃k x,vs[j]?=some (k,x)/\Aae k v=true:=λj v z=>hacc.2 j v (by rw[<-jA];exact z)
 generalize e2:h1.push (seqObj "list" acc.toList.toArray 0)=h2;have ho:h2.get? h1.objs.size=some (seqObj "list" acc.toList.toArray 0):=by rw[<-e2];exact bO _ rfl
 have z2:h2.objs.size=h1.objs.size+1:=by rw[<-e2];exact yM ..
 have k2:∀b ob,s.heap.get? b=some ob->h2.get? b=some ob:=λb ob z=>by rw[<-e2];exact aP _ (hk b ob z)
 have hnew:s.heap.get? h1.objs.size=none:=by
  cases z:s.heap.get? h1.objs.size with
  |none=>rfl
  |some o=>exact absurd (bN (hk _ _ z)) (fK _)
 have bc:H h1.objs.size=none:=by
  cases z:H h1.objs.size with
  |none=>rfl
  |some o=>
   obtain⟨ob,hob⟩:=(I.hok _ o z).there;rw[hnew] at hob;cases hob
 have old:∀(out:Array aJ) b ob,s.heap.get? b=some ob->(sortedHeap h2 h1.objs.size acc.toList out).get? b=some ob:=λout b ob z=>by
  rw[sortedHeap_old (λw=>by rw[w,hnew] at z;cases z) (bN (k2 b ob z))]
  exact k2 b ob z
 obtain⟨ss,ks,q⟩:=q;have hS:tX acc.toList ss:=Aln (ek.trans ks) la items;refine aB (jZ (fQ yN ⟨_,ho,rfl⟩ xN (list_sort_treeK zJ ho hS.keysOf (λv1 v2 rest e=>zY (by rw[<-e];exact hS)) (by omega) λst' a1 a2=>⟨_,rfl,?_⟩) (yO _)))
 obtain⟨ss',b1,b2,b3⟩:=sorted_out_str hS a1 a2;obtain rfl:=Agv b2 b3;obtain⟨ep',hat'⟩:=sortedHeap_at (out:=(arrOf st').map (·.2)) ho;refine aV ⟨_,rfl,.ref h1.objs.size,_,I.newO (o:=.lst ((Mw ss).map V.str)) (tk:=tk) (old _) hnew ⟨?_,_,ep',R7 b1,hat'⟩,rfl,q _ ?_⟩
 .rw[aA,(Gs ss).length_eq];have:ss.length=kvs.length:=by simpa using (congrArg mW ks).symm
  exact aD (by omega:ss.length<=64) (by decide)
 .exact bc
end
end L2
set_option maxHeartbeats 8000000
noncomputable section
namespace Srt
open PySem PyProof.Rows
abbrev SM(α:Type):=StateT oM Sem α
abbrev PF(α:Type):=oM->Option (α×oM)
structure Sim{α:Type}(m:SM α)(p:PF α):Prop where
 run:∀(prog:cP)(w:dO)(A:fV)(E:aJ->aZ->Prop)(s:aZ)(st:oM)(r:α)(st':oM),kindOf st=oneType'->p st=some (r,st')->
  kindOf st'=oneType'/\∀Q:α->oM->Prop,Q r st'->wpS (model prog w) A E s m Q st
section
variable{α β:Type}
theorem Kv{m:SM α}:Sim m (λ_=>none):=by
 refine⟨λprog w A E s st r st' hk h=>?_⟩;cases h
theorem J2{a:α}:Sim (pure a:SM α) (λst=>some (a,st)):=by
 refine⟨λprog w A E s st r st' hk h=>?_⟩;cases h;exact⟨hk,λQ q=>yP q⟩
theorem Gz{m:SM α}{f:α->SM β}{p:PF α}{q:α->PF β}(h1:Sim m p)(h2:∀a,Sim (f a) (q a)):Sim (m >>= f) (λst=>match p st with|none=>none|some x=>q x.1 x.2):=by
 refine⟨λprog w A E s st r st' hk h=>?_⟩;split at h
 .cases h
 .rename_i x e;obtain⟨k1,g1⟩:=h1.run prog w A E s st x.1 x.2 hk e;obtain⟨k2,g2⟩:=(h2 x.1).run prog w A E s x.2 r st' k1 h;exact⟨k2,λQ y=>sX (g1 _ (g2 Q y))⟩
theorem Jw{f:oM->SM β}{q:oM->PF β}(h2:∀st,kindOf st=oneType'->Sim (f st) (q st)):Sim (get >>= f) (λst=>q st st):=by
 refine⟨λprog w A E s st r st' hk h=>?_⟩;obtain⟨k2,g2⟩:=(h2 st hk).run prog w A E s st r st' hk h;exact⟨k2,λQ y=>sX (wpS_get (g2 Q y))⟩
theorem Jx{f:oM->oM}(hf:∀st,kindOf (f st)=kindOf st):Sim (modify f:SM PUnit) (λst=>some (⟨⟩,f st)):=by
 refine⟨λprog w A E s st r st' hk h=>?_⟩;cases h;exact⟨(hf st).trans hk,λQ q=>wpS_modify q⟩
theorem Nh{x:oM}(hf:kindOf x=oneType'):Sim (set x:SM PUnit) (λ_=>some (⟨⟩,x)):=by
 refine⟨λprog w A E s st r st' hk h=>?_⟩;cases h;exact⟨hf,λQ q=>by unfold wpS;rw[StateT.run_set];exact aV ⟨rfl,q⟩⟩
theorem Kw{t:String}:Sim (liftM (rule t):SM Unit) (λst=>some ((),st)):=by
 refine⟨λprog w A E s st r st' hk h=>?_⟩;cases h;exact⟨hk,λQ q=>wpS_lift (rJ ⟨rfl,q⟩)⟩
theorem Hw{c:Prop}[Decidable c]{m n:SM α}{p q:PF α}(h1:Sim m p)(h2:Sim n q):Sim (if c then m else n) (λst=>if c then p st else q st):=by
 by_cases hc:c
 .simp only[hc,if_true];exact h1
 .simp only[hc,if_false];exact h2
theorem Ayd{γ:Type}{x:Option γ}{F:Option γ->SM α}{p:PF α}{q:γ->PF α}(h1:Sim (F none) p)(h2:∀c,Sim (F (some c)) (q c)):Sim (F x) (λst=>match x with|none=>p st|some c=>q c st):=by
 cases x
 .exact h1
 .exact h2 _
def Ni{γ Z:Type}{F:γ×Z->SM α}{q:γ->Z->PF α}(h:∀c d,Sim (F (c,d)) (q c d)):∀x,Sim (F x) (λst=>q x.1 x.2 st):=λx=>h _ _
def Agy{γ:Type}{F:Option γ->SM α}{p:PF α}{q:γ->PF α}(h1:Sim (F none) p)(h2:∀c,Sim (F (some c)) (q c)):∀x,Sim (F x) (λst=>match x with|none=>p st|some c=>q c st):=λx=>Ayd h1 h2
theorem Ky{γ Z:Type}{F:Option γ->Z->SM α}{p:Z->PF α}{q:γ->Z->PF α}(h1:∀d,Sim (F none d) (p d))(h2:∀c d,Sim (F (some c) d) (q c d)):∀x d,Sim (F x d) (λst=>match x with|none=>p d st|some c=>q c d st):=λx d=>by
 cases x
 .exact h1 d
 .exact h2 _ d
def Abk{γ:Type}{x:γ}{m:SM α}{q:γ->PF α}(h:∀y,y=x->Sim m (q y)):Sim m (q x):=h x rfl
noncomputable def Anr(q:Nat->β->PF (ForInStep β)):List Nat->β->PF β
 |[],b,st=>some (b,st)
 |i::l,b,st=>match q i b st with
  |none=>none
  |some (.done b',st')=>some (b',st')
  |some (.yield b',st')=>Anr q l b' st'
theorem Aix{f:Nat->β->SM (ForInStep β)}{q:Nat->β->PF (ForInStep β)}(h:∀i b,Sim (f i b) (q i b)):∀(l:List Nat)(b:β),Sim (forIn l b f) (Anr q l b)
 |[],b=>by rw[sW];exact J2
 |i::l,b=>by
  refine⟨λprog w A E s st r st' hk e=>?_⟩;rw[oH];rw[Anr] at e;split at e
  .cases e
  .rename_i b1 st1 e1;cases e;obtain⟨k1,g1⟩:=(h i b).run prog w A E s st _ _ hk e1;exact⟨k1,λQ y=>sX (g1 _ (yP y))⟩
  .rename_i b1 st1 e1;obtain⟨k1,g1⟩:=(h i b).run prog w A E s st _ _ hk e1;obtain⟨k2,g2⟩:=(Aix h l b1).run prog w A E s st1 r st' k1 e;exact⟨k2,λQ y=>sX (g1 _ (g2 Q y))⟩
theorem Nj{a b:Nat}{c:β}{f:Nat->β->SM (ForInStep β)}{q:Nat->β->PF (ForInStep β)}(h:∀i b,Sim (f i b) (q i b)):Sim (forIn [a:b] c f) (Anr q (aAq a (b - a)) c):=by
 rw[sY];have hsz:([a:b]:wU).size=b - a:=by simp[aAb]
 show Sim (forIn (aAq a ([a:b]:wU).size 1) c f) _;rw[hsz];exact Aix h _ c
end
noncomputable def ltP(x y:yQ):PF (Option Bool):=λst=>match strKind.keyOf x.1,strKind.keyOf y.1 with
 |some a,some b=>some (some (strKind.blt a b),st)
 |_,_=>none
theorem Vg{x y:yQ}:Sim ((sortPriv% PySem.Builtin.lt) x y) (ltP x y):=by
 show Sim (lt' x y) _;refine⟨λprog w A E s st r st' hk h=>?_⟩;unfold ltP at h;split at h
 .rename_i a b e1 e2;cases h;refine⟨hk,λQ q=>?_⟩;rw[lt'_eq];refine sX (wpS_get ?_);rw[hk,keyLt'_oneType];exact sX (wpS_lift (uK (zJ prog w A _ s _ _ _ _ e1 e2 ⟨rfl,yP q⟩)))
 .cases h
theorem Kz{arr:Array yQ}{i:Nat}:Sim ((sortPriv% PySem.Builtin.elem) arr i) (λst=>match arr[i]? with|none=>none|some p=>some (p,st)):=by
 show Sim (elem' arr i) _;refine⟨λprog w A E s st r st' hk h=>?_⟩;split at h
 .cases h
 .rename_i p e;cases h;exact⟨hk,λQ q=>by rw[elem'_eq,e];exact yP q⟩
end Srt
set_option maxHeartbeats 400000
namespace Srt
open PySem PyProof.Rows
noncomputable def Alo(i j:Nat):{p:PF Unit // Sim ((sortPriv% PySem.Builtin.reverseSlice) i j) p}:=⟨_,Jx λ_=>rfl⟩
noncomputable def Acb(i j:Nat):{p:PF Unit // Sim ((sortPriv% PySem.Builtin.moveDown) i j) p}:=⟨_,Jx λ_=>rfl⟩
def Nk{α:Type}{t:String}:Sim (liftM (unsupported t:Sem α):SM α) (λ_=>none):=Kv
def Vh{a b:Array yQ}:Sim ((sortPriv% PySem.Builtin.mergeLo) a b) (λ_=>none):=Kv
def Alp(i:Nat):{p:PF Unit // Sim ((sortPriv% PySem.Builtin.setMinGallop) i) p}:=⟨_,Jx λ_=>rfl⟩
def V3{α γ:Type}{F:Option γ->SM α}{q:γ->PF α}(h2:∀c,Sim (F (some c)) (q c)):∀x,Sim (F x) (λst=>match x with|none=>none|some c=>q c st):=Agy Kv h2
noncomputable def Afc(i j:Nat):{p:PF (Option Bool) // Sim ((sortPriv% PySem.Builtin.ltAt) i j) p}:=by
 apply nU
 (apply Jw;intro _ _)
 all_goals repeat' (first
|with_reducible exact J2|with_reducible exact Vg|with_reducible exact Kz|with_reducible exact Kw|with_reducible exact Nk|with_reducible exact Vh|with_reducible exact(Alo _ _).2|with_reducible exact(Acb _ _).2|with_reducible exact(Alp _).2
|(with_reducible apply Jx;intro _;rfl)|(with_reducible apply Nh;assumption)
|with_reducible apply Ni|with_reducible apply V3|with_reducible apply Ky|(with_reducible apply Jw;intro _ _)|with_reducible apply Hw|with_reducible apply Nj|with_reducible apply Gz|(intro _;(first|show Sim _ _|show ∀_,Sim _ _|show ∀_ _,Sim _ _))|(show Sim _ _;dsimp only))
noncomputable def V4(l:Bool)(k:yQ)(a:Array yQ)(b n h:Nat):{p:PF (Option Nat) // Sim ((sortPriv% PySem.Builtin.gallop) l k a b n h) p}:=by
 apply nU;apply Gz
 all_goals repeat' (first
|with_reducible exact J2|with_reducible exact Vg|with_reducible exact Kz|with_reducible exact Kw|with_reducible exact Nk|with_reducible exact Vh|with_reducible exact(Alo _ _).2|with_reducible exact(Acb _ _).2|with_reducible exact(Alp _).2|with_reducible exact(Afc _ _).2
|(with_reducible apply Jx;intro _;rfl)|(with_reducible apply Nh;assumption)
|with_reducible apply Ni|with_reducible apply V3|with_reducible apply Ky|(with_reducible apply Jw;intro _ _)|with_reducible apply Hw|with_reducible apply Nj|with_reducible apply Gz|(intro _;(first|show Sim _ _|show ∀_,Sim _ _|show ∀_ _,Sim _ _))|(show Sim _ _;dsimp only))
noncomputable def countP(lo n:Nat):{p:PF (Option Nat) // Sim ((sortPriv% PySem.Builtin.countRun) lo n) p}:=by
 apply nU;apply Gz
 all_goals repeat' (first
|with_reducible exact J2|with_reducible exact Vg|with_reducible exact Kz|with_reducible exact Kw|with_reducible exact Nk|with_reducible exact Vh|with_reducible exact(Alo _ _).2|with_reducible exact(Acb _ _).2|with_reducible exact(Alp _).2|with_reducible exact(Afc _ _).2|with_reducible exact(V4 _ _ _ _ _ _).2
|(with_reducible apply Jx;intro _;rfl)|(with_reducible apply Nh;assumption)
|with_reducible apply Ni|with_reducible apply V3|with_reducible apply Ky|(with_reducible apply Jw;intro _ _)|with_reducible apply Hw|with_reducible apply Nj|with_reducible apply Gz|(intro _;(first|show Sim _ _|show ∀_,Sim _ _|show ∀_ _,Sim _ _))|(show Sim _ _;dsimp only))
noncomputable def Beh(lo n k:Nat):{p:PF (Bool) // Sim ((sortPriv% PySem.Builtin.binarySort) lo n k) p}:=by
 apply nU;apply Gz
 all_goals repeat' (first
|with_reducible exact J2|with_reducible exact Vg|with_reducible exact Kz|with_reducible exact Kw|with_reducible exact Nk|with_reducible exact Vh|with_reducible exact(Alo _ _).2|with_reducible exact(Acb _ _).2|with_reducible exact(Alp _).2|with_reducible exact(Afc _ _).2|with_reducible exact(V4 _ _ _ _ _ _).2|with_reducible exact(countP _ _).2
|(with_reducible apply Jx;intro _;rfl)|(with_reducible apply Nh;assumption)
|with_reducible apply Ni|with_reducible apply V3|with_reducible apply Ky|(with_reducible apply Jw;intro _ _)|with_reducible apply Hw|with_reducible apply Nj|with_reducible apply Gz|(intro _;(first|show Sim _ _|show ∀_,Sim _ _|show ∀_ _,Sim _ _))|(show Sim _ _;dsimp only))
def Aye{α:Type}{a b:Nat}{m n:SM α}{p q:PF α}(h1:Sim m p)(h2:Sim n q):Sim (if (a==b)=true then m else n) (λst=>if (a==b)=true then p st else q st):=Hw h1 h2
def Bei{α:Type}{a b:Nat}{m n:SM α}{p:PF α}(h:Sim m p):Sim (if a > b then m else n) (λst=>if a > b then p st else none):=Hw h Kv
def Bej{α:Type}{a b:Bool}{m n:SM α}{p:PF α}(h:Sim n p):Sim (if (a&&b)=true then m else n) (λst=>if (a&&b)=true then none else p st):=Hw Kv h
def Bek{α:Type}{a:Bool}{m n:SM α}{p:PF α}(h:Sim m p):Sim (if a=true then m else n) (λst=>if a=true then p st else none):=Hw h Kv
def Bel{α:Type}{a:Nat}{m n:SM α}{p:PF α}(h:Sim n p):Sim (if (a==1)=true then m else n) (λst=>if (a==1)=true then none else p st):=Hw Kv h
noncomputable def hiP(a b:Array yQ):{p:PF (Array yQ) // Sim ((sortPriv% PySem.Builtin.mergeHi) a b) p}:=by
 apply nU;apply Gz
 all_goals repeat' (first
|with_reducible exact J2|with_reducible exact Vg|with_reducible exact Kz|with_reducible exact Kw|with_reducible exact Nk|with_reducible exact Vh|with_reducible exact(Alo _ _).2|with_reducible exact(Acb _ _).2|with_reducible exact(Alp _).2|with_reducible exact(Afc _ _).2|with_reducible exact(V4 _ _ _ _ _ _).2|with_reducible exact(countP _ _).2|with_reducible exact(Beh _ _ _).2
|(with_reducible apply Jx;intro _;rfl)|(with_reducible apply Nh;assumption)
|with_reducible apply Ni|with_reducible apply V3|with_reducible apply Ky|(with_reducible apply Jw;intro _ _)|with_reducible apply Bel|with_reducible apply Aye|with_reducible apply Bej|with_reducible apply Bei|with_reducible apply Bek|with_reducible apply Hw|with_reducible apply Nj|with_reducible apply Gz|(intro _;(first|show Sim _ _|show ∀_,Sim _ _|show ∀_ _,Sim _ _))|(show Sim _ _;dsimp only))
noncomputable def atP(i:Nat):{p:PF (Bool) // Sim ((sortPriv% PySem.Builtin.mergeAt) i) p}:=by
 apply nU
 (apply Jw;intro st hk);apply Abk (x:=(pendingOf st)[i]?);intro y hy;rw[<-hy];clear hy;apply Abk (x:=(pendingOf st)[i+1]?);intro z hz;rw[<-hz];clear hz;revert y z
 all_goals repeat' (first
|with_reducible exact J2|with_reducible exact Vg|with_reducible exact Kz|with_reducible exact Kw|with_reducible exact Nk|with_reducible exact Vh|with_reducible exact(Alo _ _).2|with_reducible exact(Acb _ _).2|with_reducible exact(Alp _).2|with_reducible exact(Afc _ _).2|with_reducible exact(V4 _ _ _ _ _ _).2|with_reducible exact(countP _ _).2|with_reducible exact(Beh _ _ _).2|with_reducible exact(hiP _ _).2
|(with_reducible apply Jx;intro _;rfl)|(with_reducible apply Nh;assumption)
|with_reducible apply Ni|with_reducible apply Agy|with_reducible apply Ky|(with_reducible apply Jw;intro _ _)|with_reducible apply Hw|with_reducible apply Nj|with_reducible apply Gz|(intro _;(first|show Sim _ _|show ∀_,Sim _ _|show ∀_ _,Sim _ _))|(show Sim _ _;dsimp only))
noncomputable def Bb6:{p:PF (Unit) // Sim ((sortPriv% PySem.Builtin.sortRuns)) p}:=by
 apply nU
 (apply Jw;intro _ _)
 all_goals repeat' (first
|with_reducible exact J2|with_reducible exact Vg|with_reducible exact Kz|with_reducible exact Kw|with_reducible exact Nk|with_reducible exact Vh|with_reducible exact(Alo _ _).2|with_reducible exact(Acb _ _).2|with_reducible exact(Alp _).2|with_reducible exact(Afc _ _).2|with_reducible exact(V4 _ _ _ _ _ _).2|with_reducible exact(countP _ _).2|with_reducible exact(Beh _ _ _).2|with_reducible exact(hiP _ _).2|with_reducible exact(atP _).2
|(with_reducible apply Jx;intro _;rfl)|(with_reducible apply Nh;assumption)
|with_reducible apply Ni|with_reducible apply Agy|with_reducible apply Ky|(with_reducible apply Jw;intro _ _)|with_reducible apply Hw|with_reducible apply Nj|with_reducible apply Gz|(rename_i st hst;apply Abk (x:=(pendingOf st).back?);intro y hy;rw[<-hy];clear hy;revert y)|(rename_i st hst;apply Abk (x:=if (pendingOf st).size > 1 then (pendingOf st)[(pendingOf st).size - 2]? else none);intro y hy;rw[<-hy];clear hy;revert y)|(intro _;(first|show Sim _ _|show ∀_,Sim _ _|show ∀_ _,Sim _ _))|(show Sim _ _;dsimp only))
end Srt
set_option maxHeartbeats 4000000
namespace Srt
open PySem PyProof.Rows
noncomputable def sg:List Nat:=[48,49,50,51,52,53,54,55,56,57] ++ (bR 26).map (·+97) ++ (bR 26).map (·+65) ++ [43,45]
def ky(i:Nat):Str:=⟨#[48,sg.getD i 0]⟩
noncomputable def so:List Nat:=[62,63] ++ bR 10 ++ (bR 26).map (·+36) ++ (bR 26).map (·+10)
def va(T:Nat->Tok)(i:Nat):aJ:=.str (ky i) (T i)
def st0(vs:List aJ):oM:=SortSt.mk' oneType' (vs.toArray.zip vs.toArray) #[] 7 none
noncomputable def seen(r:Option (Unit×oM)):Option (List aJ×Bool):=r.map λx=>(((arrOf x.2).map (·.2)).toList,(failedOf x.2).isNone)
theorem Bem(T:Nat->Tok):seen (Bb6.1 (st0 ((bR 64).map (va T))))=some (so.map (va T),true):=by kernel_rfl
end Srt
set_option maxHeartbeats 4000000
namespace Srt
open PySem PyProof.Rows
noncomputable def ky64:List Str:=(bR 64).map ky
def Biz:List Str:=so.map ky
theorem Ap3:Biz=L2.Mw ky64:=L2.Agv (by decide +kernel) (by decide +kernel)
theorem Ans:∀{vs:List aJ} {ss:List Str},tX vs ss->∃T:Nat->Tok,vs=ss.mapIdx λi x=>pD x (T i)
 |_,_,.nil=>⟨λ_=>0,rfl⟩
 |_,_,.cons x t h=>by
  obtain⟨T,rfl⟩:=Ans h;refine⟨λi=>match i with|0=>t|j+1=>T j,?_⟩
  rw[List.mapIdx_cons]
section
variable{prog:cP}{w:dO}{A:fV}{E:aJ->aZ->Prop}{s:aZ}
theorem Ben{T:Nat->Tok}{a:aQ}{n:Nat}{P:Fin->aZ->Prop}(ho:s.heap.get? a=some (seqObj "list" ((bR 64).map (va T)).toArray n))(h:P (.done (.ret .none)) { s with heap:=sortedHeap s.heap a ((bR 64).map (va T)) (so.map (va T)).toArray }):
  wpAny (model prog w) A (tV.«list.sort» ⟨[.ref a],[]⟩) P E s:=by
 generalize hvs:(bR 64).map (va T)=vs at ho h;have hlen:vs.toArray.size=64:=by rw[<-hvs];simp
 rw[list_sort_plain];refine aB (listItems_at ho rfl (aB (zK ho rfl ?_)));obtain⟨e1,ho1⟩:∃e1,(s.heap.update a (lM λ_=>#[])).get? a=some (seqObj "list" #[] e1):=⟨_,get?_update_seq ho λ_=>#[]⟩
 refine aB (seqEpoch_at ho1 rfl (aB (yL (aB (uL (jZ ?_))))));have lt:=bN ho;have ho6:(((s.heap.update a (lM λ_=>#[])).push (seqObj "tuple" vs.toArray 0)).push (seqObj "list" #[] 0)).get? a=some (seqObj "list" #[] e1):=by
  rw[vV _ _ _ (by rw[yM,qQ];exact dC (Nat.lt_succ_of_lt lt)),vV _ _ _ (by rw[qQ];exact dC lt)]
  exact ho1
 change wpAny (model prog w) A _ P E { s with heap:=((s.heap.update a (lM λ_=>#[])).push (seqObj "tuple" vs.toArray 0)).push (seqObj "list" #[] 0) }
 dsimp only;have h2:¬ vs.toArray.size < 2:=by rw[hlen];decide
 rw[if_neg h2,if_neg h2];have hk:keyKind' vs.toArray=pure oneType':=by
  rw[<-hvs];exact zY (ss:=ky64) (show tX ((bR 64).map (va T)) ((bR 64).map ky) from by
   generalize bR 64=l;induction l with
   |nil=>exact .nil
   |cons x l ih=>exact .cons _ _ ih)
 rw[hk];refine aB (aV ?_);have hr:=Bem T;rw[hvs] at hr;obtain⟨⟨⟨⟩,st'⟩,e,hs⟩:=cF.mp hr;obtain⟨_,g⟩:=Bb6.2.run prog w A E { s with heap:=((s.heap.update a (lM λ_=>#[])).push (seqObj "tuple" vs.toArray 0)).push (seqObj "list" #[] 0) } (st0 vs) () st' rfl e
 refine aB (fW (g (λ_ st=>st=st') rfl) ?_ λ_ _ e=>e);rintro⟨⟨⟩,st2⟩ s2 ⟨rfl,rfl⟩;dsimp only at hs ⊢
 injection hs with hs1 hs2
 have hf:failedOf st2=none:=Option.isNone_iff_eq_none.mp hs2;have ha:(arrOf st2).map (·.2)=(so.map (va T)).toArray:=by
  apply Array.toList_inj.mp;rw[hs1]
 rw[ha,hf];refine aB (seqEpoch_at ho6 rfl (aB (zK ho6 rfl ?_ (hsz2:=by rw[bD,aA,oA];decide))))
 simp only[bne_self_eq_false,pP,if_false];exact aV h
theorem Atg{T:Nat->Tok}{l:aQ}{Q:aJ->aZ->Prop}(hl:s.heap.IsList l ((bR 64).map (va T)).toArray)(h:Q (.ref (s.heap.objs.size+1)) { s with heap:=sortedAll s.heap ((bR 64).map (va T)) (so.map (va T)).toArray }):
  wpAny (model prog w) A (call (.builtin "sorted") [.ref l]) Q E s:=by
 refine pU kind_sorted zV zW (zX _) ?_;unfold tV.«sorted»
 refine aB (m:=checkCount "sorted" 1 1 _) (aV (aB (collect_list hl (aB (uL ?_)))));generalize hvs:(bR 64).map (va T)=vs at hl h;have hz:((s.heap.push (seqObj "list" #[] 0)).update s.heap.objs.size (lM (· ++ vs.toArray))).objs.size=s.heap.objs.size+1:=(qQ ..).trans (yM ..);have ho:(((s.heap.push (seqObj "list" #[] 0)).update s.heap.objs.size (lM (· ++ vs.toArray))).push (seqObj "list" vs.toArray 0)).get? (s.heap.objs.size+1)=some (seqObj "list" vs.toArray 0):=hz ▸ bO _ rfl;change wpAny _ _ _ _ _ { s with heap:=((s.heap.push (seqObj "list" #[] 0)).update s.heap.objs.size (lM (· ++ vs.toArray))).push (seqObj "list" vs.toArray 0) }
 rw[hz];subst hvs;exact aB (jZ (fQ yN ⟨_,ho,rfl⟩ xN (Ben ho ⟨_,rfl,aV ⟨_,rfl,h⟩⟩) (yO _)))
end
end Srt
namespace L2
open PySem PySem.Spec PyProof.Rows Srt
theorem Bi0(T:Nat->Tok):(ky64.mapIdx λi x=>pD x (T i))=(bR 64).map (va T):=by kernel_rfl
theorem Ant(T:Nat->Tok):∀l:List Nat,tX (l.map (va T)) (l.map ky)
 |[]=>.nil
 |x::l=>.cons _ _ (Ant T l)
theorem Aek{X:Cx}:Gy X (.builtin "sorted") (λxs H Q=>∃p,xs=[.ref p]/\H p=some (.lst (ky64.map V.str))/\∀q,H q=none->Q (.ref q) (upd H q (.lst ((Mw ky64).map V.str)))):=by
 intro aa s σ H xs us Q I r h;obtain⟨p,rfl,hp,q⟩:=h;obtain⟨u,rfl,ru⟩:=vals1 r;cases ru;obtain⟨_,its,n,rv,e⟩:=(show Dr X.prog X.w H s.heap p (.lst (ky64.map V.str)) from I.hok p _ hp);obtain⟨T,hT⟩:=Ans (Abj rv);rw[Bi0] at hT;subst hT;refine Atg (l:=p) ⟨_,e,rfl,_,rfl⟩ ?_;obtain⟨ep,hat⟩:=zU s.heap ((bR 64).map (va T)) (so.map (va T)).toArray;rw[<-Ap3] at q;exact⟨.ref (s.heap.objs.size+1),_,I.newO (o:=.lst (Biz.map V.str)) (tk:=s.toks) (λb o q=>zH q) (gQ (lL _)) ⟨by decide +kernel,(so.map (va T)),ep,R7 (Ant T so),hat⟩,rfl,q _ (I.hok.fresh (lL _))⟩
section
variable{prog:cP}{w:dO}{A:fV}{E:aJ->aZ->Prop}{h:dN}{g:Array sO}{d:aAf}{t:Nat}{os:zR}
variable{nm q:Str}{C N fI:aQ}{bs tl bmB:List aJ}{hdct:Bool}{sn:List Str}{sub:List aJ}{ab:Bool}{col:Option Bool}{dd:Option aQ}{k0 k1 k2 k3 k5:Option aJ}{B newId initId:String}{oI:Obj}{mN:Str->Option aJ}{rest:List aJ}
theorem Ayf(F:vW B newId initId bmB)(T:xR h bmB tl)(hC:h.get? C=some (excClassObj nm q C N bs tl hdct sn sub ab col dd k0 k1 k2 k3 k5 newId))(hn:h.Ns N mN)(hi:mN "__init__"=some (.ref fI))(hf:h.get? fI=some oI)(hfc:oI.cls=.type "function")(hl:rest.length<=sizeLine)(go:∀h' e,lN h h' e (.ref C) rest->wpAny (model prog w) A (call (.ref fI) (.ref e::rest)) (λr s'=>r=.none/\Q (.done (.ret (.ref e))) s') E ⟨h',g,d,t,os⟩):
  wpAny (model prog w) A (tV.«type.__call__» ⟨.ref C::rest,[]⟩) Q E ⟨h,g,d,t,os⟩:=by
 repeat (first|(with_reducible refine dM hC ?_)|(with_reducible refine wpAny_madeBy_exc hC ?_)|wp_step)
 refine codeAny_call_builtin_code (pN _ F.quiet) (wpAny_check_new_subT F T hC (codeAny_exc_new_subT F T hC ?_ hl));generalize e1:h.push { cls:=.type "tuple",data:=.seq rest.toArray }=h1;generalize e2:h1.push { cls:=.ref C,data:=.fields #[.ref h.objs.size,.none,.none,.none,.bool false,.none] }=h2;have z1:h1.objs.size=h.objs.size+1:=by rw[<-e1];exact lO ..
 have keep:∀b o,h.get? b=some o->h2.get? b=some o:=λb o z=>by rw[<-e2];exact aP _ (by rw[<-e1];exact aP _ z)
 have made:h2.get? (h.objs.size+1)=some { cls:=.ref C,data:=.fields #[.ref h.objs.size,.none,.none,.none,.bool false,.none] }:=by
  rw[<-e2,<-z1];exact bO _ rfl
 have hC2:=keep _ _ hC;show wpAny _ _ _ _ _ _;have own:(cL C::tl).contains (.ref C)=true:=by simp
 unfold isInstance
 repeat (first|(with_reducible refine dM made ?_)|(with_reducible refine uB hC2 ?_;rw[own])|wp_step)
 show wpAny _ _ (typeLookup (.ref C) _) _ _ _;refine wpAny_typeLookup_tail hC2 (hn.keeps keep) (T.keeps keep) F.mroIs F.init.lookup ?_;rw[hi];refine jZ (aB ?_);unfold bindSpecial;refine aB (oY (T:="function") ⟨_,keep _ _ hf,hfc⟩ ?_);rw[if_pos (by decide)]
 refine aV (aB (fW (go h2 (h.objs.size+1) ⟨keep,gQ (lL _),h.objs.size,made,gQ (aN _),?_⟩) (λr s' hr=>?_) λ_ _ z=>z))
 .rw[<-e2];exact aP _ (by rw[<-e1];exact bO _ rfl)
 .obtain⟨rfl,hq⟩:=hr
  wp_walk
  exact hq
theorem Ayg(F:vW B newId initId bmB)(T:xR h bmB tl)(hC:h.get? C=some (excClassObj nm q C N bs tl hdct sn sub ab col dd k0 k1 k2 k3 k5 newId))(hn:h.Ns N mN)(hi:mN "__init__"=some (.ref fI))(hf:h.get? fI=some oI)(hfc:oI.cls=.type "function")(hl:rest.length<=sizeLine)(go:∀h' e,lN h h' e (.ref C) rest->wpAny (model prog w) (A.under (.builtin "type.__call__" ⟨.ref C::rest,[]⟩)) (call (.ref fI) (.ref e::rest)) (λr s'=>r=.none/\Q (.ref e) s') E ⟨h',g,d,t,os⟩):
  wpAny (model prog w) A (call (.ref C) rest) Q E ⟨h,g,d,t,os⟩:=by
 have l1:=tc_lookup;have l2:=tc_bind (.ref C);have ty:(⟨h,g,d,t,os⟩:aZ).TypeIs (.ref C) "type":=⟨_,hC,rfl⟩;refine rH (codeAny_of_tree (show wpAny _ _ (callAny (.ref C) _) _ _ _ from ?_))
 repeat (any_goals (first|assumption|(with_reducible refine dM hC ?_)|wp_step))
 exact⟨rfl,codeAny_call_builtin_at (pN _ (by decide +kernel)) entry_typeCall (wpAny_check_type_call_sub hC (Ayf F T hC hn hi hf hfc hl λh' e hm=>go h' e hm))⟩
end
section
open PySem.W PySem.Builtin PySem.Builtin.ObjectAttr in
theorem Afd(self:aJ):∀{own:List aJ},(own.all λa=>match a with|.ref _=>true|_=>false)=true->refuseLoop self "__setattr__" (own ++ Ab7)=pure ()
 |[],_=>qK.passes self
 |.ref a::r,h=>by
  rw[qR,refuseLoop_ref];exact Afd self (by simpa using h)
open PySem.W PySem.Builtin PySem.Builtin.ObjectAttr in
theorem Beo{prog:cP}{w:dO}{A:fV}{E:aJ->aZ->Prop}{s:aZ}{K:aF}{x C:aQ}{o:Obj}{name:Str}{v:aJ}{cd:ClassData}{own:List aJ}(X:K.In s.heap)(hx:s.heap.get? x=some o)(hc:o.cls=.ref C)(hdn:o.dict=none)(hnc:∀c,o.data≠.cls c)(hcd:clsIn K C=some cd)(hm:cd.mro=own ++ Ab7)(ho:(own.all λa=>match a with|.ref _=>true|_=>false)=true)(hd:cd.hasDict=true)(hs:findIn K (.ref C) "__setattr__"=some (some (.builtin "object.__setattr__")))(hn:findIn K (.ref C) name=some none)(hb:mroIn K C (.type "object")=some true)(h:∀d h' tk,s.heap.get? d=none->d≠x->h'.get? x=some { o with dict:=some d }->h'.Ns1 d (λy=>if y=name then some v else none)->(∀b ob,b≠x->s.heap.get? b=some ob->h'.get? b=some ob)->Q () { s with heap:=h',toks:=tk }):
  wpAny (model prog w) A (setAttr (.ref x) name v) Q E s:=by
 have I:InstAt s.heap x o C none:=⟨hx,hc,by unfold notCls;split <;> first|(rename_i z;exact absurd z (hnc _))|rfl,by rw[hdn];exact gK⟩
 refine set_plain X I hs ?_;obtain⟨hh,g,dr,tk0,os⟩:=s;dsimp only at X hx I h ⊢
 have SF:=qK;have sub:Looks (model prog w) hh (isInstance (.ref x) (.type "object")) true:=I.type.andThen (looks_mroIn X hb);refine jE SF.slot.plain SF.entry (@check_slot (model prog w) _ _ ⟨hh,g,dr,tk0+1,os⟩ "object.__setattr__" "object" "__setattr__" (.ref x) [.str name tk0,v] [] _ SF.kind SF.split sub (SF.args (.ref x) (.str name tk0) v) ?_);have lm:Looks (model prog w) hh (mroOf (.ref C)) cd.mro:=(looks_clsIn X hcd).andThen .now;rw[osa_eq,refuse_eq];refine aB (aB (I.type.here (aB (lm.here ?_))));rw[hm,Afd _ ho];refine aV (aB (I.type.here (aB ((looks_findIn X hn).here (aB (aV ?_))))));show wpAny _ _ (storeInOwnDict (.ref x) (.ref C) (.str name tk0) name v false) _ _ _;unfold storeInOwnDict
 repeat (first|(with_reducible refine dM hx ?_;rw[hc])|wp_step)
 unfold clsIn at hcd;split at hcd
 .rename_i c0 dd cd0 sl0 hK;cases hcd;refine wpAny_load (X _ _ hK) (aV ?_);have td:typeHasDict (cL C)=true:=by simp[typeHasDict]
  simp only[hd,hdn,td,uM,pP,if_false,yZ]
  .have hx1:(hh.push { cls:=.type "dict",data:=.dict #[] }).get? x=some o:=aP _ hx;have ne:x≠hh.objs.size:=dC (bN hx);refine aB (wpAny_alloc' ?_);refine aB (wpAny_update' hx1 ?_);refine aV ?_;generalize e2:((hh.push { cls:=.type "dict",data:=.dict #[] }).update x λo=>{ cls:=o.cls,dict:=some hh.objs.size,data:=o.data,slots:=o.slots })=h2;have g2:h2.get? hh.objs.size=some { cls:=.type "dict",data:=.dict #[] }:=by
    rw[<-e2,uC _ _ _ _ ne.symm];exact bO _ rfl
   have x2:h2.get? x=some { o with dict:=some hh.objs.size }:=by
    rw[<-e2];refine jB _ hx1 ?_;have fr:=(Heap.get?_some_iff.mp hx).2;obtain⟨oc,od,odt,osl⟩:=o;cases odt <;> first|rfl|exact fr
   have n2:h2.Ns hh.objs.size (λ_=>none):=⟨_,#[],_,g2,rfl,λe he=>absurd he (by simp),λ_=>rfl⟩
   show wpAny _ _ (storeInDict hh.objs.size (.str name tk0) name v) _ _ _;unfold storeInDict newKeyGuard;refine aB (aV (aB (wpAny_nsSet1 (Heap.Ns1.of_empty n2) λh' hn' hs'=>?_)));obtain⟨oD,esD,epD,hoD,hdD,hcD⟩:=hn'.count (Within.cons name v Within.nil);refine aB (wpAny_lookBehind hoD (by rw[hdD];exact pastItsLine_dict (aD hcD (by rw[aU,oG,oA];omega))) ?_)
   wp_walk
   refine h hh.objs.size h' _ (gQ (aN _)) ne.symm ((hs'.2 x ne).trans x2) hn' λb ob hb q=>?_;refine(hs'.2 b (dC (bN q))).trans ?_;rw[<-e2,uC _ _ _ _ hb];exact aP _ q
 .cases hcd
end
abbrev Acd(C:aQ)(od:Option aQ)(t:aQ):Obj:={ cls:=.ref C,dict:=od,data:=.fields #[.ref t,.none,.none,.none,.bool false,.none] }
section
variable{t:Nat}
theorem Ayh{prog:cP}{w:dO}{A:fV}{E:aJ->aZ->Prop}{h:dN}{g:Array sO}{d:aAf}{os:zR}{nm q:Str}{C N e t0:aQ}{bs tl bmB:List aJ}{hdct:Bool}{sn:List Str}{sub:List aJ}{ab:Bool}{col:Option Bool}{dd od:Option aQ}{k0 k1 k2 k3 k5:Option aJ}{B newId initId:String}{rest:List aJ}(F:vW B newId initId bmB)(T:xR h bmB tl)(hC:h.get? C=some (excClassObj nm q C N bs tl hdct sn sub ab col dd k0 k1 k2 k3 k5 newId))(he:h.get? e=some (Acd C od t0))(hl:rest.length<=sizeLine)(go:∀h' t',h'.get? e=some (Acd C od t')->(∀b ob,b≠e->h.get? b=some ob->h'.get? b=some ob)->Q .none ⟨h',g,d,t,os⟩):
  wpAny (model prog w) A (call (.builtin initId) (.ref e::rest)) Q E ⟨h,g,d,t,os⟩:=by
 refine rH (jE F.init.plain F.initEntry (wpAny_check_init_subT F T hC he rfl ?_));have ne:e≠h.objs.size:=dC (bN he)
 wp_walk
 refine go _ h.objs.size ?_ λb ob hb q=>?_
 .rw[jB _ (aP _ he) rfl];rfl
 .rw[fY _ _ hb.symm];exact aP _ q
end
noncomputable def Agz(K:aF)(C fI:aQ):Bool:=match K.lookup C with
 |some ⟨.type "type",_,.cls cd,sl⟩=>(match cd.mro,sl.toList with
  |.ref C'::tl,[_,_,_,_,some (.builtin n),_]=>(C'==C&&n=="ValueError.__new__"&&!cd.hasDel)&&(PySem.W.tailIn K Ab7 tl&&PySem.W.nsOkIn K cd.ns)&&bL K cd.ns "__init__"==some (some (.ref fI))
  |_,_=>false)
 |_=>false
theorem Alq{K:aF}{h:dN}{N:aQ}{m:Str->Option aJ}{n:Str}{v:aJ}(X:K.In h)(G:h.Ns N m)(e:bL K N n=some (some v)):m n=some v:=by
 obtain⟨o,es,ep,ho,hd,_,hf⟩:=G;unfold bL at e;split at e
 .rename_i q;have z:=X _ _ q;rw[ho] at z;cases z;cases hd;split at e
  .rename_i en he;cases e;rw[<-hf];unfold nsFind findBy;rw[<-uT,he];rfl
  .split at e <;> cases e
 .cases e
theorem Ath{K:aF}{h:dN}{C fI:aQ}(X:K.In h)(q:Agz K C fI=true):
  ∃tl N nm qn bs hdct sn sub ab col dd k0 k1 k2 k3 k5 mN,h.get? C=some (excClassObj nm qn C N bs tl hdct sn sub ab col dd k0 k1 k2 k3 k5 "ValueError.__new__")/\h.Ns N mN/\mN "__init__"=some (.ref fI)/\xR h Ab7 tl:=by
 unfold Agz at q;split at q
 .rename_i dd cd sl ho;split at q
  .rename_i C' tl k0 k1 k2 k3 n k5 hm hs;simp only[aC,beq_iff_eq,dJ] at q;obtain⟨⟨⟨⟨rfl,rfl⟩,hdel⟩,ht,hok⟩,hni⟩:=q;obtain⟨nm,bs,mro,ns,qn,hd,sn,sub,ab,col,del⟩:=cd;dsimp only at hm hdel hok hni;subst hm hdel;obtain⟨l⟩:=sl;dsimp only at hs;subst hs;have nsq:h.Ns ns (h.nsMap ns):=.of_isNs (uW X hok);exact⟨tl,ns,nm,qn,bs,hd,sn,sub,ab,col,dd,k0,k1,k2,k3,k5,_,X _ _ ho,nsq,Alq X nsq hni,uX X ht⟩
  .cases q
 .cases q
structure XsK(K:aF)(C:aQ)(f:Str):Prop where
 cls:∃cd own,qI K C=some cd/\cd.mro=own ++ Ab7/\(own.all λa=>match a with|.ref _=>true|_=>false)=true/\cd.hasDict=true
 sa:dH K (.ref C) "__setattr__"=some (some (.builtin "object.__setattr__"))
 no:dH K (.ref C) f=some none
 ob:jY K C (.type "object")=some true
structure XbK(K:aF)(B:aQ):Prop where
 g:pZ K (.ref B) "__getattribute__"=some (some (.builtin "type.__getattribute__"))
 r:xO K B (.type "type")=true
 f:xP K (.ref B) (.type "type") "__init__"=some (.val (.builtin "ValueError.__init__"))
def Ln(e C:aQ)(od:Option aQ):HO:=.ext λh=>∃t,h.get? e=some (Acd C od t)
theorem Ag0(q:h.get? e=some (Acd C od t)):Dr P w H h e (Ln e C od):=
 ⟨⟨t,q⟩,⟨_,q⟩,λ_ _ ⟨t',p⟩ k=>⟨t',k _ p⟩⟩
theorem Ap4(bf:attributeBase o name env (eval o env)=eval o env)(few:methodCallForm args.length (backTo pos (starEach args env)) (backToKw pos (keywordEach [] env))=true)(aq:(ak.endLine==pos.line)=true):
  eval (.Call (.Attribute o name ak) args [] pos) env=(do
   let ov<-eval o env
   standAt ak.atName
   let (f,first)<-holding [ov] (getMethod ov name (do return (<-importBound o env).getD true))
   callWith pos f first (backTo pos (starEach args env)) (backToKw pos (keywordEach [] env))):=by
 have e:eval (.Call (.Attribute o name ak) args [] pos) env=(do
   let ov<-attributeBase o name env (eval o env)
   standAt ak.atName
   methodCall o name ak pos env ov args.length (backTo pos (starEach args env)) (backToKw pos (keywordEach [] env))):=rfl
 rw[e,bf];unfold methodCall calleeOf methodCallPos;rw[few,aq];rfl
def Bep(K:aF)(ta:TA):TE:=λσ H Q=>ta σ H λvs H1=>∃e C fI od rest,vs=.ref e::rest/\H1 e=some (Ln e C od)/\Agz K C fI=true/\rest.length<=sizeLine/\Q .non H1
def Bi1(K:aF)(ta tv:TE)(f:Str):TS:=λD σ H=>tv σ H λy H1=>ta σ H1 λx H2=>∃e C,x=.ref e/\H2 e=some (Ln e C none)/\XsK K C f/\∀d,H2 d=none->D.nx σ (upd (upd H2 e (Ln e C (some d))) d (.xd [(f,y)]))
section
theorem Ati(hg:Gl X x)(hm:X.mg x=some (.ref B))(b:XbK X.K B)(ha:PA X (e₀::es) ts)(hd:(x==("__debug__":Str))=false)(hst:starEach (e₀::es) X.env=(false,eval e₀ X.env)::starEach es X.env)(hpl:(backTo pos (starEach es X.env)).any (·.1)=false)(few:methodCallForm (e₀::es).length (backTo pos (starEach (e₀::es) X.env)) (backToKw pos (keywordEach [] X.env))=true)(aq:(ak.endLine==pos.line)=true):
  PE X (.Call (.Attribute (.Name x np) "__init__" ak) (e₀::es) [] pos) (Bep X.K ts):=by
 intro aa s σ H Q I h;refine PySem.W.methodCall_KW (R5 I hg hm ?_ hd) (Ap4 rfl few aq);refine PySem.W.method_cls I.kIn b.g (PySem.W.cls_value I.kIn b.r b.f rfl ?_);have I0:=I.tok (s.toks+1);have hA:=ha pos aa _ σ H _ I0 h;rw[hst] at hA ⊢
 refine rE (by show (false||(backTo pos (starEach es X.env)).any (·.1))=false;rw[hpl] <;> rfl) (oE ?_)
 refine thn hA λus s2 zz=>?_;obtain⟨vs,H2,I2,r2,e,C,fI,od,rest,ev,he,hx,hl,q⟩:=zz;subst ev;cases r2 with
 |@cons _ u _ ur ru rr=>
  obtain rfl:u=cL e:=ru;obtain⟨⟨t,q1⟩,_,_⟩:=(show Dr X.prog X.w H2 s2.heap e (Ln e C od) from I2.hok e _ he);obtain⟨hh,g,dr,tk,os⟩:=s2;obtain⟨tl,N,nm,qn,bs,hdct,sn,sub,ab,col,dd,k0,k1,k2,k3,k5,mN,hC,hN,hni,T⟩:=Ath I2.kIn hx;refine Ayh fZ T hC q1 (by rw[<-rr.length];exact hl) λh' t' q2 k=>?_
  have I3:Inv X aa σ (upd H2 e (Ln e C od)) ⟨h',g,dr,tk,os⟩:=I2.write (x:=e) (e:=e) (t':=tk) (by rw[he];exact gK) (.inl rfl) k ⟨_,q2⟩ (Ag0 q2)
  have eH:upd H2 e (Ln e C od)=H2:=funext λb=>by
   by_cases hb:b=e
   .subst hb;rw[Bl,he]
   .rw[Bb hb]
  rw[eH] at I3;exact⟨.non,H2,I3,rfl,q⟩
theorem Ayi(ho:PE X o ta)(hv:PE X value tv)(hs:swapsWith value (some (.Attribute o f pos')) pos.line X.env=pure false):PS X (.Assign [.Attribute o f pos'] value pos) (Bi1 X.K ta tv f):=by
 intro aa s σ H D I h;refine plainObj_wpAny_Assign_Attribute (thn (hv aa s σ H _ I h) λu s1 ⟨y,H1,I1,ry,q⟩=>thn (ho aa s1 σ H1 _ I1 q) λov s2 ⟨x,H2,I2,rx,e,C,ex,he,k,q2⟩=>?_) hs;subst ex;obtain rfl:ov=cL e:=rx;obtain⟨⟨t,q1⟩,_,_⟩:=(show Dr X.prog X.w H2 s2.heap e (Ln e C none) from I2.hok e _ he);obtain⟨cd,own,c1,c2,c3,c4⟩:=k.cls;refine Beo I2.kIn q1 rfl rfl (λc z=>by cases z) c1 c2 c3 c4 k.sa k.no k.ob λd h' tk hd ne q3 hns kp=>?_
 have dn:H2 d=none:=by
  cases z:H2 d with
  |none=>rfl
  |some o=>
   obtain⟨ob,hob⟩:=(I2.hok d o z).there;rw[hd] at hob;cases hob
 have en:∀b,H2 b=none->b≠e:=λb z w=>by rw[w,he] at z;cases z
 have bd:∀b o,s2.heap.get? b=some o->b≠d:=λb o z w=>by rw[w,hd] at z;cases z
 have th:∀b o,H2 b=some o->b≠d:=λb o z w=>by rw[w,dn] at z;cases z
 have up2:∀b o,H2 b=some o->b≠e->upd (upd H2 e (Ln e C (some d))) d (.xd [(f,y)]) b=some o:=λb o z w=>by rw[Bb (th b o z),Bb w,z]
 have I3:Inv X aa σ (upd (upd H2 e (Ln e C (some d))) d (.xd [(f,y)])) { s2 with heap:=h',toks:=tk }:=by
  refine I2.un ⟨λb o q n _ _=>kp b o (en b n) q,λb o q n _ _=>⟨o.slots,kp b o (en b n) q⟩,λb o q n _=>by rw[Bb (bd b o q),Bb (en b n)];exact n,λb o q _=>?_,λb xs q=>up2 b _ q λw=>by (rw[w,he] at q;cases q),λb o v q=>up2 b _ q λw=>by (rw[w,he] at q;cases q),λb ps q=>⟨#[],by (rw[jT];exact up2 b _ q λw=>by rw[w,he] at q;cases q)⟩⟩ λb o q=>?_
  .by_cases hb:b=e
   .exact⟨_,by rw[hb];exact q3⟩
   .exact⟨o,kp b o hb q⟩
  .by_cases hb:b=d
   .subst hb;rw[Bl] at q;cases q;refine⟨_,hns,λg=>?_⟩;rw[eV];by_cases hg:g=f
    .subst hg;rw[beq_self_eq_true,if_pos rfl];exact ry
    .rw[if_neg hg,beq_eq_false_iff_ne.mpr hg];exact gK
   .rw[Bb hb] at q;by_cases hb':b=e
    .subst hb';rw[Bl] at q;cases q;exact Ag0 (t:=t) q3
    .rw[Bb hb'] at q;refine(I2.hok b o q).stay (λc v hc z=>kp c v (λw=>?_) z) (λc z=>up2 c _ z λw=>by rw[w,he] at z;cases z) λc xs z=>up2 c _ z λw=>by rw[w,he] at z;cases z
     rcases hc with rfl|hc
     .exact hb' w
     .rw[w,he] at hc;cases hc
 exact⟨σ,_,I3,q2 d dn⟩
end
def Ap5(C:aQ)(f:Str):Sp:=λvs H Q _=>∃e n u,vs=[.ref e,n,u]/\H e=some (Ln e C none)/\∀d,H d=none->Q .non (upd (upd H e (Ln e C (some d))) d (.xd [(f,n)]))
section
theorem Bi2{P:cP}{w:dO}{K:aF}{mg:Str->Option aJ}{base:dN}{cm:Bool}{x aj B fld a b c:Str}{st:dG}{f C Ba fI:aQ}{fd:eO}{k:Nat}{np ap p1 p2 cp xp p3 p4 p5 sp':Pos}(F:Fun K x aj st f fd)(Sc:Hf [a,b,c] [a,b,c] (Am st))(hb:Ax st=[.Expr (.Call (.Attribute (.Name B np) "__init__" ap) [.Name a p1,.Name c p2] [] cp) xp,.Assign [.Attribute (.Name a p3) fld p4] (.Name b p5) sp'])(hm:mg B=some (.ref Ba))(xb:XbK K Ba)(xs:XsK K C fld)(xi:Agz K C fI=true)(hg:(Am st).names.lookup B=some .globalImplicit)(va:Alj (Am st) a=true)(vb:Alj (Am st) b=true)(vc:Alj (Am st) c=true)(dB:(B==("__debug__":Str))=false)(dd:([a,b,c].all λy=>!(y==("__debug__":Str))&&!(y==("__classdict__":Str)))=true)(hl:(ap.endLine==cp.line)=true):Io P w K mg base (CXo P w) (k+1) f fd [a,b,c] (Ap5 C fld) cm:=by
 simp only[bY,List.all_nil,uN,aC,dJ] at dd;obtain⟨⟨a1,a2⟩,⟨b1,b2⟩,c1,c2⟩:=dd;refine Fun.okX F Sc (λvs H Q E h=>?_) λcdv A outer s H vs Q E rm h=>?_
 .obtain⟨e,n,u,rfl,_⟩:=h;rfl
 .obtain⟨e,n,u,rfl,he,q⟩:=h;rw[hb];refine⟨_,Aie (Anf (Ati (x:=B) (B:=Ba) hg hm xb (Agi (Abz (i:=0) rfl (Ab9 va) a1 a2) (Agi (Abz (i:=2) rfl (Ab9 vc) c1 c2) Asn rfl) rfl) dB rfl rfl rfl hl) rfl)
   (Aw9 (Ayi (Abz (i:=0) rfl (Ab9 va) a1 a2) (Abz (i:=1) rfl (Ab9 vb) b1 b2) rfl)),?_⟩
  refine⟨_,rfl,_,rfl,e,C,fI,none,[u],rfl,he,xi,(by show 1<=sizeLine;decide),?_⟩
  refine⟨_,rfl,_,rfl,e,C,rfl,he,xs,λd dn=>q d dn⟩
end
section
theorem Inv.madeX(I:Inv X aa σ H s)(hx:lN s.heap h' e (.ref C) args):Inv X aa σ (upd H e (Ln e C none)) { s with heap:=h' }:=by
 have ne:∀{b:aQ} {o:Obj},s.heap.get? b=some o->b≠e:=λq z=>by rw[z,hx.new] at q;cases q
 have nt:∀{b:aQ} {u:HO},H b=some u->b≠e:=λq=>by
  obtain⟨o,ho⟩:=(I.hok _ _ q).there;exact ne ho
 obtain⟨t,he,_,_⟩:=hx.there;refine I.step (s:=s) (g':=s.gens) (d':=s.drawn) (t':=s.toks) (h':=h') (ch:=[]) (λ_ z=>nomatch z) (λb o _ _ _ q _=>hx.keeps b o q) (λb o _ _ _ q _=>⟨o.slots,hx.keeps b o q⟩) (λb o _ q n=>by rw[Bb (ne q)];exact n)
  (λb o _ q=>⟨o,hx.keeps b o q⟩) (λb xs q=>by rw[Bb (nt q)];exact q) (λb o u q=>by rw[Bb (nt q)];exact q) (λb ps q=>⟨#[],by rw[Bb (nt q),jT];exact q⟩) (λm hm=>hm.keeps hx.keeps) (λa u q=>?_) I.bare
 by_cases ha:a=e
 .subst ha;rw[Bl] at q;cases q;exact Ag0 he
 .rw[Bb ha] at q;exact(I.hok a u q).stay (λb v _ z=>hx.keeps b v z) (λb z=>by rw[Bb (nt z)];exact z) λb xs z=>by rw[Bb (nt z)];exact z
end
section
theorem Atj(hb:tl.contains (.type "BaseException")=true)(hh:A.handled=none)(h:wpAny M A x (λv s1=>∃e od t,v=.ref e/\s1.heap.get? C=some (excClassObj nm q C N bs tl hdct sn sub ab col dd k0 k1 k2 k3 k5 newId)/\s1.heap.get? e=some (Acd C od t)/\E (.ref e) s1) E s):
  wpAny M A (raiseStmt env (some x) none) Q E s:=by
 have has:(cL C::tl).contains (.type "BaseException")=true:=by rw[vA,hb,mC]
 unfold raiseStmt;refine aB (fW h (λv s1 z=>?_) λ_ _ z=>z);obtain⟨e,od,t,rfl,hC,he,hE⟩:=z;obtain⟨hp,g,d,tk,os⟩:=s1
 repeat (first|(with_reducible refine dM he ?_)|(with_reducible refine dM hC ?_)|(with_reducible refine uB hC ?_;rw[has])|wp_step)
 exact wpAny_raiseNew_none hh hE
end
def Abl(X:Cx)(E:XK):Prop:=∀(aa:List (aQ×Obj))(σ:St)(H:Hp)(s:aZ)(e C:aQ)(od:Option aQ),Inv X aa σ H s->X.s₀.heap.get? e=none->H e=some (Ln e C od)->(∀H',(∀b,b≠e->H' b=H b)->H' e=none->E (.ref C) (some (1,od)) H')->X.xe (.ref e) s
def Ayj(ta:TA)(C:aQ)(f:Str)(dvs:List V)(E:XK):TS:=λ_ σ H=>ta σ H λvs H1=>vs.length<=sizeLine/\∃n u,vs ++ dvs=[n,u]/\∀d,H1 d=none->E (.ref C) (some (1,some d)) (upd H1 d (.xd [(f,n)]))
theorem Ap6{k:Nat}(hx:Agz X.K C fI=true)(hk:fM X.K (.ref C)=true)(hft:lQ X.K (.ref fI)=some (.type "function"))(hex:X.ex=[])(hg:Gl X x)(hm:X.mg x=some (.ref C))(hc:X.calm=true)(hR:Abl X E)(F:Io X.prog X.w X.K X.mg X.base (CXo X.prog X.w) k fI fd ps (Ap5 C f) true)(hr:Im (k+1) X.A true)(hb:Binds X.K fd ps ds)(hd:Vals dvs ds)(ha:PA X (e₀::es) ta)(hdb:(x==("__debug__":Str))=false)(he:starEach (e₀::es) X.env=(false,eval e₀ X.env)::starEach es X.env)(hpl:(backTo cpos (starEach es X.env)).any (·.1)=false):
  PS X (.Raise (some (.Call (.Name x np) (e₀::es) [] cpos)) none pos) (Ayj ta C f dvs E):=by
 intro aa s σ H D I h;obtain⟨tl,N,nm,qn,bs,hdct,sn,sub,ab,col,dd,k0,k1,k2,k3,k5,mN,hC,hN,hni,T⟩:=Ath I.ok.mod.kin hx;rw[arm_exec_Raise];refine aB (qH (Atj (C:=C) (nm:=nm) (q:=qn) (N:=N) (bs:=bs) (tl:=tl) (hdct:=hdct) (sn:=sn) (sub:=sub) (ab:=ab) (col:=col) (dd:=dd) (k0:=k0) (k1:=k1) (k2:=k2) (k3:=k3) (k5:=k5) (newId:="ValueError.__new__") (T.hasType fZ.hasBase) (I.ok.hd hc) ?_));refine aB (jP (R5 I hg hm ?_ hdb));refine uY (h₀:=X.base) I.ok.mod.kin hk (thn (ha cpos aa s σ H _ I h) λus s1 ⟨vs,H1,I1,r,hz,n,u,hnu,q⟩=>⟨I1.kIn,?_⟩) he hpl;obtain⟨oI,lI,cI⟩:∃oI,X.K.lookup fI=some oI/\oI.cls=.type "function":=by
  have hft:Option.map (λo:Obj=>o.cls) (X.K.lookup fI)=some (.type "function"):=hft;cases z:X.K.lookup fI with
  |none=>rw[z] at hft;cases hft
  |some o=>rw[z] at hft;exact⟨o,rfl,bV hft⟩
 obtain⟨hh,g,dr,tk,os⟩:=s1;refine Ayg fZ (T.keeps I1.bk) (I1.bk _ _ hC) (hN.keeps I1.bk) hni (I1.kIn _ _ lI) cI (by simp only[jW];rw[<-r.length];exact hz) λh' e hmade=>?_
 have I2:=I1.madeX hmade;have r2:Vals (V.ref e::(vs ++ dvs)) (cL e::(us ++ ds)):=.cons rfl (r.append hd);have hsp:Ap5 C f (V.ref e::(vs ++ dvs)) (upd H1 e (Ln e C none)) (λv H2=>v=.non/\∃d,upd H1 e (Ln e C none) d=none/\H2=upd (upd (upd H1 e (Ln e C none)) e (Ln e C (some d))) d (.xd [(f,n)])) (λ_ _ _=>False):=⟨e,n,u,by rw[hnu],Bl,λd dn=>⟨rfl,d,dn,rfl⟩⟩
 have hlen:(cL e::us ++ ds).length=ps.length:=by
  have z:=r2.length;rw[F.len _ _ _ _ hsp] at z;exact z.symm
 refine rH (oZ (F.run _ X.stack _ _ ⟨cL e::us,[]⟩ (cL e::(us ++ ds)) _ _ _ (hr.make C us []) (I2.env0.make C us []) (hb _ (cL e::us) I2.kIn hlen) r2 hsp) λrr s' hq=>?_)
 match rr,hq with
 |.error e',hq=>obtain⟨_,_,_,_,_,_,_,z⟩:=hq;exact z.elim
 |.ok (.ret v),hq=>
  obtain⟨v',H',I3,rv,ev,d,dn,eH⟩:=I2.after hq;subst ev;refine⟨rv,aB (qH (aV ?_))⟩;have de:d≠e:=λz=>by rw[z,Bl] at dn;cases dn
  rw[Bb de] at dn;have he3:H' e=some (Ln e C (some d)):=by rw[eH,Bb de.symm,Bl]
  obtain⟨⟨t,q1⟩,_,_⟩:=(show Dr X.prog X.w H' s'.heap e (Ln e C (some d)) from I3.hok e _ he3);have h1e:H1 e=none:=by
   cases z:H1 e with
   |none=>rfl
   |some o=>
    obtain⟨ob,hob⟩:=(I1.hok e o z).there;rw[hmade.new] at hob;cases hob
  refine⟨e,some d,t,rfl,I3.bk _ _ hC,q1,hR aa σ H' s' e C (some d) I3 ?_ he3 λH'' hk' hn=>?_⟩
  .cases z:X.s₀.heap.get? e with
   |none=>rfl
   |some o=>
    obtain⟨o',z1⟩:=I1.base.there e o z (by rw[hex];simp)
    rw[hmade.new] at z1;cases z1
  .have eq:H''=upd H1 d (.xd [(f,n)]):=funext λb=>by
    by_cases hb':b=e
    .rw[hb',hn,Bb de.symm,h1e]
    .rw[hk' b hb',eH];by_cases hd':b=d
     .rw[hd',Bl,Bl]
     .rw[Bb hd',Bb hb',Bb hb',Bb hd']
   rw[eq];exact q d dn
section
def Aiy(H:Hp)(e:aQ):Hp:=λb=>if b=e then none else H b
def J3(h:b≠e):Aiy H e b=H b:=if_neg h
def Vi:Aiy H e e=none:=if_pos rfl
theorem Ace(h:Aiy H e b=some u):b≠e/\H b=some u:=by
 by_cases hb:b=e
 .rw[hb,Vi] at h;cases h
 .rw[J3 hb] at h;exact⟨hb,h⟩
theorem Inv.fly_held(I:Inv X aa σ H s)(bh:X.stack=X.env::X.outer)(hfr:X.env.frame=some X.env.locals)(hex:X.ex=[])(h0:X.s₀.heap.get? e=none)(he:H e=some (Ln e C od))(k:∀h'':dN,Fly X.prog X.w X.outer X.H₀ X.s₀ (Aiy H e) e (.ref C) { s with heap:=h'' }->Qn 0 h'' e od->Q () { s with heap:=h'' }):wpAny M X.A (leaving X.env (.ref e)) Q E s:=by
 obtain⟨⟨t,ho⟩,_,_⟩:=(show Dr X.prog X.w H s.heap e (Ln e C od) from I.hok e _ he);have hin:∀env∈X.stack,∀a,env.frame=some a->a∈e::frs X.stack:=λenv z a ha=>aM _ (gJ.mpr ⟨env,z,ha⟩);have ff:s.heap.FunFrames (gY s.heap (e::frs X.stack)) (X.env::X.outer):=by rw[<-bh];exact rG I.stack hin
 have noex:∀b,b∉X.ex:=λb z=>by rw[hex] at z;exact absurd z (by simp)
 have estk:e∉frs X.stack:=λz=>by
  have n:=I.stkFree e z;rw[he] at n;cases n
 have hid:(gY s.heap (e::frs X.stack)).get? e=none:=sJ _ aH;refine Ann (n:=0) (B:=gY s.heap (e::frs X.stack)) (a0:=.ref t) (by rw[I.ok.frames,bh]) ff hfr ho (λb o z=>pG _ z) hid rfl rfl rfl (λ_=>rfl) λh'' hL cx=>k h'' ?_ cx
 obtain⟨x1,⟨_,_,x2⟩,x3,x4⟩:=hL;have keepB:∀b o,s.heap.get? b=some o->b∉frs X.stack->b≠e->h''.get? b=some o:=λb o q n z=>x1 b o (eX _ q (by simp[n,z]))
 have frm:∀b o,s.heap.get? b=some o->b∈frs X.stack->∃sl,h''.get? b=some { o with slots:=sl }:=λb o q hb=>by
  obtain⟨_,o',q',nf⟩:=I.stack.mem hb;rw[q] at q';cases q';exact x4 b o q nf
 have ne0:∀{b:aQ} {o:Obj},X.s₀.heap.get? b=some o->b≠e:=λq z=>by rw[z,h0] at q;cases q
 refine⟨I.os,I.bare,⟨λb o q n hb _=>?_,λb o q n hb _=>?_,λb o q n _=>?_,λb o q _=>?_,λb xs q=>?_,λb o u q=>?_,λb ps q=>?_⟩,λa u q=>?_,h0,Vi,?_⟩
 .exact keepB b o (I.base.keep b o q n hb (noex b)) (I.notStk q hb) (ne0 q)
 .obtain⟨sl,q1⟩:=I.base.slot b o q n hb (noex b);obtain⟨sl',q2⟩:=frm b _ q1 (I.fsStk bh b hb);exact⟨sl',q2⟩
 .rw[J3 (ne0 q)];exact I.base.free b o q n (noex b)
 .obtain⟨o',q1⟩:=I.base.there b o q (noex b);by_cases hb:b∈frs X.stack
  .obtain⟨sl,q2⟩:=frm b o' q1 hb;exact⟨_,q2⟩
  .exact⟨o',keepB b o' q1 hb (ne0 q)⟩
 .have z:=I.base.tups b xs q;rw[J3 (λw=>by rw[w,he] at z;cases z)];exact z
 .have z:=I.base.frzs b o u q;rw[J3 (λw=>by rw[w,he] at z;cases z)];exact z
 .obtain⟨m,z⟩:=I.base.tbls b ps q;exact⟨m,by rw[J3 (λw=>by rw[w,he] at z;cases z)];exact z⟩
 .obtain⟨ha,q⟩:=Ace q;refine(I.hok a u q).stay (λb v hb z=>keepB b v z (λm=>?_) ?_) (λb z=>?_) λb xs z=>?_
  .have n:=I.stkFree b m;rcases hb with rfl|hb
   .rw[n] at q;cases q
   .rw[n] at hb;cases hb
  .rcases hb with rfl|hb
   .exact ha
   .rintro rfl;rw[he] at hb;cases hb
  .rw[J3 (λw=>by rw[w,he] at z;cases z)];exact z
  .rw[J3 (λw=>by rw[w,he] at z;cases z)];exact z
 .refine⟨_,_,⟨x1,hid,x2,x3⟩,λb o q n hb=>eX _ (I.base.keep b o q n hb (noex b)) (by simp[I.notStk q hb,ne0 q]),λb o q hb=>?_,λa u o q z=>?_⟩
  .obtain⟨o',q1⟩:=I.base.there b o q (noex b);exact⟨o',eX _ q1 (by simp[I.notStk q hb,ne0 q])⟩
  .obtain⟨ha,q⟩:=Ace q;obtain⟨ob,q1⟩:=(I.hok a u q).there;have q2:=eX (e::frs X.stack) q1 (by
    have n:a∉frs X.stack:=λm=>by
     have n:=I.stkFree a m;rw[n] at q;cases q
    simp[n,ha])
   have q3:=x1 a ob q2;have z:h''.get? a=some o:=z;rw[q3] at z;cases z;exact q2
end
section
theorem Alr{P:cP}{w:dO}{K:aF}{mg:Str->Option aJ}{base:dN}{N:List Str}{aj:Str}{sc:kW}{f:aQ}{cd:aJ}{A:fV}{outer:List Env}{s₀:aZ}{H₀:Hp}{E:XK}{cm:Bool}:Abl (Vd (CXo P w) P w K mg base N aj sc f cd A outer s₀ H₀ E cm) E:=λaa σ H s e C od I h0 he q=>
 I.fly_held rfl rfl rfl h0 he λh'' F cx=>⟨e,.ref C,Aiy H e,_,rfl,F,cx.ok,q _ (λb hb=>J3 hb) Vi⟩
end
structure XfK(K:aF)(C:aQ)(f:Str):Prop where
 k:Te K C
 hd:pY K C=true
 no:dH K (.ref C) f=some none
section
variable{prog:cP}{w:dO}{A:fV}{E:aJ->aZ->Prop}{h:dN}{g:Array sO}{d:aAf}{t:Nat}{os:zR}{a C:aQ}{o:Obj}{od:Option Obj}{K:aF}{f:Str}{v:aJ}
open PySem.W in
theorem Atk{tk:Tok}(KX:K.In h)(I:InstAt h a o C od)(hf:findObj K C od f=some (.value v))(hq:Q (.done (.ret v)) ⟨h,g,d,t,os⟩):
  wpAny (model prog w) A (tV.«object.__getattribute__» ⟨[.ref a,.str f tk],[]⟩) Q E ⟨h,g,d,t,os⟩:=by
 have L0:=I.type (M:=model prog w);have L1:=looks_find (M:=model prog w) KX I hf;refine aB (aV (aB (aV (aB (L0.at (aB (L1.at ?_)))))));exact aV hq
open PySem.W in
theorem Beq(KX:K.In h)(F1:Te K C)(I:InstAt h a o C od)(hf:findObj K C od f=some (.value v))(hh:handedIn v=true)(hq:Q v ⟨h,g,d,t+1,os⟩):
  wpAny (model prog w) A (getAttr (.ref a) f expr) Q E ⟨h,g,d,t,os⟩:=by
 have hx:=I.at_;have hc:=I.cls;have f3:=nF.ga.bind (.ref a);have hx0:(expr&&onTheHeap (gP "BaseException.__getattribute__"))=false:=by cases expr <;> rfl
 have hx2:(gP "BaseException.__getattribute__"==gP "object.__getattribute__")=false:=by decide +kernel
 have hx1:(onTheHeap (cL C)&&gP "BaseException.__getattribute__"==gP "object.__getattribute__")=false:=by rw[hx2];rfl
 have L1:Looks (model prog w) h (typeLookup (.ref C) "__getattribute__") (some (.builtin "BaseException.__getattribute__")):=looks_findIn KX F1.ga;have L2:Looks (model prog w) h (typeLookup (.ref C) "__getattr__") none:=looks_findIn KX F1.gn;unfold getAttr getAttrBy;refine aB (wpAny_mkText ?_)
 repeat (any_goals (first|assumption|(with_reducible refine dM hx ?_;rw[hc])|with_reducible refine L1.at ?_|with_reducible refine L2.at ?_|wp_step))
 refine jE nF.ga.plain xK (V2 KX F1 hx hc (Atk KX I hf ?_));show wpAny _ _ (handedOut v) _ _ _;rw[handedOut_of hh];exact aV hq
end
def Bi3(K:aF)(ta:TE)(f:Str):TE:=λσ H Q=>ta σ H λx H1=>∃a C n d v,x=.ref a/\H1 a=some (Ng a (.ref C) (some (n,some d)))/\H1 d=some (.xd [(f,v)])/\XfK K C f/\Q v H1
theorem Ayk(he:PE X e ta)(hb:attributeBase e f X.env (eval e X.env)=eval e X.env):PE X (.Attribute e f pos) (Bi3 X.K ta f):=by
 intro aa s σ H Q I h;refine Axj hb (thn (he aa s σ H _ I h) λu s1 zz=>?_);obtain⟨x,H1,I1,rx,z⟩:=zz;obtain⟨a,C,n,d,v,ex,ea,ed,xk,q⟩:=z
 .subst ex;obtain rfl:u=cL a:=rx;obtain⟨⟨⟨ob,vs,p1,p2,p3⟩,ok⟩,_,_⟩:=(show Dr X.prog X.w H1 s1.heap a (Ng a (.ref C) (some (n,some d))) from I1.hok a _ ea);obtain⟨ob',vs',z1,z2,_,z4⟩:=ok n (some d) rfl;rw[p1] at z1;cases z1;obtain⟨mA,hns,hr⟩:=(show Dr X.prog X.w H1 s1.heap d (.xd [(f,v)]) from I1.hok d _ ed);obtain⟨od,ho,hl⟩:=Aey hns;obtain⟨u',hu,ru⟩:=Aa4.some_of (v:=v) (o:=mA f) (by
   have z:=hr f;rw[eV,beq_self_eq_true] at z;exact z)
  have J:xV s1.heap a ob C (some od):=⟨p1,p2,by unfold PySem.W.notCls;rw[p3],by rw[z4];exact ho⟩
  obtain⟨hh,g,dr,tk,os⟩:=s1;refine Beq I1.kIn xk.k J (PySem.W.findObj_own xk.hd xk.no rfl (by rw[hl,hu])) (Apj ru) ⟨v,H1,I1.tok _,ru,q⟩
end L2
namespace HT
open PySem PySem.Spec PyProof.Rows L2
section
theorem cat_tup0{t b:aQ}{ws:List aJ}{Q:aJ->aZ->Prop}(ht:vH s.heap t #[])(hb:vH s.heap b ws.toArray)(h:Q (.ref b) s):wpAny (model prog w) A (binaryOp .Add (.ref t) (.ref b)) Q E s:=by
 obtain⟨⟨cls,dd,data,sl⟩,ho,hc,n,hd⟩:=id ht;obtain⟨⟨cls2,dd2,data2,sl2⟩,ho2,hc2,n2,hd2⟩:=id hb;simp only at hc hd hc2 hd2;subst hc hd hc2 hd2;exact vO ⟨_,ho,rfl⟩ ⟨_,ho2,rfl⟩ qP uE nA mX (mL _ _)
  (tuple_addW0 t b #[] ws.toArray n n2 dd dd2 sl sl2 rfl) ⟨ho,ho2,h⟩
theorem Als(n:Nat):dY ((n:Int) - 1) (-1) (-1)=n:=by
 unfold dY;rw[if_neg (by decide),show (-(-1):Int)=1 from rfl,nC]
 split <;> omega
theorem Xe{t:Tok}{n:Nat}{Q:Int×Int×Nat->aZ->Prop}(hs:s.heap.IsSliceOf sl .none .none (.int (-1) t))(h:Q ((n:Int) - 1,-1,n) s):
  wpAny (model prog w) A (iT (.ref sl) (pure (n:Int))) Q E s:=by
 obtain⟨os,hos,hcs,hds⟩:=id hs;unfold iT pR;refine aB (aB (dF hos hds (x:=.none) rfl (aB (dF hos hds (x:=.none) rfl (aB (dF hos hds (x:=.int (-1) t) rfl (aV ?_)))))));refine aB (Ve (.int (-1) t) ?_);show wpAny _ _ (if ((-1:Int)==0)=true then _ else _) _ _ s
 rw[if_neg (by decide)]
 refine aB (pK (aB (pK (aB (aV ?_)))));show wpAny _ _ (pure ((n:Int) - 1,(-1:Int),dY ((n:Int) - 1) (-1) (-1))) _ _ s;rw[Als];exact aV h
theorem Aiz{α β:Type}{f g:α->Option β}:∀{l:List α},(∀x∈l,f x=g x)->l.filterMap f=l.filterMap g
 |[],_=>rfl
 |x::l,h=>by rw[jK,jK,h x aH,Aiz λy hy=>h y (aM _ hy)]
theorem Atl(xs:Array aJ):((bR xs.size).filterMap λ(m:Nat)=>xs[((xs.size:Int) - 1+(m:Int) * (-1)).toNat]?).toArray=xs.toList.reverse.toArray:=by
 have h:=Aig xs.toList.reverse.toArray 0 xs.size;rw[iZ,iI (by simp)] at h
 rw[<-h]
 congr 1
 apply Aiz;intro m hm;have hm:=iR.mp hm;rw[show ((0:Nat):Int)+(m:Int) * 1=(m:Int) by omega,cV,show xs.toList.reverse.toArray[m]?=xs.toList.reverse[m]? from List.getElem?_toArray ..,List.getElem?_reverse (by simpa using hm),cN,<-jA]
 congr 1
 omega
theorem getItem_rev{tk:Tok}(ht:vH s.heap t items)(hs:s.heap.IsSliceOf sl .none .none (.int (-1) tk))(h:Q (.ref s.heap.objs.size) { s with heap:=s.heap.push { cls:=.type "tuple",data:=.seq items.toList.reverse.toArray } })(hsz:items.size<=sizeLine):wpAny (model prog w) A (getItem (.ref t) (.ref sl)) Q E s:=by
 have htake:sizeOk (.seq items.toList.reverse.toArray):=by
  show items.toList.reverse.toArray.size<=sizeLine;simpa using hsz
 obtain⟨os,hos,hcs,hds⟩:=id hs;have hTs:s.TypeIs (.ref sl) "slice":=⟨os,hos,hcs⟩;unfold getItem
 try with_reducible refine jZ ?_
 first|refine aB (aV ?_)|skip
 refine aB (qC ht.typeIs (by decide) ?_)
 refine aB (fC (name:=fX "__getitem__") ht.typeIs cM
  (fQ cM ht.typeIs oO ?_ (pL _ _)))
 show wpAny _ _ (lK (.ref t) >>= _) _ _ s;refine aB (tupleItemsOf_ ht (aB (oY hTs ?_)));rw[if_pos (by decide)]
 refine aB (Xe (n:=items.size) hs ?_);show wpAny _ _ (if (((items.size:Int) - 1)==0&&(-1:Int)==1&&items.size==items.size)=true then _ else _) _ _ s
 rw[if_neg (by simp),Atl]
 first
  |exact aB (m:=dR _) (dI (aV ⟨_,rfl,aV h⟩) htake)
  |exact aB (m:=dR _) (dI (aB (aV (aV ⟨_,rfl,aV h⟩))) htake)
  |exact aB (aB (m:=dR _) (dI (aV (aV ⟨_,rfl,aV h⟩)) htake))
  |exact aB (aB (m:=dR _) (dI (aV ⟨_,rfl,aV h⟩) htake))
end
end HT
namespace L2
open PySem PySem.Spec PyProof.Rows
section
def Bb7(K:aF):R2:=λx y H Q=>∃a b ys,x=.ref a/\y=.ref b/\SqT K H a []/\SqT K H b ys/\Q (.ref b) H
theorem Ayl:OpR X (binaryOp .Add) (Bb7 X.K):=by
 intro aa s σ H x y v u Q I rx ry h;obtain⟨a,b,ys,rfl,rfl,ha,hb,q⟩:=h;cases rx;cases ry;obtain⟨its,r1,p1,_⟩:=I.tuple ha;obtain⟨its2,r2,p2,_⟩:=I.tuple hb;cases r1;exact HT.cat_tup0 p1 p2 ⟨.ref b,H,I,rfl,q⟩
theorem Ber:OpR X (compareOp .Is) (λx y H Q=>∃b c,x=.bl b/\y=.bl c/\Q (.bl (b==c)) H):=by
 intro aa s σ H x y v u Q I rx ry h;obtain⟨b,c,rfl,rfl,q⟩:=h;cases rx;cases ry;exact wpAny_is_plain rfl ⟨.bl (b==c),H,I,by cases b <;> cases c <;> rfl,q⟩
def Blg(K:aF)(te:TE)(ts:TO):TE:=λσ H Q=>te σ H λx H1=>ts σ H1 λi H2=>i=some (-1)/\∃a xs,x=.ref a/\SqT K H2 a xs/\∀p,H2 p=none->Q (.ref p) (upd H2 p (.tup xs.reverse))
theorem Atm(r:Vals xs us):Vals xs.reverse us.reverse:=by
 induction r with
 |nil=>exact .nil
 |cons h r ih=>rw[lB,lB];exact ih.append (.cons h .nil)
theorem Bes{st:cA}{te:TE}{ts:TO}{p2 pos:Pos}(he:PE X e te)(hst:PO X (some st) ts):PE X (.Subscript e (.Slice none none (some st) p2) pos) (Blg X.K te ts):=by
 intro aa s σ H Q I h;refine xW (thn (he aa s σ H _ I h) λv s1 zz=>?_);obtain⟨x,H1,I1,r1,q1⟩:=zz;refine wpAny_Slice ?_;rw[uF];refine aV (aV (thn (hst aa s1 σ H1 _ I1 q1) λvs s3 zz=>?_));obtain⟨i,H3,I3,ps,ei,a,xs,ex,ha,q3⟩:=zz;subst ei ex;cases r1;cases ps with|int i tk=>
 have I4:Inv X aa σ H3 { s3 with heap:=s3.heap.push { cls:=.type "slice",data:=.fields #[.none,.none,.int (-1) tk] } }:=I3.kept (t':=s3.toks) λb ob q=>aP _ q
 obtain⟨its,r,ht,hz⟩:=I4.tuple ha;show wpAny (model X.prog X.w) X.A (subscriptTail e (.Slice none none (some st) p2) (.ref a) (.ref s3.heap.objs.size)) (EP X aa σ Q) X.xe { s3 with heap:=s3.heap.push { cls:=.type "slice",data:=.fields #[.none,.none,.int (-1) tk] } }
 refine xX (ops:=[.ref a,.ref s3.heap.objs.size]) ht.typeIs cM.lookup (HT.getItem_rev ht (uU ..) ?_ (by rw[bD,<-r.length];exact hz)) (by with_unfolding_all rfl)
 refine⟨.ref _,_,I4.laid (o:=.tup xs.reverse) (λb ob q=>aP _ q) (aN _) ?_,rfl,q3 _ (I4.hok.fresh (aN _))⟩;exact⟨by rw[oR];exact hz,_,Atm r,wK _ _⟩
theorem Ap7(hg:X.A.guards=some [])(hu:X.A.units+64 < cLine):Gy X (.builtin "repr") (λxs H Q=>∃x d,xs=[x]/\DV H x d/\d.showable=true/\d.hasDict=false/\d.depth<=40/\d.shown.length<=sizeLine/\Q (.str d.shown) H):=by
 intro aa s σ H xs us Q I r h;obtain⟨x,d,rfl,hd,h1,h2,h3,h4,q⟩:=h;obtain⟨u,rfl,ru⟩:=vals1 r;have out:∀(h':dN)(t tk:Tok),(∀b o,s.heap.get? b=some o->h'.get? b=some o)->EP X aa σ Q (.str d.shown t) { s with heap:=h',toks:=tk }:=λh' t tk k=>⟨.str d.shown,H,I.kept k,⟨t,rfl⟩,q⟩
 cases hd with
 |non=>cases ru;exact P.repr_of_none (out s.heap _ _ λ_ _ e=>e)
 |bl b=>cases ru;exact P.repr_of_bool (out s.heap _ _ λ_ _ e=>e)
 |int i=>obtain⟨t,rfl⟩:=ru;exact P.repr_of_int (of_decide_eq_true h1) (out s.heap _ _ λ_ _ e=>e)
 |str z=>obtain⟨t,rfl⟩:=ru;exact P.repr_of_str (out s.heap _ _ λ_ _ e=>e) (hsz:=h4)
 |lst q1 q2=>
  obtain⟨as,ra⟩:=(DV.lst q1 q2).reads I ru;cases ru;exact yR ra h1 (λz=>by rw[h2] at z;cases z) hg (by omega) (λ_ _ e=>e) out h4
 |tup q1 q2=>
  obtain⟨as,ra⟩:=(DV.tup q1 q2).reads I ru;cases ru;exact yR ra h1 (λz=>by rw[h2] at z;cases z) hg (by omega) (λ_ _ e=>e) out h4
 |dct _=>cases h2
end
end L2
namespace D
open PySem PySem.Spec PyProof.Rows L2
inductive W where
 |non
 |bl (b:Bool)
 |int (i:Int)
 |str (x:Str)
 |tup (ws:List W)
 |ref (n:Nat)
 |scr
 |ty (n:String)
 |cls (c:Nat)
 |exn (c:Nat) (w:W)
inductive Cell where
 |lst (ws:List W)
 |dct (kvs:List (Key×W))
abbrev Store:=List Cell
inductive R(α:Type) where
 |ok (a:α) (S:Store)
 |exc (c:Nat×W) (S:Store)
 |bad
abbrev M(α:Type):=Store->R α
@[inline] def M.ret {α:Type} (a:α):M α:=λS=>.ok a S
def M.bind{α β:Type}(m:M α)(f:α->M β):M β:=λS=>match m S with
 |.ok a S1=>f a S1
 |.exc c S1=>.exc c S1
 |.bad=>.bad
instance:Monad M where
 pure:=M.ret
 bind:=M.bind
def bad{α:Type}:M α:=λ_=>.bad
structure Th where
 K:aF
 cl:Nat->aQ
 xf:Nat->Option Str
 l:aQ
 ns:List Int
 pl:Nat->Bool
def Scr(Θ:Th)(H:Hp):Prop:=(∃o,H Θ.l=some (.frz o (.lst (Θ.ns.map V.int))))\/
 ∃(o:Obj)(its:Array aJ)(n:Nat),Θ.K.lookup Θ.l=some o/\o.cls=.type "list"/\o.dict=none/\o.data=.seq its n/\its.size<=sizeLine/\Vals (Θ.ns.map V.int) its.toList
theorem Scr.sq(h:Scr Θ H):SqL Θ.K H Θ.l (Θ.ns.map V.int):=by
 rcases h with ⟨o,h⟩|h
 .exact .inl (.inr ⟨o,h⟩)
 .exact .inr h
mutual
inductive RV(Θ:Th)(Y:List aQ)(H:Hp):W->V->Prop
 |non:RV Θ Y H .non .non
 |bl (b:Bool):RV Θ Y H (.bl b) (.bl b)
 |int (i:Int):RV Θ Y H (.int i) (.int i)
 |str (x:Str):RV Θ Y H (.str x) (.str x)
 |tup {a:aQ} {ws:List W} {vs:List V}:H a=some (.tup vs)->RVs Θ Y H ws vs->RV Θ Y H (.tup ws) (.ref a)
 |ref {n:Nat} {a:aQ}:Y[n]?=some a->RV Θ Y H (.ref n) (.ref a)
 |scr:Scr Θ H->RV Θ Y H .scr (.ref Θ.l)
 |ty (n:String):RV Θ Y H (.ty n) (.ty n)
 |cls (c:Nat):RV Θ Y H (.cls c) (.ref (Θ.cl c))
 |exn {c:Nat} {w:W} {a:aQ} {o:Option (Nat×Option aQ)}:Θ.xf c=none->a∉Y->H a=some (Ng a (.ref (Θ.cl c)) o)->RV Θ Y H (.exn c w) (.ref a)
 |exf {c:Nat} {w:W} {v:V} {a d:aQ} {n:Str}:Θ.xf c=some n->a∉Y->d∉Y->H a=some (Ng a (.ref (Θ.cl c)) (some (1,some d)))->H d=some (.xd [(n,v)])->RV Θ Y H w v->RV Θ Y H (.exn c w) (.ref a)
inductive RVs(Θ:Th)(Y:List aQ)(H:Hp):List W->List V->Prop
 |nil:RVs Θ Y H [] []
 |cons {w:W} {v:V} {ws:List W} {vs:List V}:RV Θ Y H w v->RVs Θ Y H ws vs->RVs Θ Y H (w::ws) (v::vs)
end
structure Ds(Y Y':List aQ)(H H':Hp):Prop where
 t:∀b xs,H b=some (.tup xs)->H' b=some (.tup xs)
 f:∀b o u,H b=some (.frz o u)->H' b=some (.frz o u)
 k:∀b o,H b=some o->b∉Y->H' b=some o
 n:∀b,b∈Y'->b∈Y\/H b=none
def Ds.refl(Y:List aQ)(H:Hp):Ds Y Y H H:=⟨λ_ _ q=>q,λ_ _ _ q=>q,λ_ _ q _=>q,λ_ q=>.inl q⟩
theorem Ds.trans(a:Ds Y Y1 H H1)(b:Ds Y1 Y2 H1 H2):Ds Y Y2 H H2 where
 t:=λc xs q=>b.t c xs (a.t c xs q)
 f:=λc o u q=>b.f c o u (a.f c o u q)
 k:=λc o q m=>b.k c o (a.k c o q m) λz=>by
  rcases a.n c z with z|z
  .exact m z
  .rw[q] at z;cases z
 n:=λc m=>by
  rcases b.n c m with z|z
  .exact a.n c z
  .by_cases hc:c∈Y
   .exact .inl hc
   .refine .inr ?_;cases e:H c with
    |none=>rfl
    |some o=>rw[a.k c o e hc] at z;cases z
theorem Ds.out(t:Ds Y Y' H H')(h:H a=some o)(m:a∉Y):a∉Y':=λz=>by
 rcases t.n a z with q|q
 .exact m q
 .rw[h] at q;cases q
theorem Scr.mono(t:Ds Y Y' H H')(h:Scr Θ H):Scr Θ H':=by
 rcases h with ⟨o,h⟩|h
 .exact .inl ⟨o,t.f _ _ _ h⟩
 .exact .inr h
def Acf:HO->Bool
 |.lst _=>true
 |.dK _=>true
 |_=>false
structure Mv(Θ:Th)(Y Y':List aQ)(H H':Hp):Prop where
 i:∀(n:Nat) a,Y[n]?=some a->Y'[n]?=some a
 t:∀a vs,H a=some (.tup vs)->H' a=some (.tup vs)
 s:Scr Θ H->Scr Θ H'
 k:∀a o,a∉Y->H a=some o->Acf o=false->a∉Y'/\H' a=some o
mutual
theorem RV.map{Θ:Th}{Y Y':List aQ}{H H':Hp}(m:Mv Θ Y Y' H H'):∀{w:W} {v:V},RV Θ Y H w v->RV Θ Y' H' w v
 |_,_,.non=>.non
 |_,_,.bl b=>.bl b
 |_,_,.int i=>.int i
 |_,_,.str x=>.str x
 |_,_,.tup h r=>.tup (m.t _ _ h) (RVs.map m r)
 |_,_,.scr h=>.scr (m.s h)
 |_,_,.ty n=>.ty n
 |_,_,.cls c=>.cls c
 |_,_,.exn x o h=>.exn x (m.k _ _ o h rfl).1 (m.k _ _ o h rfl).2
 |_,_,.exf x o o' h h' r=>.exf x (m.k _ _ o h rfl).1 (m.k _ _ o' h' rfl).1 (m.k _ _ o h rfl).2 (m.k _ _ o' h' rfl).2 (RV.map m r)
 |_,_,.ref h=>.ref (m.i _ _ h)
theorem RVs.map{Θ:Th}{Y Y':List aQ}{H H':Hp}(m:Mv Θ Y Y' H H'):∀{ws:List W} {vs:List V},RVs Θ Y H ws vs->RVs Θ Y' H' ws vs
 |_,_,.nil=>.nil
 |_,_,.cons h r=>.cons (RV.map m h) (RVs.map m r)
end
theorem Atn{Y Y':List aQ}(p:Y <+: Y')(n:Nat)(a:aQ)(h:Y[n]?=some a):Y'[n]?=some a:=by
 obtain⟨r,rfl⟩:=p;obtain⟨hl,e⟩:=aL.mp h;rw[aY hl];exact h
def mvT{Θ:Th}{Y Y':List aQ}{H H':Hp}(p:Y <+: Y')(t:Ds Y Y' H H'):Mv Θ Y Y' H H':=⟨Atn p,t.t,λh=>h.mono t,λ_ _ m h _=>⟨t.out h m,t.k _ _ h m⟩⟩
def RV.mono{Θ:Th}{Y Y':List aQ}{H H':Hp}(p:Y <+: Y')(t:Ds Y Y' H H'){w:W}{v:V}(r:RV Θ Y H w v):RV Θ Y' H' w v:=r.map (mvT p t)
def RVs.mono{Θ:Th}{Y Y':List aQ}{H H':Hp}(p:Y <+: Y')(t:Ds Y Y' H H'){ws:List W}{vs:List V}(r:RVs Θ Y H ws vs):RVs Θ Y' H' ws vs:=r.map (mvT p t)
theorem RVs.length:∀{ws:List W} {vs:List V},RVs Θ Y H ws vs->ws.length=vs.length
 |_,_,.nil=>rfl
 |_,_,.cons _ r=>by rw[aU,aU,RVs.length r]
theorem RVs.get:∀{ws:List W} {vs:List V} {i:Nat} {w:W},RVs Θ Y H ws vs->ws[i]?=some w->∃v,vs[i]?=some v/\RV Θ Y H w v
 |_,_,_,_,.nil,e=>by simp at e
 |_,_,0,_,.cons h _,e=>by simp at e;subst e;exact⟨_,rfl,h⟩
 |_,_,i+1,w,.cons _ r,e=>by
  obtain⟨v,h1,h2⟩:=RVs.get (i:=i) (w:=w) r (by simpa using e)
  exact⟨v,by simpa using h1,h2⟩
theorem RVs.append{ws us:List W}{vs zs:List V}(r:RVs Θ Y H ws vs)(s:RVs Θ Y H us zs):RVs Θ Y H (ws ++ us) (vs ++ zs):=by
 induction vs generalizing ws with
 |nil=>cases r;exact s
 |cons v vs ih=>cases r with|cons h r=>exact .cons h (ih r)
def RKV(Θ:Th)(Y:List aQ)(H:Hp):List (Key×W)->List (Key×V)->Prop:=qD λp q=>p.1=q.1/\RV Θ Y H p.2 q.2
def Mx(Θ:Th)(Y:List aQ)(H:Hp)(a:aQ):Cell->Prop
 |.lst ws=>∃vs,H a=some (.lst vs)/\RVs Θ Y H ws vs
 |.dct kvs=>∃vs,H a=some (.dK vs)/\RKV Θ Y H kvs vs
structure Rep(Θ:Th)(Y:List aQ)(S:Store)(H:Hp):Prop where
 len:Y.length=S.length
 nd:Y.Nodup
 at_:∀(n:Nat)(a:aQ)(c:Cell),Y[n]?=some a->S[n]?=some c->Mx Θ Y H a c
def RSl(Θ:Th)(Y:List aQ)(H:Hp):List (Option W)->List (Option V)->Prop:=λZ σ=>∀(i:Nat)(w:W),Z[i]?=some (some w)->∃v,σ[i]?=some (some v)/\RV Θ Y H w v
theorem RSl.mono(p:Y <+: Y')(t:Ds Y Y' H H')(h:RSl Θ Y H Z σ):RSl Θ Y' H' Z σ:=λi w e=>by
 obtain⟨v,h1,h2⟩:=h i w e;exact⟨v,h1,h2.mono p t⟩
abbrev De:=List (Option W)
section
variable(Θ:Th)
def XP(Y:List aQ)(H:Hp)(c:Nat×W)(E:XK):Prop:=match Θ.xf c.1 with
 |none=>E (.ref (Θ.cl c.1)) (some (if Θ.pl c.1 then 0 else 1,none)) H
 |some n=>∀d v,d∉Y->H d=some (.xd [(n,v)])->RV Θ Y H c.2 v->E (.ref (Θ.cl c.1)) (some (1,some d)) H
def Ay{α β:Type}(Rel:List aQ->Hp->α->β->Prop)(Y:List aQ)(H:Hp)(r:R α)(Q:β->Hp->Prop)(E:XK):Prop:=match r with
 |.ok w S'=>∀Y' H' v,Y <+: Y'->Ds Y Y' H H'->Rep Θ Y' S' H'->Rel Y' H' w v->Q v H'
 |.exc c S'=>∀Y' H',Y <+: Y'->Ds Y Y' H H'->Rep Θ Y' S' H'->XP Θ Y' H' c E
 |.bad=>False
def tF(E:L2.St->XK)(f:De->M W):TE:=λσ H Q=>∃Y S Z,Rep Θ Y S H/\RSl Θ Y H Z σ/\Ay Θ (RV Θ) Y H (f Z S) Q (E σ)
def tFs(E:L2.St->XK)(f:De->M (List W)):TA:=λσ H Q=>∃Y S Z,Rep Θ Y S H/\RSl Θ Y H Z σ/\Ay Θ (RVs Θ) Y H (f Z S) Q (E σ)
def tFb(E:L2.St->XK)(f:De->M Bool):TT:=λσ H Q=>∃Y S Z,Rep Θ Y S H/\RSl Θ Y H Z σ/\Ay Θ (λ_ _ a b=>a=b) Y H (f Z S) Q (E σ)
def spF(g:List W->M W):Sp:=λvs H Q E=>∃Y S ws,Rep Θ Y S H/\RVs Θ Y H ws vs/\Ay Θ (RV Θ) Y H (g ws S) Q E
end
section
def WE.weak(h:WE X e t)(k:∀σ H Q,t' σ H Q->t σ H Q):WE X e t':=⟨λaa s σ H Q I q=>h.un aa s σ H Q I (k σ H Q q)⟩
def WA.weak(h:WA X es t)(k:∀σ H Q,t' σ H Q->t σ H Q):WA X es t':=⟨λpos aa s σ H Q I q=>h.un pos aa s σ H Q I (k σ H Q q)⟩
def WT.weak(h:WT X e t)(k:∀σ H Q,t' σ H Q->t σ H Q):WT X e t':=⟨λaa s σ H Q I q=>h.un aa s σ H Q I (k σ H Q q)⟩
theorem Ay.shift{α β:Type}{Rel:List aQ->Hp->α->β->Prop}{Q:β->Hp->Prop}:∀{r:R α},Ay Θ Rel Y H r Q E->Y <+: Y1->Ds Y Y1 H H1->Ay Θ Rel Y1 H1 r Q E
 |.ok _ _,h,p,t=>λY2 H2 v p2 t2 r2 q2=>h Y2 H2 v (p.trans p2) (t.trans t2) r2 q2
 |.exc _ _,h,p,t=>λY2 H2 p2 t2 r2=>h Y2 H2 (p.trans p2) (t.trans t2) r2
 |.bad,h,_,_=>h
theorem Ay.seq{α β γ Z':Type}{Rel:List aQ->Hp->α->β->Prop}{Rel2:List aQ->Hp->γ->Z'->Prop}{Y:List aQ}{H:Hp}{m:M α}{f:α->M γ}{S:Store}{Q:Z'->Hp->Prop}{E:XK}(h:Ay Θ Rel2 Y H ((m >>= f) S) Q E):
  Ay Θ Rel Y H (m S) (λv H1=>∃Y1 S1 w,Y <+: Y1/\Ds Y Y1 H H1/\Rep Θ Y1 S1 H1/\Rel Y1 H1 w v/\Ay Θ Rel2 Y1 H1 (f w S1) Q E) E:=by
 have h:Ay Θ Rel2 Y H (M.bind m f S) Q E:=h;unfold M.bind at h;cases e:m S with
 |bad=>rw[e] at h;exact h
 |exc c S1=>rw[e] at h;exact h
 |ok w S1=>
  rw[e] at h;exact λY1 H1 v p t r rw'=>⟨Y1,S1,w,p,t,r,rw',Ay.shift h p t⟩
theorem Ay.now{α β:Type}{Rel:List aQ->Hp->α->β->Prop}{w:α}{v:β}{Q:β->Hp->Prop}(h:Ay Θ Rel Y H ((pure w:M α) S) Q E)(r:Rep Θ Y S H)(q:Rel Y H w v):Q v H:=
 h Y H v (aX Y) (Ds.refl Y H) r q
theorem Ay.mono{α β:Type}{Rel:List aQ->Hp->α->β->Prop}{r:R α}{Q Q':β->Hp->Prop}(h:Ay Θ Rel Y H r Q E)(k:∀v H',Q v H'->Q' v H'):Ay Θ Rel Y H r Q' E:=by
 cases r with
 |ok w S'=>exact λY' H' v p t r q=>k v H' (h Y' H' v p t r q)
 |exc c S'=>exact h
 |bad=>exact h
theorem Ti{E:L2.St->XK}{f g:De->M W}{op:W->W->M W}{r:R2}(hop:∀Y S H x y vx vy Q E,Rep Θ Y S H->RV Θ Y H x vx->RV Θ Y H y vy->Ay Θ (RV Θ) Y H (op x y S) Q E->r vx vy H Q):
  ∀σ H Q,tF Θ E (λZ=>do let x<-f Z;let y<-g Z;op x y) σ H Q->tOp r (tF Θ E f) (tF Θ E g) σ H Q:=by
 rintro σ H Q ⟨Y,S,Z,R,sl,h⟩;refine⟨Y,S,Z,R,sl,(Ay.seq (Rel:=RV Θ) h).mono ?_⟩;rintro vx H1 ⟨Y1,S1,x,p1,t1,R1,rx,h1⟩;refine⟨Y1,S1,Z,R1,sl.mono p1 t1,(Ay.seq (Rel:=RV Θ) h1).mono ?_⟩;rintro vy H2 ⟨Y2,S2,y,p2,t2,R2,ry,h2⟩;exact hop Y2 S2 H2 x y vx vy Q (E σ) R2 (rx.mono p2 t2) ry h2
end
section
theorem Mx.there(h:Mx Θ Y H a c):∃o,H a=some o:=by
 cases c with
 |lst ws=>obtain⟨vs,h,_⟩:=h;exact⟨_,h⟩
 |dct ws=>obtain⟨vs,h,_⟩:=h;exact⟨_,h⟩
theorem Rep.get(R:Rep Θ Y S H){n:Nat}(h:S[n]?=some c):∃a,Y[n]?=some a/\Mx Θ Y H a c:=by
 have hl:n < Y.length:=by rw[R.len];exact(aL.mp h).1
 exact⟨Y[n],aW hl,R.at_ n _ c (aW hl) h⟩
theorem Rep.tracked(R:Rep Θ Y S H)(h:a∈Y):∃o,H a=some o:=by
 obtain⟨n,hn,rfl⟩:=tZ h;have hs:n < S.length:=by rw[<-R.len];exact hn
 exact(R.at_ n _ _ (aW hn) (aW hs)).there
def Paired.imp2{α β:Type}{F G:α->β->Prop}(f:∀a b,F a b->G a b){l:List α}{m:List β}(r:qD F l m):qD G l m:=L2.Paired.mapP r f
theorem Mx.mono(p:Y <+: Y')(t:Ds Y Y' H H')(k:H' a=H a)(h:Mx Θ Y H a c):Mx Θ Y' H' a c:=by
 cases c with
 |lst ws=>obtain⟨vs,h,r⟩:=h;exact⟨vs,k.trans h,r.mono p t⟩
 |dct ws=>obtain⟨vs,h,r⟩:=h;exact⟨vs,k.trans h,Paired.imp2 (λ_ _ z=>⟨z.1,z.2.mono p t⟩) r⟩
def Aym{Y:List aQ}{p:aQ}:∀b,b∈Y ++ [p]->b∈Y\/b=p:=λ_ h=>(bW.mp h).imp id bA.mp
theorem Cj(h:H p=none)(q:∀b,b∈Y'->b∈Y\/b=p:=by first|exact λ_=>.inl|exact Aym):Ds Y Y' H (upd H p o) where
 t:=λb xs q=>by rw[Bb (Df q h)];exact q
 f:=λb o u q=>by rw[Bb (Df q h)];exact q
 k:=λb o q _=>by rw[Bb (Df q h)];exact q
 n:=λb m=>by
  rcases q b m with z|z
  .exact .inl z
  .subst z;exact .inr h
theorem Rep.beside(R:Rep Θ Y S H)(h:H p=none):Rep Θ Y S (upd H p o) where
 len:=R.len
 nd:=R.nd
 at_:=λn a c e1 e2=>by
  have q:=R.at_ n a c e1 e2;obtain⟨u,hu⟩:=q.there;exact q.mono (aX Y) (Cj h) (Bb (Df hu h))
theorem Rep.alloc(R:Rep Θ Y S H)(h:H p=none)(q:Mx Θ (Y ++ [p]) (upd H p o) p c):Rep Θ (Y ++ [p]) (S ++ [c]) (upd H p o) where
 len:=by rw[aK,aK,R.len];rfl
 nd:=by
  rw[nJ];refine⟨R.nd,by simp,λa ha b hb=>?_⟩
  obtain rfl:b=p:=by simpa using hb
  obtain⟨u,hu⟩:=R.tracked ha;exact Df hu h
 at_:=λn a d e1 e2=>by
  by_cases hn:n < Y.length
  .rw[aY hn] at e1;rw[aY (by rw[<-R.len];exact hn)] at e2
   have z:=R.at_ n a d e1 e2;obtain⟨u,hu⟩:=z.there;exact z.mono (bZ _ _) (Cj h) (Bb (Df hu h))
  .have hl:=(aL.mp e1).1;rw[aK,cC] at hl;obtain rfl:n=Y.length:=by omega
   rw[bC (aN _),eG] at e1;rw[R.len,bC (aN _),eG] at e2;obtain rfl:p=a:=by simpa using e1
   obtain rfl:c=d:=by simpa using e2
   exact q
theorem Kc:(Y ++ [p])[Y.length]?=some p:=by simp
theorem Rep.write{n:Nat}(R:Rep Θ Y S H)(hn:Y[n]?=some a)(t:Ds Y Y H (upd H a o))(q:Mx Θ Y (upd H a o) a c):Rep Θ Y (S.set n c) (upd H a o) where
 len:=by rw[fD];exact R.len
 nd:=R.nd
 at_:=λm b d e1 e2=>by
  by_cases hm:m=n
  .subst hm;rw[hn] at e1;cases e1;have hl:m < S.length:=by rw[<-R.len];exact(aL.mp hn).1
   rw[cQ hl] at e2;cases e2;exact q
  .rw[cJ (gO hm)] at e2;have ne:b≠a:=by
    rintro rfl;obtain⟨h1,e1'⟩:=aL.mp e1;obtain⟨h2,e2'⟩:=aL.mp hn;exact hm ((wD R.nd).mp (e1'.trans e2'.symm))
   exact(R.at_ m b d e1 e2).mono (aX Y) t (Bb ne)
theorem Acg{n:Nat}(hn:Y[n]?=some a)(h:H a=some u)(n1:∀xs,u≠.tup xs)(n2:∀ob x,u≠.frz ob x):Ds Y Y H (upd H a o) where
 k:=λb o q m=>by
  rw[Bb (by rintro rfl;exact m (gU hn))]
  exact q
 n:=λb m=>.inl m
 t:=λb xs q=>by
  rw[Bb (by rintro rfl;rw[h] at q;exact n1 xs (bV q))]
  exact q
 f:=λb ob x q=>by
  rw[Bb (by rintro rfl;rw[h] at q;exact n2 ob x (bV q))]
  exact q
end
def big:Nat:=1000000
theorem Jl{n:Nat}(h:n<=big):n<=sizeLine:=aD h (by decide)
def Ck(ws:List W):M W:=λS=>if ws.length<=big then .ok (.ref S.length) (S ++ [.lst ws]) else .bad
def Ag1(ws:List W):M W:=if ws.length<=big then pure (.tup ws) else bad
noncomputable def addW:W->W->M W
 |.int i,.int j=>pure (.int (i+j))
 |.str x,.str y=>if x.length+y.length<=big then pure (.str (x ++ y)) else bad
 |.tup xs,.tup ys=>if xs.isEmpty then pure (.tup ys) else if xs.length+ys.length<=big then pure (.tup (xs ++ ys)) else bad
 |.ref n,.ref m=>λS=>match S[n]?,S[m]? with
  |some (.lst xs),some (.lst ys)=>if xs.length+ys.length<=big then .ok (.ref S.length) (S ++ [.lst (xs ++ ys)]) else .bad
  |_,_=>.bad
 |_,_=>bad
def small(i:Int):Bool:=decide (-(2 ^ 64) < i)&&decide (i < 2 ^ 64)
noncomputable def Bet:W->W->M W
 |.int i,.int j=>pure (.int (i - j))
 |_,_=>bad
noncomputable def Ag2:W->W->M W
 |.int i,.int j=>if small i||small j then pure (.int (i * j)) else bad
 |.str z,.int n=>if decide (z.length<=16)&&decide (0<=n)&&decide (n<=1048576) then pure (.str (tW z n)) else bad
 |.ref n,.int k=>λS=>match S[n]? with
  |some (.lst xs)=>if decide (-(2 ^ 63)<=k)&&decide (k < 2 ^ 63)&&decide (xs.length * k.toNat<=big) then .ok (.ref S.length) (S ++ [.lst (bG k.toNat xs).flatten]) else .bad
  |_=>.bad
 |_,_=>bad
noncomputable def Beu:W->W->M W
 |.int i,.int j=>if 0 < j then pure (.int (i % j)) else bad
 |_,_=>bad
section
def Ato{α β:Type}{Rel:List aQ->Hp->α->β->Prop}{Q:β->Hp->Prop}(h:Ay Θ Rel Y H ((bad:M α) S) Q E):False:=h
theorem Bh7(R:Rep Θ Y S H)(hx:RV Θ Y H x vx)(hy:RV Θ Y H y vy)(h:Ay Θ (RV Θ) Y H (addW x y S) Q E):
  (rI0 (λi j=>V.int (i+j)) vx vy H Q\/(∃i j,vx=.str i/\vy=.str j/\i.length+j.length<=sizeLine/\Q (.str (i ++ j)) H))\/((Bb2 Θ.K vx vy H Q\/Bb7 Θ.K vx vy H Q)\/Bik vx vy H Q):=by
 unfold addW at h;split at h
 .cases hx;cases hy;exact .inl (.inl ⟨_,_,rfl,rfl,h.now R (.int _)⟩)
 .cases hx;cases hy;split at h
  .rename_i hz;exact .inl (.inr ⟨_,_,rfl,rfl,Jl hz,h.now R (.str _)⟩)
  .exact(Ato h).elim
 .rename_i ws us;cases hx with|@tup a _ vs h1 r1=>
  cases hy with|@tup b _ zs h2 r2=>
  split at h
  .rename_i hz;cases ws with
   |nil=>cases r1;exact .inr (.inl (.inr ⟨a,b,zs,rfl,rfl,SqT.of h1,SqT.of h2,h.now R (.tup h2 r2)⟩))
   |cons _ _=>cases hz
  rename_i hz1;split at h
  .rename_i hz2;have l1:=r1.length;have l2:=r2.length;refine .inr (.inl (.inl ⟨a,b,vs,zs,rfl,rfl,SqT.of h1,SqT.of h2,?_,Jl (by rw[<-l1,<-l2];exact hz2),λe=>?_,λ_ p hp=>?_⟩))
   .rintro rfl;cases r1;exact hz1 rfl
   .subst e;cases r2;rw[bJ] at h;exact h.now R (.tup h1 r1)
   .exact h Y _ _ (aX Y) (Cj hp) (R.beside hp) (.tup Bl ((r1.append r2).mono (aX Y) (Cj hp)))
  .exact(show False from h).elim
 .rename_i n m;cases hx with|@ref _ a hn=>
  cases hy with|@ref _ b hm=>
  split at h
  .rename_i xs ys e1 e2;split at h
   .rename_i hz;obtain⟨a',ha',vs,h1,r1⟩:=R.get e1;obtain⟨b',hb',zs,h2,r2⟩:=R.get e2;rw[hn] at ha';cases ha';rw[hm] at hb';cases hb';refine .inr (.inr ⟨a,b,vs,zs,rfl,rfl,h1,h2,Jl (by rw[<-r1.length,<-r2.length];exact hz),λp hp=>?_⟩)
    have R':=R.alloc (o:=.lst (vs ++ zs)) (c:=.lst (xs ++ ys)) hp ⟨_,Bl,(r1.append r2).mono (bZ _ _) (Cj hp)⟩;refine h (Y ++ [p]) _ _ (bZ _ _) (Cj hp) R' (.ref ?_);rw[<-R.len];exact Kc
   .exact h.elim
  .exact h.elim
 .exact(show False from h).elim
end
noncomputable def Atp:W->W->M W
 |.int i,.int j=>if decide (0 < j)&&decide (j < 1073741824) then pure (.int (i / j)) else bad
 |_,_=>bad
noncomputable def Bev:W->W->M W
 |.int i,.int j=>if 0<=j then pure (.int (i / 2 ^ j.toNat)) else bad
 |_,_=>bad
noncomputable def Bew:W->W->M W
 |.int i,.int j=>pure (.int (mZ i j))
 |_,_=>bad
noncomputable def Ap8(p:Int->Int->Bool)(q:Str->Str->Bool):W->W->M W
 |.int i,.int j=>pure (.bl (p i j))
 |.str i,.str j=>pure (.bl (q i j))
 |_,_=>bad
def Ib(i j:Str):Bool:=decide (i.cps.toList < j.cps.toList)
section
theorem Ip{α:Type}[Decidable c]{m:M α}{Rel:List aQ->Hp->α->β->Prop}{Q:β->Hp->Prop}(h:Ay Θ Rel Y H ((if c then m else bad) S) Q E):c/\Ay Θ Rel Y H (m S) Q E:=by
 by_cases hc:c
 .rw[if_pos hc] at h;exact⟨hc,h⟩
 .rw[if_neg hc] at h;exact(show False from h).elim
theorem Bh8(R:Rep Θ Y S H)(hx:RV Θ Y H x vx)(hy:RV Θ Y H y vy)(h:Ay Θ (RV Θ) Y H (Bet x y S) Q E):rI0 (λi j=>V.int (i - j)) vx vy H Q:=by
 unfold Bet at h;split at h
 .cases hx;cases hy;exact⟨_,_,rfl,rfl,h.now R (.int _)⟩
 .exact(show False from h).elim
theorem RVs.rep(r:RVs Θ Y H ws vs):∀k:Nat,RVs Θ Y H (bG k ws).flatten (bG k vs).flatten
 |0=>.nil
 |k+1=>by
  rw[eY,eY,gV,gV];exact r.append (RVs.rep r k)
theorem Blh(R:Rep Θ Y S H)(hx:RV Θ Y H x vx)(hy:RV Θ Y H y vy)(h:Ay Θ (RV Θ) Y H (Ag2 x y S) Q E):
  (rI Axe (λi j=>V.int (i * j)) vx vy H Q\/(∃z n,vx=.str z/\vy=.int n/\z.length<=16/\0<=n/\n<=1048576/\Q (.str (tW z n)) H))\/Bil vx vy H Q:=by
 unfold Ag2 at h;split at h
 .cases hx;cases hy;obtain⟨hc,h⟩:=Ip h;refine .inl (.inl ⟨_,_,rfl,rfl,?_,h.now R (.int _)⟩);rcases mJ.mp hc with q|q
  .exact .inl ⟨of_decide_eq_true (aR.mp q).1,of_decide_eq_true (aR.mp q).2⟩
  .exact .inr ⟨of_decide_eq_true (aR.mp q).1,of_decide_eq_true (aR.mp q).2⟩
 .cases hx;cases hy;obtain⟨hc,h⟩:=Ip h;obtain⟨hc,h3⟩:=aR.mp hc;obtain⟨h1,h2⟩:=aR.mp hc;exact .inl (.inr ⟨_,_,rfl,rfl,of_decide_eq_true h1,of_decide_eq_true h2,of_decide_eq_true h3,h.now R (.str _)⟩)
 .rename_i n k;cases hx with|@ref _ a hn=>
  cases hy;split at h
  .rename_i xs e1;split at h
   .rename_i hc;obtain⟨hc,h3⟩:=aR.mp hc;obtain⟨h1,h2⟩:=aR.mp hc;obtain⟨a',ha',vs,h4,r1⟩:=R.get e1;rw[hn] at ha';cases ha';refine .inr ⟨a,k,vs,rfl,rfl,h4,of_decide_eq_true h1,of_decide_eq_true h2,Jl (by rw[<-r1.length];exact of_decide_eq_true h3),λp hp=>?_⟩
    have R':=R.alloc (o:=.lst (bG k.toNat vs).flatten) (c:=.lst (bG k.toNat xs).flatten) hp ⟨_,Bl,(r1.rep _).mono (bZ _ _) (Cj hp)⟩;refine h (Y ++ [p]) _ _ (bZ _ _) (Cj hp) R' (.ref ?_);rw[<-R.len];exact Kc
   .exact(show False from h).elim
  .exact(show False from h).elim
 .exact(show False from h).elim
theorem Bli(R:Rep Θ Y S H)(hx:RV Θ Y H x vx)(hy:RV Θ Y H y vy)(h:Ay Θ (RV Θ) Y H (Beu x y S) Q E):rI (λ_ j=>0 < j) (λi j=>V.int (i % j)) vx vy H Q:=by
 unfold Beu at h;split at h
 .cases hx;cases hy;obtain⟨hc,h⟩:=Ip h;exact⟨_,_,rfl,rfl,hc,h.now R (.int _)⟩
 .exact(show False from h).elim
theorem Bi4(R:Rep Θ Y S H)(hx:RV Θ Y H x vx)(hy:RV Θ Y H y vy)(h:Ay Θ (RV Θ) Y H (Atp x y S) Q E):rI Bh2 (λi j=>V.int (i / j)) vx vy H Q:=by
 unfold Atp at h;split at h
 .cases hx;cases hy;obtain⟨hc,h⟩:=Ip h;exact⟨_,_,rfl,rfl,⟨of_decide_eq_true (aR.mp hc).1,of_decide_eq_true (aR.mp hc).2⟩,h.now R (.int _)⟩
 .exact(show False from h).elim
theorem Blj(R:Rep Θ Y S H)(hx:RV Θ Y H x vx)(hy:RV Θ Y H y vy)(h:Ay Θ (RV Θ) Y H (Bev x y S) Q E):rI (λ_ j=>0<=j) (λi j=>V.int (i / 2 ^ j.toNat)) vx vy H Q:=by
 unfold Bev at h;split at h
 .cases hx;cases hy;obtain⟨hc,h⟩:=Ip h;exact⟨_,_,rfl,rfl,hc,h.now R (.int _)⟩
 .exact(show False from h).elim
theorem Bll(R:Rep Θ Y S H)(hx:RV Θ Y H x vx)(hy:RV Θ Y H y vy)(h:Ay Θ (RV Θ) Y H (Bew x y S) Q E):rI0 (λi j=>V.int (mZ i j)) vx vy H Q:=by
 unfold Bew at h;split at h
 .cases hx;cases hy;exact⟨_,_,rfl,rfl,h.now R (.int _)⟩
 .exact(show False from h).elim
theorem Bex{p:Int->Int->Bool}(R:Rep Θ Y S H)(hx:RV Θ Y H x vx)(hy:RV Θ Y H y vy)(h:Ay Θ (RV Θ) Y H (Ap8 p q x y S) Q E):
  rI0 (λi j=>V.bl (p i j)) vx vy H Q\/∃i j,vx=.str i/\vy=.str j/\Q (.bl (q i j)) H:=by
 unfold Ap8 at h;split at h
 .cases hx;cases hy;exact .inl ⟨_,_,rfl,rfl,h.now R (.bl _)⟩
 .cases hx;cases hy;exact .inr ⟨_,_,rfl,rfl,h.now R (.bl _)⟩
 .exact(show False from h).elim
end
inductive Bop where
 |add|sub|mul|fdiv|mod|shr|and
inductive Cop where
 |lt|le|gt|ge
def Bop.fn:Bop->W->W->M W
 |.add=>addW
 |.sub=>Bet
 |.mul=>Ag2
 |.fdiv=>Atp
 |.mod=>Beu
 |.shr=>Bev
 |.and=>Bew
noncomputable def Bop.of:xU->Option Bop
 |.Add=>some .add
 |.Sub=>some .sub
 |.Mult=>some .mul
 |.FloorDiv=>some .fdiv
 |.Mod=>some .mod
 |.RShift=>some .shr
 |.BitAnd=>some .and
 |_=>none
section
def Ai(o:Bop)(f g:De->M W):De->M W:=λZ=>do let x<-f Z;let y<-g Z;o.fn x y
theorem Bi5(hK:X.K=Θ.K)(h:Bop.of op=some o)(ha:WE X a (tF Θ E f))(hb:WE X b (tF Θ E g)):WE X (.BinOp a op b pos) (tF Θ E (Ai o f g)):=by
 cases op <;> simp only[Bop.of,gF,reduceCtorEq] at h <;> subst h
 .refine WE.weak (kop ((Bdc.or Ak3).or ((Axm.or Ayl).or Bdt)) ha hb) (Ti λY S H x y vx vy Q E R hx hy h=>?_);rw[hK];exact Bh7 R hx hy h
 .exact WE.weak (kop Bdd ha hb) (Ti λY S H x y vx vy Q E R hx hy h=>Bh8 R hx hy h)
 .exact WE.weak (kop ((Bde.or Ali).or Bdu) ha hb) (Ti λY S H x y vx vy Q E R hx hy h=>Blh R hx hy h)
 .exact WE.weak (kop Bdf ha hb) (Ti λY S H x y vx vy Q E R hx hy h=>Bli R hx hy h)
 .exact WE.weak (kop Bdg ha hb) (Ti λY S H x y vx vy Q E R hx hy h=>Blj R hx hy h)
 .exact WE.weak (kop Bdh ha hb) (Ti λY S H x y vx vy Q E R hx hy h=>Bll R hx hy h)
 .exact WE.weak (kop Axf ha hb) (Ti λY S H x y vx vy Q E R hx hy h=>Bi4 R hx hy h)
end
section
variable{Θ:Th}{X:Cx}{a b c e:cA}{pos:Pos}{E:L2.St->XK}{f g h:De->M W}{x:Str}{rest:List cA}
noncomputable def kF(w:W):De->M W:=λ_=>pure w
noncomputable def Ab(i:Nat):De->M W:=λZ=>match Z[i]? with
 |some (some w)=>pure w
 |_=>bad
noncomputable def Gr:W->Option V
 |.non=>some .non
 |.bl b=>some (.bl b)
 |.int i=>some (.int i)
 |.str x=>some (.str x)
 |_=>none
theorem Anu(h:D.Gr w=some v):RV Θ Y H w v:=by
 cases w <;> simp[D.Gr] at h <;> subst h
 .exact .non
 .exact .bl _
 .exact .int _
 .exact .str _
theorem Ag3(hw:D.Gr w=some v)(h:WE X e (tC v)):WE X e (tF Θ E (kF w)):=WE.weak h λσ H Q q=>by
 obtain⟨Y,S,Z,R,sl,q⟩:=q;exact q.now R (Anu hw)
theorem Bi6{i:Nat}(hv:WE X e (Bcr i)):WE X e (tF Θ E (Ab i)):=WE.weak hv λσ H Q q=>by
 obtain⟨Y,S,Z,R,sl,q⟩:=q;simp only[Ab] at q;cases e1:Z[i]? with
 |none=>rw[e1] at q;exact(show False from q).elim
 |some o=>
  rw[e1] at q;cases o with
  |none=>exact(show False from q).elim
  |some w=>
   obtain⟨v,h1,h2⟩:=sl i w e1;exact⟨v,h1,q.now R h2⟩
def asB{α:Type}(w:W)(k:Bool->M α):M α:=match w with
 |.bl b=>k b
 |_=>bad
def Ew(f g:De->M W):De->M W:=λZ=>do let x<-f Z;asB x λb=>if b then g Z else pure (.bl false)
def orF(f g:De->M W):De->M W:=λZ=>do let x<-f Z;asB x λb=>if b then pure (.bl true) else g Z
def Atq(f:De->M W):De->M W:=λZ=>do let x<-f Z;asB x λb=>pure (.bl (!b))
def Bf(f:De->M W):De->M Bool:=λZ=>do let x<-f Z;asB x λb=>pure b
def Lq(c:De->M Bool)(f g:De->M W):De->M W:=λZ=>do let b<-c Z;if b then f Z else g Z
theorem Ach{α β:Type}{Rel:List aQ->Hp->α->β->Prop}{Y:List aQ}{H:Hp}{S:Store}{w:W}{v:V}{k:Bool->M α}{Q:β->Hp->Prop}{E:XK}(rv:RV Θ Y H w v)(q:Ay Θ Rel Y H (asB w k S) Q E):∃b,v=.bl b/\Ay Θ Rel Y H (k b S) Q E:=by
 cases rv <;> first|exact(show False from q).elim|exact⟨_,rfl,q⟩
theorem Bi7(ha:WE X a (tF Θ E f))(hb:WE X (.BoolOp .And (b::rest) pos) (tF Θ E g)):WE X (.BoolOp .And (a::b::rest) pos) (tF Θ E (Ew f g)):=WE.weak (Bk3 ha hb) λσ H Q zz=>by
 obtain⟨Y,S,Z,R,sl,q⟩:=zz;refine⟨Y,S,Z,R,sl,(Ay.seq (Rel:=RV Θ) q).mono ?_⟩;rintro v H1 ⟨Y1,S1,w,p1,t1,R1,rv,q1⟩;obtain⟨b,rfl,q2⟩:=Ach rv q1;refine⟨b,rfl,?_⟩;cases b with
 |true=>exact L2.Agq ⟨Y1,S1,Z,R1,sl.mono p1 t1,q2⟩
 |false=>exact L2.Aim (q2.now R1 (.bl _))
theorem Blm(ha:WE X a (tF Θ E f))(hb:WE X (.BoolOp .Or (b::rest) pos) (tF Θ E g)):WE X (.BoolOp .Or (a::b::rest) pos) (tF Θ E (orF f g)):=WE.weak (kor ha hb) λσ H Q zz=>by
 obtain⟨Y,S,Z,R,sl,q⟩:=zz;refine⟨Y,S,Z,R,sl,(Ay.seq (Rel:=RV Θ) q).mono ?_⟩;rintro v H1 ⟨Y1,S1,w,p1,t1,R1,rv,q1⟩;obtain⟨b,rfl,q2⟩:=Ach rv q1;refine⟨b,rfl,?_⟩;cases b with
 |true=>exact L2.Agq (q2.now R1 (.bl _))
 |false=>exact L2.Aim ⟨Y1,S1,Z,R1,sl.mono p1 t1,q2⟩
theorem Bi8(ha:WE X a (tF Θ E f)):WE X (.UnaryOp .Not a pos) (tF Θ E (Atq f)):=WE.weak (knot ha) λσ H Q zz=>by
 obtain⟨Y,S,Z,R,sl,q⟩:=zz;refine⟨Y,S,Z,R,sl,(Ay.seq (Rel:=RV Θ) q).mono ?_⟩;rintro v H1 ⟨Y1,S1,w,p1,t1,R1,rv,q1⟩;obtain⟨b,rfl,q2⟩:=Ach rv q1;exact⟨b,rfl,q2.now R1 (.bl _)⟩
theorem Alu(k:∀σ H Q,tF Θ E f σ H Q->t σ H Q)(h:WT X e (tB t)):WT X e (tFb Θ E (Bf f)):=WT.weak h λσ H Q zz=>by
 obtain⟨Y,S,Z,R,sl,q⟩:=zz;refine k σ H _ ⟨Y,S,Z,R,sl,(Ay.seq (Rel:=RV Θ) q).mono ?_⟩;rintro v H1 ⟨Y1,S1,w,p1,t1,R1,rv,q1⟩;obtain⟨b,rfl,q2⟩:=Ach rv q1;exact⟨b,rfl,q2.now R1 rfl⟩
theorem Bln(hc:WT X c (tFb Θ E cf))(ha:WE X a (tF Θ E f))(hb:WE X b (tF Θ E g)):WE X (.IfExp c a b pos) (tF Θ E (Lq cf f g)):=WE.weak (kif hc ha hb) λσ H Q zz=>by
 obtain⟨Y,S,Z,R,sl,q⟩:=zz;refine⟨Y,S,Z,R,sl,(Ay.seq (Rel:=λ_ _ a b=>a=b) q).mono ?_⟩;rintro v H1 ⟨Y1,S1,w,p1,t1,R1,rfl,q1⟩;cases w with
 |true=>exact L2.Agq ⟨Y1,S1,Z,R1,sl.mono p1 t1,q1⟩
 |false=>exact L2.Aim ⟨Y1,S1,Z,R1,sl.mono p1 t1,q1⟩
noncomputable def Cop.fn:Cop->W->W->M W
 |.lt=>Ap8 (λi j=>decide (i < j)) Ib
 |.le=>Ap8 (λi j=>decide (i<=j)) (λi j=>!Ib j i)
 |.gt=>Ap8 (λi j=>decide (j < i)) (λi j=>Ib j i)
 |.ge=>Ap8 (λi j=>decide (j<=i)) (λi j=>!Ib i j)
noncomputable def nilF:De->M (List W):=λ_=>pure []
def Ci(f:De->M W)(g:De->M (List W)):De->M (List W):=λZ=>do let x<-f Z;let xs<-g Z;pure (x::xs)
def Cm(g:De->M (List W)):De->M W:=λZ=>do let xs<-g Z;Ag1 xs
def Ef(g:De->M (List W)):De->M W:=λZ=>do let xs<-g Z;Ck xs
def Bi9:WA X [] (tFs Θ E nilF):=WA.weak Beb λσ H Q ⟨Y,S,Z,R,sl,q⟩=>q.now R .nil
theorem Bey(ha:WE X a (tF Θ E f))(hr:WA X es (tFs Θ E gs))(hs:starEach (a::es) X.env=(false,eval a X.env)::starEach es X.env):WA X (a::es) (tFs Θ E (Ci f gs)):=WA.weak (Ax4 ha hr hs) λσ H Q zz=>by
 obtain⟨Y,S,Z,R,sl,q⟩:=zz;refine⟨Y,S,Z,R,sl,(Ay.seq (Rel:=RV Θ) q).mono ?_⟩;rintro v H1 ⟨Y1,S1,w,p1,t1,R1,rv,q1⟩;refine⟨Y1,S1,Z,R1,sl.mono p1 t1,(Ay.seq (Rel:=RVs Θ) q1).mono ?_⟩;rintro vs H2 ⟨Y2,S2,ws,p2,t2,R2,rvs,q2⟩;exact q2.now R2 (.cons (rv.mono p2 t2) rvs)
theorem Bja{j:Nat}(h:WA X es (tFs Θ E gs)):WE X (.Tuple es j pos) (tF Θ E (Cm gs)):=WE.weak (Bk5 h) λσ H Q zz=>by
 obtain⟨Y,S,Z,R,sl,q⟩:=zz;refine⟨Y,S,Z,R,sl,(Ay.seq (Rel:=RVs Θ) q).mono ?_⟩;rintro vs H1 ⟨Y1,S1,ws,p1,t1,R1,rvs,q1⟩;obtain⟨hz,q1⟩:=Ip (m:=(pure (W.tup ws):M W)) (show Ay Θ (RV Θ) Y1 H1 ((if ws.length<=big then (pure (W.tup ws):M W) else bad) S1) Q (E σ) from by unfold Ag1 at q1;exact q1)
 exact⟨Jl (by rw[<-rvs.length];exact hz),λp hp=>q1 Y1 _ _ (aX _) (Cj hp) (R1.beside hp) (.tup Bl (rvs.mono (aX _) (Cj hp)))⟩
theorem Bjb(h:WA X es (tFs Θ E gs)):WE X (.List es pos) (tF Θ E (Ef gs)):=WE.weak (Bk4 h) λσ H Q zz=>by
 obtain⟨Y,S,Z,R,sl,q⟩:=zz;refine⟨Y,S,Z,R,sl,(Ay.seq (Rel:=RVs Θ) q).mono ?_⟩;rintro vs H1 ⟨Y1,S1,ws,p1,t1,R1,rvs,q1⟩;simp only[Ck] at q1;by_cases hz:ws.length<=big
 .rw[if_pos hz] at q1;refine⟨Jl (by rw[<-rvs.length];exact hz),λp hp=>q1 (Y1 ++ [p]) _ _ (bZ _ _) (Cj hp) (R1.alloc hp ⟨_,Bl,rvs.mono (bZ _ _) (Cj hp)⟩) (.ref ?_)⟩
  rw[<-R1.len];exact Kc
 .rw[if_neg hz] at q1;exact q1.elim
def Cp(s:List W->M W)(g:De->M (List W)):De->M W:=λZ=>do let ws<-g Z;s ws
theorem Bez{n:Nat}(D:Pk X.K X.mg x df ps fa fd)(F:Io X.prog X.w X.K X.mg X.base CX n fa fd ps (spF Θ s) cm)(hr:Im n X.A cm)(hx:Gx CX X E)(ha:WA X (a::es) (tFs Θ E gs))(hg:X.env.kindOf x=some .globalImplicit)(hdb:(x==("__debug__":Str))=false)(he:starEach (a::es) X.env=(false,eval a X.env)::starEach es X.env)(hpl:(backTo pos (starEach es X.env)).any (·.1)=false):
  WE X (.Call (.Name x p) (a::es) [] pos) (tF Θ E (Cp s gs)):=WE.weak (Bec D F hr hx ha hg hdb he hpl) λσ H Q zz=>by
 obtain⟨Y,S,Z,R,sl,q⟩:=zz;refine⟨Y,S,Z,R,sl,(Ay.seq (Rel:=RVs Θ) q).mono ?_⟩;rintro vs H1 ⟨Y1,S1,ws,p1,t1,R1,rvs,q1⟩;exact⟨Y1,S1,ws,R1,by rw[bJ];exact rvs,q1⟩
end
noncomputable def Gb{α β:Type}(f:α->Option β):List α->Option (List β)
 |[]=>some []
 |a::as=>(f a).bind λb=>(Gb f as).map (b::·)
noncomputable def Gg(S:Store):Nat->W->Option bK
 |0,.non=>some .none
 |0,.bl b=>some (.bool b)
 |0,.int i=>some (.int i)
 |0,.str x=>some (.str x)
 |0,_=>none
 |_+1,.non=>some .none
 |_+1,.bl b=>some (.bool b)
 |_+1,.int i=>some (.int i)
 |_+1,.str x=>some (.str x)
 |n+1,.tup ws=>(Gb (Gg S n) ws).map mF
 |n+1,.ref k=>match S[k]? with
  |some (.lst ws)=>(Gb (Gg S n) ws).map aAr
  |some (.dct [])=>some (.dict [])
  |_=>none
 |_+1,.scr=>none
 |_+1,.ty _=>none
 |_+1,.cls _=>none
 |_+1,.exn _ _=>none
section
theorem Aci{α:Type}{f:W->Option α}{w:W}{ws:List W}{l:List α}(e:Gb f (w::ws)=some l):∃a as,f w=some a/\Gb f ws=some as/\l=a::as:=by
 rw[Gb] at e;cases e1:f w with
 |none=>rw[e1] at e;cases e
 |some d=>
  rw[e1] at e;cases e2:Gb f ws with
  |none=>rw[e2] at e;cases e
  |some es=>
   rw[e2] at e;cases e;exact⟨_,_,rfl,rfl,rfl⟩
theorem Anv(hf:∀w v d,RV Θ Y H w v->f w=some d->DV H v d){ws:List W}{vs:List V}{ds:List bK}(r:RVs Θ Y H ws vs)(e:Gb f ws=some ds):DVs H vs ds:=by
 induction ws generalizing vs ds with
 |nil=>cases r;cases e;exact .nil
 |cons w ws ih=>cases r with|cons h r=>
  obtain⟨a,as,e1,e2,rfl⟩:=Aci e;exact .cons (hf _ _ _ h e1) (ih r e2)
theorem Qo(R:Rep Θ Y S H):∀(n:Nat)(w:W)(v:V)(d:bK),RV Θ Y H w v->Gg S n w=some d->DV H v d
 |0,w,v,d,h,e=>by
  cases h <;> simp only[Gg,gF,reduceCtorEq] at e <;> subst e
  .exact .non
  .exact .bl _
  .exact .int _
  .exact .str _
 |n+1,w,v,d,h,e=>by
  cases h with
  |non=>cases e;exact .non
  |bl b=>cases e;exact .bl _
  |int i=>cases e;exact .int _
  |str x=>cases e;exact .str _
  |scr _=>cases e
  |ty _=>cases e
  |cls _=>cases e
  |exn _ _ _=>cases e
  |exf _ _ _ _ _ _=>cases e
  |@tup a ws vs h1 r1=>
   rw[Gg] at e;cases e2:Gb (Gg S n) ws with
   |none=>rw[e2] at e;cases e
   |some ds=>
    rw[e2] at e;cases e;exact .tup h1 (Anv (Qo R n) r1 e2)
  |@ref k a hk=>
   rw[Gg] at e;cases e1:S[k]? with
   |none=>rw[e1] at e;cases e
   |some c=>
    rw[e1] at e;obtain⟨a',ha',q⟩:=R.get e1;rw[hk] at ha';cases ha';cases c with
    |lst ws=>
     obtain⟨vs,h1,r1⟩:=q;cases e2:Gb (Gg S n) ws with
     |none=>simp only[e2] at e;cases e
     |some ds=>
      simp only[e2] at e;cases e;exact .lst h1 (Anv (Qo R n) r1 e2)
    |dct kvs=>
     cases kvs with
     |nil=>
      cases e;obtain⟨vs,h1,r1⟩:=q;cases r1;exact .dct h1
     |cons p kvs=>cases e
end
def eqD(neg:Bool)(x y:W):M W:=λS=>match Gg S 16 x,Gg S 16 y with
 |some d,some e=>if cO d&&cO e then .ok (.bl (if neg then !jU d e else jU d e)) S else .bad
 |_,_=>.bad
def eqW(neg:Bool)(x y:W):M W:=match x,y with
 |.str a,.str b=>pure (.bl (if neg then !(a==b) else a==b))
 |x,y=>eqD neg x y
def Atr:W->Bool
 |.non=>true
 |_=>false
noncomputable def isW:W->W->M W
 |x,.non=>pure (.bl (Atr x))
 |.bl a,.bl b=>pure (.bl (a==b))
 |_,_=>bad
def Aah:W->Bool
 |.non=>true
 |.bl _=>true
 |.int _=>true
 |.str _=>true
 |_=>false
noncomputable def eqF:W->W->Bool
 |.non,.non=>true
 |.bl a,.bl b=>a==b
 |.bl a,.int b=>(if a then 1 else 0)==b
 |.int a,.bl b=>a==(if b then 1 else 0)
 |.int a,.int b=>a==b
 |.str a,.str b=>a==b
 |_,_=>false
noncomputable def Ael:W->Option Key
 |.int i=>some (.inl i)
 |.str x=>some (.inr x)
 |_=>none
noncomputable def Ats(kvs:List (Key×W))(k:Key):Option W:=(kvs.find? λp=>decide (p.1=k)).map (·.2)
noncomputable def Be0(neg:Bool)(x:W)(ws:List W):M W:=if Aah x&&ws.all Aah then pure (.bl (if neg then !ws.any (eqF · x) else ws.any (eqF · x))) else bad
noncomputable def inW(neg:Bool)(x y:W):M W:=match y with
 |.str j=>match x with
  |.str i=>pure (.bl (if neg then !(!(fP j i 0 j.length 1).isEmpty) else !(fP j i 0 j.length 1).isEmpty))
  |_=>bad
 |.tup ws=>Be0 neg x ws
 |_=>bad
section
theorem Ag4(hx:RV Θ Y H x vx)(h:Ael x=some k):vx=kV k:=by
 cases hx <;> simp only[Ael,gF,reduceCtorEq] at h <;> subst h <;> rfl
theorem Ayn(r:RKV Θ Y H kvs vs)(k:Key):(∃w v,Ats kvs k=some w/\V1 vs k=some v/\RV Θ Y H w v)\/(Ats kvs k=none/\V1 vs k=none):=by
 unfold RKV at r;induction r with
 |nil=>exact .inr ⟨rfl,rfl⟩
 |@cons p q _ _ h r ih=>
  unfold Ats V1 at ih ⊢
  rw[gZ,gZ];by_cases e:p.1=k
  .have e':q.1=k:=h.1.symm.trans e;rw[decide_eq_true e,decide_eq_true e'];exact .inl ⟨_,_,rfl,rfl,h.2⟩
  .have e':¬ q.1=k:=λz=>e (h.1.trans z);rw[decide_eq_false e,decide_eq_false e'];exact ih
theorem Jy{α β:Type}{Rel:List aQ->Hp->α->β->Prop}{w:α}{v:β}{Q:β->Hp->Prop}(h:Ay Θ Rel Y H (.ok w S) Q E)(r:Rep Θ Y S H)(q:Rel Y H w v):Q v H:=
 h Y H v (aX Y) (Ds.refl Y H) r q
theorem Bjc(R:Rep Θ Y S H)(hx:RV Θ Y H x vx)(hy:RV Θ Y H y vy)(h:Ay Θ (RV Θ) Y H (eqD neg x y S) Q E):
  ∃d e,DV H vx d/\DV H vy e/\cO d=true/\cO e=true/\Q (.bl (if neg then !jU d e else jU d e)) H:=by
 simp only[eqD] at h;split at h
 .rename_i d e e1 e2;split at h
  .rename_i hz;obtain⟨z1,z2⟩:=aR.mp hz;exact⟨d,e,Qo R 16 _ _ _ hx e1,Qo R 16 _ _ _ hy e2,z1,z2,Jy h R (.bl _)⟩
  .exact(show False from h).elim
 .exact(show False from h).elim
theorem Bjd(R:Rep Θ Y S H)(hx:RV Θ Y H x vx)(hy:RV Θ Y H y vy)(h:Ay Θ (RV Θ) Y H (eqW neg x y S) Q E):
  (∃i j,vx=.str i/\vy=.str j/\Q (.bl (if neg then !(i==j) else i==j)) H)\/∃d e,DV H vx d/\DV H vy e/\cO d=true/\cO e=true/\Q (.bl (if neg then !jU d e else jU d e)) H:=by
 unfold eqW at h;split at h
 .cases hx;cases hy;exact .inl ⟨_,_,rfl,rfl,Jy h R (.bl _)⟩
 .exact .inr (Bjc R hx hy h)
theorem Atu(hx:RV Θ Y H x vx):Atr x=decide (vx=.non):=by
 cases hx <;> simp[Atr]
theorem Blo(R:Rep Θ Y S H)(hx:RV Θ Y H x vx)(hy:RV Θ Y H y vy)(h:Ay Θ (RV Θ) Y H (isW x y S) Q E):(vy=.non/\Q (.bl (decide (vx=.non))) H)\/∃a b,vx=.bl a/\vy=.bl b/\Q (.bl (a==b)) H:=by
 unfold isW at h;split at h
 .cases hy;rw[<-Atu hx];exact .inl ⟨rfl,h.now R (.bl _)⟩
 .cases hx;cases hy;exact .inr ⟨_,_,rfl,rfl,h.now R (.bl _)⟩
 .exact(show False from h).elim
theorem Ai0(hx:RV Θ Y H x vx)(h:Aah x=true):L2.Gr vx=true:=by
 cases hx <;> first|rfl|(exact absurd h bH)
theorem Ap9{ws:List W}{vs:List V}(r:RVs Θ Y H ws vs)(e:ws.all Aah=true):vs.all L2.Gr=true:=by
 induction vs generalizing ws with
 |nil=>rfl
 |cons v vs ih=>cases r with|cons h r=>
  rw[bY,aC] at e ⊢
  exact⟨Ai0 h e.1,ih r e.2⟩
theorem Be1(hu:RV Θ Y H u vu)(hx:RV Θ Y H x vx)(f:Aah u=true)(g:Aah x=true):eqF u x=L2.eqV vu vx:=by
 cases hu <;> cases hx <;> first|rfl|(exact absurd f bH)|(exact absurd g bH)
theorem Anw(hx:RV Θ Y H x vx)(g:Aah x=true):∀{ws:List W} {vs:List V},RVs Θ Y H ws vs->ws.all Aah=true->ws.any (eqF · x)=inV vx vs
 |_,_,.nil,_=>rfl
 |_,_,.cons h r,e=>by
  rw[bY,aC] at e;have z:=Anw hx g r e.2;unfold inV at z ⊢
  rw[iJ,iJ,Be1 h hx e.1 g,z]
theorem Ayo(R:Rep Θ Y S H)(hx:RV Θ Y H x vx)(r:RVs Θ Y H ws vs)(h:Ay Θ (RV Θ) Y H (Be0 neg x ws S) Q E):
  L2.Gr vx=true/\vs.all L2.Gr=true/\Q (.bl (if neg then !inV vx vs else inV vx vs)) H:=by
 unfold Be0 at h;obtain⟨hz,h⟩:=Ip h;obtain⟨z1,z2⟩:=aR.mp hz;rw[Anw hx z1 r z2] at h;exact⟨Ai0 hx z1,Ap9 r z2,h.now R (.bl _)⟩
theorem Bje(R:Rep Θ Y S H)(hx:RV Θ Y H x vx)(hy:RV Θ Y H y vy)(h:Ay Θ (RV Θ) Y H (inW neg x y S) Q E):
  (∃i j,vx=.str i/\vy=.str j/\Q (.bl (if neg then !(!(fP j i 0 j.length 1).isEmpty) else !(fP j i 0 j.length 1).isEmpty)) H)\/rIn Θ.K neg vx vy H Q:=by
 cases hy with
 |str j=>
  cases hx <;> try exact(show False from h).elim
  exact .inl ⟨_,_,rfl,rfl,h.now R (.bl _)⟩
 |tup h1 r1=>
  obtain⟨f1,f2,q⟩:=Ayo R hx r1 h;exact .inr ⟨_,_,rfl,.inr (SqT.of h1),f1,f2,q⟩
 |_=>cases x <;> exact(show False from h).elim
end
section
theorem Aqa:OpR X (compareOp .Gt) (λx y H Q=>∃i j,x=.str i/\y=.str j/\Q (.bl (decide (j.cps.toList < i.cps.toList))) H):=by
 intro aa s σ H x y v u Q I rx ry h;obtain⟨i,j,rfl,rfl,q⟩:=h;obtain⟨t,rfl⟩:=rx;obtain⟨t',rfl⟩:=ry;exact PySem.P.gt_str (Vc I q rfl)
theorem Be2:OpR X (compareOp .Eq) (λx y H Q=>∃i j,x=.str i/\y=.str j/\Q (.bl (i==j)) H):=by
 intro aa s σ H x y v u Q I rx ry h;obtain⟨i,j,rfl,rfl,q⟩:=h;obtain⟨t,rfl⟩:=rx;obtain⟨t',rfl⟩:=ry;exact eq_str (Vc I q rfl)
theorem Be3:OpR X (compareOp .NotEq) (λx y H Q=>∃i j,x=.str i/\y=.str j/\Q (.bl (!(i==j))) H):=by
 intro aa s σ H x y v u Q I rx ry h;obtain⟨i,j,rfl,rfl,q⟩:=h;obtain⟨t,rfl⟩:=rx;obtain⟨t',rfl⟩:=ry;exact ne_str (Vc I q rfl)
end
def Atv:OpR X op (λ_ _ _ _=>False):=λ_ _ _ _ _ _ _ _ _ _ _ _ h=>h.elim
def Fx:sS->W->W->M W
 |.Lt=>Cop.fn .lt
 |.LtE=>Cop.fn .le
 |.Gt=>Cop.fn .gt
 |.GtE=>λ_ _=>bad
 |.Eq=>eqW false
 |.NotEq=>eqW true
 |.In=>inW false
 |.NotIn=>inW true
 |.Is=>isW
 |.IsNot=>λ_ _=>bad
def Cq(op:sS)(f g:De->M W):De->M W:=λZ=>do let x<-f Z;let y<-g Z;Fx op x y
structure Be4(Θ:Th)(X:Cx)(op:sS):Type where
 r:R2
 ok:OpR X (compareOp op) r
 by_:∀Y S H x y vx vy Q E,Rep Θ Y S H->RV Θ Y H x vx->RV Θ Y H y vy->Ay Θ (RV Θ) Y H (Fx op x y S) Q E->r vx vy H Q
theorem Aqb(Θ:Th)(X:Cx)(hK:X.K=Θ.K)(hu:X.A.units+64 < cLine):∀op:sS,Nonempty (Be4 Θ X op)
 |.Lt=>⟨⟨_,Bh3.or Apg,λY S H x y vx vy Q E R hx hy h=>Bex R hx hy h⟩⟩
 |.LtE=>⟨⟨_,Bh4.or Apy,λY S H x y vx vy Q E R hx hy h=>Bex R hx hy h⟩⟩
 |.Gt=>⟨⟨_,Bh5.or Aqa,λY S H x y vx vy Q E R hx hy h=>Bex R hx hy h⟩⟩
 |.GtE=>⟨⟨_,Atv,λ_ _ _ _ _ _ _ _ _ _ _ _ h=>h⟩⟩
 |.Eq=>⟨⟨_,Be2.or (Bd1 hu),λY S H x y vx vy Q E R hx hy h=>Bjd R hx hy h⟩⟩
 |.NotEq=>⟨⟨_,Be3.or (Bd2 hu),λY S H x y vx vy Q E R hx hy h=>Bjd R hx hy h⟩⟩
 |.In=>⟨⟨_,Aph.or Apn,λY S H x y vx vy Q E R hx hy h=>by rw[hK];exact Bje R hx hy h⟩⟩
 |.NotIn=>⟨⟨_,Agm.or Agl,λY S H x y vx vy Q E R hx hy h=>by rw[hK];exact Bje R hx hy h⟩⟩
 |.Is=>⟨⟨_,Bdj.or Ber,λY S H x y vx vy Q E R hx hy h=>Blo R hx hy h⟩⟩
 |.IsNot=>⟨⟨_,Atv,λ_ _ _ _ _ _ _ _ _ _ _ _ h=>h⟩⟩
section
theorem Bjf(hK:X.K=Θ.K)(hu:X.A.units+64 < cLine)(ha:WE X a (tF Θ E f))(hb:WE X b (tF Θ E g))(hm:behindInMarks op b=false):WE X (.Compare a [op] [b] pos) (tF Θ E (Cq op f g)):=by
 obtain⟨o⟩:=Aqb Θ X hK hu op;exact WE.weak (Bk2 o.ok ha hb hm) (Ti o.by_)
theorem Be5(hK:X.K=Θ.K)(hu:X.A.units+64 < cLine)(ha:WE X a (tF Θ E f))(hb:WE X b (tF Θ E g))(hm:behindInMarks op b=false):WT X (.Compare a [op] [b] pos) (tFb Θ E (Bf (Cq op f g))):=by
 obtain⟨o⟩:=Aqb Θ X hK hu op;exact Alu (Ti o.by_) (Bk6 o.ok ha hb hm)
end
def Ag5{α:Type}:Option α->M α
 |some a=>pure a
 |none=>bad
noncomputable def ixW(ns:List Int)(x y:W):M W:=match x with
 |.str z=>match y with
  |.int i=>if z.length<=big then Ag5 ((atI z.cps.toList i).map λc=>W.str ⟨#[c]⟩) else bad
  |_=>bad
 |.tup ws=>match y with
  |.int i=>Ag5 (atI ws i)
  |_=>bad
 |.scr=>match y with
  |.int i=>Ag5 ((atI ns i).map W.int)
  |_=>bad
 |.ref n=>λS=>match S[n]? with
  |some (.lst ws)=>match y with
   |.int i=>Ag5 (atI ws i) S
   |_=>.bad
  |some (.dct kvs)=>match Ael y with
   |some k=>Ag5 (Ats kvs k) S
   |none=>.bad
  |_=>.bad
 |_=>bad
def ixF(ns:List Int)(f g:De->M W):De->M W:=λZ=>do let x<-f Z;let y<-g Z;ixW ns x y
section
theorem Ayp(hu:X.A.units+1 < cLine):IxR X (λx y H Q=>∃a v,x=.ref a/\Alb H a y (some v)/\Q v H):=by
 intro value slice aa s σ H x y v u Q I rx ry h hs;obtain⟨a,w,rfl,g,q⟩:=h;obtain rfl:v=cL a:=rx;exact xX (Aij I g) PySem.F.slot_dict_getitem.lookup (App hu I g ry λw' s3 I3 rw'=>⟨w,H,I3,rw',q⟩) hs
end
section
theorem V5{α β:Type}{Rel:List aQ->Hp->α->β->Prop}{Q:β->Hp->Prop}{o:Option α}(h:Ay Θ Rel Y H (Ag5 o S) Q E):∃w,o=some w/\Ay Θ Rel Y H ((pure w:M α) S) Q E:=by
 cases o with
 |none=>exact(show False from h).elim
 |some w=>exact⟨w,rfl,h⟩
theorem RVs.at{i:Int}(r:RVs Θ Y H ws vs)(h:atI ws i=some w):∃v,atI vs i=some v/\RV Θ Y H w v:=by
 unfold atI at h ⊢
 rw[<-r.length];cases e:ixN ws.length i with
 |none=>rw[e] at h;cases h
 |some j=>
  rw[e] at h;exact r.get h
theorem Ayq{α β:Type}(f:α->β)(xs:List α)(i:Int):atI (xs.map f) i=(atI xs i).map f:=by
 unfold atI;rw[aA];cases ixN xs.length i with
 |none=>rfl
 |some j=>exact cB
theorem Blp(R:Rep Θ Y S H)(hx:RV Θ Y H x vx)(hy:RV Θ Y H y vy)(h:Ay Θ (RV Θ) Y H (ixW Θ.ns x y S) Q E):
  rIx Θ.K vx vy H Q\/∃a v,vx=.ref a/\Alb H a vy (some v)/\Q v H:=by
 cases hx with
 |str z=>
  cases hy <;> try exact(show False from h).elim
  obtain⟨hz,h⟩:=Ip h;obtain⟨w,e,h⟩:=V5 h;obtain⟨c,e1,rfl⟩:=cF.mp e;exact .inl (.inr (.inr ⟨_,_,c,rfl,rfl,Jl hz,e1,h.now R (.str _)⟩))
 |tup h1 r1=>
  cases hy <;> try exact(show False from h).elim
  obtain⟨w,e,h⟩:=V5 h;obtain⟨v,e1,rv⟩:=r1.at e;exact .inl (.inr (.inl ⟨_,_,_,v,rfl,rfl,SqT.of h1,e1,h.now R rv⟩))
 |scr hs=>
  cases hy <;> try exact(show False from h).elim
  obtain⟨w,e,h⟩:=V5 h;obtain⟨c,e1,rfl⟩:=cF.mp e;exact .inl (.inl ⟨_,_,_,.int c,rfl,rfl,hs.sq,by rw[Ayq,e1];rfl,h.now R (.int _)⟩)
 |@ref n a hn=>
  simp only[ixW] at h;split at h
  .rename_i ws e1;obtain⟨a',ha',vs,h1,r1⟩:=R.get e1;rw[hn] at ha';cases ha';cases hy <;> try exact(show False from h).elim
   obtain⟨w,e,h⟩:=V5 h;obtain⟨v,e1,rv⟩:=r1.at e;exact .inl (.inl ⟨_,_,_,v,rfl,rfl,.inl (.inl h1),e1,h.now R rv⟩)
  .rename_i kvs e1;obtain⟨a',ha',vs,h1,r1⟩:=R.get e1;rw[hn] at ha';cases ha';split at h
   .rename_i k ek;rw[Ag4 hy ek];obtain⟨w,e,h⟩:=V5 h;rcases Ayn r1 k with ⟨w',v,e2,e3,rv⟩|⟨e2,e3⟩
    .rw[e] at e2;cases e2;exact .inr ⟨a,v,rfl,e3 ▸ Alb.k h1,h.now R rv⟩
    .rw[e] at e2;cases e2
   .exact(show False from h).elim
  .exact(show False from h).elim
 |_=>exact(show False from h).elim
end
section
theorem Blq(hK:X.K=Θ.K)(hu:X.A.units+64 < cLine)(ha:WE X a (tF Θ E f))(hb:WE X b (tF Θ E g))(hs:Abg b):WE X (.Subscript a b pos) (tF Θ E (ixF Θ.ns f g)):=
 WE.weak (kix (Bdq.or (Ayp (by omega))) ha hb hs) (Ti λY S H x y vx vy Q E R hx hy h=>by rw[hK];exact Blp R hx hy h)
end
section
open HT in
theorem Aqc{lo hi:Option Int}(ht:vH s.heap t its)(hs:s.heap.IsSliceOf sl vl vu .none)(pl:rA vl lo)(pu:rA vu hi)(hw:sIx its.size 0 lo=0/\sIx its.size its.size hi=its.size)(h:Q (.ref t) s):wpAny (model prog w) A (getItem (.ref t) (.ref sl)) Q E s:=by
 obtain⟨os,hos,hcs,hds⟩:=id hs;have hTs:s.TypeIs (.ref sl) "slice":=⟨os,hos,hcs⟩;unfold getItem
 try with_reducible refine jZ ?_
 first|refine aB (aV ?_)|skip
 refine aB (qC ht.typeIs (by decide) ?_)
 refine aB (fC (name:=fX "__getitem__") ht.typeIs cM
  (fQ cM ht.typeIs oO ?_ (pL _ _)))
 show wpAny _ _ (lK (.ref t) >>= _) _ _ s;refine aB (tupleItemsOf_ ht ?_);refine aB (oY hTs ?_);rw[if_pos (by decide)]
 refine aB (Mt hs pl pu ?_);show wpAny _ _ (if (((sIx its.size 0 lo:Nat):Int)==0&&(1:Int)==1&&(sIx its.size its.size hi - sIx its.size 0 lo)==its.size)=true then _ else _) _ _ s
 rw[if_pos (by rw[hw.1,hw.2];simp)]
 unfold yS;refine aB (aB (oY ht.typeIs (aV ?_)));rw[if_pos (by decide)]
 first
  |exact aB (rJ (aV ⟨_,rfl,aV h⟩))
  |exact aB (aV (aV ⟨_,rfl,aV h⟩))
  |exact aV ⟨_,rfl,aV h⟩
def Bb8(K:aF):V->Option Int->Option Int->Hp->VK->Prop:=λx lo hi H Q=>∃a xs,x=.ref a/\SqT K H a xs/\HT.sIx xs.length 0 lo=0/\HT.sIx xs.length xs.length hi=xs.length/\Q (.ref a) H
theorem Ayr:SlR X (Bb8 X.K):=by
 intro aa s σ H x v vl vu lo hi sl Q I rx hs pl pu h;obtain⟨a,xs,rfl,hx,h1,h2,q⟩:=h;cases rx;obtain⟨its,r,ht,hz⟩:=I.tuple hx;have hlen:its.toArray.size=xs.length:=by rw[bD];exact r.length.symm
 refine⟨"tuple",_,cM.lookup,ht.typeIs,Aqc ht hs pl pu (by rw[hlen];exact⟨h1,h2⟩) ⟨.ref a,H,I,rfl,q⟩⟩
end
def Mg(ws:List W)(lo hi:Option Int):List W:=(ws.drop (HT.sIx ws.length 0 lo)).take (HT.sIx ws.length ws.length hi - HT.sIx ws.length 0 lo)
noncomputable def slW(ns:List Int)(x:W)(lo hi:Option Int):M W:=match x with
 |.str z=>if z.length<=big then pure (.str (pF z lo hi)) else bad
 |.tup ws=>pure (.tup (Mg ws lo hi))
 |.scr=>Ck (Mg (ns.map W.int) lo hi)
 |.ref n=>λS=>match S[n]? with
  |some (.lst ws)=>Ck (Mg ws lo hi) S
  |_=>.bad
 |_=>bad
def Bv(f:De->M W):De->M (Option Int):=λZ=>do let x<-f Z;match x with
 |.int i=>pure (some i)
 |_=>bad
def Bd:De->M (Option Int):=λ_=>pure none
def slF(ns:List Int)(f:De->M W)(l h:De->M (Option Int)):De->M W:=λZ=>do let x<-f Z;let lo<-l Z;let hi<-h Z;slW ns x lo hi
def tFo(Θ:Th)(E:L2.St->XK)(f:De->M (Option Int)):TO:=λσ H Q=>∃Y S Z,Rep Θ Y S H/\RSl Θ Y H Z σ/\Ay Θ (λ_ _ a b=>a=b) Y H (f Z S) Q (E σ)
section
theorem RVs.drop(r:RVs Θ Y H ws vs):∀n,RVs Θ Y H (ws.drop n) (vs.drop n)
 |0=>r
 |n+1=>by
  cases r with
  |nil=>exact .nil
  |cons h r=>exact r.drop n
theorem RVs.take(r:RVs Θ Y H ws vs):∀n,RVs Θ Y H (ws.take n) (vs.take n)
 |0=>.nil
 |n+1=>by
  cases r with
  |nil=>exact .nil
  |cons h r=>exact .cons h (r.take n)
theorem RVs.cut(r:RVs Θ Y H ws vs)(lo hi:Option Int):RVs Θ Y H (Mg ws lo hi) (Aeh vs lo hi):=by
 unfold Mg Aeh;rw[r.length];exact(r.drop _).take _
theorem Ai1:∀ns:List Int,RVs Θ Y H (ns.map W.int) (ns.map V.int)
 |[]=>.nil
 |n::ns=>.cons (.int n) (Ai1 ns)
theorem Km(R:Rep Θ Y S H)(r:RVs Θ Y H ws vs)(h:Ay Θ (RV Θ) Y H (Ck ws S) Q E):vs.length<=big/\∀p,H p=none->Q (.ref p) (upd H p (.lst vs)):=by
 simp only[Ck] at h;by_cases hz:ws.length<=big
 .rw[if_pos hz] at h;refine⟨by rw[<-r.length];exact hz,λp hp=>h (Y ++ [p]) _ _ (bZ _ _) (Cj hp) (R.alloc hp ⟨_,Bl,r.mono (bZ _ _) (Cj hp)⟩) (.ref ?_)⟩
  rw[<-R.len];exact Kc
 .rw[if_neg hz] at h;exact h.elim
theorem Afe(R:Rep Θ Y S H)(r:RVs Θ Y H ws vs)(h:Ay Θ (RV Θ) Y H ((pure (.tup ws):M W) S) Q E):∀p,H p=none->Q (.ref p) (upd H p (.tup vs)):=λp hp=>
 h Y _ _ (aX _) (Cj hp) (R.beside hp) (.tup Bl (r.mono (aX _) (Cj hp)))
theorem Ays{lo hi:Option Int}(h1:HT.sIx ws.length 0 lo=0)(h2:HT.sIx ws.length ws.length hi=ws.length):Aeh ws lo hi=ws:=by
 unfold Aeh;rw[h1,h2,iZ,rK,lY]
theorem Blr{lo hi:Option Int}(R:Rep Θ Y S H)(hx:RV Θ Y H x vx)(h:Ay Θ (RV Θ) Y H (slW Θ.ns x lo hi S) Q E):
  (Bid Θ.K vx lo hi H Q\/Bb8 Θ.K vx lo hi H Q)\/(Bii Θ.K vx lo hi H Q\/∃z,vx=.str z/\z.length<=sizeLine/\Q (.str (pF z lo hi)) H):=by
 cases hx with
 |str z=>
  obtain⟨hz,h⟩:=Ip h;exact .inr (.inr ⟨z,rfl,Jl hz,h.now R (.str _)⟩)
 |@tup a ws vs h1 r1=>
  have r2:=r1.cut lo hi;by_cases e:HT.sIx vs.length 0 lo=0/\HT.sIx vs.length vs.length hi=vs.length
  .refine .inl (.inr ⟨a,vs,rfl,SqT.of h1,e.1,e.2,h.now R (.tup h1 ?_)⟩);have r3:=r2;rw[Ays e.1 e.2] at r3;exact r3
  .exact .inl (.inl ⟨a,vs,rfl,SqT.of h1,e,Afe R r2 h⟩)
 |scr hs=>exact .inr (.inl ⟨_,_,rfl,hs.sq,(Km R ((Ai1 _).cut lo hi) h).2⟩)
 |@ref n a hn=>
  simp only[slW] at h;split at h
  .rename_i ws e1;obtain⟨a',ha',vs,h1,r1⟩:=R.get e1;rw[hn] at ha';cases ha';exact .inr (.inl ⟨_,_,rfl,.inl (.inl h1),(Km R (r1.cut lo hi) h).2⟩)
  .exact(show False from h).elim
 |_=>exact(show False from h).elim
end
section
def WO.weak(h:WO X o t)(k:∀σ H Q,t' σ H Q->t σ H Q):WO X o t':=⟨λaa s σ H Q I q=>h.un aa s σ H Q I (k σ H Q q)⟩
def Atw:WO X none (tFo Θ E Bd):=WO.weak Ax1 λσ H Q ⟨Y,S,Z,R,sl,q⟩=>q.now R rfl
theorem Atx(ha:WE X a (tF Θ E f)):WO X (some a) (tFo Θ E (Bv f)):=WO.weak (Ax2 ha) λσ H Q zz=>by
 obtain⟨Y,S,Z,R,sl,q⟩:=zz;refine⟨Y,S,Z,R,sl,(Ay.seq (Rel:=RV Θ) q).mono ?_⟩;rintro v H1 ⟨Y1,S1,w,p1,t1,R1,rv,q1⟩;cases rv <;> first|exact(show False from q1).elim|skip
 exact⟨_,rfl,Ay.now (Rel:=λ_ _ a b=>a=b) q1 R1 rfl⟩
def Ayt(f:De->M W):De->M W:=λZ=>do let x<-f Z;match x with
 |.tup ws=>pure (.tup ws.reverse)
 |_=>bad
theorem RVs.reverse(r:RVs Θ Y H ws vs):RVs Θ Y H ws.reverse vs.reverse:=by
 induction vs generalizing ws with
 |nil=>cases r;exact .nil
 |cons v vs ih=>cases r with|cons h r=>rw[lB,lB];exact(ih r).append (.cons h .nil)
theorem Bjg{st:cA}{p2:Pos}(hK:X.K=Θ.K)(ha:WE X a (tF Θ E f))(hs:WE X st (tF Θ E (λ_=>pure (.int (-1))))):WE X (.Subscript a (.Slice none none (some st) p2) pos) (tF Θ E (Ayt f)):=
 WE.weak ⟨Bes ha.un (Atx hs).un⟩ λσ H Q zz=>by
  obtain⟨Y,S,Z,R,sl,q⟩:=zz;refine⟨Y,S,Z,R,sl,(Ay.seq (Rel:=RV Θ) q).mono ?_⟩;rintro v H1 ⟨Y1,S1,w,p1,t1,R1,rv,q1⟩;refine⟨Y1,S1,Z,R1,sl.mono p1 t1,?_⟩;show Ay Θ (λ_ _ a b=>a=b) Y1 H1 ((pure (some (-1)):M (Option Int)) S1) _ _;intro Y2 H2 i p2 t2 R2 e;refine⟨e.symm,?_⟩;cases rv <;> first|exact(show False from q1).elim|skip
  rename_i a ws vs h1 r1;exact⟨a,vs,rfl,hK ▸ SqT.of (t2.t _ _ h1),λp hp=>q1 Y2 _ _ p2 (t2.trans (Cj hp)) (R2.beside hp) (.tup Bl ((r1.mono p2 t2).reverse.mono (aX _) (Cj hp)))⟩
theorem Ayu{lo hi:Option cA}{l u:De->M (Option Int)}{p2:Pos}(hK:X.K=Θ.K)(ha:WE X a (tF Θ E f))(hl:WO X lo (tFo Θ E l))(hu:WO X hi (tFo Θ E u)):WE X (.Subscript a (.Slice lo hi none p2) pos) (tF Θ E (slF Θ.ns f l u)):=
 WE.weak (Bd8 ((Bdp.or Ayr).or (Axo.or Bd6)) ha hl hu) λσ H Q zz=>by
  obtain⟨Y,S,Z,R,sl,q⟩:=zz;refine⟨Y,S,Z,R,sl,(Ay.seq (Rel:=RV Θ) q).mono ?_⟩;rintro v H1 ⟨Y1,S1,w,p1,t1,R1,rv,q1⟩;refine⟨Y1,S1,Z,R1,sl.mono p1 t1,(Ay.seq (Rel:=λ_ _ a b=>a=b) q1).mono ?_⟩;rintro lo' H2 ⟨Y2,S2,_,p2,t2,R2,rfl,q2⟩;refine⟨Y2,S2,Z,R2,(sl.mono p1 t1).mono p2 t2,(Ay.seq (Rel:=λ_ _ a b=>a=b) q2).mono ?_⟩;rintro hi' H3 ⟨Y3,S3,_,p3,t3,R3,rfl,q3⟩;rw[hK];exact Blr R3 ((rv.mono p2 t2).mono p3 t3) q3
end
noncomputable def Bw(ns:List Int):List W->M W
 |[.str z]=>if z.length<=big then pure (.int z.length) else bad
 |[.tup ws]=>pure (.int ws.length)
 |[.scr]=>pure (.int ns.length)
 |[.ref n]=>λS=>match S[n]? with
  |some (.lst ws)=>.ok (.int ws.length) S
  |_=>.bad
 |_=>bad
noncomputable def Aty:List W->M W
 |[.int i,.int j]=>pure (.int (if j > i then j else i))
 |_=>bad
def asInt:W->Option Int
 |.int i=>some i
 |_=>none
def Ayv:W->Option Bool
 |.bl i=>some i
 |_=>none
def asStr:W->Option Str
 |.str i=>some i
 |_=>none
noncomputable def Ai2:List W->M W
 |[.ref n]=>λS=>match S[n]? with
  |some (.lst ws)=>match Gb asInt ws with
   |some is=>.ok (.int is.sum) S
   |none=>.bad
  |_=>.bad
 |_=>bad
noncomputable def Jm:List W->M W
 |[.ref n]=>λS=>match S[n]? with
  |some (.lst ws)=>match Gb Ayv ws with
   |some is=>.ok (.bl (is.all id)) S
   |none=>.bad
  |_=>.bad
 |_=>bad
noncomputable def Ep(ns:List Int):List W->M W
 |[.ref n]=>λS=>match S[n]? with
  |some (.lst ws)=>.ok (.tup ws) S
  |_=>.bad
 |_=>bad
noncomputable def chars(z:Str):List W:=z.cps.toList.map λc=>W.str ⟨#[c]⟩
noncomputable def Afg(ns:List Int):List W->M W
 |[.tup ws]=>Ck ws
 |_=>bad
def Xf:Key×W->Option Str
 |(.inr s,_)=>some s
 |_=>none
noncomputable def Jz:List W->M W
 |[.ref n]=>λS=>match S[n]? with
  |some (.lst ws)=>match Gb asStr ws with
   |some ss=>if ss.length < 64\/ss=Srt.ky64 then Ck ((Mw ss).map W.str) S else .bad
   |none=>.bad
  |some (.dct kvs)=>if kvs.length < 64 then match Gb Xf kvs with
    |some ss=>Ck ((Mw ss).map W.str) S
    |none=>.bad
   else .bad
  |_=>.bad
 |_=>bad
def Tj:List W->M W
 |[x]=>λS=>match Gg S 16 x with
  |some d=>if d.showable&&!d.hasDict&&decide (d.depth<=40)&&decide (d.shown.length<=sizeLine) then .ok (.str d.shown) S else .bad
  |none=>.bad
 |_=>bad
section
theorem Bjh(R:Rep Θ Y S H)(r:RVs Θ Y H ws vs)(h:Ay Θ (RV Θ) Y H (Tj ws S) Q E):∃x d,vs=[x]/\DV H x d/\d.showable=true/\d.hasDict=false/\d.depth<=40/\d.shown.length<=sizeLine/\Q (.str d.shown) H:=by
 unfold Tj at h;split at h
 .cases r with|cons h1 r=>
  cases r;split at h
  .rename_i d e;split at h
   .rename_i hz;rw[aC,aC,aC,dJ] at hz;exact⟨_,d,rfl,Qo R 16 _ _ d h1 e,hz.1.1.1,hz.1.1.2,of_decide_eq_true hz.1.2,of_decide_eq_true hz.2,Jy h R (.str _)⟩
   .exact(show False from h).elim
  .exact(show False from h).elim
 .exact(show False from h).elim
theorem V6{α:Type}{f:W->Option α}{k:α->V}(hf:∀w v a,RV Θ Y H w v->f w=some a->v=k a){ws:List W}{vs:List V}{is:List α}(r:RVs Θ Y H ws vs)(e:Gb f ws=some is):vs=is.map k:=by
 induction ws generalizing vs is with
 |nil=>cases r;cases e;rfl
 |cons w ws ih=>cases r with|cons h r=>
  obtain⟨a,as,e1,e2,rfl⟩:=Aci e;rw[hf _ _ _ h e1,ih r e2];rfl
theorem Atz(w:W)(v:V)(i:Int)(h:RV Θ Y H w v)(e:asInt w=some i):v=.int i:=by
 cases h <;> simp only[asInt,gF,reduceCtorEq] at e
 subst e;rfl
theorem Ayw(w:W)(v:V)(i:Bool)(h:RV Θ Y H w v)(e:Ayv w=some i):v=.bl i:=by
 cases h <;> simp only[Ayv,gF,reduceCtorEq] at e
 subst e;rfl
theorem Ai3(w:W)(v:V)(i:Str)(h:RV Θ Y H w v)(e:asStr w=some i):v=.str i:=by
 cases h <;> simp only[asStr,gF,reduceCtorEq] at e
 subst e;rfl
theorem paired_len{α β:Type}{F:α->β->Prop}{l:List α}{m:List β}(r:qD F l m):l.length=m.length:=by
 induction r with
 |nil=>rfl
 |cons _ _ ih=>rw[aU,aU,ih]
theorem Bls(R:Rep Θ Y S H)(r:RVs Θ Y H ws vs)(h:Ay Θ (RV Θ) Y H (Bw Θ.ns ws S) Q E):∃x n,vs=[x]/\Bh6 Θ.K x H n/\Q (.int n) H:=by
 unfold Bw at h;split at h
 .cases r with|cons h1 r=>
  cases r;cases h1;obtain⟨hz,h⟩:=Ip h;exact⟨_,_,rfl,⟨Jl hz,rfl⟩,h.now R (.int _)⟩
 .cases r with|cons h1 r=>
  cases r;cases h1 with|tup h1 r1=>
  refine⟨_,_,rfl,.inr ⟨_,SqT.of h1,rfl⟩,?_⟩;rw[<-r1.length];exact h.now R (.int _)
 .cases r with|cons h1 r=>
  cases r;cases h1 with|scr hs=>
  refine⟨_,_,rfl,.inl ⟨_,hs.sq,rfl⟩,?_⟩;rw[aA];exact h.now R (.int _)
 .cases r with|cons h1 r=>
  cases r;cases h1 with|@ref n a hn=>
  split at h
  .rename_i us e1;obtain⟨a',ha',zs,h2,r2⟩:=R.get e1;rw[hn] at ha';cases ha';refine⟨_,_,rfl,.inl ⟨_,.inl (.inl h2),rfl⟩,?_⟩;rw[<-r2.length];exact Jy h R (.int _)
  .exact(show False from h).elim
 .exact(show False from h).elim
theorem Blt(R:Rep Θ Y S H)(r:RVs Θ Y H ws vs)(h:Ay Θ (RV Θ) Y H (Aty ws S) Q E):∃i j,vs=[.int i,.int j]/\Q (.int (if j > i then j else i)) H:=by
 unfold Aty at h;split at h
 .cases r with|cons h1 r=>
  cases r with|cons h2 r=>
  cases r;cases h1;cases h2;exact⟨_,_,rfl,h.now R (.int _)⟩
 .exact(show False from h).elim
theorem Blu(R:Rep Θ Y S H)(r:RVs Θ Y H ws vs)(h:Ay Θ (RV Θ) Y H (Ai2 ws S) Q E):∃p,∃ns:List Int,vs=[.ref p]/\H p=some (.lst (ns.map V.int))/\Q (.int ns.sum) H:=by
 unfold Ai2 at h;split at h
 .cases r with|cons h1 r=>
  cases r;cases h1 with|@ref n a hn=>
  split at h
  .rename_i us e1;split at h
   .rename_i is e2;obtain⟨a',ha',zs,h2,r2⟩:=R.get e1;rw[hn] at ha';cases ha';rw[V6 Atz r2 e2] at h2;exact⟨_,is,rfl,h2,Jy h R (.int _)⟩
   .exact(show False from h).elim
  .exact(show False from h).elim
 .exact(show False from h).elim
theorem Blv(R:Rep Θ Y S H)(r:RVs Θ Y H ws vs)(h:Ay Θ (RV Θ) Y H (Jm ws S) Q E):∃p,∃bs:List Bool,vs=[.ref p]/\H p=some (.lst (bs.map V.bl))/\Q (.bl (bs.all id)) H:=by
 unfold Jm at h;split at h
 .cases r with|cons h1 r=>
  cases r;cases h1 with|@ref n a hn=>
  split at h
  .rename_i us e1;split at h
   .rename_i is e2;obtain⟨a',ha',zs,h2,r2⟩:=R.get e1;rw[hn] at ha';cases ha';rw[V6 Ayw r2 e2] at h2;exact⟨_,is,rfl,h2,Jy h R (.bl _)⟩
   .exact(show False from h).elim
  .exact(show False from h).elim
 .exact(show False from h).elim
theorem Be6(R:Rep Θ Y S H)(r:RVs Θ Y H ws vs)(h:Ay Θ (RV Θ) Y H (Ep Θ.ns ws S) Q E):
  ∃p ys,vs=[.ref p]/\((SqL Θ.K H p ys/\∀l,H l=none->Q (.ref l) (upd H l (.tup ys)))\/(SqT Θ.K H p ys/\Q (.ref p) H)):=by
 unfold Ep at h;split at h
 .cases r with|cons h1 r=>
  cases r;cases h1 with|@ref n a hn=>
  split at h
  .rename_i us e1;obtain⟨a',ha',zs,h2,r2⟩:=R.get e1;rw[hn] at ha';cases ha';exact⟨_,_,rfl,.inl ⟨.inl (.inl h2),Afe R r2 h⟩⟩
  .exact(show False from h).elim
 .exact(show False from h).elim
theorem V7:∀ss:List Str,RVs Θ Y H (ss.map W.str) (ss.map V.str)
 |[]=>.nil
 |s::ss=>.cons (.str s) (V7 ss)
theorem Bji(R:Rep Θ Y S H)(r:RVs Θ Y H ws vs)(h:Ay Θ (RV Θ) Y H (Afg Θ.ns ws S) Q E):
  ∃p ys,vs=[.ref p]/\(SqL Θ.K H p ys\/SqT Θ.K H p ys)/\∀l,H l=none->Q (.ref l) (upd H l (.lst ys)):=by
 unfold Afg at h;split at h
 .cases r with|cons h1 r=>
  cases r;cases h1 with|tup h1 r1=>
  exact⟨_,_,rfl,.inr (SqT.of h1),(Km R r1 h).2⟩
 .exact(show False from h).elim
theorem keys_str:∀{kvs:List (Key×W)} {zs:List (Key×V)} {ss:List Str},RKV Θ Y H kvs zs->Gb Xf kvs=some ss->zs.map (·.1)=ss.map jJ:=by
 intro kvs zs ss r;unfold RKV at r;induction r generalizing ss with
 |nil=>intro h;cases h;rfl
 |@cons a b l m h _ ih=>
  intro e;unfold Gb at e;obtain⟨k,w⟩:=a;cases k with
  |inl i=>simp only[Xf] at e;cases e
  |inr s=>
   simp only[Xf] at e;cases e2:Gb Xf l with
   |none=>rw[e2] at e;cases e
   |some ys=>
    rw[e2] at e;cases e;have hk:=h.1;simp only[aG,ih e2,<-hk]
theorem Ayx(R:Rep Θ Y S H)(r:RVs Θ Y H ws vs)(h:Ay Θ (RV Θ) Y H (Jz ws S) Q E):
  ((∃p,∃ss:List Str,vs=[.ref p]/\H p=some (.lst (ss.map V.str))/\ss.length < 64/\∀q,H q=none->Q (.ref q) (upd H q (.lst ((Mw ss).map V.str))))\/(∃p,vs=[.ref p]/\H p=some (.lst (Srt.ky64.map V.str))/\∀q,H q=none->Q (.ref q) (upd H q (.lst ((Mw Srt.ky64).map V.str)))))\/
  ∃p kvs,vs=[.ref p]/\H p=some (.dK kvs)/\kvs.length < 64/\∃ss:List Str,kvs.map (·.1)=ss.map jJ/\∀q,H q=none->Q (.ref q) (upd H q (.lst ((Mw ss).map V.str))):=by
 unfold Jz at h;split at h
 .cases r with|cons h1 r=>
  cases r;cases h1 with|@ref n a hn=>
  split at h
  .rename_i us e1;obtain⟨a',ha',zs,h2,r2⟩:=R.get e1;rw[hn] at ha';cases ha';split at h
   .rename_i is e2;rw[V6 Ai3 r2 e2] at h2;split at h
    .rename_i hl;rcases hl with hl|rfl
     .exact .inl (.inl ⟨_,is,rfl,h2,hl,(Km R (V7 _) h).2⟩)
     .exact .inl (.inr ⟨_,rfl,h2,(Km R (V7 _) h).2⟩)
    .exact(show False from h).elim
   .exact(show False from h).elim
  .rename_i us e1;obtain⟨a',ha',zs,h2,r2⟩:=R.get e1;rw[hn] at ha';cases ha';split at h
   .rename_i hl;split at h
    .rename_i is e2;exact .inr ⟨_,_,rfl,h2,by have:us.length=zs.length:=paired_len r2;omega,is,keys_str r2 e2,(Km R (V7 _) h).2⟩
    .exact(show False from h).elim
   .exact(show False from h).elim
  .exact(show False from h).elim
 .exact(show False from h).elim
end
def Ayy(ns:List Int)(x:Str):Option (List W->M W):=
 if x="len" then some (Bw ns) else if x="max" then some Aty else if x="sum" then some Ai2 else if x="all" then some Jm else if x="sorted" then some Jz else if x="repr" then some Tj else none
noncomputable def Ayz(ns:List Int)(x:Str):Option (List W->M W):=if x="tuple" then some (Ep ns) else if x="list" then some (Afg ns) else none
structure At0(Θ:Th)(X:Cx)(v:aJ)(g:List W->M W) where
 r:List V->Hp->VK->Prop
 ok:Gy X v r
 by_:∀Y S H ws vs Q E,Rep Θ Y S H->RVs Θ Y H ws vs->Ay Θ (RV Θ) Y H (g ws S) Q E->r vs H Q
theorem Ay0(hK:X.K=Θ.K)(hg:X.A.guards=some [])(hu:X.A.units+64 < cLine)(hc:X.calm=true)(h:Ayy Θ.ns x=some g):∃id,bootBuiltins x=some (.builtin id)/\Nonempty (At0 Θ X (.builtin id) g):=by
 unfold Ayy at h;split at h
 .rename_i e;subst e;cases h;exact⟨"len",by kernel_rfl,⟨⟨_,Asm,λY S H ws vs Q E R r h=>by rw[hK];exact Bls R r h⟩⟩⟩
 split at h
 .rename_i e;subst e;cases h;exact⟨"max",by kernel_rfl,⟨⟨_,Api hc,λY S H ws vs Q E R r h=>Blt R r h⟩⟩⟩
 split at h
 .rename_i e;subst e;cases h;exact⟨"sum",by kernel_rfl,⟨⟨_,As8 hc,λY S H ws vs Q E R r h=>Blu R r h⟩⟩⟩
 split at h
 .rename_i e;subst e;cases h;exact⟨"all",by kernel_rfl,⟨⟨_,As7 hc,λY S H ws vs Q E R r h=>Blv R r h⟩⟩⟩
 split at h
 .rename_i e;subst e;cases h;exact⟨"sorted",by kernel_rfl,⟨⟨_,(Agw.or Aek).or (Agx hc),λY S H ws vs Q E R r h=>Ayx R r h⟩⟩⟩
 split at h
 .rename_i e;subst e;cases h;exact⟨"repr",by kernel_rfl,⟨⟨_,Ap7 hg hu,λY S H ws vs Q E R r h=>Bjh R r h⟩⟩⟩
 .cases h
theorem Ay1(hK:X.K=Θ.K)(hc:X.calm=true)(h:Ayz Θ.ns x=some g):∃T,bootBuiltins x=some (.type T)/\Nonempty (At0 Θ X (.type T) g):=by
 unfold Ayz at h;split at h
 .rename_i e;subst e;cases h;exact⟨"tuple",by kernel_rfl,⟨⟨_,Aej,λY S H ws vs Q E R r h=>by rw[hK];exact Be6 R r h⟩⟩⟩
 split at h
 .rename_i e;subst e;cases h;exact⟨"list",by kernel_rfl,⟨⟨_,Agn,λY S H ws vs Q E R r h=>by rw[hK];exact Bji R r h⟩⟩⟩
 .cases h
section
theorem Blw(hK:X.K=Θ.K)(hgd:X.A.guards=some [])(hu:X.A.units+64 < cLine)(hc:X.calm=true)(hx:Ayy Θ.ns x=some fn)(hm:X.mg x=none)(ha:WA X (e::es) (tFs Θ E gs))(hg:X.env.kindOf x=some .globalImplicit)(hn:decide (x=("__name__":Str))=false)(hdb:(x==("__debug__":Str))=false)(he:starEach (e::es) X.env=(false,eval e X.env)::starEach es X.env)(hpl:(backTo pos (starEach es X.env)).any (·.1)=false):WE X (.Call (.Name x p) (e::es) [] pos) (tF Θ E (Cp fn gs)):=by
 obtain⟨id,hv,⟨o⟩⟩:=Ay0 (X:=X) hK hgd hu hc hx;refine WE.weak (kbi o.ok hm hv ha hg hn hdb he hpl) λσ H Q zz=>?_;obtain⟨Y,S,Z,R,sl,q⟩:=zz;refine⟨Y,S,Z,R,sl,(Ay.seq (Rel:=RVs Θ) q).mono ?_⟩;rintro vs H1 ⟨Y1,S1,ws,p1,t1,R1,rvs,q1⟩;exact o.by_ Y1 S1 H1 ws vs Q (E σ) R1 rvs q1
theorem Blx(hK:X.K=Θ.K)(hc:X.calm=true)(hx:Ayz Θ.ns x=some fn)(hm:X.mg x=none)(ha:WA X (e::es) (tFs Θ E gs))(hg:X.env.kindOf x=some .globalImplicit)(hn:decide (x=("__name__":Str))=false)(hdb:(x==("__debug__":Str))=false)(he:starEach (e::es) X.env=(false,eval e X.env)::starEach es X.env)(hpl:(backTo pos (starEach es X.env)).any (·.1)=false):WE X (.Call (.Name x p) (e::es) [] pos) (tF Θ E (Cp fn gs)):=by
 obtain⟨T,hv,⟨o⟩⟩:=Ay1 (X:=X) hK hc hx;refine WE.weak ⟨Apm o.ok hg hm hv ha.un (of_decide_eq_false hn) hdb he hpl⟩ λσ H Q zz=>?_;obtain⟨Y,S,Z,R,sl,q⟩:=zz;refine⟨Y,S,Z,R,sl,(Ay.seq (Rel:=RVs Θ) q).mono ?_⟩;rintro vs H1 ⟨Y1,S1,ws,p1,t1,R1,rvs,q1⟩;exact o.by_ Y1 S1 H1 ws vs Q (E σ) R1 rvs q1
end
inductive RS where
 |nx (Z:De) (S:Store)
 |rt (w:W) (S:Store)
 |bk (Z:De) (S:Store)
 |ct (Z:De) (S:Store)
 |ex (c:Nat×W) (Z:De) (S:Store)
 |bad
abbrev MS:=De->Store->RS
def Er{α:Type}(m:M α)(k:α->MS):MS:=λZ S=>match m S with
 |.ok a S1=>k a Z S1
 |.exc c S1=>.ex c Z S1
 |.bad=>.bad
noncomputable def Aw:MS:=.nx
noncomputable def An(a b:MS):MS:=λZ S=>match a Z S with
 |.nx Z1 S1=>b Z1 S1
 |r=>r
def Br(i:Nat)(f:De->M W):MS:=λZ=>Er (f Z) (λw Z S=>.nx (Z.set i (some w)) S) Z
noncomputable def retS(f:De->M W):MS:=λZ=>Er (f Z) (λw _ S=>.rt w S) Z
def G4(f:De->M W):MS:=λZ=>Er (f Z) (λ_ Z S=>.nx Z S) Z
def ifS(c:De->M Bool)(a b:MS):MS:=λZ=>Er (c Z) (λt=>if t then a else b) Z
noncomputable def Hz(c:De->M Bool)(b:MS):Nat->MS
 |0=>λ_ _=>.bad
 |n+1=>λZ=>Er (c Z) (λt=>if t then λZ S=>match b Z S with
  |.nx Z1 S1=>Hz c b n Z1 S1
  |.ct Z1 S1=>Hz c b n Z1 S1
  |.bk Z1 S1=>.nx Z1 S1
  |r=>r else .nx) Z
section
variable(Θ:Th)
def RSs(Y:List aQ)(H:Hp)(Z:De)(σ:L2.St):Prop:=Z.length=σ.length/\RSl Θ Y H Z σ
def Dy(Y:List aQ)(H:Hp)(r:RS)(D:Ends)(E:L2.St->XK):Prop:=match r with
 |.nx Z S=>∀Y' H' σ',Y <+: Y'->Ds Y Y' H H'->Rep Θ Y' S H'->RSs Θ Y' H' Z σ'->D.nx σ' H'
 |.bk Z S=>∀Y' H' σ',Y <+: Y'->Ds Y Y' H H'->Rep Θ Y' S H'->RSs Θ Y' H' Z σ'->D.bk σ' H'
 |.ct Z S=>∀Y' H' σ',Y <+: Y'->Ds Y Y' H H'->Rep Θ Y' S H'->RSs Θ Y' H' Z σ'->D.ct σ' H'
 |.rt w S=>∀Y' H' v,Y <+: Y'->Ds Y Y' H H'->Rep Θ Y' S H'->RV Θ Y' H' w v->D.rt v H'
 |.ex c Z S=>∀Y' H' σ',Y <+: Y'->Ds Y Y' H H'->Rep Θ Y' S H'->RSs Θ Y' H' Z σ'->XP Θ Y' H' c (E σ')
 |.bad=>False
def tS(E:L2.St->XK)(f:MS):TS:=λD σ H=>∃Y S Z,Rep Θ Y S H/\RSs Θ Y H Z σ/\Dy Θ Y H (f Z S) D E
end
section
variable{Θ:Th}{X:Cx}{st:dG}{sts:List dG}{e c:cA}{pos pos':Pos}{E:L2.St->XK}{f:De->M W}{cf:De->M Bool}{a b:MS}{x:Str}
def RSs.mono(p:Y <+: Y')(t:Ds Y Y' H H')(h:RSs Θ Y H Z σ):RSs Θ Y' H' Z σ:=⟨h.1,h.2.mono p t⟩
theorem RSs.set{i:Nat}(h:RSs Θ Y H Z σ)(r:RV Θ Y H w v):RSs Θ Y H (Z.set i (some w)) (σ.set i (some v)):=by
 refine⟨by rw[fD,fD];exact h.1,λj u e=>?_⟩
 by_cases hj:j=i
 .subst hj;have hl:j < Z.length:=by
   have z:=(aL.mp e).1
   rwa [fD] at z
  rw[cQ hl] at e;cases e;exact⟨v,cQ (by rw[<-h.1];exact hl),r⟩
 .rw[cJ (gO hj)] at e;obtain⟨z,h1,h2⟩:=h.2 j u e;exact⟨z,by rw[cJ (gO hj)];exact h1,h2⟩
theorem Dy.shift(h:Dy Θ Y H r D E)(p:Y <+: Y1)(t:Ds Y Y1 H H1):Dy Θ Y1 H1 r D E:=by
 cases r with
 |bad=>exact h
 |_=>exact λY2 H2 v p2 t2 r2 q2=>h Y2 H2 v (p.trans p2) (t.trans t2) r2 q2
def Dy.nxt(h:Dy Θ Y H (.nx Z S) D E)(R:Rep Θ Y S H)(sl:RSs Θ Y H Z σ):D.nx σ H:=h Y H σ (aX Y) (Ds.refl Y H) R sl
def Dy.ret(h:Dy Θ Y H (.rt w S) D E)(R:Rep Θ Y S H)(rv:RV Θ Y H w v):D.rt v H:=h Y H v (aX Y) (Ds.refl Y H) R rv
theorem Dy.lift{α β:Type}{Rel:List aQ->Hp->α->β->Prop}{m:M α}{k:α->MS}(sl:RSs Θ Y H Z σ)(h:Dy Θ Y H (Er m k Z S) D E):
  Ay Θ Rel Y H (m S) (λv H1=>∃Y1 S1 w,Y <+: Y1/\Ds Y Y1 H H1/\Rep Θ Y1 S1 H1/\RSs Θ Y1 H1 Z σ/\Rel Y1 H1 w v/\Dy Θ Y1 H1 (k w Z S1) D E) (E σ):=by
 unfold Er at h;cases e:m S with
 |bad=>rw[e] at h;exact h
 |exc c S1=>rw[e] at h;exact λY1 H1 p t r=>h Y1 H1 σ p t r (sl.mono p t)
 |ok w S1=>
  rw[e] at h;exact λY1 H1 v p t r rw'=>⟨Y1,S1,w,p,t,r,sl.mono p t,rw',Dy.shift h p t⟩
def WS.weak(h:WS X st t)(k:∀D σ H,t' D σ H->t D σ H):WS X st t':=⟨λaa s σ H D I q=>h.un aa s σ H D I (k D σ H q)⟩
def WSs.weak(h:WSs X sts t)(k:∀D σ H,t' D σ H->t D σ H):WSs X sts t':=⟨λaa s σ H D I q=>h.un aa s σ H D I (k D σ H q)⟩
def Be7:WSs X [] (tS Θ E Aw):=WSs.weak Ble λD σ H ⟨Y,S,Z,R,sl,q⟩=>q.nxt R sl
theorem Ay2(ha:WS X st (tS Θ E a))(hb:WSs X sts (tS Θ E b)):WSs X (st::sts) (tS Θ E (An a b)):=WSs.weak (Bix ha hb) λD σ H zz=>by
 obtain⟨Y,S,Z,R,sl,q⟩:=zz;refine⟨Y,S,Z,R,sl,?_⟩;unfold An at q;cases e:a Z S with
 |nx Z1 S1=>
  rw[e] at q;exact λY1 H1 σ1 p1 t1 R1 sl1=>⟨Y1,S1,Z1,R1,sl1,Dy.shift q p1 t1⟩
 |_=>rw[e] at q;exact q
theorem At1{i:Nat}(he:WE X e (tF Θ E f))(nd:decide X.N.Nodup=true)(hi:X.N[i]?=some x)(hl:Alk X.env.scope x=true)(hs:swapsWith e (some (.Name x pos')) pos.line X.env=pure false)(hf:X.fn x=true):
  WS X (.Assign [.Name x pos'] e pos) (tS Θ E (Br i f)):=WS.weak (Blb he nd hi hl hs hf) λD σ H zz=>by
 obtain⟨Y,S,Z,R,sl,q⟩:=zz;refine⟨Y,S,Z,R,sl.2,(Dy.lift (Rel:=RV Θ) sl q).mono ?_⟩;rintro v H1 ⟨Y1,S1,w,p1,t1,R1,sl1,rv,q1⟩;exact q1.nxt R1 (sl1.set rv)
theorem Be8(he:WE X e (tF Θ E f)):WS X (.Return (some e) pos) (tS Θ E (retS f)):=WS.weak (Blc he) λD σ H zz=>by
 obtain⟨Y,S,Z,R,sl,q⟩:=zz;refine⟨Y,S,Z,R,sl.2,(Dy.lift (Rel:=RV Θ) sl q).mono ?_⟩;rintro v H1 ⟨Y1,S1,w,p1,t1,R1,sl1,rv,q1⟩;exact q1.ret R1 rv
theorem Ay3(he:WE X e (tF Θ E f))(hs:swapsWith e none pos.line X.env=pure false):WS X (.Expr e pos) (tS Θ E (G4 f)):=WS.weak (Biv he hs) λD σ H zz=>by
 obtain⟨Y,S,Z,R,sl,q⟩:=zz;refine⟨Y,S,Z,R,sl.2,(Dy.lift (Rel:=RV Θ) sl q).mono ?_⟩;rintro v H1 ⟨Y1,S1,w,p1,t1,R1,sl1,rv,q1⟩;exact q1.nxt R1 sl1
theorem Bjj(hc:WT X c (tFb Θ E cf))(ha:WSs X A (tS Θ E a))(hb:WSs X B (tS Θ E b)):WS X (.If c A B pos) (tS Θ E (ifS cf a b)):=WS.weak (sif hc ha hb) λD σ H zz=>by
 obtain⟨Y,S,Z,R,sl,q⟩:=zz;refine⟨Y,S,Z,R,sl.2,(Dy.lift (Rel:=λ_ _ a b=>a=b) sl q).mono ?_⟩;rintro v H1 ⟨Y1,S1,w,p1,t1,R1,sl1,rfl,q1⟩;cases w with
 |true=>exact L2.Agq ⟨Y1,S1,Z,R1,sl1,q1⟩
 |false=>exact L2.Aim ⟨Y1,S1,Z,R1,sl1,q1⟩
theorem At2(n:Nat)(hp:qO (model X.prog X.w) X.A X.env X.xe)(hc:WT X c (tFb Θ E cf))(hb:WSs X body (tS Θ E b)):WS X (.While c body [] pos) (tS Θ E (Hz cf b n)):=
 WS.weak ⟨Ash hp hc.un hb.un⟩ λD σ H zz=>by
  obtain⟨Y,S,Z,R,sl,q⟩:=zz;refine⟨λm σ H=>∃Y S Z,Rep Θ Y S H/\RSs Θ Y H Z σ/\Dy Θ Y H (Hz cf b m Z S) D E,⟨n,Y,S,Z,R,sl,q⟩,?_⟩;rintro m σ H ⟨Y,S,Z,R,sl,q⟩;cases m with
  |zero=>exact q.elim
  |succ m=>
   refine⟨Y,S,Z,R,sl.2,(Dy.lift (Rel:=λ_ _ a b=>a=b) sl q).mono ?_⟩;rintro v H1 ⟨Y1,S1,w,p1,t1,R1,sl1,rfl,q1⟩;cases w with
   |false=>exact L2.Aim (q1.nxt R1 sl1)
   |true=>
    refine L2.Agq ⟨λσ H=>∃Y S Z,Rep Θ Y S H/\RSs Θ Y H Z σ/\Dy Θ Y H (Hz cf b m Z S) D E,λσ' H' h=>⟨m,jO m,h⟩,Y1,S1,Z,R1,sl1,?_⟩;simp only[if_true] at q1;cases e:b Z S1 with
    |nx Z2 S2=>
     rw[e] at q1;exact λY2 H2 σ2 p2 t2 R2 sl2=>⟨Y2,S2,Z2,R2,sl2,Dy.shift q1 p2 t2⟩
    |ct Z2 S2=>
     rw[e] at q1;exact λY2 H2 σ2 p2 t2 R2 sl2=>⟨Y2,S2,Z2,R2,sl2,Dy.shift q1 p2 t2⟩
    |bk Z2 S2=>
     rw[e] at q1;exact λY2 H2 σ2 p2 t2 R2 sl2=>q1 Y2 H2 σ2 p2 t2 R2 sl2
    |_=>rw[e] at q1;exact q1
end
abbrev Tg:=W->De->Option De
def Bg(i:Nat):Tg:=λw Z=>some (Z.set i (some w))
noncomputable def Aem(is:List Nat):Tg:=λw Z=>match w with
 |.tup ws=>if ws.length=is.length then some ((is.zip ws).foldl (λZ p=>Z.set p.1 (some p.2)) Z) else none
 |_=>none
def GOk(Θ:Th)(s:Tg)(g:TG):Prop:=∀Y S H w v Z Z' σ Q,Rep Θ Y S H->RSs Θ Y H Z σ->RV Θ Y H w v->s w Z=some Z'->(∀σ',RSs Θ Y H Z' σ'->Q σ' H)->g v σ H Q
theorem Ai4(i:Nat):GOk Θ (Bg i) (Ms i):=λY S H w v Z Z' σ Q R sl rv e k=>by
 cases e;exact k _ (sl.set rv)
def Acj:List Nat->TGs
 |[]=>Bhy
 |i::is=>Bbx (Ms i) (Acj is)
theorem Afh:∀(is:List Nat) {ws:List W} {vs:List V} {Z:De} {σ:L2.St} {Q:L2.St->Hp->Prop},RVs Θ Y H ws vs->RSs Θ Y H Z σ->ws.length=is.length->
  (∀σ',RSs Θ Y H ((is.zip ws).foldl (λZ p=>Z.set p.1 (some p.2)) Z) σ'->Q σ' H)->Acj is vs σ H Q
 |[],_,_,_,_,_,.nil,sl,_,k=>⟨rfl,k _ sl⟩
 |[],_,_,_,_,_,.cons _ _,_,e,_=>by simp at e
 |i::is,_,_,_,_,_,.nil,_,e,_=>by simp at e
 |i::is,_,_,_,_,_,.cons h r,sl,e,k=>⟨_,_,rfl,Afh is r (sl.set h) (by simpa using e) k⟩
theorem Anx{Θ:Th}{K:aF}(is:List Nat){n:Nat}(hn:n=is.length):GOk Θ (Aem is) (Bc3 K n (Acj is)):=λY S H w v Z Z' σ Q R sl rv e k=>by
 cases rv <;> try (simp only[Aem,reduceCtorEq] at e;done)
 rename_i a ws vs h1 r1;simp only[Aem] at e;split at e
 .rename_i hz;cases e;exact⟨_,_,rfl,SqT.of h1,by rw[<-r1.length,hz,hn],Afh is r1 sl hz k⟩
 .cases e
noncomputable def Jh(s:Tg)(b:MS):List W->MS
 |[]=>.nx
 |w::ws=>λZ S=>match s w Z with
  |none=>.bad
  |some Z1=>match b Z1 S with
   |.nx Z2 S2=>Jh s b ws Z2 S2
   |.ct Z2 S2=>Jh s b ws Z2 S2
   |.bk Z2 S2=>.nx Z2 S2
   |r=>r
noncomputable def forL(s:Tg)(b:MS)(n:Nat):Nat->Nat->MS
 |0,_=>λ_ _=>.bad
 |m+1,i=>λZ S=>match S[n]? with
  |some (.lst ws)=>match ws[i]? with
   |none=>.nx Z S
   |some w=>match s w Z with
    |none=>.bad
    |some Z1=>match b Z1 S with
     |.nx Z2 S2=>forL s b n m (i+1) Z2 S2
     |.ct Z2 S2=>forL s b n m (i+1) Z2 S2
     |.bk Z2 S2=>.nx Z2 S2
     |r=>r
  |_=>.bad
structure JOk(Θ:Th)(J:It)(all:List W)(Y0:List aQ)(H0:Hp):Prop where
 go:∀Y H i,Y0 <+: Y->Ds Y0 Y H0 H->i < all.length->J.go i H/\∀x H',J.yld i H x H'->Ds Y Y H H'/\(∀S,Rep Θ Y S H->Rep Θ Y S H')/\∃w,all[i]?=some w/\RV Θ Y H' w x
 stop:∀Y H i,Ds Y0 Y H0 H->i=all.length->J.stop i H
section
theorem Ay4(gk:GOk Θ s g)(jk:JOk Θ J all Y H)(R:Rep Θ Y S H)(sl:RSs Θ Y H Z σ)(q:Dy Θ Y H (Jh s b all Z S) D E):
  ∃W:Nat->Nat->L2.St->Hp->Prop,(∃m,W 0 m σ H)/\∀i m σ H,W i m σ H->(J.stop i H/\D.nx σ H)\/(J.go i H/\∃N:L2.St->Hp->Prop,(∀σ' H',N σ' H'->∃m',m' < m/\W (i+1) m' σ' H')/\∀x H',J.yld i H x H'->g x σ H' λσ2 H2=>tS Θ E b { D with nx:=N,ct:=N,bk:=D.nx } σ2 H2):=by
 refine⟨λi m σ H1=>∃Y1 S1 Z1,i<=all.length/\Y <+: Y1/\Ds Y Y1 H H1/\Rep Θ Y1 S1 H1/\RSs Θ Y1 H1 Z1 σ/\m=(all.drop i).length/\Dy Θ Y1 H1 (Jh s b (all.drop i) Z1 S1) D E,⟨_,Y,S,Z,dU _,aX _,Ds.refl _ _,R,sl,rfl,q⟩,?_⟩;rintro i m σ1 H1 ⟨Y1,S1,Z1,li,p1,t1,R1,sl1,rfl,q1⟩;by_cases hi:i < all.length
 .obtain⟨go,yl⟩:=jk.go Y1 H1 i p1 t1 hi;refine .inr ⟨go,λσ2 H2=>∃Y2 S2 Z2,Y <+: Y2/\Ds Y Y2 H H2/\Rep Θ Y2 S2 H2/\RSs Θ Y2 H2 Z2 σ2/\Dy Θ Y2 H2 (Jh s b (all.drop (i+1)) Z2 S2) D E,?_,λx H' hy=>?_⟩
  .rintro σ2 H2 ⟨Y2,S2,Z2,p2,t2,R2,sl2,q2⟩;exact⟨(all.drop (i+1)).length,by rw[cD,cD];omega,Y2,S2,Z2,hi,p2,t2,R2,sl2,rfl,q2⟩
  .obtain⟨ty,Ry,w,ew,rv⟩:=yl x H' hy;have R1:=Ry _ R1;have sl1:=sl1.mono (aX _) ty;have t1:=t1.trans ty;have q1:=Dy.shift q1 (aX _) ty;have ed:all.drop i=w::all.drop (i+1):=by
    obtain⟨hl,e⟩:=aL.mp ew;rw[<-e];exact eF hl
   rw[ed] at q1;unfold Jh at q1;cases es:s w Z1 with
   |none=>simp only[es] at q1;exact q1.elim
   |some Z2=>
    simp only[es] at q1;refine gk Y1 S1 H' w x Z1 Z2 σ1 _ R1 sl1 rv es λσ2 sl2=>⟨Y1,S1,Z2,R1,sl2,?_⟩;cases e:b Z2 S1 with
    |nx Z3 S3=>
     rw[e] at q1;exact λY3 H3 σ3 p3 t3 R3 sl3=>⟨Y3,S3,Z3,p1.trans p3,t1.trans t3,R3,sl3,Dy.shift q1 p3 t3⟩
    |ct Z3 S3=>
     rw[e] at q1;exact λY3 H3 σ3 p3 t3 R3 sl3=>⟨Y3,S3,Z3,p1.trans p3,t1.trans t3,R3,sl3,Dy.shift q1 p3 t3⟩
    |bk Z3 S3=>
     rw[e] at q1;exact λY3 H3 σ3 p3 t3 R3 sl3=>q1 Y3 H3 σ3 p3 t3 R3 sl3
    |_=>rw[e] at q1;exact q1
 .rw[gG (by omega)] at q1
  exact .inl ⟨jk.stop Y1 H1 i t1 (by omega),q1.nxt R1 sl1⟩
theorem Ay5{K:aF}{n f:Nat}{a:aQ}{Y:List aQ}{S:Store}{H:Hp}{Z:De}{σ:L2.St}(gk:GOk Θ s g)(hn:Y[n]?=some a)(R:Rep Θ Y S H)(sl:RSs Θ Y H Z σ)(q:Dy Θ Y H (forL s b n f 0 Z S) D E):
  ∃W:Nat->Nat->L2.St->Hp->Prop,(∃m,W 0 m σ H)/\∀i m σ H,W i m σ H->((Itl K a).stop i H/\D.nx σ H)\/((Itl K a).go i H/\∃N:L2.St->Hp->Prop,(∀σ' H',N σ' H'->∃m',m' < m/\W (i+1) m' σ' H')/\∀x H',(Itl K a).yld i H x H'->g x σ H' λσ2 H2=>tS Θ E b { D with nx:=N,ct:=N,bk:=D.nx } σ2 H2):=by
 refine⟨λi m σ H1=>∃Y1 S1 Z1,Y <+: Y1/\Rep Θ Y1 S1 H1/\RSs Θ Y1 H1 Z1 σ/\Dy Θ Y1 H1 (forL s b n m i Z1 S1) D E,⟨f,Y,S,Z,aX _,R,sl,q⟩,?_⟩;rintro i m σ1 H1 ⟨Y1,S1,Z1,p1,R1,sl1,q1⟩;cases m with
 |zero=>exact q1.elim
 |succ m=>
  unfold forL at q1;have hn1:Y1[n]?=some a:=by
   obtain⟨r,rfl⟩:=p1;rw[aY (aL.mp hn).1];exact hn
  cases ec:S1[n]? with
  |none=>simp only[ec] at q1;exact q1.elim
  |some c=>
   obtain⟨a',ha',qc⟩:=R1.get ec;rw[hn1] at ha';cases ha';cases c with
   |dct _=>simp only[ec] at q1;exact q1.elim
   |lst ws=>
    simp only[ec] at q1;obtain⟨vs,h1,r1⟩:=qc;cases ew:ws[i]? with
    |none=>
     simp only[ew] at q1;refine .inl ⟨⟨vs,.inl (.inl h1),?_⟩,q1.nxt R1 sl1⟩;rw[<-r1.length];exact dZ.mp ew
    |some w=>
     simp only[ew] at q1;obtain⟨v,ev,rv⟩:=r1.get ew;refine .inr ⟨⟨vs,v,.inl (.inl h1),ev⟩,λσ2 H2=>∃Y2 S2 Z2,Y <+: Y2/\Rep Θ Y2 S2 H2/\RSs Θ Y2 H2 Z2 σ2/\Dy Θ Y2 H2 (forL s b n m (i+1) Z2 S2) D E,λσ2 H2 h=>⟨m,jO m,h⟩,?_⟩;rintro x H' ⟨rfl,hx⟩;have e2:=hx vs (.inl (.inl h1));rw[ev] at e2;cases e2;cases es:s w Z1 with
     |none=>simp only[es] at q1;exact q1.elim
     |some Z2=>
      simp only[es] at q1;refine gk Y1 S1 H' w v Z1 Z2 σ1 _ R1 sl1 rv es λσ2 sl2=>⟨Y1,S1,Z2,R1,sl2,?_⟩;cases e:b Z2 S1 with
      |nx Z3 S3=>
       rw[e] at q1;exact λY3 H3 σ3 p3 t3 R3 sl3=>⟨Y3,S3,Z3,p1.trans p3,R3,sl3,Dy.shift q1 p3 t3⟩
      |ct Z3 S3=>
       rw[e] at q1;exact λY3 H3 σ3 p3 t3 R3 sl3=>⟨Y3,S3,Z3,p1.trans p3,R3,sl3,Dy.shift q1 p3 t3⟩
      |bk Z3 S3=>
       rw[e] at q1;exact λY3 H3 σ3 p3 t3 R3 sl3=>q1 Y3 H3 σ3 p3 t3 R3 sl3
      |_=>rw[e] at q1;exact q1
end
inductive Src where
 |fix (ws:List W)
 |liv (n:Nat)
 |zl (n m:Nat)
noncomputable def Aqd(ns:List Int)(x:W):M Src:=match x with
 |.tup ws=>pure (.fix ws)
 |.scr=>pure (.fix (ns.map W.int))
 |.str z=>if z.length<=big then pure (.fix (chars z)) else bad
 |.ref n=>λS=>match S[n]? with
  |some (.lst _)=>.ok (.liv n) S
  |_=>.bad
 |_=>bad
def Cv(ns:List Int)(f:De->M W):De->M Src:=λZ=>do let x<-f Z;Aqd ns x
noncomputable def Fj:List W->M Src
 |[.int j]=>if -(2 ^ 62)<=j/\j < 2 ^ 62 then pure (.fix ((bR j.toNat).map λ(k:Nat)=>W.int ((0:Int)+(k:Int)))) else bad
 |_=>bad
def J4(r:List W->M Src)(f:De->M (List W)):De->M Src:=λZ=>do let x<-f Z;r x
def My(src:De->M Src)(s:Tg)(b:MS):MS:=λZ=>Er (src Z) (λz=>match z with
 |.fix ws=>Jh s b ws
 |.liv n=>λZ S=>match S[n]? with
  |some (.lst ws)=>forL s b n (ws.length+1) 0 Z S
  |_=>.bad
 |.zl _ _=>λ_ _=>.bad) Z
def Ack(Θ:Th)(Y:List aQ)(H:Hp)(z:Src)(J:It):Prop:=match z with
 |.fix ws=>JOk Θ J ws Y H
 |.liv n=>∃a,Y[n]?=some a/\J=Itl Θ.K a
 |.zl n m=>∃a b,Y[n]?=some a/\Y[m]?=some b/\J=Itz Θ.K false a b
def tFi(Θ:Th)(E:L2.St->XK)(f:De->M Src):TI:=λσ H Q=>∃Y S Z,Rep Θ Y S H/\RSl Θ Y H Z σ/\Ay Θ (Ack Θ) Y H (f Z S) Q (E σ)
section
theorem Ay6(h:H a=some (.tup vs))(r:RVs Θ Y H ws vs):JOk Θ (Itt Θ.K a) ws Y H where
 go:=λY1 H1 i p t hi=>by
  obtain⟨v,e,rv⟩:=r.get (aW hi);have sq:SqT Θ.K H1 a vs:=SqT.of (t.t _ _ h);refine⟨⟨vs,v,sq,e⟩,?_⟩;rintro x H' ⟨rfl,hx⟩;have z:=hx vs sq;rw[e] at z;cases z;exact⟨Ds.refl _ _,λ_ r=>r,_,aW hi,rv.mono p t⟩
 stop:=λY1 H1 i t hi=>⟨vs,SqT.of (t.t _ _ h),by rw[<-r.length,hi];exact aN _⟩
theorem Ay7(h:Scr Θ H):JOk Θ (Itl Θ.K Θ.l) (Θ.ns.map W.int) Y H where
 go:=λY1 H1 i p t hi=>by
  have sq:=(h.mono t).sq;rw[aA] at hi;have e:(Θ.ns.map V.int)[i]?=some (.int Θ.ns[i]):=by rw[cB,aW hi];rfl
  refine⟨⟨_,_,sq,e⟩,?_⟩;rintro x H' ⟨rfl,hx⟩;have z:=hx _ sq;rw[e] at z;cases z;exact⟨Ds.refl _ _,λ_ r=>r,.int Θ.ns[i],by rw[cB,aW hi];rfl,.int _⟩
 stop:=λY1 H1 i t hi=>⟨_,(h.mono t).sq,by rw[aA] at hi ⊢;omega⟩
theorem Ay8(lo:Int)(n:Nat):JOk Θ (Itr lo n) ((bR n).map λ(k:Nat)=>W.int (lo+(k:Int))) Y H where
 go:=λY1 H1 i p t hi=>by
  rw[aA,cW] at hi;refine⟨hi,?_⟩;rintro x H' ⟨rfl,rfl⟩;exact⟨Ds.refl _ _,λ_ r=>r,.int (lo+i),by rw[cB,List.getElem?_range hi];rfl,.int _⟩
 stop:=λY1 H1 i t hi=>by rw[aA,cW] at hi;exact pA hi.symm
theorem Ay9(z:Str):JOk Θ (Its z) (chars z) Y H where
 go:=λY1 H1 i p t hi=>by
  unfold chars at hi ⊢
  rw[aA,cN] at hi;refine⟨hi,?_⟩;rintro x H' ⟨rfl,c,hc,rfl⟩;exact⟨Ds.refl _ _,λ_ r=>r,.str ⟨#[c]⟩,by rw[cB,jA,hc];rfl,.str _⟩
 stop:=λY1 H1 i t hi=>by
  unfold chars at hi;rw[aA,cN] at hi;exact hi
end
section
def WI.weak(h:WI X tg e t)(k:∀σ H Q,t' σ H Q->t σ H Q):WI X tg e t':=⟨λaa s σ H Q I q=>h.un aa s σ H Q I (k σ H Q q)⟩
theorem WI.or(h:WI X tg e t)(h':WI X tg e t'):WI X tg e (λσ H Q=>t σ H Q\/t' σ H Q):=⟨λaa s σ H Q I q=>by
 rcases q with q|q
 .exact h.un aa s σ H Q I q
 .exact h'.un aa s σ H Q I q⟩
theorem Ai5(hK:X.K=Θ.K)(h:WE X e (tF Θ E f)):WI X tg e (tFi Θ E (Cv Θ.ns f)):=
 WI.weak (WI.or (WI.or (Bee h) (Ax6 h)) (Bed h)) λσ H Q zz=>by
  obtain⟨Y,S,Z,R,sl,q⟩:=zz;rw[hK];have go:∀(pr:V->Hp->Prop),(∀v H1 Y1 S1 w,Rep Θ Y1 S1 H1->RV Θ Y1 H1 w v->Ay Θ (Ack Θ) Y1 H1 (Aqd Θ.ns w S1) Q (E σ)->f Z S=.ok w S1->pr v H1)->tF Θ E f σ H pr:=λpr k=>by
   refine⟨Y,S,Z,R,sl,?_⟩;have q2:=Ay.seq (Rel:=RV Θ) q;cases ef:f Z S with
   |bad=>rw[ef] at q2;exact q2
   |exc c S1=>rw[ef] at q2;exact q2
   |ok w S1=>
    rw[ef] at q2;intro Y1 H1 v p1 t1 R1 rv;have q:Ay Θ (Ack Θ) Y H (M.bind (f Z) (Aqd Θ.ns) S) Q (E σ):=q;unfold M.bind at q;rw[ef] at q;exact k v H1 Y1 S1 w R1 rv (Ay.shift q p1 t1) ef
  cases ef:f Z S with
  |bad=>exact .inl (.inl (go _ λv H1 Y1 S1 w R1 rv q1 e1=>by rw[ef] at e1;cases e1))
  |exc c S1=>exact .inl (.inl (go _ λv H1 Y1 S1 w R1 rv q1 e1=>by rw[ef] at e1;cases e1))
  |ok w0 S0=>
   cases w0 with
   |str z=>
    refine .inr (go _ λv H1 Y1 S1 w R1 rv q1 e1=>?_);rw[ef] at e1;cases e1;cases rv;obtain⟨hz,q1⟩:=Ip q1;exact⟨_,rfl,Ay.now q1 R1 (Ay9 _)⟩
   |tup ws=>
    refine .inl (.inl (go _ λv H1 Y1 S1 w R1 rv q1 e1=>?_));rw[ef] at e1;cases e1;cases rv with
    |tup h1 r1=>exact⟨_,rfl,⟨_,SqT.of h1⟩,Ay.now (Rel:=Ack Θ) q1 R1 (Ay6 h1 r1)⟩
   |scr=>
    refine .inl (.inr (go _ λv H1 Y1 S1 w R1 rv q1 e1=>?_));rw[ef] at e1;cases e1;cases rv with
    |scr hs=>exact⟨_,rfl,⟨_,hs.sq⟩,Ay.now (Rel:=Ack Θ) q1 R1 (Ay7 hs)⟩
   |ref n=>
    refine .inl (.inr (go _ λv H1 Y1 S1 w R1 rv q1 e1=>?_));rw[ef] at e1;cases e1;cases rv with
    |@ref _ a hn=>
     simp only[Aqd] at q1;split at q1
     .rename_i us e2;obtain⟨a',ha',vs,h2,r2⟩:=R1.get e2;rw[hn] at ha';cases ha';exact⟨_,rfl,⟨vs,.inl (.inl h2)⟩,Jy (Rel:=Ack Θ) q1 R1 ⟨a,hn,rfl⟩⟩
     .exact(show False from q1).elim
   |_=>
    refine .inl (.inl (go _ λv H1 Y1 S1 w R1 rv q1 e1=>?_));rw[ef] at e1;cases e1;exact(show False from q1).elim
theorem Be9(hp:qO (model X.prog X.w) X.A X.env X.xe)(hK:X.K=Θ.K)(hc:X.calm=true)(hi:WI X tg iter (tFi Θ E src))(hg:WG X tg g)(gk:GOk Θ s g)(hb:WSs X body (tS Θ E bd))(hs:∀x,foldedSetIterable iter X.env x=pure x):
  WS X (.For tg iter body [] pos) (tS Θ E (My src s bd)):=WS.weak ⟨Bc8 hp hc hi.un hg.un hb.un hs⟩ λD σ H zz=>by
 obtain⟨Y,S,Z,R,sl,q⟩:=zz;refine⟨Y,S,Z,R,sl.2,(Dy.lift (Rel:=Ack Θ) sl q).mono ?_⟩;rintro J H1 ⟨Y1,S1,z,p1,t1,R1,sl1,rj,q1⟩;cases z with
 |fix ws=>exact Ay4 gk rj R1 sl1 q1
 |liv n=>
  obtain⟨a,hn,rfl⟩:=rj;simp only at q1;split at q1
  .exact Ay5 gk hn R1 sl1 q1
  .exact q1.elim
 |zl n m=>exact q1.elim
end
section
theorem Bfa(hm:X.mg "range"=none)(ha:WA X [a] (tFs Θ E gs))(hg:X.env.kindOf "range"=some .globalImplicit)(hs:starEach [a] X.env=[(false,eval a X.env)]):WI X tg (.Call (.Name "range" p) [a] [] pos) (tFi Θ E (J4 Fj gs)):=
 WI.weak (Ax5 hm ha hg hs) λσ H Q zz=>by
  obtain⟨Y,S,Z,R,sl,q⟩:=zz;refine⟨Y,S,Z,R,sl,(Ay.seq (Rel:=RVs Θ) q).mono ?_⟩;rintro vs H1 ⟨Y1,S1,ws,p1,t1,R1,rvs,q1⟩;cases rvs with
  |nil=>exact(show False from q1).elim
  |cons h1 r=>
   cases r with
   |cons _ _=>cases h1 <;> exact(show False from q1).elim
   |nil=>
    cases h1 <;> try exact(show False from q1).elim
    obtain⟨hz,q1⟩:=Ip q1;exact⟨_,rfl,hz.1,hz.2,Ay.now (Rel:=Ack Θ) q1 R1 (Ay8 0 _)⟩
end
inductive Ty where
 |lst|str
noncomputable def Ty.is:Ty->W->Store->Bool
 |.lst,.ref n,S=>match S[n]? with
  |some (.lst _)=>true
  |_=>false
 |.str,.str _,_=>true
 |_,_,_=>false
def Ty.name:Ty->String
 |.lst=>"list"
 |.str=>"str"
noncomputable def Ke(T:Ty)(op:W->List W->M W)(f:De->M W)(gs:De->M (List W)):De->M W:=λZ=>do
 let x<-f Z;let _<-(λS=>if T.is x S then .ok () S else .bad:M Unit)
 let ws<-gs Z
 op x ws
def Afi(x:W)(k:Nat->List W->M W):M W:=match x with
 |.ref n=>λS=>match S[n]? with
  |some (.lst ws)=>k n ws S
  |_=>.bad
 |_=>bad
def putL(n:Nat)(ws:List W)(r:W):M W:=λS=>if ws.length<=big then .ok r (S.set n (.lst ws)) else .bad
def Lr(x:W)(us:List W):M W:=Afi x λn ws=>match us with
 |[u]=>putL n (ws ++ [u]) .non
 |_=>bad
noncomputable def Nm(x:W)(us:List W):M W:=Afi x λn ws=>match us with
 |[.int i]=>if ws.length<=big then match ixN ws.length i with
  |some j=>match ws[j]? with
   |some w=>putL n (ws.eraseIdx j) w
   |none=>bad
  |none=>bad else bad
 |_=>bad
noncomputable def K1(x:W)(us:List W):M W:=match x,us with
 |.str z,[.ref n]=>λS=>match S[n]? with
  |some (.lst ws)=>match Gb asStr ws with
   |some ys=>if (ys.map (·.length)).sum+ys.length * z.length<=big then .ok (.str (vR z ys)) S else .bad
   |none=>.bad
  |_=>.bad
 |_,_=>bad
noncomputable def Ag6(x:W)(us:List W):M W:=match x,us with
 |.str z,[.str y]=>if z.length<=big then pure (.str (gB z y)) else bad
 |_,_=>bad
section
theorem Ai6{k:Nat->List W->M W}(R:Rep Θ Y S H)(hx:RV Θ Y H x vx)(h:Ay Θ (RV Θ) Y H (Afi x k S) Q E):
  ∃n a ws zs,x=.ref n/\vx=.ref a/\Y[n]?=some a/\S[n]?=some (.lst ws)/\H a=some (.lst zs)/\RVs Θ Y H ws zs/\Ay Θ (RV Θ) Y H (k n ws S) Q E:=by
 cases hx <;> try exact(show False from h).elim
 rename_i n a hn;simp only[Afi] at h;split at h
 .rename_i ws e1;obtain⟨a',ha',zs,h2,r2⟩:=R.get e1;rw[hn] at ha';cases ha';exact⟨n,a,ws,zs,rfl,rfl,hn,e1,h2,r2,h⟩
 .exact(show False from h).elim
theorem Any{n:Nat}(R:Rep Θ Y S H)(hn:Y[n]?=some a)(h0:H a=some (.lst zs0))(rz:RVs Θ Y H ws zs)(rr:RV Θ Y H r vr)(h:Ay Θ (RV Θ) Y H (putL n ws r S) Q E):
  zs.length<=big/\Q vr (upd H a (.lst zs)):=by
 simp only[putL] at h;split at h
 .rename_i hz;have t:Ds Y Y H (upd H a (.lst zs)):=Acg hn h0 (λ_ e=>by cases e) (λ_ _ e=>by cases e)
  refine⟨by rw[<-rz.length];exact hz,h Y _ vr (aX _) t (R.write hn t ⟨zs,Bl,rz.mono (aX _) t⟩) (rr.mono (aX _) t)⟩
 .exact(show False from h).elim
theorem At3(R:Rep Θ Y S H)(hx:RV Θ Y H x vx)(r:RVs Θ Y H us vs)(h:Ay Θ (RV Θ) Y H (Lr x us S) Q E):Anl vx vs H Q:=by
 obtain⟨n,a,ws,zs,rfl,rfl,hn,e1,h1,r1,h⟩:=Ai6 R hx h;cases r with
 |nil=>exact(show False from h).elim
 |cons hu r=>
  cases r with
  |cons _ _=>exact(show False from h).elim
  |nil=>
   obtain⟨hz,q⟩:=Any R hn h1 (r1.append (.cons hu .nil)) .non h;rw[aK,cC] at hz;exact⟨a,zs,_,rfl,rfl,h1,Jl hz,q⟩
theorem RVs.erase:∀{ws:List W} {zs:List V} (i:Nat),RVs Θ Y H ws zs->RVs Θ Y H (ws.eraseIdx i) (zs.eraseIdx i)
 |_,_,_,.nil=>.nil
 |_,_,0,.cons _ r=>r
 |_,_,i+1,.cons h r=>.cons h (RVs.erase i r)
theorem Aza(R:Rep Θ Y S H)(hx:RV Θ Y H x vx)(r:RVs Θ Y H us vs)(h:Ay Θ (RV Θ) Y H (Nm x us S) Q E):Asr vx vs H Q:=by
 obtain⟨n,a,ws,zs,rfl,rfl,hn,e1,h1,r1,h⟩:=Ai6 R hx h;cases r with
 |nil=>exact(show False from h).elim
 |cons hu r=>
  cases r with
  |cons _ _=>cases hu <;> exact(show False from h).elim
  |nil=>
   cases hu with
   |int i=>
    obtain⟨hz,h⟩:=Ip h;cases ej:ixN ws.length i with
    |none=>simp only[ej] at h;exact(show False from h).elim
    |some j=>
     cases ew:ws[j]? with
     |none=>simp only[ej,ew] at h;exact(show False from h).elim
     |some w=>
      simp only[ej,ew] at h;obtain⟨v,ev,rv⟩:=r1.get ew;obtain⟨_,q⟩:=Any R hn h1 (r1.erase j) rv h;rw[r1.length] at ej;obtain⟨s1,s2,s3,s4⟩:=Ank ej;have hn:=Xb;have hl:=Jl hz;rw[r1.length] at hl;exact⟨a,zs,i,j,v,rfl,rfl,h1,by omega,by omega,s1,ev,q⟩
   |_=>exact(show False from h).elim
theorem Azb(R:Rep Θ Y S H)(hx:RV Θ Y H x vx)(r:RVs Θ Y H us vs)(h:Ay Θ (RV Θ) Y H (Ag6 x us S) Q E):∃z y,vx=.str z/\vs=[.str y]/\z.length<=sizeLine/\Q (.str (gB z y)) H:=by
 cases hx <;> try exact(show False from h).elim
 cases r with
 |nil=>exact(show False from h).elim
 |cons hu r=>
  cases r with
  |cons _ _=>cases hu <;> exact(show False from h).elim
  |nil=>
   cases hu <;> try exact(show False from h).elim
   obtain⟨hz,h⟩:=Ip h;exact⟨_,_,rfl,rfl,Jl hz,h.now R (.str _)⟩
theorem Bfb(R:Rep Θ Y S H)(hx:RV Θ Y H x vx)(r:RVs Θ Y H us vs)(h:Ay Θ (RV Θ) Y H (K1 x us S) Q E):∃z p ys,vx=.str z/\vs=[.ref p]/\H p=some (.lst (ys.map V.str))/\(ys.map (·.length)).sum+ys.length * z.length<=16777216/\Q (.str (vR z ys)) H:=by
 cases hx <;> try exact(show False from h).elim
 cases r with
 |nil=>exact(show False from h).elim
 |cons hu r=>
  cases r with
  |cons _ _=>cases hu <;> exact(show False from h).elim
  |nil=>
   cases hu <;> try exact(show False from h).elim
   rename_i z n a hn;simp only[K1] at h;split at h
   .rename_i ws e1;split at h
    .rename_i ys e2;split at h
     .rename_i hz;obtain⟨a',ha',zs,h2,r2⟩:=R.get e1;rw[hn] at ha';cases ha';rw[V6 Ai3 r2 e2] at h2;exact⟨z,a,ys,rfl,rfl,h2,aD hz (by decide),Jy h R (.str _)⟩
     .exact(show False from h).elim
    .exact(show False from h).elim
   .exact(show False from h).elim
end
def Azc(x:Str):Option (Ty×(W->List W->M W)):=
 if x="append" then some (.lst,Lr) else if x="pop" then some (.lst,Nm)
 else if x="join" then some (.str,K1) else if x="strip" then some (.str,Ag6) else none
structure Bly(Θ:Th)(X:Cx)(T:Ty)(name:Str)(op:W->List W->M W) where
 id:String
 pa:yE T.name
 slot:Slot T.name name id
 ty:typeOf (.builtin id)=pure (.type "method_descriptor")
 r:V->List V->Hp->VK->Prop
 ok:MtR X id r
 by_:∀Y S H x vx us vs Q E,Rep Θ Y S H->RV Θ Y H x vx->RVs Θ Y H us vs->Ay Θ (RV Θ) Y H (op x us S) Q E->r vx vs H Q
theorem Azd(h:Azc name=some (T,op)):Nonempty (Bly Θ X T name op):=by
 unfold Azc at h;split at h
 .rename_i e;subst e;cases h;exact⟨⟨_,qU,PySem.F.slot_list_append,PySem.F.type_list_append,_,Ae4,λY S H x vx us vs Q E R hx r h=>At3 R hx r h⟩⟩
 split at h
 .rename_i e;subst e;cases h;exact⟨⟨_,qU,PySem.F.slot_list_pop,PySem.F.type_list_pop,_,Ass,λY S H x vx us vs Q E R hx r h=>Aza R hx r h⟩⟩
 split at h
 .rename_i e;subst e;cases h;exact⟨⟨_,rM,PySem.F.slot_str_join,PySem.F.type_str_join,_,Ax0,λY S H x vx us vs Q E R hx r h=>Bfb R hx r h⟩⟩
 split at h
 .rename_i e;subst e;cases h;exact⟨⟨_,rM,PySem.F.slot_str_strip,PySem.F.type_str_strip,_,As9,λY S H x vx us vs Q E R hx r h=>Azb R hx r h⟩⟩
 .cases h
section
variable{Θ:Th}{X:Cx}{o e a b c:cA}{es:List cA}{name:Str}{ak cpos:Pos}{E:L2.St->XK}{f:De->M W}{gs:De->M (List W)}{T:Ty}{op:W->List W->M W}
theorem Ty.is_ok{Y:List aQ}{S:Store}{H:Hp}{x:W}{v:V}{K:aF}(R:Rep Θ Y S H)(rv:RV Θ Y H x v)(h:T.is x S=true):tyV K T.name v H:=by
 cases T with
 |str=>cases rv <;> first|rfl|exact absurd h bH
 |lst=>
  cases rv <;> try exact absurd h bH
  rename_i n a hn;simp only[Ty.is] at h;split at h
  .rename_i ws e1;obtain⟨a',ha',zs,h2,r2⟩:=R.get e1;rw[hn] at ha';cases ha';exact .inl ⟨rfl,zs,.inl (.inl h2)⟩
  .exact absurd h bH
theorem Blz(hx:Azc name=some (T,op))(ho:WE X o (tF Θ E f))(ha:WA X (e::es) (tFs Θ E gs))(bf:attributeBase o name X.env (eval o X.env)=eval o X.env)(hfew:((backTo cpos (starEach (e::es) X.env)).all (λx=>!x.1)&&(backToKw cpos (keywordEach [] X.env)).all (λx=>x.1.isSome)&&decide ((e::es).length+([]:List jQ).length+(if ([]:List jQ).isEmpty then 0 else 1) < 30))=true)(aq:(ak.endLine==cpos.line)=true)(he:starEach (e::es) X.env=(false,eval e X.env)::starEach es X.env)(hpl:(backTo cpos (starEach es X.env)).any (·.1)=false):
  WE X (.Call (.Attribute o name ak) (e::es) [] cpos) (tF Θ E (Ke T op f gs)):=by
 obtain⟨m⟩:=Azd (Θ:=Θ) (X:=X) hx;refine WE.weak (kbm m.pa m.slot m.ty m.ok ho ha bf hfew aq he hpl) λσ H Q zz=>?_;obtain⟨Y,S,Z,R,sl,q⟩:=zz;refine⟨Y,S,Z,R,sl,(Ay.seq (Rel:=RV Θ) q).mono ?_⟩;rintro v H1 ⟨Y1,S1,w,p1,t1,R1,rv,q1⟩;have q1:Ay Θ (RV Θ) Y1 H1 (M.bind (λS=>if T.is w S then .ok () S else .bad) (λ_=>(gs Z) >>= λws=>op w ws) S1) Q (E σ):=q1
 unfold M.bind at q1;by_cases ht:T.is w S1=true
 .simp only[ht,if_true] at q1;refine⟨Ty.is_ok R1 rv ht,Y1,S1,Z,R1,sl.mono p1 t1,(Ay.seq (Rel:=RVs Θ) q1).mono ?_⟩;rintro vs H2 ⟨Y2,S2,ws,p2,t2,R2,rvs,q2⟩;exact m.by_ Y2 S2 H2 w v ws vs Q (E σ) R2 (rv.mono p2 t2) rvs q2
 .simp only[ht,if_false] at q1;exact q1.elim
end
def FOk(Θ:Th)(ok:Bool->Nat->Str->Bool):Prop:=∀c f,ok true c f=true->Θ.xf c=some f/\XfK Θ.K (Θ.cl c) f
noncomputable def Anz(ok:Bool->Nat->Str->Bool)(f:Str)(x:W):M W:=match x with
 |.exn c w=>if ok true c f then pure w else bad
 |_=>bad
def Bfc(ok:Bool->Nat->Str->Bool)(f:Str)(g:De->M W):De->M W:=λZ=>do let x<-g Z;Anz ok f x
section
variable{ok:Bool->Nat->Str->Bool}
theorem At4(hf:FOk Θ ok)(R:Rep Θ Y S H)(hx:RV Θ Y H x vx)(h:Ay Θ (RV Θ) Y H (Anz ok f x S) Q E):
  ∃a C n d v,vx=.ref a/\H a=some (Ng a (.ref C) (some (n,some d)))/\H d=some (.xd [(f,v)])/\XfK Θ.K C f/\Q v H:=by
 have ex:∀{c:Nat} {w:W},Ay Θ (RV Θ) Y H (Anz ok f (.exn c w) S) Q E->Θ.xf c=some f/\XfK Θ.K (Θ.cl c) f/\Ay Θ (RV Θ) Y H ((pure w:M W) S) Q E:=λ{c w} h=>by
  simp only[Anz] at h;by_cases hk:ok true c f=true
  .rw[if_pos hk] at h;exact⟨(hf c f hk).1,(hf c f hk).2,h⟩
  .rw[if_neg hk] at h;exact(show False from h).elim
 cases hx <;> try exact(show False from h).elim
 .rename_i x0 _ _;obtain⟨e1,_,_⟩:=ex h;rw[x0] at e1;cases e1
 .rename_i n x0 _ _ ha hd rv;obtain⟨e1,e2,h⟩:=ex h;rw[x0] at e1;cases e1;exact⟨_,_,1,_,_,rfl,ha,hd,e2,h.now R rv⟩
end
section
variable{ok:Bool->Nat->Str->Bool}
theorem Bjk(hK:X.K=Θ.K)(hf:FOk Θ ok)(ho:WE X o (tF Θ E g))(hb:attributeBase o f X.env (eval o X.env)=eval o X.env):WE X (.Attribute o f pos) (tF Θ E (Bfc ok f g)):=
 WE.weak ⟨Ayk ho.un hb⟩ λσ H Q zz=>by
  obtain⟨Y,S,Z,R,sl,q⟩:=zz;rw[hK];refine⟨Y,S,Z,R,sl,(Ay.seq (Rel:=RV Θ) q).mono ?_⟩;rintro v H1 ⟨Y1,S1,w,p1,t1,R1,rv,q1⟩;exact At4 hf R1 rv q1
end
theorem Aqe{CX:CXT}{P:cP}{w:dO}{K:aF}{mg:Str->Option aJ}{base:dN}{N:List Str}{aj:Str}{scope:kW}{f:aQ}{cd:aJ}{A:fV}{outer:List Env}{s:aZ}{H:Hp}{E:XK}{cm:Bool}:
  qO (model P w) (Vd CX P w K mg base N aj scope f cd A outer s H E cm).A (Vd CX P w K mg base N aj scope f cd A outer s H E cm).env (Vd CX P w K mg base N aj scope f cd A outer s H E cm).xe:=
 λe s' h=>aBl (Q₁:=λe s''=>CX outer H s E e s'') (E₁:=λe' s''=>CX outer H s E e' s'') e s' h
def Vj(c d:De->M Bool):De->M Bool:=λZ=>do let x<-c Z;if x then d Z else pure false
def orT(c d:De->M Bool):De->M Bool:=λZ=>do let x<-c Z;if x then pure true else d Z
def Ea(c:De->M Bool):De->M Bool:=λZ=>do let x<-c Z;pure (!x)
section
variable{Θ:Th}{X:Cx}{a b c e:cA}{rest:List cA}{pos:Pos}{E:L2.St->XK}{f g:De->M W}{cf df:De->M Bool}
def WW.weak(h:WW X e t)(k:∀σ H Q,t' σ H Q->t σ H Q):WW X e t':=⟨λwh aa s σ H Q I q=>h.un wh aa s σ H Q I (k σ H Q q)⟩
theorem Bfd(ha:WT X a (tFb Θ E cf))(hb:WW X (.BoolOp .And (b::rest) pos) (tFb Θ E df)):WW X (.BoolOp .And (a::b::rest) pos) (tFb Θ E (Vj cf df)):=WW.weak (Bk9 ha hb) λσ H Q zz=>by
 obtain⟨Y,S,Z,R,sl,q⟩:=zz;refine⟨Y,S,Z,R,sl,(Ay.seq (Rel:=λ_ _ a b=>a=b) q).mono ?_⟩;rintro v H1 ⟨Y1,S1,w,p1,t1,R1,rfl,q1⟩;cases w with
 |true=>exact L2.Agq ⟨Y1,S1,Z,R1,sl.mono p1 t1,q1⟩
 |false=>exact L2.Aim (Ay.now (Rel:=λ_ _ a b=>a=b) q1 R1 rfl)
theorem Bjl(ha:WT X a (tFb Θ E cf))(hb:WW X (.BoolOp .Or (b::rest) pos) (tFb Θ E df)):WW X (.BoolOp .Or (a::b::rest) pos) (tFb Θ E (orT cf df)):=WW.weak (tor ha hb) λσ H Q zz=>by
 obtain⟨Y,S,Z,R,sl,q⟩:=zz;refine⟨Y,S,Z,R,sl,(Ay.seq (Rel:=λ_ _ a b=>a=b) q).mono ?_⟩;rintro v H1 ⟨Y1,S1,w,p1,t1,R1,rfl,q1⟩;cases w with
 |true=>exact L2.Agq (Ay.now (Rel:=λ_ _ a b=>a=b) q1 R1 rfl)
 |false=>exact L2.Aim ⟨Y1,S1,Z,R1,sl.mono p1 t1,q1⟩
theorem Bfe(ha:WT X a (tFb Θ E cf)):WT X (.UnaryOp .Not a pos) (tFb Θ E (Ea cf)):=WT.weak (Bk7 ha) λσ H Q zz=>by
 obtain⟨Y,S,Z,R,sl,q⟩:=zz;refine⟨Y,S,Z,R,sl,(Ay.seq (Rel:=λ_ _ a b=>a=b) q).mono ?_⟩;rintro v H1 ⟨Y1,S1,w,p1,t1,R1,rfl,q1⟩;exact Ay.now (Rel:=λ_ _ a b=>a=b) q1 R1 rfl
def At5(h:WE X e (tF Θ E f))(he:∀whole,isTrue e X.env whole=(do let v<-whole;standAt e.pos;holding [v] (truthy v))):WT X e (tFb Θ E (Bf f)):=Alu (λ_ _ _ q=>q) (Bk8 h he)
end
def Qp(c:Nat)(gs:De->M (List W)):MS:=λZ=>Er (gs Z) (λws Z S=>if ws.length<=big then .ex (c,.non) Z S else .bad) Z
section
theorem At6{c:Nat}(hxf:Θ.xf c=none)(hx:Ain X.K (Θ.cl c))(hm:X.mg x=some (.ref (Θ.cl c)))(hc:X.calm=true)(hR:Raises X E)(ha:WA X (e::es) (tFs Θ (λ_=>E) gs))(hg:X.env.kindOf x=some .globalImplicit)(hd:(x==("__debug__":Str))=false)(he:starEach (e::es) X.env=(false,eval e X.env)::starEach es X.env)(hpl:(backTo cpos (starEach es X.env)).any (·.1)=false):
  WS X (.Raise (some (.Call (.Name x p) (e::es) [] cpos)) none pos) (tS Θ (λ_=>E) (Qp c gs)):=WS.weak (Bef hx hm hc hR ha hg hd he hpl) λD σ H zz=>by
 obtain⟨Y,S,Z,R,sl,q⟩:=zz;refine⟨Y,S,Z,R,sl.2,(Dy.lift (Rel:=RVs Θ) sl q).mono ?_⟩;rintro vs H1 ⟨Y1,S1,ws,p1,t1,R1,sl1,rvs,q1⟩;by_cases hz:ws.length<=big
 .rw[if_pos hz] at q1;have z:=q1 Y1 H1 σ (aX _) (Ds.refl _ _) R1 sl1;unfold XP at z;dsimp only at z;rw[hxf] at z;exact⟨Jl (by rw[<-rvs.length];exact hz),_,z⟩
 .rw[if_neg hz] at q1;exact q1.elim
end
noncomputable def Tq(kvs:List (Key×W))(k:Key)(w:W):List (Key×W):=if kvs.any (λp=>decide (p.1=k)) then kvs.map (λp=>if p.1=k then (p.1,w) else p) else kvs ++ [(k,w)]
noncomputable def Afj(x y v:W):M Unit:=match x with
 |.ref n=>λS=>match S[n]? with
  |some (.dct kvs)=>match Ael y with
   |some k=>if kvs.length < big then .ok () (S.set n (.dct (Tq kvs k v))) else .bad
   |none=>.bad
  |_=>.bad
 |_=>bad
noncomputable def Acl(f g h:De->M W):MS:=λZ=>Er (do let v<-h Z;let x<-f Z;let y<-g Z;Afj x y v) (λ_=>.nx) Z
section
theorem RKV.app(r:RKV Θ Y H kvs vs)(t:RKV Θ Y H ks us):RKV Θ Y H (kvs ++ ks) (vs ++ us):=by
 unfold RKV at r t ⊢
 induction r with
 |nil=>exact t
 |cons h r ih=>exact .cons h ih
theorem RKV.put(r:RKV Θ Y H kvs vs)(k:Key)(h:RV Θ Y H w v):RKV Θ Y H (Tq kvs k w) (putK vs k v):=by
 have ea:kvs.any (λp=>decide (p.1=k))=vs.any (λp=>decide (p.1=k)):=by
  unfold RKV at r;induction r with
  |nil=>rfl
  |cons hh r ih=>rw[iJ,iJ,ih,hh.1]
 unfold Tq putK;rw[ea];split
 .rename_i hany;clear ea hany;unfold RKV at r ⊢
  induction r with
  |nil=>exact .nil
  |@cons p q _ _ hh r ih=>
   rw[aG,aG];refine .cons ?_ ih;by_cases e:p.1=k
   .rw[if_pos e,if_pos (hh.1.symm.trans e)];exact⟨hh.1,h⟩
   .rw[if_neg e,if_neg (λz=>e (hh.1.trans z))];exact hh
 .exact r.app (.cons ⟨rfl,h⟩ .nil)
def RKV.mono'(p:Y <+: Y')(t:Ds Y Y' H H')(r:RKV Θ Y H fs vs):RKV Θ Y' H' fs vs:=Paired.imp2 (λ_ _ z=>⟨z.1,z.2.mono p t⟩) r
theorem At7(R:Rep Θ Y S H)(hx:RV Θ Y H x vx)(hy:RV Θ Y H y vy)(hz:RV Θ Y H z vz)(h:Ay Θ (λ_ _ a b=>a=b) Y H (Afj x y z S) Q E):
  ∃a H',vx=.ref a/\Apo H a vy vz H'/\Q () H':=by
 cases hx <;> try exact(show False from h).elim
 rename_i n a hn;simp only[Afj] at h;split at h
 .rename_i kvs e1;obtain⟨a',ha',vs,h2,r2⟩:=R.get e1;rw[hn] at ha';cases ha';split at h
  .rename_i k ek;rw[Ag4 hy ek];split at h
   .rename_i hl;have el:kvs.length=vs.length:=paired_len r2;have t:Ds Y Y H (upd H a (.dK (putK vs k vz))):=Acg hn h2 (λ_ e=>by cases e) (λ_ _ e=>by cases e)
    refine⟨a,_,rfl,Apo.k h2 (by rw[<-el];exact bM hl (by decide)),?_⟩
    exact h Y _ () (aX _) t (R.write hn t ⟨_,Bl,(r2.put k hz).mono' (aX _) t⟩) (by first|exact trivial|exact rfl)
   .exact(show False from h).elim
  .exact(show False from h).elim
 .exact(show False from h).elim
end
section
theorem Aze(hu:X.A.units+64 < cLine)(ho:WE X o (tF Θ E f))(hi:WE X b (tF Θ E g))(hv:WE X v (tF Θ E h))(hs:swapsWith v (some (.Subscript o b pos')) pos.line X.env=pure false):
  WS X (.Assign [.Subscript o b pos'] v pos) (tS Θ E (Acl f g h)):=WS.weak (Biw (by omega) ho hi hv hs) λD σ H zz=>by
 obtain⟨Y,S,Z,R,sl,q⟩:=zz;have q0:=Dy.lift (Rel:=λ_ _ a b=>a=b) sl q;refine⟨Y,S,Z,R,sl.2,(Ay.seq (Rel:=RV Θ) q0).mono ?_⟩;rintro vz H1 ⟨Y1,S1,z,p1,t1,R1,rz,q1⟩;refine⟨Y1,S1,Z,R1,sl.2.mono p1 t1,(Ay.seq (Rel:=RV Θ) q1).mono ?_⟩;rintro vx H2 ⟨Y2,S2,x,p2,t2,R2,rx,q2⟩;refine⟨Y2,S2,Z,R2,(sl.2.mono p1 t1).mono p2 t2,(Ay.seq (Rel:=RV Θ) q2).mono ?_⟩;rintro vy H3 ⟨Y3,S3,y,p3,t3,R3,ry,q3⟩;obtain⟨a,H',e1,e2,Y4,S4,_,p4,t4,R4,sl4,_,q4⟩:=At7 R3 (rx.mono p3 t3) ry ((rz.mono p2 t2).mono p3 t3) q3;exact⟨a,H',e1,e2,q4.nxt R4 sl4⟩
end
noncomputable def Bq(n:Nat)(ws:List W):De:=ws.map some ++ bG (n - ws.length) none
noncomputable def Dh(k n:Nat)(b:MS):List W->M W:=λws S=>if ws.length=k then match b (Bq n ws) S with
 |.nx _ S1=>.ok .non S1
 |.rt w S1=>.ok w S1
 |.ex c _ S1=>.exc c S1
 |_=>.bad else .bad
section
theorem Aqf(r:RVs Θ Y H ws vs):RSs Θ Y H (Bq N.length ws) (L2.start N vs):=by
 have hl:=r.length;refine⟨by simp only[Bq,L2.start,aK,aA,fB,hl],λi u e=>?_⟩
 have hi:i < ws.length:=by
  by_cases hi:i < ws.length
  .exact hi
  .unfold Bq at e;rw[bC (by rw[aA];omega),jL] at e
   split at e <;> cases e
 unfold Bq at e;rw[aY (by rw[aA];exact hi),cB] at e
 obtain⟨u',e1,e2⟩:=cF.mp e;cases e2;obtain⟨v,ev,rv⟩:=r.get e1;refine⟨v,?_,rv⟩;unfold L2.start;rw[aY (by rw[aA,<-hl];exact hi),cB,ev]
 rfl
theorem Bjm{Θ:Th}{P:cP}{w:dO}{K:aF}{mg:Str->Option aJ}{base:dN}{cm:Bool}{x aj:Str}{st:dG}{f:aQ}{fd:eO}{N ps:List Str}{k:Nat}{b:MS}(F:Fun K x aj st f fd)(Sc:Hf N ps (Am st))(hbody:∀(cdv:aJ)(A:fV)(outer:List Env)(s:aZ)(H:Hp)(E:XK),Im k (A.deeper (envOfC aj (Am st) s.heap.objs.size f cdv)) cm->
   WSs (Vd (CXo P w) P w K mg base N aj (Am st) f cdv A outer s H E cm) (Ax st) (tS Θ (λ_=>E) b)):Io P w K mg base (CXo P w) (k+1) f fd ps (spF Θ (Dh ps.length N.length b)) cm:=by
 refine Fun.okW F Sc (λvs H Q E h=>?_) λcdv A outer s H vs Q E rm h=>⟨_,hbody cdv A outer s H E rm,?_⟩
 .obtain⟨Y,S,ws,R,r,q⟩:=h;unfold Dh at q;by_cases hz:ws.length=ps.length
  .exact r.length.symm.trans hz
  .rw[if_neg hz] at q;exact q.elim
 .obtain⟨Y,S,ws,R,r,q⟩:=h;unfold Dh at q;by_cases hz:ws.length=ps.length
  .rw[if_pos hz] at q;refine⟨Y,S,Bq N.length ws,R,Aqf r,?_⟩;cases e:b (Bq N.length ws) S with
   |nx Z S1=>rw[e] at q;exact λY1 H1 σ1 p1 t1 R1 _=>q Y1 H1 .non p1 t1 R1 .non
   |rt u S1=>rw[e] at q;exact λY1 H1 v p1 t1 R1 rv=>q Y1 H1 v p1 t1 R1 rv
   |ex c Z S1=>rw[e] at q;exact λY1 H1 σ1 p1 t1 R1 _=>q Y1 H1 p1 t1 R1
   |bk Z S1=>rw[e] at q;exact q.elim
   |ct Z S1=>rw[e] at q;exact q.elim
   |bad=>rw[e] at q;exact q.elim
  .rw[if_neg hz] at q;exact q.elim
end
def Jo(op op':sS)(f g h:De->M W):De->M W:=λZ=>do
 let x<-f Z;let y<-g Z;let z<-Fx op x y
 asB z λb=>if b then do let u<-h Z;Fx op' y u else pure (.bl false)
section
theorem Afk(o:Be4 Θ X op)(o':Be4 Θ X op'):∀σ H Q,tF Θ E (Jo op op' f g h) σ H Q->Ab2 o.r o'.r (tF Θ E f) (tF Θ E g) (tF Θ E h) σ H Q:=by
 rintro σ H Q ⟨Y,S,Z,R,sl,q⟩;refine⟨Y,S,Z,R,sl,(Ay.seq (Rel:=RV Θ) q).mono ?_⟩;rintro vx H1 ⟨Y1,S1,x,p1,t1,R1,rx,q1⟩;refine⟨Y1,S1,Z,R1,sl.mono p1 t1,(Ay.seq (Rel:=RV Θ) q1).mono ?_⟩;rintro vy H2 ⟨Y2,S2,y,p2,t2,R2,ry,q2⟩;have q3:=Ay.seq (Rel:=RV Θ) q2;refine o.by_ Y2 S2 H2 x y vx vy _ (E σ) R2 (rx.mono p2 t2) ry (q3.mono ?_);rintro vz H3 ⟨Y3,S3,z,p3,t3,R3,rz,q4⟩;obtain⟨k,rfl,q5⟩:=Ach rz q4;refine⟨k,rfl,?_⟩;cases k with
 |false=>exact L2.Aim (q5.now R3 (.bl _))
 |true=>
  refine L2.Agq ⟨Y3,S3,Z,R3,((sl.mono p1 t1).mono p2 t2).mono p3 t3,(Ay.seq (Rel:=RV Θ) q5).mono ?_⟩;rintro vu H4 ⟨Y4,S4,u,p4,t4,R4,ru,q6⟩;exact o'.by_ Y4 S4 H4 y u vy vu Q (E σ) R4 ((ry.mono p3 t3).mono p4 t4) ru q6
theorem Azf(hK:X.K=Θ.K)(hu:X.A.units+64 < cLine)(ha:WE X a (tF Θ E f))(hb:WE X b (tF Θ E g))(hc:WE X c (tF Θ E h))(hm:lastMarks [op,op'] [b,c]=false):
  WE X (.Compare a [op,op'] [b,c] pos) (tF Θ E (Jo op op' f g h)):=by
 obtain⟨o⟩:=Aqb Θ X hK hu op;obtain⟨o'⟩:=Aqb Θ X hK hu op';exact WE.weak (Bd7 o.ok o'.ok ha hb hc hm) (Afk o o')
theorem At8(hK:X.K=Θ.K)(hu:X.A.units+64 < cLine)(ha:WE X a (tF Θ E f))(hb:WE X b (tF Θ E g))(hc:WE X c (tF Θ E h))(hm:lastMarks [op,op'] [b,c]=false):
  WT X (.Compare a [op,op'] [b,c] pos) (tFb Θ E (Bf (Jo op op' f g h))):=by
 obtain⟨o⟩:=Aqb Θ X hK hu op;obtain⟨o'⟩:=Aqb Θ X hK hu op';exact Alu (Afk o o') (Bea o.ok o'.ok ha hb hc hm)
end
def noX{α:Type}(m:M α):M α:=λS=>match m S with
 |.ok a S1=>.ok a S1
 |_=>.bad
abbrev E0s:L2.St->XK:=λ_ _ _ _=>False
noncomputable def K4(k:Nat)(cap:List Nat)(Z:De):De:=bG k none ++ cap.map λj=>Z.getD j none
noncomputable def Ie(s:Tg)(t:De->M Bool)(e:De->M W):List W->De->List W->M (List W)
 |[],_,acc=>pure acc
 |w::ws,Z,acc=>match s w Z with
  |none=>bad
  |some Z1=>do
   let b<-noX (t Z1)
   if b then do
    let y<-noX (e Z1)
    if acc.length < big then Ie s t e ws Z1 (acc ++ [y]) else bad
   else Ie s t e ws Z1 acc
section
theorem R8{α β γ:Type}(m:M α)(f:α->M β)(k:β->M γ)(S:Store):((m >>= f) >>= k) S=(m >>= λa=>f a >>= k) S:=by
 show M.bind (M.bind m f) k S=M.bind m (λa=>M.bind (f a) k) S;unfold M.bind;cases m S <;> rfl
theorem Ay.seqB{α β γ Z':Type}{Rel:List aQ->Hp->α->β->Prop}{Rel2:List aQ->Hp->γ->Z'->Prop}{m:M α}{f:α->M γ}{Q:Z'->Hp->Prop}(h:Ay Θ Rel2 Y0 H1 ((noX m >>= f) S) Q E)(F:XK):
  Ay Θ Rel Y H (m S) (λv H2=>∃Y2 S2 w,Y <+: Y2/\Ds Y Y2 H H2/\Rep Θ Y2 S2 H2/\Rel Y2 H2 w v/\Ay Θ Rel2 Y0 H1 (f w S2) Q E) F:=by
 have h:Ay Θ Rel2 Y0 H1 (M.bind (noX m) f S) Q E:=h;unfold M.bind noX at h;cases e:m S with
 |bad=>rw[e] at h;exact h
 |exc c S1=>rw[e] at h;exact(show False from h).elim
 |ok w S1=>
  rw[e] at h;exact λY1 H1 v p t r rw'=>⟨Y1,S1,w,p,t,r,rw',h⟩
end
theorem mvG{Θ:Th}{Y Y':List aQ}{H:Hp}(p:Y <+: Y')(n:∀b,b∈Y'->b∈Y\/∃o,H b=some o/\Acf o=true):Mv Θ Y Y' H H:=⟨Atn p,λ_ _ h=>h,id,λa o m h mu=>⟨λz=>(n _ z).elim m λ⟨o',q,mu'⟩=>by rw[h] at q;cases q;rw[mu] at mu';exact wM mu',h⟩⟩
def RV.grow{Θ:Th}{Y Y':List aQ}{H:Hp}(p:Y <+: Y')(n:∀b,b∈Y'->b∈Y\/∃o,H b=some o/\Acf o=true){w:W}{v:V}(r:RV Θ Y H w v):RV Θ Y' H w v:=r.map (mvG p n)
def RVs.grow{Θ:Th}{Y Y':List aQ}{H:Hp}(p:Y <+: Y')(n:∀b,b∈Y'->b∈Y\/∃o,H b=some o/\Acf o=true){ws:List W}{vs:List V}(r:RVs Θ Y H ws vs):RVs Θ Y' H ws vs:=r.map (mvG p n)
section
theorem Mx.grow(p:Y <+: Y')(n:∀b,b∈Y'->b∈Y\/∃o,H b=some o/\Acf o=true)(h:Mx Θ Y H a c):Mx Θ Y' H a c:=by
 cases c with
 |lst ws=>obtain⟨vs,h,r⟩:=h;exact⟨vs,h,r.grow p n⟩
 |dct ws=>obtain⟨vs,h,r⟩:=h;exact⟨vs,h,Paired.imp2 (λ_ _ z=>⟨z.1,z.2.grow p n⟩) r⟩
theorem Rep.take(R:Rep Θ Y S H)(hD:D∉Y)(h:H D=some (.lst vs))(r:RVs Θ Y H acc vs):Rep Θ (Y ++ [D]) (S ++ [.lst acc]) H where
 len:=by rw[aK,aK,R.len];rfl
 nd:=by
  rw[nJ];refine⟨R.nd,by simp,λa ha b hb=>?_⟩
  obtain rfl:b=D:=by simpa using hb
  rintro rfl;exact hD ha
 at_:=λn a d e1 e2=>by
  by_cases hn:n < Y.length
  .rw[aY hn] at e1;rw[aY (by rw[<-R.len];exact hn)] at e2
   exact(R.at_ n a d e1 e2).grow (bZ _ _) (λb hb=>by
    rcases bW.mp hb with z|z
    .exact .inl z
    .obtain rfl:=bA.mp z;exact .inr ⟨_,h,rfl⟩)
  .have hl:=(aL.mp e1).1;rw[aK,cC] at hl;obtain rfl:n=Y.length:=by omega
   rw[bC (aN _),eG] at e1;rw[R.len,bC (aN _),eG] at e2;obtain rfl:D=a:=by simpa using e1
   obtain rfl:Cell.lst acc=d:=by simpa using e2
   exact⟨vs,h,r.grow (bZ _ _) (λb hb=>by
    rcases bW.mp hb with z|z
    .exact .inl z
    .obtain rfl:=bA.mp z;exact .inr ⟨_,h,rfl⟩)⟩
theorem Azg(own:List Str)(cap:List Nat)(h:RSl Θ Y H Z σ):RSs Θ Y H (K4 own.length cap Z) (As4 own cap σ):=by
 refine⟨by simp[K4,As4],λi w e=>?_⟩
 unfold K4 at e;unfold As4;by_cases hi:i < own.length
 .rw[aY (by rw[fB];exact hi),jL] at e
  split at e <;> cases e
 .rw[bC (by rw[fB];omega),fB,cB] at e
  rw[bC (by rw[fB];omega),fB,cB]
  obtain⟨j,e1,e2⟩:=cF.mp e;rw[e1];rw[cR] at e2;cases ej:Z[j]? with
  |none=>rw[ej] at e2;cases e2
  |some o=>
   rw[ej] at e2;have e2:o=some w:=e2;subst e2;obtain⟨v,h1,h2⟩:=h j w ej;exact⟨v,by rw[Option.map_some,cR,h1];rfl,h2⟩
end
def mvK{Θ:Th}{Y:List aQ}{H H':Hp}(t:∀b o,H b=some o->Acf o=false->H' b=some o):Mv Θ Y Y H H':=⟨λ_ _ h=>h,λ_ _ h=>t _ _ h rfl,λh=>h.imp (λ⟨o,h⟩=>⟨o,t _ _ h rfl⟩) id,λ_ _ m h mu=>⟨m,t _ _ h mu⟩⟩
def RV.keep{Θ:Th}{Y:List aQ}{H H':Hp}(t:∀b o,H b=some o->Acf o=false->H' b=some o){w:W}{v:V}(r:RV Θ Y H w v):RV Θ Y H' w v:=r.map (mvK t)
def RVs.keep{Θ:Th}{Y:List aQ}{H H':Hp}(t:∀b o,H b=some o->Acf o=false->H' b=some o){ws:List W}{vs:List V}(r:RVs Θ Y H ws vs):RVs Θ Y H' ws vs:=r.map (mvK t)
section
def Mz(H:Hp)(D:aQ):Prop:=H D=none\/∃o,H D=some o/\Acf o=true
theorem Mz.t(h:Mz H D):∀b xs,H b=some (.tup xs)->upd H D o b=some (.tup xs):=λb xs q=>by
 rw[Bb (by rintro rfl;rcases h with h|⟨o,h,m⟩ <;> rw[h] at q <;> cases q;cases m)];exact q
theorem Mz.f(h:Mz H D):∀b ob u,H b=some (.frz ob u)->upd H D o b=some (.frz ob u):=λb ob u q=>by
 rw[Bb (by rintro rfl;rcases h with h|⟨o,h,m⟩ <;> rw[h] at q <;> cases q;cases m)];exact q
theorem Mz.g(h:Mz H D):∀b o,H b=some o->Acf o=false->upd H D o' b=some o:=λb o q n=>by
 rw[Bb (by
  rintro rfl;rcases h with h|⟨u,h,m⟩ <;> rw[h] at q
  .cases q
  .cases q;rw[n] at m;cases m)];exact q
theorem Rep.off(R:Rep Θ Y S H)(hD:D∉Y)(h:Mz H D):Rep Θ Y S (upd H D o) where
 len:=R.len
 nd:=R.nd
 at_:=λn a c e1 e2=>by
  have ne:a≠D:=by
   rintro rfl;exact hD (gU e1)
  have q:=R.at_ n a c e1 e2;cases c with
  |lst ws=>obtain⟨vs,h1,r⟩:=q;exact⟨vs,(Bb ne).trans h1,r.keep h.g⟩
  |dct ws=>obtain⟨vs,h1,r⟩:=q;exact⟨vs,(Bb ne).trans h1,Paired.imp2 (λ_ _ z=>⟨z.1,z.2.keep h.g⟩) r⟩
theorem RSs.off(r:RSs Θ Y H Z σ)(h:Mz H D):RSs Θ Y (upd H D o) Z σ:=⟨r.1,λi w e=>by
 obtain⟨v,h1,h2⟩:=r.2 i w e;exact⟨v,h1,h2.keep h.g⟩⟩
theorem Ds.off(t:Ds Y0 Y H1 H)(h1:H1 D=none)(h:Mz H D):Ds Y0 Y H1 (upd H D o) where
 t:=λb xs q=>h.t b xs (t.t b xs q)
 f:=λb ob u q=>h.f b ob u (t.f b ob u q)
 k:=λb ob q m=>by rw[Bb (by rintro rfl;rw[h1] at q;cases q)];exact t.k b ob q m
 n:=t.n
theorem At9(gk:GOk Θ s g)(jk:JOk Θ J all Y0 H1)(R:Rep Θ Y0 S H1)(sl:RSs Θ Y0 H1 Z σ)(hD:H1 D=none)(q:Ay Θ (RV Θ) Y0 H1 ((Ie s tf ef all Z [] >>= Ck) S) Q E):
  Ae7 J g (tFb Θ E0s tf) (tF Θ E0s ef) D σ H1 Q:=by
 have nD:D∉Y0:=λz=>by
  obtain⟨o,ho⟩:=R.tracked z;rw[hD] at ho;cases ho
 refine⟨λi m acc σ' H'=>∃Y S Z' ws,i<=all.length/\Y0 <+: Y/\Ds Y0 Y H1 H'/\D∉Y/\Rep Θ Y S H'/\RSs Θ Y H' Z' σ'/\RVs Θ Y H' ws acc/\m=(all.drop i).length/\Ay Θ (RV Θ) Y0 H1 ((Ie s tf ef (all.drop i) Z' ws >>= Ck) S) Q E,
  ⟨_,Y0,S,Z,[],dU _,aX _,(Ds.refl _ _).off hD (.inl hD),nD,R.off nD (.inl hD),sl.off (.inl hD),.nil,rfl,q⟩,?_⟩
 rintro i m acc σ' H' ⟨Y,S,Z',ws,li,p,t,mD,R',sl',ra,rfl,q'⟩ hacc;by_cases hi:i < all.length
 .obtain⟨go,yl⟩:=jk.go Y H' i p t hi;refine .inr ⟨go,λx H'' hy=>?_⟩;obtain⟨ty,Ry,w,ew,rv⟩:=yl x H'' hy;have R':=Ry _ R';have sl':=sl'.mono (aX _) ty;have t:=t.trans ty;have ra:=ra.mono (aX _) ty;have hacc:=ty.k D _ hacc mD;have ed:all.drop i=w::all.drop (i+1):=by
   obtain⟨hl,e⟩:=aL.mp ew;rw[<-e];exact eF hl
  have hm:(all.drop (i+1)).length < (all.drop i).length:=by rw[cD,cD];omega
  rw[ed] at q';unfold Ie at q';cases es:s w Z' with
  |none=>simp only[es] at q';exact(show False from q').elim
  |some Z2=>
   simp only[es] at q';refine gk Y S H'' w x Z' Z2 σ' _ R' sl' rv es λσ2 sl2=>⟨Y,S,Z2,R',sl2.2,?_⟩;rw[R8] at q';refine(Ay.seqB (Rel:=λ_ _ a b=>a=b) (Y:=Y) (H:=H'') q' _).mono ?_;rintro b H3 ⟨Y3,S3,b',p3,t3,R3,e3,q3⟩;have e3:b'=b:=e3;subst e3;have out:∀{Ya Yb:List aQ} {Ha Hb:Hp},D∉Ya->Ha D=some (.lst acc)->Ds Ya Yb Ha Hb->D∉Yb/\Hb D=some (.lst acc):=λ{Ya Yb Ha Hb} m1 m2 m3=>by
    refine⟨λz=>?_,m3.k D _ m2 m1⟩;rcases m3.n D z with z|z
    .exact m1 z
    .rw[m2] at z;cases z
   obtain⟨mD3,hD3⟩:=out mD hacc t3;cases b' with
   |false=>
    rw[if_neg bH] at q3 ⊢
    exact⟨hD3,_,hm,Y3,S3,Z2,ws,hi,p.trans p3,t.trans t3,mD3,R3,sl2.mono p3 t3,ra.mono p3 t3,rfl,q3⟩
   |true=>
    rw[if_pos rfl] at q3 ⊢
    rw[R8] at q3;refine⟨Y3,S3,Z2,R3,(sl2.mono p3 t3).2,(Ay.seqB (Rel:=RV Θ) (Y:=Y3) (H:=H3) q3 _).mono ?_⟩;rintro y H4 ⟨Y4,S4,yw,p4,t4,R4,ry,q4⟩;obtain⟨mD4,hD4⟩:=out mD3 hD3 t4;by_cases hz:ws.length < big
    .rw[if_pos hz] at q4;have fl:Mz H4 D:=.inr ⟨_,hD4,rfl⟩;have ra4:=(ra.mono p3 t3).mono p4 t4;refine⟨hD4,by rw[<-ra.length];exact bM hz (by decide),_,hm,Y4,S4,Z2,ws ++ [yw],hi,(p.trans p3).trans p4,((t.trans t3).trans t4).off hD fl,mD4,R4.off mD4 fl,((sl2.mono p3 t3).mono p4 t4).off fl,?_,rfl,q4⟩
     exact(ra4.append (.cons ry .nil)).keep fl.g
    .rw[if_neg hz] at q4;exact(show False from q4).elim
 .rw[gG (by omega)] at q'
  refine .inl ⟨jk.stop Y H' i t (by omega),?_⟩
  have q2:Ay Θ (RV Θ) Y0 H1 (Ck ws S) Q E:=q';simp only[Ck] at q2;split at q2
  .refine q2 (Y ++ [D]) H' (.ref D) (p.trans (bZ _ _)) ⟨t.t,t.f,t.k,λb hb=>?_⟩ (R'.take mD hacc ra) (.ref ?_)
   .rcases bW.mp hb with z|z
    .exact t.n b z
    .obtain rfl:b=D:=by simpa using z
     exact .inr hD
   .rw[<-R'.len];exact Kc
  .exact(show False from q2).elim
end
noncomputable def Hn(s:Tg)(t:De->M Bool)(e:De->M W)(n:Nat):Nat->Nat->De->List W->M (List W)
 |0,_,_,_=>bad
 |m+1,i,Z,acc=>λS=>match S[n]? with
  |some (.lst ws)=>match ws[i]? with
   |none=>.ok acc S
   |some w=>match s w Z with
    |none=>.bad
    |some Z1=>(noX (t Z1) >>= λb=>if b=true then noX (e Z1) >>= λy=>if acc.length < big then Hn s t e n m (i+1) Z1 (acc ++ [y]) else bad else Hn s t e n m (i+1) Z1 acc) S
  |_=>.bad
noncomputable def J9(s:Tg)(t:De->M Bool)(e:De->M W)(gt:Store->Nat->Option (Option W)):Nat->Nat->De->List W->M (List W)
 |0,_,_,_=>bad
 |m+1,i,Z,acc=>λS=>match gt S i with
  |none=>.bad
  |some none=>.ok acc S
  |some (some w)=>match s w Z with
   |none=>.bad
   |some Z1=>(noX (t Z1) >>= λb=>if b=true then noX (e Z1) >>= λy=>if acc.length < big then J9 s t e gt m (i+1) Z1 (acc ++ [y]) else bad else J9 s t e gt m (i+1) Z1 acc) S
noncomputable def zlG(n m:Nat):Store->Nat->Option (Option W):=λS i=>match S[n]?,S[m]? with
 |some (.lst ws),some (.lst us)=>match ws[i]?,us[i]? with
  |some w,some u=>some (some (.tup [w,u]))
  |_,_=>some none
 |_,_=>none
def Bt(k:Nat)(cap:List Nat)(src:De->M Src)(s:Tg)(t:De->M Bool)(e:De->M W):De->M W:=λZ=>do
 let z<-src Z
 match z with
 |.fix ws=>Ie s t e ws (K4 k cap Z) [] >>= Ck
 |.liv n=>λS=>match S[n]? with
  |some (.lst ws)=>(Hn s t e n (ws.length+1) 0 (K4 k cap Z) [] >>= Ck) S
  |_=>.bad
 |.zl n m=>λS=>match S[n]? with
  |some (.lst ws)=>(J9 s t e (zlG n m) (ws.length+1) 0 (K4 k cap Z) [] >>= Ck) S
  |_=>.bad
section
def after{α β:Type}(f:α->M β):R α->R β
 |.ok a S1=>f a S1
 |.exc c S1=>.exc c S1
 |.bad=>.bad
theorem Ir{α β:Type}{m:M α}{f:α->M β}{r:R α}(e:m S=r):(m >>= f) S=after f r:=by
 show M.bind m f S=_;unfold M.bind after;rw[e]
 all_goals (cases r <;> rfl)
theorem Aua{K:aF}{n f:Nat}{a D:aQ}{Z:De}{σ:L2.St}(gk:GOk Θ s g)(hn:Y0[n]?=some a)(R:Rep Θ Y0 S H1)(sl:RSs Θ Y0 H1 Z σ)(hD:H1 D=none)(q:Ay Θ (RV Θ) Y0 H1 ((Hn s tf ef n f 0 Z [] >>= Ck) S) Q E):
  Ae7 (Itl K a) g (tFb Θ E0s tf) (tF Θ E0s ef) D σ H1 Q:=by
 have nD:D∉Y0:=λz=>by
  obtain⟨o,ho⟩:=R.tracked z;rw[hD] at ho;cases ho
 refine⟨λi m acc σ' H'=>∃Y S Z' ws,Y0 <+: Y/\Ds Y0 Y H1 H'/\D∉Y/\Rep Θ Y S H'/\RSs Θ Y H' Z' σ'/\RVs Θ Y H' ws acc/\Ay Θ (RV Θ) Y0 H1 ((Hn s tf ef n m i Z' ws >>= Ck) S) Q E,
  ⟨f,Y0,S,Z,[],aX _,(Ds.refl _ _).off hD (.inl hD),nD,R.off nD (.inl hD),sl.off (.inl hD),.nil,q⟩,?_⟩
 rintro i m acc σ' H' ⟨Y,S,Z',ws,p,t,mD,R',sl',ra,q'⟩ hacc;have hn1:Y[n]?=some a:=by
  obtain⟨r,rfl⟩:=p;rw[aY (aL.mp hn).1];exact hn
 cases m with
 |zero=>exact(show False from q').elim
 |succ m=>
  cases ec:S[n]? with
  |none=>rw[Ir (r:=.bad) (by unfold Hn;simp only[ec])] at q';exact(show False from q').elim
  |some c=>
   obtain⟨a',ha',qc⟩:=R'.get ec;rw[hn1] at ha';cases ha';cases c with
   |dct _=>rw[Ir (r:=.bad) (by unfold Hn;simp only[ec])] at q';exact(show False from q').elim
   |lst us=>
    obtain⟨vs,h1,r1⟩:=qc;cases ew:us[i]? with
    |none=>
     rw[Ir (r:=.ok ws S) (by unfold Hn;simp only[ec,ew])] at q'
     refine .inl ⟨⟨vs,.inl (.inl h1),by rw[<-r1.length];exact dZ.mp ew⟩,?_⟩
     have q2:Ay Θ (RV Θ) Y0 H1 (Ck ws S) Q E:=q';simp only[Ck] at q2;split at q2
     .refine q2 (Y ++ [D]) H' (.ref D) (p.trans (bZ _ _)) ⟨t.t,t.f,t.k,λb hb=>?_⟩ (R'.take mD hacc ra) (.ref ?_)
      .rcases bW.mp hb with z|z
       .exact t.n b z
       .obtain rfl:b=D:=by simpa using z
        exact .inr hD
      .rw[<-R'.len];exact Kc
     .exact(show False from q2).elim
    |some w=>
     obtain⟨v,ev,rv⟩:=r1.get ew;refine .inr ⟨⟨vs,v,.inl (.inl h1),ev⟩,?_⟩;rintro x H'' ⟨rfl,hx⟩;have e2:=hx vs (.inl (.inl h1));rw[ev] at e2;cases e2;cases es:s w Z' with
     |none=>rw[Ir (r:=.bad) (by unfold Hn;simp only[ec,ew,es])] at q';exact(show False from q').elim
     |some Z2=>
      have q':Ay Θ (RV Θ) Y0 H1 (((noX (tf Z2) >>= λb=>if b=true then noX (ef Z2) >>= λy=>if ws.length < big then Hn s tf ef n m (i+1) Z2 (ws ++ [y]) else bad else Hn s tf ef n m (i+1) Z2 ws) >>= Ck) S) Q E:=by
       have e3:Hn s tf ef n (m+1) i Z' ws S=(noX (tf Z2) >>= λb=>if b=true then noX (ef Z2) >>= λy=>if ws.length < big then Hn s tf ef n m (i+1) Z2 (ws ++ [y]) else bad else Hn s tf ef n m (i+1) Z2 ws) S:=by
        conv=>lhs;unfold Hn
        simp only[ec,ew,es]
       rw[Ir e3] at q';rw[Ir rfl];exact q'
      refine gk Y S H'' w v Z' Z2 σ' _ R' sl' rv es λσ2 sl2=>⟨Y,S,Z2,R',sl2.2,?_⟩;rw[R8] at q';refine(Ay.seqB (Rel:=λ_ _ a b=>a=b) (Y:=Y) (H:=H'') q' _).mono ?_;rintro b H3 ⟨Y3,S3,b',p3,t3,R3,e3,q3⟩;have e3:b'=b:=e3;subst e3;have out:∀{Ya Yb:List aQ} {Ha Hb:Hp},D∉Ya->Ha D=some (.lst acc)->Ds Ya Yb Ha Hb->D∉Yb/\Hb D=some (.lst acc):=λ{Ya Yb Ha Hb} m1 m2 m3=>by
       refine⟨λz=>?_,m3.k D _ m2 m1⟩;rcases m3.n D z with z|z
       .exact m1 z
       .rw[m2] at z;cases z
      obtain⟨mD3,hD3⟩:=out mD hacc t3;cases b' with
      |false=>
       rw[if_neg bH] at q3 ⊢
       exact⟨hD3,m,jO m,Y3,S3,Z2,ws,p.trans p3,t.trans t3,mD3,R3,sl2.mono p3 t3,ra.mono p3 t3,q3⟩
      |true=>
       rw[if_pos rfl] at q3 ⊢
       rw[R8] at q3;refine⟨Y3,S3,Z2,R3,(sl2.mono p3 t3).2,(Ay.seqB (Rel:=RV Θ) (Y:=Y3) (H:=H3) q3 _).mono ?_⟩;rintro y H4 ⟨Y4,S4,yw,p4,t4,R4,ry,q4⟩;obtain⟨mD4,hD4⟩:=out mD3 hD3 t4;by_cases hz:ws.length < big
       .rw[if_pos hz] at q4;have fl:Mz H4 D:=.inr ⟨_,hD4,rfl⟩;have ra4:=(ra.mono p3 t3).mono p4 t4;refine⟨hD4,by rw[<-ra.length];exact bM hz (by decide),m,jO m,Y4,S4,Z2,ws ++ [yw],(p.trans p3).trans p4,((t.trans t3).trans t4).off hD fl,mD4,R4.off mD4 fl,((sl2.mono p3 t3).mono p4 t4).off fl,?_,q4⟩
        exact(ra4.append (.cons ry .nil)).keep fl.g
       .rw[if_neg hz] at q4;exact(show False from q4).elim
end
section
structure JLv(Θ:Th)(J:It)(gt:Store->Nat->Option (Option W))(Y0:List aQ):Prop where
 stop:∀Y S H i,Y0 <+: Y->Rep Θ Y S H->gt S i=some none->J.stop i H
 go:∀Y S H i w,Y0 <+: Y->Rep Θ Y S H->gt S i=some (some w)->J.go i H/\∀x H',J.yld i H x H'->Ds Y Y H H'/\(∀S,Rep Θ Y S H->Rep Θ Y S H')/\RV Θ Y H' w x
theorem Aub{gt:Store->Nat->Option (Option W)}{f:Nat}(gk:GOk Θ s g)(jk:JLv Θ J gt Y0)(R:Rep Θ Y0 S H1)(sl:RSs Θ Y0 H1 Z σ)(hD:H1 D=none)(q:Ay Θ (RV Θ) Y0 H1 ((J9 s tf ef gt f 0 Z [] >>= Ck) S) Q E):
  Ae7 J g (tFb Θ E0s tf) (tF Θ E0s ef) D σ H1 Q:=by
 have nD:D∉Y0:=λz=>by
  obtain⟨o,ho⟩:=R.tracked z;rw[hD] at ho;cases ho
 refine⟨λi m acc σ' H'=>∃Y S Z' ws,Y0 <+: Y/\Ds Y0 Y H1 H'/\D∉Y/\Rep Θ Y S H'/\RSs Θ Y H' Z' σ'/\RVs Θ Y H' ws acc/\Ay Θ (RV Θ) Y0 H1 ((J9 s tf ef gt m i Z' ws >>= Ck) S) Q E,
  ⟨f,Y0,S,Z,[],aX _,(Ds.refl _ _).off hD (.inl hD),nD,R.off nD (.inl hD),sl.off (.inl hD),.nil,q⟩,?_⟩
 rintro i m acc σ' H' ⟨Y,S,Z',ws,p,t,mD,R',sl',ra,q'⟩ hacc;cases m with
 |zero=>exact(show False from q').elim
 |succ m=>
  cases eg:gt S i with
  |none=>rw[Ir (r:=.bad) (by unfold J9;simp only[eg])] at q';exact(show False from q').elim
  |some o=>
   cases o with
   |none=>
    rw[Ir (r:=.ok ws S) (by unfold J9;simp only[eg])] at q'
    refine .inl ⟨jk.stop Y S H' i p R' eg,?_⟩;have q2:Ay Θ (RV Θ) Y0 H1 (Ck ws S) Q E:=q';simp only[Ck] at q2;split at q2
    .refine q2 (Y ++ [D]) H' (.ref D) (p.trans (bZ _ _)) ⟨t.t,t.f,t.k,λb hb=>?_⟩ (R'.take mD hacc ra) (.ref ?_)
     .rcases bW.mp hb with z|z
      .exact t.n b z
      .obtain rfl:b=D:=by simpa using z
       exact .inr hD
     .rw[<-R'.len];exact Kc
    .exact(show False from q2).elim
   |some w=>
    obtain⟨go,yl⟩:=jk.go Y S H' i w p R' eg;refine .inr ⟨go,λx H'' hy=>?_⟩;obtain⟨ty,Ry,rv⟩:=yl x H'' hy;have R':=Ry _ R';have sl':=sl'.mono (aX _) ty;have t:=t.trans ty;have ra:=ra.mono (aX _) ty;have hacc:=ty.k D _ hacc mD;cases es:s w Z' with
    |none=>rw[Ir (r:=.bad) (by unfold J9;simp only[eg,es])] at q';exact(show False from q').elim
    |some Z2=>
     have q':Ay Θ (RV Θ) Y0 H1 (((noX (tf Z2) >>= λb=>if b=true then noX (ef Z2) >>= λy=>if ws.length < big then J9 s tf ef gt m (i+1) Z2 (ws ++ [y]) else bad else J9 s tf ef gt m (i+1) Z2 ws) >>= Ck) S) Q E:=by
      have e3:J9 s tf ef gt (m+1) i Z' ws S=(noX (tf Z2) >>= λb=>if b=true then noX (ef Z2) >>= λy=>if ws.length < big then J9 s tf ef gt m (i+1) Z2 (ws ++ [y]) else bad else J9 s tf ef gt m (i+1) Z2 ws) S:=by
       conv=>lhs;unfold J9
       simp only[eg,es]
      rw[Ir e3] at q';rw[Ir rfl];exact q'
     refine gk Y S H'' w x Z' Z2 σ' _ R' sl' rv es λσ2 sl2=>⟨Y,S,Z2,R',sl2.2,?_⟩;rw[R8] at q';refine(Ay.seqB (Rel:=λ_ _ a b=>a=b) (Y:=Y) (H:=H'') q' _).mono ?_;rintro b H3 ⟨Y3,S3,b',p3,t3,R3,e3,q3⟩;have e3:b'=b:=e3;subst e3;have out:∀{Ya Yb:List aQ} {Ha Hb:Hp},D∉Ya->Ha D=some (.lst acc)->Ds Ya Yb Ha Hb->D∉Yb/\Hb D=some (.lst acc):=λ{Ya Yb Ha Hb} m1 m2 m3=>⟨m3.out m2 m1,m3.k D _ m2 m1⟩;obtain⟨mD3,hD3⟩:=out mD hacc t3;cases b' with
     |false=>
      rw[if_neg bH] at q3 ⊢
      exact⟨hD3,m,jO m,Y3,S3,Z2,ws,p.trans p3,t.trans t3,mD3,R3,sl2.mono p3 t3,ra.mono p3 t3,q3⟩
     |true=>
      rw[if_pos rfl] at q3 ⊢
      rw[R8] at q3;refine⟨Y3,S3,Z2,R3,(sl2.mono p3 t3).2,(Ay.seqB (Rel:=RV Θ) (Y:=Y3) (H:=H3) q3 _).mono ?_⟩;rintro y H4 ⟨Y4,S4,yw,p4,t4,R4,ry,q4⟩;obtain⟨mD4,hD4⟩:=out mD3 hD3 t4;by_cases hz:ws.length < big
      .rw[if_pos hz] at q4;have fl:Mz H4 D:=.inr ⟨_,hD4,rfl⟩;have ra4:=(ra.mono p3 t3).mono p4 t4;refine⟨hD4,by rw[<-ra.length];exact bM hz (by decide),m,jO m,Y4,S4,Z2,ws ++ [yw],(p.trans p3).trans p4,((t.trans t3).trans t4).off hD fl,mD4,R4.off mD4 fl,((sl2.mono p3 t3).mono p4 t4).off fl,?_,q4⟩
       exact(ra4.append (.cons ry .nil)).keep fl.g
      .rw[if_neg hz] at q4;exact(show False from q4).elim
theorem Bff{n m:Nat}(hn:Y0[n]?=some a)(hm:Y0[m]?=some b):JLv Θ (Itz Θ.K false a b) (zlG n m) Y0:=by
 have up:∀{Y:List aQ} {k:Nat} {c:aQ},Y0 <+: Y->Y0[k]?=some c->Y[k]?=some c:=λ{Y k c} p h=>by
  obtain⟨r,rfl⟩:=p;rw[aY (aL.mp h).1];exact h
 have open_:∀{Y:List aQ} {S:Store} {H:Hp} {i:Nat} {o:Option W},Y0 <+: Y->Rep Θ Y S H->zlG n m S i=some o->∃ws us vs zs,S[n]?=some (.lst ws)/\S[m]?=some (.lst us)/\H a=some (.lst vs)/\H b=some (.lst zs)/\RVs Θ Y H ws vs/\RVs Θ Y H us zs/\
   (match ws[i]?,us[i]? with|some w,some u=>some (some (W.tup [w,u]))|_,_=>some none)=some o:=λ{Y S H i o} p R e=>by
  unfold zlG at e;cases e1:S[n]? with
  |none=>rw[e1] at e;cases e
  |some c1=>
   cases e2:S[m]? with
   |none=>rw[e1,e2] at e;cases c1 <;> cases e
   |some c2=>
    rw[e1,e2] at e;cases c1 <;> cases c2 <;> first|cases e;done|skip
    rename_i ws us;obtain⟨a',ha',vs,h1,r1⟩:=R.get e1;obtain⟨b',hb',zs,h2,r2⟩:=R.get e2;rw[up p hn] at ha';cases ha';rw[up p hm] at hb';cases hb';exact⟨ws,us,vs,zs,rfl,rfl,h1,h2,r1,r2,e⟩
 refine⟨λY S H i p R e=>?_,λY S H i w p R e=>?_⟩
 .obtain⟨ws,us,vs,zs,_,_,h1,h2,r1,r2,e⟩:=open_ p R e;refine⟨vs,zs,.inl (.inl h1),.inl (.inl h2),?_⟩;rw[<-r1.length,<-r2.length];cases q1:ws[i]? with
  |none=>exact .inl (dZ.mp q1)
  |some x=>
   cases q2:us[i]? with
   |none=>exact .inr (dZ.mp q2)
   |some y=>rw[q1,q2] at e;cases e
 .obtain⟨ws,us,vs,zs,_,_,h1,h2,r1,r2,e⟩:=open_ p R e;cases q1:ws[i]? with
  |none=>rw[q1] at e;cases e
  |some x=>
   cases q2:us[i]? with
   |none=>rw[q1,q2] at e;cases e
   |some y=>
    rw[q1,q2] at e;cases e;obtain⟨vx,g1,rx⟩:=r1.get q1;obtain⟨vy,g2,ry⟩:=r2.get q2;refine⟨⟨vs,zs,vx,vy,.inl (.inl h1),.inl (.inl h2),g1,g2⟩,?_⟩;rintro v H' ⟨pp,x',y',f1,f2,hp,rfl,rfl⟩;have z1:=f1 vs (.inl (.inl h1));have z2:=f2 zs (.inl (.inl h2));rw[g1] at z1;cases z1;rw[g2] at z2;cases z2;exact⟨Cj hp,λS r=>r.beside hp,.tup Bl (.cons (rx.mono (aX _) (Cj hp)) (.cons (ry.mono (aX _) (Cj hp)) .nil))⟩
end
section
variable{cap:List Nat}
theorem Ai7(gk:GOk Θ s g):∀σ H Q,tF Θ E (Bt own.length cap src s tf ef) σ H Q->Ae8 (tFi Θ E src) g (tFb Θ E0s tf) (tF Θ E0s ef) own cap σ H Q:=λσ H Q zz=>by
  obtain⟨Y,S,Z,R,sl,q⟩:=zz;refine⟨Y,S,Z,R,sl,(Ay.seq (Rel:=Ack Θ) q).mono ?_⟩;rintro J H1 ⟨Y1,S1,z,p1,t1,R1,rj,q1⟩ D hD;have sl1:=Azg own cap (sl.mono p1 t1);cases z with
  |fix ws=>exact At9 gk rj R1 sl1 hD q1
  |liv n=>
   obtain⟨a,hn,rfl⟩:=rj;simp only at q1;split at q1
   .exact Aua gk hn R1 sl1 hD q1
   .exact(show False from q1).elim
  |zl n m=>
   obtain⟨a,b,hn,hm,rfl⟩:=rj;simp only at q1;split at q1
   .exact Aub gk (Bff hn hm) R1 sl1 hD q1
   .exact(show False from q1).elim
theorem Bfg(hc:X.calm=true)(hE:X.env.scope=sc)(hi:WI X tg iter (tFi Θ E src))(hg:∀C s H ex,WG (X.comp scope own cap C s H ex) tg g)(gk:GOk Θ s g)(ht:∀C s H ex,WTs (X.comp scope own cap C s H ex) ifs (tFb Θ E0s tf))(he:∀C s H ex,WE (X.comp scope own cap C s H ex) elt (tF Θ E0s ef))(hcap:cap.all (λj=>match X.N[j]? with|some x=>decide (scope.names.lookup x=some .free)|none=>false)=true)(az:scope.kind=.function)(ao:scope.names.all (λy=>decide (y.2≠.cell))=true)(au:scope.names.all (λy=>!decide (y.2=.local)||decide (scope.names.lookup y.1=some .local))=true)(bc:scope.names.all (λy=>!decide (y.2=.free)||(decide (sc.names.lookup y.1=some .cell)||decide (sc.names.lookup y.1=some .free)))=true)(hs:∀x,foldedSetIterable iter X.env x=pure x):
  WE X (.ListComp elt [⟨tg,iter,ifs,0⟩] scope pos) (tF Θ E (Bt own.length cap src s tf ef)):=
 WE.weak (Biu hc hE hi hg ht he hcap az ao au bc hs) (Ai7 gk)
end
def Ag7(kvs:List (Key×W)):M W:=λS=>.ok (.ref S.length) (S ++ [.dct kvs])
def J7(kvs more:List (Key×W)):List (Key×W):=more.foldl (λacc kv=>Tq acc kv.1 kv.2) kvs
noncomputable def Mh:List ((De->M W)×(De->M W))->De->M (List (Key×W))
 |[]=>λ_=>pure []
 |(f,g)::r=>λZ=>do
  let k<-f Z;let v<-g Z;let kvs<-Mh r Z
  match Ael k with
  |some k=>pure ((k,v)::kvs)
  |none=>bad
def M3(l:List ((De->M W)×(De->M W))):De->M W:=λZ=>do let kvs<-Mh l Z;Ag7 (J7 [] kvs)
section
theorem Ds.more(t:Ds Y Y2 H H')(h:H p=none):Ds Y (Y2 ++ [p]) H H' where
 t:=t.t
 f:=t.f
 k:=t.k
 n:=λb m=>by
  rcases bW.mp m with z|z
  .exact t.n b z
  .obtain rfl:=bA.mp z;exact .inr h
theorem Rep.takeC(R:Rep Θ Y S H)(hD:D∉Y)(h:H D=some o)(mu:Acf o=true)(q:Mx Θ (Y ++ [D]) H D c):Rep Θ (Y ++ [D]) (S ++ [c]) H where
 len:=by rw[aK,aK,R.len];rfl
 nd:=by
  rw[nJ];refine⟨R.nd,by simp,λa ha b hb=>?_⟩
  obtain rfl:b=D:=by simpa using hb
  rintro rfl;exact hD ha
 at_:=λn a d e1 e2=>by
  by_cases hn:n < Y.length
  .rw[aY hn] at e1;rw[aY (by rw[<-R.len];exact hn)] at e2
   refine(R.at_ n a d e1 e2).grow (bZ _ _) (λb hb=>?_);rcases bW.mp hb with z|z
   .exact .inl z
   .obtain rfl:=bA.mp z;exact .inr ⟨_,h,mu⟩
  .have hl:=(aL.mp e1).1;rw[aK,cC] at hl;obtain rfl:n=Y.length:=by omega
   rw[bC (aN _),eG] at e1;rw[R.len,bC (aN _),eG] at e2;obtain rfl:D=a:=by simpa using e1
   obtain rfl:c=d:=by simpa using e2
   exact q
theorem RKV.merge(r:RKV Θ Y H more rs):∀{kvs:List (Key×W)} {vs:List (Key×V)},RKV Θ Y H kvs vs->RKV Θ Y H (J7 kvs more) (Ks vs rs):=by
 unfold RKV at r;induction r with
 |nil=>intro kvs vs q;exact q
 |@cons p q ps qs h t ih=>
  intro kvs vs r0;have e:RKV Θ Y H (Tq kvs p.1 p.2) (putK vs q.1 q.2):=by
   rw[<-h.1];exact r0.put p.1 h.2
  exact ih e
def Azh(Θ:Th)(Y:List aQ)(H:Hp)(kws:List (Key×W))(ps:List (V×V)):Prop:=∃kvs:List (Key×V),ps=kvs.map (λkv=>(kV kv.1,kv.2))/\RKV Θ Y H kws kvs
theorem Acm:∀(l:List ((De->M W)×(De->M W))) {Y:List aQ} {S:Store} {H:Hp} {Q:List (V×V)->Hp->Prop},Rep Θ Y S H->RSl Θ Y H Z σ->Ay Θ (Azh Θ) Y H (Mh l Z S) Q (E σ)->Agp (l.map λp=>(tF Θ E p.1,tF Θ E p.2)) σ H Q
 |[],Y,S,H,Q,R,sl,q=>Ay.now (Rel:=Azh Θ) q R ⟨[],rfl,.nil⟩
 |(f,g)::r,Y,S,H,Q,R,sl,q=>by
  refine⟨Y,S,Z,R,sl,(Ay.seq (Rel:=RV Θ) q).mono ?_⟩;rintro vk H1 ⟨Y1,S1,k,p1,t1,R1,rk,q1⟩;refine⟨Y1,S1,Z,R1,sl.mono p1 t1,(Ay.seq (Rel:=RV Θ) q1).mono ?_⟩;rintro vv H2 ⟨Y2,S2,v,p2,t2,R2,rv,q2⟩;refine Acm r R2 ((sl.mono p1 t1).mono p2 t2) ((Ay.seq (Rel:=Azh Θ) q2).mono ?_);rintro ps H3 ⟨Y3,S3,kws,p3,t3,R3,⟨kvs,rfl,rkv⟩,q3⟩;cases e:Ael k with
  |none=>rw[e] at q3;exact(show False from q3).elim
  |some kk=>
   rw[e] at q3;have ek:=Ag4 rk e;subst ek;exact Ay.now (Rel:=Azh Θ) q3 R3 ⟨(kk,vv)::kvs,rfl,.cons ⟨rfl,rv.mono p3 t3⟩ rkv⟩
theorem pairs_len:∀(l:List ((De->M W)×(De->M W))) (Z:De) (S S1:Store) (kws:List (Key×W)),Mh l Z S=.ok kws S1->kws.length=l.length
 |[],Z,S,S1,kws,e=>by cases e;rfl
 |(f,g)::r,Z,S,S1,kws,e=>by
  have e:M.bind (f Z) (λk=>M.bind (g Z) λv=>M.bind (Mh r Z) λkvs=>match Ael k with|some k=>pure ((k,v)::kvs)|none=>bad) S=_:=e
  unfold M.bind at e;cases e1:f Z S with
  |ok k S2=>
   rw[e1] at e;simp only at e;cases e2:g Z S2 with
   |ok v S3=>
    rw[e2] at e;simp only at e;cases e3:Mh r Z S3 with
    |ok kvs S4=>
     rw[e3] at e;simp only at e;have ih:=pairs_len r Z _ _ _ e3;cases ek:Ael k with
     |none=>rw[ek] at e;cases e
     |some kk=>rw[ek] at e;cases e;rw[aU,aU,ih]
    |exc c S4=>rw[e3] at e;cases e
    |bad=>rw[e3] at e;cases e
   |exc c S4=>rw[e2] at e;cases e
   |bad=>rw[e2] at e;cases e
  |exc c S4=>rw[e1] at e;cases e
  |bad=>rw[e1] at e;cases e
theorem Bfh:WE X (.Dict [] [] pos) (tF Θ E (M3 [])):=WE.weak ⟨Asw⟩ λσ H Q ⟨Y,S,Z,R,sl,q⟩=>λp hp=>by
 refine q (Y ++ [p]) _ _ (bZ _ _) (Cj hp) (R.alloc (c:=.dct []) hp ⟨_,Bl,.nil⟩) (.ref ?_);rw[<-R.len];exact Kc
theorem Bfi(h:WPs X pos keys values (l.map λp=>(tF Θ E p.1,tF Θ E p.2)))(hall:keys.all (·.isSome)=true)(hl:keys.length=values.length)(h0:keys≠[])(h15:keys.length<=15)(hk:l.length=keys.length):
  WE X (.Dict keys values pos) (tF Θ E (M3 l)):=WE.weak ⟨Axs h.un hall hl h0 h15⟩ λσ H Q ⟨Y,S,Z,R,sl,q⟩=>λp hp=>by
 have pn:p∉Y:=λz=>by
  obtain⟨o,ho⟩:=R.tracked z;rw[hp] at ho;cases ho
 have t0:Ds Y Y H (upd H p (.dK [])):=Cj hp;have q0:Ay Θ (RV Θ) Y (upd H p (.dK [])) (M3 l Z S) Q (E σ):=Ay.shift q (aX _) t0;cases e:Mh l Z S with
 |bad=>
  have q:Ay Θ (RV Θ) Y H (M.bind (Mh l Z) (λkvs=>Ag7 (J7 [] kvs)) S) Q (E σ):=q;unfold M.bind at q;rw[e] at q;exact q.elim
 |exc c S1=>
  refine Acm l (R.beside hp) (sl.mono (aX _) t0) ?_;have q0:Ay Θ (RV Θ) Y (upd H p (.dK [])) (M.bind (Mh l Z) (λkvs=>Ag7 (J7 [] kvs)) S) Q (E σ):=q0;unfold M.bind at q0;rw[e] at q0 ⊢
  exact q0
 |ok kws S1=>
  refine Acm l (R.beside hp) (sl.mono (aX _) t0) ?_;rw[e];rintro Y2 H2 ps p2 t2 R2 ⟨kvs,rfl,rkv⟩;have hp2:H2 p=some (.dK []):=t2.k p _ Bl pn;have pn2:p∉Y2:=t2.out Bl pn;have fl:Mz H2 p:=.inr ⟨_,hp2,rfl⟩;have q1:Ay Θ (RV Θ) Y H (M.bind (Mh l Z) (λkvs=>Ag7 (J7 [] kvs)) S) Q (E σ):=q;unfold M.bind at q1;rw[e] at q1;have ln:=pairs_len l Z S S1 kws e;refine⟨hp2,kvs,rfl,?_,?_⟩
  .rw[<-(paired_len rkv:kws.length=kvs.length),ln,hk];exact h15
  .have r3:RKV Θ Y2 (upd H2 p (.dK (Ks [] kvs))) (J7 [] kws) (Ks [] kvs):=Paired.imp2 (λ_ _ z=>⟨z.1,z.2.keep fl.g⟩) (RKV.merge rkv (kvs:=[]) (vs:=[]) .nil);have R3:=R2.off (o:=.dK (Ks [] kvs)) pn2 fl;have r4:RKV Θ (Y2 ++ [p]) (upd H2 p (.dK (Ks [] kvs))) (J7 [] kws) (Ks [] kvs):=Paired.imp2 (λ_ _ z=>⟨z.1,z.2.grow (bZ _ _) (λb hb=>by
    rcases bW.mp hb with z|z
    .exact .inl z
    .obtain rfl:=bA.mp z;exact .inr ⟨_,Bl,rfl⟩)⟩) r3
   have R4:=R3.takeC (c:=.dct (J7 [] kws)) pn2 Bl rfl ⟨_,Bl,r4⟩;refine q1 (Y2 ++ [p]) _ _ (p2.trans (bZ _ _)) (((t0.trans t2).off hp fl).more hp) R4 (.ref ?_);rw[<-R2.len];exact Kc
end
noncomputable def tyW(S:Store):W->Option String
 |.non=>some "NoneType"
 |.bl _=>some "bool"
 |.int _=>some "int"
 |.str _=>some "str"
 |.tup _=>some "tuple"
 |.ref n=>match S[n]? with
  |some (.lst _)=>some "list"
  |some (.dct _)=>some "dict"
  |_=>none
 |_=>none
noncomputable def Np:List String:=["int","bool","str","tuple","list","dict"]
def Auc:List String:=["NoneType","int","bool","str","tuple","list","dict"]
def Acn(T n:String):Bool:=T==n||(T=="bool"&&n=="int")
noncomputable def Bfj(Θ:Th):W->Option aJ
 |.ty n=>some (.type n)
 |.cls c=>some (.ref (Θ.cl c))
 |_=>none
structure Afl(Θ:Th)(isa:Nat->W->Option Bool):Prop where
 ok:∀c k b,isa c k=some b->Te Θ.K (Θ.cl c)/\∃cv,Bfj Θ k=some cv/\gR Θ.K (.ref (Θ.cl c)) cv=some b
noncomputable def Ei(isa:Nat->W->Option Bool):List W->M W
 |[.exn c _,.tup (k::ks)]=>match Gb (isa c) (k::ks) with
  |some bs=>pure (.bl (bs.any id))
  |none=>bad
 |[.exn c _,k]=>match isa c k with
  |some b=>pure (.bl b)
  |none=>bad
 |[x,.ty n]=>λS=>match tyW S x with
  |some T=>if Np.contains n then .ok (.bl (Acn T n)) S else .bad
  |none=>.bad
 |_=>bad
theorem Bfk(K:aF)(h1:T∈Auc)(h2:n∈Np):gR K (.type T) (.type n)=some (Acn T n):=by
 simp only[Auc,Np,bF,bT,or_false] at h1 h2;rcases h1 with rfl|rfl|rfl|rfl|rfl|rfl|rfl <;> rcases h2 with rfl|rfl|rfl|rfl|rfl|rfl <;> kernel_rfl
section
theorem Bfl(R:Rep Θ Y S H)(rv:RV Θ Y H x vx)(h:tyW S x=some T):TyX Θ.K H vx (.type T)/\T∈Auc:=by
 cases rv <;> simp only[tyW,gF,reduceCtorEq] at h <;> try subst h
 .exact⟨.of .non,by decide⟩
 .exact⟨.of (.bl _),by decide⟩
 .exact⟨.of (.int _),by decide⟩
 .exact⟨.of (.str _),by decide⟩
 .rename_i h1 r1;exact⟨.of (.tup h1),by decide⟩
 .rename_i n a hn;split at h
  .rename_i ws e1;cases h;obtain⟨a',ha',zs,h2,r2⟩:=R.get e1;rw[hn] at ha';cases ha';exact⟨.of (.lst h2),by decide⟩
  .rename_i ws e1;cases h;obtain⟨a',ha',zs,h2,r2⟩:=R.get e1;rw[hn] at ha';cases ha';exact⟨.of (.dK h2),by decide⟩
  .cases h
theorem An0(rk:RV Θ Y H k vk)(h:Bfj Θ k=some cv):Xd vk=some cv:=by
 cases rk <;> simp only[Bfj,gF,reduceCtorEq] at h <;> subst h <;> rfl
theorem Alv(K':aF)(hK:X.K=K'):Gy X (.builtin "isinstance") (λxs H Q=>∃x p cs cvs t b,xs=[x,.ref p]/\H p=some (.tup cs)/\TyX K' H x t/\cs.mapM Xd=some cvs/\nG K' t cvs=some b/\(∃a C o,x=.ref a/\t=.ref C/\H a=some (Ng a (.ref C) o)/\Te K' C)/\Q (.bl b) H):=by
 subst hK;exact Apx
theorem Azi{isa:Nat->W->Option Bool}(O:Afl Θ isa){c:Nat}{ks:List W}{cs:List V}{bs:List Bool}(r:RVs Θ Y H ks cs)(e:Gb (isa c) ks=some bs):∃cvs,cs.mapM Xd=some cvs/\nG Θ.K (.ref (Θ.cl c)) cvs=some (bs.any id):=by
 induction ks generalizing cs bs with
 |nil=>cases r;cases e;exact⟨[],rfl,rfl⟩
 |cons k ks ih=>cases r with|cons h r=>
  obtain⟨b,bs',e1,e2,rfl⟩:=Aci e;obtain⟨cvs,h1,h2⟩:=ih r e2;obtain⟨_,cv,h3,h4⟩:=O.ok c k b e1;refine⟨cv::cvs,by rw[yJ,An0 h h3,h1];rfl,?_⟩
  rw[nG,h4];cases b
  .exact h2
  .rfl
theorem Bl0{isa:Nat->W->Option Bool}(O:Afl Θ isa)(R:Rep Θ Y S H)(r:RVs Θ Y H ws vs)(h:Ay Θ (RV Θ) Y H (Ei isa ws S) Q E):
  (∃x c cv t b,vs=[x,c]/\TyX Θ.K H x t/\Xd c=some cv/\gR Θ.K t cv=some b/\Q (.bl b) H)\/∃x p cs cvs t b,vs=[x,.ref p]/\H p=some (.tup cs)/\TyX Θ.K H x t/\cs.mapM Xd=some cvs/\nG Θ.K t cvs=some b/\(∃a C o,x=.ref a/\t=.ref C/\H a=some (Ng a (.ref C) o)/\Te Θ.K C)/\Q (.bl b) H:=by
 unfold Ei at h;split at h
 .rename_i c w k ks;cases r with|@cons _ v1 _ _ rx r=>
  cases r with|cons rk r=>
  cases r;cases rk with|@tup p _ cs hp rr=>
  cases hb:Gb (isa c) (k::ks) with
  |none=>simp only[hb] at h;exact(show False from h).elim
  |some bs=>
   simp only[hb] at h;obtain⟨cvs,h1,h2⟩:=Azi O rr hb;have x2:Te Θ.K (Θ.cl c):=by
    rw[Gb] at hb;cases e1:isa c k with
    |none=>rw[e1] at hb;cases hb
    |some b=>exact(O.ok c k b e1).1
   have:∃a o,v1=V.ref a/\H a=some (Ng a (.ref (Θ.cl c)) o):=by
    cases rx with
    |exn z m ha=>exact⟨_,_,rfl,ha⟩
    |exf z m m' ha=>exact⟨_,_,rfl,ha⟩
   obtain⟨a,o,rfl,ha⟩:=this;exact .inr ⟨_,p,cs,cvs,_,_,rfl,hp,.exc ha x2,h1,h2,⟨a,_,o,rfl,rfl,ha,x2⟩,h.now R (.bl _)⟩
 .rename_i c w k _;cases r with|cons rx r=>
  cases r with|cons rk r=>
  cases r;cases hb:isa c k with
  |none=>simp only[hb] at h;exact(show False from h).elim
  |some b=>
   simp only[hb] at h;obtain⟨x2,cv,hc,hk⟩:=O.ok c k b hb;refine .inl ⟨_,_,cv,_,b,rfl,?_,An0 rk hc,hk,h.now R (.bl _)⟩;cases rx with
   |exn z m ha=>exact .exc ha x2
   |exf z m m' ha=>exact .exc ha x2
 .rename_i x n nx;cases r with|cons rx r=>
  cases r with|cons rk r=>
  cases r;cases hT:tyW S x with
  |none=>simp only[hT] at h;exact(show False from h).elim
  |some T=>
   simp only[hT] at h;by_cases hn:Np.contains n=true
   .rw[if_pos hn] at h;obtain⟨h1,h2⟩:=Bfl R rx hT;cases rk;exact .inl ⟨_,_,_,_,_,rfl,h1,rfl,Bfk Θ.K h2 (by simpa using hn),Jy h R (.bl _)⟩
   .rw[if_neg hn] at h;exact(show False from h).elim
 .exact(show False from h).elim
end
section
theorem Bjn{isa:Nat->W->Option Bool}(hK:X.K=Θ.K)(O:Afl Θ isa)(hm:X.mg "isinstance"=none)(ha:WA X (e::es) (tFs Θ E gs))(hg:X.env.kindOf "isinstance"=some .globalImplicit)(he:starEach (e::es) X.env=(false,eval e X.env)::starEach es X.env)(hpl:(backTo pos (starEach es X.env)).any (·.1)=false):WE X (.Call (.Name "isinstance" p) (e::es) [] pos) (tF Θ E (Cp (Ei isa) gs)):=by
 refine WE.weak (kbi ((Apz Θ.K hK).or (Alv Θ.K hK)) hm (by kernel_rfl:bootBuiltins "isinstance"=some (.builtin "isinstance")) ha hg (by decide) (by decide) he hpl) λσ H Q zz=>?_
 obtain⟨Y,S,Z,R,sl,q⟩:=zz;refine⟨Y,S,Z,R,sl,(Ay.seq (Rel:=RVs Θ) q).mono ?_⟩;rintro vs H1 ⟨Y1,S1,ws,p1,t1,R1,rvs,q1⟩;exact Bl0 O R1 rvs q1
theorem Aud(hw:∀Y H,RV Θ Y H w v)(h:WE X e (tC v)):WE X e (tF Θ E (kF w)):=WE.weak h λσ H Q q=>by
 obtain⟨Y,S,Z,R,sl,q⟩:=q;exact q.now R (hw Y H)
end
noncomputable def Nq(c:Nat)(dv:List W)(gs:De->M (List W)):MS:=λZ=>Er (gs Z) (λws Z S=>match ws with|[]=>.bad|w::us=>if us.length+dv.length=1 then .ex (c,w) Z S else .bad) Z
structure Bjo(X:Cx)(C:aQ)(f:Str)(n:Nat):Prop where
 ex:∃(fI:aQ)(fd:eO)(ps:List Str)(k:Nat)(dvs:List V)(ds:List aJ),Agz X.K C fI=true/\fM X.K (.ref C)=true/\lQ X.K (.ref fI)=some (.type "function")/\
  Io X.prog X.w X.K X.mg X.base (CXo X.prog X.w) k fI fd ps (Ap5 C f) true/\Im (k+1) X.A true/\Binds X.K fd ps ds/\Vals dvs ds/\dvs.length=n
section
theorem Aqg{c:Nat}(hxf:Θ.xf c=some f)(hex:X.ex=[])(hx:Bjo X (Θ.cl c) f dv.length)(hm:X.mg x=some (.ref (Θ.cl c)))(hc:X.calm=true)(hR:Abl X E)(ha:WA X (e::es) (tFs Θ (λ_=>E) gs))(hg:X.env.kindOf x=some .globalImplicit)(hd:(x==("__debug__":Str))=false)(he:starEach (e::es) X.env=(false,eval e X.env)::starEach es X.env)(hpl:(backTo cpos (starEach es X.env)).any (·.1)=false):
  WS X (.Raise (some (.Call (.Name x p) (e::es) [] cpos)) none pos) (tS Θ (λ_=>E) (Nq c dv gs)):=by
 obtain⟨fI,fd,ps,k,dvs,ds,h1,h2,h3,F,hr,hb,hv,hl⟩:=hx.ex;refine WS.weak ⟨Ap6 h1 h2 h3 hex hg hm hc hR F hr hb hv ha.un hd he hpl⟩ λD σ H zz=>?_;obtain⟨Y,S,Z,R,sl,q⟩:=zz;refine⟨Y,S,Z,R,sl.2,(Dy.lift (Rel:=RVs Θ) sl q).mono ?_⟩;rintro vs H1 ⟨Y1,S1,ws,p1,t1,R1,sl1,rvs,q1⟩;cases rvs with
 |nil=>exact q1.elim
 |@cons w v us zs rv rvs=>
  dsimp only at q1;by_cases hz:us.length+dv.length=1
  .rw[if_pos hz] at q1;have l:=rvs.length;obtain⟨u,hu⟩:∃u,zs ++ dvs=[u]:=by
    have z:(zs ++ dvs).length=1:=by rw[aK];omega
    match zs ++ dvs,z with
    |[u],_=>exact⟨u,rfl⟩
   refine⟨aD (by rw[aU];omega:(v::zs).length<=2) (by decide),v,u,by rw[qR,hu],λd hd=>?_⟩
   have nd:d∉Y1:=λz=>by
    obtain⟨o,ho⟩:=R1.tracked z;rw[hd] at ho;cases ho
   have t2:Ds Y1 Y1 H1 (upd H1 d (.xd [(f,v)])):=Cj hd;have z:=q1 Y1 _ σ (aX _) t2 (R1.beside hd) (sl1.mono (aX _) t2);unfold XP at z;dsimp only at z;rw[hxf] at z;exact z d v nd Bl (rv.mono (aX _) t2)
  .rw[if_neg hz] at q1;exact q1.elim
end
noncomputable def Ai8(exm:Nat->Bool)(i:Nat)(b su:MS):MS:=λZ S=>match b Z S with
 |.ex c Z1 S1=>if exm c.1 then (match su (Z1.set i (some (.exn c.1 c.2))) S1 with
   |.nx Z2 S2=>.nx (Z2.set i none) S2
   |.bk Z2 S2=>.bk (Z2.set i none) S2
   |.ct Z2 S2=>.ct (Z2.set i none) S2
   |.rt w S2=>.rt w S2
   |_=>.bad) else .bad
 |r=>r
section
theorem RSs.unset{i:Nat}(h:RSs Θ Y H Z σ):RSs Θ Y H (Z.set i none) (σ.set i none):=by
 refine⟨by rw[fD,fD];exact h.1,λj u e=>?_⟩
 by_cases hj:j=i
 .subst hj;have hl:j < Z.length:=by
   have z:=(aL.mp e).1
   rwa [fD] at z
  rw[cQ hl] at e;cases e
 .rw[cJ (gO hj)] at e;obtain⟨z,h1,h2⟩:=h.2 j u e;exact⟨z,by rw[cJ (gO hj)];exact h1,h2⟩
variable{i k:Nat}{exm:Nat->Bool}
theorem Bfm(hK:X.K=Θ.K)(bh:X.stack=X.env::X.outer)(hfr:X.env.frame=some X.env.locals)(nd:X.N.Nodup)(hm:X.mg x=some (.ref (Θ.cl k)))(hx:∀c,exm c=true->jN Θ.K (.ref (Θ.cl c)) (.ref (Θ.cl k))=some true)(hb:∀(pn:List (aQ×Obj))(xe:aJ->aZ->Prop)(E':L2.St->XK),Gx (CXo X.prog X.w) (X.tryB pn xe) E'->WSs (X.tryB pn xe) body (tS Θ E' b))(hs:∀e,WSs (X.suite e) (b0::suite) (tS Θ E0s su))(hi:X.N[i]?=some n)(hn:X.env.scope.names.lookup n=some .local)(hg:X.env.kindOf x=some .globalImplicit)(hd:(x==("__debug__":Str))=false):
  WS X (.Try body [.ExceptHandler (some (.Name x np)) (some n) (b0::suite) hpos] [] [] pos) (tS Θ E (Ai8 exm i b su)):=by
 refine WS.weak (Bld (tb:=λE'=>tS Θ E' b) bh hfr nd hm hb hs hi hn hg hd) λD σ H zz=>?_;obtain⟨Y,S,Z,R,sl,q⟩:=zz;refine⟨Y,S,Z,R,sl,?_⟩;unfold Ai8 at q;cases eb:b Z S with
 |nx Z1 S1=>rw[eb] at q;exact q
 |rt w S1=>rw[eb] at q;exact q
 |bk Z1 S1=>rw[eb] at q;exact q
 |ct Z1 S1=>rw[eb] at q;exact q
 |bad=>rw[eb] at q;exact q
 |ex c Z1 S1=>
  rw[eb] at q;dsimp only at q;by_cases hc:exm c.1=true
  .rw[if_pos hc] at q;have ex1:=hx c.1 hc;intro Y1 H1 σ1 p1 t1 R1 sl1;have go:∀(o:Option (Nat×Option aQ)),(∀ea,H1 ea=none->ea∉Y1->RV Θ Y1 (upd H1 ea (Ng ea (.ref (Θ.cl c.1)) o)) (.exn c.1 c.2) (.ref ea))->
     (λσ' cls o H'=>jN X.K cls (.ref (Θ.cl k))=some true/\∀ea,H' ea=none->tS Θ E0s su { nx:=λσ2 H2=>D.nx (σ2.set i none) H2,rt:=D.rt,bk:=λσ2 H2=>D.bk (σ2.set i none) H2,ct:=λσ2 H2=>D.ct (σ2.set i none) H2 }
      (σ'.set i (some (.ref ea))) (upd H' ea (Ng ea cls o))) σ1 (.ref (Θ.cl c.1)) o H1:=λo hrv=>by
    refine⟨by rw[hK];exact ex1,λea hea=>?_⟩
    have nea:ea∉Y1:=λz=>by
     obtain⟨o,ho⟩:=R1.tracked z;rw[hea] at ho;cases ho
    have t2:Ds Y1 Y1 H1 (upd H1 ea (Ng ea (.ref (Θ.cl c.1)) o)):=Cj hea;refine⟨Y1,S1,Z1.set i (some (.exn c.1 c.2)),R1.beside hea,(sl1.mono (aX _) t2).set (hrv ea hea nea),?_⟩;have sh:∀r,Dy Θ Y H r D E->Dy Θ Y1 (upd H1 ea (Ng ea (.ref (Θ.cl c.1)) o)) r D E:=λr z=>Dy.shift z p1 (t1.trans t2);cases es:su (Z1.set i (some (.exn c.1 c.2))) S1 with
    |nx Z2 S2=>rw[es] at q;exact λY3 H3 σ3 p3 t3 R3 sl3=>sh _ q Y3 H3 _ p3 t3 R3 sl3.unset
    |bk Z2 S2=>rw[es] at q;exact λY3 H3 σ3 p3 t3 R3 sl3=>sh _ q Y3 H3 _ p3 t3 R3 sl3.unset
    |ct Z2 S2=>rw[es] at q;exact λY3 H3 σ3 p3 t3 R3 sl3=>sh _ q Y3 H3 _ p3 t3 R3 sl3.unset
    |rt w S2=>rw[es] at q;exact λY3 H3 v p3 t3 R3 rv=>sh _ q Y3 H3 _ p3 t3 R3 rv
    |ex c2 Z2 S2=>rw[es] at q;exact q.elim
    |bad=>rw[es] at q;exact q.elim
   unfold XP;cases hxf:Θ.xf c.1 with
   |none=>exact go _ λea hea nea=>.exn hxf nea Bl
   |some n=>
    intro d v nd hd rv;refine go _ λea hea nea=>?_;have de:d≠ea:=λz=>by rw[z,hea] at hd;cases hd
    exact .exf hxf nea nd Bl (by rw[Bb de];exact hd) (rv.mono (aX _) (Cj hea))
  .rw[if_neg hc] at q;exact q.elim
end
def Aqh(ws us:List W):List W:=List.zipWith (λx y=>W.tup [x,y]) ws us
noncomputable def Azj:List W->M Src
 |[.tup ws,.tup us]=>pure (.fix (Aqh ws us))
 |[.ref n,.ref m]=>λS=>match S[n]?,S[m]? with
  |some (.lst _),some (.lst _)=>.ok (.zl n m) S
  |_,_=>.bad
 |_=>bad
def Aqi(gs:De->M (List W)):De->M Src:=λZ=>do let ws<-gs Z;Azj ws
section
theorem Azk(h1:H a=some (.tup vs))(r1:RVs Θ Y H ws vs)(h2:H b=some (.tup zs))(r2:RVs Θ Y H us zs):JOk Θ (Itz Θ.K true a b) (Aqh ws us) Y H where
 go:=λY1 H1 i p t hi=>by
  unfold Aqh at hi ⊢
  rw[uD] at hi;have i1:i < ws.length:=bM hi (Nat.min_le_left ..);have i2:i < us.length:=bM hi (wJ ..);obtain⟨vx,g1,rx⟩:=r1.get (aW i1);obtain⟨vy,g2,ry⟩:=r2.get (aW i2);have s1:SqT Θ.K H1 a vs:=SqT.of (t.t _ _ h1);have s2:SqT Θ.K H1 b zs:=SqT.of (t.t _ _ h2);refine⟨⟨vs,zs,vx,vy,s1,s2,g1,g2⟩,?_⟩;rintro v H' ⟨pp,x',y',f1,f2,hp,rfl,rfl⟩;have z1:=f1 vs s1;have z2:=f2 zs s2;rw[g1] at z1;cases z1;rw[g2] at z2;cases z2;refine⟨Cj hp,λS r=>r.beside hp,.tup [ws[i],us[i]],?_,.tup Bl (.cons ((rx.mono p t).mono (aX _) (Cj hp)) (.cons ((ry.mono p t).mono (aX _) (Cj hp)) .nil))⟩;rw[sH,aW i1,aW i2]
 stop:=λY1 H1 i t hi=>by
  unfold Aqh at hi;rw[uD] at hi;refine⟨vs,zs,SqT.of (t.t _ _ h1),SqT.of (t.t _ _ h2),?_⟩;rw[<-r1.length,<-r2.length];omega
variable{kt:Nat}
theorem Bjp(hK:X.K=Θ.K)(hm:X.mg "zip"=none)(ha:WA X (e::es) (tFs Θ E gs))(hg:X.env.kindOf "zip"=some .globalImplicit)(hs:starEach (e::es) X.env=(false,eval e X.env)::starEach es X.env)(hpl:(backTo pos (starEach es X.env)).any (·.1)=false):
  WI X (.Tuple elts kt tpos) (.Call (.Name "zip" p) (e::es) [] pos) (tFi Θ E (Aqi gs)):=by
 refine WI.weak ⟨Beg hg hm ha.un hs hpl⟩ λσ H Q zz=>?_;obtain⟨Y,S,Z,R,sl,q⟩:=zz;refine⟨Y,S,Z,R,sl,(Ay.seq (Rel:=RVs Θ) q).mono ?_⟩;rintro vs H1 ⟨Y1,S1,ws,p1,t1,R1,rvs,q1⟩;unfold Azj at q1;rw[hK];split at q1
 .rename_i xs ys;cases rvs with|cons rx rvs=>
  cases rvs with|cons ry rvs=>
  cases rvs;cases rx with|tup h1 r1=>
  cases ry with|tup h2 r2=>
  exact⟨true,_,_,_,_,rfl,SqT.of h1,SqT.of h2,Ay.now (Rel:=Ack Θ) q1 R1 (Azk h1 r1 h2 r2)⟩
 .rename_i n m;cases rvs with|cons rx rvs=>
  cases rvs with|cons ry rvs=>
  cases rvs;cases rx with|ref hn=>
  cases ry with|ref hm'=>
  cases e1:S1[n]? with
  |none=>simp only[e1] at q1;exact(show False from q1).elim
  |some c1=>
   cases e2:S1[m]? with
   |none=>simp only[e1,e2] at q1;cases c1 <;> exact(show False from q1).elim
   |some c2=>
    simp only[e1,e2] at q1;cases c1 <;> cases c2 <;> first|exact(show False from q1).elim|skip
    obtain⟨a',ha',vs,g1,_⟩:=R1.get e1;obtain⟨b',hb',zs,g2,_⟩:=R1.get e2;rw[hn] at ha';cases ha';rw[hm'] at hb';cases hb';exact⟨false,_,_,vs,zs,rfl,.inl (.inl g1),.inl (.inl g2),Jy (Rel:=Ack Θ) q1 R1 ⟨_,_,hn,hm',rfl⟩⟩
 .exact(show False from q1).elim
end
section
variable{i:Nat}{cap:List Nat}
theorem Bjq(hc:X.calm=true)(hE:X.env.scope=sc)(hi:WI X tg iter wi)(hg:∀C s H ex,WG (X.comp scope own cap C s H ex) tg g)(ht:∀C s H ex,WTs (X.comp scope own cap C s H ex) ifs tt)(he:∀C s H ex,WE (X.comp scope own cap C s H ex) elt te)(hcap:cap.all (λj=>match X.N[j]? with|some x=>decide (scope.names.lookup x=some .free)|none=>false)=true)(az:scope.kind=.function)(ao:scope.names.all (λy=>decide (y.2≠.cell))=true)(au:scope.names.all (λy=>!decide (y.2=.local)||decide (scope.names.lookup y.1=some .local))=true)(bc:scope.names.all (λy=>!decide (y.2=.free)||(decide (sc.names.lookup y.1=some .cell)||decide (sc.names.lookup y.1=some .free)))=true)(hs:∀x,foldedSetIterable iter X.env x=pure x)(hy:WG X (.Name y py) (Ms i))(hsw:swapsWith (.ListComp elt [⟨tg,iter,ifs,0⟩] scope pos) (some (.Name y py)) spos.line X.env=pure true):
  WS X (.Assign [.Name y py] (.ListComp elt [⟨tg,iter,ifs,0⟩] scope pos) spos) (Axc (Ae8 wi g tt te own cap) (Ms i)):=by
 refine⟨Axz hc hE hi.un (λC s H ex=>(hg C s H ex).un) (λC s H ex=>(ht C s H ex).un) (λC s H ex=>(he C s H ex).un) (λj hj=>?_) az (λy hy=>?_) (λy hy hl=>?_) (λy hy hl=>?_) hs hy.un hsw⟩
 .have q:=cG.mp hcap j hj;cases e:X.N[j]? with
  |none=>rw[e] at q;cases q
  |some x=>rw[e] at q;exact⟨x,rfl,of_decide_eq_true q⟩
 .exact of_decide_eq_true (cG.mp ao y hy)
 .have q:=cG.mp au y hy;rw[decide_eq_true hl] at q;exact of_decide_eq_true q
 .have q:=cG.mp bc y hy;rw[decide_eq_true hl,uM,uG,fO] at q;exact q.imp of_decide_eq_true of_decide_eq_true
theorem Azl(hc:X.calm=true)(hE:X.env.scope=sc)(hi:WI X tg iter (tFi Θ E src))(hg:∀C s H ex,WG (X.comp scope own cap C s H ex) tg g)(gk:GOk Θ s g)(ht:∀C s H ex,WTs (X.comp scope own cap C s H ex) ifs (tFb Θ E0s tf))(he:∀C s H ex,WE (X.comp scope own cap C s H ex) elt (tF Θ E0s ef))(hcap:cap.all (λj=>match X.N[j]? with|some x=>decide (scope.names.lookup x=some .free)|none=>false)=true)(az:scope.kind=.function)(ao:scope.names.all (λy=>decide (y.2≠.cell))=true)(au:scope.names.all (λy=>!decide (y.2=.local)||decide (scope.names.lookup y.1=some .local))=true)(bc:scope.names.all (λy=>!decide (y.2=.free)||(decide (sc.names.lookup y.1=some .cell)||decide (sc.names.lookup y.1=some .free)))=true)(hs:∀x,foldedSetIterable iter X.env x=pure x)(hy:WG X (.Name y py) (Ms i))(hsw:swapsWith (.ListComp elt [⟨tg,iter,ifs,0⟩] scope pos) (some (.Name y py)) spos.line X.env=pure true):
  WS X (.Assign [.Name y py] (.ListComp elt [⟨tg,iter,ifs,0⟩] scope pos) spos) (tS Θ E (Br i (Bt own.length cap src s tf ef))):=
 WS.weak (Bjq hc hE hi hg ht he hcap az ao au bc hs hy hsw) λD σ H zz=>by
  obtain⟨Y,S,Z,R,sl,q⟩:=zz;refine Ai7 gk _ _ _ ⟨Y,S,Z,R,sl.2,(Dy.lift (Rel:=RV Θ) sl q).mono ?_⟩;rintro v H1 ⟨Y1,S1,w,p1,t1,R1,sl1,rv,q1⟩;exact q1.nxt R1 (sl1.set rv)
end
def noStar:cA->Bool
 |.Starred _ _=>false
 |_=>true
def Afm:cA->Bool
 |.Set _ _ _=>false
 |_=>true
def Ag8:cA->Bool
 |.ListComp _ _ _ _=>false
 |.SetComp _ _ _ _=>false
 |.DictComp _ _ _ _ _=>false
 |_=>true
def Alw:cA->Bool
 |.Call _ _ _ _=>false
 |_=>true
def Azm:cA->Bool
 |.Slice _ _ _ _=>false
 |_=>true
def plainT:cA->Bool
 |.UnaryOp .Not _ _=>false
 |.BoolOp _ _ _=>false
 |.IfExp _ _ _ _=>false
 |.Compare _ _ _ _=>false
 |_=>true
section
theorem M4(h:noStar a=true):starEach (a::es) env=(false,eval a env)::starEach es env:=by
 cases a <;> first|rfl|cases h
theorem J0:∀{es:List cA},es.all noStar=true->(backTo pos (starEach es env)).any (·.1)=false
 |[],_=>rfl
 |e::es,h=>by
  rw[bY,aC] at h;rw[M4 h.1];exact J0 h.2
theorem Ai9:∀{es:List cA},es.all noStar=true->(backTo pos (starEach es env)).all (λx=>!x.1)=true
 |[],_=>rfl
 |e::es,h=>by
  rw[bY,aC] at h;rw[M4 h.1];exact Ai9 h.2
theorem Ag9(h:Afm a=true):∀x,foldedSetIterable a env x=pure x:=λx=>by
 cases a <;> first|rfl|cases h
theorem V8(h:Afm b=true):behindInMarks op b=false:=by
 cases b <;> first|rfl|cases h
theorem An1{n:Nat}(h:Ag8 a=true):swapsWith a t n env=pure false:=by
 cases a <;> first|rfl|cases h
theorem An2(h:Alw a=true):attributeBase a x env (eval a env)=eval a env:=by
 cases a <;> first|rfl|cases h
theorem Bjr(h:Azm b=true):Abg b:=by
 cases b <;> first|exact λ_ _=>rfl|cases h
theorem An3(h:plainT a=true):∀whole,isTrue a env whole=(do let v<-whole;standAt a.pos;holding [v] (truthy v)):=λw=>by
 cases a <;> first|rfl|cases h|skip
 rename_i op o p;cases op <;> first|rfl|cases h
end
noncomputable def Alx(x:Str):List Str->Option Nat
 |[]=>none
 |y::ys=>if y=x then some 0 else (Alx x ys).map (·+1)
theorem Abm:∀{l:List Str} {i:Nat},Alx x l=some i->l[i]?=some x
 |[],_,h=>by cases h
 |y::ys,i,h=>by
  unfold Alx at h;split at h
  .rename_i e;cases h;subst e;rfl
  .obtain⟨j,h1,rfl⟩:=cF.mp h;simpa using Abm h1
structure Fi where
 g:List W->M W
 np:Nat
 dv:List W
section
theorem Azn{CX:CXT}{k:Nat}{f:aQ}{fd:eO}{ps:List Str}{sp:Sp}{dvs vs:List V}{ds us:List aJ}{E:L2.St->XK}{cm:Bool}{aa:List (aQ×Obj)}{σ:L2.St}{H:Hp}{s:aZ}{Q:VK}(F:Io X.prog X.w X.K X.mg X.base CX k f fd ps sp cm)(hr:Im k X.A cm)(hb:Binds X.K fd ps ds)(hd:Vals dvs ds)(hx:Gx CX X E)(I:Inv X aa σ H s)(r:Vals vs us)(q:sp (vs ++ dvs) H Q (E σ)):
  wpAny (model X.prog X.w) X.A (call (.ref f) us) (EP X aa σ Q) X.xe s:=by
 have r2:Vals (vs ++ dvs) (us ++ ds):=r.append hd;have hl:(us ++ ds).length=ps.length:=by rw[<-r2.length];exact F.len _ _ _ _ q
 refine rH (oZ (F.run X.A X.stack s H ⟨us,[]⟩ (us ++ ds) (vs ++ dvs) Q (E σ) hr I.env0 (hb s us I.kIn hl) r2 q) λr s' hq=>?_)
 match r,hq with
 |.error e,hq=>exact hx aa σ H s e s' I hq
 |.ok (.ret u),hq=>exact I.after hq
theorem Aco:∀{dv:List W} {dvs:List V},Gb D.Gr dv=some dvs->RVs Θ Y H dv dvs
 |[],_,h=>by cases h;exact .nil
 |w::ws,dvs,h=>by
  unfold Gb at h;cases e1:D.Gr w with
  |none=>rw[e1] at h;cases h
  |some v=>
   cases e2:Gb D.Gr ws with
   |none=>rw[e1,e2] at h;cases h
   |some vs=>rw[e1,e2] at h;cases h;exact .cons (Anu e1) (Aco e2)
end
structure Gm where
 N:List Str
 sc:kW
 fn:Str->Option Fi
 con:Str->Option W
 bi:Str->Bool
 exc:Str->Option Nat
 isa:Nat->W->Option Bool
 ns:List Int
 fld:Bool->Nat->Str->Bool
 fuel:Nat
 calm:Bool
 fnB:Bool
 rs:Bool
 exi:Str->Option (Nat×List W)
 hcl:Str->Option Nat
 exm:Nat->Nat->Bool
 loops:Bool
 tr:Bool
structure Gm.Ok(Θ:Th)(Γ:Gm)(X:Cx)(E:L2.St->XK):Prop where
 hK:X.K=Θ.K
 ns:Γ.ns=Θ.ns
 hu:X.A.units+64 < cLine
 gd:X.A.guards=some []
 N:X.N=Γ.N
 nd:X.N.Nodup
 sc:X.env.scope=Γ.sc
 fn:∀x i,Γ.fn x=some i->∃(n:Nat)(fa:aQ)(fd:eO)(ps:List Str)(df:dG)(cm:Bool),Pk X.K X.mg x df ps fa fd/\Io X.prog X.w X.K X.mg X.base (CXo X.prog X.w) n fa fd ps (spF Θ i.g) cm/\Im n X.A cm/\
  ∃dvs ds,Gb D.Gr i.dv=some dvs/\Vals dvs ds/\Binds X.K fd ps ds
 ps:Gx (CXo X.prog X.w) X E
 con:∀x w,Γ.con x=some w->∃v u,(∀Y H,RV Θ Y H w v)/\RelV v u/\(X.mg x=some u\/(X.mg x=none/\bootBuiltins x=some u))
 bi:∀x,Γ.bi x=true->X.mg x=none
 fld:FOk Θ Γ.fld
 isa:Afl Θ Γ.isa
 calm:Γ.calm=true->X.calm=true
 fnB:Γ.fnB=true->∀x,X.fn x=true
structure Rd where
 val:De->M W
 tst:De->M Bool
 base:De->M W
 lo:De->M (Option Int)
 hi:De->M (Option Int)
 src:De->M Src
 srcT:De->M Src
def Eg{α:Type}:De->M α:=λ_=>bad
noncomputable def Rd.no:Rd:=⟨Eg,Eg,Eg,Eg,Eg,Eg,Eg⟩
def Rd.of(ns:List Int)(f:De->M W):Rd:=⟨f,Bf f,Eg,Eg,Eg,Cv ns f,Cv ns f⟩
structure Lp(Θ:Th)(X:Cx)(E:L2.St->XK)(e:cA)(r:Rd):Prop where
 val:WE X e (tF Θ E r.val)
 tst:WT X e (tFb Θ E r.tst)
 base:∀o n p,e=.Attribute o n p->WE X o (tF Θ E r.base)
 lo:∀lo hi p,e=.Slice lo hi none p->WO X lo (tFo Θ E r.lo)
 hi:∀lo hi p,e=.Slice lo hi none p->WO X hi (tFo Θ E r.hi)
 src:∀tg,WI X tg e (tFi Θ E r.src)
 srcT:∀es k p,WI X (.Tuple es k p) e (tFi Θ E r.srcT)
inductive Hs(Θ:Th)(X:Cx)(E:L2.St->XK):List cA->List Rd->Prop
 |nil:Hs Θ X E [] []
 |cons {e:cA} {es:List cA} {r:Rd} {rs:List Rd}:Lp Θ X E e r->Hs Θ X E es rs->Hs Θ X E (e::es) (r::rs)
section
def Dg:WE X e (tF Θ E Eg):=⟨λ_ _ _ _ _ _ ⟨_,_,_,_,_,q⟩=>fG q⟩
def Aly:WT X e (tFb Θ E Eg):=⟨λ_ _ _ _ _ _ ⟨_,_,_,_,_,q⟩=>fG q⟩
def Aue:WW X e (tFb Θ E Eg):=⟨λ_ _ _ _ _ _ _ ⟨_,_,_,_,_,q⟩=>fG q⟩
def Qq:WO X u (tFo Θ E Eg):=⟨λ_ _ _ _ _ _ ⟨_,_,_,_,_,q⟩=>fG q⟩
def Acp:WI X tg e (tFi Θ E Eg):=⟨λ_ _ _ _ _ _ ⟨_,_,_,_,_,q⟩=>fG q⟩
def Ig:Lp Θ X E e Rd.no:=⟨Dg,Aly,λ_ _ _ _=>Dg,λ_ _ _ _=>Qq,λ_ _ _ _=>Qq,λ_=>Acp,λ_ _ _=>Acp⟩
theorem Mu{ns:List Int}(hK:X.K=Θ.K)(hn:ns=Θ.ns)(h:WE X e (tF Θ E f))(ht:plainT e=true):Lp Θ X E e (Rd.of ns f):=by
 subst hn;exact⟨h,At5 h (An3 ht),λ_ _ _ _=>Dg,λ_ _ _ _=>Qq,λ_ _ _ _=>Qq,λ_=>Ai5 hK h,λ_ _ _=>Ai5 hK h⟩
theorem R9{ns:List Int}(hK:X.K=Θ.K)(hn:ns=Θ.ns)(h:WE X e (tF Θ E f))(ht:WT X e (tFb Θ E t)):Lp Θ X E e { Rd.of ns f with tst:=t }:=by
 subst hn;exact⟨h,ht,λ_ _ _ _=>Dg,λ_ _ _ _=>Qq,λ_ _ _ _=>Qq,λ_=>Ai5 hK h,λ_ _ _=>Ai5 hK h⟩
def vals:List Rd->De->M (List W)
 |[]=>nilF
 |r::rs=>Ci r.val (vals rs)
theorem Nr:∀{es:List cA} {rs:List Rd},Hs Θ X E es rs->es.all noStar=true->WA X es (tFs Θ E (vals rs))
 |_,_,.nil,_=>Bi9
 |_,_,.cons h r,hs=>by
  rw[bY,aC] at hs;exact Bey h.val (Nr r hs.2) (M4 hs.1)
def Auf:Const->De->M W
 |.int i=>kF (.int i)
 |.bool b=>kF (.bl b)
 |.none=>kF .non
 |.str x=>kF (.str x)
 |_=>Eg
theorem Aja{j:Nat}:WE X (.Constant v j pos) (tF Θ E (Auf v)):=by
 cases v <;> first|exact Dg|skip
 .exact Ag3 rfl Bk0
 .exact Ag3 rfl kbl
 .exact Ag3 rfl Bkz
 .exact Ag3 rfl Bk1
noncomputable def Auh(Γ:Gm)(x:Str):De->M W:=if x==("__debug__":Str)||x==("__classdict__":Str)||decide (x=("__name__":Str)) then Eg else
 match Γ.sc.names.lookup x with
 |some .globalImplicit=>match Γ.con x with
  |some w=>kF w
  |none=>Eg
 |_=>match Alx x Γ.N with
  |some i=>if Alj Γ.sc x then Ab i else Eg
  |none=>Eg
theorem Azo(G:Γ.Ok Θ X E):WE X (.Name x pos) (tF Θ E (Auh Γ x)):=by
 unfold Auh;split
 .exact Dg
 rename_i h0;rw[fO,fO,not_or,not_or] at h0;obtain⟨⟨h1,h2⟩,h3⟩:=h0;have h1:=bI.mpr h1;have h2:=bI.mpr h2;split
 .rename_i hg;split
  .rename_i w hw;obtain⟨v,u,hv,r,hm⟩:=G.con x w hw;have hg':X.env.kindOf x=some .globalImplicit:=by show X.env.scope.names.lookup x=_;rw[G.sc];exact hg
   rcases hm with hm|⟨hm,hb⟩
   .exact Aud hv (Biq hm r hg' h1)
   .exact Aud hv (Bir hm hb r hg' (bI.mpr h3) h1)
  .exact Dg
 .split
  .rename_i i hi;split
   .rename_i hv;exact Bi6 (kv i (by rw[G.N];exact Abm hi) (by rw[G.sc];exact hv) h1 h2)
   .exact Dg
  .exact Dg
def Bfn(op:xU)(a b:Rd):De->M W:=match Bop.of op with
 |some o=>Ai o a.val b.val
 |none=>Eg
theorem Bfo{Γ:Gm}{op:xU}{r s:Rd}(G:Γ.Ok Θ X E)(ha:Lp Θ X E a r)(hb:Lp Θ X E b s):WE X (.BinOp a op b pos) (tF Θ E (Bfn op r s)):=by
 unfold Bfn;split
 .rename_i o ho;exact Bi5 G.hK ho ha.val hb.val
 .exact Dg
def Aen(f:De->M W):De->M W:=λZ=>do let x<-f Z;match x with
 |.int i=>pure (.int (-i))
 |_=>bad
theorem Bb9(ha:WE X a (tF Θ E f)):WE X (.UnaryOp .USub a pos) (tF Θ E (Aen f)):=WE.weak (kun Bdi ha) λσ H Q zz=>by
 obtain⟨Y,S,Z,R,sl,q⟩:=zz;refine⟨Y,S,Z,R,sl,(Ay.seq (Rel:=RV Θ) q).mono ?_⟩;rintro v H1 ⟨Y1,S1,w,p1,t1,R1,rv,q1⟩;cases rv <;> first|exact(show False from q1).elim|skip
 exact⟨_,rfl,q1.now R1 (.int _)⟩
noncomputable def unR(ns:List Int)(op:UnaryOp)(r:Rd):Rd:=match op with
 |.Not=>{ Rd.of ns (Atq r.val) with tst:=Ea r.tst }
 |.USub=>Rd.of ns (Aen r.val)
 |_=>Rd.no
theorem Bjs{Γ:Gm}{op:UnaryOp}{r:Rd}(G:Γ.Ok Θ X E)(ha:Lp Θ X E a r):Lp Θ X E (.UnaryOp op a pos) (unR Γ.ns op r):=by
 cases op
 .exact Ig
 .exact R9 G.hK G.ns (Bi8 ha.val) (Bfe ha.tst)
 .exact Ig
 .exact Mu G.hK G.ns (Bb9 ha.val) rfl
def Bfp:List Rd->De->M W
 |[]=>Eg
 |[r]=>r.val
 |r::s::rs=>Ew r.val (Bfp (s::rs))
def orV:List Rd->De->M W
 |[]=>Eg
 |[r]=>r.val
 |r::s::rs=>orF r.val (orV (s::rs))
def Aui:List Rd->De->M Bool
 |[]=>Eg
 |[r]=>r.tst
 |r::s::rs=>Vj r.tst (Aui (s::rs))
def Bfq:List Rd->De->M Bool
 |[]=>Eg
 |[r]=>r.tst
 |r::s::rs=>orT r.tst (Bfq (s::rs))
theorem An4:∀{es:List cA} {rs:List Rd},Hs Θ X E es rs->WE X (.BoolOp .And es pos) (tF Θ E (Bfp rs))
 |_,_,.nil=>Dg
 |_,_,.cons h .nil=>Bis h.val
 |_,_,.cons h (.cons h2 r)=>Bi7 h.val (An4 (.cons h2 r))
theorem Auj:∀{es:List cA} {rs:List Rd},Hs Θ X E es rs->WE X (.BoolOp .Or es pos) (tF Θ E (orV rs))
 |_,_,.nil=>Dg
 |_,_,.cons h .nil=>Bis h.val
 |_,_,.cons h (.cons h2 r)=>Blm h.val (Auj (.cons h2 r))
theorem Ajb:∀{es:List cA} {rs:List Rd},Hs Θ X E es rs->WW X (.BoolOp .And es pos) (tFb Θ E (Aui rs))
 |_,_,.nil=>Aue
 |_,_,.cons h .nil=>Bit h.tst
 |_,_,.cons h (.cons h2 r)=>Bfd h.tst (Ajb (.cons h2 r))
theorem An5:∀{es:List cA} {rs:List Rd},Hs Θ X E es rs->WW X (.BoolOp .Or es pos) (tFb Θ E (Bfq rs))
 |_,_,.nil=>Aue
 |_,_,.cons h .nil=>Bla h.tst
 |_,_,.cons h (.cons h2 r)=>Bjl h.tst (An5 (.cons h2 r))
noncomputable def Bca(ns:List Int)(op:BoolOp)(rs:List Rd):Rd:=match op with
 |.And=>{ Rd.of ns (Bfp rs) with tst:=Aui rs }
 |.Or=>{ Rd.of ns (orV rs) with tst:=Bfq rs }
theorem Azp{Γ:Gm}{op:BoolOp}{rs:List Rd}(G:Γ.Ok Θ X E)(h:Hs Θ X E es rs):Lp Θ X E (.BoolOp op es pos) (Bca Γ.ns op rs):=by
 cases op
 .exact R9 G.hK G.ns (An4 h) (tw (Ajb h))
 .exact R9 G.hK G.ns (Auj h) (tw (An5 h))
noncomputable def Bfr(ns:List Int)(ops:List sS)(bs:List cA)(r:Rd)(rs:List Rd):Rd:=match ops,bs,rs with
 |[op],[b],[s]=>if Afm b then { Rd.of ns (Cq op r.val s.val) with tst:=Bf (Cq op r.val s.val) } else Rd.no
 |[op,op'],[_,c],[s,t]=>if Afm c then { Rd.of ns (Jo op op' r.val s.val t.val) with tst:=Bf (Jo op op' r.val s.val t.val) } else Rd.no
 |_,_,_=>Rd.no
theorem Bfs{Γ:Gm}{ops:List sS}{r:Rd}{rs:List Rd}(G:Γ.Ok Θ X E)(ha:Lp Θ X E a r)(h:Hs Θ X E es rs):Lp Θ X E (.Compare a ops es pos) (Bfr Γ.ns ops es r rs):=by
 unfold Bfr;split
 .rename_i op b s;cases h with|cons hb _=>
  split
  .rename_i hn;exact R9 G.hK G.ns (Bjf G.hK G.hu ha.val hb.val (V8 hn)) (Be5 G.hK G.hu ha.val hb.val (V8 hn))
  .exact Ig
 .rename_i op op' b c s t;cases h with|cons hb h=>
  cases h with|cons hc _=>
  split
  .rename_i hn;exact R9 G.hK G.ns (Azf G.hK G.hu ha.val hb.val hc.val (V8 hn)) (At8 G.hK G.hu ha.val hb.val hc.val (V8 hn))
  .exact Ig
 .exact Ig
def Bft(es:List cA)(rs:List Rd):De->M W:=if es.all noStar then Cm (vals rs) else Eg
def Bfu(es:List cA)(rs:List Rd):De->M W:=if es.all noStar then Ef (vals rs) else Eg
theorem Bfv{j:Nat}(h:Hs Θ X E es rs):WE X (.Tuple es j pos) (tF Θ E (Bft es rs)):=by
 unfold Bft;split
 .rename_i hs;exact Bja (Nr h hs)
 .exact Dg
theorem Bfw(h:Hs Θ X E es rs):WE X (.List es pos) (tF Θ E (Bfu es rs)):=by
 unfold Bfu;split
 .rename_i hs;exact Bjb (Nr h hs)
 .exact Dg
noncomputable def Ajc:List (Option Rd)->List Rd->Option (List ((De->M W)×(De->M W)))
 |[],[]=>some []
 |some k::ks,v::vs=>(Ajc ks vs).map ((k.val,v.val)::·)
 |_,_=>none
def Auk(ks:List (Option Rd))(vs:List Rd):De->M W:=match Ajc ks vs with
 |some l=>if decide (l.length<=15) then M3 l else Eg
 |none=>Eg
inductive Qs(Θ:Th)(X:Cx)(E:L2.St->XK):List (Option cA)->List (Option Rd)->Prop
 |nil:Qs Θ X E [] []
 |none {es:List (Option cA)} {rs:List (Option Rd)}:Qs Θ X E es rs->Qs Θ X E (none::es) (none::rs)
 |some {e:cA} {r:Rd} {es:List (Option cA)} {rs:List (Option Rd)}:Lp Θ X E e r->Qs Θ X E es rs->Qs Θ X E (some e::es) (some r::rs)
theorem Aul{ks:List (Option cA)}{vs:List cA}{rk:List (Option Rd)}{rv:List Rd}{l:List ((De->M W)×(De->M W))}(hk:Qs Θ X E ks rk)(hv:Hs Θ X E vs rv)(h:Ajc rk rv=Option.some l):
  WPs X pos ks vs (l.map λp=>(tF Θ E p.1,tF Θ E p.2))/\ks.all (·.isSome)=true/\ks.length=vs.length/\l.length=ks.length:=by
 induction hk generalizing vs rv l with
 |nil=>
  cases hv with
  |nil=>cases h;exact⟨Bd9,rfl,rfl,rfl⟩
  |cons _ _=>cases h
 |none _=>unfold Ajc at h;cases h
 |some hk rk ih=>
  cases hv with
  |nil=>cases h
  |cons hv rv=>
   unfold Ajc at h;obtain⟨l',h1,rfl⟩:=cF.mp h;obtain⟨q1,q2,q3,q4⟩:=ih rv h1;exact⟨Ax3 hk.val hv.val q1,by rw[bY,q2];rfl,by rw[aU,aU,q3],by rw[aU,aU,q4]⟩
theorem Azq(hk:Qs Θ X E ks rk)(hv:Hs Θ X E es rv):WE X (.Dict ks es pos) (tF Θ E (Auk rk rv)):=by
 unfold Auk;split
 .rename_i l hl;obtain⟨q1,q2,q3,q4⟩:=Aul (pos:=pos) hk hv hl;split
  .rename_i h15;cases ks with
   |nil=>
    cases es with
    |nil=>
     cases l with
     |nil=>exact Bfh
     |cons p l=>cases q4
    |cons e es=>cases q3
   |cons k ks=>exact Bfi q1 q2 q3 (by simp) (by rw[<-q4];exact of_decide_eq_true h15) q4
  .exact Dg
 .exact Dg
noncomputable def subV(Γ:Gm)(i:cA)(o r:Rd):De->M W:=match i with
 |.Slice _ _ none _=>slF Γ.ns o.val r.lo r.hi
 |.Slice none none (some (.UnaryOp .USub (.Constant (.int 1) _ _) _)) _=>Ayt o.val
 |.Slice _ _ (some _) _=>Eg
 |_=>ixF Γ.ns o.val r.val
theorem Bfx(G:Γ.Ok Θ X E)(ha:Lp Θ X E a r)(hb:Lp Θ X E b s):WE X (.Subscript a b pos) (tF Θ E (subV Γ b r s)):=by
 unfold subV;split
 .rw[G.ns];exact Ayu G.hK ha.val (hb.lo _ _ _ rfl) (hb.hi _ _ _ rfl)
 .exact Bjg G.hK ha.val (Bb9 Aja)
 .exact Dg
 .rename_i n1 n9 n2;rw[G.ns];refine Blq G.hK G.hu ha.val hb.val (Bjr ?_);cases b <;> first|rfl|skip
  rename_i lo hi st p;cases st
  .exact(n1 _ _ _ rfl).elim
  .exact(n2 _ _ _ _ rfl).elim
def Aum:Option Rd->De->M (Option Int)
 |none=>Bd
 |some r=>Bv r.val
def Bfy(Γ:Gm)(o:cA)(f:Str)(r:Rd):De->M W:=if Alw o then Bfc Γ.fld f r.val else Eg
theorem Bfz(G:Γ.Ok Θ X E)(ho:Lp Θ X E o r):WE X (.Attribute o f pos) (tF Θ E (Bfy Γ o f r)):=by
 unfold Bfy;split
 .rename_i h;exact Bjk G.hK G.fld ho.val (An2 h)
 .exact Dg
end
section
theorem Azr{n:Nat}(D:Pk X.K X.mg x df ps fa fd)(F:Io X.prog X.w X.K X.mg X.base CX n fa fd ps (spF Θ s) cm)(hr:Im n X.A cm)(hx:Gx CX X E)(hv:Gb _root_.D.Gr dv=some dvs)(hd:Vals dvs ds)(hb:Binds X.K fd ps ds)(ha:WA X (a::es) (tFs Θ E gs))(hg:X.env.kindOf x=some .globalImplicit)(hdb:(x==("__debug__":Str))=false)(he:starEach (a::es) X.env=(false,eval a X.env)::starEach es X.env)(hpl:(backTo pos (starEach es X.env)).any (·.1)=false):
  WE X (.Call (.Name x p) (a::es) [] pos) (tF Θ E (Cp (λws=>s (ws ++ dv)) gs)):=WE.weak ⟨Aio F hr hg D.gl D.fn.kp hb hd hx ha.un hdb he hpl⟩ λσ H Q zz=>by
 obtain⟨Y,S,Z,R,sl,q⟩:=zz;refine⟨Y,S,Z,R,sl,(Ay.seq (Rel:=RVs Θ) q).mono ?_⟩;rintro vs H1 ⟨Y1,S1,ws,p1,t1,R1,rvs,q1⟩;exact⟨Y1,S1,ws ++ dv,R1,rvs.append (Aco hv),q1⟩
theorem Ajd{n:Nat}(D:Pk X.K X.mg x df ps fa fd)(F:Io X.prog X.w X.K X.mg X.base CX n fa fd ps (spF Θ s) cm)(hr:Im n X.A cm)(hx:Gx CX X E)(hv:Gb _root_.D.Gr dv=some dvs)(hd:Vals dvs ds)(hb:Binds X.K fd ps ds)(hg:X.env.kindOf x=some .globalImplicit)(hdb:(x==("__debug__":Str))=false):
  WE X (.Call (.Name x p) [] [] pos) (tF Θ E (Cp (λws=>s (ws ++ dv)) nilF)):=⟨λaa s0 σ H Q I zz=>by
 obtain⟨Y,S,Z,R,sl,q⟩:=zz;refine jP (R5 I hg D.gl ?_ hdb);refine PySem.W.callWith_K0 I.kIn D.fn.kp (Azn (us:=[]) (vs:=[]) F hr hb hd hx I .nil ?_);obtain⟨Y1,S1,ws,p1,t1,R1,rvs,q3⟩:=Ay.seq (Rel:=RVs Θ) q Y H [] (aX _) (Ds.refl _ _) R .nil;cases rvs;exact⟨Y1,S1,dv,R1,Aco hv,q3⟩⟩
noncomputable def An6(Γ:Gm)(f:cA)(fr:Rd)(args:List cA)(ars:List Rd)(kws:List jQ)(cpos:Pos):De->M W:=
 match kws with
 |_::_=>Eg
 |[]=>if !args.all noStar then Eg else match f with
  |.Name x _=>if x==("__debug__":Str)||decide (x=("__name__":Str))||!decide (Γ.sc.names.lookup x=some .globalImplicit) then Eg else
   match Γ.fn x with
   |some i=>if args.length=i.np then Cp i.g (vals ars) else if args.length+i.dv.length=i.np then Cp (λws=>i.g (ws ++ i.dv)) (vals ars) else Eg
   |none=>if Γ.bi x&&!args.isEmpty then if x="isinstance" then Cp (Ei Γ.isa) (vals ars) else match Ayy Γ.ns x with
     |some g=>if Γ.calm then Cp g (vals ars) else Eg
     |none=>match Ayz Γ.ns x with
      |some g=>if Γ.calm then Cp g (vals ars) else Eg
      |none=>Eg
    else Eg
  |.Attribute o name ak=>if Alw o&&(ak.endLine==cpos.line) then
    match args with
    |[]=>Eg
    |_::_=>if decide (args.length < 30) then match Azc name with
      |some p=>Ke p.1 p.2 fr.base (vals ars)
      |none=>Eg
     else Eg
   else Eg
  |_=>Eg
theorem Bf0(h:(a::es).all noStar=true)(hl:(a::es).length < 30):((backTo cpos (starEach (a::es) env)).all (λx=>!x.1)&&(backToKw cpos (keywordEach [] env)).all (λx=>x.1.isSome)&&decide ((a::es).length+([]:List jQ).length+(if ([]:List jQ).isEmpty then 0 else 1) < 30))=true:=by
 rw[Ai9 h,iK,aC];exact⟨rfl,decide_eq_true (by show (a::es).length+0+0 < 30;omega)⟩
theorem Aun(G:Γ.Ok Θ X E)(hf:Lp Θ X E f fr)(ha:Hs Θ X E es ars):WE X (.Call f es kws cpos) (tF Θ E (An6 Γ f fr es ars kws cpos)):=by
 unfold An6;split
 .exact Dg
 split
 .exact Dg
 rename_i hs0;have hs:es.all noStar=true:=by
  cases h:es.all noStar
  .rw[h] at hs0;exact(hs0 rfl).elim
  .rfl
 have hv:=Nr ha hs;split
 .rename_i x np;split
  .exact Dg
  rename_i h0;rw[fO,fO,not_or,not_or] at h0;obtain⟨⟨h1,h2⟩,h3⟩:=h0;have h1:=bI.mpr h1;have h2:=bI.mpr h2;have hg:X.env.kindOf x=some .globalImplicit:=by
   show X.env.scope.names.lookup x=_;rw[G.sc];by_cases z:Γ.sc.names.lookup x=some .globalImplicit
   .exact z
   .rw[decide_eq_false z] at h3;exact(h3 rfl).elim
  split
  .rename_i i hfn;obtain⟨n,fa,fd,ps,df,cm,D,F,hr,dvs,ds,hd1,hd2,hd3⟩:=G.fn x i hfn;cases ha with
   |nil=>
    split
    .exact WE.weak (Ajd D F hr G.ps (dv:=[]) rfl .nil D.bd hg h1) λσ H Q q=>by
      have e:(λws=>i.g (ws ++ []))=i.g:=funext λws=>by rw[bJ]
      rw[e];exact q
    .split
     .exact Ajd D F hr G.ps hd1 hd2 hd3 hg h1
     .exact Dg
   |cons ha1 ha2=>
    rw[bY,aC] at hs;split
    .exact Bez D F hr G.ps hv hg h1 (M4 hs.1) (J0 hs.2)
    .split
     .exact Azr D F hr G.ps hd1 hd2 hd3 hv hg h1 (M4 hs.1) (J0 hs.2)
     .exact Dg
  .split
   .rename_i hb;rw[aC] at hb;have hm:=G.bi x hb.1;cases ha with
    |nil=>cases hb.2
    |cons ha1 ha2=>
    rw[bY,aC] at hs;split
    .rename_i hx;subst hx;exact Bjn G.hK G.isa hm hv hg (M4 hs.1) (J0 hs.2)
    split
    .rename_i g hbi;split
     .rename_i hc;rw[G.ns] at hbi;exact Blw G.hK G.gd G.hu (G.calm hc) hbi hm hv hg h2 h1 (M4 hs.1) (J0 hs.2)
     .exact Dg
    .split
     .rename_i g hty;split
      .rename_i hc;rw[G.ns] at hty;exact Blx G.hK (G.calm hc) hty hm hv hg h2 h1 (M4 hs.1) (J0 hs.2)
      .exact Dg
     .exact Dg
   .exact Dg
 .rename_i o name ak;split
  .rename_i h0;rw[aC] at h0;have hb:=hf.base _ _ _ rfl;split
   .exact Dg
   .rename_i a as;split
    .rename_i hl;have hs':=hs;rw[bY,aC] at hs';split
     .rename_i hm;exact Blz hm hb hv (An2 h0.1) (Bf0 hs (of_decide_eq_true hl)) h0.2 (M4 hs'.1) (J0 hs'.2)
     .exact Dg
    .exact Dg
  .exact Dg
 .exact Dg
noncomputable def Abn(Γ:Gm)(f:cA)(args:List cA)(ars:List Rd)(kws:List jQ)(d:De->M Src):De->M Src:=match f,kws with
 |.Name x _,[]=>if x="range"/\Γ.bi "range"=true/\Γ.sc.names.lookup ("range":Str)=some .globalImplicit/\args.all noStar=true then match args with
   |[_]=>J4 Fj (vals ars)
   |_=>Eg
  else d
 |_,_=>d
noncomputable def Acq(Γ:Gm)(f:cA)(args:List cA)(ars:List Rd)(kws:List jQ)(d:De->M Src):De->M Src:=match f,args,ars,kws with
 |.Name x _,[a,b],_,[]=>if x="zip"/\Γ.bi "zip"=true/\Γ.sc.names.lookup ("zip":Str)=some .globalImplicit/\noStar a=true/\noStar b=true then Aqi (vals ars) else d
 |_,_,_,_=>d
theorem Aje{kt:Nat}(G:Γ.Ok Θ X E)(ha:Hs Θ X E es ars)(hd:WI X (.Tuple elts kt tpos) (.Call f es kws cpos) (tFi Θ E d)):WI X (.Tuple elts kt tpos) (.Call f es kws cpos) (tFi Θ E (Acq Γ f es ars kws d)):=by
 unfold Acq;split
 .split
  .rename_i h;obtain⟨rfl,hb,hg,s1,s2⟩:=h;have hg:X.env.kindOf "zip"=some .globalImplicit:=by show X.env.scope.names.lookup _=_;rw[G.sc];exact hg
   exact Bjp G.hK (G.bi _ hb) (Nr ha (by rw[bY,s1,bY,s2];rfl)) hg (M4 s1) (J0 (by rw[bY,s2];rfl))
  .exact hd
 .exact hd
theorem Acr(G:Γ.Ok Θ X E)(ha:Hs Θ X E es ars)(hd:WI X tg (.Call f es kws cpos) (tFi Θ E d)):WI X tg (.Call f es kws cpos) (tFi Θ E (Abn Γ f es ars kws d)):=by
 unfold Abn;split
 .rename_i x np;split
  .rename_i h;obtain⟨rfl,hb,hg,hs⟩:=h;have hm:=G.bi _ hb;have hg:X.env.kindOf "range"=some .globalImplicit:=by show X.env.scope.names.lookup _=_;rw[G.sc];exact hg
   have hv:=Nr ha hs;split
   .rw[bY,aC] at hs;exact Bfa hm hv hg (M4 hs.1)
   .exact Acp
  .exact hd
 .exact hd
def Bcb(Γ:Gm)(f:cA)(fr:Rd)(args:List cA)(ars:List Rd)(kws:List jQ)(cpos:Pos):Rd:=
 let v:=An6 Γ f fr args ars kws cpos
 ⟨v,Bf v,Eg,Eg,Eg,Abn Γ f args ars kws (Cv Γ.ns v),Acq Γ f args ars kws (Abn Γ f args ars kws (Cv Γ.ns v))⟩
theorem Azs(G:Γ.Ok Θ X E)(hf:Lp Θ X E f fr)(ha:Hs Θ X E es ars):Lp Θ X E (.Call f es kws cpos) (Bcb Γ f fr es ars kws cpos):=by
 have h:=Aun (kws:=kws) (cpos:=cpos) G hf ha;have hsrc:∀tg,WI X tg (.Call f es kws cpos) (tFi Θ E (Cv Γ.ns (An6 Γ f fr es ars kws cpos))):=λtg=>by rw[G.ns];exact Ai5 G.hK h
 exact⟨h,At5 h (An3 rfl),λ_ _ _ _=>Dg,λ_ _ _ _=>Qq,λ_ _ _ _=>Qq,λtg=>Acr G ha (hsrc tg),λ_ _ _=>Aje G ha (Acr G ha (hsrc _))⟩
noncomputable def Vk(Γ:Gm)(x:Str):Option Nat:=if Alk Γ.sc x&&(Γ.fnB||decide (Γ.sc.names.lookup x=some .local)) then Alx x Γ.N else none
theorem Abo{i:Nat}(G:Γ.Ok Θ X E)(h:Vk Γ x=some i):X.N[i]?=some x/\Alk X.env.scope x=true/\(X.fn x||decide (X.env.scope.names.lookup x=some .local))=true:=by
 unfold Vk at h;split at h
 .rename_i hc;rw[aC,fO] at hc;refine⟨by rw[G.N];exact Abm h,by rw[G.sc];exact hc.1,?_⟩
  rw[fO];rcases hc.2 with z|z
  .exact .inl (G.fnB z x)
  .exact .inr (by rw[G.sc];exact z)
 .cases h
noncomputable def slotsOf(Γ:Gm):List cA->Option (List Nat)
 |[]=>some []
 |.Name x _::es=>match Vk Γ x,slotsOf Γ es with
  |some i,some is=>some (i::is)
  |_,_=>none
 |_::_=>none
theorem Auo(G:Γ.Ok Θ X E):∀{is:List Nat},slotsOf Γ es=some is->PGs X es (Acj is)/\(assignEach es X.env).length=is.length/\(assignEach es X.env).findIdx? (·.1)=none:=by
 induction es with
 |nil=>intro is h;cases h;exact⟨Axb,rfl,rfl⟩
 |cons e es ih=>
  intro is h;unfold slotsOf at h;split at h
  .rename_i h0;cases h0
  .rename_i x np es' h0;cases h0;split at h
   .rename_i i is' h1 h2;cases h;obtain⟨q1,q2,q3⟩:=ih h2;obtain⟨s1,s2,s3⟩:=Abo G h1;refine⟨Asg (Atb (decide_eq_true G.nd) s1 s2 s3).un q1,?_,?_⟩
    .show (assignEach es X.env).length+1=is'.length+1;rw[q2]
    .show List.findIdx? (·.1) ((false,assign (.Name x np) X.env)::assignEach es X.env)=none;rw[List.findIdx?_cons];simp only[pP,if_false,q3,Option.map_none]
   .cases h
  .cases h
noncomputable def tgt(Γ:Gm):cA->Option Tg
 |.Name x _=>(Vk Γ x).map Bg
 |.Tuple es _ _=>if Γ.calm then (slotsOf Γ es).map Aem else none
 |_=>none
def tgG(K:aF)(Γ:Gm):cA->TG
 |.Name x _=>Ms ((Vk Γ x).getD 0)
 |.Tuple es _ _=>Bc3 K ((slotsOf Γ es).getD []).length (Acj ((slotsOf Γ es).getD []))
 |_=>Ms 0
theorem Alz(G:Γ.Ok Θ X E)(h:tgt Γ tg=some s):WG X tg (tgG Θ.K Γ tg)/\GOk Θ s (tgG Θ.K Γ tg):=by
 unfold tgt at h;split at h
 .obtain⟨i,h1,rfl⟩:=cF.mp h;obtain⟨s1,s2,s3⟩:=Abo G h1;simp only[tgG,h1,lX];exact⟨Atb (decide_eq_true G.nd) s1 s2 s3,Ai4 i⟩
 .split at h
  .rename_i hc;obtain⟨is,h1,rfl⟩:=cF.mp h;obtain⟨q1,q2,q3⟩:=Auo G h1;simp only[tgG,h1,lX];rw[<-G.hK];exact⟨⟨Bc4 (G.calm hc) q1 q2 q3⟩,Anx is rfl⟩
  .cases h
 .cases h
noncomputable def Ajf(out sc:kW):kW:=
 { sc with names:=sc.names.map λ(n,k)=>if (k==.free&&out.kind==.function&&out.names.lookup n==some .cell) then (n,.cell) else (n,k) }
noncomputable def ownOf:cA->List Str
 |.Name x _=>[x]
 |.Tuple es _ _=>es.filterMap λe=>match e with
  |.Name x _=>some x
  |_=>none
 |_=>[]
noncomputable def Afn(N:List Str)(sc:kW):List Nat:=sc.names.filterMap λ(n,k)=>if k==.free then Alx n N else none
noncomputable def Gm.inner(Γ:Gm)(tg:cA)(sc:kW):Gm:={ Γ with N:=ownOf tg ++ (Afn Γ.N sc).map (λj=>Γ.N.getD j ""),sc:=Ajf Γ.sc sc,fnB:=false,rs:=false,loops:=false,tr:=false }
theorem Gm.Ok.inner{Γ:Gm}{scope:kW}(G:Γ.Ok Θ X E)(nd:(Γ.inner tg scope).N.Nodup)(C:aQ)(s:aZ)(H:Hp)(ex:List aQ):(Γ.inner tg scope).Ok Θ (X.comp scope (ownOf tg) (Afn Γ.N scope) C s H ex) E0s where
 hK:=G.hK
 ns:=G.ns
 hu:=G.hu
 gd:=G.gd
 N:=by
  show ownOf tg ++ (Afn Γ.N scope).map (λj=>X.N.getD j "")=_;rw[G.N];rfl
 nd:=by
  show (ownOf tg ++ (Afn Γ.N scope).map (λj=>X.N.getD j "")).Nodup;rw[G.N];exact nd
 sc:=by
  show relabel scope X.env=Ajf Γ.sc scope;rw[<-G.sc];rfl
 fn:=λx g h=>G.fn x g h
 ps:=Anp
 con:=G.con
 bi:=G.bi
 fld:=G.fld
 isa:=G.isa
 calm:=G.calm
 fnB:=λz=>by cases z
def Bcc:List Rd->De->M Bool
 |[]=>λ_=>pure true
 |[r]=>r.tst
 |_=>Eg
theorem Ajg:∀{es:List cA} {rs:List Rd},Hs Θ X E es rs->WTs X es (tFb Θ E (Bcc rs))
 |_,_,.nil=>⟨λaa s σ H Q I ⟨Y,S,Z,R,sl,q⟩=>Ax7.un aa s σ H Q I (Ay.now (Rel:=λ_ _ a b=>a=b) q R rfl)⟩
 |_,_,.cons h .nil=>Ax8 h.tst
 |_,_,.cons _ (.cons _ _)=>⟨λ_ _ _ _ _ _ ⟨_,_,_,_,_,q⟩=>fG q⟩
noncomputable def Aup(Γ:Gm)(tg iter:cA)(isa:Int)(sc:kW):Bool:=
 decide (isa=0)&&Γ.calm&&Afm iter&&decide (Γ.inner tg sc).N.Nodup&&decide (sc.kind=.function)&&sc.names.all (λy=>decide (y.2≠.cell))&&
 (Afn Γ.N sc).all (λj=>match Γ.N[j]? with|some x=>decide (sc.names.lookup x=some .free)|none=>false)&&
 sc.names.all (λy=>!decide (y.2=.local)||decide (sc.names.lookup y.1=some .local))&&
 sc.names.all (λy=>!decide (y.2=.free)||(decide (Γ.sc.names.lookup y.1=some .cell)||decide (Γ.sc.names.lookup y.1=some .free)))
def Aha(tg:cA)(r:Rd):De->M Src:=match tg with
 |.Tuple _ _ _=>r.srcT
 |_=>r.src
theorem Xg(h:Lp Θ X E e r):WI X tg e (tFi Θ E (Aha tg r)):=by
 unfold Aha;split
 .exact h.srcT _ _ _
 .exact h.src _
def Ajh(Γ:Gm)(tg iter:cA)(isa:Int)(sc:kW)(ri re:Rd)(rt:List Rd):De->M W:=
 if Aup Γ tg iter isa sc then match tgt (Γ.inner tg sc) tg with
  |some s=>Bt (ownOf tg).length (Afn Γ.N sc) (Aha tg ri) s (Bcc rt) re.val
  |none=>Eg
 else Eg
theorem An7{K:aF}{Γ:Gm}{s:Tg}(h:tgt Γ tg=some s):GOk Θ s (tgG K Γ tg):=by
 unfold tgt at h;split at h
 .obtain⟨i,h1,rfl⟩:=cF.mp h;simp only[tgG,h1,lX];exact Ai4 i
 .split at h
  .obtain⟨is,h1,rfl⟩:=cF.mp h;simp only[tgG,h1,lX];exact Anx is rfl
  .cases h
 .cases h
theorem Auq{Γ:Gm}{iter elt:cA}{ifs:List cA}{isa:Int}{scope:kW}{ri re:Rd}{rt:List Rd}(G:Γ.Ok Θ X E)(hi:Lp Θ X E iter ri)(he:∀X' E',(Γ.inner tg scope).Ok Θ X' E'->Lp Θ X' E' elt re)(ht:∀X' E',(Γ.inner tg scope).Ok Θ X' E'->Hs Θ X' E' ifs rt):
  WE X (.ListComp elt [⟨tg,iter,ifs,isa⟩] scope pos) (tF Θ E (Ajh Γ tg iter isa scope ri re rt)):=by
 unfold Ajh;split
 .rename_i hb;unfold Aup at hb;simp only[aC] at hb;obtain⟨⟨⟨⟨⟨⟨⟨⟨b1,b2⟩,b3⟩,b4⟩,b5⟩,b6⟩,b7⟩,b8⟩,b9⟩:=hb;obtain rfl:=of_decide_eq_true b1;have nd:=of_decide_eq_true b4;split
  .rename_i s hs;refine Bfg (G.calm b2) G.sc (Xg hi) (λC s' H ex=>(Alz (G.inner nd C s' H ex) hs).1) (An7 hs) (λC s H ex=>Ajg (ht _ _ (G.inner nd C s H ex))) (λC s H ex=>(he _ _ (G.inner nd C s H ex)).val) (by rw[G.N];exact b7) (of_decide_eq_true b5) b6 b8 b9 (Ag9 b3)
  .exact Dg
 .exact Dg
end
noncomputable def ifR(ns:List Int)(c a b:Rd):Rd:={ Rd.of ns (Lq c.tst a.val b.val) with tst:=Eg }
noncomputable def atR(Γ:Gm)(o:cA)(f:Str)(r:Rd):Rd:={ Rd.of Γ.ns (Bfy Γ o f r) with base:=r.val }
def Bf1(lo hi:Option Rd)(st:Option cA):Rd:=match st with
 |none=>{ Rd.no with lo:=Aum lo,hi:=Aum hi }
 |some _=>Rd.no
mutual
def ev:cA->Gm->Rd
 |.Constant c _ _,Γ=>Rd.of Γ.ns (Auf c)
 |.Name x _,Γ=>Rd.of Γ.ns (Auh Γ x)
 |.BinOp a op b _,Γ=>Rd.of Γ.ns (Bfn op (ev a Γ) (ev b Γ))
 |.UnaryOp op a _,Γ=>unR Γ.ns op (ev a Γ)
 |.BoolOp op vs _,Γ=>Bca Γ.ns op (evs vs Γ)
 |.Compare a ops bs _,Γ=>Bfr Γ.ns ops bs (ev a Γ) (evs bs Γ)
 |.IfExp c a b _,Γ=>ifR Γ.ns (ev c Γ) (ev a Γ) (ev b Γ)
 |.Tuple es _ _,Γ=>Rd.of Γ.ns (Bft es (evs es Γ))
 |.List es _,Γ=>Rd.of Γ.ns (Bfu es (evs es Γ))
 |.Dict ks vs _,Γ=>Rd.of Γ.ns (Auk (Bf2 ks Γ) (evs vs Γ))
 |.Call f args kws pos,Γ=>Bcb Γ f (ev f Γ) args (evs args Γ) kws pos
 |.Attribute o f _,Γ=>atR Γ o f (ev o Γ)
 |.Subscript o i _,Γ=>Rd.of Γ.ns (subV Γ i (ev o Γ) (ev i Γ))
 |.Slice lo hi st _,Γ=>Bf1 (evo lo Γ) (evo hi Γ) st
 |.ListComp elt [⟨tg,iter,ifs,isa⟩] sc _,Γ=>Rd.of Γ.ns (Ajh Γ tg iter isa sc (ev iter Γ) (ev elt (Γ.inner tg sc)) (evs ifs (Γ.inner tg sc)))
 |_,_=>Rd.no
def evs:List cA->Gm->List Rd
 |[],_=>[]
 |e::es,Γ=>ev e Γ::evs es Γ
def evo:Option cA->Gm->Option Rd
 |none,_=>none
 |some e,Γ=>some (ev e Γ)
def Bf2:List (Option cA)->Gm->List (Option Rd)
 |[],_=>[]
 |e::es,Γ=>evo e Γ::Bf2 es Γ
end
section
mutual
theorem Gk:∀(e:cA)(Γ:Gm)(X:Cx)(E:L2.St->XK),Γ.Ok Θ X E->Lp Θ X E e (ev e Γ)
 |.Constant c _ _,Γ,X,E,G=>Mu G.hK G.ns Aja rfl
 |.Name x _,Γ,X,E,G=>Mu G.hK G.ns (Azo G) rfl
 |.BinOp a op b _,Γ,X,E,G=>Mu G.hK G.ns (Bfo G (Gk a Γ X E G) (Gk b Γ X E G)) rfl
 |.UnaryOp op a _,Γ,X,E,G=>Bjs G (Gk a Γ X E G)
 |.BoolOp op vs _,Γ,X,E,G=>Azp G (Mi vs Γ X E G)
 |.Compare a ops bs _,Γ,X,E,G=>Bfs G (Gk a Γ X E G) (Mi bs Γ X E G)
 |.IfExp c a b _,Γ,X,E,G=>R9 G.hK G.ns (Bln (Gk c Γ X E G).tst (Gk a Γ X E G).val (Gk b Γ X E G).val) Aly
 |.Tuple es _ _,Γ,X,E,G=>Mu G.hK G.ns (Bfv (Mi es Γ X E G)) rfl
 |.List es _,Γ,X,E,G=>Mu G.hK G.ns (Bfw (Mi es Γ X E G)) rfl
 |.Dict ks vs _,Γ,X,E,G=>Mu G.hK G.ns (Azq (Ahb ks Γ X E G) (Mi vs Γ X E G)) rfl
 |.Call f args kws pos,Γ,X,E,G=>Azs G (Gk f Γ X E G) (Mi args Γ X E G)
 |.Attribute o f _,Γ,X,E,G=>
  have h:=Gk o Γ X E G;have r:=Mu G.hK G.ns (Bfz (f:=f) G h) rfl
  ⟨r.val,r.tst,λ_ _ _ e=>by cases e;exact h.val,r.lo,r.hi,r.src,r.srcT⟩
 |.Subscript o i _,Γ,X,E,G=>Mu G.hK G.ns (Bfx G (Gk o Γ X E G) (Gk i Γ X E G)) rfl
 |.Slice lo hi none _,Γ,X,E,G=>⟨Dg,Aly,λ_ _ _ _=>Dg,λ_ _ _ e=>by cases e;exact Aur lo Γ X E G,λ_ _ _ e=>by cases e;exact Aur hi Γ X E G,λ_=>Acp,λ_ _ _=>Acp⟩
 |.Slice _ _ (some _) _,_,_,_,_=>Ig
 |.ListComp elt [⟨tg,iter,ifs,isa⟩] sc _,Γ,X,E,G=>Mu G.hK G.ns (Auq G (Gk iter Γ X E G) (λX' E' G'=>Gk elt _ X' E' G') (λX' E' G'=>Mi ifs _ X' E' G')) rfl
 |.ListComp _ [] _ _,_,_,_,_=>Ig
 |.ListComp _ (⟨_,_,_,_⟩::_::_) _ _,_,_,_,_=>Ig
 |.NamedExpr _ _ _,_,_,_,_=>Ig
 |.Lambda _ _ _ _,_,_,_,_=>Ig
 |.Set _ _ _,_,_,_,_=>Ig
 |.SetComp _ _ _ _,_,_,_,_=>Ig
 |.DictComp _ _ _ _ _,_,_,_,_=>Ig
 |.GeneratorExp _ _ _ _,_,_,_,_=>Ig
 |.Await _ _,_,_,_,_=>Ig
 |.Yield _ _,_,_,_,_=>Ig
 |.YieldFrom _ _,_,_,_,_=>Ig
 |.FormattedValue _ _ _ _,_,_,_,_=>Ig
 |.JoinedStr _ _,_,_,_,_=>Ig
 |.Starred _ _,_,_,_,_=>Ig
theorem Mi:∀(es:List cA)(Γ:Gm)(X:Cx)(E:L2.St->XK),Γ.Ok Θ X E->Hs Θ X E es (evs es Γ)
 |[],_,_,_,_=>.nil
 |e::es,Γ,X,E,G=>.cons (Gk e Γ X E G) (Mi es Γ X E G)
theorem Aur:∀(e:Option cA)(Γ:Gm)(X:Cx)(E:L2.St->XK),Γ.Ok Θ X E->WO X e (tFo Θ E (Aum (evo e Γ)))
 |none,_,_,_,_=>Atw
 |some e,Γ,X,E,G=>Atx (Gk e Γ X E G).val
theorem Ahb:∀(es:List (Option cA))(Γ:Gm)(X:Cx)(E:L2.St->XK),Γ.Ok Θ X E->Qs Θ X E es (Bf2 es Γ)
 |[],_,_,_,_=>.nil
 |none::es,Γ,X,E,G=>.none (Ahb es Γ X E G)
 |some e::es,Γ,X,E,G=>.some (Gk e Γ X E G) (Ahb es Γ X E G)
end
end
structure Gm.SOk(Θ:Th)(Γ:Gm)(X:Cx)(E:L2.St->XK):Prop where
 g:Γ.Ok Θ X E
 hp:Γ.loops=true->qO (model X.prog X.w) X.A X.env X.xe
 hf:∀x,X.fn x=true
 rs:Γ.rs=true->∃E1,E=(λ_=>E1)/\Raises X E1/\Abl X E1/\X.ex=[]
 exi:Γ.rs=true->∀x c dv,Γ.exi x=some (c,dv)->∃f,Θ.xf c=some f/\Bjo X (Θ.cl c) f dv.length/\X.mg x=some (.ref (Θ.cl c))
 hcl:∀x k,Γ.hcl x=some k->X.mg x=some (.ref (Θ.cl k))
 exm:∀k c,Γ.exm k c=true->jN Θ.K (.ref (Θ.cl c)) (.ref (Θ.cl k))=some true
 tr:Γ.tr=true->X.stack=X.env::X.outer/\X.env.frame=some X.env.locals
 exc:∀x c,Γ.exc x=some c->Θ.xf c=none/\Ain X.K (Θ.cl c)/\X.mg x=some (.ref (Θ.cl c))
def Qt:MS:=λ_ _=>.bad
section
def Cg{Θ:Th}{X:Cx}{E:L2.St->XK}{st:dG}:WS X st (tS Θ E Qt):=⟨λ_ _ _ _ _ _ ⟨_,_,_,_,_,q⟩=>fG q⟩
theorem Aus{n:Nat}:swapsWith v (some (.Subscript o i p)) n env=pure false:=by cases v <;> rfl
noncomputable def Aut(Γ:Gm)(sc:kW)(vp:Pos)(x:Str)(p:Pos):Bool:=((if Γ.sc.kind.isAnnotationScope then .function else Γ.sc.kind)==.function)&&(Γ.sc.names.lookup x==some .local)&&p.line==vp.line&&!(sc.names.any λ(n,k)=>n==x&&(k==.local||k==.cell))
theorem Auu{n:Nat}(G:Γ.Ok Θ X E):swapsWith (.ListComp elt gs sc vp) (some (.Name x p)) n X.env=pure (Aut Γ sc vp x p):=by
 show pure _=_;unfold Aut Env.blockKind Env.kindOf;rw[G.sc];rfl
def Ahc:cA->Bool
 |.ListComp _ [_] _ _=>true
 |_=>false
theorem Aji(h:Ahc v=true):∃elt tg iter ifs isa sc vp,v=.ListComp elt [⟨tg,iter,ifs,isa⟩] sc vp:=by
 unfold Ahc at h;split at h
 .rename_i elt c sc vp;obtain⟨tg,iter,ifs,isa⟩:=c;exact⟨elt,tg,iter,ifs,isa,sc,vp,rfl⟩
 .cases h
noncomputable def Bf3(Γ:Gm)(ts:List cA)(v:cA)(rv:Rd):MS:=match ts with
 |[.Name x _]=>if Ag8 v||Ahc v then match Vk Γ x with
   |some i=>Br i rv.val
   |none=>Qt
  else Qt
 |[.Subscript o i _]=>Acl (ev o Γ).val (ev i Γ).val rv.val
 |_=>Qt
def Ajj{Θ:Th}{X:Cx}{E:L2.St->XK}{st:dG}{i:Nat}:WS X st (tS Θ E (Br i Eg)):=⟨λ_ _ _ _ _ _ ⟨_,_,_,_,_,q⟩=>fG q⟩
theorem Azt{i:Nat}{isa:Int}(G:Γ.SOk Θ X E)(hi:Vk Γ x=some i)(hsw:swapsWith (.ListComp elt [⟨tg,iter,ifs,isa⟩] scope vp) (some (.Name x np)) pos.line X.env=pure true):
  WS X (.Assign [.Name x np] (.ListComp elt [⟨tg,iter,ifs,isa⟩] scope vp) pos) (tS Θ E (Br i (Ajh Γ tg iter isa scope (ev iter Γ) (ev elt (Γ.inner tg scope)) (evs ifs (Γ.inner tg scope))))):=by
 obtain⟨s1,s2,s3⟩:=Abo G.g hi;unfold Ajh;split
 .rename_i hb;unfold Aup at hb;simp only[aC] at hb;obtain⟨⟨⟨⟨⟨⟨⟨⟨b1,b2⟩,b3⟩,b4⟩,b5⟩,b6⟩,b7⟩,b8⟩,b9⟩:=hb;obtain rfl:=of_decide_eq_true b1;have nd:=of_decide_eq_true b4;split
  .rename_i s hs;exact Azl (G.g.calm b2) G.g.sc (Xg (Gk iter Γ X E G.g)) (λC s' H ex=>(Alz (G.g.inner nd C s' H ex) hs).1) (An7 hs) (λC s H ex=>Ajg (Mi ifs _ _ _ (G.g.inner nd C s H ex))) (λC s H ex=>(Gk elt _ _ _ (G.g.inner nd C s H ex)).val) (by rw[G.g.N];exact b7) (of_decide_eq_true b5) b6 b8 b9 (Ag9 b3)
    (Atb (decide_eq_true G.g.nd) s1 s2 s3) hsw
  .exact Ajj
 .exact Ajj
theorem Azu(G:Γ.SOk Θ X E):WS X (.Assign ts v pos) (tS Θ E (Bf3 Γ ts v (ev v Γ))):=by
 have hv:=Gk v Γ X E G.g;unfold Bf3;split
 .rename_i x np;split
  .rename_i hn;split
   .rename_i i hi;obtain⟨s1,s2,s3⟩:=Abo G.g hi;by_cases h1:Ag8 v=true
    .exact At1 hv.val (decide_eq_true G.g.nd) s1 s2 (An1 h1) (G.hf _)
    .rw[fO] at hn;obtain⟨elt,tg,iter,ifs,isa,sc,vp,rfl⟩:=Aji (hn.resolve_left h1);have sw:=Auu (elt:=elt) (gs:=[⟨tg,iter,ifs,isa⟩]) (sc:=sc) (vp:=vp) (p:=np) (x:=x) (n:=pos.line) G.g;cases hB:Aut Γ sc vp x np with
     |false=>rw[hB] at sw;exact At1 hv.val (decide_eq_true G.g.nd) s1 s2 sw (G.hf _)
     |true=>rw[hB] at sw;exact Azt G hi sw
   .exact Cg
  .exact Cg
 .exact Aze G.g.hu (Gk _ Γ X E G.g).val (Gk _ Γ X E G.g).val hv.val Aus
 .exact Cg
def Bf4(Γ:Gm)(tg iter:cA)(b:MS):MS:=if Γ.calm&&Afm iter&&Γ.loops then match tgt Γ tg with
  |some s=>My (Aha tg (ev iter Γ)) s b
  |none=>Qt
 else Qt
theorem Azv(G:Γ.SOk Θ X E)(hb:WSs X body (tS Θ E b)):WS X (.For tg iter body [] pos) (tS Θ E (Bf4 Γ tg iter b)):=by
 unfold Bf4;split
 .rename_i hc;rw[aC,aC] at hc;split
  .rename_i s hs;obtain⟨w,gk⟩:=Alz G.g hs;exact Be9 (G.hp hc.2) G.g.hK (G.g.calm hc.1.1) (Xg (Gk _ Γ X E G.g)) w gk hb (Ag9 hc.1.2)
  .exact Cg
 .exact Cg
def Al0(Γ:Gm)(x:Str)(args:List cA):MS:=if Γ.rs&&Γ.calm&&!(x==("__debug__":Str))&&decide (Γ.sc.names.lookup x=some .globalImplicit)&&args.all noStar then match Γ.exc x with
  |some c=>Qp c (vals (evs args Γ))
  |none=>match Γ.exi x with
   |some (c,dv)=>Nq c dv (vals (evs args Γ))
   |none=>Qt
 else Qt
theorem Aqj(G:Γ.SOk Θ X E):WS X (.Raise (some (.Call (.Name x np) (a::es) [] cpos)) none pos) (tS Θ E (Al0 Γ x (a::es))):=by
 unfold Al0;split
 .rename_i hc;simp only[aC] at hc;obtain⟨⟨⟨⟨c1,c2⟩,c3⟩,c4⟩,c5⟩:=hc;obtain⟨E1,rfl,hR,hRI,hex⟩:=G.rs c1;have hv:=Nr (Mi (a::es) Γ X _ G.g) c5;rw[bY,aC] at c5;have hg:X.env.kindOf x=some .globalImplicit:=by show X.env.scope.names.lookup x=_;rw[G.g.sc];exact of_decide_eq_true c4
  split
  .rename_i c hx;obtain⟨x1,x2,x3⟩:=G.exc x c hx;exact At6 x1 x2 x3 (G.g.calm c2) hR hv hg (by simpa using c3) (M4 c5.1) (J0 c5.2)
  .split
   .rename_i c dv hx;obtain⟨f,x1,x2,x3⟩:=G.exi c1 x c dv hx;exact Aqg x1 hex x2 x3 (G.g.calm c2) hRI hv hg (by simpa using c3) (M4 c5.1) (J0 c5.2)
   .exact Cg
 .exact Cg
end
def Al1(Γ:Gm)(exc cause:Option cA):MS:=match exc,cause with
 |some (.Call (.Name x _) (a::es) [] _),none=>Al0 Γ x (a::es)
 |_,_=>Qt
theorem Aqk(G:Γ.SOk Θ X E):WS X (.Raise exc cause pos) (tS Θ E (Al1 Γ exc cause)):=by
 unfold Al1;split
 .exact Aqj G
 .exact Cg
def Bl1(Γ:Gm):Option cA->MS
 |some e=>retS (ev e Γ).val
 |none=>Qt
def Auv(m:MS):List dG->MS
 |[]=>m
 |_::_=>Qt
def Al2(Γ:Gm)(c:De->M Bool)(b:MS):MS:=if Γ.loops then Hz c b Γ.fuel else Qt
noncomputable def Gm.inTry(Γ:Gm):Gm:={ Γ with rs:=false,loops:=false,tr:=false }
noncomputable def Gm.inSuite(Γ:Gm):Gm:={ Γ with rs:=false,loops:=false,tr:=false,calm:=false,fn:=λ_=>none }
theorem Gm.SOk.inTry{Θ:Th}{X:Cx}{E E':L2.St->XK}{Γ:Gm}{pn:List (aQ×Obj)}{xe:aJ->aZ->Prop}(G:Γ.SOk Θ X E)(hp:Gx (CXo X.prog X.w) (X.tryB pn xe) E'):Γ.inTry.SOk Θ (X.tryB pn xe) E' where
 g:={ hK:=G.g.hK,ns:=G.g.ns,hu:=G.g.hu,gd:=G.g.gd,N:=G.g.N,nd:=G.g.nd,sc:=G.g.sc,fn:=G.g.fn,ps:=hp,con:=G.g.con,bi:=G.g.bi,fld:=G.g.fld,isa:=G.g.isa,calm:=G.g.calm,fnB:=G.g.fnB }
 hp:=λz=>by cases z
 hf:=G.hf
 rs:=λz=>by cases z
 exi:=λz=>by cases z
 hcl:=G.hcl
 exm:=G.exm
 tr:=λz=>by cases z
 exc:=G.exc
theorem Gm.SOk.inSuite{Θ:Th}{X:Cx}{E:L2.St->XK}{Γ:Gm}(G:Γ.SOk Θ X E)(e:aQ):Γ.inSuite.SOk Θ (X.suite e) E0s where
 g:={ hK:=G.g.hK,ns:=G.g.ns,hu:=G.g.hu,gd:=G.g.gd,N:=G.g.N,nd:=G.g.nd,sc:=G.g.sc,fn:=λ_ _ z=>(nomatch z),ps:=Anp,con:=G.g.con,bi:=G.g.bi,fld:=G.g.fld,isa:=G.g.isa,calm:=λz=>(nomatch z),fnB:=G.g.fnB }
 hp:=λz=>by cases z
 hf:=G.hf
 rs:=λz=>by cases z
 exi:=λz=>by cases z
 hcl:=G.hcl
 exm:=G.exm
 tr:=λz=>by cases z
 exc:=G.exc
noncomputable def Bf5(Γ:Gm)(t:cA)(n:Str)(b su:MS)(ss:List dG):MS:=match t with
 |.Name x _=>if Γ.tr&&!(x==("__debug__":Str))&&decide (Γ.sc.names.lookup x=some .globalImplicit)&&decide (Γ.sc.names.lookup n=some .local)&&!ss.isEmpty then
  match Γ.hcl x,Alx n Γ.N with
  |some k,some i=>Ai8 (Γ.exm k) i b su
  |_,_=>Qt
  else Qt
 |_=>Qt
theorem Azw(G:Γ.SOk Θ X E)(hb:∀(pn:List (aQ×Obj))(xe:aJ->aZ->Prop)(E':L2.St->XK),Gx (CXo X.prog X.w) (X.tryB pn xe) E'->WSs (X.tryB pn xe) body (tS Θ E' b))(hs:∀e,WSs (X.suite e) ss (tS Θ E0s su)):
  WS X (.Try body [.ExceptHandler (some t) (some n) ss hpos] [] [] pos) (tS Θ E (Bf5 Γ t n b su ss)):=by
 unfold Bf5;split
 .split
  rotate_left
  .exact Cg
  rename_i x np hc;simp only[aC] at hc;obtain⟨⟨⟨⟨c1,c2⟩,c3⟩,c4⟩,c5⟩:=hc;obtain⟨t1,t2⟩:=G.tr c1;split
  .rename_i k i hk hi;cases ss with
   |nil=>cases c5
   |cons b0 ss=>exact Bfm G.g.hK t1 t2 G.g.nd (G.hcl _ k hk) (λc z=>G.exm k c z) hb hs (by rw[G.g.N];exact Abm hi) (by rw[G.g.sc];exact of_decide_eq_true c4) (by show X.env.scope.names.lookup _=_;rw[G.g.sc];exact of_decide_eq_true c3) (by simpa using c2)
  .exact Cg
 .exact Cg
def Auw(Γ:Gm)(e:cA):MS:=if Ag8 e then G4 (ev e Γ).val else Qt
mutual
def evS:dG->Gm->MS
 |.Return e _,Γ=>Bl1 Γ e
 |.Assign ts v _,Γ=>Bf3 Γ ts v (ev v Γ)
 |.If c A B _,Γ=>ifS (ev c Γ).tst (Dw A Γ) (Dw B Γ)
 |.While c b els _,Γ=>Auv (Al2 Γ (ev c Γ).tst (Dw b Γ)) els
 |.Try body [.ExceptHandler (some t) (some n) ss _] [] [] _,Γ=>Bf5 Γ t n (Dw body Γ.inTry) (Dw ss Γ.inSuite) ss
 |.For tg it b els _,Γ=>Auv (Bf4 Γ tg it (Dw b Γ)) els
 |.Expr e _,Γ=>Auw Γ e
 |.Raise exc cause _,Γ=>Al1 Γ exc cause
 |_,_=>Qt
def Dw:List dG->Gm->MS
 |[],_=>Aw
 |s::ss,Γ=>An (evS s Γ) (Dw ss Γ)
end
section
mutual
theorem Bf6:∀(st:dG)(Γ:Gm)(X:Cx)(E:L2.St->XK),Γ.SOk Θ X E->WS X st (tS Θ E (evS st Γ))
 |.Return (some e) _,Γ,X,E,G=>Be8 (Gk e Γ X E G.g).val
 |.Return none _,_,_,_,_=>Cg
 |.Assign ts v _,Γ,X,E,G=>Azu G
 |.If c A B _,Γ,X,E,G=>Bjj (Gk c Γ X E G.g).tst (Ls A Γ X E G) (Ls B Γ X E G)
 |.While c b [] _,Γ,X,E,G=>by
  show WS X _ (tS Θ E (Al2 Γ (ev c Γ).tst (Dw b Γ)));unfold Al2;split
  .rename_i h;exact At2 _ (G.hp h) (Gk c Γ X E G.g).tst (Ls b Γ X E G)
  .exact Cg
 |.While _ _ (_::_) _,_,_,_,_=>Cg
 |.For tg it b [] _,Γ,X,E,G=>Azv G (Ls b Γ X E G)
 |.For _ _ _ (_::_) _,_,_,_,_=>Cg
 |.Expr e _,Γ,X,E,G=>by
  show WS X _ (tS Θ E (Auw Γ e));unfold Auw;split
  .rename_i h;exact Ay3 (Gk e Γ X E G.g).val (An1 h)
  .exact Cg
 |.Raise exc cause _,Γ,X,E,G=>Aqk G
 |.Pass _,_,_,_,_=>Cg
 |.Break _,_,_,_,_=>Cg
 |.Continue _,_,_,_,_=>Cg
 |.FunctionDef _ _ _ _ _ _ _ _ _ _,_,_,_,_=>Cg
 |.AsyncFunctionDef _ _ _ _ _ _ _ _ _ _,_,_,_,_=>Cg
 |.ClassDef _ _ _ _ _ _ _ _ _ _ _,_,_,_,_=>Cg
 |.Delete _ _,_,_,_,_=>Cg
 |.TypeAlias _ _ _ _ _ _ _,_,_,_,_=>Cg
 |.AugAssign _ _ _ _,_,_,_,_=>Cg
 |.AnnAssign _ _ _ _ _,_,_,_,_=>Cg
 |.AsyncFor _ _ _ _ _,_,_,_,_=>Cg
 |.With _ _ _,_,_,_,_=>Cg
 |.AsyncWith _ _ _,_,_,_,_=>Cg
 |.Match _ _ _,_,_,_,_=>Cg
 |.Try body [.ExceptHandler (some t) (some n) ss _] [] [] _,Γ,X,E,G=>Azw G (λpn xe E' hp=>Ls body _ _ _ (G.inTry hp)) λe=>Ls ss _ _ _ (G.inSuite e)
 |.Try _ [] _ _ _,_,_,_,_=>Cg
 |.Try _ (.ExceptHandler none _ _ _::_::_) _ _ _,_,_,_,_=>Cg
 |.Try _ (.ExceptHandler (some _) none _ _::_::_) _ _ _,_,_,_,_=>Cg
 |.Try _ (.ExceptHandler (some _) (some _) _ _::_::_) _ _ _,_,_,_,_=>Cg
 |.Try _ [.ExceptHandler none _ _ _] _ _ _,_,_,_,_=>Cg
 |.Try _ [.ExceptHandler (some _) none _ _] [] [] _,_,_,_,_=>Cg
 |.Try _ [.ExceptHandler (some _) none _ _] (_::_) _ _,_,_,_,_=>Cg
 |.Try _ [.ExceptHandler (some _) none _ _] [] (_::_) _,_,_,_,_=>Cg
 |.Try _ [.ExceptHandler (some _) (some _) _ _] (_::_) _ _,_,_,_,_=>Cg
 |.Try _ [.ExceptHandler (some _) (some _) _ _] [] (_::_) _,_,_,_,_=>Cg
 |.TryStar _ _ _ _ _,_,_,_,_=>Cg
 |.Assert _ _ _,_,_,_,_=>Cg
 |.Import _ _,_,_,_,_=>Cg
 |.ImportFrom _ _ _ _,_,_,_,_=>Cg
 |.Global _ _,_,_,_,_=>Cg
 |.Nonlocal _ _,_,_,_,_=>Cg
theorem Ls:∀(sts:List dG)(Γ:Gm)(X:Cx)(E:L2.St->XK),Γ.SOk Θ X E->WSs X sts (tS Θ E (Dw sts Γ))
 |[],_,_,_,_=>Be7
 |s::ss,Γ,X,E,G=>Ay2 (Bf6 s Γ X E G) (Ls ss Γ X E G)
end
end
structure Md where
 con:Str->Option W
 bi:Str->Bool
 exc:Str->Option Nat
 isa:Nat->W->Option Bool
 ns:List Int
 fld:Bool->Nat->Str->Bool
 fuel:Nat
 exi:Str->Option (Nat×List W)
 hcl:Str->Option Nat
 exm:Nat->Nat->Bool
noncomputable def Md.gm(m:Md)(T:List (Str×Fi))(N:List Str)(sc:kW):Gm:=
 { N:=N,sc:=sc,fn:=λx=>T.lookup x,con:=m.con,bi:=m.bi,exc:=m.exc,isa:=m.isa,ns:=m.ns,fld:=m.fld,fuel:=m.fuel,calm:=true,fnB:=true,rs:=true,exi:=m.exi,hcl:=m.hcl,exm:=m.exm,loops:=true,tr:=true }
structure Md.Ok(Θ:Th)(m:Md)(K:aF)(mg:Str->Option aJ):Prop where
 hK:K=Θ.K
 ns:m.ns=Θ.ns
 con:∀x w,m.con x=some w->∃v u,(∀Y H,RV Θ Y H w v)/\RelV v u/\(mg x=some u\/(mg x=none/\bootBuiltins x=some u))
 bi:∀x,m.bi x=true->mg x=none
 fld:FOk Θ m.fld
 isa:Afl Θ m.isa
 exc:∀x c,m.exc x=some c->Θ.xf c=none/\Ain K (Θ.cl c)/\mg x=some (.ref (Θ.cl c))
 hcl:∀x k,m.hcl x=some k->mg x=some (.ref (Θ.cl k))
 exm:∀k c,m.exm k c=true->jN Θ.K (.ref (Θ.cl c)) (.ref (Θ.cl k))=some true
def XiT(Θ:Th)(m:Md)(P:cP)(w:dO)(K:aF)(mg:Str->Option aJ)(base:dN)(k:Nat):Prop:=
 ∀x c dv,m.exi x=some (c,dv)->∃f,Θ.xf c=some f/\mg x=some (.ref (Θ.cl c))/\∃(fI:aQ)(fd:eO)(ps:List Str)(dvs:List V)(ds:List aJ),Agz K (Θ.cl c) fI=true/\fM K (.ref (Θ.cl c))=true/\lQ K (.ref fI)=some (.type "function")/\
  Io P w K mg base (CXo P w) k fI fd ps (Ap5 (Θ.cl c) f) true/\Binds K fd ps ds/\Vals dvs ds/\dvs.length=dv.length
def Tbl(Θ:Th)(P:cP)(w:dO)(K:aF)(mg:Str->Option aJ)(base:dN)(k:Nat)(T:List (Str×Fi)):Prop:=
 ∀x i,T.lookup x=some i->∃(fa:aQ)(fd:eO)(ps:List Str)(df:dG),Pk K mg x df ps fa fd/\Io P w K mg base (CXo P w) k fa fd ps (spF Θ i.g) true/\∃dvs ds,Gb D.Gr i.dv=some dvs/\Vals dvs ds/\Binds K fd ps ds
section
variable{Θ:Th}{P:cP}{w:dO}{K:aF}{mg:Str->Option aJ}{base:dN}{m:Md}{T:List (Str×Fi)}{k j:Nat}
theorem Tbl.nil:Tbl Θ P w K mg base k []:=λx i h=>by cases h
theorem Tbl.body(hT:Tbl Θ P w K mg base k T)(hI:XiT Θ m P w K mg base j)(hj:j < k)(M:m.Ok Θ K mg)(nd:N.Nodup)(hr:Im (k+1) (A.deeper (envOfC aj sc s.heap.objs.size f cdv)) true):
  (m.gm T N sc).SOk Θ (Vd (CXo P w) P w K mg base N aj sc f cdv A outer s H E true) (λ_=>E) where
 g:={
  hK:=M.hK
  ns:=M.ns
  gd:=hr.gd
  hu:=by have:=hr.un;show (A.deeper (envOfC aj sc s.heap.objs.size f cdv)).units+64 < cLine;omega
  N:=rfl
  nd:=nd
  sc:=rfl
  fn:=λx i h=>by
   obtain⟨fa,fd,ps,df,D,F,z⟩:=hT x i h;exact⟨k,fa,fd,ps,df,true,D,F,hr.mono (lL k),z⟩
  ps:=Apv
  con:=M.con
  bi:=M.bi
  fld:=M.fld
  isa:=M.isa
  calm:=λ_=>rfl
  fnB:=λ_ _=>rfl }
 hp:=λ_=>Aqe
 hf:=λ_=>rfl
 rs:=λ_=>⟨E,rfl,Apu,Alr,rfl⟩
 exi:=λ_ x c dv h=>by
  obtain⟨f,h1,h2,fI,fd,ps,dvs,ds,q1,q2,q3,F,q5,q6,q7⟩:=hI x c dv h;exact⟨f,h1,⟨fI,fd,ps,j,dvs,ds,q1,q2,q3,F,hr.mono (by omega),q5,q6,q7⟩,h2⟩
 hcl:=M.hcl
 exm:=M.exm
 tr:=λ_=>⟨rfl,rfl⟩
 exc:=M.exc
theorem Tbl.up(hT:Tbl Θ P w K mg base k T):Tbl Θ P w K mg base (k+2) T:=λx i h=>by
 obtain⟨fa,fd,ps,df,D,F,z⟩:=hT x i h;exact⟨fa,fd,ps,df,D,F.mono (by omega),z⟩
theorem Tbl.fnM{nm qn:Str}{st:dG}{N ps:List Str}{f:aQ}{fd:eO}{b:MS}(hT:Tbl Θ P w K mg base k T)(hI:XiT Θ m P w K mg base j)(hj:j < k)(M:m.Ok Θ K mg)(F:Fun K nm qn st f fd)(Sc:Hf N ps (Am st))(e:Dw (Ax st) (m.gm T N (Am st))=b):Io P w K mg base (CXo P w) (k+2) f fd ps (spF Θ (Dh ps.length N.length b)) true:=by
 refine Bjm F Sc λcdv A outer s H E hr=>?_;rw[<-e];exact Ls _ _ _ _ (hT.body hI hj M Sc.nd hr)
def Tbl.fn{x:Str}{st:dG}{N ps:List Str}{f:aQ}{fd:eO}{b:MS}(hT:Tbl Θ P w K mg base k T)(hI:XiT Θ m P w K mg base j)(hj:j < k)(M:m.Ok Θ K mg)(D:Pk K mg x st ps f fd)(Sc:Hf N ps (Am st))(e:Dw (Ax st) (m.gm T N (Am st))=b):Io P w K mg base (CXo P w) (k+2) f fd ps (spF Θ (Dh ps.length N.length b)) true:=hT.fnM hI hj M D.fn Sc e
theorem Tbl.cons{x:Str}{st:dG}{N ps:List Str}{f:aQ}{fd:eO}{b:MS}{dv:List W}{dvs:List V}{ds:List aJ}(hT:Tbl Θ P w K mg base k T)(hI:XiT Θ m P w K mg base j)(hj:j < k)(M:m.Ok Θ K mg)(D:Pk K mg x st ps f fd)(Sc:Hf N ps (Am st))(hv:Gb _root_.D.Gr dv=some dvs)(hd:Vals dvs ds)(hb:Binds K fd ps ds)(e:Dw (Ax st) (m.gm T N (Am st))=b):Tbl Θ P w K mg base (k+2) ((x,⟨Dh ps.length N.length b,ps.length,dv⟩)::T):=λy i h=>by
 rw[eV] at h;split at h
 .rename_i ey;have ey:y=x:=by simpa using ey
  subst ey;cases h;refine⟨f,fd,ps,st,D,?_,dvs,ds,hv,hd,hb⟩;exact hT.fn hI hj M D Sc e
 .exact hT.up y i h
end
def Aux(K:aF)(cl:Nat->aQ)(l:aQ)(ns:List Int)(xf:Nat->Option Str):Th:=⟨K,cl,xf,l,ns,λ_=>false⟩
def An8(K:aF):Sp:=λvs H Q _=>∃(l:aQ)(ns:List Int),vs=[.ref l]/\Scr (Aux K (λ_=>0) l ns λ_=>none) H/\ns.length<=63/\∀H',Q (.bl true) H'
theorem Azx:Rep Θ [] [] H:=⟨rfl,yK,λn a c h=>by simp at h⟩
theorem Bf7{xf:Nat->Option Str}{P:cP}{w:dO}{K:aF}{mg:Str->Option aJ}{base:dN}{k:Nat}{f:aQ}{fd:eO}{x:Str}{cl:Nat->aQ}{g:List Int->List W->M W}(law:∀ns:List Int,ns.length<=63->∃S',g ns [.scr] []=.ok (.bl true) S')(h:∀l ns,Io P w K mg base (CXo P w) k f fd [x] (spF (Aux K cl l ns xf) (g ns))):Io P w K mg base (CXo P w) k f fd [x] (An8 K):=by
 refine⟨λvs H Q E z=>?_,λA outer s H args us vs Q E hr he hb hv z=>?_⟩
 .obtain⟨l,ns,rfl,_⟩:=z;rfl
 .obtain⟨l,ns,rfl,sc,hl,q⟩:=z;obtain⟨S',e⟩:=law ns hl;refine(h l ns).run A outer s H args us _ Q E hr he hb hv ⟨[],[],[.scr],Azx,.cons (.scr sc) .nil,?_⟩;rw[e];intro Y1 H1 v p1 t1 R1 rv;cases rv;exact q H1
theorem Auy{l:rY}{k:Nat}{q:cP}{loose:List Str}{XP:(Str->Option aJ)->dN->Prop}{YP:dO->dN->Prop}{d:DefRec}{K:Params->aF}{x:Str}(hn:l.most=some 63)(hdf:d.params.defaults=[])(hr:Im k callerA)(hY:∀(w:dO)(h:dN),YP w h->(K w.params).In h)(F:∀(w:dO)(mg:Str->Option aJ)(fa:aQ)(h:dN),(K w.params).In h->h.Ns mainGlobals mg->mg d.name=some (.ref fa)->
   ∃fd:eO,(∀(s:aZ)(u:aJ),vN s fd ⟨[u],[]⟩ [(x,u)])/\∀base:dN,(K w.params).In base->base.Ns mainGlobals mg->Io l.prog w (K w.params) mg base (CXo l.prog w) k fa fd [x] (An8 (K w.params))):
  zF q loose XP YP l.row.toRowW d [] (λf vs=>yI f vs):=
 L2.Axt (n:=63) (k:=k) (x:=x) (CX:=λw=>CXo l.prog w) (sp:=λw=>An8 (K w.params)) hn (by decide) hdf hr hY F (λw H a ns hl hO hS=>⟨a,ns,rfl,by
  rcases hS with (h|h)|h
  .rcases hO a with z|⟨o,xs,z⟩
   .rw[z] at h;cases h
   .rw[z] at h;cases h
  .exact .inl h
  .exact .inr h,hl,λ_=>rfl⟩) λ_ _ _ _ _ ⟨_,_,_,_,_,_,_,z⟩=>z
def AllP{α:Type}(P:Str->α->Prop):List (Str×α)->Prop
 |[]=>True
 |p::l=>P p.1 p.2/\AllP P l
theorem AllP.at{α:Type}{P:Str->α->Prop}:∀{L:List (Str×α)},AllP P L->∀x a,L.lookup x=some a->P x a
 |[],_,x,a,h=>by cases h
 |(y,b)::l,hp,x,a,h=>by
  rw[eV] at h;split at h
  .rename_i e;have e:x=y:=by simpa using e
   subst e;cases h;exact hp.1
  .exact AllP.at hp.2 x a h
def AllB(P:Str->Prop):List Str->Prop
 |[]=>True
 |p::l=>P p/\AllB P l
theorem AllB.at:∀{L:List Str},AllB P L->∀x,L.contains x=true->P x
 |[],_,x,h=>by simp at h
 |y::l,hp,x,h=>by
  rw[vA,fO] at h;rcases h with e|h
  .have e:x=y:=by simpa using e
   subst e;exact hp.1
  .exact AllB.at hp.2 x h
def Auz(Θ:Th)(mg:Str->Option aJ)(x:Str)(w:W):Prop:=∃v u,(∀Y H,RV Θ Y H w v)/\RelV v u/\(mg x=some u\/(mg x=none/\bootBuiltins x=some u))
section
def Hx{i:Int}{t:Tok}(h:mg x=some (.int i t)):Auz Θ mg x (.int i):=⟨.int i,_,λ_ _=>.int i,⟨t,rfl⟩,.inl h⟩
def An9{t:Tok}(h:mg x=some (.str z t)):Auz Θ mg x (.str z):=⟨.str z,_,λ_ _=>.str z,⟨t,rfl⟩,.inl h⟩
def Xh(h:mg x=none)(hb:bootBuiltins x=some (.type n)):Auz Θ mg x (.ty n):=⟨.ty n,_,λ_ _=>.ty n,rfl,.inr ⟨h,hb⟩⟩
def Hg{c:Nat}(h:mg x=some (.ref (Θ.cl c))):Auz Θ mg x (.cls c):=⟨.ref (Θ.cl c),_,λ_ _=>.cls c,rfl,.inl h⟩
end
def addrs(cs:List aQ)(c:Nat):aQ:=cs.getD c 0
def isB(o:Option (Option aJ))(n:String):Bool:=match o with
 |some (some (.builtin m))=>m==n
 |_=>false
theorem Ahd(h:isB o n=true):o=some (some (.builtin n)):=by
 unfold isB at h;split at h
 .rw[eq_of_beq h]
 .cases h
def isN(o:Option (Option aJ)):Bool:=match o with
 |some none=>true
 |_=>false
theorem Al3(h:isN o=true):o=some none:=by
 unfold isN at h;split at h
 .rfl
 .cases h
noncomputable def Aoa(K:aF)(C:aQ):Bool:=(qI K C).isSome&&isB (dH K (.ref C) "__getattribute__") "BaseException.__getattribute__"&&isN (dH K (.ref C) "__getattr__")&&
 isB (dH K (.ref C) "__class__") "object.__class__"&&decide (jY K C (.type "BaseException")=some true)&&decide (jY K C (.type "object")=some true)
theorem Aob{K:aF}{C:aQ}(h:Aoa K C=true):Te K C:=by
 unfold Aoa at h;simp only[aC,decide_eq_true_eq] at h;obtain⟨⟨⟨⟨⟨a,b⟩,c⟩,d⟩,e⟩,f⟩:=h;exact⟨a,Ahd b,Al3 c,Ahd d,e,f⟩
def Al4(v:aJ)(n:String):Bool:=match v with
 |.type m=>m==n
 |_=>false
theorem V9(h:Al4 v n=true):v=.type n:=by
 unfold Al4 at h;split at h
 .rw[eq_of_beq h]
 .cases h
def refs(l:List aJ):Bool:=l.all λa=>match a with|.ref _=>true|_=>false
noncomputable def Bf8(n:Nat)(l:List aJ):Bool:=refs (l.take n)&&(match l.drop n with
 |[a,b,c,d]=>Al4 a "ValueError"&&Al4 b "Exception"&&Al4 c "BaseException"&&Al4 d "object"
 |_=>false)
theorem Azy{n:Nat}(h:Bf8 n l=true):∃own,l=own ++ Ab7/\refs own=true:=by
 unfold Bf8 at h;rw[aC] at h;refine⟨l.take n,?_,h.1⟩;have h2:=h.2;split at h2
 .rename_i a b c d e;simp only[aC] at h2;obtain⟨⟨⟨q1,q2⟩,q3⟩,q4⟩:=h2;rw[V9 q1,V9 q2,V9 q3,V9 q4] at e;exact(nR n l).symm.trans (by rw[e])
 .cases h2
def xsB(K:aF)(C:aQ)(f:Str):Bool:=(match qI K C with
 |some cd=>Bf8 (cd.mro.length - 4) cd.mro&&cd.hasDict
 |none=>false)&&isB (dH K (.ref C) "__setattr__") "object.__setattr__"&&isN (dH K (.ref C) f)&&decide (jY K C (.type "object")=some true)
theorem Bjt{K:aF}{C:aQ}{f:Str}(h:xsB K C f=true):XsK K C f:=by
 unfold xsB at h;simp only[aC,decide_eq_true_eq] at h;obtain⟨⟨⟨a,b⟩,c⟩,d⟩:=h;refine⟨?_,Ahd b,Al3 c,d⟩;split at a
 .rename_i cd e;rw[aC] at a;obtain⟨own,h1,h2⟩:=Azy a.1;exact⟨cd,own,e,h1,h2,a.2⟩
 .cases a
noncomputable def xbB(K:aF)(B:aQ):Bool:=isB (pZ K (.ref B) "__getattribute__") "type.__getattribute__"&&xO K B (.type "type")&&(match xP K (.ref B) (.type "type") "__init__" with
 |some (.val (.builtin m))=>m=="ValueError.__init__"
 |_=>false)
theorem Bju{K:aF}{B:aQ}(h:xbB K B=true):XbK K B:=by
 unfold xbB at h;simp only[aC] at h;obtain⟨⟨a,b⟩,c⟩:=h;refine⟨Ahd a,b,?_⟩;split at c
 .rename_i m e;rw[e,eq_of_beq c]
 .cases c
def Bf9(K:aF)(f:aQ):Bool:=match lQ K (.ref f) with
 |some v=>Al4 v "function"
 |none=>false
theorem Azz{K:aF}{f:aQ}(h:Bf9 K f=true):lQ K (.ref f)=some (.type "function"):=by
 unfold Bf9 at h;split at h
 .rename_i v e;rw[e,V9 h]
 .cases h
noncomputable def Aoc(K:aF)(cs:List aQ)(L:List (Nat×Nat×Bool)):Bool:=L.all λt=>decide (gR K (.ref (addrs cs t.1)) (.ref (addrs cs t.2.1))=some t.2.2)
noncomputable def Au0(K:aF)(cs:List aQ)(L:List Nat):Bool:=L.all λc=>Aoa K (addrs cs c)&&decide (gR K (.ref (addrs cs c)) (.type "ValueError")=some true)
noncomputable def Au1(N:List (Nat×Nat×Bool))(L:List Nat)(c:Nat):W->Option Bool
 |.cls k=>if L.contains c then (N.find? λt=>t.1==c&&t.2.1==k).map (·.2.2) else none
 |.ty n=>if n=="ValueError"&&L.contains c then some true else none
 |_=>none
theorem Bga{xf:Nat->Option Str}{K:aF}{cs:List aQ}{l:aQ}{ns:List Int}{N:List (Nat×Nat×Bool)}{L:List Nat}(h1:Aoc K cs N=true)(h2:Au0 K cs L=true):Afl (Aux K (addrs cs) l ns xf) (Au1 N L):=⟨λc k b h=>by
 have ek:∀c,L.contains c=true->Te K (addrs cs c)/\gR K (.ref (addrs cs c)) (.type "ValueError")=some true:=λc hc=>by
  have z:=cG.mp h2 c (by simpa using hc)
  rw[aC] at z;exact⟨Aob z.1,of_decide_eq_true z.2⟩
 unfold Au1 at h;split at h
 .rename_i k;split at h
  .rename_i hc;obtain⟨t,ht,rfl⟩:=cF.mp h;have hm:=List.mem_of_find?_eq_some ht;have hp:=List.find?_some ht;rw[aC] at hp;have e1:t.1=c:=by simpa using hp.1
   have e2:t.2.1=k:=by simpa using hp.2
   have z:=of_decide_eq_true (cG.mp h1 t hm);rw[e1,e2] at z;exact⟨(ek c hc).1,_,rfl,z⟩
  .cases h
 .split at h
  .rename_i n hc;rw[aC] at hc;have e:n="ValueError":=by simpa using hc.1
   subst e;cases h;exact⟨(ek c hc.2).1,_,rfl,(ek c hc.2).2⟩
  .cases h
 .cases h⟩
noncomputable def Au2(K:aF)(cs:List aQ)(L:List (Nat×Str)):Bool:=L.all λp=>Aoa K (addrs cs p.1)&&pY K (addrs cs p.1)&&isN (dH K (.ref (addrs cs p.1)) p.2)
theorem mem_lookup{α:Type}{c:Nat}{f:α}:∀{L:List (Nat×α)},L.lookup c=some f->(c,f)∈L
 |[],h=>by cases h
 |(d,g)::L,h=>by
  rw[eV] at h;split at h
  .rename_i e;cases h;rw[eq_of_beq e];exact aH
  .exact aM _ (mem_lookup h)
theorem Bgb{K:aF}{cs:List aQ}{l:aQ}{ns:List Int}{X:List (Nat×Str)}(hx:Au2 K cs X=true):FOk (Aux K (addrs cs) l ns λc=>X.lookup c) (λb c f=>b&&X.lookup c==some f):=λc f hc=>by
 have e:X.lookup c=some f:=eq_of_beq hc;have z:=cG.mp hx (c,f) (mem_lookup e);rw[aC,aC] at z;exact⟨e,Aob z.1.1,z.1.2,Al3 z.2⟩
noncomputable def Aod(K:aF)(cs:List aQ)(L:List (Nat×Nat)):Bool:=L.all λt=>decide (jN K (.ref (addrs cs t.2)) (.ref (addrs cs t.1))=some true)
theorem Bgc{K:aF}{cs:List aQ}{L:List (Nat×Nat)}(h:Aod K cs L=true)(k c:Nat)(hc:L.contains (k,c)=true):jN K (.ref (addrs cs c)) (.ref (addrs cs k))=some true:=
 of_decide_eq_true (cG.mp h (k,c) (by simpa using hc))
def Fe(K:aF)(mg:Str->Option aJ)(x:Str)(st:dG)(_:List Str):Prop:=∃(f:aQ)(kV dc pm:aJ)(an:Option aQ)(cd ct:aJ),Fun K x x st f (dD x x (Fw st) (Ax st) (Am st) .none kV dc pm an cd ct)/\mg x=some (.ref f)
section
variable{K:aF}{mg:Str->Option aJ}{h:dN}{x q:Str}{st:dG}{ps:List Str}{f c:aQ}{oc kV dc pm cd ct:aJ}{od an:Option aQ}{sl:Array (Option aJ)}
theorem Dt(X:K.In h)(G:h.Ns mainGlobals mg)(a:bL K mainGlobals x=some (some (.ref f)))(b:K.lookup f=some ⟨oc,od,.func (dD x x (Fw st) (Ax st) (Am st) .none kV dc pm an cd ct),sl⟩)(d:lJ K cd x=true)(e:fM K (.ref f)=true):Fe K mg x st ps:=
 ⟨f,kV,dc,pm,an,cd,ct,Alc b d e,bQ X G a⟩
end
structure TU(Θ:Th)(m:Md)(P:cP)(w:dO)(K:aF)(mg:Str->Option aJ)(base:dN)(k:Nat)(T:List (Str×Fi)):Prop where
 t:Tbl Θ P w K mg base k T
 i:XiT Θ m P w K mg base 1
 j:1 < k
 m:m.Ok Θ K mg
section
variable{Θ:Th}{m:Md}{P:cP}{w:dO}{K:aF}{mg:Str->Option aJ}{base:dN}{k:Nat}{T:List (Str×Fi)}{x q:Str}{st:dG}{N ps:List Str}{b:MS}{f:aQ}{fd:eO}{c:Nat}
def Bl2(e:Dw (Ax st) (m.gm T N (Am st))=b)(h:TU Θ m P w K mg base k T)(d:Pk K mg x st ps f fd)(Sc:Hf N ps (Am st):=by exact⟨rfl,rfl,rfl,by decide +kernel,rfl,by decide +kernel,by decide +kernel⟩):Io P w K mg base (CXo P w) (k+2) f fd ps (spF Θ (Dh ps.length N.length b)) true:=h.t.fn h.i h.j h.m d Sc e
theorem Bjv(e:Dw (Ax st) (m.gm T N (Am st))=b)(h:TU Θ m P w K mg base k T)(d:Pk K mg x st ps f fd)(hv:Gb _root_.D.Gr dv=some dvs)(hd:Vals dvs ds)(hb:Binds K fd ps ds)(Sc:Hf N ps (Am st):=by exact⟨rfl,rfl,rfl,by decide +kernel,rfl,by decide +kernel,by decide +kernel⟩):TU Θ m P w K mg base (k+2) ((x,⟨Dh ps.length N.length b,ps.length,dv⟩)::T):=
 ⟨h.t.cons h.i h.j h.m d Sc hv hd hb e,h.i,Nat.lt_add_right 2 h.j,h.m⟩
theorem al0{p:List aJ->Prop}(f:p [])(us:List aJ)(h:us.length=0):p us:=by
 cases us;exact f;cases h
theorem alS{p:List aJ->Prop}{n:Nat}(f:∀x us,us.length=n->p (x::us))(us:List aJ)(h:us.length=n+1):p us:=by
 cases us;cases h;exact f _ _ (vX h)
theorem Bgd{us:List aJ}(h:us.length=1):∃a,us=[a]:=by
 cases us with
 |nil=>cases h
 |cons a us=>cases us with
  |nil=>exact⟨a,rfl⟩
  |cons=>cases h
theorem Bjw{us:List aJ}(h:us.length=2):∃a b,us=[a,b]:=by
 cases us with
 |nil=>cases h
 |cons a us=>
  obtain⟨b,rfl⟩:=Bgd (vX h);exact⟨a,b,rfl⟩
theorem Bl3{us:List aJ}(h:us.length=3):∃a b c,us=[a,b,c]:=by
 cases us with
 |nil=>cases h
 |cons a us=>
  obtain⟨b,c,rfl⟩:=Bjw (vX h);exact⟨a,b,c,rfl⟩
theorem Ex(e:Dw (Ax st) (m.gm T N (Am st))=b)(h:TU Θ m P w K mg base k T)(d:Fe K mg x st ps)(Sc:Hf N ps (Am st):=by exact⟨rfl,rfl,rfl,by decide +kernel,rfl,by decide +kernel,by decide +kernel⟩)(hb:∀(kV dc pm:aJ)(an:Option aQ)(cd ct:aJ)(us:List aJ),us.length=ps.length->bindArgs (dD x x (Fw st) (Ax st) (Am st) .none kV dc pm an cd ct) ⟨us,[]⟩=pure (ps.zip us):=by intro _ _ _ _ _ _;(repeat refine alS λ_=>?_);exact al0 rfl):
  TU Θ m P w K mg base (k+2) ((x,⟨Dh ps.length N.length b,ps.length,[]⟩)::T):=by
 obtain⟨f,kV,dc,pm,an,cd,ct,F,hm⟩:=d;have B:Binds K (dD x x (Fw st) (Ax st) (Am st) .none kV dc pm an cd ct) ps []:=Ail (hb kV dc pm an cd ct);exact Bjv e h ⟨F,hm,B⟩ rfl .nil B Sc
end
structure SP where
 p:Store->Prop
 st:∀S G:Store,p S->p (S ++ G)
def SP.any:SP:=⟨λ_=>True,λ_ _ h=>h⟩
def AtL(n:Nat)(ws:List W)(S:Store):Prop:=S[n]?=some (.lst ws)
theorem AtL.app{n:Nat}(h:AtL n ws S)(G:Store):AtL n ws (S ++ G):=by
 unfold AtL at h ⊢
 rw[aY (aL.mp h).1];exact h
def SP.at(P:SP)(n:Nat)(ws:List W):SP:=⟨λS=>P.p S/\AtL n ws S,λS G h=>⟨P.st S G h.1,h.2.app G⟩⟩
def Pu{α:Type}(P:SP)(m:M α)(a:α):Prop:=∀S:Store,P.p S->∃G:Store,m S=.ok a (S ++ G)
def PuX{α:Type}(P:SP)(m:M α)(c:Nat×W):Prop:=∀S:Store,P.p S->∃G:Store,m S=.exc c (S ++ G)
def PuL(P:SP)(m:M W)(ws:List W):Prop:=∀S:Store,P.p S->∃(G:Store)(n:Nat),m S=.ok (.ref n) (S ++ G)/\(S ++ G)[n]?=some (.lst ws)/\S.length<=n
def PuN(P:SP)(b:MS)(Z Z':De):Prop:=∀S:Store,P.p S->∃G:Store,b Z S=.nx Z' (S ++ G)
def PuR(P:SP)(b:MS)(Z:De)(w:W):Prop:=∀S:Store,P.p S->∃G:Store,b Z S=.rt w (S ++ G)
def PuE(P:SP)(b:MS)(Z:De)(c:Nat×W):Prop:=∀S:Store,P.p S->∃(G:Store)(Z':De),b Z S=.ex c Z' (S ++ G)
section
variable{P:SP}{α β:Type}{m:M α}{f:α->M β}{a:α}{b:β}{c:Nat×W}{Z Z' Z1:De}{w x y z:W}{ws us:List W}
def Bp(S:Store):(m >>= f) S=match m S with|.ok a S1=>f a S1|.exc c S1=>.exc c S1|.bad=>.bad:=rfl
theorem Pu.pure:Pu P (pure a:M α) a:=λS _=>⟨[],by rw[bJ];rfl⟩
theorem Pu.bind(h:Pu P m a)(k:Pu P (f a) b):Pu P (m >>= f) b:=λS hS=>by
 obtain⟨G,e⟩:=h S hS;obtain⟨G',e'⟩:=k (S ++ G) (P.st _ _ hS);exact⟨G ++ G',by rw[Bp,e];simp only[e',aO]⟩
theorem Pu.bindX(h:Pu P m a)(k:PuX P (f a) c):PuX P (m >>= f) c:=λS hS=>by
 obtain⟨G,e⟩:=h S hS;obtain⟨G',e'⟩:=k (S ++ G) (P.st _ _ hS);exact⟨G ++ G',by rw[Bp,e];simp only[e',aO]⟩
def Pu.cast{a':α}(h:Pu P m a)(e:a=a'):Pu P m a':=e ▸ h
variable{P:SP}{f g h:De->M W}{gs:De->M (List W)}{t u:De->M Bool}{s:List W->M W}{i:Nat}{ns:List Int}
def Ad:Pu P (kF w Z) w:=Pu.pure
theorem Af(e:Z[i]?=some (some w)):Pu P (Ab i Z) w:=λS _=>⟨[],by unfold Ab;rw[e,bJ];rfl⟩
def Ac:Pu P (nilF Z) []:=Pu.pure
def Aa(h1:Pu P (f Z) w)(h2:Pu P (gs Z) ws):Pu P (Ci f gs Z) (w::ws):=h1.bind (h2.bind Pu.pure)
def Ae(h1:Pu P (gs Z) ws)(h2:Pu P (s ws) w):Pu P (Cp s gs Z) w:=h1.bind h2
def Au3(h1:Pu P (gs Z) ws)(h2:PuX P (s ws) c):PuX P (Cp s gs Z) c:=h1.bindX h2
def Aj(h1:Pu P (f Z) x)(h2:Pu P (g Z) y)(h3:Pu P (o.fn x y) z):Pu P (Ai o f g Z) z:=h1.bind (h2.bind h3)
def Ah(h1:Pu P (f Z) x)(h2:Pu P (g Z) y)(h3:Pu P (Fx op x y) z):Pu P (Cq op f g Z) z:=h1.bind (h2.bind h3)
def Bk(h1:Pu P (f Z) (.bl true))(h2:Pu P (g Z) w):Pu P (Ew f g Z) w:=h1.bind h2
def Bo(h1:Pu P (f Z) (.bl false)):Pu P (Ew f g Z) (.bl false):=h1.bind Pu.pure
theorem Au4(h1:Pu P (f Z) (.bl p))(h2:p=true->Pu P (g Z) (.bl q)):Pu P (Ew f g Z) (.bl (p&&q)):=by
 cases p
 .exact Bo h1
 .exact Bk h1 (h2 rfl)
def Al5(h1:Pu P (f Z) (.bl p)):Pu P (Atq f Z) (.bl (!p)):=h1.bind Pu.pure
def Ag(h1:Pu P (f Z) (.bl p)):Pu P (Bf f Z) p:=h1.bind Pu.pure
theorem Dj(h1:Pu P (gs Z) ws)(hl:ws.length<=big):Pu P (Cm gs Z) (.tup ws):=h1.bind (by unfold Ag1;rw[if_pos hl];exact Pu.pure)
theorem Ge(h1:Pu P (gs Z) ws)(hl:ws.length<=big):PuL P (Ef gs Z) ws:=λS hS=>by
 obtain⟨G,e⟩:=h1 S hS;refine⟨G ++ [.lst ws],(S ++ G).length,?_,?_,by rw[aK];omega⟩
 .unfold Ef;rw[Bp,e];dsimp only;unfold Ck;rw[if_pos hl,aO]
 .rw[<-aO,bC (aN _),eG];rfl
end
section
variable{P:SP}{b b':MS}{Z Z' Z1:De}{w:W}{c:Nat×W}{f:De->M W}{t:De->M Bool}{i k n:Nat}{gs:De->M (List W)}{ws:List W}
theorem Ar:PuN P Aw Z Z:=λS _=>⟨[],by rw[bJ];rfl⟩
theorem Nt(h1:PuN P b Z Z1)(h2:PuN P b' Z1 Z'):PuN P (An b b') Z Z':=λS hS=>by
 obtain⟨G,e⟩:=h1 S hS;obtain⟨G',e'⟩:=h2 (S ++ G) (P.st _ _ hS);exact⟨G ++ G',by unfold An;rw[e];simp only[e',aO]⟩
theorem Ca(h1:PuN P b Z Z1)(h2:PuR P b' Z1 w):PuR P (An b b') Z w:=λS hS=>by
 obtain⟨G,e⟩:=h1 S hS;obtain⟨G',e'⟩:=h2 (S ++ G) (P.st _ _ hS);exact⟨G ++ G',by unfold An;rw[e];simp only[e',aO]⟩
theorem Bge(h1:PuN P b Z Z1)(h2:PuE P b' Z1 c):PuE P (An b b') Z c:=λS hS=>by
 obtain⟨G,e⟩:=h1 S hS;obtain⟨G',Z2,e'⟩:=h2 (S ++ G) (P.st _ _ hS);exact⟨G ++ G',Z2,by unfold An;rw[e];simp only[e',aO]⟩
theorem Aq(h1:PuR P b Z w):PuR P (An b b') Z w:=λS hS=>by
 obtain⟨G,e⟩:=h1 S hS;exact⟨G,by unfold An;rw[e]⟩
theorem Wa(h1:PuE P b Z c):PuE P (An b b') Z c:=λS hS=>by
 obtain⟨G,Z2,e⟩:=h1 S hS;exact⟨G,Z2,by unfold An;rw[e]⟩
theorem Bx(h:Pu P (f Z) w):PuN P (Br i f) Z (Z.set i (some w)):=λS hS=>by
 obtain⟨G,e⟩:=h S hS;exact⟨G,by unfold Br Er;rw[e]⟩
theorem Ao(h:Pu P (f Z) w):PuR P (retS f) Z w:=λS hS=>by
 obtain⟨G,e⟩:=h S hS;exact⟨G,by unfold retS Er;rw[e]⟩
theorem Az0(h:PuX P (f Z) c):PuE P (Br i f) Z c:=λS hS=>by
 obtain⟨G,e⟩:=h S hS;exact⟨G,Z,by unfold Br Er;rw[e]⟩
theorem Au5(h:Pu P (f Z) w):PuN P (G4 f) Z Z:=λS hS=>by
 obtain⟨G,e⟩:=h S hS;exact⟨G,by unfold G4 Er;rw[e]⟩
theorem Aql(e:t Z S=.ok true S1)(h:b Z S1=r):ifS t b b' Z S=r:=by unfold ifS Er;rw[e];exact h
theorem Au6(e:t Z S=.ok false S1)(h:b' Z S1=r):ifS t b b' Z S=r:=by unfold ifS Er;rw[e];exact h
theorem Bjx(h1:Pu P (t Z) true)(h2:PuN P b Z Z'):PuN P (ifS t b b') Z Z':=λS hS=>by
 obtain⟨G,e⟩:=h1 S hS;obtain⟨G',e'⟩:=h2 (S ++ G) (P.st _ _ hS);exact⟨G ++ G',Aql e (by rw[e',aO])⟩
theorem Bjy(h1:Pu P (t Z) false)(h2:PuN P b' Z Z'):PuN P (ifS t b b') Z Z':=λS hS=>by
 obtain⟨G,e⟩:=h1 S hS;obtain⟨G',e'⟩:=h2 (S ++ G) (P.st _ _ hS);exact⟨G ++ G',Au6 e (by rw[e',aO])⟩
theorem Bjz(h1:Pu P (t Z) true)(h2:PuR P b Z w):PuR P (ifS t b b') Z w:=λS hS=>by
 obtain⟨G,e⟩:=h1 S hS;obtain⟨G',e'⟩:=h2 (S ++ G) (P.st _ _ hS);exact⟨G ++ G',Aql e (by rw[e',aO])⟩
theorem Bj0(h1:Pu P (t Z) true)(h2:PuE P b Z c):PuE P (ifS t b b') Z c:=λS hS=>by
 obtain⟨G,e⟩:=h1 S hS;obtain⟨G',Z2,e'⟩:=h2 (S ++ G) (P.st _ _ hS);exact⟨G ++ G',Z2,Aql e (by rw[e',aO])⟩
theorem Aqm(h:Pu P (gs Z) ws)(hl:ws.length<=big):PuE P (Qp k gs) Z (k,.non):=λS hS=>by
 obtain⟨G,e⟩:=h S hS;exact⟨G,Z,by unfold Qp Er;rw[e];exact if_pos hl⟩
theorem Vl(h:Pu P (gs Z) (w::us))(hl:us.length+dv.length=1):PuE P (Nq k dv gs) Z (k,w):=λS hS=>by
 obtain⟨G,e⟩:=h S hS;exact⟨G,Z,by unfold Nq Er;rw[e];exact if_pos hl⟩
theorem Be(hl:ws.length=k)(h:PuR P b (Bq n ws) w):Pu P (Dh k n b ws) w:=λS hS=>by
 obtain⟨G,e⟩:=h S hS;exact⟨G,by unfold Dh;rw[if_pos hl,e]⟩
theorem Wc(hl:ws.length=k)(h:PuE P b (Bq n ws) c):PuX P (Dh k n b ws) c:=λS hS=>by
 obtain⟨G,Z2,e⟩:=h S hS;exact⟨G,by unfold Dh;rw[if_pos hl,e]⟩
theorem Sd:PuN P (Jh s b []) Z Z:=λS _=>⟨[],by rw[bJ];rfl⟩
theorem J5(hs:s w Z=some Z1)(h1:PuN P b Z1 Z2)(h2:PuN P (Jh s b ws) Z2 Z'):PuN P (Jh s b (w::ws)) Z Z':=λS hS=>by
 obtain⟨G,e⟩:=h1 S hS;obtain⟨G',e'⟩:=h2 (S ++ G) (P.st _ _ hS);exact⟨G ++ G',by unfold Jh;rw[hs];dsimp only;rw[e];dsimp only;rw[e',aO]⟩
theorem Nu(h1:Pu P (src Z) (.fix ws))(h2:PuN P (Jh s b ws) Z Z'):PuN P (My src s b) Z Z':=λS hS=>by
 obtain⟨G,e⟩:=h1 S hS;obtain⟨G',e'⟩:=h2 (S ++ G) (P.st _ _ hS);exact⟨G ++ G',by unfold My Er;rw[e];dsimp only;rw[e',aO]⟩
end
section
variable{P:SP}{Z:De}{cs:De}{t:De->M Bool}{e:De->M W}{f:W->W}{ws:List W}
theorem Qu{α:Type}{m:M α}{a:α}(h:Pu P m a):Pu P (noX m) a:=λS hS=>by
 obtain⟨G,e⟩:=h S hS;exact⟨G,by unfold noX;rw[e]⟩
theorem Aiv{β:Type}{xs:List β}{φ ψ:β->W}(he:∀x,x∈xs->Pu P (t (some (φ x)::cs)) true/\Pu P (e (some (φ x)::cs)) (ψ x)):∀(d:Option W)(acc:List W),acc.length+xs.length<=big->Pu P (Ie (Bg 0) t e (xs.map φ) (d::cs) acc) (acc ++ xs.map ψ):=by
 induction xs with
 |nil=>intro d acc _ S _;exact⟨[],by simp[Ie];rfl⟩
 |cons x xs ih=>
  intro d acc hl;rw[aU] at hl;have h1:=(he x aH);have h2:=ih (λx' hx=>he x' (aM _ hx)) (some (φ x)) (acc ++ [ψ x]) (by rw[aK,cC];omega)
  rw[aG,aG];rw[aO,List.singleton_append] at h2;intro S hS;have:=(Qu h1.1).bind (f:=λb=>if b=true then noX (e (some (φ x)::cs)) >>= λy=>if acc.length < big then Ie (Bg 0) t e (xs.map φ) (some (φ x)::cs) (acc ++ [y]) else bad else Ie (Bg 0) t e (xs.map φ) (some (φ x)::cs) acc) (b:=acc ++ ψ x::xs.map ψ) (by
   rw[if_pos rfl];refine(Qu h1.2).bind ?_;rw[if_pos (by omega)]
   exact h2)
  exact this S hS
end
section
variable{P:SP}{Z:De}{t u:De->M Bool}{f g h:De->M W}{p q:Bool}{i j:Int}{x y z:Str}{ns:List Int}{w v o:W}{ws:List W}{k:Nat}
def Az(h1:Pu P (t Z) p):Pu P (Ea t Z) (!p):=h1.bind Pu.pure
theorem Ej(h1:Pu P (t Z) p)(h2:Pu P (u Z) q):Pu P (orT t u Z) (p||q):=h1.bind (by
 cases p
 .rw[if_neg bH];exact h2
 .exact Pu.pure)
theorem Nv(h1:Pu P (t Z) p)(h2:Pu P (u Z) q):Pu P (Vj t u Z) (p&&q):=h1.bind (by
 cases p
 .exact Pu.pure
 .rw[if_pos rfl];exact h2)
def Gf(h1:Pu P (f Z) (.bl p))(h2:Pu P (g Z) (.bl q)):Pu P (Ew f g Z) (.bl (p&&q)):=Au4 h1 λ_=>h2
def M5:Pu P (Fx .Lt (.int i) (.int j)) (.bl (decide (i < j))):=Pu.pure
def Ht:Pu P (Fx .LtE (.int i) (.int j)) (.bl (decide (i<=j))):=Pu.pure
def Ji:Pu P (Fx .Gt (.int i) (.int j)) (.bl (decide (j < i))):=Pu.pure
def Di:Pu P (Bop.fn .add (.int i) (.int j)) (.int (i+j)):=Pu.pure
def Sg:Pu P (Bop.fn .sub (.int i) (.int j)) (.int (i - j)):=Pu.pure
theorem Lw{α:Type}[Decidable c]{m n:M α}{a:α}(hc:c)(h:Pu P m a):Pu P (if c then m else n) a:=by rw[if_pos hc];exact h
def Dl(hl:x.length+y.length<=big):Pu P (Bop.fn .add (.str x) (.str y)) (.str (x ++ y)):=Lw hl Pu.pure
def Kf(hs:(small i||small j)=true):Pu P (Bop.fn .mul (.int i) (.int j)) (.int (i * j)):=Lw hs Pu.pure
def Al6(hj:0<=j):Pu P (Bop.fn .shr (.int i) (.int j)) (.int (i / 2 ^ j.toNat)):=Lw hj Pu.pure
def Aqn:Pu P (Bop.fn .and (.int i) (.int j)) (.int (mZ i j)):=Pu.pure
def Cd(hj:0 < j:=by decide):Pu P (Bop.fn .mod (.int i) (.int j)) (.int (i % j)):=Lw hj Pu.pure
theorem Cu(h1:0 < j:=by decide)(h2:j < 1073741824:=by decide):Pu P (Bop.fn .fdiv (.int i) (.int j)) (.int (i / j)):=Lw (by rw[decide_eq_true h1,decide_eq_true h2];rfl) Pu.pure
theorem Bj1{k:Nat}(hk:k<=big):-(2 ^ 62)<=(k:Int)/\(k:Int) < 2 ^ 62:=by
 have h:(k:Int)<=1000000:=Int.ofNat_le.mpr hk;have h2:(0:Int)<=k:=mR k;have e:(2:Int) ^ 62=4611686018427387904:=by decide +kernel
 rw[e];omega
theorem Au7(hk:k<=big):Fj [.int (k:Int)]=pure (.fix ((bR k).map λ(k:Nat)=>W.int ((0:Int)+(k:Int)))):=by
 unfold Fj;dsimp only;rw[if_pos (Bj1 hk),cV]
theorem J1(h1:Pu P (gs Z) [.int (k:Int)])(hk:k<=big):Pu P (J4 Fj gs Z) (.fix ((bR k).map λ(k:Nat)=>W.int ((0:Int)+(k:Int)))):=by
 refine Pu.bind h1 ?_;rw[Au7 hk];exact Pu.pure
theorem Ff:Pu P (Fx .Eq (.int i) (.int j)) (.bl (i==j)):=λS _=>⟨[],by rw[bJ];rfl⟩
theorem Jp:Pu P (Fx .NotEq (.int i) (.int j)) (.bl (!(i==j))):=λS _=>⟨[],by rw[bJ];rfl⟩
theorem Al7(h:cY x=true):cO (.str x)=true:=by
 show (cY x&&decide (PyData.depth (.str x)<=64))=true;rw[h];rfl
def Bl4(hx:cY x=true)(hy:cY y=true):Pu P (Fx .Eq (.str x) (.str y)) (.bl (x==y)):=Pu.pure
def Bc:Pu P (Fx .Eq (.str x) (.str y)) (.bl (x==y)):=Pu.pure
def Vm:Pu P (Fx .NotEq (.str x) (.str y)) (.bl (!(x==y))):=Pu.pure
def Al8:Pu P (Fx .Lt (.str x) (.str y)) (.bl (Ib x y)):=Pu.pure
theorem Iu{op op':sS}{x y u:W}(h1:Pu P (f Z) x)(h2:Pu P (g Z) y)(h3:Pu P (Fx op x y) (.bl p))(h4:Pu P (h Z) u)(h5:Pu P (Fx op' y u) (.bl q)):Pu P (Jo op op' f g h Z) (.bl (p&&q)):=by
 refine h1.bind (h2.bind (h3.bind ?_));cases p
 .exact Pu.pure
 .exact h4.bind h5
def Av(h1:Pu P (f Z) o)(h2:Pu P (g Z) v)(h3:Pu P (ixW ns o v) w):Pu P (ixF ns f g Z) w:=h1.bind (h2.bind h3)
end
section
variable{P:SP}{b b':MS}{Z Z':De}{w:W}{c:Nat×W}{t:De->M Bool}{p:Bool}
def Dp(h1:Pu P (t Z) p)(hp:p=false)(h2:PuN P b' Z Z'):PuN P (ifS t b b') Z Z':=Bjy (hp ▸ h1) h2
def Bgf(h1:Pu P (t Z) p)(hp:p=true)(h2:PuN P b Z Z'):PuN P (ifS t b b') Z Z':=Bjx (hp ▸ h1) h2
def Ed(h1:Pu P (t Z) p)(hp:p=true)(h2:PuR P b Z w):PuR P (ifS t b b') Z w:=Bjz (hp ▸ h1) h2
def Az1(h1:Pu P (t Z) p)(hp:p=true)(h2:PuE P b Z c):PuE P (ifS t b b') Z c:=Bj0 (hp ▸ h1) h2
end
section
variable{P:SP}{Z cs:De}{f:De->M W}{ws:List W}{w:W}{ns:List Int}{op:List W->M W}{mop:W->List W->M W}{z:Str}
theorem Aoe(h:Pu P m ws)(hl:ws.length<=big):PuL P (m >>= Ck) ws:=λS hS=>by
 obtain⟨G,e⟩:=h S hS;refine⟨G ++ [.lst ws],(S ++ G).length,?_,?_,by rw[aK];omega⟩
 .rw[Bp,e];dsimp only;unfold Ck;rw[if_pos hl,aO]
 .rw[<-aO,bC (aN _),eG];rfl
theorem Qv{α:Type}{m:M α}{a:α}{g:α->M W}(h:Pu P m a)(k:PuL P (g a) ws):PuL P (m >>= g) ws:=λS hS=>by
 obtain⟨G,e⟩:=h S hS;obtain⟨G',n,e',hn,hf⟩:=k (S ++ G) (P.st _ _ hS);exact⟨G ++ G',n,by rw[Bp,e];simp only[e',aO],by rw[<-aO];exact hn,by rw[aK] at hf;omega⟩
def Ajk(h1:Pu P (gs Z) us)(h2:PuL P (s us) ws):PuL P (Cp s gs Z) ws:=Qv h1 h2
theorem Es{β:Type}{xs:List β}{φ ψ:β->W}{cap:List Nat}(h1:Pu P (src Z) (.fix (xs.map φ)))(hc:K4 1 cap Z=none::cs)(hl:xs.length<=big)(he:∀x,x∈xs->Pu P (t (some (φ x)::cs)) true/\Pu P (e (some (φ x)::cs)) (ψ x)):PuL P (Bt 1 cap src (Bg 0) t e Z) (xs.map ψ):=by
 refine Qv h1 ?_;show PuL P (Ie (Bg 0) t e (xs.map φ) (K4 1 cap Z) [] >>= Ck) _;rw[hc];refine Aoe ?_ (by rw[aA];exact hl)
 have:=Aiv he none [] (by simpa using hl)
 simpa using this
theorem Abp(h:PuL P (f Z) ws)(ho:∀(n:Nat)(S:Store),S[n]?=some (.lst ws)->∃G,op [.ref n] S=.ok w (S ++ G)):Pu P (Cp op (Ci f nilF) Z) w:=λS hS=>by
 obtain⟨G,n,e,hn,_⟩:=h S hS;obtain⟨G',e'⟩:=ho n (S ++ G) hn;refine⟨G ++ G',?_⟩;unfold Cp Ci nilF;rw[Bp,Bp,e];dsimp only;rw[Bp];show op [.ref n] (S ++ G)=_;rw[e',aO]
theorem Aof:∀bs:List Bool,Gb Ayv (bs.map W.bl)=some bs
 |[]=>rfl
 |b::bs=>by rw[aG,Gb,Aof bs];rfl
theorem Ajl:∀bs:List Int,Gb asInt (bs.map W.int)=some bs
 |[]=>rfl
 |b::bs=>by rw[aG,Gb,Ajl bs];rfl
theorem Acs:∀bs:List Str,Gb asStr (bs.map W.str)=some bs
 |[]=>rfl
 |b::bs=>by rw[aG,Gb,Acs bs];rfl
theorem K6{bs:List Bool}(h:PuL P (f Z) (bs.map W.bl)):Pu P (Cp Jm (Ci f nilF) Z) (.bl (bs.all id)):=Abp h λn S e=>⟨[],by
 simp only[Jm,e,Aof,bJ]⟩
theorem Bgg{is:List Int}(h:PuL P (f Z) (is.map W.int)):Pu P (Cp Ai2 (Ci f nilF) Z) (.int is.sum):=Abp h λn S e=>⟨[],by
 simp only[Ai2,e,Ajl,bJ]⟩
theorem Au8(h:PuL P (f Z) ws):Pu P (Cp (Ep ns) (Ci f nilF) Z) (.tup ws):=Abp h λn S e=>⟨[],by
 simp only[Ep,e,bJ]⟩
theorem Az2(h:PuL P (f Z) (ys.map W.str))(hl:(ys.map (·.length)).sum+ys.length * z.length<=big):Pu P (Ke .str K1 (kF (.str z)) (Ci f nilF) Z) (.str (vR z ys)):=λS hS=>by
 obtain⟨G,n,e,hn,_⟩:=h S hS;refine⟨G,?_⟩;have e2:Ci f nilF Z S=.ok [.ref n] (S ++ G):=by unfold Ci nilF;rw[Bp,e];rfl
 have e3:Ke .str K1 (kF (.str z)) (Ci f nilF) Z S=(Ci f nilF Z >>= λws=>K1 (.str z) ws) S:=rfl;rw[e3,Bp,e2];simp only[K1,hn,Acs];exact if_pos hl
def Az3(hz:z.length<=big)(h:Pu P (f Z) (.str z)):Pu P (Cv ns f Z) (.fix (chars z)):=h.bind (Lw hz Pu.pure)
def Fg(h:Pu P (f Z) (.tup ws)):Pu P (Cv ns f Z) (.fix ws):=h.bind Pu.pure
end
structure Acu{β:Type}(s:Tg)(xs:List β)(φ:β->W)(Kd:De->Prop)(dx:β->De):Prop where
 set:∀x,x∈xs->∀Z,Kd Z->s (φ x) Z=some (dx x)
 kd:∀x,x∈xs->Kd (dx x)
def Aqo(P:SP){β:Type}(t:De->M Bool)(e:De->M W)(xs:List β)(dx:β->De)(τ:β->Bool)(ψ:β->W):Prop:=∀x,x∈xs->Pu P (t (dx x)) (τ x)/\(τ x=true->Pu P (e (dx x)) (ψ x))
section
variable{β:Type}{xs:List β}{φ ψ:β->W}{dx:β->De}{τ:β->Bool}
theorem Lx:Acu (Bg 0) xs φ (λZ=>∃d,Z=d::cs) (λx=>some (φ x)::cs):=⟨λx _ Z ⟨d,h⟩=>by subst h;rfl,λx _=>⟨_,rfl⟩⟩
theorem Au9{a b:β->W}:Acu (Aem [0,1]) xs (λx=>.tup [a x,b x]) (λZ=>∃d d',Z=d::d'::cs) (λx=>some (a x)::some (b x)::cs):=⟨λx _ Z ⟨d,d',h⟩=>by subst h;rfl,λx _=>⟨_,_,rfl⟩⟩
def Acu.tail{x:β}(h:Acu s (x::xs) φ Kd dx):Acu s xs φ Kd dx:=⟨λy hy=>h.set y (aM _ hy),λy hy=>h.kd y (aM _ hy)⟩
theorem Az4{P:SP}{t:De->M Bool}{e:De->M W}{x:β}{acc:List W}{k:List W->M (List W)}{r:List W}(h:Pu P (t (dx x)) (τ x)/\(τ x=true->Pu P (e (dx x)) (ψ x)))(hb:acc.length < big)(hk:Pu P (k (acc ++ ([x].filter τ).map ψ)) r):
  Pu P (noX (t (dx x)) >>= λb=>if b=true then noX (e (dx x)) >>= λy=>if acc.length < big then k (acc ++ [y]) else bad else k acc) r:=by
 refine(Qu h.1).bind ?_;cases ht:τ x with
 |false=>
  rw[if_neg bH];have:acc ++ ([x].filter τ).map ψ=acc:=by simp[ht]
  rw[this] at hk;exact hk
 |true=>
  rw[if_pos rfl];refine(Qu (h.2 ht)).bind ?_;rw[if_pos hb];have:acc ++ ([x].filter τ).map ψ=acc ++ [ψ x]:=by simp[ht]
  rw[this] at hk;exact hk
theorem Aqp{x:β}:acc ++ ([x].filter τ).map ψ ++ (xs.filter τ).map ψ=acc ++ ((x::xs).filter τ).map ψ:=by
 cases ht:τ x <;> simp[ht]
theorem Ava{x:β}:(acc ++ ([x].filter τ).map ψ).length<=acc.length+1:=by
 cases ht:τ x <;> simp[ht]
theorem Ahe(hs:Acu s xs φ Kd dx)(he:Aqo P t e xs dx τ ψ):∀(Z:De)(acc:List W),Kd Z->acc.length+xs.length<=big->Pu P (Ie s t e (xs.map φ) Z acc) (acc ++ (xs.filter τ).map ψ):=by
 induction xs with
 |nil=>intro Z acc _ _;simpa [Ie] using (Pu.pure (a:=acc))
 |cons x xs ih=>
  intro Z acc hd hl;rw[aU] at hl;have hx:=he x aH;have hk:=ih hs.tail (λy hy=>he y (aM _ hy)) (dx x) (acc ++ ([x].filter τ).map ψ) (hs.kd x aH) (by have:=Ava (τ:=τ) (ψ:=ψ) (x:=x) (acc:=acc);omega)
  rw[Aqp] at hk;rw[aG];unfold Ie;rw[hs.set x aH Z hd];exact Az4 (k:=λa=>Ie s t e (xs.map φ) (dx x) a) hx (by omega) hk
theorem Ahf{n:Nat}(hs:Acu s xs φ Kd dx)(he:Aqo P t e xs dx τ ψ):∀(m i:Nat)(Z:De)(acc:List W)(S:Store),S[n]?=some (.lst (xs.map φ))->P.p S->i+m=xs.length+1->i<=xs.length->Kd Z->acc.length+(xs.length - i)<=big->
  ∃G,Hn s t e n m i Z acc S=.ok (acc ++ ((xs.drop i).filter τ).map ψ) (S ++ G):=by
 intro m;induction m with
 |zero=>intro i Z acc S hn hS hi h2 hd hl;omega
 |succ m ih=>
  intro i Z acc S hn hS hi h2 hd hl;unfold Hn;simp only[hn];by_cases hx:i < xs.length
  .have hg:(xs.map φ)[i]?=some (φ xs[i]):=by rw[cB,aW hx];rfl
   simp only[hg];have hm:xs[i]∈xs:=lZ hx;rw[hs.set _ hm Z hd];dsimp only;have hb:acc.length < big:=by omega
   obtain⟨G1,e1⟩:=Qu (he _ hm).1 S hS;rw[Bp,e1];dsimp only;have dr:xs.drop i=xs[i]::xs.drop (i+1):=(eF hx);cases ht:τ xs[i] with
   |false=>
    rw[if_neg bH];obtain⟨G,e2⟩:=ih (i+1) (dx xs[i]) acc (S ++ G1) (by rw[aY (aL.mp hn).1];exact hn) (P.st _ _ hS) (by omega) (by omega) (hs.kd _ hm) (by omega)
    refine⟨G1 ++ G,?_⟩;rw[e2,dr,mG,ht,aO];rfl
   |true=>
    rw[if_pos rfl];obtain⟨G2,e2⟩:=Qu ((he _ hm).2 ht) (S ++ G1) (P.st _ _ hS);rw[Bp,e2];dsimp only;rw[if_pos hb];obtain⟨G,e3⟩:=ih (i+1) (dx xs[i]) (acc ++ [ψ xs[i]]) (S ++ G1 ++ G2) (by rw[aO,aY (aL.mp hn).1];exact hn) (P.st _ _ (P.st _ _ hS)) (by omega) (by omega) (hs.kd _ hm) (by rw[aK,cC];omega)
    refine⟨G1 ++ (G2 ++ G),?_⟩;rw[e3,dr,mG,ht];simp[aO]
  .have hg:(xs.map φ)[i]?=none:=by rw[dZ,aA];omega
   simp only[hg];refine⟨[],?_⟩;rw[gG (by omega)]
   simp
theorem Al9{gt:Store->Nat->Option (Option W)}(hs:Acu s xs φ Kd dx)(he:Aqo P t e xs dx τ ψ):∀(m i:Nat)(Z:De)(acc:List W)(S:Store),(∀(G:Store)(j:Nat),gt (S ++ G) j=some (xs[j]?.map φ))->P.p S->xs.length+1<=i+m->i<=xs.length->Kd Z->acc.length+(xs.length - i)<=big->
  ∃G,J9 s t e gt m i Z acc S=.ok (acc ++ ((xs.drop i).filter τ).map ψ) (S ++ G):=by
 intro m;induction m with
 |zero=>intro i Z acc S hn hS hi h2 hd hl;omega
 |succ m ih=>
  intro i Z acc S hn hS hi h2 hd hl;unfold J9;have hn0:=hn [] i;rw[bJ] at hn0;by_cases hx:i < xs.length
  .have hg:gt S i=some (some (φ xs[i])):=by rw[hn0,aW hx];rfl
   simp only[hg];have hm:xs[i]∈xs:=lZ hx;rw[hs.set _ hm Z hd];dsimp only;have hb:acc.length < big:=by omega
   obtain⟨G1,e1⟩:=Qu (he _ hm).1 S hS;rw[Bp,e1];dsimp only;have dr:xs.drop i=xs[i]::xs.drop (i+1):=(eF hx);cases ht:τ xs[i] with
   |false=>
    rw[if_neg bH];obtain⟨G,e2⟩:=ih (i+1) (dx xs[i]) acc (S ++ G1) (λG j=>by rw[aO];exact hn _ j) (P.st _ _ hS) (by omega) (by omega) (hs.kd _ hm) (by omega)
    refine⟨G1 ++ G,?_⟩;rw[e2,dr,mG,ht,aO];rfl
   |true=>
    rw[if_pos rfl];obtain⟨G2,e2⟩:=Qu ((he _ hm).2 ht) (S ++ G1) (P.st _ _ hS);rw[Bp,e2];dsimp only;rw[if_pos hb];obtain⟨G,e3⟩:=ih (i+1) (dx xs[i]) (acc ++ [ψ xs[i]]) (S ++ G1 ++ G2) (λG j=>by rw[aO,aO];exact hn _ j) (P.st _ _ (P.st _ _ hS)) (by omega) (by omega) (hs.kd _ hm) (by rw[aK,cC];omega)
    refine⟨G1 ++ (G2 ++ G),?_⟩;rw[e3,dr,mG,ht];simp[aO]
  .have hg:gt S i=some none:=by rw[hn0,jC (by omega)];rfl
   simp only[hg];refine⟨[],?_⟩;rw[gG (by omega)]
   simp
end
section
variable{β:Type}{xs:List β}{φ ψ:β->W}{dx:β->De}{τ:β->Bool}{k:Nat}{cap:List Nat}{n:Nat}
theorem Avb(h:m S=.ok ws (S ++ G))(hl:ws.length<=big):∃(G':Store)(n:Nat),(m >>= Ck) S=.ok (.ref n) (S ++ G')/\AtL n ws (S ++ G')/\S.length<=n:=by
 refine⟨G ++ [.lst ws],(S ++ G).length,?_,?_,by rw[aK];omega⟩
 .rw[Bp,h];dsimp only;unfold Ck;rw[if_pos hl,aO]
 .unfold AtL;rw[<-aO,bC (aN _),eG];rfl
theorem Ahg(h1:Pu P (src Z) (.fix (xs.map φ)))(hs:Acu s xs φ Kd dx)(he:Aqo P t e xs dx τ ψ)(hk:Kd (K4 k cap Z))(hl:xs.length<=big):PuL P (Bt k cap src s t e Z) ((xs.filter τ).map ψ):=by
 refine Qv h1 ?_;refine Aoe (m:=Ie s t e (xs.map φ) (K4 k cap Z) []) ?_ (by rw[aA];exact aD (kO _ _) hl)
 have:=Ahe hs he (K4 k cap Z) [] hk (by simpa using hl)
 simpa using this
theorem Sh(h0:∀S,P.p S->AtL n (xs.map φ) S)(h1:Pu P (src Z) (.liv n))(hs:Acu s xs φ Kd dx)(he:Aqo P t e xs dx τ ψ)(hk:Kd (K4 k cap Z))(hl:xs.length<=big):PuL P (Bt k cap src s t e Z) ((xs.filter τ).map ψ):=λS hS=>by
 obtain⟨G,e1⟩:=h1 S hS;have hS1:=(h0 S hS).app G;obtain⟨G2,e2⟩:=Ahf (n:=n) hs he (xs.length+1) 0 (K4 k cap Z) [] (S ++ G) hS1 (P.st _ _ hS) (by omega) (by omega) hk (by simpa using hl)
 rw[jW,iZ] at e2;obtain⟨G',n',e3,h3,h4⟩:=Avb e2 (by rw[aA];exact aD (kO _ _) hl)
 refine⟨G ++ G',n',?_,by rw[<-aO];exact h3,by rw[aK] at h4;omega⟩
 unfold Bt;rw[Bp,e1];dsimp only;unfold AtL at hS1;rw[hS1];dsimp only;rw[aA,e3,aO]
theorem Az5(h1:∀S,P.p S->∃G n m,src Z S=.ok (.zl n m) (S ++ G)/\AtL n us (S ++ G)/\AtL m vs (S ++ G))(hx:∀j:Nat,xs[j]?.map φ=match us[j]?,vs[j]? with|some a,some b=>some (.tup [a,b])|_,_=>none)(hu:xs.length<=us.length)(hs:Acu s xs φ Kd dx)(he:Aqo P t e xs dx τ ψ)(hk:Kd (K4 k cap Z))(hl:xs.length<=big):PuL P (Bt k cap src s t e Z) ((xs.filter τ).map ψ):=λS hS=>by
 obtain⟨G,n,m,e1,a1,a2⟩:=h1 S hS;obtain⟨G2,e2⟩:=Al9 (gt:=zlG n m) hs he (us.length+1) 0 (K4 k cap Z) [] (S ++ G) (λG' j=>by
  have b1:=a1.app G';have b2:=a2.app G';unfold AtL at b1 b2;unfold zlG;rw[b1,b2];dsimp only;rw[hx j];cases us[j]? <;> cases vs[j]? <;> rfl) (P.st _ _ hS) (by omega) (by omega) hk (by simpa using hl)
 rw[jW,iZ] at e2;obtain⟨G',n',e3,h3,h4⟩:=Avb e2 (by rw[aA];exact aD (kO _ _) hl)
 refine⟨G ++ G',n',?_,by rw[<-aO];exact h3,by rw[aK] at h4;omega⟩
 unfold Bt;rw[Bp,e1];dsimp only;unfold AtL at a1;rw[a1];dsimp only;rw[e3,aO]
end
def Ajm(P:SP)(b:MS)(Z:De)(i:Nat)(ws:List W):Prop:=∀S:Store,P.p S->∃(G:Store)(n:Nat),b Z S=.nx (Z.set i (some (.ref n))) (S ++ G)/\AtL n ws (S ++ G)/\S.length<=n
def Ajn(P:SP)(b:MS)(Z:De)(ws:List W):Prop:=∀S:Store,P.p S->∃(G:Store)(n:Nat),b Z S=.rt (.ref n) (S ++ G)/\AtL n ws (S ++ G)/\S.length<=n
section
variable{i k n:Nat}
theorem Acv(h:PuL P (f Z) ws):Ajm P (Br i f) Z i ws:=λS hS=>by
 obtain⟨G,n,e,hn,hf⟩:=h S hS;exact⟨G,n,by unfold Br Er;rw[e],hn,hf⟩
theorem Hy(h:Ajm P b Z i ws):Ajm P (An b Aw) Z i ws:=λS hS=>by
 obtain⟨G,n,e,hn,hf⟩:=h S hS;exact⟨G,n,by unfold An;rw[e];rfl,hn,hf⟩
theorem Ama(h1:Pu P (t Z) p)(hp:p=true)(h2:Ajm P b Z i ws):Ajm P (ifS t b b') Z i ws:=λS hS=>by
 subst hp;obtain⟨G,e⟩:=h1 S hS;obtain⟨G',n,e',hn,hf⟩:=h2 (S ++ G) (P.st _ _ hS);exact⟨G ++ G',n,Aql e (by rw[e',aO]),by rw[<-aO];exact hn,by rw[aK] at hf;omega⟩
theorem Ny(h1:Pu P (t Z) p)(hp:p=false)(h2:Ajm P b' Z i ws):Ajm P (ifS t b b') Z i ws:=λS hS=>by
 subst hp;obtain⟨G,e⟩:=h1 S hS;obtain⟨G',n,e',hn,hf⟩:=h2 (S ++ G) (P.st _ _ hS);exact⟨G ++ G',n,Au6 e (by rw[e',aO]),by rw[<-aO];exact hn,by rw[aK] at hf;omega⟩
theorem Bgh(h:PuL P (f Z) ws):Ajn P (retS f) Z ws:=λS hS=>by
 obtain⟨G,n,e,hn,hf⟩:=h S hS;exact⟨G,n,by unfold retS Er;rw[e],hn,hf⟩
theorem Az6(h:Ajn P b Z ws):Ajn P (An b b') Z ws:=λS hS=>by
 obtain⟨G,n,e,hn,hf⟩:=h S hS;exact⟨G,n,by unfold An;rw[e],hn,hf⟩
theorem Bgi(h1:PuN P b Z Z1)(h2:Ajn P b' Z1 ws):Ajn P (An b b') Z ws:=λS hS=>by
 obtain⟨G,e⟩:=h1 S hS;obtain⟨G',n,e',hn,hf⟩:=h2 (S ++ G) (P.st _ _ hS);exact⟨G ++ G',n,by unfold An;rw[e];simp only[e',aO],by rw[<-aO];exact hn,by rw[aK] at hf;omega⟩
theorem Bj2(h1:Ajm P b Z i ws)(h2:∀n,Ajn (P.at n ws) b' (Z.set i (some (.ref n))) us):Ajn P (An b b') Z us:=λS hS=>by
 obtain⟨G,n,e,hn,hf⟩:=h1 S hS;obtain⟨G',n',e',hn',hf'⟩:=h2 n (S ++ G) ⟨P.st _ _ hS,hn⟩;exact⟨G ++ G',n',by unfold An;rw[e];simp only[e',aO],by rw[<-aO];exact hn',by rw[aK] at hf';omega⟩
theorem Az7(hl:us.length=k)(h:Ajn P b (Bq n us) ws):PuL P (Dh k n b us) ws:=λS hS=>by
 obtain⟨G,m,e,hn,hf⟩:=h S hS;exact⟨G,m,by unfold Dh;rw[if_pos hl,e],hn,hf⟩
theorem Wd{ns:List Int}(h0:∀S,P.p S->AtL n ws S)(h:Pu P (f Z) (.ref n)):Pu P (Cv ns f Z) (.liv n):=λS hS=>by
 obtain⟨G,e⟩:=h S hS;refine⟨G,?_⟩;have a:=(h0 S hS).app G;unfold AtL at a;unfold Cv;rw[Bp,e];show (match (S ++ G)[n]? with|some (.lst _)=>R.ok (Src.liv n) (S ++ G)|_=>.bad)=_
 rw[a]
theorem Avc{ns:List Int}(hl:ws.length<=big):PuL P (Afg ns [.tup ws]) ws:=λS _=>⟨[.lst ws],S.length,by
 show Ck ws S=_;unfold Ck;rw[if_pos hl],by rw[bC (aN _),eG];rfl,aN _⟩
end
section
variable{β:Type}{xs:List β}{φ ψ:β->W}{dx:β->De}{τ:β->Bool}{k:Nat}{cap:List Nat}{ns:List Int}
theorem Avd(h1:Pu P (c Z) p)(hp:p=true)(h2:PuL P (f Z) ws):PuL P (Lq c f g Z) ws:=by
 subst hp;exact Qv h1 h2
theorem Ave(h1:Pu P (c Z) p)(hp:p=false)(h2:PuL P (g Z) ws):PuL P (Lq c f g Z) ws:=by
 subst hp;exact Qv h1 h2
end
def Wm{α:Type}(m:M α)(S:Store)(Q:α->Store->Prop):Prop:=∃(a:α)(S':Store),m S=.ok a S'/\Q a S'
structure Wb(b:MS)(Z:De)(S:Store)(K:RS->Prop):Prop where
 un:K (b Z S)
structure Fr(L:List Nat)(S S':Store):Prop where
 len:S.length<=S'.length
 get:∀i,i < S.length->i∉L->S'[i]?=S[i]?
section
variable{L L':List Nat}{S S1 S2 G:Store}{i n:Nat}{c:Cell}
theorem Fr.app:Fr [] S (S ++ G):=⟨by rw[aK];omega,λi hi _=>aY hi⟩
theorem Fr.set:Fr [n] S (S.set n c):=⟨by rw[fD];exact aN _,λi _ hi=>cJ (λe=>hi (by rw[e];exact bA.mpr rfl))⟩
theorem Fr.trans(h1:Fr L S S1)(h2:Fr L' S1 S2)(hL:∀i∈L',i∈L\/S.length<=i):Fr L S S2:=⟨aD h1.len h2.len,λi hi hn=>by
 rw[h2.get i (bM hi h1.len) (λhm=>(hL i hm).elim hn (λz=>absurd hi (Nat.not_lt.mpr z))),h1.get i hi hn]⟩
theorem Fr.then0(h1:Fr L S S1)(h2:Fr [] S1 S2):Fr L S S2:=h1.trans h2 λ_ h=>(nomatch h)
def Fr.same(h1:Fr L S S1)(h2:Fr L S1 S2):Fr L S S2:=h1.trans h2 λ_ h=>.inl h
def Fr.mono(h:Fr L S S1)(hL:∀i∈L,i∈L'):Fr L' S S1:=⟨h.len,λi hi hn=>h.get i hi (λz=>hn (hL i z))⟩
theorem Fr.of0(h:Fr [] S S1):Fr L S S1:=h.mono λ_ h=>(nomatch h)
def Fr.at(h:Fr L S S1)(e:S[i]?=some c)(hi:i∉L):S1[i]?=some c:=(h.get i (aL.mp e).1 hi).trans e
theorem Fr.at0(h:Fr [] S S1)(e:S[i]?=some c):S1[i]?=some c:=h.at e (λz=>nomatch z)
def Fr.at1(h:Fr [n] S S1)(e:S[i]?=some c)(hi:i≠n):S1[i]?=some c:=h.at e (λz=>hi (bA.mp z))
def Fy(e:S[i]?=some c):i < S.length:=(aL.mp e).1
def Qw(h:i < S.length):(S.set i c)[i]?=some c:=cQ h
end
section
variable{α β:Type}{m:M α}{f:α->M β}{a:α}{S:Store}{Q Q2:α->Store->Prop}{Q':β->Store->Prop}{P:SP}{Z:De}{ws us:List W}
theorem Dm(h:Wm m S λa S'=>Wm (f a) S' Q'):Wm (m >>= f) S Q':=by
 obtain⟨a,S1,e,b,S2,e2,q⟩:=h;exact⟨b,S2,by rw[Bp,e];exact e2,q⟩
def Kg(q:Q a S):Wm (pure a) S Q:=⟨a,S,rfl,q⟩
theorem Cr(h:Pu P m a)(hS:P.p S)(k:∀S',Fr [] S S'->Q a S'):Wm m S Q:=by
 obtain⟨G,e⟩:=h S hS;exact⟨a,_,e,k _ .app⟩
def Gw(h:Pu SP.any m a)(k:∀S',Fr [] S S'->Q a S'):Wm m S Q:=Cr h trivial k
theorem Cz(h:Wm m S Q)(k:∀a S',Q a S'->Q2 a S'):Wm m S Q2:=by
 obtain⟨a,S',e,q⟩:=h;exact⟨a,S',e,k a S' q⟩
theorem Hq{m:M W}{Q:W->Store->Prop}(h:PuL P m ws)(hS:P.p S)(k:∀n S',Fr [] S S'->S'[n]?=some (.lst ws)->S.length<=n->Q (.ref n) S'):Wm m S Q:=by
 obtain⟨G,n,e,hn,hf⟩:=h S hS;exact⟨_,_,e,k n _ .app hn hf⟩
theorem Ahh(h:Wm m S Q):Wm (noX m) S Q:=by
 obtain⟨a,S',e,q⟩:=h;exact⟨a,S',by unfold noX;rw[e],q⟩
def Abq{s:List W->M W}{gs:De->M (List W)}{Q:W->Store->Prop}(h1:Pu P (gs Z) ws)(hS:P.p S)(h2:∀S',Fr [] S S'->Wm (s ws) S' Q):Wm (Cp s gs Z) S Q:=Dm (Cr h1 hS h2)
def Et{s:List W->M W}{gs:De->M (List W)}{Q:W->Store->Prop}(h:Wm (gs Z) S λws S'=>Wm (s ws) S' Q):Wm (Cp s gs Z) S Q:=Dm h
theorem Bu{g:De->M W}{gs:De->M (List W)}{Q:List W->Store->Prop}(h:Wm (g Z) S λw S'=>Wm (gs Z) S' λws S2=>Q (w::ws) S2):Wm (Ci g gs Z) S Q:=
 Dm (Cz h λ_ _ h=>Dm (Cz h λ_ _ q=>Kg q))
def Ek{Q:List W->Store->Prop}(q:Q [] S):Wm (nilF Z) S Q:=Kg q
theorem Ec{i:Nat}{w:W}{Q:W->Store->Prop}(e:Z[i]?=some (some w))(q:Q w S):Wm (Ab i Z) S Q:=⟨w,S,by unfold Ab;rw[e];rfl,q⟩
def Xi{w:W}{Q:W->Store->Prop}(q:Q w S):Wm (kF w Z) S Q:=Kg q
def Iv{o:Bop}{f g:De->M W}{Q:W->Store->Prop}(h:Wm (f Z) S λx S1=>Wm (g Z) S1 λy S2=>Wm (o.fn x y) S2 Q):Wm (Ai o f g Z) S Q:=Dm (Cz h λ_ _ h=>Dm h)
def Amb{o:sS}{f g:De->M W}{Q:W->Store->Prop}(h:Wm (f Z) S λx S1=>Wm (g Z) S1 λy S2=>Wm (Fx o x y) S2 Q):Wm (Cq o f g Z) S Q:=Dm (Cz h λ_ _ h=>Dm h)
def Avf{ns:List Int}{f g:De->M W}{Q:W->Store->Prop}(h:Wm (f Z) S λx S1=>Wm (g Z) S1 λy S2=>Wm (ixW ns x y) S2 Q):Wm (ixF ns f g Z) S Q:=Dm (Cz h λ_ _ h=>Dm h)
theorem We{f:De->M W}{Q:Bool->Store->Prop}{p:Bool}(h:Wm (f Z) S λx S1=>x=.bl p/\Q p S1):Wm (Bf f Z) S Q:=Dm (Cz h λ_ _ ⟨e,q⟩=>by subst e;exact Kg q)
def Ahi{t:De->M Bool}{Q:Bool->Store->Prop}(h:Wm (t Z) S λp S1=>Q (!p) S1):Wm (Ea t Z) S Q:=Dm (Cz h λ_ _ q=>Kg q)
theorem Amc{gs:De->M (List W)}{Q:W->Store->Prop}(h:Wm (gs Z) S λws S1=>ws.length<=big/\Q (.ref S1.length) (S1 ++ [.lst ws])):Wm (Ef gs Z) S Q:=Dm (Cz h λws S1 ⟨hl,q⟩=>⟨_,_,by unfold Ck;rw[if_pos hl],q⟩)
theorem Amd{gs:De->M (List W)}{Q:W->Store->Prop}(h:Wm (gs Z) S λws S1=>ws.length<=big/\Q (.tup ws) S1):Wm (Cm gs Z) S Q:=Dm (Cz h λws S1 ⟨hl,q⟩=>⟨_,_,by unfold Ag1;rw[if_pos hl];rfl,q⟩)
theorem Xj{Q:W->Store->Prop}(hl:ws.length<=big)(q:Q (.ref S.length) (S ++ [.lst ws])):Wm (Ck ws) S Q:=⟨_,_,by unfold Ck;rw[if_pos hl],q⟩
theorem Fo:(S ++ [c])[S.length]?=some c:=by rw[bC (aN _),eG];rfl
theorem Ame{ns:List Int}{n:Nat}{i:Int}{w:W}{Q:W->Store->Prop}(hn:S[n]?=some (.lst ws))(hi:atI ws i=some w)(q:Q w S):Wm (ixW ns (.ref n) (.int i)) S Q:=⟨w,S,by
 unfold ixW;dsimp only;rw[hn];dsimp only;rw[hi];rfl,q⟩
theorem Aog{ns:List Int}{n:Nat}{Q:W->Store->Prop}(hn:S[n]?=some (.lst ws))(q:Q (.int ws.length) S):Wm (Bw ns [.ref n]) S Q:=⟨_,S,by
 unfold Bw;dsimp only;rw[hn],q⟩
theorem Afo{ns:List Int}{n:Nat}{Q:W->Store->Prop}(hn:S[n]?=some (.lst ws))(q:Q (.tup ws) S):Wm (Ep ns [.ref n]) S Q:=⟨_,S,by
 unfold Ep;dsimp only;rw[hn],q⟩
theorem Abr{op:W->List W->M W}{f:De->M W}{gs:De->M (List W)}{n:Nat}{Q:W->Store->Prop}(h1:Pu P (f Z) (.ref n))(hS:P.p S)(hn:S[n]?=some (.lst ws))(h2:∀S',Fr [] S S'->Wm (gs Z) S' λus S2=>Wm (op (.ref n) us) S2 Q):Wm (Ke .lst op f gs Z) S Q:=by
 refine Dm (Cr h1 hS λS1 f1=>?_);refine Dm (m:=(λS=>if Ty.lst.is (.ref n) S then .ok () S else .bad:M Unit)) ⟨(),S1,?_,Dm (h2 S1 f1)⟩
 have e:Ty.lst.is (.ref n) S1=true:=by
  simp only[Ty.is,f1.at0 hn]
 exact if_pos e
theorem Xk{n:Nat}{w:W}{Q:W->Store->Prop}(hn:S[n]?=some (.lst ws))(hl:ws.length < big)(q:Q .non (S.set n (.lst (ws ++ [w])))):Wm (Lr (.ref n) [w]) S Q:=⟨_,_,by
 unfold Lr Afi putL;dsimp only;rw[hn];dsimp only;rw[if_pos (by rw[aK,cC];omega)],q⟩
theorem Avg{n j:Nat}{i:Int}{w:W}{Q:W->Store->Prop}(hn:S[n]?=some (.lst ws))(hl:ws.length<=big)(hj:ixN ws.length i=some j)(hw:ws[j]?=some w)(q:Q w (S.set n (.lst (ws.eraseIdx j)))):Wm (Nm (.ref n) [.int i]) S Q:=⟨_,_,by
 unfold Nm Afi putL;dsimp only;rw[hn];dsimp only;rw[if_pos hl,hj];dsimp only;rw[hw];dsimp only;rw[if_pos (aD (by rw[lR];split <;> omega) hl)],q⟩
theorem Ahj{a b:Nat}{ws us:List W}{Q:W->Store->Prop}(ha:S[a]?=some (.lst ws))(hb:S[b]?=some (.lst us))(hl:ws.length+us.length<=big)(q:Q (.ref S.length) (S ++ [.lst (ws ++ us)])):Wm (Bop.fn .add (.ref a) (.ref b)) S Q:=⟨_,_,by
 show addW (.ref a) (.ref b) S=_;unfold addW;dsimp only;rw[ha,hb];dsimp only;rw[if_pos hl],q⟩
theorem Avh{a:Nat}{ss:List Str}{Q:W->Store->Prop}(ha:S[a]?=some (.lst (ss.map W.str)))(hl:ss.length < 64\/ss=Srt.ky64)(q:Q (.ref S.length) (S ++ [.lst ((Mw ss).map W.str)])):Wm (Jz [.ref a]) S Q:=⟨_,_,by
 unfold Jz;dsimp only;rw[ha];dsimp only;rw[Acs];dsimp only;rw[if_pos hl];unfold Ck;rw[if_pos (by rw[aA,(Gs ss).length_eq];exact hl.elim (λh=>by unfold big;omega) λe=>by rw[e];decide +kernel)],q⟩
theorem Az8{f g:De->M W}{t:De->M Bool}{Q:W->Store->Prop}(h:Wm (t Z) S λp S'=>p=true/\Wm (f Z) S' Q):Wm (Lq t f g Z) S Q:=Dm (Cz h λp S' ⟨e,q⟩=>by subst e;exact q)
theorem Az9{f g:De->M W}{t:De->M Bool}{Q:W->Store->Prop}(h:Wm (t Z) S λp S'=>p=false/\Wm (g Z) S' Q):Wm (Lq t f g Z) S Q:=Dm (Cz h λp S' ⟨e,q⟩=>by subst e;exact q)
theorem Baa{t u:De->M Bool}{Q:Bool->Store->Prop}(h:Wm (t Z) S λp S'=>p=true/\Wm (u Z) S' Q):Wm (Vj t u Z) S Q:=Dm (Cz h λp S' ⟨e,q⟩=>by subst e;exact q)
end
section
variable{b b' b2:MS}{Z Z':De}{S:Store}{K:RS->Prop}{f:De->M W}{t:De->M Bool}{i k n:Nat}{P:SP}{ws:List W}{p:Bool}
def Hu(b':MS)(K:RS->Prop):RS->Prop
 |.nx Z1 S1=>Wb b' Z1 S1 K
 |r=>K r
theorem Qx(h:Wb b Z S (Hu b' K)):Wb (An b b') Z S K:=⟨by
 have h:=h.un;unfold An;revert h;cases b Z S with
 |nx Z1 S1=>exact λh=>h.un
 |_=>exact λh=>h⟩
theorem Nz{α:Type}{m:M α}{k:α->MS}(h:Wm m S λa S'=>K (k a Z S')):K (Er m k Z S):=by
 obtain⟨a,S',e,q⟩:=h;unfold Er;rw[e];exact q
def Cw(h:Wm (f Z) S λw S'=>Wb b' (Z.set i (some w)) S' K):Wb (An (Br i f) b') Z S K:=Qx ⟨Nz (K:=Hu b' K) h⟩
def Wf(h:Wm (f Z) S λ_ S'=>Wb b' Z S' K):Wb (An (G4 f) b') Z S K:=Qx ⟨Nz (K:=Hu b' K) h⟩
def Iw(h:Wm (f Z) S λw S'=>K (.rt w S')):Wb (An (retS f) b') Z S K:=Qx ⟨Nz (K:=Hu b' K) h⟩
def Hh(h:K (.nx Z S)):Wb Aw Z S K:=⟨h⟩
theorem Ahk(h:Wm (t Z) S λp S'=>Wb (if p then b else b2) Z S' (Hu b' K)):Wb (An (ifS t b b2) b') Z S K:=Qx ⟨Nz (K:=Hu b' K) (Cz h λp S' q=>by cases p <;> exact q.un)⟩
theorem K7(h:Wm (t Z) S λp S'=>p=true/\Wb b Z S' (Hu b' K)):Wb (An (ifS t b b2) b') Z S K:=Ahk (Cz h λp S' ⟨e,q⟩=>by subst e;exact q)
theorem Fp(h:Wm (t Z) S λp S'=>p=false/\Wb b' Z S' K):Wb (An (ifS t b Aw) b') Z S K:=Ahk (Cz h λp S' ⟨e,q⟩=>by subst e;exact⟨q⟩)
theorem Bgj(h:Wm (t Z) S λp S'=>p=false/\Wb b2 Z S' (Hu b' K)):Wb (An (ifS t b b2) b') Z S K:=Ahk (Cz h λp S' ⟨e,q⟩=>by subst e;exact q)
theorem Bab{d:Nat}(h1:Pu P (h Z) v)(h2:Pu P (f Z) (.ref d))(h3:Pu P (g Z) kw)(hS:P.p S)(hd:S[d]?=some (.dct kvs))(hk:Ael kw=some kk)(hl:kvs.length < big)(q:∀S',Fr [] S S'->Wb b' Z (S'.set d (.dct (Tq kvs kk v))) K):Wb (An (Acl f g h) b') Z S K:=by
 obtain⟨G1,e1⟩:=h1 S hS;obtain⟨G2,e2⟩:=h2 (S ++ G1) (P.st _ _ hS);obtain⟨G3,e3⟩:=h3 (S ++ G1 ++ G2) (P.st _ _ (P.st _ _ hS));have f3:Fr [] S (S ++ G1 ++ G2 ++ G3):=(Fr.app.then0 Fr.app).then0 Fr.app;refine Qx ⟨?_⟩;refine Nz (K:=Hu b' K) ⟨(),(S ++ G1 ++ G2 ++ G3).set d (.dct (Tq kvs kk v)),?_,q _ f3⟩;rw[Bp,e1];dsimp only;rw[Bp,e2];dsimp only;rw[Bp,e3];dsimp only;unfold Afj;dsimp only;rw[f3.at0 hd];dsimp only;rw[hk];dsimp only;rw[if_pos hl]
def Xl(Q:W->Store->Prop):RS->Prop
 |.rt w S'=>Q w S'
 |.nx _ S'=>Q .non S'
 |_=>False
theorem Mj(hl:ws.length=k)(h:Wb b (Bq n ws) S (Xl Q)):Wm (Dh k n b ws) S Q:=by
 have h:=h.un;unfold Wm Dh;rw[if_pos hl];revert h;cases b (Bq n ws) S with
 |nx Z S'=>exact λh=>⟨_,_,rfl,h⟩
 |rt w S'=>exact λh=>⟨_,_,rfl,h⟩
 |bk _ _=>exact λh=>h.elim
 |ct _ _=>exact λh=>h.elim
 |ex _ _ _=>exact λh=>h.elim
 |bad=>exact λh=>h.elim
theorem Afp(h:∀w T,Q1 w T->Q2 w T):∀r,Xl Q1 r->Xl Q2 r
 |.rt w S',z=>h w S' z
 |.nx _ S',z=>h .non S' z
 |.bk _ _,z=>z
 |.ct _ _,z=>z
 |.ex _ _ _,z=>z
 |.bad,z=>z
theorem Amf(h:∀r,K r->K' r):∀r,Hu b' K r->Hu b' K' r
 |.nx _ _,z=>⟨h _ z.un⟩
 |.rt _ _,z=>h _ z
 |.bk _ _,z=>h _ z
 |.ct _ _,z=>h _ z
 |.ex _ _ _,z=>h _ z
 |.bad,z=>h _ z
def Aoh(h:Wb b Z S (Hu b' (Xl Q1)))(k:∀w T,Q1 w T->Q2 w T):Wb b Z S (Hu b' (Xl Q2)):=⟨Amf (Afp k) _ h.un⟩
def Avi(h:Wb b Z S (Xl Q1))(k:∀w T,Q1 w T->Q2 w T):Wb b Z S (Xl Q2):=⟨Afp k _ h.un⟩
def Ajo(J:De->Store->Prop)(K:RS->Prop):RS->Prop
 |.nx Z S=>J Z S
 |.ct Z S=>J Z S
 |.bk Z S=>K (.nx Z S)
 |r=>K r
theorem Bac{J:Nat->De->Store->Prop}(step:∀(i:Nat)(w:W)(Z:De)(S:Store),ws[i]?=some w->J i Z S->∃Z1,s w Z=some Z1/\Wb b Z1 S (Ajo (J (i+1)) K))(fin:∀Z S,J ws.length Z S->K (.nx Z S))(h0:J 0 Z S):Wb (Jh s b ws) Z S K:=by
 have key:∀(us:List W)(i:Nat)(Z:De)(S:Store),ws.drop i=us->J i Z S->i<=ws.length->Wb (Jh s b us) Z S K:=by
  intro us;induction us with
  |nil=>
   intro i Z S hd hJ hi;have:i=ws.length:=by
    have:=sZ.mp hd;omega
   subst this;exact⟨fin Z S hJ⟩
  |cons w us ih=>
   intro i Z S hd hJ hi;have hlt:i < ws.length:=by
    rcases zZ i ws.length with h|h
    .exact h
    .rw[gG h] at hd;cases hd
   have hc:=eF hlt;rw[hd] at hc;have hw:ws[i]?=some w:=by rw[aW hlt,(kJ hc).1]
   obtain⟨Z1,e1,hb⟩:=step i w Z S hw hJ;have hb:=hb.un;refine⟨?_⟩;unfold Jh;rw[e1];dsimp only;revert hb;cases b Z1 S with
   |nx Z2 S2=>exact λhb=>(ih (i+1) Z2 S2 (kJ hc).2.symm hb hlt).un
   |ct Z2 S2=>exact λhb=>(ih (i+1) Z2 S2 (kJ hc).2.symm hb hlt).un
   |bk Z2 S2=>exact λhb=>hb
   |rt _ _=>exact λhb=>hb
   |ex _ _ _=>exact λhb=>hb
   |bad=>exact λhb=>hb
 exact key ws 0 Z S rfl h0 (dU _)
theorem Bgk(h1:Pu P (src Z) (.fix ws))(hS:P.p S)(h2:∀S',Fr [] S S'->Wb (Jh s b ws) Z S' (Hu b' K)):Wb (An (My src s b) b') Z S K:=
 Qx ⟨Nz (K:=Hu b' K) (Cr h1 hS λS' f=>(h2 S' f).un)⟩
theorem Xm{J:Nat->De->Store->Prop}(step:∀(m:Nat)(Z:De)(S:Store),J m Z S->Wm (c Z) S λp S'=>if p=true then Wb b Z S' (Ajo (λZ2 S2=>∃m',m' < m/\J m' Z2 S2) K) else K (.nx Z S')):
  ∀(fuel m:Nat)(Z:De)(S:Store),J m Z S->m < fuel->Wb (Hz c b fuel) Z S K
 |0,m,_,_,_,h=>by omega
 |fuel+1,m,Z,S,hJ,hm=>by
  refine⟨?_⟩;unfold Hz;refine Nz (Cz (step m Z S hJ) λp S' h=>?_);cases p with
  |false=>exact h
  |true=>
   have h:Wb b Z S' (Ajo (λZ2 S2=>∃m',m' < m/\J m' Z2 S2) K):=h;have h:=h.un;show K (match b Z S' with
    |.nx Z1 S1=>Hz c b fuel Z1 S1
    |.ct Z1 S1=>Hz c b fuel Z1 S1
    |.bk Z1 S1=>.nx Z1 S1
    |r=>r)
   revert h;cases b Z S' with
   |nx Z2 S2=>rintro⟨m',h1,h2⟩;exact(Xm step fuel m' Z2 S2 h2 (by omega)).un
   |ct Z2 S2=>rintro⟨m',h1,h2⟩;exact(Xm step fuel m' Z2 S2 h2 (by omega)).un
   |bk Z2 S2=>exact λhb=>hb
   |rt _ _=>exact λhb=>hb
   |ex _ _ _=>exact λhb=>hb
   |bad=>exact λhb=>hb
theorem Ajp{J:Nat->De->Store->Prop}{fuel m:Nat}(h0:J m Z S)(hm:m < fuel)(step:∀(m:Nat)(Z:De)(S:Store),J m Z S->Wm (c Z) S λp S'=>if p=true then Wb b Z S' (Ajo (λZ2 S2=>∃m',m' < m/\J m' Z2 S2) (Hu b' K)) else Wb b' Z S' K):
  Wb (An (Hz c b fuel) b') Z S K:=Qx (Xm (K:=Hu b' K) step fuel m Z S h0 hm)
theorem Ajq{J:Nat->De->List W->Store->Prop}(step:∀(i:Nat)(w:W)(Z:De)(acc:List W)(S:Store),ws[i]?=some w->J i Z acc S->∃Z1,s w Z=some Z1/\Wm (t Z1) S λp S1=>if p=true then Wm (e Z1) S1 λy S2=>acc.length < big/\J (i+1) Z1 (acc ++ [y]) S2 else J (i+1) Z1 acc S1)(fin:∀Z acc S,J ws.length Z acc S->Q acc S)(h0:J 0 Z acc S):Wm (Ie s t e ws Z acc) S Q:=by
 have key:∀(us:List W)(i:Nat)(Z:De)(acc:List W)(S:Store),ws.drop i=us->J i Z acc S->i<=ws.length->Wm (Ie s t e us Z acc) S Q:=by
  intro us;induction us with
  |nil=>
   intro i Z acc S hd hJ hi;have:i=ws.length:=by
    have:=sZ.mp hd;omega
   subst this;exact Kg (fin Z acc S hJ)
  |cons w us ih=>
   intro i Z acc S hd hJ hi;have hlt:i < ws.length:=by
    rcases zZ i ws.length with h|h
    .exact h
    .rw[gG h] at hd;cases hd
   have hc:=eF hlt;rw[hd] at hc;have hw:ws[i]?=some w:=by rw[aW hlt,(kJ hc).1]
   obtain⟨Z1,e1,hb⟩:=step i w Z acc S hw hJ;unfold Ie;rw[e1];dsimp only;refine Dm (Ahh (Cz hb λp S1 h=>?_));cases p with
   |false=>exact ih (i+1) Z1 acc S1 (kJ hc).2.symm h hlt
   |true=>
    refine Dm (Ahh (Cz h λy S2 zz=>?_));obtain⟨hl,hJ2⟩:=zz;rw[if_pos hl];exact ih (i+1) Z1 (acc ++ [y]) S2 (kJ hc).2.symm hJ2 hlt
 exact key ws 0 Z acc S rfl h0 (dU _)
theorem Xn{J:Nat->De->List W->Store->Prop}{d:Nat}(there:∀i Z acc S,J i Z acc S->S[d]?=some (.lst ws))(step:∀(i:Nat)(w:W)(Z:De)(acc:List W)(S:Store),ws[i]?=some w->J i Z acc S->∃Z1,s w Z=some Z1/\Wm (t Z1) S λp S1=>if p=true then Wm (e Z1) S1 λy S2=>acc.length < big/\J (i+1) Z1 (acc ++ [y]) S2 else J (i+1) Z1 acc S1)(fin:∀Z acc S,J ws.length Z acc S->Q acc S):∀(fuel i:Nat)(Z:De)(acc:List W)(S:Store),J i Z acc S->i<=ws.length->ws.length < i+fuel->Wm (Hn s t e d fuel i Z acc) S Q
 |0,i,_,_,_,_,_,_=>by omega
 |fuel+1,i,Z,acc,S,hJ,hi,hf=>by
  have hd:=there i Z acc S hJ;show ∃a S',Hn s t e d (fuel+1) i Z acc S=.ok a S'/\Q a S';unfold Hn;rw[hd];dsimp only;by_cases hx:i < ws.length
  .have hw:ws[i]?=some ws[i]:=aW hx;rw[hw];dsimp only;obtain⟨Z1,e1,hb⟩:=step i ws[i] Z acc S hw hJ;rw[e1];dsimp only;refine Dm (Ahh (Cz hb λp S1 h=>?_));cases p with
   |false=>exact Xn there step fin fuel (i+1) Z1 acc S1 h hx (by omega)
   |true=>
    refine Dm (Ahh (Cz h λy S2 zz=>?_));obtain⟨hl,hJ2⟩:=zz;rw[if_pos hl];exact Xn there step fin fuel (i+1) Z1 (acc ++ [y]) S2 hJ2 hx (by omega)
  .have:i=ws.length:=by omega
   subst this;rw[jC (aN _)];exact⟨_,_,rfl,fin Z acc S hJ⟩
theorem Aoi{k:Nat}{cap:List Nat}(h1:Pu P (src Z) (.fix ws))(hS:P.p S)(h2:∀S',Fr [] S S'->Wm (Ie s t e ws (K4 k cap Z) []) S' λacc S2=>acc.length<=big/\Q (.ref S2.length) (S2 ++ [.lst acc])):Wm (Bt k cap src s t e Z) S Q:=
 Dm (Cr h1 hS λS' f=>Dm (Cz (h2 S' f) λ_ _ ⟨hl,q⟩=>Xj hl q))
theorem Avj{k d:Nat}{cap:List Nat}(h1:Pu P (src Z) (.liv d))(hS:P.p S)(hd:S[d]?=some (.lst ws))(h2:∀S',Fr [] S S'->Wm (Hn s t e d (ws.length+1) 0 (K4 k cap Z) []) S' λacc S2=>acc.length<=big/\Q (.ref S2.length) (S2 ++ [.lst acc])):Wm (Bt k cap src s t e Z) S Q:=by
 refine Dm (Cr h1 hS λS' f=>?_);have h:=Dm (f:=Ck) (Cz (h2 S' f) λ_ _ ⟨hl,q⟩=>Xj hl q);obtain⟨a,S3,e3,q⟩:=h;refine⟨a,S3,?_,q⟩;show (match S'[d]? with|some (.lst ws)=>(Hn s t e d (ws.length+1) 0 (K4 k cap Z) [] >>= Ck) S'|_=>R.bad)=_
 rw[f.at0 hd];exact e3
end
end D
namespace M1
open PySem PySem.Builtin.Str
def sgs:Str:="0123456789abcdefghijklmnopqrstuvwxyzABCDEFGHIJKLMNOPQRSTUVWXYZ+-"
theorem Ajr:sgs.cps.size=64:=by decide +kernel
noncomputable def sg(v:Nat):Nat:=sgs.cps.getD v 0
def one(c:Nat):Str:=⟨#[c]⟩
theorem Bgl{v:Nat}(h:v < 64):sgs.cps.toList[v]?=some (sg v):=by
 have h':v < sgs.cps.size:=by rw[Ajr];exact h
 rw[jA,pW h'];unfold sg;rw[Array.getD_eq_getD_getElem?,pW h'];rfl
noncomputable def Dq:Nat->Int->Str
 |0,_=>⟨#[]⟩
 |k+1,n=>one (sg (n / 64 ^ k % 64).toNat) ++ Dq k n
theorem Aqq(k:Nat)(n:Int):(Dq k n).cps.size=k:=by
 induction k with
 |zero=>rfl
 |succ k ih=>
  show ((one _).cps ++ (Dq k n).cps).size=k+1;rw[vY,ih];show 1+k=k+1;omega
end M1
namespace M2
open PySem PySem.Builtin.Str M1
def okC(c:Nat):Bool:=decide (32<=c)&&decide (c<=126)&&decide (c≠37)
def G5(x:Str):Bool:=x.cps.toList.all okC
theorem Bae{l:List Nat}{a:Nat}(h:l.all okC=true)(ha:a < l.length):okC (l.getD a 0)=true:=by
 rw[cR,aW ha];exact cG.mp h _ (lZ ha)
theorem Ajs{α:Type}{p:α->Bool}{a:α}{l:List α}(ha:p a=true)(h:∃c∈a::l,p c=false):∃c∈l,p c=false:=by
 obtain⟨c,hc,hp⟩:=h;cases hc with
 |head=>rw[ha] at hp;cases hp
 |tail _ hc=>exact⟨c,hc,hp⟩
theorem Xo{α:Type}(p:α->Bool):∀l:List α,(∃c∈l,p c=false)->(l.takeWhile p).length < l.length
 |[],h=>by obtain⟨c,hc,_⟩:=h;cases hc
 |a::l,h=>by
  rw[oU];cases ha:p a with
  |false=>simp
  |true=>
   have:=Xo p l (Ajs ha h);simp only[if_true,aU];omega
theorem Afq{α:Type}(p:α->Bool):∀l:List α,(∀c∈l,p c=true)->l.takeWhile p=l
 |[],_=>rfl
 |a::l,h=>by
  rw[oU,h a (.head _),if_pos rfl,Afq p l (λc hc=>h c (.tail _ hc))]
theorem Afr{α:Type}(p:α->Bool):∀l:List α,(∃c∈l,p c=false)->∃c∈l.drop (l.takeWhile p).length,p c=false
 |[],h=>by obtain⟨c,hc,_⟩:=h;cases hc
 |a::l,h=>by
  rw[oU];cases ha:p a with
  |false=>exact⟨a,.head _,ha⟩
  |true=>
   simp only[if_true,aU,List.drop_succ_cons];exact Afr p l (Ajs ha h)
theorem Aqr(h:∀c∈x.cps.toList,y.cps.contains c=true):gB x y=⟨#[]⟩:=by
 have lo:stripLo y.cps.contains true x=x.cps.size:=by
  unfold stripLo;rw[if_pos rfl,Afq _ _ h,cN]
 have hi:stripHi y.cps.contains true x x.cps.size=x.cps.size:=by
  unfold stripHi;rw[if_pos rfl,List.drop_of_length_le (by rw[cN];exact aN _)]
  rfl
 unfold gB aAs;split
 .rename_i hs;unfold stripSame at hs;rw[lo,aC] at hs;have:x.cps.size=0:=by simpa using hs.1
  cases x with|mk cps=>
  exact congrArg aBr (nW this)
 .unfold stripped;rw[lo,hi];show aBr (x.cps.extract x.cps.size x.cps.size)=_;exact congrArg aBr (nW (by simp))
theorem Aqs(h:∃c∈x.cps.toList,y.cps.contains c=false):gB x y≠⟨#[]⟩:=by
 have hl:x.cps.toList.length=x.cps.size:=cN;have hlo:stripLo y.cps.contains true x=(x.cps.toList.takeWhile y.cps.contains).length:=by
  unfold stripLo;rw[if_pos rfl]
 have h1:=Xo _ _ h;have h2:=Afr _ _ h;have h3:∃c∈(x.cps.toList.drop (x.cps.toList.takeWhile y.cps.contains).length).reverse,y.cps.contains c=false:=by
  obtain⟨c,hc,hp⟩:=h2;exact⟨c,wV.mpr hc,hp⟩
 have h4:=Xo _ _ h3;rw[oR,cD] at h4;intro e;have e:=congrArg (λz:Str=>z.cps.size) e;unfold gB aAs at e;split at e
 .have e:x.cps.size=0:=e;omega
 .unfold stripped at e;rw[hlo] at e;unfold stripHi at e;rw[if_pos rfl] at e;have e:(x.cps.extract (x.cps.toList.takeWhile y.cps.contains).length (x.cps.size - ((x.cps.toList.drop (x.cps.toList.takeWhile y.cps.contains).length).reverse.takeWhile y.cps.contains).length)).size=0:=e;rw[Array.size_extract] at e;omega
def tsg:Str:=" !\"#$&'()*+,-./0123456789:;<=>?@ABCDEFGHIJKLMNOPQRSTUVWXYZ[\\]^_`abcdefghijklmnopqrstuvwxyz{|}~"
theorem Baf:∀c,c < 127->tsg.cps.contains c=okC c:=by decide +kernel
theorem Bag:tsg.cps.toList.all (λc=>decide (c < 127))=true:=by decide +kernel
theorem Avk(c:Nat):tsg.cps.contains c=okC c:=by
 by_cases h:c < 127
 .exact Baf c h
 .have e:okC c=false:=by
   unfold okC;rw[decide_eq_false (p:=c<=126) (by omega),jM,sU]
  rw[e];cases hc:tsg.cps.contains c with
  |false=>rfl
  |true=>
   have hm:c∈tsg.cps.toList:=by simpa using hc
   exact absurd (of_decide_eq_true (cG.mp Bag c hm)) h
theorem Amg(z:Str):(gB z tsg==⟨#[]⟩)=G5 z:=by
 cases h:G5 z with
 |true=>
  rw[Aqr (λc hc=>by rw[Avk];exact cG.mp h c hc)]
  exact beq_self_eq_true _
 |false=>
  rw[beq_eq_false_iff_ne];refine Aqs ?_;obtain⟨c,hc,hp⟩:=List.all_eq_false.mp h;exact⟨c,hc,by rw[Avk];exact Bool.not_eq_true _ ▸ hp⟩
end M2
namespace K3
open PySem PySem.Spec PyProof.Rows L2 D
abbrev kI(i:Int):=kF (.int i)
abbrev kS(z:Str):=kF (.str z)
abbrev kB(b:Bool):=kF (.bl b)
abbrev yA(f:De->M W):=Ci f nilF
abbrev yB(f g:De->M W):=Ci f (yA g)
abbrev yC(f g h:De->M W):=Ci f (yB g h)
abbrev yD(f g h i:De->M W):=Ci f (yC g h i)
abbrev zA(s:List W->M W)(f:De->M W):=Cp s (yA f)
abbrev zB(s:List W->M W)(f g:De->M W):=Cp s (yB f g)
abbrev zC(s:List W->M W)(f g h:De->M W):=Cp s (yC f g h)
abbrev tQ(o:sS)(f g:De->M W):=Bf (Cq o f g)
abbrev rQ(f:De->M W):=An (retS f) Aw
def top(i:Nat):dG:=PySem.Challenge.pw_leafhouse_k03_keys_values_pages.main.body.getD i (.Pass ⟨0,0,0,0⟩)
def fuel:Nat:=1000
noncomputable def Bj3:List (Nat×Nat×Bool):=(bR 13).flatMap λc=>(bR 13).map λk=>(c,k,k==0||k==c)
def Bj4:List Nat:=bR 13
def isa:Nat->W->Option Bool:=Au1 Bj3 Bj4
def xfL:List (Nat×Str):=[(6,"number")]
def fld(b:Bool)(c:Nat)(f:Str):Bool:=b&&xfL.lookup c==some f
noncomputable def Bj5:List (Str×W):=("SIGNS",.str "0123456789abcdefghijklmnopqrstuvwxyzABCDEFGHIJKLMNOPQRSTUVWXYZ+-")::("BITS",.int 6)::("LOWEST_BITS",.int 63)::("MOST_SIGNS",.int 3)::("TEXT_SIGNS",.str " !\"#$&'()*+,-./0123456789:;<=>?@ABCDEFGHIJKLMNOPQRSTUVWXYZ[\\]^_`abcdefghijklmnopqrstuvwxyz{|}~")::("MOST_KEY_SIGNS",.int 12)::("MOST_VALUE_SIGNS",.int 400)::("LEAST_SIZE",.int 64)::("MOST_SIZE",.int 200)::("MOST_NUMBER",.int 4095)::("MOST_ROWS",.int 63)::("MOST_CELL_SIGNS",.int 63)::("NUMBER_SIGNS",.int 2)::("SIGNS_BESIDE_BODY",.int 5)::("int",.ty "int")::("bool",.ty "bool")::("str",.ty "str")::("tuple",.ty "tuple")::("list",.ty "list")::("ValueError",.ty "ValueError")::("TableError",.cls 0)::("BadNumber",.cls 1)::("BadText",.cls 2)::("BadSize",.cls 3)::("BadKey",.cls 4)::("BadValue",.cls 5)::("BadPage",.cls 6)::("NoKey",.cls 7)::("InBundle",.cls 8)::("NoBundle",.cls 9)::("PowerGone",.cls 10)::("Closed",.cls 11)::("BadLine",.cls 12)::[]
noncomputable def biL:List Str:=["isinstance","len","max","sum","all","tuple","list","sorted","repr","range","zip"]
noncomputable def Bj6:List (Str×Nat):=[("BadNumber",1),("BadSize",3)]
def Bj7:List (Str×(Nat×List W)):=[("BadPage",(6,[]))]
def Bj8:List (Str×Nat):=[("TableError",0)]
noncomputable def Bj9:List (Nat×Nat):=(bR 13).map (Prod.mk 0)
def exm(k c:Nat):Bool:=Bj9.contains (k,c)
def md(ns:List Int):Md:={ con:=λx=>Bj5.lookup x,bi:=λx=>biL.contains x,exc:=λx=>Bj6.lookup x,isa:=isa,ns:=ns,fld:=fld,fuel:=fuel,exi:=λx=>Bj7.lookup x,hcl:=λx=>Bj8.lookup x,exm:=exm }
def T_0(ns:List Int):List (Str×Fi):=[]
abbrev K8:dG:=top 63
def Acw:List Str:=["_law_script","_law_k"]
def Qy(ns:List Int):MS:=(An (ifS (tQ .Lt (Ab 1) (zA (Bw ns) (Ab 0))) (rQ (ixF ns (Ab 0) (Ab 1))) Aw)
 (rQ (kI 0)))
def Iz(ns:List Int):List W->M W:=Dh 2 2 (Qy ns)
theorem Acx(ns:List Int):Dw (Ax K8) ((md ns).gm (T_0 ns) Acw (Am K8))=Qy ns:=by kernel_rfl
def Qz(ns:List Int):List (Str×Fi):=("_law_cell_at",⟨Iz ns,2,[]⟩)::T_0 ns
abbrev Q0:dG:=top 64
noncomputable def Ajt:List Str:=["_law_state","_law_k","_law_cell_here"]
def Q3(ns:List Int):MS:=(An (Acl (Ab 0) (kS "at") (Ai .add (ixF ns (Ab 0) (kS "at")) (kI 1)))
 (An (Br 1 (ixF ns (Ab 0) (kS "at")))
 (An (Br 2 (zB (Iz ns) (ixF ns (Ab 0) (kS "cells")) (Ai .mod (Ab 1) (zB Aty (kI 1) (zA (Bw ns) (ixF ns (Ab 0) (kS "cells")))))))
 (rQ (Ai .fdiv (Ai .mod (Ai .add (Ai .mul (Ab 2) (kI 48271)) (Ai .mul (Ai .mul (Ab 1) (Ab 1)) (kI 69621))) (kI 2147483647)) (kI 8))))))
def Bs(ns:List Int):List W->M W:=Dh 1 3 (Q3 ns)
theorem Aju(ns:List Int):Dw (Ax Q0) ((md ns).gm (Qz ns) Ajt (Am Q0))=Q3 ns:=by kernel_rfl
def Aai(ns:List Int):List (Str×Fi):=("_law_next",⟨Bs ns,1,[]⟩)::Qz ns
abbrev N5:dG:=top 66
def Ahl:List Str:=["_law_some"]
def Wg(ns:List Int):MS:=(An (Br 0 (kS "0123456789abcdefghijklmnopqrstuvwxyzABCDEFGHIJKLMNOPQRSTUVWXYZ"))
 (rQ (Ai .add (kS " !\"#$&'()*+,-./:;<=>?\x40[\\]^_`{|}~") (Ab 0))))
def Hi(ns:List Int):List W->M W:=Dh 0 1 (Wg ns)
theorem Ahm(ns:List Int):Dw (Ax N5) ((md ns).gm (Aai ns) Ahl (Am N5))=Wg ns:=by kernel_rfl
def Wh(ns:List Int):List (Str×Fi):=("_law_signs",⟨Hi ns,0,[]⟩)::Aai ns
abbrev Q4:dG:=top 67
noncomputable def Ajv:List Str:=["_law_number_here","_law_size","_law_signs_here","_law_many"]
abbrev aC0:=Ai .mod (Ai .add (Ai .add (Ai .fdiv (Ab 2) (kI 7)) (Ai .mul (Ai .mul (kI 13) (Ab 0)) (Ab 0))) (Ai .mul (kI 5) (Ab 0))) (Ab 1)
def Aaj(ns:List Int):MS:=(An (Br 2 (Cp (Hi ns) nilF))
 (An (Br 3 (zA (Bw ns) (Ab 2)))
 (rQ (Ke .str K1 (kS "") (yA (Bt 1 [3,0,2] (J4 Fj (yA (Ab 1))) (Bg 0) (λ_=>pure true) (ixF ns (Ab 3) aC0)))))))
def Ez(ns:List Int):List W->M W:=Dh 2 4 (Aaj ns)
theorem Ajw(ns:List Int):Dw (Ax Q4) ((md ns).gm (Wh ns) Ajv (Am Q4))=Aaj ns:=by kernel_rfl
def Aak(ns:List Int):List (Str×Fi):=("_law_text",⟨Ez ns,2,[]⟩)::Wh ns
abbrev Ml:dG:=top 70
noncomputable def Aeo:List Str:=["_law_state","_law_many","_law_base","_law_found","_law_turn","_law_number_here","_law_size","_law_at","_law_signs_here","_law_sign"]
def Tr(ns:List Int):MS:=(An (Br 2 (zB (Ez ns) (zA (Bs ns) (Ab 0)) (kI 12)))
 (An (Br 3 (M3 []))
 (An (My (J4 Fj (yA (Ab 1))) (Bg 4) (An (Br 5 (zA (Bs ns) (Ab 0)))
  (An (Br 6 (ixF ns (Ef (Ci (kI 1) (yD (kI 12) (Ai .add (kI 1) (Ai .mod (Ai .fdiv (Ab 5) (kI 5)) (kI 12))) (kI 3) (Ai .add (kI 2) (Ai .mod (Ai .fdiv (Ab 5) (kI 5)) (kI 3)))))) (Ai .mod (Ab 5) (kI 5))))
  (An (Br 7 (Ai .mod (Ai .fdiv (Ab 5) (kI 60)) (Ab 6)))
  (An (Br 8 (Cp (Hi ns) nilF))
  (An (Br 9 (ixF ns (Ab 8) (Ai .mod (Ai .fdiv (Ab 5) (kI 720)) (zA (Bw ns) (Ab 8)))))
  (An (Acl (Ab 3) (Ai .add (Ai .add (slF ns (Ab 2) Bd (Bv (Ab 7))) (Ab 9)) (slF ns (Ab 2) (Bv (Ai .add (Ab 7) (kI 1))) (Bv (Ab 6)))) (kB true))
  Aw)))))))
 (rQ (zA Jz (Ab 3))))))
def Mm(ns:List Int):List W->M W:=Dh 2 10 (Tr ns)
theorem Aep(ns:List Int):Dw (Ax Ml) ((md ns).gm (Aak ns) Aeo (Am Ml))=Tr ns:=by kernel_rfl
def Tt(ns:List Int):List (Str×Fi):=("_law_rising",⟨Mm ns,2,[]⟩)::Aak ns
abbrev Q5:dG:=top 71
def Ajx:List Str:=["_law_state","_law_size","_law_number_here"]
def Aal(ns:List Int):MS:=(An (Br 2 (zA (Bs ns) (Ab 0)))
 (An (ifS (tQ .Eq (Ai .mod (Ab 2) (kI 3)) (kI 0)) (rQ (Cm (yC (kS "out") (Ai .add (kI 1) (Ai .mod (Ai .fdiv (Ab 2) (kI 3)) (kI 400))) (Ai .add (kI 1) (Ai .mod (Ai .fdiv (Ab 2) (kI 1200)) (kI 4095)))))) Aw)
 (rQ (Cm (yB (kS "in") (zB (Ez ns) (Ab 2) (ixF ns (Ef (yD (kI 0) (kI 1) (Ai .fdiv (Ab 1) (kI 8)) (Ai .mod (Ai .fdiv (Ab 2) (kI 30)) (Ai .add (Ai .fdiv (Ab 1) (kI 8)) (kI 1))))) (Ai .mod (Ai .fdiv (Ab 2) (kI 3)) (kI 4)))))))))
def Ly(ns:List Int):List W->M W:=Dh 2 3 (Aal ns)
theorem Ajy(ns:List Int):Dw (Ax Q5) ((md ns).gm (Tt ns) Ajx (Am Q5))=Aal ns:=by kernel_rfl
def Aam(ns:List Int):List (Str×Fi):=("_law_cell",⟨Ly ns,2,[]⟩)::Tt ns
abbrev Mp:dG:=top 68
noncomputable def Aeq:List Str:=["_law_number_here","_law_many","_law_signs_here","_law_found","_law_k"]
abbrev aD0:=kS "0123456789abcdefghijklmnopqrstuvwxyzABCDEFGHIJKLMNOPQRSTUVWXYZ+-"
def Tu(ns:List Int):MS:=(An (Br 2 aD0)
 (An (Br 3 (kS ""))
 (An (My (J4 Fj (yA (Ab 1))) (Bg 4) (An (Br 3 (Ai .add (ixF ns (Ab 2) (Ai .mod (Ab 0) (kI 64))) (Ab 3)))
  (An (Br 0 (Ai .fdiv (Ab 0) (kI 64)))
  Aw)))
 (rQ (Ab 3)))))
def Bj(ns:List Int):List W->M W:=Dh 2 5 (Tu ns)
theorem Aer(ns:List Int):Dw (Ax Mp) ((md ns).gm (Aam ns) Aeq (Am Mp))=Tu ns:=by kernel_rfl
def Tv(ns:List Int):List (Str×Fi):=("_law_digits",⟨Bj ns,2,[]⟩)::Aam ns
abbrev Q6:dG:=top 73
noncomputable def Ajz:List Str:=["_law_page_here","_law_found","_law_key","_law_cell_here"]
abbrev aB9(ns:List Int):=Br 1 (Ai .add (Ai .add (Ab 1) (zB (Bj ns) (zA (Bw ns) (Ab 2)) (kI 1))) (Ab 2))
abbrev aA5(ns:List Int):=An (aB9 ns) (An (ifS (tQ .Eq (ixF ns (Ab 3) (kI 0)) (kS "in")) (An (Br 1 (Ai .add (Ai .add (Ai .add (Ab 1) (kS "i")) (zB (Bj ns) (zA (Bw ns) (ixF ns (Ab 3) (kI 1))) (kI 1))) (ixF ns (Ab 3) (kI 1)))) Aw) (An (Br 1 (Ai .add (Ai .add (Ai .add (Ab 1) (kS "o")) (zB (Bj ns) (ixF ns (Ab 3) (kI 1)) (kI 2))) (zB (Bj ns) (ixF ns (Ab 3) (kI 2)) (kI 2)))) Aw)) Aw)
abbrev aC9(ns:List Int):=orT (tQ .Eq (ixF ns (Ab 0) (kI 0)) (kS "head")) (tQ .Eq (ixF ns (Ab 0) (kI 0)) (kS "free"))
def Aan(ns:List Int):MS:=(An (ifS (tQ .Eq (ixF ns (Ab 0) (kI 0)) (kS "rest")) (rQ (Ai .add (zB (Bj ns) (ixF ns (Ab 0) (kI 2)) (kI 2)) (ixF ns (Ab 0) (kI 1)))) Aw)
 (An (ifS (aC9 ns) (rQ (Ke .str K1 (kS "") (yA (Bt 1 [] (Cv ns (slF ns (Ab 0) (Bv (kI 1)) Bd)) (Bg 0) (λ_=>pure true) (zB (Bj ns) (Ab 0) (kI 2)))))) Aw)
 (An (Br 1 (zB (Bj ns) (zA (Bw ns) (ixF ns (Ab 0) (kI 1))) (kI 1)))
 (An (ifS (tQ .Eq (ixF ns (Ab 0) (kI 0)) (kS "fork")) (An (My (Cv ns (ixF ns (Ab 0) (kI 1))) (Bg 2) (An (aB9 ns)
   Aw))
  (rQ (Ai .add (Ab 1) (Ke .str K1 (kS "") (yA (Bt 1 [] (Cv ns (ixF ns (Ab 0) (kI 2))) (Bg 0) (λ_=>pure true) (zB (Bj ns) (Ab 0) (kI 2)))))))) Aw)
 (An (My (Cv ns (ixF ns (Ab 0) (kI 1))) (Aem [2,3]) (aA5 ns))
 (rQ (Ab 1)))))))
def Ih(ns:List Int):List W->M W:=Dh 1 4 (Aan ns)
theorem Aj0(ns:List Int):Dw (Ax Q6) ((md ns).gm (Tv ns) Ajz (Am Q6))=Aan ns:=by kernel_rfl
def Aao(ns:List Int):List (Str×Fi):=("_law_body",⟨Ih ns,1,[]⟩)::Tv ns
abbrev Q7:dG:=top 72
noncomputable def Aj1:List Str:=["_law_state","_law_size","_law_number_here","_law_kind","_law_some","_law_many","_law_keys","_law_rows"]
abbrev aA2(ns:List Int):=An (Hz (tQ .Gt (Ai .add (Ai .add (Ai .add (kI 1) (zA Ai2 (Bt 1 [] (Cv ns (Ab 6)) (Bg 0) (λ_=>pure true) (Ai .add (kI 1) (zA (Bw ns) (Ab 0)))))) (Ai .mul (kI 2) (zA (Bw ns) (Ab 6)))) (kI 2)) (Ai .sub (Ab 1) (kI 5))) (An (G4 (Ke .lst Nm (Ab 6) (yA (Ai .mod (Ab 2) (zA (Bw ns) (Ab 6)))))) Aw) fuel) (rQ (Cm (yC (kS "fork") (zA (Ep ns) (Ab 6)) (zA (Ep ns) (Bt 1 [0] (J4 Fj (yA (Ai .add (zA (Bw ns) (Ab 6)) (kI 1)))) (Bg 0) (λ_=>pure true) (Ai .add (kI 1) (Ai .mod (zA (Bs ns) (Ab 1)) (kI 4095))))))))
abbrev aA8(ns:List Int):=An (Br 7 (Bt 1 [1,0] (Cv ns (Ab 6)) (Bg 0) (λ_=>pure true) (Cm (yB (Ab 0) (zB (Ly ns) (Ab 2) (Ab 1)))))) (An (Hz (tQ .Gt (zA (Bw ns) (zA (Ih ns) (Cm (yB (kS "leaf") (zA (Ep ns) (Ab 7)))))) (Ai .sub (Ab 1) (kI 5))) (An (G4 (Ke .lst Nm (Ab 7) (yA (Ai .mod (Ab 2) (zA (Bw ns) (Ab 7)))))) Aw) fuel) (rQ (Cm (yB (kS "leaf") (zA (Ep ns) (Ab 7))))))
abbrev aB2(ns:List Int):=An (Br 4 (Bt 1 [0] (J4 Fj (yA (kI 4))) (Bg 0) (λ_=>pure true) (ixF ns (Ef (Ci (kI 4095) (yD (kI 0) (kI 63) (kI 64) (Ai .mod (zA (Bs ns) (Ab 1)) (kI 4096))))) (Ai .mod (zA (Bs ns) (Ab 1)) (kI 5))))) (rQ (Ai .add (Cm (yA (kS "head"))) (zA (Ep ns) (Ab 4))))
def Aap(ns:List Int):MS:=(An (Br 2 (zA (Bs ns) (Ab 0)))
 (An (Br 3 (Ai .mod (Ab 2) (kI 7)))
 (An (ifS (tQ .Eq (Ab 3) (kI 0)) (aB2 ns) Aw)
 (An (ifS (tQ .Eq (Ab 3) (kI 1)) (rQ (Cm (yB (kS "free") (ixF ns (Ef (yD (kI 0) (kI 1) (kI 4095) (Ai .mod (Ai .fdiv (Ab 2) (kI 7)) (kI 4096)))) (Ai .mod (Ai .fdiv (Ab 2) (kI 7)) (kI 4)))))) Aw)
 (An (ifS (tQ .Eq (Ab 3) (kI 2)) (An (Br 5 (ixF ns (Ef (yC (kI 1) (Ai .sub (Ab 1) (kI 7)) (Ai .add (kI 1) (Ai .mod (Ai .fdiv (Ab 2) (kI 7)) (Ai .sub (Ab 1) (kI 7)))))) (Ai .mod (Ai .fdiv (Ab 2) (kI 7)) (kI 3))))
  (rQ (Cm (yC (kS "rest") (zB (Ez ns) (Ab 2) (Ab 5)) (ixF ns (Ef (yB (kI 0) (Ai .mod (Ai .fdiv (Ab 2) (kI 21)) (kI 4096)))) (Ai .mod (Ai .fdiv (Ab 2) (kI 7)) (kI 2))))))) Aw)
 (An (Br 6 (zB (Mm ns) (Ab 0) (Ai .mod (Ai .fdiv (Ab 2) (kI 7)) (kI 14))))
 (An (ifS (tQ .Lt (Ab 3) (kI 5)) (aA8 ns) Aw)
 (aA2 ns))))))))
def Q8(ns:List Int):List W->M W:=Dh 2 8 (Aap ns)
theorem Aj2(ns:List Int):Dw (Ax Q7) ((md ns).gm (Aao ns) Aj1 (Am Q7))=Aap ns:=by kernel_rfl
def Aaq(ns:List Int):List (Str×Fi):=("_law_page",⟨Q8 ns,2,[]⟩)::Aao ns
abbrev Xp:dG:=top 24
def Aqt:List Str:=["thing"]
def Afs(ns:List Int):MS:=(rQ (Ew (zB (Ei isa) (Ab 0) (kF (.ty "str"))) (Cq .Eq (Ke .str Ag6 (Ab 0) (yA (kS " !\"#$&'()*+,-./0123456789:;<=>?@ABCDEFGHIJKLMNOPQRSTUVWXYZ[\\]^_`abcdefghijklmnopqrstuvwxyz{|}~"))) (kS ""))))
def Ko(ns:List Int):List W->M W:=Dh 1 1 (Afs ns)
theorem Aqu(ns:List Int):Dw (Ax Xp) ((md ns).gm (Aaq ns) Aqt (Am Xp))=Afs ns:=by kernel_rfl
def Aft(ns:List Int):List (Str×Fi):=("is_text",⟨Ko ns,1,[]⟩)::Aaq ns
abbrev Acy:dG:=top 30
def Avl:List Str:=["thing"]
def Aj3(ns:List Int):MS:=(rQ (Ew (zA (Ko ns) (Ab 0)) (Jo .LtE .LtE (kI 1) (zA (Bw ns) (Ab 0)) (kI 12))))
def J6(ns:List Int):List W->M W:=Dh 1 1 (Aj3 ns)
theorem Avm(ns:List Int):Dw (Ax Acy) ((md ns).gm (Aft ns) Avl (Am Acy))=Aj3 ns:=by kernel_rfl
def Aj4(ns:List Int):List (Str×Fi):=("is_key",⟨J6 ns,1,[]⟩)::Aft ns
abbrev Vn:dG:=top 31
def Amh:List Str:=["thing"]
def Acz(ns:List Int):MS:=(rQ (Ew (zA (Ko ns) (Ab 0)) (Cq .LtE (zA (Bw ns) (Ab 0)) (kI 400))))
def Vo(ns:List Int):List W->M W:=Dh 1 1 (Acz ns)
theorem Ami(ns:List Int):Dw (Ax Vn) ((md ns).gm (Aj4 ns) Amh (Am Vn))=Acz ns:=by kernel_rfl
def Ac0(ns:List Int):List (Str×Fi):=("is_value",⟨Vo ns,1,[]⟩)::Aj4 ns
abbrev Vp:dG:=top 23
def Amj:List Str:=["thing"]
def Ac1(ns:List Int):MS:=(rQ (Ew (zB (Ei isa) (Ab 0) (kF (.ty "int"))) (Atq (zB (Ei isa) (Ab 0) (kF (.ty "bool"))))))
def G6(ns:List Int):List W->M W:=Dh 1 1 (Ac1 ns)
theorem Amk(ns:List Int):Dw (Ax Vp) ((md ns).gm (Ac0 ns) Amj (Am Vp))=Ac1 ns:=by kernel_rfl
def Ac2(ns:List Int):List (Str×Fi):=("is_whole",⟨G6 ns,1,[]⟩)::Ac0 ns
abbrev Xq:dG:=top 41
def Aqv:List Str:=["thing"]
def Afu(ns:List Int):MS:=(rQ (Ew (zA (G6 ns) (Ab 0)) (Jo .LtE .LtE (kI 64) (Ab 0) (kI 200))))
def Jq(ns:List Int):List W->M W:=Dh 1 1 (Afu ns)
theorem Aqw(ns:List Int):Dw (Ax Xq) ((md ns).gm (Ac2 ns) Aqv (Am Xq))=Afu ns:=by kernel_rfl
def Afv(ns:List Int):List (Str×Fi):=("is_size",⟨Jq ns,1,[]⟩)::Ac2 ns
abbrev Xr:dG:=top 46
def Aqx:List Str:=["thing"]
abbrev aB8(ns:List Int):=Bf (zB (Ei isa) (ixF ns (Ab 0) (kI 0)) (kF (.ty "str")))
abbrev aC8(ns:List Int):=Vj (Bf (zB (Ei isa) (Ab 0) (kF (.ty "tuple")))) (Vj (tQ .Gt (zA (Bw ns) (Ab 0)) (kI 0)) (aB8 ns))
def Afw(ns:List Int):MS:=(An (ifS (aC8 ns) (rQ (ixF ns (Ab 0) (kI 0))) Aw)
 (rQ (kF .non)))
def Kp(ns:List Int):List W->M W:=Dh 1 1 (Afw ns)
theorem Aqy(ns:List Int):Dw (Ax Xr) ((md ns).gm (Afv ns) Aqx (Am Xr))=Afw ns:=by kernel_rfl
def Afx(ns:List Int):List (Str×Fi):=("word_of",⟨Kp ns,1,[]⟩)::Afv ns
abbrev Ja:dG:=top 47
def Wi:List Str:=["keys"]
def Lz(ns:List Int):MS:=(An (ifS (Ea (Bf (zA Jm (Bt 1 [] (Cv ns (Ab 0)) (Bg 0) (λ_=>pure true) (zA (J6 ns) (Ab 0)))))) (rQ (kB false)) Aw)
 (rQ (zA Jm (Bt 2 [] (Aqi (yB (Ab 0) (slF ns (Ab 0) (Bv (kI 1)) Bd))) (Aem [0,1]) (λ_=>pure true) (Cq .Lt (Ab 0) (Ab 1))))))
def Du(ns:List Int):List W->M W:=Dh 1 1 (Lz ns)
theorem Wj(ns:List Int):Dw (Ax Ja) ((md ns).gm (Afx ns) Wi (Am Ja))=Lz ns:=by kernel_rfl
def Ma(ns:List Int):List (Str×Fi):=("are_rising_keys",⟨Du ns,1,[]⟩)::Afx ns
abbrev Mq:dG:=top 45
def Aes:List Str:=["thing","many"]
def Tw(ns:List Int):MS:=(rQ (Ew (zB (Ei isa) (Ab 0) (kF (.ty "tuple"))) (Cq .Eq (zA (Bw ns) (Ab 0)) (Ab 1))))
def Fb(ns:List Int):List W->M W:=Dh 2 2 (Tw ns)
theorem Aet(ns:List Int):Dw (Ax Mq) ((md ns).gm (Ma ns) Aes (Am Mq))=Tw ns:=by kernel_rfl
def Tz(ns:List Int):List (Str×Fi):=("is_tuple_of",⟨Fb ns,2,[]⟩)::Ma ns
abbrev N6:dG:=top 44
noncomputable def Ahn:List Str:=["thing","least","most"]
def Wk(ns:List Int):MS:=(rQ (Ew (zA (Ko ns) (Ab 0)) (Jo .LtE .LtE (Ab 1) (zA (Bw ns) (Ab 0)) (Ab 2))))
def Hj(ns:List Int):List W->M W:=Dh 3 3 (Wk ns)
theorem Aho(ns:List Int):Dw (Ax N6) ((md ns).gm (Tz ns) Ahn (Am N6))=Wk ns:=by kernel_rfl
def Wl(ns:List Int):List (Str×Fi):=("is_text_of",⟨Hj ns,3,[]⟩)::Tz ns
abbrev Dd:dG:=top 43
def Aj5:List Str:=["thing","least"]
def Aar(ns:List Int):MS:=(rQ (Ew (zA (G6 ns) (Ab 0)) (Jo .LtE .LtE (Ab 1) (Ab 0) (kI 4095))))
def Dv(ns:List Int):List W->M W:=Dh 2 2 (Aar ns)
theorem Aj6(ns:List Int):Dw (Ax Dd) ((md ns).gm (Wl ns) Aj5 (Am Dd))=Aar ns:=by kernel_rfl
def Aas(ns:List Int):List (Str×Fi):=("is_number",⟨Dv ns,2,[(.int 0)]⟩)::Wl ns
abbrev Xu:dG:=top 48
def Aqz:List Str:=["thing","word"]
def Afy(ns:List Int):MS:=(An (Br 1 (zA (Kp ns) (Ab 0)))
 (An (ifS (tQ .Eq (Ab 1) (kS "in")) (rQ (Ew (Cq .Eq (zA (Bw ns) (Ab 0)) (kI 2)) (zC (Hj ns) (ixF ns (Ab 0) (kI 1)) (kI 0) (kI 63)))) Aw)
 (An (ifS (tQ .Eq (Ab 1) (kS "out")) (rQ (Ew (Cq .Eq (zA (Bw ns) (Ab 0)) (kI 3)) (Ew (zA (G6 ns) (ixF ns (Ab 0) (kI 1))) (Ew (Jo .LtE .LtE (kI 1) (ixF ns (Ab 0) (kI 1)) (kI 400)) (zB (Dv ns) (ixF ns (Ab 0) (kI 2)) (kI 1)))))) Aw)
 (rQ (kB false)))))
def Jr(ns:List Int):List W->M W:=Dh 1 2 (Afy ns)
theorem Aq0(ns:List Int):Dw (Ax Xu) ((md ns).gm (Aas ns) Aqz (Am Xu))=Afy ns:=by kernel_rfl
def Afz(ns:List Int):List (Str×Fi):=("is_cell",⟨Jr ns,1,[]⟩)::Aas ns
abbrev Vq:dG:=top 49
def Aml:List Str:=["thing"]
def Ac3(ns:List Int):MS:=(An (ifS (orT (Ea (Bf (zB (Ei isa) (Ab 0) (kF (.ty "tuple"))))) (tQ .Gt (zA (Bw ns) (Ab 0)) (kI 63))) (rQ (kB false)) Aw)
 (An (ifS (Ea (Bf (zA Jm (Bt 1 [] (Cv ns (Ab 0)) (Bg 0) (λ_=>pure true) (Ew (zB (Fb ns) (Ab 0) (kI 2)) (zA (Jr ns) (ixF ns (Ab 0) (kI 1)))))))) (rQ (kB false)) Aw)
 (rQ (zA (Du ns) (Bt 1 [] (Cv ns (Ab 0)) (Bg 0) (λ_=>pure true) (ixF ns (Ab 0) (kI 0)))))))
def K9(ns:List Int):List W->M W:=Dh 1 1 (Ac3 ns)
theorem Amm(ns:List Int):Dw (Ax Vq) ((md ns).gm (Afz ns) Aml (Am Vq))=Ac3 ns:=by kernel_rfl
def Ac4(ns:List Int):List (Str×Fi):=("are_rows",⟨K9 ns,1,[]⟩)::Afz ns
abbrev Vr:dG:=top 50
def Amn:List Str:=["thing"]
def Ac5(ns:List Int):MS:=(rQ (Ew (zB (Ei isa) (Ab 0) (kF (.ty "tuple"))) (Ew (Cq .LtE (zA (Bw ns) (Ab 0)) (kI 63)) (zA (Du ns) (Ab 0)))))
def La(ns:List Int):List W->M W:=Dh 1 1 (Ac5 ns)
theorem Amo(ns:List Int):Dw (Ax Vr) ((md ns).gm (Ac4 ns) Amn (Am Vr))=Ac5 ns:=by kernel_rfl
def Ac6(ns:List Int):List (Str×Fi):=("are_keys",⟨La ns,1,[]⟩)::Ac4 ns
abbrev Vs:dG:=top 51
def Amp:List Str:=["thing","many"]
def Ac7(ns:List Int):MS:=(rQ (Ew (zB (Fb ns) (Ab 0) (Ab 1)) (zA Jm (Bt 1 [] (Cv ns (Ab 0)) (Bg 0) (λ_=>pure true) (zB (Dv ns) (Ab 0) (kI 1))))))
def Lb(ns:List Int):List W->M W:=Dh 2 2 (Ac7 ns)
theorem Amq(ns:List Int):Dw (Ax Vs) ((md ns).gm (Ac6 ns) Amp (Am Vs))=Ac7 ns:=by kernel_rfl
def Ac8(ns:List Int):List (Str×Fi):=("are_kids",⟨Lb ns,2,[]⟩)::Ac6 ns
abbrev Xv:dG:=top 52
def Aq1:List Str:=["thing","word"]
abbrev aD7(ns:List Int):=Ai .add (zA (Bw ns) (ixF ns (Ab 0) (kI 1))) (kI 1)
abbrev aC2(ns:List Int):=Ew (zA (La ns) (ixF ns (Ab 0) (kI 1))) (zB (Lb ns) (ixF ns (Ab 0) (kI 2)) (aD7 ns))
def Af0(ns:List Int):MS:=(An (Br 1 (zA (Kp ns) (Ab 0)))
 (An (ifS (tQ .Eq (Ab 1) (kS "head")) (rQ (Ew (Cq .Eq (zA (Bw ns) (Ab 0)) (kI 5)) (zA Jm (Bt 1 [] (Cv ns (slF ns (Ab 0) (Bv (kI 1)) Bd)) (Bg 0) (λ_=>pure true) (zA (λws=>Dv ns (ws ++ [(.int 0)])) (Ab 0)))))) Aw)
 (An (ifS (tQ .Eq (Ab 1) (kS "leaf")) (rQ (Ew (Cq .Eq (zA (Bw ns) (Ab 0)) (kI 2)) (zA (K9 ns) (ixF ns (Ab 0) (kI 1))))) Aw)
 (An (ifS (tQ .Eq (Ab 1) (kS "fork")) (rQ (Ew (Cq .Eq (zA (Bw ns) (Ab 0)) (kI 3)) (aC2 ns))) Aw)
 (An (ifS (tQ .Eq (Ab 1) (kS "rest")) (rQ (Ew (Cq .Eq (zA (Bw ns) (Ab 0)) (kI 3)) (Ew (zC (Hj ns) (ixF ns (Ab 0) (kI 1)) (kI 1) (kI 400)) (zA (λws=>Dv ns (ws ++ [(.int 0)])) (ixF ns (Ab 0) (kI 2)))))) Aw)
 (An (ifS (tQ .Eq (Ab 1) (kS "free")) (rQ (Ew (Cq .Eq (zA (Bw ns) (Ab 0)) (kI 2)) (zA (λws=>Dv ns (ws ++ [(.int 0)])) (ixF ns (Ab 0) (kI 1))))) Aw)
 (rQ (kB false))))))))
def Fq(ns:List Int):List W->M W:=Dh 1 2 (Af0 ns)
theorem Aq2(ns:List Int):Dw (Ax Xv) ((md ns).gm (Ac8 ns) Aq1 (Am Xv))=Af0 ns:=by kernel_rfl
def Af1(ns:List Int):List (Str×Fi):=("is_page",⟨Fq ns,1,[]⟩)::Ac8 ns
abbrev Js:dG:=top 75
noncomputable def Xw:List Str:=["_law_thing","_law_least","_law_most"]
def M6(ns:List Int):MS:=(An (ifS (orT (Ea (Bf (zB (Ei isa) (Ab 0) (kF (.ty "str"))))) (Ea (Bf (Jo .LtE .LtE (Ab 1) (zA (Bw ns) (Ab 0)) (Ab 2))))) (rQ (kB false)) Aw)
 (rQ (Cq .Eq (Bt 1 [] (Cv ns (Ab 0)) (Bg 0) (tQ .NotIn (Ab 0) (Cp (Hi ns) nilF)) (Ab 0)) (Ef nilF))))
def Eh(ns:List Int):List W->M W:=Dh 3 3 (M6 ns)
theorem Xx(ns:List Int):Dw (Ax Js) ((md ns).gm (Af1 ns) Xw (Am Js))=M6 ns:=by kernel_rfl
def M7(ns:List Int):List (Str×Fi):=("_law_good_text",⟨Eh ns,3,[]⟩)::Af1 ns
abbrev Mr:dG:=top 76
def Aeu:List Str:=["_law_thing","_law_least","_law_most"]
def T8(ns:List Int):MS:=(rQ (Ew (zB (Ei isa) (Ab 0) (kF (.ty "int"))) (Ew (Atq (zB (Ei isa) (Ab 0) (kF (.ty "bool")))) (Jo .LtE .LtE (Ab 1) (Ab 0) (Ab 2)))))
def Eb(ns:List Int):List W->M W:=Dh 3 3 (T8 ns)
theorem Aev(ns:List Int):Dw (Ax Mr) ((md ns).gm (M7 ns) Aeu (Am Mr))=T8 ns:=by kernel_rfl
def T9(ns:List Int):List (Str×Fi):=("_law_number",⟨Eb ns,3,[]⟩)::M7 ns
abbrev Q9:dG:=top 77
def Aj7:List Str:=["_law_keys"]
abbrev aB7(ns:List Int):=rQ (zA Jm (Bt 1 [0] (J4 Fj (yA (Ai .sub (zA (Bw ns) (Ab 0)) (kI 1)))) (Bg 0) (λ_=>pure true) (Cq .Lt (ixF ns (Ab 1) (Ab 0)) (ixF ns (Ab 1) (Ai .add (Ab 0) (kI 1))))))
def Aat(ns:List Int):MS:=(An (ifS (orT (tQ .Gt (zA (Bw ns) (Ab 0)) (kI 63)) (Ea (Bf (zA Jm (Bt 1 [] (Cv ns (Ab 0)) (Bg 0) (λ_=>pure true) (zC (Eh ns) (Ab 0) (kI 1) (kI 12))))))) (rQ (kB false)) Aw)
 (aB7 ns))
def Gn(ns:List Int):List W->M W:=Dh 1 1 (Aat ns)
theorem Aj8(ns:List Int):Dw (Ax Q9) ((md ns).gm (T9 ns) Aj7 (Am Q9))=Aat ns:=by kernel_rfl
def Aau(ns:List Int):List (Str×Fi):=("_law_rise",⟨Gn ns,1,[]⟩)::T9 ns
abbrev Ld:dG:=top 78
def Ac9:List Str:=["_law_thing"]
def Ra(ns:List Int):MS:=(An (ifS (orT (Ea (Bf (zB (Ei isa) (Ab 0) (kF (.ty "tuple"))))) (orT (tQ .Lt (zA (Bw ns) (Ab 0)) (kI 2)) (Ea (aB8 ns)))) (rQ (kB false)) Aw)
 (An (ifS (tQ .Eq (ixF ns (Ab 0) (kI 0)) (kS "in")) (rQ (Ew (Cq .Eq (zA (Bw ns) (Ab 0)) (kI 2)) (zC (Eh ns) (ixF ns (Ab 0) (kI 1)) (kI 0) (kI 63)))) Aw)
 (An (ifS (orT (tQ .NotEq (ixF ns (Ab 0) (kI 0)) (kS "out")) (tQ .NotEq (zA (Bw ns) (Ab 0)) (kI 3))) (rQ (kB false)) Aw)
 (rQ (Ew (zC (Eb ns) (ixF ns (Ab 0) (kI 1)) (kI 1) (kI 400)) (zC (Eb ns) (ixF ns (Ab 0) (kI 2)) (kI 1) (kI 4095)))))))
def Gh(ns:List Int):List W->M W:=Dh 1 1 (Ra ns)
theorem Ada(ns:List Int):Dw (Ax Ld) ((md ns).gm (Aau ns) Ac9 (Am Ld))=Ra ns:=by kernel_rfl
def Rb(ns:List Int):List (Str×Fi):=("_law_is_cell",⟨Gh ns,1,[]⟩)::Aau ns
abbrev Le:dG:=top 79
def Adb:List Str:=["_law_thing","_law_size","_law_row"]
abbrev aB6(ns:List Int):=orT (tQ .NotEq (zA (Bw ns) (Ab 2)) (kI 2)) (Ea (Bf (zA (Gh ns) (ixF ns (Ab 2) (kI 1)))))
abbrev aD2(ns:List Int):=ifS (orT (Ea (Bf (zB (Ei isa) (Ab 2) (kF (.ty "tuple"))))) (aB6 ns)) (rQ (kB false)) Aw
abbrev aA4(ns:List Int):=An (ifS (orT (tQ .NotEq (ixF ns (Ab 0) (kI 0)) (kS "leaf")) (tQ .NotEq (zA (Bw ns) (Ab 0)) (kI 2))) (rQ (kB false)) Aw) (An (My (Cv ns (ixF ns (Ab 0) (kI 1))) (Bg 2) (An (aD2 ns) Aw)) (rQ (zA (Gn ns) (Bt 1 [] (Cv ns (ixF ns (Ab 0) (kI 1))) (Bg 0) (λ_=>pure true) (ixF ns (Ab 0) (kI 0))))))
abbrev aD5(ns:List Int):=Bf (zB (Ei isa) (ixF ns (Ab 0) (kI 2)) (kF (.ty "tuple")))
abbrev aA6(ns:List Int):=An (ifS (orT (tQ .NotEq (zA (Bw ns) (Ab 0)) (kI 3)) (orT (Ea (aD5 ns)) (Ea (Bf (zA (Gn ns) (ixF ns (Ab 0) (kI 1))))))) (rQ (kB false)) Aw) (rQ (Ew (Cq .Eq (zA (Bw ns) (ixF ns (Ab 0) (kI 2))) (aD7 ns)) (zA Jm (Bt 1 [] (Cv ns (ixF ns (Ab 0) (kI 2))) (Bg 0) (λ_=>pure true) (zC (Eb ns) (Ab 0) (kI 1) (kI 4095))))))
abbrev aC6(ns:List Int):=Bt 1 [] (Cv ns (slF ns (Ab 0) (Bv (kI 1)) Bd)) (Bg 0) (λ_=>pure true) (zC (Eb ns) (Ab 0) (kI 0) (kI 4095))
def Rc(ns:List Int):MS:=(An (ifS (orT (Ea (Bf (zB (Ei isa) (Ab 0) (kF (.ty "tuple"))))) (orT (tQ .Eq (Ab 0) (Cm nilF)) (Ea (aB8 ns)))) (rQ (kB false)) Aw)
 (An (ifS (aC9 ns) (An (Br 1 (ixF ns (M3 [((kS "head"),(kI 5)),((kS "free"),(kI 2))]) (ixF ns (Ab 0) (kI 0))))
  (rQ (Ew (Cq .Eq (zA (Bw ns) (Ab 0)) (Ab 1)) (zA Jm (aC6 ns))))) Aw)
 (An (ifS (tQ .Eq (ixF ns (Ab 0) (kI 0)) (kS "rest")) (rQ (Ew (Cq .Eq (zA (Bw ns) (Ab 0)) (kI 3)) (Ew (zC (Eh ns) (ixF ns (Ab 0) (kI 1)) (kI 1) (kI 400)) (zC (Eb ns) (ixF ns (Ab 0) (kI 2)) (kI 0) (kI 4095))))) Aw)
 (An (ifS (orT (tQ .Lt (zA (Bw ns) (Ab 0)) (kI 2)) (Ea (Bf (zB (Ei isa) (ixF ns (Ab 0) (kI 1)) (kF (.ty "tuple")))))) (rQ (kB false)) Aw)
 (An (ifS (tQ .Eq (ixF ns (Ab 0) (kI 0)) (kS "fork")) (aA6 ns) Aw)
 (aA4 ns))))))
def G7(ns:List Int):List W->M W:=Dh 1 3 (Rc ns)
theorem Adc(ns:List Int):Dw (Ax Le) ((md ns).gm (Rb ns) Adb (Am Le))=Rc ns:=by kernel_rfl
def Rf(ns:List Int):List (Str×Fi):=("_law_is_page",⟨G7 ns,1,[]⟩)::Rb ns
abbrev N7:dG:=top 83
noncomputable def Ahp:List Str:=["_law_thing","_law_size","_law_found","_law_due"]
def Wn(ns:List Int):MS:=(An (Br 2 (Ef (yD (zA (J6 ns) (Ab 0)) (zA (Vo ns) (Ab 0)) (zA (Jq ns) (Ab 0)) (zA (Fq ns) (Ab 0)))))
 (An (Br 3 (Ef (yC (zC (Eh ns) (Ab 0) (kI 1) (kI 12)) (zC (Eh ns) (Ab 0) (kI 0) (kI 400)) (zC (Eb ns) (Ab 0) (kI 64) (kI 200)))))
 (An (G4 (Ke .lst Lr (Ab 3) (yA (zA (G7 ns) (Ab 0)))))
 (rQ (Ew (Cq .Eq (Ab 2) (Ab 3)) (zA Jm (Bt 1 [] (Cv ns (Ab 2)) (Bg 0) (λ_=>pure true) (zB (Ei isa) (Ab 0) (kF (.ty "bool"))))))))))
def Ce(ns:List Int):List W->M W:=Dh 2 4 (Wn ns)
theorem Ahq(ns:List Int):Dw (Ax N7) ((md ns).gm (Rf ns) Ahp (Am N7))=Wn ns:=by kernel_rfl
def Wo(ns:List Int):List (Str×Fi):=("_law_looks",⟨Ce ns,2,[]⟩)::Rf ns
abbrev Vt:dG:=top 80
def Amr:List Str:=["_law_number_here","_law_thing","_law_some"]
abbrev aD8(ns:List Int):=ixF ns (Ab 2) (Ai .mod (Ab 0) (zA (Bw ns) (Ab 2)))
def Ade(ns:List Int):MS:=(An (Br 2 (Ef (Ci (kF .non) (Ci (kB true) (Ci (kI 5) (Ci (Aen (kI 1)) (Ci (kI 4096) (Ci (kS "") (Ci (kS "a\tb") (Ci (kS "abcdefghijklm") (Ci (Cm nilF) (yD (Ef nilF) (Cm (yB (kS "in") (kS "x"))) (Cm (yB (kS "in") (kI 5))) (Cm (yC (kS "out") (kI 0) (kI 1)))))))))))))))
 (An (Br 2 (Ai .add (Ab 2) (Ef (Ci (Cm (yC (kS "out") (kI 401) (kI 1))) (Ci (Cm (yC (kS "out") (kI 1) (kI 0))) (Ci (Cm (yC (kS "out") (kI 5) (kB true))) (yD (Cm (yB (kS "on") (kS "x"))) (Ai .mul (kS "x") (kI 401)) (Ai .mul (kS "x") (kI 64)) (kS "leaf"))))))))
 (An (G4 (Ke .lst Lr (Ab 2) (yA (Cm (yA (kS "in"))))))
 (An (ifS (Bf (zB (Ei isa) (Ab 1) (kF (.ty "tuple")))) (An (Br 2 (Ai .add (Ab 2) (Ai .mul (Ef (yD (zA (Afg ns) (Ab 1)) (Ai .add (Ab 1) (slF ns (Ab 1) (Bv (Aen (kI 1))) Bd)) (slF ns (Ab 1) Bd (Bv (Aen (kI 1)))) (Ayt (Ab 1)))) (kI 2))))
  Aw) Aw)
 (rQ (aD8 ns))))))
def Gd(ns:List Int):List W->M W:=Dh 2 3 (Ade ns)
theorem Ams(ns:List Int):Dw (Ax Vt) ((md ns).gm (Wo ns) Amr (Am Vt))=Ade ns:=by kernel_rfl
def Adf(ns:List Int):List (Str×Fi):=("_law_odd",⟨Gd ns,2,[]⟩)::Wo ns
abbrev Dc:dG:=top 81
noncomputable def Gu:List Str:=["_law_state","_law_thing","_law_number_here","_law_at"]
abbrev aA0(ns:List Int):=ifS (orT (Ea (Bf (zB (Ei isa) (Ab 1) (kF (.ty "tuple"))))) (orT (tQ .Eq (Ab 1) (Cm nilF)) (tQ .Eq (Ai .mod (Ab 2) (kI 4)) (kI 0)))) (rQ (zB (Gd ns) (Ai .fdiv (Ab 2) (kI 4)) (Ab 1))) Aw
abbrev aB0(ns:List Int):=Br 3 (Ai .mod (Ai .fdiv (Ab 2) (kI 4)) (zA (Bw ns) (Ab 1)))
def Pn(ns:List Int):MS:=(An (Br 2 (zA (Bs ns) (Ab 0)))
 (An (aA0 ns)
 (An (aB0 ns)
 (rQ (Ai .add (Ai .add (slF ns (Ab 1) Bd (Bv (Ab 3))) (Cm (yA Eg))) (slF ns (Ab 1) (Bv (Ai .add (Ab 3) (kI 1))) Bd))))))
def Pq(ns:List Int):List W->M W:=Dh 2 4 (Pn ns)
theorem Aa6(ns:List Int):Dw (Ax Dc) ((md ns).gm (Adf ns) Gu (Am Dc))=Pn ns:=by kernel_rfl
def Pr(ns:List Int):List (Str×Fi):=("_law_spoilt",⟨Pq ns,2,[]⟩)::Adf ns
def Px(ns:List Int):MS:=(An (Br 2 (zA (Bs ns) (Ab 0)))
 (An (aA0 ns)
 (An (aB0 ns)
 (rQ (Ai .add (Ai .add (slF ns (Ab 1) Bd (Bv (Ab 3))) (Cm (yA (zB (Pq ns) (Ab 0) (ixF ns (Ab 1) (Ab 3)))))) (slF ns (Ab 1) (Bv (Ai .add (Ab 3) (kI 1))) Bd))))))
def Py(ns:List Int):List W->M W:=Dh 2 4 (Px ns)
theorem Aa7(ns:List Int):Dw (Ax Dc) ((md ns).gm (Pr ns) Gu (Am Dc))=Px ns:=by kernel_rfl
def Pz(ns:List Int):List (Str×Fi):=("_law_spoilt",⟨Py ns,2,[]⟩)::Pr ns
def P0(ns:List Int):MS:=(An (Br 2 (zA (Bs ns) (Ab 0)))
 (An (aA0 ns)
 (An (aB0 ns)
 (rQ (Ai .add (Ai .add (slF ns (Ab 1) Bd (Bv (Ab 3))) (Cm (yA (zB (Py ns) (Ab 0) (ixF ns (Ab 1) (Ab 3)))))) (slF ns (Ab 1) (Bv (Ai .add (Ab 3) (kI 1))) Bd))))))
def Qa(ns:List Int):List W->M W:=Dh 2 4 (P0 ns)
theorem Aa8(ns:List Int):Dw (Ax Dc) ((md ns).gm (Pz ns) Gu (Am Dc))=P0 ns:=by kernel_rfl
def Qc(ns:List Int):List (Str×Fi):=("_law_spoilt",⟨Qa ns,2,[]⟩)::Pz ns
def Qd(ns:List Int):MS:=(An (Br 2 (zA (Bs ns) (Ab 0)))
 (An (aA0 ns)
 (An (aB0 ns)
 (rQ (Ai .add (Ai .add (slF ns (Ab 1) Bd (Bv (Ab 3))) (Cm (yA (zB (Qa ns) (Ab 0) (ixF ns (Ab 1) (Ab 3)))))) (slF ns (Ab 1) (Bv (Ai .add (Ab 3) (kI 1))) Bd))))))
def Qe(ns:List Int):List W->M W:=Dh 2 4 (Qd ns)
theorem Aa9(ns:List Int):Dw (Ax Dc) ((md ns).gm (Qc ns) Gu (Am Dc))=Qd ns:=by kernel_rfl
def Qf(ns:List Int):List (Str×Fi):=("_law_spoilt",⟨Qe ns,2,[]⟩)::Qc ns
def Qg(ns:List Int):MS:=(An (Br 2 (zA (Bs ns) (Ab 0)))
 (An (aA0 ns)
 (An (aB0 ns)
 (rQ (Ai .add (Ai .add (slF ns (Ab 1) Bd (Bv (Ab 3))) (Cm (yA (zB (Qe ns) (Ab 0) (ixF ns (Ab 1) (Ab 3)))))) (slF ns (Ab 1) (Bv (Ai .add (Ab 3) (kI 1))) Bd))))))
def Qh(ns:List Int):List W->M W:=Dh 2 4 (Qg ns)
theorem Aba(ns:List Int):Dw (Ax Dc) ((md ns).gm (Qf ns) Gu (Am Dc))=Qg ns:=by kernel_rfl
def Qi(ns:List Int):List (Str×Fi):=("_law_spoilt",⟨Qh ns,2,[]⟩)::Qf ns
def Qj(ns:List Int):MS:=(An (Br 2 (zA (Bs ns) (Ab 0)))
 (An (aA0 ns)
 (An (aB0 ns)
 (rQ (Ai .add (Ai .add (slF ns (Ab 1) Bd (Bv (Ab 3))) (Cm (yA (zB (Qh ns) (Ab 0) (ixF ns (Ab 1) (Ab 3)))))) (slF ns (Ab 1) (Bv (Ai .add (Ab 3) (kI 1))) Bd))))))
def J8(ns:List Int):List W->M W:=Dh 2 4 (Qj ns)
theorem Abb(ns:List Int):Dw (Ax Dc) ((md ns).gm (Qi ns) Gu (Am Dc))=Qj ns:=by kernel_rfl
def Qk(ns:List Int):List (Str×Fi):=("_law_spoilt",⟨J8 ns,2,[]⟩)::Qi ns
abbrev Aew(ns:List Int):List W->M W:=J8 ns
abbrev Adg:dG:=top 25
noncomputable def Avn:List Str:=["number","many","text","left","place"]
abbrev aB5(ns:List Int):=An (Br 2 (Ai .add (ixF ns aD0 (Ai .and (Ab 3) (kI 63))) (Ab 2))) (An (Br 3 (Ai .shr (Ab 3) (kI 6))) Aw)
def Aj9(ns:List Int):MS:=(An (ifS (orT (Ea (Bf (zA (G6 ns) (Ab 0)))) (tQ .Lt (Ab 0) (kI 0))) (An (Qp 1 (yA (kS "no whole number from nought on")))
  Aw) Aw)
 (An (ifS (orT (Ea (Bf (zA (G6 ns) (Ab 1)))) (orT (tQ .Lt (Ab 1) (kI 1)) (tQ .Gt (Ab 1) (kI 3)))) (An (Qp 1 (yA (kS "a number is written by one to three signs")))
  Aw) Aw)
 (An (ifS (tQ .Gt (Ai .shr (Ab 0) (Ai .mul (kI 6) (Ab 1))) (kI 0)) (An (Qp 1 (yA (kS "a number greater than so many signs write")))
  Aw) Aw)
 (An (Br 2 (kS ""))
 (An (Br 3 (Ab 0))
 (An (My (J4 Fj (yA (Ab 1))) (Bg 4) (aB5 ns))
 (rQ (Ab 2))))))))
def Hv(ns:List Int):List W->M W:=Dh 2 5 (Aj9 ns)
theorem Avo(ns:List Int):Dw (Ax Adg) ((md ns).gm (Qk ns) Avn (Am Adg))=Aj9 ns:=by kernel_rfl
def Aka(ns:List Int):List (Str×Fi):=("digits",⟨Hv ns,2,[]⟩)::Qk ns
abbrev Lf:dG:=top 53
def Adh:List Str:=["numbers"]
def Rg(ns:List Int):MS:=(rQ (Ke .str K1 (kS "") (yA (Bt 1 [] (Cv ns (Ab 0)) (Bg 0) (λ_=>pure true) (zB (Hv ns) (Ab 0) (kI 2))))))
def Gi(ns:List Int):List W->M W:=Dh 1 1 (Rg ns)
theorem Adi(ns:List Int):Dw (Ax Lf) ((md ns).gm (Aka ns) Adh (Am Lf))=Rg ns:=by kernel_rfl
def Rh(ns:List Int):List (Str×Fi):=("numbers_text",⟨Gi ns,1,[]⟩)::Aka ns
abbrev Vu:dG:=top 54
def Amt:List Str:=["key"]
def Adj(ns:List Int):MS:=(rQ (Ai .add (zB (Hv ns) (zA (Bw ns) (Ab 0)) (kI 1)) (Ab 0)))
def Lg(ns:List Int):List W->M W:=Dh 1 1 (Adj ns)
theorem Amu(ns:List Int):Dw (Ax Vu) ((md ns).gm (Rh ns) Amt (Am Vu))=Adj ns:=by kernel_rfl
def Adk(ns:List Int):List (Str×Fi):=("key_text",⟨Lg ns,1,[]⟩)::Rh ns
abbrev Ri:dG:=top 55
def Akb:List Str:=["cell"]
abbrev aC7(ns:List Int):=zB (Hv ns) (zA (Bw ns) (ixF ns (Ab 0) (kI 1))) (kI 1)
def Aav(ns:List Int):MS:=(An (ifS (tQ .Eq (ixF ns (Ab 0) (kI 0)) (kS "in")) (rQ (Ai .add (Ai .add (kS "i") (aC7 ns)) (ixF ns (Ab 0) (kI 1)))) Aw)
 (rQ (Ai .add (kS "o") (zA (Gi ns) (slF ns (Ab 0) (Bv (kI 1)) Bd)))))
def Rj(ns:List Int):List W->M W:=Dh 1 1 (Aav ns)
theorem Akc(ns:List Int):Dw (Ax Ri) ((md ns).gm (Adk ns) Akb (Am Ri))=Aav ns:=by kernel_rfl
def Aaw(ns:List Int):List (Str×Fi):=("cell_text",⟨Rj ns,1,[]⟩)::Adk ns
abbrev Vv:dG:=top 56
def Amv:List Str:=["row"]
def Adl(ns:List Int):MS:=(rQ (Ai .add (zA (Lg ns) (ixF ns (Ab 0) (kI 0))) (zA (Rj ns) (ixF ns (Ab 0) (kI 1)))))
def N8(ns:List Int):List W->M W:=Dh 1 1 (Adl ns)
theorem Amw(ns:List Int):Dw (Ax Vv) ((md ns).gm (Aaw ns) Amv (Am Vv))=Adl ns:=by kernel_rfl
def Adm(ns:List Int):List (Str×Fi):=("row_text",⟨N8 ns,1,[]⟩)::Aaw ns
abbrev Rk:dG:=top 57
def Akd:List Str:=["page","keys"]
def Aax(ns:List Int):MS:=(An (ifS (tQ .Eq (ixF ns (Ab 0) (kI 0)) (kS "leaf")) (rQ (Ai .add (aC7 ns) (Ke .str K1 (kS "") (yA (Bt 1 [] (Cv ns (ixF ns (Ab 0) (kI 1))) (Bg 0) (λ_=>pure true) (zA (N8 ns) (Ab 0))))))) Aw)
 (An (ifS (tQ .Eq (ixF ns (Ab 0) (kI 0)) (kS "fork")) (An (Br 1 (Ke .str K1 (kS "") (yA (Bt 1 [] (Cv ns (ixF ns (Ab 0) (kI 1))) (Bg 0) (λ_=>pure true) (zA (Lg ns) (Ab 0))))))
  (rQ (Ai .add (Ai .add (aC7 ns) (Ab 1)) (zA (Gi ns) (ixF ns (Ab 0) (kI 2)))))) Aw)
 (An (ifS (tQ .Eq (ixF ns (Ab 0) (kI 0)) (kS "rest")) (rQ (Ai .add (zA (Gi ns) (slF ns (Ab 0) (Bv (kI 2)) Bd)) (ixF ns (Ab 0) (kI 1)))) Aw)
 (rQ (zA (Gi ns) (slF ns (Ab 0) (Bv (kI 1)) Bd))))))
def Rm(ns:List Int):List W->M W:=Dh 1 2 (Aax ns)
theorem Ake(ns:List Int):Dw (Ax Rk) ((md ns).gm (Adm ns) Akd (Am Rk))=Aax ns:=by kernel_rfl
def Aay(ns:List Int):List (Str×Fi):=("body_text",⟨Rm ns,1,[]⟩)::Adm ns
abbrev Xy:dG:=top 58
def Aq3:List Str:=["page"]
abbrev aD1(ns:List Int):=ifS (Ea (Bf (zA (Fq ns) (Ab 0)))) (An (Nq 6 [] (yB (kF .non) (kS "no page"))) Aw) Aw
def Af2(ns:List Int):MS:=(An (aD1 ns)
 (rQ (zA (Rm ns) (Ab 0))))
def Hk(ns:List Int):List W->M W:=Dh 1 1 (Af2 ns)
theorem Aq4(ns:List Int):Dw (Ax Xy) ((md ns).gm (Aay ns) Aq3 (Am Xy))=Af2 ns:=by kernel_rfl
def Af3(ns:List Int):List (Str×Fi):=("body_of",⟨Hk ns,1,[]⟩)::Aay ns
abbrev Vw:dG:=top 61
def Amx:List Str:=["page","numbers"]
def Adn(ns:List Int):MS:=(An (aD1 ns)
 (An (ifS (tQ .Eq (ixF ns (Ab 0) (kI 0)) (kS "head")) (An (Br 1 (Ef (yB (ixF ns (Ab 0) (kI 1)) (ixF ns (Ab 0) (kI 4)))))
  Aw) (An (ifS (tQ .Eq (ixF ns (Ab 0) (kI 0)) (kS "leaf")) (An (Br 1 (Bt 1 [] (Cv ns (ixF ns (Ab 0) (kI 1))) (Bg 0) (tQ .Eq (ixF ns (ixF ns (Ab 0) (kI 1)) (kI 0)) (kS "out")) (ixF ns (ixF ns (Ab 0) (kI 1)) (kI 2))))
   Aw) (An (ifS (tQ .Eq (ixF ns (Ab 0) (kI 0)) (kS "fork")) (An (Br 1 (zA (Afg ns) (ixF ns (Ab 0) (kI 2))))
    Aw) (An (Br 1 (Ef (yA (ixF ns (Ab 0) (Aen (kI 1))))))
    Aw))
   Aw))
  Aw))
 (rQ (Bt 1 [] (Cv ns (Ab 1)) (Bg 0) (tQ .NotEq (Ab 0) (kI 0)) (Ab 0)))))
def Ia(ns:List Int):List W->M W:=Dh 1 2 (Adn ns)
theorem Amy(ns:List Int):Dw (Ax Vw) ((md ns).gm (Af3 ns) Amx (Am Vw))=Adn ns:=by kernel_rfl
def Ado(ns:List Int):List (Str×Fi):=("leads_to",⟨Ia ns,1,[]⟩)::Af3 ns
abbrev Xz:dG:=top 42
def Aq5:List Str:=["size"]
def Af4(ns:List Int):MS:=(rQ (Ai .sub (Ab 0) (kI 5)))
def X3(ns:List Int):List W->M W:=Dh 1 1 (Af4 ns)
theorem Aq6(ns:List Int):Dw (Ax Xz) ((md ns).gm (Ado ns) Aq5 (Am Xz))=Af4 ns:=by kernel_rfl
def Af5(ns:List Int):List (Str×Fi):=("room_of",⟨X3 ns,1,[]⟩)::Ado ns
abbrev Rn:dG:=top 60
noncomputable def Akf:List Str:=["page","size","body","text"]
def Aaz(ns:List Int):MS:=(An (Br 2 (zA (Hk ns) (Ab 0)))
 (An (ifS (Ea (Bf (zA (Jq ns) (Ab 1)))) (An (Qp 3 (yA (kS "no size from 64 to 200")))
  Aw) Aw)
 (An (ifS (tQ .Gt (zA (Bw ns) (Ab 2)) (zA (X3 ns) (Ab 1))) (An (Nq 6 [] (yB (kF .non) (kS "a page that is too long for its size")))
  Aw) Aw)
 (An (Br 3 Eg)
 (rQ (Ai .add (Ab 3) Eg))))))
def G8(ns:List Int):List W->M W:=Dh 2 4 (Aaz ns)
theorem Akg(ns:List Int):Dw (Ax Rn) ((md ns).gm (Af5 ns) Akf (Am Rn))=Aaz ns:=by kernel_rfl
def Aa0(ns:List Int):List (Str×Fi):=("page_text",⟨G8 ns,2,[]⟩)::Af5 ns
abbrev Lh:dG:=top 82
noncomputable def Adp:List Str:=["_law_way","_law_thing","_law_size","e","_law_others"]
abbrev aB3(ns:List Int):=An (ifS (tQ .Eq (Ab 0) (kI 0)) (An (G4 (zA (Hk ns) (Ab 1))) Aw) (An (ifS (tQ .Eq (Ab 0) (kI 1)) (An (G4 (zA (Ia ns) (Ab 1))) Aw) (An (G4 (zB (G8 ns) (Ab 1) (Ab 2))) Aw)) Aw)) Aw
def Jb(ns:List Int):MS:=(An (Ai8 (exm 0) 3 (aB3 ns) (An (Br 4 (zB (Ei isa) (Ab 3) (Cm (Ci (kF (.cls 4)) (Ci (kF (.cls 12)) (yD (kF (.cls 1)) (kF (.cls 2)) (kF (.cls 5)) (kF (.cls 11))))))))
  (An (Br 4 (orF (Ab 4) (zB (Ei isa) (Ab 3) (Cm (yD (kF (.cls 8)) (kF (.cls 9)) (kF (.cls 7)) (kF (.cls 10)))))))
  (An (ifS (orT (Bf (Ab 4)) (Ea (Bf (zB (Ei isa) (Ab 3) (kF (.ty "ValueError")))))) (rQ (kS "other")) Aw)
  (An (ifS (Bf (zB (Ei isa) (Ab 3) (kF (.cls 6)))) (rQ (Lq (Vj (tQ .Is (Bfc fld "number" (Ab 3)) (kF .non)) (Ea (Bf (zB (Ei isa) (Ab 3) (kF (.cls 3)))))) (kS "page") (kS "other"))) Aw)
  (rQ (Lq (Bf (zB (Ei isa) (Ab 3) (kF (.cls 3)))) (kS "size") (kS "other"))))))))
 (rQ (kS "")))
def Bm(ns:List Int):List W->M W:=Dh 3 5 (Jb ns)
theorem Adq(ns:List Int):Dw (Ax Lh) ((md ns).gm (Aa0 ns) Adp (Am Lh))=Jb ns:=by kernel_rfl
def Ro(ns:List Int):List (Str×Fi):=("_law_refused",⟨Bm ns,3,[]⟩)::Aa0 ns
abbrev Jt:dG:=top 85
noncomputable def X4:List Str:=["_law_number_here","_law_keys","_law_rows","_law_page_here","_law_due","_law_long"]
abbrev aA3(ns:List Int):=An (ifS (orT (Ea (Bf (zB (Ei isa) (zA (Fq ns) (Ab 3)) (kF (.ty "bool"))))) (tQ .NotEq (zA (Fq ns) (Ab 3)) (Cq .Eq (Ai .mod (Ab 0) (kI 2)) (kI 0)))) (rQ (kB false)) Aw) (An (Br 4 (Lq (tQ .Eq (Ai .mod (Ab 0) (kI 2)) (kI 1)) (Ef (yC (kS "page") (kS "page") (kS "page"))) (Ef (yC (kS "") (kS "") (kS "page"))))) (An (ifS (tQ .NotEq (Bt 1 [3] (J4 Fj (yA (kI 3))) (Bg 0) (λ_=>pure true) (zC (Bm ns) (Ab 0) (Ab 1) (kI 200))) (Ab 4)) (rQ (kB false)) Aw) Aw))
abbrev aA7(ns:List Int):=yB (Ab 0) (ixF ns (Ef (yB (Cm (yB (kS "in") (kS ""))) (Cm (yC (kS "out") (Ai .add (kI 1) (Ai .mod (Ai .fdiv (Ab 1) (kI 2)) (kI 400))) (kI 7))))) (Ai .mod (Ai .fdiv (Ab 1) (kI 3)) (kI 2)))
abbrev aC3(ns:List Int):=Bt 1 [] (J4 Fj (yA (Ai .add (kI 63) (Ai .mod (Ab 0) (kI 2))))) (Bg 0) (λ_=>pure true) (zB (Bj ns) (Ab 0) (kI 2))
abbrev aD4(ns:List Int):=Ai .mul (Ef (yA (kI 5))) (Ai .add (zA (Bw ns) (Ab 1)) (kI 1))
def M8(ns:List Int):MS:=(An (Br 1 (zA Jz (aC3 ns)))
 (An (Br 2 (Bt 1 [0] (Cv ns (Ab 1)) (Bg 0) (λ_=>pure true) (Cm (aA7 ns))))
 (An (My (Cv ns (Ef (yB (Cm (yB (kS "leaf") (zA (Ep ns) (Ab 2)))) (Cm (yC (kS "fork") (zA (Ep ns) (Ab 1)) (zA (Ep ns) (aD4 ns))))))) (Bg 3) (aA3 ns))
 (An (Br 5 (Ef (yB (Cm (yB (kS "leaf") (Cm (yA (Cm (yB (kS "a") (Cm (yB (kS "in") (zB (Ez ns) (Ab 0) (kI 63)))))))))) (Cm (yC (kS "rest") (zB (Ez ns) (Ab 0) (kI 400)) (Ai .mod (Ab 0) (kI 4096)))))))
 (rQ (zA Jm (Bt 1 [] (Cv ns (Ab 5)) (Bg 0) (λ_=>pure true) (Ew (Cq .Is (zA (Fq ns) (Ab 0)) (kB true)) (Cq .Eq (zA (Hk ns) (Ab 0)) (zA (Ih ns) (Ab 0)))))))))))
def Hl(ns:List Int):List W->M W:=Dh 1 6 (M8 ns)
theorem X5(ns:List Int):Dw (Ax Jt) ((md ns).gm (Ro ns) X4 (Am Jt))=M8 ns:=by kernel_rfl
def M9(ns:List Int):List (Str×Fi):=("_law_many_rows",⟨Hl ns,1,[]⟩)::Ro ns
abbrev Rp:dG:=top 84
noncomputable def Akh:List Str:=["_law_page_here","_law_number_here","_law_at","_law_rows","_law_some","_law_word","_law_one","_law_found"]
abbrev aA9(ns:List Int):=My (Cv ns (Ef (yB (kS "") (kS "abcdefghijklm")))) (Bg 5) (An (Br 6 (Lq (tQ .Eq (ixF ns (Ab 0) (kI 0)) (kS "fork")) (Ab 5) (Cm (yB (Ab 5) (Cm (yB (kS "in") (kS ""))))))) (An (G4 (Ke .lst Lr (Ab 4) (yA (Ai .add (Ai .add (slF ns (Ab 3) Bd (Bv (Ab 2))) (Cm (yA (Ab 6)))) (slF ns (Ab 3) (Bv (Ai .add (Ab 2) (kI 1))) Bd))))) Aw))
abbrev aD6(ns:List Int):=slF ns (Ab 3) (Bv (Ab 2)) (Bv (Ai .add (Ab 2) (kI 1)))
abbrev aB1(ns:List Int):=Br 4 (Ef (yB (Ai .add (Ai .add (slF ns (Ab 3) Bd (Bv (Ab 2))) (aD6 ns)) (slF ns (Ab 3) (Bv (Ab 2)) Bd)) (Ai .add (Ai .add (slF ns (Ab 3) Bd (Bv (Ab 2))) (slF ns (Ab 3) (Bv (Ai .add (Ab 2) (kI 1))) Bd)) (aD6 ns))))
abbrev aD3(ns:List Int):=Br 2 (Ai .mod (Ai .fdiv (Ab 1) (kI 11)) (zA (Bw ns) (ixF ns (Ab 0) (kI 1))))
def Aa1(ns:List Int):MS:=(An (aD3 ns)
 (An (Br 3 (ixF ns (Ab 0) (kI 1)))
 (An (aB1 ns)
 (An (aA9 ns)
 (An (ifS (tQ .Eq (ixF ns (Ab 0) (kI 0)) (kS "leaf")) (rQ (Bt 1 [] (Cv ns (Ab 4)) (Bg 0) (λ_=>pure true) (Cm (yB (kS "leaf") (Ab 0))))) Aw)
 (An (Br 7 (Bt 1 [0] (Cv ns (Ab 4)) (Bg 0) (λ_=>pure true) (Cm (yC (kS "fork") (Ab 0) (slF ns (Ai .add (ixF ns (Ab 1) (kI 2)) (Cm (yA (kI 7)))) Bd (Bv (Ai .add (zA (Bw ns) (Ab 0)) (kI 1))))))))
 (rQ (Ai .add (Ab 7) (Ef (yC (Cm (yC (kS "fork") (Ab 3) (Ai .add (ixF ns (Ab 0) (kI 2)) (Cm (yA (kI 7)))))) (Cm (yC (kS "fork") (Ab 3) (slF ns (ixF ns (Ab 0) (kI 2)) (Bv (kI 1)) Bd))) (Cm (yC (kS "fork") (Ab 3) (Ai .add (Cm (yA (kI 0))) (slF ns (ixF ns (Ab 0) (kI 2)) (Bv (kI 1)) Bd))))))))))))))
def Ii(ns:List Int):List W->M W:=Dh 2 8 (Aa1 ns)
theorem Aki(ns:List Int):Dw (Ax Rp) ((md ns).gm (M9 ns) Akh (Am Rp))=Aa1 ns:=by kernel_rfl
def Akj(ns:List Int):List (Str×Fi):=("_law_bent",⟨Ii ns,2,[]⟩)::M9 ns
abbrev Af6:dG:=top 86
noncomputable def Bka:List Str:=["_law_script","_law_state","_law_number_here","_law_long","_law_thing","_law_odd_here","_law_size","_law_page_here","_law_kept","_law_bad"]
abbrev aC4(ns:List Int):=Ea (Bf (zA Jm (Bt 1 [6] (Cv ns (zB (Ii ns) (Ab 7) (Ab 2))) (Bg 0) (λ_=>pure true) (zB (Ce ns) (Ab 0) (Ab 1)))))
abbrev aC5(ns:List Int):=Vj (tQ .In (ixF ns (Ab 7) (kI 0)) (Cm (yB (kS "leaf") (kS "fork")))) (tQ .NotEq (ixF ns (Ab 7) (kI 1)) (Cm nilF))
abbrev aA1(ns:List Int):=An (Br 8 (zA Tj (Ab 4))) (An (ifS (orT (Ea (Bf (zB (Ce ns) (Ab 4) (Ab 6)))) (Ea (Bf (zB (Ce ns) (Ab 7) (Ab 6))))) (rQ (kB false)) Aw) (An (ifS (aC5 ns) (An (ifS (aC4 ns) (rQ (kB false)) Aw) Aw) Aw) (An (Br 9 (ixF ns (Ef (Ci (kI 63) (Ci (kI 201) (Ci (kF .non) (yD (kS "64") (kB true) (Aen (kI 5)) (Ai .add (kI 201) (Ab 2))))))) (Ai .mod (Ai .fdiv (Ab 2) (kI 9)) (kI 7)))) (An (ifS (Ea (Bf (zA (G7 ns) (Ab 4)))) (An (ifS (tQ .NotEq (Bt 1 [9,4] (J4 Fj (yA (kI 3))) (Bg 0) (λ_=>pure true) (zC (Bm ns) (Ab 0) (Ab 2) (Ab 1))) (Ai .mul (Ef (yA (kS "page"))) (kI 3))) (rQ (kB false)) Aw) Aw) (An (ifS (tQ .NotEq (zC (Bm ns) (kI 2) (Ab 4) (Ab 9)) (kS "size")) (rQ (kB false)) Aw) Aw)) (rQ (Cq .Eq (zA Tj (Ab 4)) (Ab 8)))))))
abbrev aB4:=Ef (Ci (kF .non) (Ci (kB true) (Ci (kS "64") (Ci (Ef nilF) (Ci (Ef (yA (kS "a"))) (Ci (Cm (yA (kS "a"))) (yD (M3 []) (kS "a\n") (kS "\t") (Ai .mod (Ab 2) (kI 300)))))))))
abbrev aC1(ns:List Int):=ifS (Vj (tQ .Eq (Ai .mod (Ai .fdiv (Ab 2) (kI 5)) (kI 9)) (kI 1)) (Ea (Bf (zA (Hl ns) (Ai .fdiv (Ab 2) (kI 45)))))) (rQ (kB false)) Aw
def Bcd(ns:List Int):MS:=(An (Br 1 (M3 [((kS "cells"),(Ab 0)),((kS "at"),(kI 0))]))
 (An (Br 2 (zA (Bs ns) (Ab 1)))
 (An (Br 3 (zB (Ez ns) (Ab 2) (ixF ns (Ef (yD (kI 400) (kI 401) (kI 12) (kI 13))) (Ai .mod (Ai .fdiv (Ab 2) (kI 15)) (kI 4)))))
 (An (My (Cv ns (Ef (Ci (zB (Ez ns) (Ab 2) (Ai .mod (Ab 2) (kI 15))) (Ci (Ab 3) (yD (kI 63) (kI 64) (kI 200) (kI 201)))))) (Bg 4) (An (ifS (Ea (Bf (zB (Ce ns) (Ab 4) (kI 64)))) (rQ (kB false)) Aw)
  Aw))
 (An (Br 5 (ixF ns aB4 (Ai .mod (Ai .fdiv (Ab 2) (kI 60)) (kI 10))))
 (An (ifS (Ea (Bf (zB (Ce ns) (Ab 5) (kI 64)))) (rQ (kB false)) Aw)
 (An (aC1 ns)
 (An (Br 6 (Ai .add (kI 64) (Ai .mod (Ai .fdiv (Ab 2) (kI 7)) (kI 137))))
 (An (Br 7 (zB (Q8 ns) (Ab 1) (Ab 6)))
 (An (Br 4 (Ab 7))
 (An (ifS (tQ .Gt (Ai .mod (Ai .fdiv (Ab 2) (kI 1000)) (kI 3)) (kI 0)) (An (Br 4 (zB (Aew ns) (Ab 1) (Ab 7)))
  Aw) Aw)
 (aA1 ns))))))))))))
def Aoj(ns:List Int):List W->M W:=Dh 1 10 (Bcd ns)
theorem Bkb(ns:List Int):Dw (Ax Af6) ((md ns).gm (Akj ns) Bka (Am Af6))=Bcd ns:=by kernel_rfl
abbrev Do:dG:=inClass (top 7) 0
theorem Abd:Hf ["self","number","words"] ["self","number","words"] (Am Do):=⟨rfl,rfl,rfl,by decide +kernel,rfl,by decide +kernel,by decide +kernel⟩
theorem all_mk{l:rY}{w:dO}{K:aF}{h:dN}{mg:Str->Option aJ}{fa:aQ}{c0 c1 c2 c3 c4 c5 c6 c7 c8 c9 c10 c11 c12:aQ}{f18 f46:aQ}{od18 an18 od46 an46:Option aQ}{sl18 sl46:Array (Option aJ)}{oc18 kV18 dc18 pm18 cd18 ct18 oc46 kV46 dc46 pm46 cd46 ct46:aJ}{t18:aQ}{do18:aJ}{dd18:Option aQ}{dn18:Nat}{dz18:Array (Option aJ)}{dk18_0:Tok}{t46:aQ}{do46:aJ}{dd46:Option aQ}{dn46:Nat}{dz46:Array (Option aJ)}{dk46_1:Tok}{tk0 tk1 tk2 tk3 tk4 tk5 tk6 tk7 tk8 tk9 tk10 tk11 tk12 tk13:Tok}(X:K.In h)(G:h.Ns mainGlobals mg)(hfa:mg "law"=some (.ref fa))(law:∀ns:List Int,ns.length<=63->∃S',Aoj ns [.scr] []=.ok (.bl true) S')(C0:bL K mainGlobals "TableError"=some (some (.ref c0)))(C1:bL K mainGlobals "BadNumber"=some (some (.ref c1)))(C2:bL K mainGlobals "BadText"=some (some (.ref c2)))(C3:bL K mainGlobals "BadSize"=some (some (.ref c3)))(C4:bL K mainGlobals "BadKey"=some (some (.ref c4)))(C5:bL K mainGlobals "BadValue"=some (some (.ref c5)))(C6:bL K mainGlobals "BadPage"=some (some (.ref c6)))(C7:bL K mainGlobals "NoKey"=some (some (.ref c7)))(C8:bL K mainGlobals "InBundle"=some (some (.ref c8)))(C9:bL K mainGlobals "NoBundle"=some (some (.ref c9)))(C10:bL K mainGlobals "PowerGone"=some (some (.ref c10)))(C11:bL K mainGlobals "Closed"=some (some (.ref c11)))(C12:bL K mainGlobals "BadLine"=some (some (.ref c12)))(D0:Fe K mg "_law_cell_at" K8 ["_law_script","_law_k"])(D1:Fe K mg "_law_next" Q0 ["_law_state"])(D2:Fe K mg "_law_signs" N5 [])(D3:Fe K mg "_law_text" Q4 ["_law_number_here","_law_size"])(D4:Fe K mg "_law_rising" Ml ["_law_state","_law_many"])(D5:Fe K mg "_law_cell" Q5 ["_law_state","_law_size"])(D6:Fe K mg "_law_digits" Mp ["_law_number_here","_law_many"])(D7:Fe K mg "_law_body" Q6 ["_law_page_here"])(D8:Fe K mg "_law_page" Q7 ["_law_state","_law_size"])(D9:Fe K mg "is_text" Xp ["thing"])(D10:Fe K mg "is_key" Acy ["thing"])(D11:Fe K mg "is_value" Vn ["thing"])(D12:Fe K mg "is_whole" Vp ["thing"])(D13:Fe K mg "is_size" Xq ["thing"])(D14:Fe K mg "word_of" Xr ["thing"])(D15:Fe K mg "are_rising_keys" Ja ["keys"])(D16:Fe K mg "is_tuple_of" Mq ["thing","many"])(D17:Fe K mg "is_text_of" N6 ["thing","least","most"])(ca18:bL K mainGlobals "is_number"=some (some (.ref f18)))(cl18:K.lookup f18=some ⟨oc18,od18,.func (dD "is_number" "is_number" (Fw Dd) (Ax Dd) (Am Dd) (.ref t18) kV18 dc18 pm18 an18 cd18 ct18),sl18⟩)(cc18:lJ K cd18 "is_number"=true)(ck18:fM K (.ref f18)=true)(dl18:K.lookup t18=some ⟨do18,dd18,.seq #[(.int 0 dk18_0)] dn18,dz18⟩)(D19:Fe K mg "is_cell" Xu ["thing"])(D20:Fe K mg "are_rows" Vq ["thing"])(D21:Fe K mg "are_keys" Vr ["thing"])(D22:Fe K mg "are_kids" Vs ["thing","many"])(D23:Fe K mg "is_page" Xv ["thing"])(D24:Fe K mg "_law_good_text" Js ["_law_thing","_law_least","_law_most"])(D25:Fe K mg "_law_number" Mr ["_law_thing","_law_least","_law_most"])(D26:Fe K mg "_law_rise" Q9 ["_law_keys"])(D27:Fe K mg "_law_is_cell" Ld ["_law_thing"])(D28:Fe K mg "_law_is_page" Le ["_law_thing"])(D29:Fe K mg "_law_looks" N7 ["_law_thing","_law_size"])(D30:Fe K mg "_law_odd" Vt ["_law_number_here","_law_thing"])(D31:Fe K mg "_law_spoilt" Dc ["_law_state","_law_thing"])(D32:Fe K mg "digits" Adg ["number","many"])(D33:Fe K mg "numbers_text" Lf ["numbers"])(D34:Fe K mg "key_text" Vu ["key"])(D35:Fe K mg "cell_text" Ri ["cell"])(D36:Fe K mg "row_text" Vv ["row"])(D37:Fe K mg "body_text" Rk ["page"])(D38:Fe K mg "body_of" Xy ["page"])(D39:Fe K mg "leads_to" Vw ["page"])(D40:Fe K mg "room_of" Xz ["size"])(D41:Fe K mg "page_text" Rn ["page","size"])(D42:Fe K mg "_law_refused" Lh ["_law_way","_law_thing","_law_size"])(D43:Fe K mg "_law_many_rows" Jt ["_law_number_here"])(D44:Fe K mg "_law_bent" Rp ["_law_page_here","_law_number_here"])(D45:Fe K mg "law" Af6 ["_law_script"])(ca46:dH K (.ref c6) "__init__"=some (some (.ref f46)))(cl46:K.lookup f46=some ⟨oc46,od46,.func (dD "__init__" "BadPage.__init__" (Fw Do) (Ax Do) (Am Do) (.ref t46) kV46 dc46 pm46 an46 cd46 ct46),sl46⟩)(cc46:lJ K cd46 "BadPage.__init__"=true)(ck46:fM K (.ref f46)=true)(dl46:K.lookup t46=some ⟨do46,dd46,.seq #[.none,(.str "no page as it is wanted" dk46_1)] dn46,dz46⟩)(g0:bL K mainGlobals "SIGNS"=some (some (.str "0123456789abcdefghijklmnopqrstuvwxyzABCDEFGHIJKLMNOPQRSTUVWXYZ+-" tk0)))(g1:bL K mainGlobals "BITS"=some (some (.int 6 tk1)))(g2:bL K mainGlobals "LOWEST_BITS"=some (some (.int 63 tk2)))(g3:bL K mainGlobals "MOST_SIGNS"=some (some (.int 3 tk3)))(g4:bL K mainGlobals "TEXT_SIGNS"=some (some (.str " !\"#$&'()*+,-./0123456789:;<=>?@ABCDEFGHIJKLMNOPQRSTUVWXYZ[\\]^_`abcdefghijklmnopqrstuvwxyz{|}~" tk4)))(g5:bL K mainGlobals "MOST_KEY_SIGNS"=some (some (.int 12 tk5)))(g6:bL K mainGlobals "MOST_VALUE_SIGNS"=some (some (.int 400 tk6)))(g7:bL K mainGlobals "LEAST_SIZE"=some (some (.int 64 tk7)))(g8:bL K mainGlobals "MOST_SIZE"=some (some (.int 200 tk8)))(g9:bL K mainGlobals "MOST_NUMBER"=some (some (.int 4095 tk9)))(g10:bL K mainGlobals "MOST_ROWS"=some (some (.int 63 tk10)))(g11:bL K mainGlobals "MOST_CELL_SIGNS"=some (some (.int 63 tk11)))(g12:bL K mainGlobals "NUMBER_SIGNS"=some (some (.int 2 tk12)))(g13:bL K mainGlobals "SIGNS_BESIDE_BODY"=some (some (.int 5 tk13)))(z0:bL K mainGlobals "isinstance"=some none)(z1:bL K mainGlobals "len"=some none)(z2:bL K mainGlobals "max"=some none)(z3:bL K mainGlobals "sum"=some none)(z4:bL K mainGlobals "all"=some none)(z5:bL K mainGlobals "tuple"=some none)(z6:bL K mainGlobals "list"=some none)(z7:bL K mainGlobals "sorted"=some none)(z8:bL K mainGlobals "repr"=some none)(z9:bL K mainGlobals "range"=some none)(z10:bL K mainGlobals "zip"=some none)(z11:bL K mainGlobals "int"=some none)(z12:bL K mainGlobals "bool"=some none)(z13:bL K mainGlobals "str"=some none)(z14:bL K mainGlobals "ValueError"=some none)(x1:Ain K c1)(x3:Ain K c3)(isL:Aoc K [c0,c1,c2,c3,c4,c5,c6,c7,c8,c9,c10,c11,c12] Bj3=true)(veL:Au0 K [c0,c1,c2,c3,c4,c5,c6,c7,c8,c9,c10,c11,c12] Bj4=true)(exL:Aod K [c0,c1,c2,c3,c4,c5,c6,c7,c8,c9,c10,c11,c12] Bj9=true)(xa46:Agz K c6 f46=true)(xk46:fM K (.ref c6)=true)(xf46:Bf9 K f46=true)(xs46:xsB K c6 "number"=true)(xb46:xbB K c0=true)(xl:Au2 K [c0,c1,c2,c3,c4,c5,c6,c7,c8,c9,c10,c11,c12] xfL=true): ∃fd:eO,(∀(s:aZ)(v:aJ),vN s fd ⟨[v],[]⟩ [("_law_script",v)])/\∀base:dN,K.In base->base.Ns mainGlobals mg->Io l.prog w K mg base (CXo l.prog w) 104 fa fd ["_law_script"] (An8 K):=by
 obtain⟨fL,kV,dc,pm,an,cd,ct,Fl,hm⟩:=D45;have e:fa=fL:=zG (bV (hfa.symm.trans hm));rw[e];have F18:=Alc (st:=Dd) cl18 cc18 ck18;have b18:Binds K (dD "is_number" "is_number" (Fw Dd) (Ax Dd) (Am Dd) (.ref t18) kV18 dc18 pm18 an18 cd18 ct18) ["thing","least"] []:=λs us KX hl=>by
  have hl':us.length=2:=by simpa using hl
  obtain⟨_,_,rfl⟩:=Bjw hl';exact .of_defaults rfl (KX _ _ dl18) rfl rfl rfl
 have v18:Binds K (dD "is_number" "is_number" (Fw Dd) (Ax Dd) (Am Dd) (.ref t18) kV18 dc18 pm18 an18 cd18 ct18) ["thing","least"] [(.int 0 dk18_0)]:=λs us KX hl=>by
  have hl':us.length=1:=by simpa using hl
  obtain⟨_,rfl⟩:=Bgd hl';exact .of_defaults rfl (KX _ _ dl18) rfl rfl rfl
 have D18:Pk K mg "is_number" Dd ["thing","least"] f18 (dD "is_number" "is_number" (Fw Dd) (Ax Dd) (Am Dd) (.ref t18) kV18 dc18 pm18 an18 cd18 ct18):=⟨F18,bQ X G ca18,b18⟩;have F46:=Alc (st:=Do) cl46 cc46 ck46;have b46:Binds K (dD "__init__" "BadPage.__init__" (Fw Do) (Ax Do) (Am Do) (.ref t46) kV46 dc46 pm46 an46 cd46 ct46) ["self","number","words"] []:=λs us KX hl=>by
  have hl':us.length=3:=by simpa using hl
  obtain⟨_,_,_,rfl⟩:=Bl3 hl';exact .of_defaults rfl (KX _ _ dl46) rfl rfl rfl
 have v46:Binds K (dD "__init__" "BadPage.__init__" (Fw Do) (Ax Do) (Am Do) (.ref t46) kV46 dc46 pm46 an46 cd46 ct46) ["self","number","words"] [.none,(.str "no page as it is wanted" dk46_1)]:=λs us KX hl=>by
  have hl':us.length=1:=by simpa using hl
  obtain⟨_,rfl⟩:=Bgd hl';exact .of_defaults rfl (KX _ _ dl46) rfl rfl rfl
 refine⟨dD "law" "law" (Fw Af6) (Ax Af6) (Am Af6) .none kV dc pm an cd ct,λs v=>.of_eq rfl,λbase _ _=>Bf7 (xf:=λc=>xfL.lookup c) (cl:=addrs [c0,c1,c2,c3,c4,c5,c6,c7,c8,c9,c10,c11,c12]) (g:=Aoj) law λl' ns=>?_⟩;let Θ:=Aux K (addrs [c0,c1,c2,c3,c4,c5,c6,c7,c8,c9,c10,c11,c12]) l' ns λc=>xfL.lookup c;have M:(md ns).Ok Θ K mg:={
  hK:=rfl,ns:=rfl
  con:=AllP.at (L:=Bj5) (P:=Auz Θ mg) ⟨An9 (bQ X G g0),Hx (bQ X G g1),Hx (bQ X G g2),Hx (bQ X G g3),An9 (bQ X G g4),Hx (bQ X G g5),Hx (bQ X G g6),Hx (bQ X G g7),Hx (bQ X G g8),Hx (bQ X G g9),Hx (bQ X G g10),Hx (bQ X G g11),Hx (bQ X G g12),Hx (bQ X G g13),Xh (cH X G z11) (by kernel_rfl),Xh (cH X G z12) (by kernel_rfl),Xh (cH X G z13) (by kernel_rfl),Xh (cH X G z5) (by kernel_rfl),Xh (cH X G z6) (by kernel_rfl),Xh (cH X G z14) (by kernel_rfl),Hg (bQ X G C0),Hg (bQ X G C1),Hg (bQ X G C2),Hg (bQ X G C3),Hg (bQ X G C4),Hg (bQ X G C5),Hg (bQ X G C6),Hg (bQ X G C7),Hg (bQ X G C8),Hg (bQ X G C9),Hg (bQ X G C10),Hg (bQ X G C11),Hg (bQ X G C12),trivial⟩
  bi:=AllB.at (L:=biL) (P:=λx=>mg x=none) ⟨cH X G z0,cH X G z1,cH X G z2,cH X G z3,cH X G z4,cH X G z5,cH X G z6,cH X G z7,cH X G z8,cH X G z9,cH X G z10,trivial⟩
  fld:=Bgb xl
  isa:=Bga isL veL
  exc:=AllP.at (L:=Bj6) (P:=λx c=>Θ.xf c=none/\Ain K (Θ.cl c)/\mg x=some (.ref (Θ.cl c))) ⟨⟨rfl,x1,bQ X G C1⟩,⟨rfl,x3,bQ X G C3⟩,trivial⟩
  hcl:=AllP.at (L:=Bj8) (P:=λx k=>mg x=some (.ref (Θ.cl k))) ⟨bQ X G C0,trivial⟩
  exm:=λk c h=>Bgc exL k c h }
 have hI:XiT Θ (md ns) l.prog w K mg base 1:=λx c dv h=>AllP.at (L:=Bj7) (P:=λx (p:Nat×List W)=>∃f,Θ.xf p.1=some f/\mg x=some (.ref (Θ.cl p.1))/\∃(fI:aQ)(fd:eO)(ps:List Str)(dvs:List V)(ds:List aJ),Agz K (Θ.cl p.1) fI=true/\fM K (.ref (Θ.cl p.1))=true/\lQ K (.ref fI)=some (.type "function")/\Io l.prog w K mg base (CXo l.prog w) 1 fI fd ps (Ap5 (Θ.cl p.1) f) true/\Binds K fd ps ds/\Vals dvs ds/\dvs.length=p.2.length) ⟨⟨_,rfl,bQ X G C6,f46,_,_,[],[],xa46,xk46,Azz xf46,Bi2 F46 Abd rfl (bQ X G C0) (Bju xb46) (Bjt xs46) xa46 (by decide +kernel) (by decide +kernel) (by decide +kernel) (by decide +kernel) (by decide +kernel) (by decide +kernel) (by decide +kernel),b46,.nil,rfl⟩,trivial⟩ x (c,dv) h
 have t:TU Θ (md ns) l.prog w K mg base 2 (T_0 ns):=⟨Tbl.nil,hI,by decide,M⟩
 have t:=Ex (Acx ns) t D0;have t:=Ex (Aju ns) t D1;have t:=Ex (Ahm ns) t D2;have t:=Ex (Ajw ns) t D3;have t:=Ex (Aep ns) t D4;have t:=Ex (Ajy ns) t D5;have t:=Ex (Aer ns) t D6;have t:=Ex (Aj0 ns) t D7;have t:=Ex (Aj2 ns) t D8;have t:=Ex (Aqu ns) t D9;have t:=Ex (Avm ns) t D10;have t:=Ex (Ami ns) t D11;have t:=Ex (Amk ns) t D12;have t:=Ex (Aqw ns) t D13;have t:=Ex (Aqy ns) t D14;have t:=Ex (Wj ns) t D15;have t:=Ex (Aet ns) t D16;have t:=Ex (Aho ns) t D17;have t:=Bjv (dv:=[(.int 0)]) (Aj6 ns) t D18 rfl ((.cons ⟨_,rfl⟩ .nil)) v18;have t:=Ex (Aq0 ns) t D19;have t:=Ex (Amm ns) t D20;have t:=Ex (Amo ns) t D21;have t:=Ex (Amq ns) t D22;have t:=Ex (Aq2 ns) t D23;have t:=Ex (Xx ns) t D24;have t:=Ex (Aev ns) t D25;have t:=Ex (Aj8 ns) t D26;have t:=Ex (Ada ns) t D27;have t:=Ex (Adc ns) t D28;have t:=Ex (Ahq ns) t D29;have t:=Ex (Ams ns) t D30;have t:=Ex (Aa6 ns) t D31;have t:=Ex (Aa7 ns) t D31;have t:=Ex (Aa8 ns) t D31;have t:=Ex (Aa9 ns) t D31;have t:=Ex (Aba ns) t D31;have t:=Ex (Abb ns) t D31;have t:=Ex (Avo ns) t D32;have t:=Ex (Adi ns) t D33;have t:=Ex (Amu ns) t D34;have t:=Ex (Akc ns) t D35;have t:=Ex (Amw ns) t D36;have t:=Ex (Ake ns) t D37;have t:=Ex (Aq4 ns) t D38;have t:=Ex (Amy ns) t D39;have t:=Ex (Aq6 ns) t D40;have t:=Ex (Akg ns) t D41;have t:=Ex (Adq ns) t D42;have t:=Ex (X5 ns) t D43;have t:=Ex (Aki ns) t D44;exact Bl2 (Bkb ns) t ⟨Fl,hm,Ail (alS λ_=>al0 rfl)⟩
section
variable{ns:List Int}
theorem Ju(i:Int):Pu P (G6 ns [.int i]) (.bl true):=λS _=>⟨[],by rw[bJ];rfl⟩
theorem Abs(v:Int)(h0:0<=v)(h:v < 64):Pu P (ixW ns (.str "0123456789abcdefghijklmnopqrstuvwxyzABCDEFGHIJKLMNOPQRSTUVWXYZ+-") (.int v)) (.str (M1.one (M1.sg v.toNat))):=by
 obtain⟨k,rfl⟩:=Int.eq_ofNat_of_zero_le h0;have hk:k < 64:=by omega
 have e:atI M1.sgs.cps.toList (k:Int)=some (M1.sg k):=by
  unfold atI ixN;rw[if_pos h0,if_pos (by rw[cN,M1.Ajr];exact h)]
  show M1.sgs.cps.toList[((k:Nat):Int).toNat]?=_;rw[cV,M1.Bgl hk]
 show Pu P (if M1.sgs.length<=big then Ag5 ((atI M1.sgs.cps.toList (k:Int)).map λc=>W.str ⟨#[c]⟩) else bad) _
 rw[e];exact Lw (by decide +kernel) Pu.pure
def Bgm{n:Int}(h:0<=n):mZ n 63=n % 64:=bitAnd_m6 _
theorem Adr{n:Int}(h0:0<=n)(ht:t.length<=10):PuN P (aB5 ns)
  [a,b,some (.str t),some (.int n),c] [a,b,some (.str (M1.one (M1.sg (n % 64).toNat) ++ t)),some (.int (n / 64)),c]:=by
 refine Nt (Bx (Aj (Av Ad (Aj (Af rfl) Ad Aqn) ?_) (Af rfl) (Dl ?_))) (Nt (Bx (Aj (Af rfl) Ad (Al6 (by decide)))) Ar)
 .rw[Bgm h0];exact Abs _ (by omega) (by omega)
 .show 1+t.length<=big;unfold big;omega
theorem Bah{n:Int}(h0:0<=n)(h1:n < 64):Pu P (Hv ns [.int n,.int 1]) (.str (M1.Dq 1 n)):=by
 apply Be rfl;refine Ca (Dp (Ej (Az (Ag (Ae (Aa (Af rfl) Ac) (Ju n)))) (Ag (Ah (Af rfl) Ad M5))) (by simp;omega) Ar) ?_
 refine Ca (Dp (Ej (Az (Ag (Ae (Aa (Af rfl) Ac) (Ju 1)))) (Ej (Ag (Ah (Af rfl) Ad M5)) (Ag (Ah (Af rfl) Ad Ji)))) rfl Ar) ?_;refine Ca (Dp (Ag (Ah (Aj (Af rfl) (Aj Ad (Af rfl) (Kf (by decide +kernel))) (Al6 (by decide))) Ad Ji)) (by
  have:n / 64=0:=by omega
  simp;show n / 64<=0;omega) Ar) ?_
 refine Ca (Bx Ad) (Ca (Bx (Af rfl)) ?_);refine Ca (Nu (J1 (k:=1) (Aa (Af rfl) Ac) (by decide)) (J5 rfl (Adr h0 (by decide +kernel)) Sd)) (Aq (Ao (Pu.cast (Af rfl) ?_)))
 show W.str (M1.one (M1.sg (n % 64).toNat) ++ ⟨#[]⟩)=W.str (M1.one (M1.sg (n / 64 ^ 0 % 64).toNat) ++ ⟨#[]⟩);rw[rN,nC]
theorem Bai{n:Int}(h0:0<=n)(h1:n < 4096):Pu P (Hv ns [.int n,.int 2]) (.str (M1.Dq 2 n)):=by
 apply Be rfl;refine Ca (Dp (Ej (Az (Ag (Ae (Aa (Af rfl) Ac) (Ju n)))) (Ag (Ah (Af rfl) Ad M5))) (by simp;omega) Ar) ?_
 refine Ca (Dp (Ej (Az (Ag (Ae (Aa (Af rfl) Ac) (Ju 2)))) (Ej (Ag (Ah (Af rfl) Ad M5)) (Ag (Ah (Af rfl) Ad Ji)))) rfl Ar) ?_;refine Ca (Dp (Ag (Ah (Aj (Af rfl) (Aj Ad (Af rfl) (Kf (by decide +kernel))) (Al6 (by decide))) Ad Ji)) (by
  simp;show n / 4096<=0;omega) Ar) ?_
 refine Ca (Bx Ad) (Ca (Bx (Af rfl)) ?_);refine Ca (Nu (J1 (k:=2) (Aa (Af rfl) Ac) (by decide)) (J5 rfl (Adr h0 (by decide +kernel)) (J5 rfl (Adr (by omega) (by show 1+0<=10;decide)) Sd))) (Aq (Ao (Pu.cast (Af rfl) ?_)))
 show W.str (M1.one (M1.sg (n / 64 % 64).toNat) ++ (M1.one (M1.sg (n % 64).toNat) ++ ⟨#[]⟩))=W.str (M1.one (M1.sg (n / 64 ^ 1 % 64).toNat) ++ (M1.one (M1.sg (n / 64 ^ 0 % 64).toNat) ++ ⟨#[]⟩));rw[rN,nC];rfl
end
section
variable{ns:List Int}
theorem Bgn(h1:Pu P (f Z) (.str z))(h2:Pu P (gs Z) ws)(h3:Pu P (op (.str z) ws) w):Pu P (Ke .str op f gs Z) w:=by
 refine h1.bind (Pu.bind (a:=()) (λS _=>⟨[],?_⟩) (h2.bind h3));rw[bJ];rfl
def Avp(hz:z.length<=big):Pu P (Ag6 (.str z) [.str y]) (.str (gB z y)):=Lw hz Pu.pure
theorem Aq7:("":Str)=⟨#[]⟩:=by decide +kernel
theorem Ahr(z:Str)(hz:z.length<=big):Pu P (Ko ns [.str z]) (.bl (M2.G5 z)):=by
 apply Be rfl;apply Aq;apply Ao;refine Bk (Ae (Aa (Af rfl) (Aa Ad Ac)) (λS _=>⟨[],by rw[bJ];rfl⟩)) ?_
 refine Pu.cast (Ah (Bgn (Af rfl) (Aa Ad Ac) (Avp hz)) Ad Bc) ?_;show W.bl (gB z M2.tsg==("":Str))=_;rw[Aq7,M2.Amg]
def len_str(hz:z.length<=big):Pu P (Bw ns [.str z]) (.int z.length):=Lw hz Pu.pure
def Bh:Pu P (Bw ns [.tup ws]) (.int ws.length):=Pu.pure
theorem Wq:Pu P (Ei isa [.str z,.ty "str"]) (.bl true):=λS _=>⟨[],by rw[bJ];rfl⟩
theorem Em:Pu P (Ei isa [.tup ws,.ty "tuple"]) (.bl true):=λS _=>⟨[],by rw[bJ];rfl⟩
def isKey(z:Str):Bool:=M2.G5 z&&(decide (1<=z.length)&&decide (z.length<=12))
theorem Amz(z:Str)(hz:z.length<=big):Pu P (J6 ns [.str z]) (.bl (isKey z)):=by
 apply Be rfl;apply Aq;apply Ao;refine Pu.cast (Gf (Ae (Aa (Af rfl) Ac) (Ahr z hz)) (Iu Ad (Ae (Aa (Af rfl) Ac) (len_str hz)) Ht Ad Ht)) ?_;unfold isKey
 congr 3
 .exact decide_eq_decide.mpr (by omega)
 .exact decide_eq_decide.mpr (by omega)
def Fd(n k:Int):Bool:=decide (k<=n)&&decide (n<=4095)
theorem Ahs(n k:Int):Pu P (Dv ns [.int n,.int k]) (.bl (Fd n k)):=by
 apply Be rfl;apply Aq;apply Ao;exact Bk (Ae (Aa (Af rfl) Ac) (Ju n)) (Iu (Af rfl) (Af rfl) Ht Ad Ht)
theorem X6(z:Str)(a b:Int)(hz:z.length<=big):Pu P (Hj ns [.str z,.int a,.int b]) (.bl (M2.G5 z&&(decide (a<=z.length)&&decide ((z.length:Int)<=b)))):=by
 apply Be rfl;apply Aq;apply Ao;exact Gf (Ae (Aa (Af rfl) Ac) (Ahr z hz)) (Iu (Af rfl) (Ae (Aa (Af rfl) Ac) (len_str hz)) Ht (Af rfl) Ht)
theorem Ads(ws:List W)(n:Int):Pu P (Fb ns [.tup ws,.int n]) (.bl ((ws.length:Int)==n)):=by
 apply Be (ws:=[.tup ws,.int n]) rfl;apply Aq;apply Ao;exact Bk (Ae (Aa (Af rfl) (Aa Ad Ac)) Em) (Ah (Ae (Aa (Af rfl) Ac) Bh) (Af rfl) Ff)
theorem Ak{i:Int}(h:atI ws i=some w):Pu P (ixW ns (.tup ws) (.int i)) w:=by
 show Pu P (Ag5 (atI ws i)) w;rw[h];exact Pu.pure
theorem Pa(z:Str)(ws:List W):Pu P (Kp ns [.tup (.str z::ws)]) (.str z):=by
 have e:atI (W.str z::ws) 0=some (W.str z):=by
  unfold atI ixN;rw[if_pos (by decide),if_pos (by rw[aU];omega)]
  rfl
 apply Be rfl;apply Aq;apply Ed
 .apply Nv
  .apply Ag;exact Ae (Aa (Af rfl) (Aa Ad Ac)) Em
  apply Nv
  .apply Ag;exact Ah (Ae (Aa (Af rfl) Ac) Bh) Ad Ji
  .apply Ag;exact Ae (Aa (Av (Af rfl) Ad (Ak e)) (Aa Ad Ac)) Wq
 .simp
 .exact Aq (Ao (Av (Af rfl) Ad (Ak e)))
end
inductive Cl where
 |inn (t:Str)
 |out (n p:Int)
noncomputable def Cl.w:Cl->W
 |.inn t=>.tup [.str "in",.str t]
 |.out n p=>.tup [.str "out",.int n,.int p]
noncomputable def Cl.ok:Cl->Bool
 |.inn t=>M2.G5 t&&decide (t.length<=63)
 |.out n p=>decide (1<=n)&&decide (n<=400)&&Fd p 1
inductive Pg where
 |head (a b c d:Int)
 |leaf (rs:List (Str×Cl))
 |fork (ks:List Str) (ps:List Int)
 |rest (t:Str) (n:Int)
 |free (n:Int)
def Hr(r:Str×Cl):W:=.tup [.str r.1,r.2.w]
noncomputable def Pg.w:Pg->W
 |.head a b c d=>.tup [.str "head",.int a,.int b,.int c,.int d]
 |.leaf rs=>.tup [.str "leaf",.tup (rs.map Hr)]
 |.fork ks ps=>.tup [.str "fork",.tup (ks.map W.str),.tup (ps.map W.int)]
 |.rest t n=>.tup [.str "rest",.str t,.int n]
 |.free n=>.tup [.str "free",.int n]
section
variable{ns:List Int}
theorem Baj(c:Cl)(h:c.ok=true):Pu P (Jr ns [c.w]) (.bl true):=by
 cases c with
 |inn t=>
  unfold Cl.ok at h;rw[aC,decide_eq_true_eq] at h;apply Be (ws:=[Cl.w (.inn t)]) rfl;apply Ca
  .apply Bx;exact Ae (Aa (Af rfl) Ac) (Pa _ _)
  apply Aq;apply Ed
  .apply Ag;exact Ah (Af rfl) Ad (Bc)
  .decide +kernel
  .apply Aq;apply Ao;refine Pu.cast (Bk (Ah (Ae (Aa (Af rfl) Ac) Bh) Ad Ff) (Ae (Aa (Av (Af rfl) Ad (Ak rfl)) (Aa Ad (Aa Ad Ac))) (X6 t 0 63 (aD h.2 (by decide))))) ?_
   rw[h.1,decide_eq_true (by omega),decide_eq_true (by omega)]
   rfl
 |out n p=>
  unfold Cl.ok at h;rw[aC,aC] at h;apply Be (ws:=[Cl.w (.out n p)]) rfl;apply Ca
  .apply Bx;exact Ae (Aa (Af rfl) Ac) (Pa _ _)
  apply Ca
  .apply Dp
   .apply Ag;exact Ah (Af rfl) Ad (Bc)
   .decide +kernel
   .exact Ar
  apply Aq;apply Ed
  .apply Ag;exact Ah (Af rfl) Ad (Bc)
  .decide +kernel
  .apply Aq;apply Ao;refine Pu.cast (Bk (Ah (Ae (Aa (Af rfl) Ac) Bh) Ad Ff) (Bk (Ae (Aa (Av (Af rfl) Ad (Ak rfl)) Ac) (Ju n)) (Gf (Iu Ad (Av (Af rfl) Ad (Ak rfl)) Ht Ad Ht) (Ae (Aa (Av (Af rfl) Ad (Ak rfl)) (Aa Ad Ac)) (Ahs p 1))))) ?_;rw[h.1.1,h.1.2,h.2];rfl
end
noncomputable def Li(ks:List Str):Bool:=(ks.zip (ks.drop 1)).all λp=>Ib p.1 p.2
theorem Avq(ws:List W):Mg ws (some 1) none=ws.drop 1:=by
 unfold Mg;cases ws with
 |nil=>rfl
 |cons w ws=>
  have e:HT.sIx (w::ws).length 0 (some 1)=1:=by
   rw[show (1:Int)=((1:Nat):Int) from rfl,HT.sIx_nat,aU];omega
  rw[e];show (ws.drop 0).take ((w::ws).length - 1)=ws.drop 0;rw[aU,Nat.add_sub_cancel,iZ,lY]
theorem zip_get(ks ls:List Str)(j:Nat):(ks.zip ls)[j]?.map (λp=>W.tup [.str p.1,.str p.2])=match (ks.map W.str)[j]?,(ls.map W.str)[j]? with|some a,some b=>some (.tup [a,b])|_,_=>none:=by
 rw[cB,cB,aBs,sH];cases ks[j]? <;> cases ls[j]? <;> rfl
section
variable{ns:List Int}
theorem Bce{n:Nat}(h0:∀S,P.p S->AtL n (ks.map W.str) S)(hl:ks.length<=big)(hk:∀k∈ks,isKey k=true):Pu P (Du ns [.ref n]) (.bl (Li ks)):=by
 apply Be (ws:=[.ref n]) rfl;apply Ca
 .apply Dp
  .apply Az;apply Ag;refine K6 (bs:=ks.map λ_=>true) ?_;have h:=Sh (P:=P) (xs:=ks) (φ:=W.str) (ψ:=λ_=>W.bl true) (τ:=λ_=>true) (s:=Bg 0) (t:=λ_=>pure true) (e:=Cp (J6 ns) (yA (Ab 0))) (k:=1) (cap:=[]) (Z:=Bq 1 [.ref n]) (src:=Cv ns (Ab 0)) (n:=n) h0
    (λS hS=>⟨[],by
     have:=h0 S hS;unfold AtL at this;show (match S[n]? with|some (.lst _)=>R.ok (Src.liv n) S|_=>.bad)=_
     rw[this,bJ]⟩) Lx (λk hk'=>⟨Pu.pure,λ_=>(Ae (Aa (Af rfl) Ac) (Amz k (by
      have:=hk k hk';unfold isKey at this;simp only[aC,decide_eq_true_eq] at this;exact aD this.2.2 (by decide)))).cast (by rw[hk k hk'])⟩) ⟨none,rfl⟩ hl
   rw[fH.mpr (λ_ _=>rfl)] at h;rw[bB];exact h
  .simp
  .exact Ar
 .apply Aq;apply Ao;refine Pu.cast (K6 (bs:=(ks.zip (ks.drop 1)).map λp=>Ib p.1 p.2) ?_) ?_
  .have h:=Az5 (P:=P) (xs:=ks.zip (ks.drop 1)) (φ:=λp=>W.tup [.str p.1,.str p.2]) (ψ:=λp=>W.bl (Ib p.1 p.2)) (τ:=λ_=>true) (s:=Aem [0,1]) (t:=λ_=>pure true) (e:=Cq .Lt (Ab 0) (Ab 1)) (k:=2) (cap:=[]) (Z:=Bq 1 [.ref n]) (src:=Aqi (yB (Ab 0) (slF ns (Ab 0) (Bv (kI 1)) Bd))) (us:=ks.map W.str) (vs:=(ks.drop 1).map W.str)
    (λS hS=>by
     have a0:=h0 S hS;have e0:=a0;unfold AtL at e0;refine⟨[.lst ((ks.drop 1).map W.str)],n,S.length,?_,a0.app _,?_⟩
     .have e1:slF ns (Ab 0) (Bv (kI 1)) Bd (Bq 1 [.ref n]) S=.ok (.ref S.length) (S ++ [.lst ((ks.drop 1).map W.str)]):=by
       show (match S[n]? with|some (.lst ws)=>Ck (Mg ws (some 1) none) S|_=>.bad)=_
       rw[e0];dsimp only;unfold Ck;rw[Avq,<-iM,if_pos (by rw[aA,cD];omega)]
      have e2:yB (Ab 0) (slF ns (Ab 0) (Bv (kI 1)) Bd) (Bq 1 [.ref n]) S=.ok [.ref n,.ref S.length] (S ++ [.lst ((ks.drop 1).map W.str)]):=by
       have e3:yA (slF ns (Ab 0) (Bv (kI 1)) Bd) (Bq 1 [.ref n]) S=.ok [.ref S.length] (S ++ [.lst ((ks.drop 1).map W.str)]):=by
        unfold yA Ci;rw[Bp,e1];rfl
       unfold yB;rw[Ci,Bp,show Ab 0 (Bq 1 [.ref n]) S=.ok (.ref n) S from rfl];dsimp only;rw[Bp,e3];rfl
      unfold Aqi;rw[Bp,e2];show Azj [.ref n,.ref S.length] _=_;have g1:=a0.app [.lst ((ks.drop 1).map W.str)];unfold AtL at g1;unfold Azj;dsimp only;rw[g1,bC (aN _),eG];rfl
     .unfold AtL;rw[bC (aN _),eG];rfl) (λj=>zip_get _ _ j) (by rw[sE,aA];omega) Au9 (λp _=>⟨Pu.pure,λ_=>Ah (Af rfl) (Af rfl) Al8⟩) ⟨none,none,rfl⟩ (by rw[sE];omega)
   rw[fH.mpr (λ_ _=>rfl)] at h;rw[bB];exact h
  .unfold Li;rw[jF];rfl
end
section
variable{ns:List Int}
def Ho{l h:De->M (Option Int)}{lo hi:Option Int}(h1:Pu P (f Z) x)(h2:Pu P (l Z) lo)(h3:Pu P (h Z) hi)(h4:Pu P (slW ns x lo hi) w):Pu P (slF ns f l h Z) w:=h1.bind (h2.bind (h3.bind h4))
def Dz{i:Int}(h:Pu P (f Z) (.int i)):Pu P (Bv f Z) (some i):=h.bind Pu.pure
def Dk:Pu P (Bd Z) none:=Pu.pure
theorem Wr(h:isKey k=true):k.length<=big:=by
 unfold isKey at h;simp only[aC,decide_eq_true_eq] at h;exact aD h.2.2 (by decide)
theorem Bgo(h:isKey k=true):Pu P (J6 ns [.str k]) (.bl true):=(Amz k (Wr h)).cast (by rw[h])
theorem Bcf(hl:ks.length<=big)(hk:∀k∈ks,isKey k=true):Pu P (Du ns [.tup (ks.map W.str)]) (.bl (Li ks)):=by
 apply Be (ws:=[.tup (ks.map W.str)]) rfl;apply Ca
 .apply Dp
  .apply Az;apply Ag;refine K6 (bs:=ks.map λ_=>true) ?_;have h:=Es (P:=P) (xs:=ks) (φ:=W.str) (ψ:=λ_=>W.bl true) (t:=λ_=>pure true) (e:=Cp (J6 ns) (yA (Ab 0))) (cs:=[]) (cap:=[]) (Z:=Bq 1 [.tup (ks.map W.str)]) (src:=Cv ns (Ab 0)) (Fg (Af rfl)) rfl hl (λk hk'=>⟨Pu.pure,Ae (Aa (Af rfl) Ac) (Bgo (hk k hk'))⟩);rw[bB];exact h
  .simp
  .exact Ar
 .apply Aq;apply Ao;refine Pu.cast (K6 (bs:=(ks.zip (ks.drop 1)).map λp=>Ib p.1 p.2) ?_) ?_
  .have e0:Aqh (ks.map W.str) ((ks.map W.str).drop 1)=(ks.zip (ks.drop 1)).map λp=>W.tup [.str p.1,.str p.2]:=by
    unfold Aqh aBs;rw[<-iM,List.map_zipWith,List.zipWith_map]
   have h:=Ahg (P:=P) (xs:=ks.zip (ks.drop 1)) (φ:=λp=>W.tup [.str p.1,.str p.2]) (ψ:=λp=>W.bl (Ib p.1 p.2)) (τ:=λ_=>true) (s:=Aem [0,1]) (t:=λ_=>pure true) (e:=Cq .Lt (Ab 0) (Ab 1)) (k:=2) (cap:=[]) (Z:=Bq 1 [.tup (ks.map W.str)]) (src:=Aqi (yB (Ab 0) (slF ns (Ab 0) (Bv (kI 1)) Bd)))
    (by
     rw[<-e0,<-Avq];exact Pu.bind (Aa (Af rfl) (Aa (Ho (Af rfl) (Dz Ad) Dk Pu.pure) Ac)) Pu.pure) Au9 (λp _=>⟨Pu.pure,λ_=>Ah (Af rfl) (Af rfl) Al8⟩) ⟨none,none,rfl⟩ (by rw[sE];omega)
   rw[fH.mpr (λ_ _=>rfl)] at h;rw[bB];exact h
  .unfold Li;rw[jF];rfl
end
section
variable{ns:List Int}
theorem keysAt(hl:ks.length<=big)(hk:∀k∈ks,isKey k=true)(n:Nat)(S:Store)(h:S[n]?=some (.lst (ks.map W.str))):∃G,Du ns [.ref n] S=.ok (.bl (Li ks)) (S ++ G):=
 Bce (P:=SP.any.at n (ks.map W.str)) (λ_ h=>h.2) hl hk S ⟨trivial,h⟩
def rowsOk(rs:List (Str×Cl)):Prop:=rs.length<=63/\(∀r∈rs,isKey r.1=true/\r.2.ok=true)/\Li (rs.map (·.1))=true
theorem Bak(h:rowsOk rs):Pu P (K9 ns [.tup (rs.map Hr)]) (.bl true):=by
 obtain⟨hl,hr,hk⟩:=h;have hb:rs.length<=big:=aD hl (by decide)
 apply Be (ws:=[.tup (rs.map Hr)]) rfl;apply Ca
 .apply Dp
  .exact Ej (Az (Ag (Ae (Aa (Af rfl) (Aa Ad Ac)) Em))) (Ag (Ah (Ae (Aa (Af rfl) Ac) Bh) Ad Ji))
  .simp;omega
  .exact Ar
 apply Ca
 .apply Dp
  .apply Az;apply Ag;refine K6 (bs:=rs.map λ_=>true) ?_;have h:=Es (P:=P) (xs:=rs) (φ:=Hr) (ψ:=λ_=>W.bl true) (t:=λ_=>pure true) (e:=Ew (zB (Fb ns) (Ab 0) (kI 2)) (zA (Jr ns) (ixF ns (Ab 0) (kI 1)))) (cs:=[]) (cap:=[]) (Z:=Bq 1 [.tup (rs.map Hr)]) (src:=Cv ns (Ab 0)) (Fg (Af rfl)) rfl hb
    (λr hr'=>⟨Pu.pure,Bk (Ae (Aa (Af rfl) (Aa Ad Ac)) (Ads [.str r.1,r.2.w] 2)) (Ae (Aa (Av (Af rfl) Ad (Ak rfl)) Ac) (Baj r.2 (hr r hr').2))⟩)
   rw[bB];exact h
  .simp
  .exact Ar
 apply Aq;apply Ao;refine Pu.cast (Abp (ws:=(rs.map (·.1)).map W.str) ?_ (keysAt (by rw[aA];exact hb) (λk hk'=>by
  obtain⟨r,hr',rfl⟩:=bU.mp hk';exact(hr r hr').1))) (by rw[hk])
 have h:=Es (P:=P) (xs:=rs) (φ:=Hr) (ψ:=λr=>W.str r.1) (t:=λ_=>pure true) (e:=ixF ns (Ab 0) (kI 0)) (cs:=[]) (cap:=[]) (Z:=Bq 1 [.tup (rs.map Hr)]) (src:=Cv ns (Ab 0)) (Fg (Af rfl)) rfl hb (λr _=>⟨Pu.pure,Av (Af rfl) Ad (Ak rfl)⟩);rw[bB];exact h
theorem Avr(hl:ks.length<=63)(hk:∀k∈ks,isKey k=true)(hr:Li ks=true):Pu P (La ns [.tup (ks.map W.str)]) (.bl true):=by
 apply Be (ws:=[.tup (ks.map W.str)]) rfl;apply Aq;apply Ao;refine Bk (Ae (Aa (Af rfl) (Aa Ad Ac)) Em) (Bk ((Ah (Ae (Aa (Af rfl) Ac) Bh) Ad Ht).cast (by simp;omega)) ?_)
 exact(Ae (Aa (Af rfl) Ac) (Bcf (aD hl (by decide)) hk)).cast (by rw[hr])
theorem Bal{ps:List Int}{m:Int}(hm:(ps.length:Int)=m)(hl:ps.length<=big)(hp:∀p∈ps,Fd p 1=true):Pu P (Lb ns [.tup (ps.map W.int),.int m]) (.bl true):=by
 apply Be (ws:=[.tup (ps.map W.int),.int m]) rfl;apply Aq;apply Ao;refine Bk ((Ae (Aa (Af rfl) (Aa (Af rfl) Ac)) (Ads (ps.map W.int) m)).cast (by simp[hm])) ?_
 refine Pu.cast (K6 (bs:=ps.map λ_=>true) ?_) (by simp)
 have h:=Es (P:=P) (xs:=ps) (φ:=W.int) (ψ:=λ_=>W.bl true) (t:=λ_=>pure true) (e:=Cp (Dv ns) (yB (Ab 0) (kI 1))) (cs:=[]) (cap:=[]) (Z:=Bq 2 [.tup (ps.map W.int),.int m]) (src:=Cv ns (Ab 0)) (Fg (Af rfl)) rfl hl
  (λp hp'=>⟨Pu.pure,(Ae (Aa (Af rfl) (Aa Ad Ac)) (Ahs p 1)).cast (by rw[hp p hp'])⟩)
 rw[bB];exact h
end
def Pg.ok:Pg->Prop
 |.head a b c d=>Fd a 0=true/\Fd b 0=true/\Fd c 0=true/\Fd d 0=true
 |.leaf rs=>rowsOk rs
 |.fork ks ps=>(ks.length<=63/\(∀k∈ks,isKey k=true)/\Li ks=true)/\ps.length=ks.length+1/\∀p∈ps,Fd p 1=true
 |.rest t n=>M2.G5 t=true/\1<=t.length/\t.length<=400/\Fd n 0=true
 |.free n=>Fd n 0=true
section
variable{ns:List Int}
theorem Bgp{n:Int}(h:Fd n 0=true):Pu P ((λws=>Dv ns (ws ++ [.int 0])) [.int n]) (.bl true):=(Ahs n 0).cast (by rw[h])
theorem Abt{p:Pg}(h:p.ok):Pu P (Fq ns [p.w]) (.bl true):=by
 cases p with
 |head a b c d=>
  obtain⟨h1,h2,h3,h4⟩:=h;apply Be (ws:=[Pg.w (.head a b c d)]) rfl;apply Ca
  .exact Bx (Ae (Aa (Af rfl) Ac) (Pa _ _))
  apply Aq;apply Ed
  .exact Ag (Ah (Af rfl) Ad (Bc))
  .decide +kernel
  .apply Aq;apply Ao;refine Bk ((Ah (Ae (Aa (Af rfl) Ac) Bh) Ad Ff).cast rfl) ?_;refine Pu.cast (K6 (bs:=[a,b,c,d].map λ_=>true) ?_) rfl;have h:=Es (P:=P) (xs:=[a,b,c,d]) (φ:=W.int) (ψ:=λ_=>W.bl true) (t:=λ_=>pure true) (e:=Cp (λws=>Dv ns (ws ++ [(.int 0)])) (yA (Ab 0))) (cs:=[]) (cap:=[]) (Z:=(Bq 2 [Pg.w (.head a b c d)]).set 1 (some (.str "head"))) (src:=Cv ns (slF ns (Ab 0) (Bv (kI 1)) Bd)) (Fg (Ho (Af rfl) (Dz Ad) Dk Pu.pure)) rfl (show 4<=big by decide)
    (λn hn=>⟨Pu.pure,Ae (Aa (Af rfl) Ac) (Bgp (by
     simp only[bF,bT,or_false] at hn;rcases hn with rfl|rfl|rfl|rfl <;> assumption))⟩)
   exact h
 |leaf rs=>
  apply Be (ws:=[Pg.w (.leaf rs)]) rfl;apply Ca
  .exact Bx (Ae (Aa (Af rfl) Ac) (Pa _ _))
  apply Ca
  .exact Dp (Ag (Ah (Af rfl) Ad (Bc))) (by decide +kernel) Ar
  apply Aq;apply Ed
  .exact Ag (Ah (Af rfl) Ad (Bc))
  .decide +kernel
  .apply Aq;apply Ao;exact Bk ((Ah (Ae (Aa (Af rfl) Ac) Bh) Ad Ff).cast rfl) (Ae (Aa (Av (Af rfl) Ad (Ak rfl)) Ac) (Bak h))
 |fork ks ps=>
  obtain⟨⟨h1,h2,h3⟩,h4,h5⟩:=h;apply Be (ws:=[Pg.w (.fork ks ps)]) rfl;apply Ca
  .exact Bx (Ae (Aa (Af rfl) Ac) (Pa _ _))
  apply Ca
  .exact Dp (Ag (Ah (Af rfl) Ad (Bc))) (by decide +kernel) Ar
  apply Ca
  .exact Dp (Ag (Ah (Af rfl) Ad (Bc))) (by decide +kernel) Ar
  apply Aq;apply Ed
  .exact Ag (Ah (Af rfl) Ad (Bc))
  .decide +kernel
  .apply Aq;apply Ao;exact Bk ((Ah (Ae (Aa (Af rfl) Ac) Bh) Ad Ff).cast rfl) (Bk (Ae (Aa (Av (Af rfl) Ad (Ak rfl)) Ac) (Avr h1 h2 h3))
    (Ae (Aa (Av (Af rfl) Ad (Ak rfl)) (Aa (Aj (Ae (Aa (Av (Af rfl) Ad (Ak rfl)) Ac) Bh) Ad Di) Ac)) (Bal (by rw[aA,h4];rfl) (by rw[h4];exact aD (lW h1) (by decide)) h5)))
 |rest t n=>
  obtain⟨h1,h2,h3,h4⟩:=h;apply Be (ws:=[Pg.w (.rest t n)]) rfl;apply Ca
  .exact Bx (Ae (Aa (Af rfl) Ac) (Pa _ _))
  apply Ca
  .exact Dp (Ag (Ah (Af rfl) Ad (Bc))) (by decide +kernel) Ar
  apply Ca
  .exact Dp (Ag (Ah (Af rfl) Ad (Bc))) (by decide +kernel) Ar
  apply Ca
  .exact Dp (Ag (Ah (Af rfl) Ad (Bc))) (by decide +kernel) Ar
  apply Aq;apply Ed
  .exact Ag (Ah (Af rfl) Ad (Bc))
  .decide +kernel
  .apply Aq;apply Ao;exact Bk ((Ah (Ae (Aa (Af rfl) Ac) Bh) Ad Ff).cast rfl) (Bk ((Ae (Aa (Av (Af rfl) Ad (Ak rfl)) (Aa Ad (Aa Ad Ac))) (X6 t 1 400 (aD h3 (by decide)))).cast (by
    rw[h1,decide_eq_true (by omega),decide_eq_true (by omega)];rfl)) (Ae (Aa (Av (Af rfl) Ad (Ak rfl)) Ac) (Bgp h4)))
 |free n=>
  apply Be (ws:=[Pg.w (.free n)]) rfl;apply Ca
  .exact Bx (Ae (Aa (Af rfl) Ac) (Pa _ _))
  apply Ca
  .exact Dp (Ag (Ah (Af rfl) Ad (Bc))) (by decide +kernel) Ar
  apply Ca
  .exact Dp (Ag (Ah (Af rfl) Ad (Bc))) (by decide +kernel) Ar
  apply Ca
  .exact Dp (Ag (Ah (Af rfl) Ad (Bc))) (by decide +kernel) Ar
  apply Ca
  .exact Dp (Ag (Ah (Af rfl) Ad (Bc))) (by decide +kernel) Ar
  apply Aq;apply Ed
  .exact Ag (Ah (Af rfl) Ad (Bc))
  .decide +kernel
  .apply Aq;apply Ao;exact Bk ((Ah (Ae (Aa (Af rfl) Ac) Bh) Ad Ff).cast rfl) (Ae (Aa (Av (Af rfl) Ad (Ak rfl)) Ac) (Bgp h))
end
abbrev jn(ys:List Str):Str:=vR "" ys
noncomputable def Ka(ps:List Int):Str:=jn (ps.map (M1.Dq 2))
def Jc(k:Str):Str:=M1.Dq 1 k.length ++ k
noncomputable def Cl.t:Cl->Str
 |.inn t=>"i" ++ M1.Dq 1 t.length ++ t
 |.out n p=>"o" ++ Ka [n,p]
def Jv(r:Str×Cl):Str:=Jc r.1 ++ r.2.t
noncomputable def Pg.body:Pg->Str
 |.head a b c d=>Ka [a,b,c,d]
 |.leaf rs=>M1.Dq 1 rs.length ++ jn (rs.map Jv)
 |.fork ks ps=>M1.Dq 1 ks.length ++ jn (ks.map Jc) ++ Ka ps
 |.rest t n=>Ka [n] ++ t
 |.free n=>Ka [n]
theorem len_app(x y:Str):(x ++ y).length=x.length+y.length:=by
 show (x.cps ++ y.cps).size=_;rw[vY];rfl
def By(k:Nat)(n:Int):(M1.Dq k n).length=k:=M1.Aqq k n
theorem Avs{ys:List Str}{c:Nat}(h:∀y∈ys,y.length<=c):(ys.map (·.length)).sum<=ys.length * c:=by
 induction ys with
 |nil=>simp
 |cons y ys ih=>
  have h1:=h y aH;have h2:=ih λz hz=>h z (aM _ hz);rw[aG,jH,aU,zQ];omega
def Adt:jn []=⟨#[]⟩:=rfl
theorem G9(x:Str):x ++ (⟨#[]⟩:Str)=x:=by
 show (⟨x.cps ++ #[]⟩:Str)=x;rw[jT]
theorem Kh(y:Str)(ys:List Str):jn (y::ys)=y ++ jn ys:=by
 have e:∀l,jn l=aAt "" l:=λl=>StrLaws.glued_eq_join "" l;rw[e,e];cases ys with
 |nil=>exact(G9 y).symm
 |cons z zs=>
  show y ++ "" ++ aAt "" (z::zs)=y ++ aAt "" (z::zs);rw[show y ++ ("":Str)=y from G9 y]
theorem Vx:∀ys:List Str,(jn ys).length=(ys.map (·.length)).sum
 |[]=>rfl
 |y::ys=>by rw[Kh,len_app,Vx ys,aG,jH]
section
variable{ns:List Int}
theorem Ws{Z:De}{f:De->M W}{ys:List Str}{c:Nat}(h:PuL P (f Z) (ys.map W.str))(hc:∀y∈ys,y.length<=c)(hl:ys.length * c<=big):Pu P (Ke .str K1 (kS "") (yA f) Z) (.str (jn ys)):=
 Az2 h (by
  have:=Avs hc;show (ys.map (·.length)).sum+ys.length * 0<=big;omega)
theorem Wt{ps:List Int}(hp:∀p∈ps,0<=p/\p < 4096)(hl:ps.length<=1000):Pu P (Gi ns [.tup (ps.map W.int)]) (.str (Ka ps)):=by
 apply Be (ws:=[.tup (ps.map W.int)]) rfl;apply Aq;apply Ao;refine Ws (c:=2) ?_ (λy hy=>?_) (by rw[aA];exact aD (dX 2 hl) (by decide))
 .have h:=Es (P:=P) (xs:=ps) (φ:=W.int) (ψ:=λp=>W.str (M1.Dq 2 p)) (t:=λ_=>pure true) (e:=Cp (Hv ns) (yB (Ab 0) (kI 2))) (cs:=[]) (cap:=[]) (Z:=Bq 1 [.tup (ps.map W.int)]) (src:=Cv ns (Ab 0)) (Fg (Af rfl)) rfl (aD hl (by decide))
   (λp hp'=>⟨Pu.pure,Ae (Aa (Af rfl) (Aa Ad Ac)) (Bai (hp p hp').1 (hp p hp').2)⟩)
  rw[bB];exact h
 .obtain⟨p,_,rfl⟩:=bU.mp hy;exact pA (By 2 p)
theorem Hc{n k:Int}(h:Fd n k=true)(hk:0<=k):0<=n/\n < 4096:=by
 unfold Fd at h;simp only[aC,decide_eq_true_eq] at h;omega
theorem Bam{n:Nat}(h:n<=63):Pu P (Hv ns [.int (n:Int),.int 1]) (.str (M1.Dq 1 n)):=Bah (by omega) (by omega)
theorem Aok(h:isKey k=true):Pu P (Lg ns [.str k]) (.str (Jc k)):=by
 have hk:=Wr h;unfold isKey at h;simp only[aC,decide_eq_true_eq] at h;apply Be (ws:=[.str k]) rfl;apply Aq;apply Ao;exact Aj (Ae (Aa (Ae (Aa (Af rfl) Ac) (len_str hk)) (Aa Ad Ac)) (Bam (by omega))) (Af rfl) (Dl (by rw[By];exact aD (iG h.2.2 1) (by decide)))
theorem Avt{c:Cl}(h:c.ok=true):Pu P (Rj ns [c.w]) (.str c.t):=by
 cases c with
 |inn t=>
  unfold Cl.ok at h;rw[aC,decide_eq_true_eq] at h;have ht:t.length<=big:=aD h.2 (by decide)
  apply Be (ws:=[Cl.w (.inn t)]) rfl;apply Aq;apply Ed
  .exact Ag (Ah (Av (Af rfl) Ad (Ak rfl)) Ad (Bc))
  .decide +kernel
  .apply Aq;apply Ao;exact Aj (Aj Ad (Ae (Aa (Ae (Aa (Av (Af rfl) Ad (Ak rfl)) Ac) (len_str ht)) (Aa Ad Ac)) (Bam h.2)) (Dl (by rw[By];decide))) (Av (Af rfl) Ad (Ak rfl)) (Dl (by
    rw[len_app,By];exact aD (iG h.2 _) (by decide)))
 |out n p=>
  unfold Cl.ok at h;rw[aC,aC,decide_eq_true_eq,decide_eq_true_eq] at h;apply Be (ws:=[Cl.w (.out n p)]) rfl;apply Ca
  .exact Dp (Ag (Ah (Av (Af rfl) Ad (Ak rfl)) Ad (Bc))) (by decide +kernel) Ar
  .apply Aq;apply Ao;exact Aj Ad (Ae (Aa (Ho (Af rfl) (Dz Ad) Dk Pu.pure) Ac) (Wt (ps:=[n,p]) (λq hq=>by
    simp only[bF,bT,or_false] at hq;rcases hq with rfl|rfl
    .omega
    .exact Hc h.2 (by decide)) (show 2<=1000 by decide))) (Dl (by
     unfold Ka;rw[Vx];show 1+((M1.Dq 2 n).length+((M1.Dq 2 p).length+0))<=big;rw[By,By];decide))
end
section
variable{P:SP}{ns:List Int}
theorem Lj{k:Str}(h:isKey k=true):(Jc k).length<=13:=by
 unfold isKey at h;simp only[aC,decide_eq_true_eq] at h;unfold Jc;rw[len_app,By];omega
theorem Af7{c:Cl}(h:c.ok=true):c.t.length<=65:=by
 cases c with
 |inn t=>
  unfold Cl.ok at h;rw[aC,decide_eq_true_eq] at h;unfold Cl.t;rw[len_app,len_app,By];show 1+1+t.length<=65;omega
 |out n p=>
  unfold Cl.t Ka;rw[len_app,Vx];show 1+((M1.Dq 2 n).length+((M1.Dq 2 p).length+0))<=65;rw[By,By];decide
theorem Wu{r:Str×Cl}(h1:isKey r.1=true)(h2:r.2.ok=true):(Jv r).length<=78:=by
 unfold Jv;rw[len_app];have:=Lj h1;have:=Af7 h2;omega
theorem Ban{r:Str×Cl}(h1:isKey r.1=true)(h2:r.2.ok=true):Pu P (N8 ns [Hr r]) (.str (Jv r)):=by
 apply Be (ws:=[Hr r]) rfl;apply Aq;apply Ao;exact Aj (Ae (Aa (Av (Af rfl) Ad (Ak rfl)) Ac) (Aok h1)) (Ae (Aa (Av (Af rfl) Ad (Ak rfl)) Ac) (Avt h2)) (Dl (by
  have:=Lj h1;have:=Af7 h2;exact aD (tD ‹_› ‹_›) (by decide)))
theorem Adu{ys:List Str}{c n:Nat}(h:∀y∈ys,y.length<=c)(hn:ys.length<=n):(jn ys).length<=n * c:=by
 rw[Vx];exact aD (Avs h) (dX c hn)
theorem Ij(ps:List Int):(Ka ps).length=2 * ps.length:=by
 unfold Ka;rw[Vx,bB];induction ps with
 |nil=>rfl
 |cons p ps ih=>
  rw[aG,jH,ih,aU];show (M1.Dq 2 p).length+_=_;rw[By];omega
theorem Bao{p:Pg}(h:p.ok):Pu P (Rm ns [p.w]) (.str p.body):=by
 cases p with
 |head a b c d=>
  obtain⟨h1,h2,h3,h4⟩:=h;apply Be (ws:=[Pg.w (.head a b c d)]) rfl;apply Ca
  .exact Dp (Ag (Ah (Av (Af rfl) Ad (Ak rfl)) Ad (Bc))) (by decide +kernel) Ar
  apply Ca
  .exact Dp (Ag (Ah (Av (Af rfl) Ad (Ak rfl)) Ad (Bc))) (by decide +kernel) Ar
  apply Ca
  .exact Dp (Ag (Ah (Av (Af rfl) Ad (Ak rfl)) Ad (Bc))) (by decide +kernel) Ar
  apply Aq;apply Ao;exact Ae (Aa (Ho (Af rfl) (Dz Ad) Dk Pu.pure) Ac) (Wt (ps:=[a,b,c,d]) (λq hq=>by
   simp only[bF,bT,or_false] at hq;rcases hq with rfl|rfl|rfl|rfl <;> exact Hc ‹_› (by decide)) (show 4<=1000 by decide))
 |leaf rs=>
  obtain⟨h1,h2,h3⟩:=h;apply Be (ws:=[Pg.w (.leaf rs)]) rfl;apply Aq;apply Ed
  .exact Ag (Ah (Av (Af rfl) Ad (Ak rfl)) Ad (Bc))
  .decide +kernel
  .apply Aq;apply Ao;have hc:∀y∈rs.map Jv,y.length<=78:=λy hy=>by
    obtain⟨r,hr,rfl⟩:=bU.mp hy;exact Wu (h2 r hr).1 (h2 r hr).2
   refine Aj (y:=.str (jn (rs.map Jv))) (Ae (Aa ((Ae (Aa (Av (Af rfl) Ad (Ak rfl)) Ac) Bh).cast (by rw[aA])) (Aa Ad Ac)) (Bam h1)) ?_ (Dl (by
    rw[By];exact aD (iG (Adu hc (by rw[aA];exact h1)) 1) (by decide)))
   refine Ws (c:=78) ?_ hc (by rw[aA];exact aD (dX 78 h1) (by decide))
   have h:=Es (P:=P) (xs:=rs) (φ:=Hr) (ψ:=λr=>W.str (Jv r)) (t:=λ_=>pure true) (e:=Cp (N8 ns) (yA (Ab 0))) (cs:=[]) (cap:=[]) (Z:=Bq 2 [Pg.w (.leaf rs)]) (src:=Cv ns (ixF ns (Ab 0) (kI 1))) (Fg (Av (Af rfl) Ad (Ak rfl))) rfl (aD h1 (by decide))
    (λr hr=>⟨Pu.pure,Ae (Aa (Af rfl) Ac) (Ban (h2 r hr).1 (h2 r hr).2)⟩)
   rw[bB];exact h
 |fork ks ps=>
  obtain⟨⟨h1,h2,h3⟩,h4,h5⟩:=h;have hc:∀y∈ks.map Jc,y.length<=13:=λy hy=>by
   obtain⟨k,hk,rfl⟩:=bU.mp hy;exact Lj (h2 k hk)
  have hj:(jn (ks.map Jc)).length<=63 * 13:=Adu hc (by rw[aA];exact h1)
  apply Be (ws:=[Pg.w (.fork ks ps)]) rfl;apply Ca
  .exact Dp (Ag (Ah (Av (Af rfl) Ad (Ak rfl)) Ad (Bc))) (by decide +kernel) Ar
  apply Aq;apply Ed
  .exact Ag (Ah (Av (Af rfl) Ad (Ak rfl)) Ad (Bc))
  .decide +kernel
  .refine Ca (Bx (w:=.str (jn (ks.map Jc))) ?_) ?_
   .refine Ws (c:=13) ?_ hc (by rw[aA];exact aD (dX 13 h1) (by decide))
    have h:=Es (P:=P) (xs:=ks) (φ:=W.str) (ψ:=λk=>W.str (Jc k)) (t:=λ_=>pure true) (e:=Cp (Lg ns) (yA (Ab 0))) (cs:=[]) (cap:=[]) (Z:=Bq 2 [Pg.w (.fork ks ps)]) (src:=Cv ns (ixF ns (Ab 0) (kI 1))) (Fg (Av (Af rfl) Ad (Ak rfl))) rfl (aD h1 (by decide))
     (λk hk=>⟨Pu.pure,Ae (Aa (Af rfl) Ac) (Aok (h2 k hk))⟩)
    rw[bB];exact h
   .apply Aq;apply Ao;refine Aj (Aj (Ae (Aa ((Ae (Aa (Av (Af rfl) Ad (Ak rfl)) Ac) Bh).cast (by rw[aA])) (Aa Ad Ac)) (Bam h1)) (Af rfl) (Dl ?_)) (Ae (Aa (Av (Af rfl) Ad (Ak rfl)) Ac) (Wt (λq hq=>Hc (h5 q hq) (by decide)) (by omega))) (Dl ?_)
    .rw[By];exact aD (iG hj 1) (by decide)
    .rw[len_app,By,Ij];have:1+(jn (ks.map Jc)).length+2 * ps.length<=1+63 * 13+128:=by omega
     exact aD this (by decide)
 |rest t n=>
  obtain⟨h1,h2,h3,h4⟩:=h;apply Be (ws:=[Pg.w (.rest t n)]) rfl;apply Ca
  .exact Dp (Ag (Ah (Av (Af rfl) Ad (Ak rfl)) Ad (Bc))) (by decide +kernel) Ar
  apply Ca
  .exact Dp (Ag (Ah (Av (Af rfl) Ad (Ak rfl)) Ad (Bc))) (by decide +kernel) Ar
  apply Aq;apply Ed
  .exact Ag (Ah (Av (Af rfl) Ad (Ak rfl)) Ad (Bc))
  .decide +kernel
  .apply Aq;apply Ao;exact Aj (Ae (Aa (Ho (Af rfl) (Dz Ad) Dk Pu.pure) Ac) (Wt (ps:=[n]) (λq hq=>by
    rw[bA] at hq;subst hq;exact Hc h4 (by decide)) (show 1<=1000 by decide))) (Av (Af rfl) Ad (Ak rfl)) (Dl (by
     rw[Ij];exact aD (iG h3 _) (show 2 * 1+400<=big by decide)))
 |free n=>
  apply Be (ws:=[Pg.w (.free n)]) rfl;apply Ca
  .exact Dp (Ag (Ah (Av (Af rfl) Ad (Ak rfl)) Ad (Bc))) (by decide +kernel) Ar
  apply Ca
  .exact Dp (Ag (Ah (Av (Af rfl) Ad (Ak rfl)) Ad (Bc))) (by decide +kernel) Ar
  apply Ca
  .exact Dp (Ag (Ah (Av (Af rfl) Ad (Ak rfl)) Ad (Bc))) (by decide +kernel) Ar
  apply Aq;apply Ao;exact Ae (Aa (Ho (Af rfl) (Dz Ad) Dk Pu.pure) Ac) (Wt (ps:=[n]) (λq hq=>by
   rw[bA] at hq;subst hq;exact Hc h (by decide)) (show 1<=1000 by decide))
theorem Sq{p:Pg}(h:p.ok):Pu P (Hk ns [p.w]) (.str p.body):=by
 apply Be (ws:=[p.w]) rfl;apply Ca
 .exact Dp (Az (Ag (Ae (Aa (Af rfl) Ac) (Abt h)))) rfl Ar
 .exact Aq (Ao (Ae (Aa (Af rfl) Ac) (Bao h)))
end
section
variable{ns:List Int}
theorem Af8{k:Nat}(h:k<=1000001):small (k:Int)=true:=by
 unfold small;have e:(2:Int) ^ 64=18446744073709551616:=by decide +kernel
 rw[e,aC,decide_eq_true_eq,decide_eq_true_eq];omega
end
theorem Am0(x y:Str):M2.G5 (x ++ y)=(M2.G5 x&&M2.G5 y):=by
 unfold M2.G5;show ((x.cps ++ y.cps).toList).all _=_;rw[Array.toList_append,List.all_append]
theorem Avu(c:Nat):M2.G5 (M1.one c)=M2.okC c:=by
 unfold M2.G5 M1.one;simp
theorem Bcg:∀{ys:List Str},(∀y∈ys,M2.G5 y=true)->M2.G5 (jn ys)=true
 |[],_=>rfl
 |y::ys,h=>by
  rw[Kh,Am0,h y aH,Bcg λz hz=>h z (aM _ hz)];rfl
section
variable{P:SP}{ns:List Int}
theorem ix0{w:W}{ws:List W}:atI (w::ws) 0=some w:=by
 unfold atI ixN;rw[if_pos (by decide),if_pos (by rw[aU];omega)]
 rfl
theorem Ss(i:Int):Pu P (Jq ns [.int i]) (.bl (decide (64<=i)&&decide (i<=200))):=by
 apply Be (ws:=[.int i]) rfl;apply Aq;apply Ao;exact Bk (Ae (Aa (Af rfl) Ac) (Ju i)) (Iu Ad (Af rfl) Ht Ad Ht)
theorem Bap(i:Int):Pu P (X3 ns [.int i]) (.int (i - 5)):=by
 apply Be (ws:=[.int i]) rfl;apply Aq;apply Ao;exact Aj (Af rfl) Ad Sg
theorem Avv{p:Pg}{size:Int}(h:p.ok)(h1:64<=size)(h2:size<=200)(hb:size - 5 < (p.body.length:Int))(hl:p.body.length<=big):PuX P (G8 ns [p.w,.int size]) (6,.non):=by
 apply Wc (ws:=[p.w,.int size]) rfl;refine Bge (Bx (Ae (Aa (Af rfl) Ac) (Sq h))) ?_;apply Bge
 .exact Dp (Az (Ag (Ae (Aa (Af rfl) Ac) (Ss size)))) (by rw[decide_eq_true h1,decide_eq_true h2];rfl) Ar
 apply Wa;refine Az1 (Ag (Ah (Ae (Aa (Af rfl) Ac) (len_str hl)) (Ae (Aa (Af rfl) Ac) (Bap size)) Ji)) ?_ (Wa (Vl (Aa Ad (Aa Ad Ac)) rfl));rw[decide_eq_true_eq];exact hb
end
noncomputable def outs(rs:List (Str×Cl)):List Int:=rs.filterMap λr=>match r.2 with
 |.out _ p=>some p
 |.inn _=>none
noncomputable def Pg.ways:Pg->List Int
 |.head a _ _ d=>[a,d]
 |.leaf rs=>outs rs
 |.fork _ ps=>ps
 |.rest _ n=>[n]
 |.free n=>[n]
noncomputable def Pg.leads(p:Pg):List Int:=p.ways.filter λn=>!(n==0)
theorem Pg.ways_len{p:Pg}(h:p.ok):p.ways.length<=64:=by
 cases p with
 |head a b c d=>exact(by decide:2<=64)
 |leaf rs=>exact aD (qL _ _) (aD h.1 (by decide))
 |fork ks ps=>
  have h1:=h.1.1;have h2:=h.2.1;show ps.length<=64;omega
 |rest t n=>exact(by decide:1<=64)
 |free n=>exact(by decide:1<=64)
def Avw(r:Str×Cl):Bool:=match r.2 with
 |.out _ _=>true
 |.inn _=>false
def Bkc(r:Str×Cl):Int:=match r.2 with
 |.out _ p=>p
 |.inn _=>0
theorem Baq(rs:List (Str×Cl)):(rs.filter Avw).map (λr=>W.int (Bkc r))=(outs rs).map W.int:=by
 induction rs with
 |nil=>rfl
 |cons r rs ih=>
  obtain⟨k,c⟩:=r;cases c with
  |inn t=>exact ih
  |out n p=>
   show W.int p::(rs.filter Avw).map _=W.int p::(outs rs).map W.int;rw[ih]
section
variable{P:SP}{ns:List Int}
theorem Aol{ws:List W}{w:W}:atI (ws ++ [w]) (-1)=some w:=by
 unfold atI ixN;have hl:(ws ++ [w]).length=ws.length+1:=by simp
 rw[if_neg (by decide),hl,if_pos (by omega)]
 show (ws ++ [w])[((-1:Int)+((ws.length+1:Nat):Int)).toNat]?=some w;have:((-1:Int)+((ws.length+1:Nat):Int)).toNat=ws.length:=by omega
 rw[this,bC (aN _),eG];rfl
def Aht{Z:De}{f:De->M W}{i:Int}(h:Pu P (f Z) (.int i)):Pu P (Aen f Z) (.int (-i)):=h.bind Pu.pure
theorem Avx{p:Pg}(h:p.ok):PuL P (Ia ns [p.w]) (p.leads.map W.int):=by
 apply Az7 (us:=[p.w]) rfl;apply Bgi
 .exact Dp (Az (Ag (Ae (Aa (Af rfl) Ac) (Abt h)))) rfl Ar
 refine Bj2 (i:=1) (ws:=p.ways.map W.int) ?_ λn=>?_
 .cases p with
  |head a b c d=>
   refine Ama (Ag (Ah (Av (Af rfl) Ad (Ak rfl)) Ad (Bc))) (by decide +kernel) (Hy (Acv ?_))
   exact Ge (Aa (Av (Af rfl) Ad (Ak rfl)) (Aa (Av (Af rfl) Ad (Ak rfl)) Ac)) (show 2<=big by decide)
  |leaf rs=>
   refine Ny (Ag (Ah (Av (Af rfl) Ad (Ak rfl)) Ad (Bc))) (by decide +kernel) (Hy ?_)
   refine Ama (Ag (Ah (Av (Af rfl) Ad (Ak rfl)) Ad (Bc))) (by decide +kernel) (Hy (Acv ?_))
   have hh:=Ahg (P:=P) (xs:=rs) (φ:=Hr) (ψ:=λr=>W.int (Bkc r)) (τ:=Avw) (s:=Bg 0) (t:=Bf (Cq .Eq (ixF ns (ixF ns (Ab 0) (kI 1)) (kI 0)) (kS "out"))) (e:=ixF ns (ixF ns (Ab 0) (kI 1)) (kI 2)) (k:=1) (cap:=[]) (Z:=Bq 2 [Pg.w (.leaf rs)]) (src:=Cv ns (ixF ns (Ab 0) (kI 1))) (Fg (Av (Af rfl) Ad (Ak rfl))) Lx (λr hr=>by
    obtain⟨k,c⟩:=r;cases c with
    |inn t=>exact⟨(Ag (Ah (Av (Av (Af rfl) Ad (Ak rfl)) Ad (Ak rfl)) Ad (Bc))).cast (by decide +kernel:(fX "in"==fX "out")=false),λz=>by cases z⟩
    |out n p=>exact⟨(Ag (Ah (Av (Av (Af rfl) Ad (Ak rfl)) Ad (Ak rfl)) Ad (Bc))).cast (by decide +kernel:(fX "out"==fX "out")=true),λ_=>Av (Av (Af rfl) Ad (Ak rfl)) Ad (Ak rfl)⟩) ⟨none,rfl⟩ (aD h.1 (by decide))
   rw[Baq] at hh;exact hh
  |fork ks ps=>
   refine Ny (Ag (Ah (Av (Af rfl) Ad (Ak rfl)) Ad (Bc))) (by decide +kernel) (Hy ?_)
   refine Ny (Ag (Ah (Av (Af rfl) Ad (Ak rfl)) Ad (Bc))) (by decide +kernel) (Hy ?_)
   refine Ama (Ag (Ah (Av (Af rfl) Ad (Ak rfl)) Ad (Bc))) (by decide +kernel) (Hy (Acv ?_))
   exact Ajk (Aa (Av (Af rfl) Ad (Ak rfl)) Ac) (Avc (by rw[aA];exact aD (Pg.ways_len (p:=.fork ks ps) h) (by decide)))
  |rest t n=>
   refine Ny (Ag (Ah (Av (Af rfl) Ad (Ak rfl)) Ad (Bc))) (by decide +kernel) (Hy ?_)
   refine Ny (Ag (Ah (Av (Af rfl) Ad (Ak rfl)) Ad (Bc))) (by decide +kernel) (Hy ?_)
   refine Ny (Ag (Ah (Av (Af rfl) Ad (Ak rfl)) Ad (Bc))) (by decide +kernel) (Hy (Acv ?_))
   exact Ge (Aa (Av (Af rfl) (Aht Ad) (Ak (Aol (ws:=[.str "rest",.str t])))) Ac) (show 1<=big by decide)
  |free n=>
   refine Ny (Ag (Ah (Av (Af rfl) Ad (Ak rfl)) Ad (Bc))) (by decide +kernel) (Hy ?_)
   refine Ny (Ag (Ah (Av (Af rfl) Ad (Ak rfl)) Ad (Bc))) (by decide +kernel) (Hy ?_)
   refine Ny (Ag (Ah (Av (Af rfl) Ad (Ak rfl)) Ad (Bc))) (by decide +kernel) (Hy (Acv ?_))
   exact Ge (Aa (Av (Af rfl) (Aht Ad) (Ak (Aol (ws:=[.str "free"])))) Ac) (show 1<=big by decide)
 .apply Az6;apply Bgh;exact Sh (P:=P.at n (p.ways.map W.int)) (xs:=p.ways) (φ:=W.int) (ψ:=W.int) (τ:=λn=>!(n==0)) (s:=Bg 0) (t:=Bf (Cq .NotEq (Ab 0) (kI 0))) (e:=Ab 0) (k:=1) (cap:=[]) (Z:=(Bq 2 [p.w]).set 1 (some (.ref n))) (src:=Cv ns (Ab 1)) (n:=n) (λ_ h=>h.2) (Wd (λ_ h=>h.2) (Af rfl)) Lx (λm _=>⟨Ag (Ah (Af rfl) Ad Jp),λ_=>Af rfl⟩) ⟨none,rfl⟩ (aD (Pg.ways_len h) (by decide))
end
section
variable{ns:List Int}
theorem Akk{n:Int}(h0:0<=n):Pu P (Bj ns [.int n,.int 1]) (.str (M1.Dq 1 n)):=by
 apply Be (ws:=[.int n,.int 1]) rfl;refine Ca (Bx Ad) ?_;refine Ca (Bx Ad) ?_;apply Ca
 .apply Nu
  .exact J1 (k:=1) (Aa (Af rfl) Ac) (by decide)
  .apply J5 rfl
   .exact Nt (Bx (Aj (Av (Af rfl) (Aj (Af rfl) Ad Cd) (Abs (n % 64) (by omega) (by omega))) (Af rfl) (Dl (by show 1+0<=big;decide)))) (Nt (Bx (Aj (Af rfl) Ad Cu)) Ar)
   .exact Sd
 apply Aq;apply Ao;refine Pu.cast (Af rfl) ?_;show W.str (M1.one (M1.sg (n % 64).toNat) ++ ⟨#[]⟩)=W.str (M1.one (M1.sg (n / 64 ^ 0 % 64).toNat) ++ ⟨#[]⟩);rw[rN,nC]
theorem Akl{n:Int}(h0:0<=n):Pu P (Bj ns [.int n,.int 2]) (.str (M1.Dq 2 n)):=by
 apply Be (ws:=[.int n,.int 2]) rfl;refine Ca (Bx Ad) ?_;refine Ca (Bx Ad) ?_;apply Ca
 .apply Nu
  .exact J1 (k:=2) (Aa (Af rfl) Ac) (by decide)
  .apply J5 rfl
   .exact Nt (Bx (Aj (Av (Af rfl) (Aj (Af rfl) Ad Cd) (Abs (n % 64) (by omega) (by omega))) (Af rfl) (Dl (by show 1+0<=big;decide)))) (Nt (Bx (Aj (Af rfl) Ad Cu)) Ar)
   apply J5 rfl
   .exact Nt (Bx (Aj (Av (Af rfl) (Aj (Af rfl) Ad Cd) (Abs (n / 64 % 64) (by omega) (by omega))) (Af rfl) (Dl (by show 1+(1+0)<=big;decide)))) (Nt (Bx (Aj (Af rfl) Ad Cu)) Ar)
   .exact Sd
 apply Aq;apply Ao;refine Pu.cast (Af rfl) ?_;show W.str (M1.one (M1.sg (n / 64 % 64).toNat) ++ (M1.one (M1.sg (n % 64).toNat) ++ ⟨#[]⟩))=W.str (M1.one (M1.sg (n / 64 ^ 1 % 64).toNat) ++ (M1.one (M1.sg (n / 64 ^ 0 % 64).toNat) ++ ⟨#[]⟩));rw[rN,nC];rfl
end
theorem Ft(x y z:Str):x ++ y ++ z=x ++ (y ++ z):=by
 show (⟨x.cps ++ y.cps ++ z.cps⟩:Str)=⟨x.cps ++ (y.cps ++ z.cps)⟩;rw[pH]
theorem Ahu:∀(ys:List Str)(y:Str),jn (ys ++ [y])=jn ys ++ y
 |[],y=>by
  rw[jW,Kh,Adt,G9];show y=⟨#[] ++ y.cps⟩;rw[Array.empty_append]
 |x::ys,y=>by rw[qR,Kh,Ahu ys y,Kh,Ft]
section
variable{ns:List Int}
theorem Aom{β:Type}{φ:β->W}{D:List β->De}{xs:List β}(h:∀pre x post,xs=pre ++ x::post->∃Z1,s (φ x) (D pre)=some Z1/\PuN P b Z1 (D (pre ++ [x]))):PuN P (Jh s b (xs.map φ)) (D []) (D xs):=by
 have aux:∀post pre,xs=pre ++ post->PuN P (Jh s b (post.map φ)) (D pre) (D xs):=by
  intro post;induction post with
  |nil=>intro pre e;rw[bJ] at e;subst e;exact Sd
  |cons x post ih=>
   intro pre e;obtain⟨Z1,h1,h2⟩:=h pre x post e;exact J5 h1 h2 (ih (pre ++ [x]) (by rw[e];simp))
 exact aux xs [] rfl
noncomputable def kSl(w:W)(n:Int)(ks:List Str):De:=[some w,some (.str (M1.Dq 1 n ++ jn (ks.map Jc))),ks.getLast?.map W.str,none]
theorem Bar{n:Int}(hk:∀k∈ks,isKey k=true)(hl:ks.length<=63):PuN P (Jh (Bg 2) (An (aB9 ns) Aw) (ks.map W.str)) (kSl w n []) (kSl w n ks):=by
 refine Aom λpre k post e=>⟨(kSl w n pre).set 2 (some (.str k)),rfl,?_⟩;have hkk:isKey k=true:=hk k (by rw[e];simp)
 have hpre:∀y∈pre.map Jc,y.length<=13:=λy hy=>by
  obtain⟨k',hk',rfl⟩:=bU.mp hy;exact Lj (hk k' (by rw[e];simp[hk']))
 have hj:(jn (pre.map Jc)).length<=63 * 13:=Adu hpre (by rw[aA];rw[e] at hl;simp at hl;omega)
 have hkl:=Lj hkk;unfold Jc at hkl;rw[len_app,By] at hkl;have e2:kSl w n (pre ++ [k])=((kSl w n pre).set 2 (some (.str k))).set 1 (some (.str (M1.Dq 1 n ++ jn (pre.map Jc) ++ M1.Dq 1 k.length ++ k))):=by
  unfold kSl;rw[cX,aG,cT,Ahu,tE];show [_,some (W.str (M1.Dq 1 n ++ (jn (pre.map Jc) ++ Jc k))),_,_]=[_,some (W.str (M1.Dq 1 n ++ jn (pre.map Jc) ++ M1.Dq 1 k.length ++ k)),_,_];unfold Jc;rw[Ft,Ft];rfl
 rw[e2];refine Nt (Bx (Aj (Aj (Af rfl) (Ae (Aa (Ae (Aa (Af rfl) Ac) (len_str (Wr hkk))) (Aa Ad Ac)) (Akk (by omega))) (Dl ?_)) (Af rfl) (Dl ?_))) Ar
 .rw[len_app,By,By];exact aD (show 1+(jn (pre.map Jc)).length+1<=1+63 * 13+1 by omega) (by decide)
 .rw[len_app,len_app,By,By];exact aD (show 1+(jn (pre.map Jc)).length+1+k.length<=1+63 * 13+13 by omega) (by decide)
theorem Avy{ps:List Int}(h1:Pu P (f Z) (.fix (ps.map W.int)))(hp:∀p∈ps,0<=p)(hl:ps.length<=1000):Pu P (Ke .str K1 (kS "") (yA (Bt 1 [] f (Bg 0) (λ_=>pure true) (zB (Bj ns) (Ab 0) (kI 2)))) Z) (.str (Ka ps)):=by
 refine Ws (c:=2) ?_ (λy hy=>?_) (by rw[aA];exact aD (dX 2 hl) (by decide))
 .have h:=Es (P:=P) (xs:=ps) (φ:=W.int) (ψ:=λp=>W.str (M1.Dq 2 p)) (t:=λ_=>pure true) (e:=Cp (Bj ns) (yB (Ab 0) (kI 2))) (cs:=[]) (cap:=[]) (Z:=Z) h1 rfl (aD hl (by decide))
   (λp hp'=>⟨Pu.pure,Ae (Aa (Af rfl) (Aa Ad Ac)) (Akl (hp p hp'))⟩)
  rw[bB];exact h
 .obtain⟨p,_,rfl⟩:=bU.mp hy;exact pA (By 2 p)
theorem Ahv{ps:List Int}(h:Pg.ok (.fork ks ps)):Pu P (Ih ns [Pg.w (.fork ks ps)]) (.str (Pg.body (.fork ks ps))):=by
 obtain⟨⟨h1,h2,h3⟩,h4,h5⟩:=h;have hc:∀y∈ks.map Jc,y.length<=13:=λy hy=>by
  obtain⟨k,hk,rfl⟩:=bU.mp hy;exact Lj (h2 k hk)
 have hj:(jn (ks.map Jc)).length<=63 * 13:=Adu hc (by rw[aA];exact h1)
 apply Be (ws:=[Pg.w (.fork ks ps)]) rfl;apply Ca
 .exact Dp (Ag (Ah (Av (Af rfl) Ad (Ak rfl)) Ad (Bc))) (by decide +kernel) Ar
 apply Ca
 .exact Dp (Ej (Ag (Ah (Av (Af rfl) Ad (Ak rfl)) Ad (Bc))) (Ag (Ah (Av (Af rfl) Ad (Ak rfl)) Ad (Bc)))) (by decide +kernel) Ar
 refine Ca (Bx (w:=.str (M1.Dq 1 ks.length)) (Ae (Aa ((Ae (Aa (Av (Af rfl) Ad (Ak rfl)) Ac) Bh).cast (by rw[aA])) (Aa Ad Ac)) (Akk (by omega)))) ?_
 apply Aq;apply Ed
 .exact Ag (Ah (Av (Af rfl) Ad (Ak rfl)) Ad (Bc))
 .decide +kernel
 have e0:(Bq 4 [Pg.w (.fork ks ps)]).set 1 (some (.str (M1.Dq 1 ks.length)))=kSl (Pg.w (.fork ks ps)) ks.length []:=by
  show [some (Pg.w (.fork ks ps)),some (W.str (M1.Dq 1 ks.length)),none,none]=[_,some (W.str (M1.Dq 1 ks.length ++ jn [])),_,_];rw[Adt,G9];rfl
 refine Ca (Z1:=kSl (Pg.w (.fork ks ps)) ks.length ks) (Nu (Fg (Av (Af rfl) Ad (Ak rfl))) ?_) ?_
 .have:=Bar (P:=P) (ns:=ns) (w:=Pg.w (.fork ks ps)) (n:=ks.length) h2 h1;rw[<-e0] at this;exact this
 .apply Aq;apply Ao;refine Aj (Af rfl) (Avy (Fg (Av (Af rfl) Ad (Ak rfl))) (λq hq=>(Hc (h5 q hq) (by decide)).1) (by omega)) (Dl ?_)
  rw[len_app,By,Ij];exact aD (show 1+(jn (ks.map Jc)).length+2 * ps.length<=1+63 * 13+128 by omega) (by decide)
end
section
variable{ns:List Int}
noncomputable def rSl(w:W)(n:Int)(rs:List (Str×Cl)):De:=[some w,some (.str (M1.Dq 1 n ++ jn (rs.map Jv))),rs.getLast?.map λr=>W.str r.1,rs.getLast?.map λr=>r.2.w]
theorem Bas{n:Int}(hr:∀r∈rs,isKey r.1=true/\r.2.ok=true)(hl:rs.length<=63):
  PuN P (Jh (Aem [2,3]) (aA5 ns) (rs.map Hr)) (rSl w n []) (rSl w n rs):=by
 refine Aom λpre r post e=>⟨((rSl w n pre).set 2 (some (.str r.1))).set 3 (some r.2.w),rfl,?_⟩;obtain⟨k,c⟩:=r;have hkk:isKey k=true:=(hr (k,c) (by rw[e];simp)).1
 have hcc:c.ok=true:=(hr (k,c) (by rw[e];simp)).2
 have hpre:∀y∈pre.map Jv,y.length<=78:=λy hy=>by
  obtain⟨k',hk',rfl⟩:=bU.mp hy;have:=hr k' (by rw[e];simp[hk'])
  exact Wu this.1 this.2
 have hj:(jn (pre.map Jv)).length<=63 * 78:=Adu hpre (by rw[aA];rw[e] at hl;simp at hl;omega)
 have hkl:=Lj hkk;unfold Jc at hkl;rw[len_app,By] at hkl;refine Nt (Z1:=(((rSl w n pre).set 2 (some (.str k))).set 3 (some c.w)).set 1 (some (.str (M1.Dq 1 n ++ jn (pre.map Jv) ++ M1.Dq 1 k.length ++ k)))) (Bx (Aj (Aj (Af rfl) (Ae (Aa (Ae (Aa (Af rfl) Ac) (len_str (Wr hkk))) (Aa Ad Ac)) (Akk (by omega))) (Dl ?_)) (Af rfl) (Dl ?_))) ?_
 .rw[len_app,By,By];exact aD (show 1+(jn (pre.map Jv)).length+1<=1+63 * 78+1 by omega) (by decide)
 .rw[len_app,len_app,By,By];exact aD (show 1+(jn (pre.map Jv)).length+1+k.length<=1+63 * 78+13 by omega) (by decide)
 have e2:rSl w n (pre ++ [(k,c)])=((((rSl w n pre).set 2 (some (.str k))).set 3 (some c.w)).set 1 (some (.str (M1.Dq 1 n ++ jn (pre.map Jv) ++ M1.Dq 1 k.length ++ k)))).set 1 (some (.str (M1.Dq 1 n ++ jn (pre.map Jv) ++ M1.Dq 1 k.length ++ k ++ c.t))):=by
  unfold rSl;rw[cX,aG,cT,Ahu,tE];show [_,some (W.str (M1.Dq 1 n ++ (jn (pre.map Jv) ++ Jv (k,c)))),_,_]=[_,some (W.str (M1.Dq 1 n ++ jn (pre.map Jv) ++ M1.Dq 1 k.length ++ k ++ c.t)),_,_];unfold Jv Jc;rw[Ft,Ft,Ft,Ft];rfl
 rw[e2];have hA:(M1.Dq 1 n ++ jn (pre.map Jv) ++ M1.Dq 1 k.length ++ k).length<=5000:=by
  rw[len_app,len_app,len_app,By,By];omega
 generalize hgA:M1.Dq 1 n ++ jn (pre.map Jv) ++ M1.Dq 1 k.length ++ k=A at hA ⊢
 refine Nt ?_ Ar;cases c with
 |inn t=>
  unfold Cl.ok at hcc;rw[aC,decide_eq_true_eq] at hcc;refine Bgf (Ag (Ah (Av (Af rfl) Ad (Ak rfl)) Ad (Bc))) (by decide +kernel) ?_
  have ea:A ++ Cl.t (.inn t)=A ++ "i" ++ M1.Dq 1 t.length ++ t:=by
   show A ++ ("i" ++ M1.Dq 1 t.length ++ t)=_;rw[Ft,Ft,Ft]
  rw[ea];refine Nt (Bx (Aj (Aj (Aj (Af rfl) Ad (Dl ?_)) (Ae (Aa (Ae (Aa (Av (Af rfl) Ad (Ak rfl)) Ac) (len_str (aD hcc.2 (by decide)))) (Aa Ad Ac)) (Akk (by omega))) (Dl ?_)) (Av (Af rfl) Ad (Ak rfl)) (Dl ?_))) Ar
  .exact aD (cZ hA _) (by decide)
  .rw[len_app,By];exact aD (cZ (cZ hA _) _) (by decide)
  .rw[len_app,len_app,By];exact aD (tD (cZ (cZ hA _) _) hcc.2) (by decide)
 |out m p=>
  unfold Cl.ok at hcc;rw[aC,aC,decide_eq_true_eq,decide_eq_true_eq] at hcc;refine Dp (Ag (Ah (Av (Af rfl) Ad (Ak rfl)) Ad (Bc))) (by decide +kernel) ?_
  have ea:A ++ Cl.t (.out m p)=A ++ "o" ++ M1.Dq 2 m ++ M1.Dq 2 p:=by
   show A ++ ("o" ++ jn ([m,p].map (M1.Dq 2)))=_;rw[aG,aG,cT,Kh,Kh,Adt,G9,Ft,Ft]
  rw[ea];refine Nt (Bx (Aj (Aj (Aj (Af rfl) Ad (Dl ?_)) (Ae (Aa (Av (Af rfl) Ad (Ak rfl)) (Aa Ad Ac)) (Akl (by omega))) (Dl ?_)) (Ae (Aa (Av (Af rfl) Ad (Ak rfl)) (Aa Ad Ac)) (Akl (Hc hcc.2 (by decide)).1)) (Dl ?_))) Ar
  .exact aD (cZ hA _) (by decide)
  .rw[len_app,By];exact aD (cZ (cZ hA _) _) (by decide)
  .rw[len_app,len_app,By,By];exact aD (cZ (cZ (cZ hA _) _) _) (by decide)
theorem Adv{p:Pg}(h:p.ok):Pu P (Ih ns [p.w]) (.str p.body):=by
 cases p with
 |fork ks ps=>exact Ahv h
 |head a b c d=>
  obtain⟨h1,h2,h3,h4⟩:=h;apply Be (ws:=[Pg.w (.head a b c d)]) rfl;apply Ca
  .exact Dp (Ag (Ah (Av (Af rfl) Ad (Ak rfl)) Ad (Bc))) (by decide +kernel) Ar
  apply Aq;refine Ed (Ej (Ag (Ah (Av (Af rfl) Ad (Ak rfl)) Ad (Bc))) (Ag (Ah (Av (Af rfl) Ad (Ak rfl)) Ad (Bc)))) (by decide +kernel) (Aq (Ao ?_))
  exact Avy (ps:=[a,b,c,d]) (Fg (Ho (Af rfl) (Dz Ad) Dk Pu.pure)) (λq hq=>by
   simp only[bF,bT,or_false] at hq;rcases hq with rfl|rfl|rfl|rfl <;> exact(Hc ‹_› (by decide)).1) (show 4<=1000 by decide)
 |free n=>
  apply Be (ws:=[Pg.w (.free n)]) rfl;apply Ca
  .exact Dp (Ag (Ah (Av (Af rfl) Ad (Ak rfl)) Ad (Bc))) (by decide +kernel) Ar
  apply Aq;refine Ed (Ej (Ag (Ah (Av (Af rfl) Ad (Ak rfl)) Ad (Bc))) (Ag (Ah (Av (Af rfl) Ad (Ak rfl)) Ad (Bc)))) (by decide +kernel) (Aq (Ao ?_))
  exact Avy (ps:=[n]) (Fg (Ho (Af rfl) (Dz Ad) Dk Pu.pure)) (λq hq=>by
   rw[bA] at hq;subst hq;exact(Hc h (by decide)).1) (show 1<=1000 by decide)
 |rest t n=>
  obtain⟨h1,h2,h3,h4⟩:=h;apply Be (ws:=[Pg.w (.rest t n)]) rfl;apply Aq;refine Ed (Ag (Ah (Av (Af rfl) Ad (Ak rfl)) Ad (Bc))) (by decide +kernel) (Aq (Ao ?_))
  have e:Pg.body (.rest t n)=M1.Dq 2 n ++ t:=by
   show jn ([n].map (M1.Dq 2)) ++ t=_;rw[aG,cT,Kh,Adt,G9]
  rw[e];exact Aj (Ae (Aa (Av (Af rfl) Ad (Ak rfl)) (Aa Ad Ac)) (Akl (Hc h4 (by decide)).1)) (Av (Af rfl) Ad (Ak rfl)) (Dl (by
   rw[By];exact aD (iG h3 _) (by decide)))
 |leaf rs=>
  obtain⟨h1,h2,h3⟩:=h;apply Be (ws:=[Pg.w (.leaf rs)]) rfl;apply Ca
  .exact Dp (Ag (Ah (Av (Af rfl) Ad (Ak rfl)) Ad (Bc))) (by decide +kernel) Ar
  apply Ca
  .exact Dp (Ej (Ag (Ah (Av (Af rfl) Ad (Ak rfl)) Ad (Bc))) (Ag (Ah (Av (Af rfl) Ad (Ak rfl)) Ad (Bc)))) (by decide +kernel) Ar
  refine Ca (Bx (w:=.str (M1.Dq 1 rs.length)) (Ae (Aa ((Ae (Aa (Av (Af rfl) Ad (Ak rfl)) Ac) Bh).cast (by rw[aA])) (Aa Ad Ac)) (Akk (by omega)))) ?_
  apply Ca
  .exact Dp (Ag (Ah (Av (Af rfl) Ad (Ak rfl)) Ad (Bc))) (by decide +kernel) Ar
  have e0:(Bq 4 [Pg.w (.leaf rs)]).set 1 (some (.str (M1.Dq 1 rs.length)))=rSl (Pg.w (.leaf rs)) rs.length []:=by
   show [some (Pg.w (.leaf rs)),some (W.str (M1.Dq 1 rs.length)),none,none]=[_,some (W.str (M1.Dq 1 rs.length ++ jn [])),_,_];rw[Adt,G9];rfl
  refine Ca (Z1:=rSl (Pg.w (.leaf rs)) rs.length rs) (Nu (Fg (Av (Af rfl) Ad (Ak rfl))) ?_) (Aq (Ao (Af rfl)));have:=Bas (P:=P) (ns:=ns) (w:=Pg.w (.leaf rs)) (n:=rs.length) h2 h1;rw[<-e0] at this;exact this
end
section
variable{ns:List Int}
theorem Ak9{j:Nat}(hz:z.length<=big)(hj:j < z.length):Pu P (ixW ns (.str z) (.int (0+(j:Int)))) (.str ⟨#[z.cps.toList.getD j 0]⟩):=by
 have hl:z.cps.toList.length=z.length:=cN;have e:atI z.cps.toList (0+(j:Int))=some (z.cps.toList.getD j 0):=by
  unfold atI ixN;rw[rO,if_pos (mR j),if_pos (by rw[hl];omega)]
  show z.cps.toList[((j:Nat):Int).toNat]?=_;rw[cV,aW (by omega),cR,aW (by omega)]
  rfl
 unfold ixW;dsimp only;rw[e];exact Lw hz Pu.pure
end
section
variable{P:SP}{ns:List Int}
theorem Avz{p:Pg}{w:W}(h:p.ok)(hw:Pu P (Jq ns [w]) (.bl false)):PuX P (G8 ns [p.w,w]) (3,.non):=by
 apply Wc (ws:=[p.w,w]) rfl;refine Bge (Bx (Ae (Aa (Af rfl) Ac) (Sq h))) ?_;apply Wa;exact Az1 (Az (Ag (Ae (Aa (Af rfl) Ac) hw))) rfl (Wa (Aqm (Aa Ad Ac) (by decide)))
noncomputable def stD(k:Int):Cell:=.dct [(.inr "cells",.scr),(.inr "at",.int k)]
def cellAt(ns:List Int)(k:Int):Int:=if k < ns.length then (atI ns k).getD 0 else 0
noncomputable def nxt(ns:List Int)(k:Int):Int:=(cellAt ns (k % (if (ns.length:Int) > 1 then (ns.length:Int) else 1)) * 48271+k * k * 69621) % 2147483647 / 8
theorem Av0(ns:List Int)(k:Int):0<=nxt ns k:=by
 unfold nxt;have:0<=(cellAt ns (k % (if (ns.length:Int) > 1 then (ns.length:Int) else 1)) * 48271+k * k * 69621) % 2147483647:=gH _ (by decide)
 omega
theorem Aq8{k:Int}(h0:0<=k):Pu P (Iz ns [.scr,.int k]) (.int (cellAt ns k)):=by
 apply Be (ws:=[.scr,.int k]) rfl;have ht:Pu P (Bf (Cq .Lt (Ab 1) (zA (Bw ns) (Ab 0))) (Bq 2 [.scr,.int k])) (decide (k < ns.length)):=Ag (Ah (Af rfl) (Ae (Aa (Af rfl) Ac) Pu.pure) M5);unfold cellAt;by_cases hk:k < ns.length
 .rw[if_pos hk];apply Aq;refine Ed ht (decide_eq_true hk) (Aq (Ao (Av (Af rfl) (Af rfl) ?_)));obtain⟨v,hv⟩:∃v,atI ns k=some v:=by
   unfold atI ixN;rw[if_pos h0,if_pos hk];exact⟨ns[k.toNat]'(by omega),aW _⟩
  rw[hv];show Pu P (Ag5 ((atI ns k).map W.int)) _;rw[hv];exact Pu.pure
 .rw[if_neg hk];exact Ca (Dp ht (decide_eq_false hk) Ar) (Aq (Ao Ad))
end
def Bgq(P:SP)(n:Nat)(c:Cell):SP:=⟨λS=>P.p S/\S[n]?=some c,λS G h=>⟨P.st S G h.1,by rw[aY (aL.mp h.2).1];exact h.2⟩⟩
section
variable{ns:List Int}{n:Nat}{k:Int}
theorem Akm(h:Z[0]?=some (some (.ref n)))(hS:S[n]?=some (stD k)):ixF ns (Ab 0) (kS "at") Z S=.ok (.int k) S:=by
 have hv:Ab 0 Z S=.ok (.ref n) S:=by unfold Ab;rw[h];rfl
 unfold ixF;rw[Bp,hv];show ixW ns (.ref n) (.str "at") S=_;unfold ixW;dsimp only;rw[hS];rfl
theorem Bkd(h:Z[0]?=some (some (.ref n))):Pu (Bgq P n (stD k)) (ixF ns (Ab 0) (kS "at") Z) (.int k):=λS hS=>⟨[],by rw[Akm h hS.2,bJ]⟩
theorem Akn(h:Z[0]?=some (some (.ref n))):Pu (Bgq P n (stD k)) (ixF ns (Ab 0) (kS "cells") Z) .scr:=λS hS=>⟨[],by
 have hv:Ab 0 Z S=.ok (.ref n) S:=by unfold Ab;rw[h];rfl
 unfold ixF;rw[Bp,hv];show ixW ns (.ref n) (.str "cells") S=_;unfold ixW;dsimp only;rw[hS.2,bJ];rfl⟩
theorem Aon(h:S[n]?=some (stD k))(h0:0<=k)(h1:k < 1000000):∃G,Bs ns [.ref n] S=.ok (.int (nxt ns (k+1))) (S.set n (stD (k+1)) ++ G):=by
 have hd:Acl (Ab 0) (kS "at") (Ai .add (ixF ns (Ab 0) (kS "at")) (kI 1)) (Bq 3 [.ref n]) S=.nx (Bq 3 [.ref n]) (S.set n (stD (k+1))):=by
  have hb:Ai .add (ixF ns (Ab 0) (kS "at")) (kI 1) (Bq 3 [.ref n]) S=.ok (.int (k+1)) S:=by
   unfold Ai;rw[Bp,Akm rfl h];rfl
  have hs:Afj (.ref n) (.str "at") (.int (k+1)) S=.ok () (S.set n (stD (k+1))):=by
   unfold Afj;dsimp only;rw[h];rfl
  unfold Acl Er;rw[Bp,hb];dsimp only;rw[Bp,show Ab 0 (Bq 3 [.ref n]) S=.ok (.ref n) S from rfl];dsimp only;rw[Bp,show kS "at" (Bq 3 [.ref n]) S=.ok (.str "at") S from rfl];dsimp only;rw[hs]
 have hr:PuR (Bgq SP.any n (stD (k+1))) (An (Br 1 (ixF ns (Ab 0) (kS "at"))) (An (Br 2 (zB (Iz ns) (ixF ns (Ab 0) (kS "cells")) (Ai .mod (Ab 1) (zB Aty (kI 1) (zA (Bw ns) (ixF ns (Ab 0) (kS "cells"))))))) (rQ (Ai .fdiv (Ai .mod (Ai .add (Ai .mul (Ab 2) (kI 48271)) (Ai .mul (Ai .mul (Ab 1) (Ab 1)) (kI 69621))) (kI 2147483647)) (kI 8))))) (Bq 3 [.ref n]) (.int (nxt ns (k+1))):=by
  have hsm:small (k+1)=true:=by
   have:=Af8 (k:=(k+1).toNat) (by omega)
   rw[eZ (by omega)] at this
   exact this
  have hpos:0 < (if (ns.length:Int) > 1 then (ns.length:Int) else 1):=by split <;> omega
  refine Ca (Bx (Bkd rfl)) ?_;refine Ca (Bx (Ae (Aa (Akn rfl) (Aa (Aj (Af rfl) (Ae (Aa Ad (Aa (Ae (Aa (Akn rfl) Ac) Pu.pure) Ac)) Pu.pure) (Cd hpos)) Ac)) (Aq8 (gH _ (by omega))))) ?_
  refine Aq (Ao ?_);refine Pu.cast (Aj (Aj (Aj (Aj (Af rfl) Ad (Kf (by rw[show small 48271=true by decide +kernel,mC]))) (Aj (Aj (Af rfl) (Af rfl) (Kf (by rw[hsm];rfl))) Ad (Kf (by rw[show small 69621=true by decide +kernel,mC]))) Di) Ad (Cd (j:=2147483647))) Ad (Cu (j:=8))) ?_
  unfold nxt;rfl
 obtain⟨G,e⟩:=hr (S.set n (stD (k+1))) ⟨trivial,by rw[cQ (aL.mp h).1]⟩
 refine⟨G,?_⟩;unfold Bs Dh Q3;rw[if_pos (show [W.ref n].length=1 from rfl)];unfold An at e ⊢
 rw[hd];dsimp only;rw[e]
end
def Wv:Str:=(" !\"#$&'()*+,-./:;<=>?\x40[\\]^_`{|}~":Str) ++ ("0123456789abcdefghijklmnopqrstuvwxyzABCDEFGHIJKLMNOPQRSTUVWXYZ":Str)
theorem Lk:Wv.length=94:=by decide +kernel
theorem Bat:M2.G5 Wv=true:=by decide +kernel
def sgnN(i:Int):Nat:=Wv.cps.toList.getD i.toNat 0
noncomputable def ltN(n:Int)(k:Nat):Int:=(n / 7+13 * (0+(k:Int)) * (0+(k:Int))+5 * (0+(k:Int))) % 94
noncomputable def lawT(n:Int)(size:Nat):Str:=jn ((bR size).map λk=>(⟨#[sgnN (ltN n k)]⟩:Str))
theorem Aoo{i:Int}(h0:0<=i)(h:i < 94):M2.okC (sgnN i)=true:=M2.Bae (l:=Wv.cps.toList) Bat (by rw[cN];show i.toNat < Wv.length;rw[Lk];omega)
theorem Af9(n:Int)(k:Nat):0<=ltN n k/\ltN n k < 94:=by unfold ltN;omega
theorem Su(n:Int)(size:Nat):M2.G5 (lawT n size)=true:=Bcg λy hy=>by
 obtain⟨k,_,rfl⟩:=bU.mp hy;have:=Af9 n k;exact(Avu _).trans (Aoo this.1 this.2)
theorem Jd(n:Int)(size:Nat):(lawT n size).length=size:=by
 unfold lawT;rw[Vx,bB];have:∀l:List Nat,(l.map ((λx:Str=>x.length) ∘ λk=>(⟨#[sgnN (ltN n k)]⟩:Str))).sum=l.length:=by
  intro l;induction l with
  |nil=>rfl
  |cons a l ih=>
   rw[aG,jH,ih,aU];show 1+_=_;omega
 rw[this,cW]
section
variable{ns:List Int}
theorem Adw:Pu P (Hi ns []) (.str Wv):=by
 apply Be (ws:=[]) rfl;refine Ca (Bx Ad) (Aq (Ao ?_));exact Aj Ad (Af rfl) (Dl (by decide +kernel))
theorem Av1{i:Int}(h0:0<=i)(h:i < 94):Pu P (ixW ns (.str Wv) (.int i)) (.str ⟨#[sgnN i]⟩):=by
 have:=Ak9 (P:=P) (ns:=ns) (z:=Wv) (j:=i.toNat) (by rw[Lk];decide) (by rw[Lk];omega)
 rw[rO,eZ h0] at this;exact this
theorem Aga{i:Int}(h0:0<=i)(h1:i<=1000000):small i=true:=by
 have:=Af8 (k:=i.toNat) (by omega)
 rw[eZ h0] at this;exact this
theorem Pb{n:Int}{size:Nat}(hs:size<=1000):Pu P (Ez ns [.int n,.int (size:Int)]) (.str (lawT n size)):=by
 apply Be (ws:=[.int n,.int (size:Int)]) rfl;refine Ca (Bx (Ae Ac Adw)) ?_;refine Ca (Bx (w:=.int 94) ((Ae (Aa (Af rfl) Ac) (len_str (by rw[Lk];decide))).cast (by rw[Lk];rfl))) ?_
 refine Aq (Ao ?_);refine Ws (c:=1) ?_ (λy hy=>?_) (by rw[aA,cW];exact aD (dX 1 hs) (by decide))
 .have h:=Es (P:=P) (xs:=bR size) (φ:=λ(k:Nat)=>W.int ((0:Int)+(k:Int))) (ψ:=λk=>W.str ⟨#[sgnN (ltN n k)]⟩) (t:=λ_=>pure true) (e:=ixF ns (Ab 3) aC0) (cs:=[some (.int 94),some (.int n),some (.str Wv)]) (cap:=[3,0,2]) (Z:=((Bq 4 [.int n,.int (size:Int)]).set 2 (some (.str Wv))).set 3 (some (.int 94))) (src:=J4 Fj (yA (Ab 1)))
   (J1 (Aa (Af rfl) Ac) (aD hs (by decide))) rfl (by rw[cW];exact aD hs (by decide)) (λk hk=>by
    have hk:k < size:=iR.mp hk;have hr:=Af9 n k;have hsm:small (0+(k:Int))=true:=Aga (by omega) (by omega)
    exact⟨Pu.pure,Av (Af rfl) (Aj (Aj (Aj (Aj (Af rfl) Ad (Cu (j:=7))) (Aj (Aj Ad (Af rfl) (Kf (by rw[hsm,mC]))) (Af rfl) (Kf (by rw[hsm,mC]))) Di) (Aj Ad (Af rfl) (Kf (by rw[hsm,mC]))) Di) (Af rfl) (Cd (j:=94))) (Av1 hr.1 hr.2)⟩)
  rw[bB];exact h
 .obtain⟨k,_,rfl⟩:=bU.mp hy;exact aN 1
end
def Sf{α:Type}(n:Nat)(d:Nat)(m:M α)(Q:α->Prop):Prop:=∀(k:Int)(S:Store),0<=k->k+d<=900000->S[n]?=some (stD k)->∃(a:α)(k':Int)(G:Store),m S=.ok a (S.set n (stD k') ++ G)/\k<=k'/\k'<=k+d/\Q a
section
variable{α β:Type}{n d d1 d2:Nat}{m:M α}{f:α->M β}{Q:α->Prop}{R':β->Prop}{ns:List Int}
theorem Aop{S G:Store}{c c':Cell}(h:n < S.length):(S.set n c ++ G).set n c'=S.set n c' ++ G:=by
 rw[tG _ _ (by rw[fD];exact h),List.set_set]
theorem Sf.bind(h1:Sf n d1 m Q)(h2:∀a,Q a->Sf n d2 (f a) R'):Sf n (d1+d2) (m >>= f) R':=λk S h0 hd hS=>by
 have hl:n < S.length:=(aL.mp hS).1;obtain⟨a,k1,G1,e1,q1,q2,qa⟩:=h1 k S h0 (by omega) hS
 have hS1:(S.set n (stD k1) ++ G1)[n]?=some (stD k1):=by
  rw[aY (by rw[fD];exact hl),cQ hl]
 obtain⟨b,k2,G2,e2,r1,r2,rb⟩:=h2 a qa k1 (S.set n (stD k1) ++ G1) (by omega) (by omega) hS1
 refine⟨b,k2,G1 ++ G2,?_,by omega,by omega,rb⟩
 rw[Bp,e1];dsimp only;rw[e2,Aop hl,aO]
theorem Sf.of_pu{a:α}(h:Pu SP.any m a)(q:Q a):Sf n 0 m Q:=λk S _ _ hS=>by
 obtain⟨G,e⟩:=h S trivial;refine⟨a,k,G,?_,Int.le_refl _,by omega,q⟩
 have:S.set n (stD k)=S:=by
  have hl:n < S.length:=(aL.mp hS).1;apply vZ;intro i;by_cases hi:i=n
  .subst hi;rw[cQ hl,hS]
  .rw[cJ (gO hi)]
 rw[e,this]
theorem Sf.mono{Q':α->Prop}(h:Sf n d1 m Q)(hd:d1<=d2)(hq:∀a,Q a->Q' a):Sf n d2 m Q':=λk S h0 hk hS=>by
 obtain⟨a,k1,G,e,q1,q2,qa⟩:=h k S h0 (by omega) hS
 exact⟨a,k1,G,e,q1,by omega,hq a qa⟩
theorem Bau:Sf n 1 (Bs ns [.ref n]) (λw=>∃i,w=.int i/\0<=i):=λk S h0 hk hS=>by
 obtain⟨G,e⟩:=Aon (ns:=ns) hS h0 (by omega)
 exact⟨_,k+1,G,e,by omega,by omega,_,rfl,Av0 ns (k+1)⟩
end
inductive En where
 |nx (Z:De)
 |rt (w:W)
def SfS(n d:Nat)(b:MS)(Z:De)(Q:En->Prop):Prop:=∀(k:Int)(S:Store),0<=k->k+d<=900000->S[n]?=some (stD k)->∃(x:En)(k':Int)(G:Store),b Z S=(match x with|.nx Z'=>.nx Z' (S.set n (stD k') ++ G)|.rt w=>.rt w (S.set n (stD k') ++ G))/\k<=k'/\k'<=k+d/\Q x
section
variable{n d d1 d2:Nat}{i kk nn:Nat}
theorem Bav(h:Sf n d (f Z) R')(q:∀w,R' w->Q (.nx (Z.set i (some w)))):SfS n d (Br i f) Z Q:=λk S h0 hd hS=>by
 obtain⟨a,k1,G,e,q1,q2,qa⟩:=h k S h0 hd hS;exact⟨.nx (Z.set i (some a)),k1,G,by unfold Br Er;rw[e],q1,q2,q a qa⟩
theorem Aoq(h:Sf n d (f Z) R')(q:∀w,R' w->Q (.rt w)):SfS n d (retS f) Z Q:=λk S h0 hd hS=>by
 obtain⟨a,k1,G,e,q1,q2,qa⟩:=h k S h0 hd hS;exact⟨.rt a,k1,G,by unfold retS Er;rw[e],q1,q2,q a qa⟩
theorem Abu(h1:SfS n d1 b Z Q')(h2:∀Z',Q' (.nx Z')->SfS n d2 b' Z' Q)(h3:∀w,Q' (.rt w)->Q (.rt w)):SfS n (d1+d2) (An b b') Z Q:=λk S h0 hd hS=>by
 have hl:n < S.length:=(aL.mp hS).1;obtain⟨x,k1,G1,e1,q1,q2,qa⟩:=h1 k S h0 (by omega) hS
 cases x with
 |rt w=>exact⟨.rt w,k1,G1,by unfold An;rw[e1],q1,by omega,h3 w qa⟩
 |nx Z1=>
  have hS1:(S.set n (stD k1) ++ G1)[n]?=some (stD k1):=by
   rw[aY (by rw[fD];exact hl),cQ hl]
  obtain⟨y,k2,G2,e2,r1,r2,rb⟩:=h2 Z1 qa k1 (S.set n (stD k1) ++ G1) (by omega) (by omega) hS1
  refine⟨y,k2,G1 ++ G2,?_,by omega,by omega,rb⟩
  unfold An;rw[e1];dsimp only;rw[e2];cases y <;> simp only[Aop hl,aO]
theorem Bgr(hl:ws.length=kk)(h:SfS n d b (Bq nn ws) (λx=>∃w,x=.rt w/\R' w)):Sf n d (Dh kk nn b ws) R':=λk S h0 hd hS=>by
 obtain⟨x,k1,G,e,q1,q2,w,rfl,qw⟩:=h k S h0 hd hS;exact⟨w,k1,G,by unfold Dh;rw[if_pos hl,e],q1,q2,qw⟩
end
section
variable{ns:List Int}
theorem Rq{i:Int}(h1:Pu P (gs Z) ws)(hl:ws.length<=big)(h2:Pu P (g Z) (.int i))(hi:atI ws i=some w):Pu P (ixF ns (Ef gs) g Z) w:=λS hS=>by
 obtain⟨G,n,e,hn,_⟩:=Ge h1 hl S hS;obtain⟨G2,e2⟩:=h2 (S ++ G) (P.st _ _ hS);refine⟨G ++ G2,?_⟩;unfold ixF;rw[Bp,e];dsimp only;rw[Bp,e2];dsimp only;have hn2:(S ++ G ++ G2)[n]?=some (.lst ws):=by rw[aY (aL.mp hn).1];exact hn
 unfold ixW;dsimp only;rw[hn2];dsimp only;rw[hi,aO];rfl
variable{n d:Nat}
theorem Av2(q:Q (.nx Z)):SfS n 0 Aw Z Q:=λk S _ _ hS=>by
 obtain⟨a,k1,G,e,q1,q2,_⟩:=Sf.of_pu (n:=n) (m:=(pure ():M Unit)) (a:=()) (Q:=λ_=>True) Pu.pure trivial k S ‹_› (by omega) hS
 have e:R.ok () S=R.ok a (S.set n (stD k1) ++ G):=e;have e2:S=S.set n (stD k1) ++ G:=by injection e
 exact⟨.nx Z,k1,G,by show RS.nx Z S=RS.nx Z _;rw[<-e2],q1,by omega,q⟩
theorem Bgs(h1:Pu SP.any (t Z) p)(h2:p=true->SfS n d b Z Q)(h3:p=false->SfS n d b' Z Q):SfS n d (ifS t b b') Z Q:=λk S h0 hd hS=>by
 have hl:n < S.length:=(aL.mp hS).1;obtain⟨G,e⟩:=h1 S trivial;have hS1:(S ++ G)[n]?=some (stD k):=by rw[aY hl];exact hS
 have fin:∀{c:MS},SfS n d c Z Q->ifS t b b' Z S=c Z (S ++ G)->∃(x:En)(k':Int)(G:Store),ifS t b b' Z S=(match x with|.nx Z'=>.nx Z' (S.set n (stD k') ++ G)|.rt w=>.rt w (S.set n (stD k') ++ G))/\k<=k'/\k'<=k+d/\Q x:=λ{c} hc ec=>by
  obtain⟨x,k1,G2,e1,q1,q2,qx⟩:=hc k (S ++ G) h0 hd hS1;refine⟨x,k1,G ++ G2,?_,q1,q2,qx⟩;rw[ec,e1];cases x <;> simp only[tG _ _ hl,aO]
 cases p with
 |true=>exact fin (h2 rfl) (by unfold ifS Er;rw[e];rfl)
 |false=>exact fin (h3 rfl) (by unfold ifS Er;rw[e];rfl)
theorem Baw(h1:Pu SP.any (gs Z) ws)(h2:Sf n d (s ws) R'):Sf n d (Cp s gs Z) R':=
 (Sf.bind (Sf.of_pu (Q:=λa=>a=ws) h1 rfl) (λa e=>by subst e;exact h2)).mono (by omega) λ_ q=>q
theorem Bl5{size:Int}(h1:64<=size)(h2:size<=200):8<=size / 8/\size / 8<=25:=by omega
theorem Bax{size:Int}(h1:64<=size)(h2:size<=200):Sf n 1 (Ly ns [.ref n,.int size]) (λw=>∃c:Cl,c.ok=true/\w=c.w):=by
 apply Bgr (ws:=[.ref n,.int size]) rfl;refine Abu (d1:=1) (d2:=0) (Q':=λx=>∃i,x=.nx ((Bq 3 [.ref n,.int size]).set 2 (some (.int i)))/\0<=i) (Bav (Baw (Aa (Af rfl) Ac) Bau) (λw ⟨i,e,hi⟩=>⟨i,by rw[e],hi⟩)) (λZ' ⟨i,e,hi⟩=>?_) (λw ⟨i,e,hi⟩=>by cases e)
 have e:Z'=[some (.ref n),some (.int size),some (.int i)]:=by injection e
 subst e;have ht:Pu SP.any (Bf (Cq .Eq (Ai .mod (Ab 2) (kI 3)) (kI 0)) [some (.ref n),some (.int size),some (.int i)]) (i % 3==0):=Ag (Ah (Aj (Af rfl) Ad (Cd (j:=3))) Ad Ff);refine Abu (d1:=0) (d2:=0) (Q':=λx=>(∃w,x=.rt w/\∃c:Cl,c.ok=true/\w=c.w)\/x=.nx [some (.ref n),some (.int size),some (.int i)]) (Bgs ht (λ_=>?_) (λ_=>Av2 (.inr rfl))) (λZ' h=>?_) (λw h=>?_)
 .refine Abu (d1:=0) (d2:=0) (Q':=λx=>∃w,x=.rt w/\∃c:Cl,c.ok=true/\w=c.w) (Aoq (R':=λw=>∃c:Cl,c.ok=true/\w=c.w) (Sf.of_pu (a:=Cl.w (.out (1+i / 3 % 400) (1+i / 1200 % 4095))) ?_ ⟨_,?_,rfl⟩) (λw h=>⟨w,rfl,h⟩)) (λZ' h=>by obtain⟨w,e,_⟩:=h;cases e) (λw h=>.inl h)
  .exact Dj (Aa Ad (Aa (Aj Ad (Aj (Aj (Af rfl) Ad (Cu (j:=3))) Ad (Cd (j:=400))) Di) (Aa (Aj Ad (Aj (Aj (Af rfl) Ad (Cu (j:=1200))) Ad (Cd (j:=4095))) Di) Ac))) (by show 3<=big;decide)
  .unfold Cl.ok Fd;simp only[aC,decide_eq_true_eq];omega
 .rcases h with ⟨w,e,_⟩|e
  .cases e
  have e:Z'=[some (.ref n),some (.int size),some (.int i)]:=by injection e
  subst e;have d8:=Bl5 h1 h2;have hm:0<=i / 30 % (size / 8+1)/\i / 30 % (size / 8+1) < size / 8+1:=⟨gH _ (by omega),gM _ (by omega)⟩
  obtain⟨L,hL,hL1,hL2⟩:∃L:Int,atI [W.int 0,.int 1,.int (size / 8),.int (i / 30 % (size / 8+1))] (i / 3 % 4)=some (.int L)/\0<=L/\L<=25:=by
   have h4:i / 3 % 4=0\/i / 3 % 4=1\/i / 3 % 4=2\/i / 3 % 4=3:=by omega
   rcases h4 with h|h|h|h <;> rw[h]
   .exact⟨0,rfl,by omega,by omega⟩
   .exact⟨1,rfl,by omega,by omega⟩
   .exact⟨_,rfl,by omega,by omega⟩
   .exact⟨_,rfl,by omega,by omega⟩
  refine Abu (d1:=0) (d2:=0) (Q':=λx=>∃w,x=.rt w/\∃c:Cl,c.ok=true/\w=c.w) (Aoq (R':=λw=>∃c:Cl,c.ok=true/\w=c.w) (Sf.of_pu (a:=Cl.w (.inn (lawT i L.toNat))) ?_ ⟨_,?_,rfl⟩) (λw h=>⟨w,rfl,h⟩)) (λZ' h=>by obtain⟨w,e,_⟩:=h;cases e) (λw h=>h)
  .have hT:=Pb (P:=SP.any) (ns:=ns) (n:=i) (size:=L.toNat) (by omega)
   rw[eZ hL1] at hT;exact Dj (Aa Ad (Aa (Ae (Aa (Af rfl) (Aa (Rq (Aa Ad (Aa Ad (Aa (Aj (Af rfl) Ad (Cu (j:=8))) (Aa (Aj (Aj (Af rfl) Ad (Cu (j:=30))) (Aj (Aj (Af rfl) Ad (Cu (j:=8))) Ad Di) (Cd (j:=size / 8+1) (by omega))) Ac)))) (by show 4<=big;decide) (Aj (Aj (Af rfl) Ad (Cu (j:=3))) Ad (Cd (j:=4))) hL) Ac)) hT) Ac)) (by show 2<=big;decide)
  .show (M2.G5 (lawT i L.toNat)&&decide ((lawT i L.toNat).length<=63))=true;rw[Su,Jd,iK,decide_eq_true_eq];omega
 .rcases h with h|e
  .exact h
  .cases e
end
def cut(z:Str)(i j:Nat):Str:=⟨((z.cps.toList.drop i).take (j - i)).toArray⟩
theorem Aq9{i j:Nat}(h1:i<=j)(h2:j<=z.length):pF z (some (i:Int)) (some (j:Int))=cut z i j:=by
 have q:=eq_of_beq (yU (x:=z) (i:=(i:Int)) (j:=(j:Int)) (by omega) (by omega) (by omega))
 rw[q];unfold cut;rw[show ((j:Int) - (i:Int)).toNat=j - i by omega,cV]
theorem Am1{j:Nat}(h2:j<=z.length):pF z none (some (j:Int))=cut z 0 j:=by
 have q:=eq_of_beq (xG (x:=z) (j:=(j:Int)) (by omega) (by omega))
 rw[q];unfold cut;rw[show ((j:Int) - 0).toNat=j - 0 by omega]
 rfl
theorem Abv{i j:Nat}(h1:i<=j)(h2:j<=z.length):(cut z i j).length=j - i:=by
 have hz:z.cps.toList.length=z.length:=cN;unfold cut;show ((z.cps.toList.drop i).take (j - i)).toArray.size=j - i;rw[bD,eQ,cD];omega
theorem Av3{i j:Nat}(h:M2.G5 z=true):M2.G5 (cut z i j)=true:=by
 unfold M2.G5 at h ⊢
 rw[cG] at h ⊢
 intro c hc;have hc:c∈((z.cps.toList.drop i).take (j - i)).toArray.toList:=hc;rw[List.toList_toArray] at hc;exact h c (tH (tK hc))
noncomputable def dk(keys:List Str):List (Key×W):=keys.map λz=>(.inr z,.bl true)
theorem Bgt(keys:List Str)(z:Str):∃keys',Tq (dk keys) (.inr z) (.bl true)=dk keys'/\keys'.length<=keys.length+1/\(keys.Nodup->keys'.Nodup)/\∀y∈keys',y∈keys\/y=z:=by
 by_cases hz:z∈keys
 .refine⟨keys,?_,lL _,λh=>h,λy hy=>.inl hy⟩;unfold Tq;have ha:((dk keys).any λp=>decide (p.1=(jJ z:Key)))=true:=wW.mpr ⟨((jJ z:Key),W.bl true),bU.mpr ⟨z,hz,rfl⟩,decide_eq_true rfl⟩;rw[if_pos ha];unfold dk;rw[bB];refine List.map_congr_left λy _=>?_;show (if (jJ y:Key)=.inr z then ((jJ y:Key),W.bl true) else (.inr y,.bl true))=_
  split <;> rfl
 .refine⟨keys ++ [z],?_,by rw[aK];exact aN _,λh=>?_,λy hy=>?_⟩
  .unfold Tq;rw[if_neg]
   .unfold dk;rw[cX];rfl
   .intro h;obtain⟨p,hp,e⟩:=wW.mp h;obtain⟨y,hy,rfl⟩:=bU.mp hp;have e:(jJ y:Key)=.inr z:=of_decide_eq_true e;exact hz (aAd e ▸ hy)
  .rw[nJ];refine⟨h,jV.mpr ⟨(λz=>nomatch z),.nil⟩,λa ha b hb e=>?_⟩;rw[bA.mp hb] at e;exact hz (e ▸ ha)
  .rcases bW.mp hy with h|h
   .exact .inl h
   .exact .inr (bA.mp h)
theorem Aor:∀keys:List Str,Gb Xf (dk keys)=some keys
 |[]=>rfl
 |z::keys=>by
  have:=Aor keys;unfold dk at this ⊢
  rw[aG,Gb,this];rfl
abbrev Vy(ks:List Str):Prop:=ks.Pairwise λa b=>Ib a b=true
theorem Rr:∀{ks:List Str},Vy ks->Li ks=true
 |[],_=>rfl
 |[a],_=>rfl
 |a::b::ks,h=>by
  have h:=mV.mp h;have ih:=Rr h.2;unfold Li at ih ⊢
  show (Ib a b&&((b::ks).zip ((b::ks).drop 1)).all λp=>Ib p.1 p.2)=true;rw[ih,h.1 b (aH),zL]
theorem Ara(h:leS a b=true)(ne:a≠b):Ib a b=true:=by
 cases hc:Ib a b with
 |true=>rfl
 |false=>
  have h2:leS b a=true:=by
   unfold leS;unfold Ib at hc;rw[hc];rfl
  exact absurd (Aiw a b h h2) ne
theorem Va(h:ks.Nodup):Vy (Mw ks):=by
 have h1:=Aag ks;have h2:(Mw ks).Nodup:=(Gs ks).nodup_iff.mpr h;exact(h1.and h2).imp λ⟨a,b⟩=>Ara a b
section
variable{ns:List Int}{n d:Nat}{k:Int}
theorem Bay(h:S[n]?=some (stD k))(h0:0<=k)(h1:k < 900000)(q:∀i S',Fr [n] S S'->S'[n]?=some (stD (k+1))->0<=i->Q (.int i) S'):Wm (Bs ns [.ref n]) S Q:=by
 obtain⟨G,e⟩:=Aon (ns:=ns) h h0 (by omega)
 exact⟨_,_,e,q _ _ (Fr.set.then0 Fr.app) (Fr.app.at0 (Qw (Fy h))) (Av0 ns (k+1))⟩
theorem Je{i:Nat}(hv:Z[i]?=some (some (.ref n)))(h:S[n]?=some (stD k))(h0:0<=k)(h1:k < 900000)(q:∀i S',Fr [n] S S'->S'[n]?=some (stD (k+1))->0<=i->Q (.int i) S'):Wm (Cp (Bs ns) (yA (Ab i)) Z) S Q:=
 Et (Bu (Ec hv (Ek (Bay h h0 h1 q))))
theorem Bke{α:Type}{m:M α}{Q':α->Prop}{R:α->Store->Prop}(hm:Sf n d m Q')(h:S[n]?=some (stD k))(h0:0<=k)(h1:k+d<=900000)(q:∀a k' S',Fr [n] S S'->S'[n]?=some (stD k')->k<=k'->k'<=k+d->Q' a->R a S'):Wm m S R:=by
 obtain⟨a,k',G,e,q1,q2,qa⟩:=hm k S h0 h1 h;exact⟨a,_,e,q a k' _ (Fr.set.then0 Fr.app) (Fr.app.at0 (Qw (Fy h))) q1 q2 qa⟩
def Av4(q:Q (.ref S.length) (S ++ [.dct []])):Wm (M3 [] Z) S Q:=⟨.ref S.length,S ++ [.dct []],rfl,q⟩
def Am2(base:Str)(at' size:Nat)(c:Nat):Str:=cut base 0 at' ++ ⟨#[c]⟩ ++ cut base (at'+1) size
theorem Baz{a L c:Nat}(hb:base.length=12)(ht:M2.G5 base=true)(ha:a < L)(hL:L<=12)(hc:M2.okC c=true):isKey (Am2 base a L c)=true:=by
 have l1:(cut base 0 a).length=a:=by rw[Abv (by omega) (by omega)];omega
 have l2:(cut base (a+1) L).length=L - (a+1):=Abv (by omega) (by omega)
 have l3:(Am2 base a L c).length=L:=by
  unfold Am2;rw[len_app,len_app,l1,l2];show a+1+(L - (a+1))=L;omega
 unfold isKey;rw[l3];unfold Am2;rw[Am0,Am0,Av3 ht,Av3 ht,show M2.G5 (⟨#[c]⟩:Str)=true from (Avu c).trans hc];simp only[zL,iK,aC,decide_eq_true_eq];omega
theorem Ba0{a L c:Nat}(hb:base.length=12)(ha:a < L)(hL:L<=12)(h1:Pu P (f1 Z) (.str base))(h2:Pu P (f2 Z) (.int (a:Int)))(h3:Pu P (f3 Z) (.str ⟨#[c]⟩))(h4:Pu P (f4 Z) (.int (L:Int))):
  Pu P (Ai .add (Ai .add (slF ns f1 Bd (Bv f2)) f3) (slF ns f1 (Bv (Ai .add f2 (kI 1))) (Bv f4)) Z) (.str (Am2 base a L c)):=by
 have l1:(cut base 0 a).length=a:=by rw[Abv (by omega) (by omega)];omega
 have l2:(cut base (a+1) L).length=L - (a+1):=Abv (by omega) (by omega)
 have s1:Pu P (slF ns f1 Bd (Bv f2) Z) (.str (cut base 0 a)):=by
  refine Ho h1 Dk (Dz h2) ?_;show Pu P (if base.length<=big then pure (W.str (pF base none (some (a:Int)))) else bad) _
  rw[Am1 (by omega)]
  exact Lw (by rw[hb];decide) Pu.pure
 have s2:Pu P (slF ns f1 (Bv (Ai .add f2 (kI 1))) (Bv f4) Z) (.str (cut base (a+1) L)):=by
  refine Ho h1 (Dz (Aj h2 Ad Di)) (Dz h4) ?_;show Pu P (if base.length<=big then pure (W.str (pF base (some ((a:Int)+1)) (some (L:Int)))) else bad) _
  rw[show ((a:Int)+1)=((a+1:Nat):Int) by omega,Aq9 (by omega) (by omega)]
  exact Lw (by rw[hb];decide) Pu.pure
 refine Aj (Aj s1 h3 (Dl ?_)) s2 (Dl ?_)
 .rw[l1];show a+1<=big;unfold big;omega
 .rw[len_app,l1,l2];show a+1+(L - (a+1))<=big;unfold big;omega
theorem Arb{d:Nat}(hd:S[d]?=some (.dct (dk keys)))(hl:keys.length < 64)(q:Q (.ref S.length) (S ++ [.lst ((Mw keys).map W.str)])):Wm (Jz [.ref d]) S Q:=⟨_,_,by
 unfold Jz;dsimp only;rw[hd];dsimp only;rw[if_pos (by unfold dk;rw[aA];exact hl),Aor]
 dsimp only;unfold Ck;rw[if_pos (by rw[aA,(Gs keys).length_eq];unfold big;omega)],q⟩
theorem Arc(i:Int)(hi:0<=i):∃L:Nat,atI [W.int 1,.int 12,.int (1+i / 5 % 12),.int 3,.int (2+i / 5 % 3)] (i % 5)=some (.int (L:Int))/\1<=L/\L<=12:=by
 have h5:i % 5=0\/i % 5=1\/i % 5=2\/i % 5=3\/i % 5=4:=by omega
 rcases h5 with h|h|h|h|h <;> rw[h]
 .exact⟨1,rfl,by omega,by omega⟩
 .exact⟨12,rfl,by omega,by omega⟩
 .refine⟨(1+i / 5 % 12).toNat,?_,by omega,by omega⟩
  rw[eZ (by omega)];rfl
 .exact⟨3,rfl,by omega,by omega⟩
 .refine⟨(2+i / 5 % 3).toNat,?_,by omega,by omega⟩
  rw[eZ (by omega)];rfl
theorem Ard{many:Nat}(hm:many<=13)(h:S[n]?=some (stD k))(h0:0<=k)(h1:k+20<=900000)(q:∀r keys k' S',Fr [n] S S'->S'[n]?=some (stD k')->k<=k'->k'<=k+14->S'[r]?=some (.lst (keys.map W.str))->S.length<=r->keys.length<=13->(∀z∈keys,isKey z=true)->Vy keys->Q (.ref r) S'):
  Wm (Mm ns [.ref n,.int (many:Int)]) S Q:=by
 refine Mj rfl ?_;refine Cw (Et (Bu (Je rfl h h0 (by omega) λi0 S1 f1 g1 hi0=>Bu (Xi (Ek ?_)))))
 refine Gw (Pb (n:=i0) (size:=12) (by decide)) λS2 f2=>?_
 refine Cw (Av4 ?_);have f3:Fr [n] S (S2 ++ [.dct []]):=(f1.then0 f2).then0 .app;have hb:(lawT i0 12).length=12:=Jd i0 12;have hbt:M2.G5 (lawT i0 12)=true:=Su i0 12;have hlen:S.length<=S2.length:=(f1.then0 f2).len;have hnl:n < S.length:=Fy h;generalize lawT i0 12=base at hb hbt;generalize hD:S2.length=D;have hD2:(S2 ++ [Cell.dct []])[D]?=some (.dct (dk [])):=by rw[<-hD];exact Fo
 have hN2:(S2 ++ [Cell.dct []])[n]?=some (stD (k+1)):=Fr.app.at0 (f2.at0 g1);refine Bgk (P:=SP.any) (J1 (k:=many) (Aa (Af rfl) Ac) (by unfold big;omega)) trivial λS3 f4=>?_
 refine Bac (J:=λi Z T=>∃x4 x5 x6 x7 x8 x9 keys,Z=[some (.ref n),some (.int (many:Int)),some (.str base),some (.ref D),x4,x5,x6,x7,x8,x9]/\Fr [n] S T/\T[n]?=some (stD (k+1+(i:Int)))/\T[D]?=some (.dct (dk keys))/\keys.length<=i/\keys.Nodup/\∀z∈keys,isKey z=true) ?_ ?_ ?_
 .rintro i w Z T hw ⟨x4,x5,x6,x7,x8,x9,keys,rfl,fT,hN,hD3,kl,kn,kk⟩;have hi:i < many:=by
   have:=(aL.mp hw).1;rw[aA,cW] at this;exact this
  refine⟨_,rfl,?_⟩;refine Cw (Je rfl hN (by omega) (by omega) λj T1 e1 gN hj=>?_)
  obtain⟨L,hL,L1,L2⟩:=Arc j hj;refine Cw (Gw (a:=W.int (L:Int)) (Rq (Aa Ad (Aa Ad (Aa (Aj Ad (Aj (Aj (Af rfl) Ad (Cu (j:=5))) Ad (Cd (j:=12))) Di) (Aa Ad (Aa (Aj Ad (Aj (Aj (Af rfl) Ad (Cu (j:=5))) Ad (Cd (j:=3))) Di) Ac))))) (by show 5<=big;decide) (Aj (Af rfl) Ad (Cd (j:=5))) hL) λT2 e2=>?_)
  obtain⟨A,hA,hAL⟩:∃A:Nat,j / 60 % (L:Int)=(A:Int)/\A < L:=by
   have z1:=gH (j / 60) (show (L:Int)≠0 by omega)
   have z2:=gM (j / 60) (show (0:Int) < L by omega)
   exact⟨(j / 60 % (L:Int)).toNat,by rw[eZ z1],by omega⟩
  refine Cw (Gw (a:=W.int (A:Int)) ((Aj (Aj (Af rfl) Ad (Cu (j:=60))) (Af rfl) (Cd (j:=(L:Int)) (by omega))).cast (by rw[hA])) λT3 e3=>?_)
  refine Cw (Gw (Ae Ac Adw) λT4 e4=>?_);refine Cw (Gw (a:=W.str ⟨#[sgnN (j / 720 % 94)]⟩) (Av (Af rfl) (Aj (Aj (Af rfl) Ad (Cu (j:=720))) (Pu.cast (a':=W.int 94) (Ae (Aa (Af rfl) Ac) (len_str (by rw[Lk];decide))) (by rw[Lk];rfl)) (Cd (j:=94))) (Av1 (by omega) (by omega))) λT5 e5=>?_)
  have hok:M2.okC (sgnN (j / 720 % 94))=true:=Aoo (by omega) (by omega)
  generalize sgnN (j / 720 % 94)=c at hok;obtain⟨keys',ek,kl',kn',kk'⟩:=Bgt keys (Am2 base A L c);have hnD:n≠D:=by omega
  have fr:Fr [n] T T5:=e1.then0 (((e2.then0 e3).then0 e4).then0 e5);have hD5:=fr.at1 hD3 (gO hnD);refine Bab (P:=SP.any) (d:=D) (kk:=.inr (Am2 base A L c)) Ad (Af rfl) (Ba0 hb hAL L2 (Af rfl) (Af rfl) (Af rfl) (Af rfl)) trivial hD5 rfl (by unfold dk big;rw[aA];omega) λT6 e6=>?_
  rw[ek];refine Hh ⟨_,_,_,_,_,_,keys',rfl,?_,?_,Qw ?_,by omega,kn' kn,λz hz=>?_⟩
  .exact(fT.same (fr.then0 e6)).trans Fr.set λi hi=>.inr (by rw[bA.mp hi];omega)
  .rw[cJ (gO hnD)];have:=(((e2.then0 e3).then0 e4).then0 e5).then0 e6 |>.at0 gN;rw[this,show k+1+(i:Int)+1=k+1+((i+1:Nat):Int) by omega]
  .have:=e6.len;have:=Fy hD5;omega
  .rcases kk' z hz with h|h
   .exact kk z h
   .rw[h];exact Baz hb hbt hAL L2 hok
 .rintro Z T ⟨x4,x5,x6,x7,x8,x9,keys,rfl,fT,hN,hD3,kl,kn,kk⟩;rw[aA,cW] at hN kl;refine Iw (Et (Bu (Ec rfl (Ek (Arb hD3 (by omega) ?_)))))
  have hp:=Gs keys;refine q T.length (Mw keys) (k+1+(many:Int)) _ (fT.then0 .app) (Fr.app.at0 hN) (by omega) (by omega) Fo fT.len (by rw[hp.length_eq];omega) (λz hz=>kk z (hp.mem_iff.mp hz)) (Va kn)
 .refine⟨_,_,_,_,_,_,[],rfl,f3.then0 f4,?_,f4.at0 hD2,aN _,.nil,λz hz=>(nomatch hz)⟩;rw[show k+1+((0:Nat):Int)=k+1 by omega]
  exact f4.at0 hN2
end
section
variable{ns:List Int}{n d:Nat}{k:Int}
def Fits(size:Int)(w:W):Prop:=∃p:Pg,p.ok/\w=p.w/\(p.body.length:Int)<=size - 5
abbrev Ako(n d:Nat)(k:Int)(S:Store)(R:W->Prop):W->Store->Prop:=λw S'=>∃k',Fr [n] S S'/\S'[n]?=some (stD k')/\k<=k'/\k'<=k+d/\R w
theorem Are(i j:Int)(hi:0<=i)(hj:0<=j):∃v,atI [W.int 4095,.int 0,.int 63,.int 64,.int (i % 4096)] (j % 5)=some (.int v)/\Fd v 0=true:=by
 have h5:j % 5=0\/j % 5=1\/j % 5=2\/j % 5=3\/j % 5=4:=by omega
 rcases h5 with h|h|h|h|h <;> rw[h]
 .exact⟨4095,rfl,by decide⟩
 .exact⟨0,rfl,by decide⟩
 .exact⟨63,rfl,by decide⟩
 .exact⟨64,rfl,by decide⟩
 .refine⟨_,rfl,?_⟩;unfold Fd;simp only[aC,decide_eq_true_eq];omega
theorem Ba1{size:Int}(h1:64<=size)(h:S[n]?=some (stD k))(h0:0<=k)(hk:k+30<=900000)(hv:∃x1 x2 x3 x4 x5 x6 x7,Z=[some (.ref n),x1,x2,x3,x4,x5,x6,x7]):
  Wb (aB2 ns) Z S (Hu b' (Xl (Ako n 10 k S (Fits size)))):=by
 obtain⟨x1,x2,x3,x4,x5,x6,x7,rfl⟩:=hv;refine Cw (Aoi (P:=SP.any) (ws:=(bR 4).map λ(k:Nat)=>W.int ((0:Int)+(k:Int))) (J1 (k:=4) (Aa Ad Ac) (by decide)) trivial λS1 f1=>?_)
 refine Ajq (J:=λi Z acc T=>∃x vs,Z=[x,some (.ref n)]/\acc=aAu W.int vs/\vs.length=i/\(∀v∈vs,Fd v 0=true)/\Fr [n] S T/\T[n]?=some (stD (k+2 * (i:Int)))) ?_ ?_ ⟨none,[],rfl,rfl,rfl,λ_ h=>(nomatch h),f1.of0,by rw[show k+2 * ((0:Nat):Int)=k by omega];exact f1.at0 h⟩
 .rintro i w Z acc T hw ⟨x,vs,rfl,rfl,hl,hvs,fT,hT⟩;have hi:i < 4:=by
   have:=(aL.mp hw).1;rw[aA,cW] at this;exact this
  refine⟨_,rfl,Kg (if_pos rfl ▸ ?_)⟩;refine Avf (Amc (Bu (Xi (Bu (Xi (Bu (Xi (Bu (Xi (Bu (Iv (Je rfl hT (by omega) (by omega) λa T1 e1 g1 ha=>Xi (Gw (Cd (j:=4096)) λT2 e2=>Ek ⟨by show 5<=big;decide,?_⟩)))))))))))))
  have g3:(T2 ++ [Cell.lst [.int 4095,.int 0,.int 63,.int 64,.int (a % 4096)]])[n]?=some (stD (k+2 * (i:Int)+1)):=Fr.app.at0 (e2.at0 g1);have hne:T2.length≠n:=by
   have:=Fy (e2.at0 g1);omega
  refine Iv (Je rfl g3 (by omega) (by omega) λb T3 e3 g4 hb=>Xi (Gw (Cd (j:=5)) λT4 e4=>?_))
  obtain⟨v,ev,hv⟩:=Are a b ha hb;refine Ame (e4.at0 (e3.at1 Fo hne)) ev ⟨by rw[aA,hl];unfold big;omega,_,vs ++ [v],rfl,by rw[cX];rfl,by rw[aK,hl];rfl,?_,?_,?_⟩
  .intro u hu;rcases bW.mp hu with h|h
   .exact hvs u h
   .rw[bA.mp h];exact hv
  .exact(fT.same (((e1.then0 e2).then0 Fr.app).same e3)).then0 e4
  .rw[e4.at0 g4,show k+2 * (i:Int)+1+1=k+2 * ((i+1:Nat):Int) by omega]
 .rintro Z acc T ⟨x,vs,rfl,rfl,hl,hvs,fT,hT⟩;rw[aA,cW] at hl hT;refine⟨by rw[aA,hl];decide,?_⟩
  have hA:(T ++ [Cell.lst (vs.map W.int)])[T.length]?=some (.lst (vs.map W.int)):=Fo;refine Iw (Iv (Gw (Dj (Aa Ad Ac) (by decide)) λT1 e1=>Et (Bu (Ec rfl (Ek (Afo (e1.at0 hA) ?_))))))
  obtain⟨a,b,c,d,rfl⟩:∃a b c d,vs=[a,b,c,d]:=by
   match vs,hl with
   |[a,b,c,d],_=>exact⟨a,b,c,d,rfl⟩
  refine⟨Pg.w (.head a b c d),T1,rfl,k+8,(fT.then0 .app).then0 e1,e1.at0 (Fr.app.at0 hT),by omega,by omega,.head a b c d,?_,rfl,?_⟩
  .exact⟨hvs a (by simp),hvs b (by simp),hvs c (by simp),hvs d (by simp)⟩
  .show ((Ka [a,b,c,d]).length:Int)<=size - 5;rw[Ij];show ((2 * 4:Nat):Int)<=_;omega
end
theorem X7{α β:Type}(f:α->β):∀(l:List α)(i:Nat),(l.map f).eraseIdx i=(l.eraseIdx i).map f
 |[],_=>rfl
 |_::_,0=>rfl
 |a::l,i+1=>by
  rw[aG,qW,qW,aG,X7 f l i]
structure Rows(rs:List (Str×Cl)):Prop where
 len:rs.length<=13
 ok:∀r∈rs,isKey r.1=true/\r.2.ok=true
 rise:Vy (rs.map (·.1))
theorem Rows.rowsOk(h:Rows rs):rowsOk rs:=⟨aD h.len (by decide),h.ok,Rr h.rise⟩
theorem Rows.erase(h:Rows rs)(i:Nat):Rows (rs.eraseIdx i) where
 len:=aD (by rw[lR];split <;> omega) h.len
 ok:=λr hr=>h.ok r (qM hr)
 rise:=h.rise.sublist ((sI rs i).map _)
theorem Akp{α:Type}{l:List α}{i:Nat}(h:i < l.length):(l.eraseIdx i).length < l.length:=by
 rw[lR,if_pos h];omega
theorem Av5{m:Nat}{i:Int}(h0:0<=i)(h:i < m):ixN m i=some i.toNat:=by
 unfold ixN;rw[if_pos h0,if_pos h]
section
variable{ns:List Int}{n d r:Nat}{k:Int}
theorem Rt{i:Nat}(h0:∀S,P.p S->AtL r ws S)(hv:Z[i]?=some (some (.ref r))):Pu P (Cp (Ep ns) (yA (Ab i)) Z) (.tup ws):=
 Ae (Aa (Af hv) Ac) λS hS=>⟨[],by
  have e:S[r]?=some (.lst ws):=h0 S hS;unfold Ep;dsimp only;rw[e,bJ]⟩
theorem Ru{i:Nat}(h0:∀S,P.p S->AtL r ws S)(hv:Z[i]?=some (some (.ref r))):Pu P (Cp (Bw ns) (yA (Ab i)) Z) (.int ws.length):=
 Ae (Aa (Af hv) Ac) λS hS=>⟨[],by
  have e:S[r]?=some (.lst ws):=h0 S hS;unfold Bw;dsimp only;rw[e,bJ]⟩
theorem Aos{i2 i7:Nat}{num:Int}(hr:S[r]?=some (.lst ws))(h2:Z[i2]?=some (some (.int num)))(h7:Z[i7]?=some (some (.ref r)))(hl:ws.length<=big)(hw:0 < ws.length)(q:∀j w S',Fr [] S S'->j < ws.length->Q w (S'.set r (.lst (ws.eraseIdx j)))):Wm (Ke .lst Nm (Ab i7) (yA (Ai .mod (Ab i2) (zA (Bw ns) (Ab i7)))) Z) S Q:=by
 refine Abr (P:=SP.any) (Af h7) trivial hr λS1 f1=>?_;have hr1:=f1.at0 hr;have hm:0 < (ws.length:Int):=by omega
 have z1:=gH num (show (ws.length:Int)≠0 by omega)
 have z2:=gM num hm;refine Bu (Iv (Ec h2 ?_));refine Et (Bu (Ec h7 (Ek (Aog hr1 ?_))));refine Gw (Cd hm) λS2 f2=>Ek ?_;obtain⟨w,hw2⟩:∃w,ws[(num % (ws.length:Int)).toNat]?=some w:=⟨_,aW (by omega)⟩
 exact Avg (f2.at0 hr1) hl (Av5 z1 z2) hw2 (q _ w S2 (f1.then0 f2) (by omega))
theorem Ba2{size num:Int}(h1:64<=size)(h2:size<=200)(hn:0<=num){k0:Int}(f0:Fr [n] S0 S)(h:S[n]?=some (stD k))(h0:0<=k)(hk0:k0<=k)(hkd:k<=k0+15)(hk:k+30<=900000)(hr:S[r]?=some (.lst (keys.map W.str)))(hrl:S0.length<=r)(kl:keys.length<=13)(kk:∀z∈keys,isKey z=true)(kr:Vy keys)(hv:∃x3 x4 x5 x7,Z=[some (.ref n),some (.int size),some (.int num),x3,x4,x5,some (.ref r),x7])(hn0:n < S0.length):
  Wb (aA8 ns) Z S (Hu b' (Xl (Ako n 30 k0 S0 (Fits size)))):=by
 obtain⟨x3,x4,x5,x7,rfl⟩:=hv;have hnr:r≠n:=by omega
 refine Cw (Avj (P:=SP.any.at r (keys.map W.str)) (Wd (λ_ h=>h.2) (Af rfl)) ⟨trivial,hr⟩ hr λS1 f1=>?_);refine Xn (d:=r) (ws:=keys.map W.str) (J:=λi Z acc T=>∃x rs k',Z=[x,some (.int size),some (.ref n)]/\acc=aAu Hr rs/\rs.map (·.1)=keys.take i/\(∀r∈rs,r.2.ok=true)/\Fr [n] S T/\T[n]?=some (stD k')/\k<=k'/\k'<=k+i) ?_ ?_ ?_ _ 0 _ [] S1 ?_ (dU _) (by omega)
 .rintro i Z acc T ⟨x,rs,k',_,_,_,_,fT,_⟩;exact fT.at1 hr hnr
 .rintro i w Z acc T hw ⟨x,rs,k',rfl,rfl,e1,e2,fT,hT,q1,q2⟩;rw[cB] at hw;obtain⟨z,hz,rfl⟩:=cF.mp hw;have hi:i < keys.length:=(aL.mp hz).1;refine⟨_,rfl,Kg (if_pos rfl ▸ ?_)⟩;refine Amd (Bu (Ec rfl (Bu ?_)));refine Et (Bu (Ec rfl (Bu (Ec rfl (Ek ?_)))));refine Bke (Bax h1 h2) hT (by omega) (by omega) λc k2 T2 g1 g2 g3 g4 hcl=>?_
  obtain⟨cl,hc,ec⟩:=hcl;refine Ek ⟨by show 2<=big;decide,?_⟩
  subst ec;have hrs:rs.length=i:=by
   have:=congrArg mW e1;rw[aA,eQ] at this;omega
  refine⟨by rw[aA,hrs];unfold big;omega,_,rs ++ [(z,cl)],k2,rfl,by rw[cX];rfl,?_,?_,fT.same g1,g2,by omega,by omega⟩
  .rw[cX,e1,aG,cT,List.take_add_one,hz];rfl
  .intro r hr;rcases bW.mp hr with h|h
   .exact e2 r h
   .rw[bA.mp h];exact hc
 .rintro Z acc T ⟨x,rs,k',rfl,rfl,e1,e2,fT,hT,q1,q2⟩;rw[aA] at e1 q2;rw[lY] at e1;have hrs:rs.length=keys.length:=by rw[<-e1,aA]
  refine⟨by rw[aA];unfold big;omega,?_⟩
  have hR:Rows rs:=⟨by omega,λr hr=>⟨kk r.1 (e1 ▸ bU.mpr ⟨r,hr,rfl⟩),e2 r hr⟩,e1 ▸ kr⟩
  have hn2:n < T.length:=Fy hT;refine Ajp (fuel:=fuel) (m:=rs.length) (J:=λm Z U=>∃rs,Z=[some (.ref n),some (.int size),some (.int num),x3,x4,x5,some (.ref r),some (.ref T.length)]/\m=rs.length/\Rows rs/\U[T.length]?=some (.lst (rs.map Hr))/\Fr [n] S U/\U[n]?=some (stD k')) ⟨rs,rfl,rfl,hR,Fo,fT.then0 .app,Fr.app.at0 hT⟩ (by unfold fuel;omega) ?_
  rintro m Z U ⟨rs,rfl,rfl,hR,hU,fU,hN⟩;have hok:Pg.ok (.leaf rs):=hR.rowsOk;have hbl:(Pg.leaf rs).body.length<=big:=by
   show (M1.Dq 1 rs.length ++ jn (rs.map Jv)).length<=big;have:=Adu (ys:=rs.map Jv) (c:=78) (n:=13) (λy hy=>by
    obtain⟨r,hr,rfl⟩:=bU.mp hy;exact Wu (hR.ok r hr).1 (hR.ok r hr).2) (by rw[aA];exact hR.len)
   rw[len_app,By];unfold big;omega
  refine Cr (P:=SP.any.at T.length (rs.map Hr)) (a:=decide (size - 5 < ((Pg.leaf rs).body.length:Int))) (Ag (Ah (Ae (Aa (Ae (Aa (Dj (Aa Ad (Aa (Rt (λ_ h=>h.2) rfl) Ac)) (by show 2<=big;decide)) Ac) (Adv hok)) Ac) (len_str hbl)) (Aj (Af rfl) Ad Sg) Ji)) ⟨trivial,hU⟩ λU1 e1=>?_
  by_cases hc:size - 5 < ((Pg.leaf rs).body.length:Int)
  .rw[if_pos (decide_eq_true hc)];have hpos:0 < (rs.map Hr).length:=by
    rw[aA];rcases vB rs.length with z|z
    .have:rs=[]:=qX.mp z;subst this;have:((Pg.leaf []).body.length:Int)=1:=rfl;omega
    .exact z
   refine Wf (Aos (e1.at0 hU) rfl rfl (by rw[aA];have:=hR.len;unfold big;omega) hpos λj w U2 e2 hj=>?_)
   rw[aA] at hj;refine Hh ⟨_,Akp hj,rs.eraseIdx j,rfl,rfl,hR.erase j,?_,?_,?_⟩
   .rw[X7];exact Qw (by have:=Fy (e2.at0 (e1.at0 hU));omega)
   .exact(fU.then0 (e1.then0 e2)).trans Fr.set λi hi=>.inr (by rw[bA.mp hi];exact fT.len)
   .rw[cJ (by omega)]
    exact e2.at0 (e1.at0 hN)
  .rw[if_neg (by rw[decide_eq_false hc];exact bH)]
   refine Iw (Cr (P:=SP.any.at T.length (rs.map Hr)) (Dj (Aa Ad (Aa (Rt (λ_ h=>h.2) rfl) Ac)) (by show 2<=big;decide)) ⟨trivial,e1.at0 hU⟩ λU2 e2=>?_)
   exact⟨k',f0.same ((fU.then0 e1).then0 e2),e2.at0 (e1.at0 hN),by omega,by omega,.leaf rs,hok,rfl,by omega⟩
 .exact⟨none,[],k,rfl,rfl,rfl,λ_ h=>(nomatch h),f1.of0,f1.at0 h,by omega,by omega⟩
end
structure Av6(ks:List Str):Prop where
 len:ks.length<=13
 ok:∀z∈ks,isKey z=true
 rise:Vy ks
theorem Av6.erase(h:Av6 ks)(i:Nat):Av6 (ks.eraseIdx i) where
 len:=aD (by rw[lR];split <;> omega) h.len
 ok:=λr hr=>h.ok r (qM hr)
 rise:=h.rise.sublist (sI ks i)
noncomputable def Ph(ks:List Str):Int:=(ks.map λz=>1+(z.length:Int)).sum
theorem Akq:∀ks:List Str,((jn (ks.map Jc)).length:Int)=Ph ks
 |[]=>rfl
 |z::ks=>by
  have ih:=Akq ks;unfold Ph at ih ⊢
  rw[aG,aG,Kh,len_app,jH,<-ih];unfold Jc;rw[len_app,By];omega
theorem Akr(ks:List Str)(ps:List Int)(h:ps.length=ks.length+1):((Pg.fork ks ps).body.length:Int)=1+Ph ks+2 * (ks.length:Int)+2:=by
 show ((M1.Dq 1 ks.length ++ jn (ks.map Jc) ++ Ka ps).length:Int)=_;rw[len_app,len_app,By,Ij,h,<-Akq];omega
def Av7{i:Int}(h0:0<=i)(h1:i<=1000000):small i=true:=Aga h0 h1
section
variable{ns:List Int}{n d r:Nat}{k:Int}
theorem Arf{i:Nat}(h0:∀S,P.p S->AtL r (ks.map W.str) S)(hv:Z[i]?=some (some (.ref r)))(hl:ks.length<=big)(hk:∀z∈ks,isKey z=true):
  Pu P (Cp Ai2 (yA (Bt 1 [] (Cv ns (Ab i)) (Bg 0) (λ_=>pure true) (Ai .add (kI 1) (zA (Bw ns) (Ab 0))))) Z) (.int (Ph ks)):=by
 refine Bgg (is:=ks.map λz=>1+(z.length:Int)) ?_;have h:=Sh (P:=P) (xs:=ks) (φ:=W.str) (ψ:=λz=>W.int (1+(z.length:Int))) (τ:=λ_=>true) (s:=Bg 0) (t:=λ_=>pure true) (e:=Ai .add (kI 1) (zA (Bw ns) (Ab 0))) (k:=1) (cap:=[]) (Z:=Z) (src:=Cv ns (Ab i)) (n:=r) h0
  (Wd h0 (Af hv)) Lx (λz hz=>⟨Pu.pure,λ_=>Aj Ad (Ae (Aa (Af rfl) Ac) (len_str (Wr (hk z hz)))) Di⟩) ⟨none,rfl⟩ hl
 rw[fH.mpr (λ_ _=>rfl)] at h;rw[bB];exact h
theorem Ba3{size num:Int}(h1:64<=size)(h2:size<=200)(hn:0<=num){k0:Int}(f0:Fr [n] S0 S)(h:S[n]?=some (stD k))(h0:0<=k)(hk0:k0<=k)(hkd:k<=k0+15)(hk:k+30<=900000)(hr:S[r]?=some (.lst (keys.map W.str)))(hrl:S0.length<=r)(hK:Av6 keys)(hv:∃x3 x4 x5 x7,Z=[some (.ref n),some (.int size),some (.int num),x3,x4,x5,some (.ref r),x7])(hn0:n < S0.length):
  Wb (aA2 ns) Z S (Xl (Ako n 30 k0 S0 (Fits size))):=by
 obtain⟨x3,x4,x5,x7,rfl⟩:=hv;have hnr:r≠n:=by omega
 refine Ajp (fuel:=fuel) (m:=keys.length) (J:=λm Z U=>∃ks,Z=[some (.ref n),some (.int size),some (.int num),x3,x4,x5,some (.ref r),x7]/\m=ks.length/\Av6 ks/\U[r]?=some (.lst (ks.map W.str))/\Fr [n] S0 U/\U[n]?=some (stD k)) ⟨keys,rfl,rfl,hK,hr,f0,h⟩ (by have:=hK.len;unfold fuel;omega) ?_
 rintro m Z U ⟨ks,rfl,rfl,hK,hU,fU,hN⟩;have kl:=hK.len;have hsm:small ((ks.length:Nat):Int)=true:=Av7 (by omega) (by omega)
 have hlm:((ks.map W.str).length:Int)=(ks.length:Int):=by rw[aA]
 refine Cr (P:=SP.any.at r (ks.map W.str)) (a:=decide (size - 5 < 1+Ph ks+2 * (ks.length:Int)+2)) (Ag ((Ah (Aj (Aj (Aj Ad (Arf (λ_ h=>h.2) rfl (by unfold big;omega) hK.ok) Di) (Aj Ad (Pu.cast (a':=W.int (ks.length:Int)) (Ru (λ_ h=>h.2) rfl) (by rw[hlm])) (Kf (by rw[hsm,mC]))) Di) Ad Di) (Aj (Af rfl) Ad Sg) Ji))) ⟨trivial,hU⟩ λU1 e1=>?_
 by_cases hc:size - 5 < 1+Ph ks+2 * (ks.length:Int)+2
 .rw[if_pos (decide_eq_true hc)];have hpos:0 < (ks.map W.str).length:=by
   rw[aA];rcases vB ks.length with z|z
   .have:ks=[]:=qX.mp z;subst this;have:Ph []=0:=rfl;have:(([]:List Str).length:Int)=0:=rfl;omega
   .exact z
  refine Wf (Aos (e1.at0 hU) rfl rfl (by rw[aA];unfold big;omega) hpos λj w U2 e2 hj=>?_)
  rw[aA] at hj;refine Hh ⟨_,Akp hj,ks.eraseIdx j,rfl,rfl,hK.erase j,?_,?_,?_⟩
  .rw[X7];exact Qw (by have:=Fy (e2.at0 (e1.at0 hU));omega)
  .exact(fU.then0 (e1.then0 e2)).trans Fr.set λi hi=>.inr (by rw[bA.mp hi];exact hrl)
  .rw[cJ hnr];exact e2.at0 (e1.at0 hN)
 .rw[if_neg (by rw[decide_eq_false hc];exact bH)]
  have hU1:=e1.at0 hU;refine Iw (Amd (Bu (Xi (Bu ?_))));refine Cr (P:=SP.any.at r (ks.map W.str)) (Rt (λ_ h=>h.2) rfl) ⟨trivial,hU1⟩ λU2 e2=>?_;refine Bu (Et (Bu ?_));refine Aoi (P:=SP.any.at r (ks.map W.str)) (ws:=(bR (ks.length+1)).map λ(k:Nat)=>W.int ((0:Int)+(k:Int))) (J1 (k:=ks.length+1) (Aa (Pu.cast (Aj (Ru (λ_ h=>h.2) rfl) Ad Di) (by rw[hlm];rfl)) Ac) (by unfold big;omega)) ⟨trivial,e2.at0 hU1⟩ λU3 e3=>?_
  have f3:Fr [n] S0 U3:=((fU.then0 e1).then0 e2).then0 e3;refine Ajq (J:=λi Z acc T=>∃x ps,Z=[x,some (.ref n)]/\acc=aAu W.int ps/\ps.length=i/\(∀p∈ps,Fd p 1=true)/\Fr [n] S0 T/\T[n]?=some (stD (k+(i:Int)))) ?_ ?_ ⟨none,[],rfl,rfl,rfl,λ_ h=>(nomatch h),f3,by rw[show k+((0:Nat):Int)=k by omega];exact e3.at0 (e2.at0 (e1.at0 hN))⟩
  .rintro i w Z acc T hw ⟨x,ps,rfl,rfl,hl,hps,fT,hT⟩;have hi:i < ks.length+1:=by
    have:=(aL.mp hw).1;rw[aA,cW] at this;exact this
   refine⟨_,rfl,Kg (if_pos rfl ▸ ?_)⟩;refine Iv (Xi (Iv ?_));refine Je rfl hT (by omega) (by omega) λa T1 g1 g2 ha=>Xi ?_
   refine Gw (Cd (j:=4095)) λT2 g3=>Gw Di λT3 g4=>?_;refine⟨by rw[aA,hl];unfold big;omega,_,ps ++ [1+a % 4095],rfl,by rw[cX];rfl,by rw[aK,hl];rfl,?_,?_,?_⟩
   .intro u hu;rcases bW.mp hu with h|h
    .exact hps u h
    .rw[bA.mp h];unfold Fd;simp only[aC,decide_eq_true_eq];omega
   .exact(fT.same g1).then0 (g3.then0 g4)
   .rw[g4.at0 (g3.at0 g2),show k+(i:Int)+1=k+((i+1:Nat):Int) by omega]
  .rintro Z acc T ⟨x,ps,rfl,rfl,hl,hps,fT,hT⟩;rw[aA,cW] at hl hT;refine⟨by rw[aA,hl];unfold big;omega,Ek (Afo Fo (Ek ⟨by show 3<=big;decide,?_⟩))⟩
   refine⟨k+((ks.length+1:Nat):Int),fT.then0 .app,Fr.app.at0 hT,by omega,by omega,.fork ks ps,⟨⟨by omega,hK.ok,Rr hK.rise⟩,hl,hps⟩,rfl,?_⟩
   rw[Akr ks ps hl];omega
end
section
variable{ns:List Int}{n d r:Nat}{k:Int}
theorem Arh(i:Int)(hi:0<=i):∃v,atI [W.int 0,.int 1,.int 4095,.int (i / 7 % 4096)] (i / 7 % 4)=some (.int v)/\Fd v 0=true:=by
 have h4:i / 7 % 4=0\/i / 7 % 4=1\/i / 7 % 4=2\/i / 7 % 4=3:=by omega
 rcases h4 with h|h|h|h <;> rw[h]
 .exact⟨0,rfl,by decide⟩
 .exact⟨1,rfl,by decide⟩
 .exact⟨4095,rfl,by decide⟩
 .refine⟨_,rfl,?_⟩;unfold Fd;simp only[aC,decide_eq_true_eq];omega
theorem Av8(i size:Int)(hi:0<=i)(h1:64<=size)(h2:size<=200):∃L:Nat,atI [W.int 1,.int (size - 7),.int (1+i / 7 % (size - 7))] (i / 7 % 3)=some (.int (L:Int))/\1<=L/\(L:Int)<=size - 7:=by
 have h3:i / 7 % 3=0\/i / 7 % 3=1\/i / 7 % 3=2:=by omega
 have z1:=gH (i / 7) (show size - 7≠0 by omega)
 have z2:=gM (i / 7) (show 0 < size - 7 by omega)
 rcases h3 with h|h|h <;> rw[h]
 .exact⟨1,rfl,by omega,by omega⟩
 .refine⟨(size - 7).toNat,?_,by omega,by omega⟩
  rw[eZ (by omega)];rfl
 .refine⟨(1+i / 7 % (size - 7)).toNat,?_,by omega,by omega⟩
  rw[eZ (by omega)];rfl
theorem Ari(i:Int)(hi:0<=i):∃v,atI [W.int 0,.int (i / 21 % 4096)] (i / 7 % 2)=some (.int v)/\Fd v 0=true:=by
 have h4:i / 7 % 2=0\/i / 7 % 2=1:=by omega
 rcases h4 with h|h <;> rw[h]
 .exact⟨0,rfl,by decide⟩
 .refine⟨_,rfl,?_⟩;unfold Fd;simp only[aC,decide_eq_true_eq];omega
theorem Ba4{size:Int}(h1:64<=size)(h2:size<=200)(h:S[n]?=some (stD k))(h0:0<=k)(hk:k+100<=900000)(q:∀w S',Ako n 31 k S (Fits size) w S'->Q w S'):Wm (Q8 ns [.ref n,.int size]) S Q:=by
 refine Cz (Q:=Ako n 31 k S (Fits size)) ?_ q;have hnl:n < S.length:=Fy h;refine Mj rfl ?_;refine Cw (Je rfl h h0 (by omega) λi S1 f1 g1 hi=>?_)
 refine Cw (Gw (a:=W.int (i % 7)) (Aj (Af rfl) Ad (Cd (j:=7))) λS2 f2=>?_);have fr2:Fr [n] S S2:=f1.then0 f2;have g2:=f2.at0 g1;have eqT:∀{T:Store} {c:Int} {K:Bool->Store->Prop} {Z:De},Z[3]?=some (some (.int (i % 7)))->(∀T',Fr [] T T'->K (i % 7==c) T')->Wm (Bf (Cq .Eq (Ab 3) (kI c)) Z) T K:=λhv k=>Gw (Ag (Ah (Af hv) Ad Ff)) k;have ife:∀{c:Int},(i % 7==c)=decide (i % 7=c):=λ{c}=>by
  by_cases hc:i % 7=c
  .rw[decide_eq_true hc,hc];exact beq_self_eq_true c
  .rw[decide_eq_false hc];exact beq_eq_false_iff_ne.mpr hc
 by_cases c0:i % 7=0
 .refine K7 (eqT rfl λS3 f3=>⟨by rw[ife];exact decide_eq_true c0,?_⟩)
  refine Aoh (Ba1 h1 (f3.at0 g2) (by omega) (by omega) ⟨_,_,_,_,_,_,_,rfl⟩) λw T ⟨k',e1,e2,e3,e4,e5⟩=>⟨k',(fr2.then0 f3).same e1,e2,by omega,by omega,e5⟩
 refine Fp (eqT rfl λS3 f3=>⟨by rw[ife];exact decide_eq_false c0,?_⟩)
 have fr3:=fr2.then0 f3;have g3:=f3.at0 g2;by_cases c1:i % 7=1
 .refine K7 (eqT rfl λS4 f4=>⟨by rw[ife];exact decide_eq_true c1,?_⟩)
  obtain⟨v,ev,hv⟩:=Arh i hi;refine Iw (Gw (a:=Pg.w (.free v)) (Dj (Aa Ad (Aa (Rq (Aa Ad (Aa Ad (Aa Ad (Aa (Aj (Aj (Af rfl) Ad (Cu (j:=7))) Ad (Cd (j:=4096))) Ac)))) (by show 4<=big;decide) (Aj (Aj (Af rfl) Ad (Cu (j:=7))) Ad (Cd (j:=4))) ev) Ac)) (by show 2<=big;decide)) λS5 f5=>?_)
  refine⟨k+1,(fr3.then0 f4).then0 f5,f5.at0 (f4.at0 g3),by omega,by omega,.free v,hv,rfl,?_⟩
  show ((Ka [v]).length:Int)<=size - 5;rw[Ij];show ((2 * 1:Nat):Int)<=_;omega
 refine Fp (eqT rfl λS4 f4=>⟨by rw[ife];exact decide_eq_false c1,?_⟩)
 have fr4:=fr3.then0 f4;have g4:=f4.at0 g3;by_cases c2:i % 7=2
 .refine K7 (eqT rfl λS5 f5=>⟨by rw[ife];exact decide_eq_true c2,?_⟩)
  obtain⟨L,eL,L1,L2⟩:=Av8 i size hi h1 h2;obtain⟨v,ev,hv⟩:=Ari i hi;refine Cw (Gw (a:=W.int (L:Int)) (Rq (Aa Ad (Aa (Aj (Af rfl) Ad Sg) (Aa (Aj Ad (Aj (Aj (Af rfl) Ad (Cu (j:=7))) (Aj (Af rfl) Ad Sg) (Cd (j:=size - 7) (by omega))) Di) Ac))) (by show 3<=big;decide) (Aj (Aj (Af rfl) Ad (Cu (j:=7))) Ad (Cd (j:=3))) eL) λS6 f6=>?_)
  refine Iw (Gw (a:=Pg.w (.rest (lawT i L) v)) (Dj (Aa Ad (Aa (Ae (Aa (Af rfl) (Aa (Af rfl) Ac)) (Pb (by omega))) (Aa (Rq (Aa Ad (Aa (Aj (Aj (Af rfl) Ad (Cu (j:=21))) Ad (Cd (j:=4096))) Ac)) (by show 2<=big;decide) (Aj (Aj (Af rfl) Ad (Cu (j:=7))) Ad (Cd (j:=2))) ev) Ac))) (by show 3<=big;decide)) λS7 f7=>?_)
  refine⟨k+1,((fr4.then0 f5).then0 f6).then0 f7,f7.at0 (f6.at0 (f5.at0 g4)),by omega,by omega,.rest (lawT i L) v,⟨Su i L,by rw[Jd];exact L1,by rw[Jd];omega,hv⟩,rfl,?_⟩
  show ((Ka [v] ++ lawT i L).length:Int)<=size - 5;rw[len_app,Ij,Jd];show ((2 * 1+L:Nat):Int)<=_;omega
 refine Fp (eqT rfl λS5 f5=>⟨by rw[ife];exact decide_eq_false c2,?_⟩)
 have fr5:=fr4.then0 f5;have g5:=f5.at0 g4;obtain⟨m,em,hm⟩:∃m:Nat,i / 7 % 14=(m:Int)/\m<=13:=⟨(i / 7 % 14).toNat,by omega,by omega⟩
 refine Cw (Et (Bu (Ec rfl (Bu (Gw (a:=W.int (m:Int)) ((Aj (Aj (Af rfl) Ad (Cu (j:=7))) Ad (Cd (j:=14))).cast (by rw[em])) λS6 f6=>Ek (Ard hm (f6.at0 g5) (by omega) (by omega) λr keys k' S7 f7 g7 q1 q2 hr hrl kl kk kr=>?_))))))
 have fr7:Fr [n] S S7:=(fr5.then0 f6).same f7;have hrS:S.length<=r:=by
  have:=(fr5.then0 f6).len;omega
 refine Ahk (Gw (a:=decide (i % 7 < 5)) (Ag (Ah (Af rfl) Ad M5)) λS8 f8=>?_);by_cases c3:i % 7 < 5
 .rw[if_pos (decide_eq_true c3)];exact Aoh (Ba2 h1 h2 hi (k0:=k) (fr7.then0 f8) (f8.at0 g7) (by omega) (by omega) (by omega) (by omega) (f8.at0 hr) hrS kl kk kr ⟨_,_,_,_,rfl⟩ hnl) λw T ⟨k',e1,e2,e3,e4,e5⟩=>⟨k',e1,e2,e3,by omega,e5⟩
 .rw[if_neg (by rw[decide_eq_false c3];exact bH)]
  refine Hh ?_;exact Avi (Ba3 h1 h2 hi (k0:=k) (fr7.then0 f8) (f8.at0 g7) (by omega) (by omega) (by omega) (by omega) (f8.at0 hr) hrS ⟨kl,kk,kr⟩ ⟨_,_,_,_,rfl⟩ hnl) λw T ⟨k',e1,e2,e3,e4,e5⟩=>⟨k',e1,e2,e3,by omega,e5⟩
end
def Al(S0:Store):SP:=⟨λS=>∃G,S=S0 ++ G,λS G ⟨G',h⟩=>⟨G' ++ G,by rw[h,aO]⟩⟩
mutual
inductive Rd(S:Store):Nat->W->bK->Prop
 |non {n:Nat}:Rd S n .non .none
 |bl {n:Nat} (b:Bool):Rd S n (.bl b) (.bool b)
 |int {n:Nat} (i:Int):Rd S n (.int i) (.int i)
 |str {n:Nat} (z:Str):Rd S n (.str z) (.str z)
 |tup {n:Nat} {ws:List W} {ds:List bK}:Rds S n ws ds->Rd S (n+1) (.tup ws) (.tuple ds)
 |lst {n r:Nat} {ws:List W} {ds:List bK}:S[r]?=some (.lst ws)->Rds S n ws ds->Rd S (n+1) (.ref r) (.list ds)
 |dct {n r:Nat}:S[r]?=some (.dct [])->Rd S (n+1) (.ref r) (.dict [])
inductive Rds(S:Store):Nat->List W->List bK->Prop
 |nil {n:Nat}:Rds S n [] []
 |cons {n:Nat} {w:W} {d:bK} {ws:List W} {ds:List bK}:Rd S n w d->Rds S n ws ds->Rds S n (w::ws) (d::ds)
end
theorem Hm{S G:Store}{r:Nat}{c:Cell}(h:S[r]?=some c):(S ++ G)[r]?=some c:=by
 rw[aY (aL.mp h).1];exact h
mutual
theorem Rd.app{S:Store}(G:Store):∀{n:Nat} {w:W} {d:bK},Rd S n w d->Rd (S ++ G) n w d
 |_,_,_,.non=>.non
 |_,_,_,.bl b=>.bl b
 |_,_,_,.int i=>.int i
 |_,_,_,.str z=>.str z
 |_,_,_,.tup h=>.tup (h.app G)
 |_,_,_,.lst h r=>.lst (Hm h) (r.app G)
 |_,_,_,.dct h=>.dct (Hm h)
theorem Rds.app{S:Store}(G:Store):∀{n:Nat} {ws:List W} {ds:List bK},Rds S n ws ds->Rds (S ++ G) n ws ds
 |_,_,_,.nil=>.nil
 |_,_,_,.cons h r=>.cons (h.app G) (r.app G)
end
mutual
theorem Rd.up{S:Store}:∀{n m:Nat} {w:W} {d:bK},n<=m->Rd S n w d->Rd S m w d
 |_,_,_,_,_,.non=>.non
 |_,_,_,_,_,.bl b=>.bl b
 |_,_,_,_,_,.int i=>.int i
 |_,_,_,_,_,.str z=>.str z
 |n+1,m+1,_,_,h,.tup r=>.tup (r.up (rP h))
 |n+1,m+1,_,_,h,.lst e r=>.lst e (r.up (rP h))
 |n+1,m+1,_,_,h,.dct e=>.dct e
theorem Rds.up{S:Store}:∀{n m:Nat} {ws:List W} {ds:List bK},n<=m->Rds S n ws ds->Rds S m ws ds
 |_,_,_,_,_,.nil=>.nil
 |_,_,_,_,h,.cons a r=>.cons (a.up h) (r.up h)
end
mutual
theorem Rd.deref{S:Store}:∀{n:Nat} {w:W} {d:bK},Rd S n w d->Gg S n w=some d
 |0,_,_,.non=>rfl
 |_+1,_,_,.non=>rfl
 |0,_,_,.bl b=>rfl
 |_+1,_,_,.bl b=>rfl
 |0,_,_,.int i=>rfl
 |_+1,_,_,.int i=>rfl
 |0,_,_,.str z=>rfl
 |_+1,_,_,.str z=>rfl
 |n+1,_,_,.tup r=>by rw[Gg,r.deref];rfl
 |n+1,_,_,.lst e r=>by rw[Gg,e];show (Gb (Gg S n) _).map aAr=_;rw[r.deref];rfl
 |n+1,_,_,.dct e=>by rw[Gg,e]
theorem Rds.deref{S:Store}:∀{n:Nat} {ws:List W} {ds:List bK},Rds S n ws ds->Gb (Gg S n) ws=some ds
 |_,_,_,.nil=>rfl
 |_,_,_,.cons h r=>by rw[Gb,h.deref,r.deref];rfl
end
theorem Rds.len:∀{n:Nat} {ws:List W} {ds:List bK},Rds S n ws ds->ws.length=ds.length
 |_,_,_,.nil=>rfl
 |_,_,_,.cons _ r=>by rw[aU,aU,r.len]
mutual
def okD:bK->Bool
 |.none=>true
 |.bool _=>true
 |.int i=>decide (-1000000<=i)&&decide (i<=1000000)
 |.str z=>cY z&&decide (z.length<=1000)
 |.tuple ds=>decide (ds.length<=1000)&&Cy ds
 |.list ds=>decide (ds.length<=1000)&&Cy ds
 |.dict _=>false
def Cy:List bK->Bool
 |[]=>true
 |d::ds=>okD d&&Cy ds
end
mutual
theorem Am3:∀{d:bK},okD d=true->d.canLay0=true
 |.none,_=>rfl
 |.bool _,_=>rfl
 |.int _,_=>rfl
 |.str z,h=>(aR.mp h).1
 |.tuple ds,h=>Ahw (aR.mp h).2
 |.list ds,h=>Ahw (aR.mp h).2
theorem Ahw:∀{ds:List bK},Cy ds=true->nM ds=true
 |[],_=>rfl
 |d::ds,h=>by
  rw[Cy,aC] at h;rw[nM,Am3 h.1,Ahw h.2];rfl
end
mutual
theorem Rd.depth{S:Store}:∀{n:Nat} {w:W} {d:bK},Rd S n w d->d.depth<=n
 |_,_,_,.non=>dU _
 |_,_,_,.bl _=>dU _
 |_,_,_,.int _=>dU _
 |_,_,_,.str _=>dU _
 |_,_,_,.tup r=>lW r.depth
 |_,_,_,.lst _ r=>lW r.depth
 |_,_,_,.dct _=>lW (dU _)
theorem Rds.depth{S:Store}:∀{n:Nat} {ws:List W} {ds:List bK},Rds S n ws ds->PyData.depthAll ds<=n
 |_,_,_,.nil=>dU _
 |_,_,_,.cons h r=>Nat.max_le.mpr ⟨h.depth,r.depth⟩
end
def Fz(a b:Int):bK->Bool
 |.str z=>M2.G5 z&&(decide (a<=(z.length:Int))&&decide ((z.length:Int)<=b))
 |_=>false
def Eu(a b:Int):bK->Bool
 |.int i=>decide (a<=i)&&decide (i<=b)
 |_=>false
structure Tn(S:Store)(w:W)(d:bK):Prop where
 r:Rd S 8 w d
 k:okD d=true\/d=.dict []
section
variable{ns:List Int}
theorem Bgu{n:Nat}(h:Rd S0 n w d)(G:Store):tyW (S0 ++ G) w=some (tyD d):=by
 cases h with
 |lst e r=>unfold tyW;dsimp only;rw[Hm e];rfl
 |dct e=>unfold tyW;dsimp only;rw[Hm e];rfl
 |_=>rfl
theorem Gp{n:Nat}(h:Rd S0 n w d)(ht:Np.contains t=true):Pu (Al S0) (Ei isa [w,.ty t]) (.bl (Acn (tyD d) t)):=λS ⟨G,hG⟩=>⟨[],by
 subst hG;have e:=Bgu h G;have e2:Ei isa [w,.ty t]=λS=>match tyW S w with
  |some T=>if Np.contains t then .ok (.bl (Acn T t)) S else .bad
  |none=>.bad:=by cases h <;> rfl
 rw[e2];dsimp only;rw[e];dsimp only;rw[if_pos ht,bJ]⟩
theorem str_len(h:okD (.str z)=true):z.length<=big:=aD (of_decide_eq_true (aR.mp h).2) (by decide)
theorem Tn.len(h:Tn S0 w (.str z)):z.length<=big:=by
 rcases h.k with k|k
 .exact str_len k
 .cases k
def txD:bK->Bool
 |.str z=>M2.G5 z
 |_=>false
theorem Ww(h:Tn S0 w d):Pu (Al S0) (Ko ns [w]) (.bl (txD d)):=by
 cases d with
 |str z=>cases h.r;exact Ahr z h.len
 |_=>
  apply Be rfl;exact Aq (Ao (Bo ((Ae (Aa (Af rfl) (Aa Ad Ac)) (Gp h.r (by decide))).cast rfl)))
theorem Adx{a b:Int}(h:Tn S0 w d):Pu (Al S0) (Hj ns [w,.int a,.int b]) (.bl (Fz a b d)):=by
 cases d with
 |str z=>cases h.r;exact X6 z a b h.len
 |_=>
  apply Be rfl;exact Aq (Ao (Bo ((Ae (Aa (Af rfl) Ac) (Ww h)).cast rfl)))
theorem Ahx(h:Tn S0 w d):Pu (Al S0) (J6 ns [w]) (.bl (Fz 1 12 d)):=by
 cases d with
 |str z=>
  cases h.r;refine(Amz z h.len).cast ?_;unfold isKey Fz
  congr 3
  .exact decide_eq_decide.mpr (by omega)
  .exact decide_eq_decide.mpr (by omega)
 |_=>
  apply Be rfl;exact Aq (Ao (Bo ((Ae (Aa (Af rfl) Ac) (Ww h)).cast rfl)))
theorem Ba5(h:Tn S0 w d):Pu (Al S0) (Vo ns [w]) (.bl (Fz 0 400 d)):=by
 apply Be rfl;apply Aq;apply Ao;cases d with
 |str z=>
  cases h.r;refine(Gf (Ae (Aa (Af rfl) Ac) (Ww h)) (Ah (Ae (Aa (Af rfl) Ac) (len_str h.len)) Ad Ht)).cast ?_;show W.bl (M2.G5 z&&decide ((z.length:Int)<=400))=W.bl (M2.G5 z&&(decide ((0:Int)<=(z.length:Int))&&decide ((z.length:Int)<=400)));rw[decide_eq_true (show (0:Int)<=(z.length:Int) by omega),iK]
 |_=>exact Bo ((Ae (Aa (Af rfl) Ac) (Ww h)).cast rfl)
def whD:bK->Bool
 |.int _=>true
 |_=>false
theorem X8(h:Tn S0 w d):Pu (Al S0) (G6 ns [w]) (.bl (whD d)):=by
 apply Be rfl;apply Aq;apply Ao;refine(Gf (Ae (Aa (Af rfl) (Aa Ad Ac)) (Gp h.r (by decide))) (Al5 (Ae (Aa (Af rfl) (Aa Ad Ac)) (Gp h.r (by decide))))).cast ?_
 cases d <;> rfl
theorem Ahy{k:Int}(h:Tn S0 w d):Pu (Al S0) (Dv ns [w,.int k]) (.bl (Eu k 4095 d)):=by
 cases d with
 |int i=>cases h.r;exact Ahs i k
 |_=>
  apply Be rfl;exact Aq (Ao (Bo ((Ae (Aa (Af rfl) Ac) (X8 h)).cast rfl)))
theorem Wx(h:Tn S0 w d):Pu (Al S0) (Jq ns [w]) (.bl (Eu 64 200 d)):=by
 cases d with
 |int i=>cases h.r;exact Ss i
 |_=>
  apply Be rfl;exact Aq (Ao (Bo ((Ae (Aa (Af rfl) Ac) (X8 h)).cast rfl)))
end
noncomputable def Nb:bK->Bool
 |.tuple (.str z::ds)=>if z=="in" then (match ds with|[t]=>Fz 0 63 t|_=>false) else if z=="out" then (match ds with|[a,b]=>Eu 1 400 a&&Eu 1 4095 b|_=>false) else false
 |_=>false
def Abe:bK->Option Str
 |.str z=>some z
 |_=>none
noncomputable def Rv(ds:List bK):Bool:=ds.all (Fz 1 12)&&Li (ds.filterMap Abe)
noncomputable def Rw:bK->Bool
 |.tuple [_,c]=>Nb c
 |_=>false
def Am4:bK->bK
 |.tuple (k::_)=>k
 |_=>.none
noncomputable def Wy:bK->Bool
 |.tuple rs=>decide (rs.length<=63)&&rs.all Rw&&Rv (rs.map Am4)
 |_=>false
def Vb:bK->Bool
 |.tuple ks=>decide (ks.length<=63)&&Rv ks
 |_=>false
noncomputable def Ady(m:Nat):bK->Bool
 |.tuple ps=>decide (ps.length=m)&&ps.all (Eu 1 4095)
 |_=>false
def Av9:bK->Nat
 |.tuple ks=>ks.length
 |_=>0
noncomputable def Jj:bK->Bool
 |.tuple (.str z::ds)=>
  if z=="head" then decide (ds.length=4)&&ds.all (Eu 0 4095)
  else if z=="leaf" then (match ds with|[r]=>Wy r|_=>false)
  else if z=="fork" then (match ds with|[k,p]=>Vb k&&Ady (Av9 k+1) p|_=>false)
  else if z=="rest" then (match ds with|[t,n]=>Fz 1 400 t&&Eu 0 4095 n|_=>false)
  else if z=="free" then (match ds with|[n]=>Eu 0 4095 n|_=>false)
  else false
 |_=>false
section
variable{ns:List Int}
theorem Adz{n:Nat}(h:Rd S0 (n+1) (.tup ws) (.tuple ds)):Rds S0 n ws ds:=by cases h with|tup r=>exact r
theorem Bch(h:okD (.tuple ds)=true\/mF ds=.dict []):ds.length<=1000/\Cy ds=true:=by
 rcases h with h|h
 .exact⟨of_decide_eq_true (aR.mp h).1,(aR.mp h).2⟩
 .cases h
theorem Aaa:∀{ds:List bK} {d:bK},Cy ds=true->d∈ds->okD d=true
 |_::ds,d,h,m=>by
  rw[Cy,aC] at h;rcases bF.mp m with rfl|m
  .exact h.1
  .exact Aaa h.2 m
theorem Aot{n:Nat}{ws:List W}{ds:List bK}(r:Rds S0 n ws ds):∃xs:List (W×bK),ws=xs.map (·.1)/\ds=xs.map (·.2)/\∀x∈xs,Rd S0 n x.1 x.2:=by
 induction ds generalizing ws with
 |nil=>cases r;exact⟨[],rfl,rfl,λ_ h=>nomatch h⟩
 |cons d ds ih=>cases r with|cons h r=>
  obtain⟨xs,rfl,rfl,q⟩:=ih r;exact⟨(_,_)::xs,rfl,rfl,λx hx=>by rcases bF.mp hx with rfl|hx;exact h;exact q x hx⟩
theorem Tn.parts(h:Tn S0 (.tup ws) (.tuple ds)):∃xs:List (W×bK),ws=xs.map (·.1)/\ds=xs.map (·.2)/\(∀x∈xs,Tn S0 x.1 x.2)/\xs.length<=1000:=by
 obtain⟨xs,e1,e2,q⟩:=Aot (Adz h.r);obtain⟨hl,ho⟩:=Bch h.k;refine⟨xs,e1,e2,λx hx=>⟨(q x hx).up (by decide),.inl (Aaa ho (by rw[e2];exact oV hx))⟩,?_⟩
 rw[e2,aA] at hl;exact hl
theorem Tn.tup_of(h:Tn S0 w (.tuple ds)):∃ws,w=.tup ws:=by
 cases h.r with|tup r=>exact⟨_,rfl⟩
theorem Bgv(hz:cY z=true):Pu (Al S0) (Fx .Eq .non (.str z)) (.bl false):=λS _=>⟨[],by
 show eqD false .non (.str z) S=_;unfold eqD Gg;dsimp only;rw[Al7 hz,bJ];rfl⟩
noncomputable def Ad0:bK->W
 |.tuple (.str z::_)=>.str z
 |_=>.non
theorem gt0{n:Nat}:decide ((0:Int) < ((n+1:Nat):Int))=true:=decide_eq_true (by omega)
theorem Aks(h:Tn S0 w d):Pu (Al S0) (Kp ns [w]) (Ad0 d):=by
 have no:Acn (tyD d) "tuple"=false->Ad0 d=.non->Pu (Al S0) (Kp ns [w]) (Ad0 d):=λe1 e2=>by
  apply Be (ws:=[w]) rfl;refine Ca (Dp (h1:=Pu.bind (Ag (Ae (Aa (Af rfl) (Aa Ad Ac)) (Gp h.r (by decide)))) (by rw[e1];exact Pu.pure)) rfl Ar) ?_
  rw[e2];exact Aq (Ao Ad)
 cases d with
 |tuple ds=>
  obtain⟨ws,rfl⟩:=h.tup_of;obtain⟨xs,rfl,rfl,q,_⟩:=h.parts;cases xs with
  |nil=>
   rw[cT,cT];apply Be (ws:=[.tup []]) rfl;refine Ca (Dp (h1:=Nv (Ag (Ae (Aa (Af rfl) (Aa Ad Ac)) Em)) (Pu.bind (Ag (Ah (Ae (Aa (Af rfl) Ac) Bh) Ad Ji)) Pu.pure)) rfl Ar) ?_;exact Aq (Ao Ad)
  |cons x xs=>
   obtain⟨v,e⟩:=x;rw[aG,aG];dsimp only;have hv:=q (v,e) aH;have t:Pu (Al S0) ((aC8 ns)
     (Bq 1 [.tup (v::xs.map (·.1))])) (Acn (tyD e) "str"):=by
    refine(Nv (Ag (Ae (Aa (Af rfl) (Aa Ad Ac)) Em)) (Nv (Ag (Ah (Ae (Aa (Af rfl) Ac) Bh) Ad Ji)) (Ag (Ae (Aa (Av (Af rfl) Ad (Ak ix0)) (Aa Ad Ac)) (Gp hv.r (by decide)))))).cast ?_
    rw[aU,gt0];rfl
   apply Be (ws:=[.tup (v::xs.map (·.1))]) rfl;cases e with
   |str z=>
    cases hv.r;exact Aq (Ed t rfl (Aq (Ao (Av (Af rfl) Ad (Ak ix0)))))
   |_=>exact Ca (Dp t rfl Ar) (Aq (Ao Ad))
 |_=>exact no rfl rfl
def Ahz{α:Type}{m:M α}{a:α}(h:Pu P m a)(k:∀S,P'.p S->P.p S):Pu P' m a:=λS hS=>h S (k S hS)
theorem Akt(h:PuL P (f Z) ws)(ho:∀n,Pu (P.at n ws) (op [.ref n]) v):Pu P (Cp op (yA f) Z) v:=λS hS=>by
 obtain⟨G,n,e,hat,_⟩:=h S hS;obtain⟨G2,e2⟩:=ho n (S ++ G) ⟨P.st S G hS,hat⟩;refine⟨G ++ G2,?_⟩;have h1:Ci f nilF Z S=.ok [.ref n] (S ++ G):=by
  show (f Z >>= λx=>nilF Z >>= λxs=>pure (x::xs)) S=_;rw[Bp,e];rfl
 show (Ci f nilF Z >>= op) S=_;rw[Bp,h1];dsimp only;rw[e2,aO]
theorem Kl{P:SP}{Z:De}{f e:De->M W}{xs:List (W×bK)}{τ:bK->Bool}{cap:List Nat}{cs:De}(h1:Pu P (f Z) (.tup (xs.map (·.1))))(hl:xs.length<=1000)(hc:K4 1 cap Z=none::cs)(he:∀x∈xs,Pu P (e (some x.1::cs)) (.bl (τ x.2))):
  Pu P (Cp Jm (yA (Bt 1 cap (Cv ns f) (Bg 0) (λ_=>pure true) e)) Z) (.bl ((xs.map (·.2)).all τ)):=by
 have h:=Es (P:=P) (xs:=xs) (φ:=(·.1)) (ψ:=λx=>W.bl (τ x.2)) (t:=λ_=>pure true) (src:=Cv ns f) (Fg h1) hc (aD hl (by decide)) (λx hx=>⟨Pu.pure,he x hx⟩)
 refine(K6 (bs:=xs.map λx=>τ x.2) (by rw[bB];exact h)).cast ?_
 rw[jF,jF];rfl
theorem Wz{P:SP}{Z:De}{e:De->M W}{xs:List (W×bK)}{τ:bK->Bool}{n i:Nat}{cap:List Nat}{cs:De}(h0:∀S,P.p S->AtL n (xs.map (·.1)) S)(hv:Z[i]?=some (some (.ref n)))(hl:xs.length<=1000)(hc:K4 1 cap Z=none::cs)(he:∀x∈xs,Pu P (e (some x.1::cs)) (.bl (τ x.2))):
  Pu P (Cp Jm (yA (Bt 1 cap (Cv ns (Ab i)) (Bg 0) (λ_=>pure true) e)) Z) (.bl ((xs.map (·.2)).all τ)):=by
 have h:=Sh (P:=P) (xs:=xs) (φ:=(·.1)) (ψ:=λx=>W.bl (τ x.2)) (τ:=λ_=>true) (s:=Bg 0) (t:=λ_=>pure true) (e:=e) (k:=1) (cap:=cap) (Z:=Z) (src:=Cv ns (Ab i)) (n:=n) h0 (Wd h0 (Af hv)) Lx (λx hx=>⟨Pu.pure,λ_=>he x hx⟩) ⟨none,hc⟩ (aD hl (by decide))
 rw[fH.mpr (λ_ _=>rfl)] at h;refine(K6 (bs:=xs.map λx=>τ x.2) (by rw[bB];exact h)).cast ?_
 rw[jF,jF];rfl
theorem Awa(z:Str):isKey z=Fz 1 12 (.str z):=by
 unfold isKey Fz
 congr 2
 .exact decide_eq_decide.mpr (by omega)
 .exact decide_eq_decide.mpr (by omega)
theorem Sv:∀{xs:List (W×bK)},(∀x∈xs,Tn S0 x.1 x.2)->(xs.map (·.2)).all (Fz 1 12)=true->xs.map (·.1)=((xs.map (·.2)).filterMap Abe).map W.str/\∀k∈(xs.map (·.2)).filterMap Abe,isKey k=true
 |[],_,_=>⟨rfl,λ_ h=>nomatch h⟩
 |(w,d)::xs,h,e=>by
  rw[aG,bY,aC] at e;obtain⟨h1,h2⟩:=Sv (λx hx=>h x (aM _ hx)) e.2
  cases d with
  |str z=>
   have hr:=(h (w,.str z) aH).r;cases hr;refine⟨by rw[aG,h1];rfl,λk hk=>?_⟩
   rcases bF.mp hk with rfl|hk
   .rw[Awa];exact e.1
   .exact h2 k hk
  |_=>cases e.1
def Awb{α β:Type}(f:α->Option β)(l:List α):(l.filterMap f).length<=l.length:=qL f l
theorem Awc{xs:List (W×bK)}(h:∀x∈xs,Tn S0 x.1 x.2)(hl:xs.length<=1000):Pu (Al S0) (Du ns [.tup (xs.map (·.1))]) (.bl (Rv (xs.map (·.2)))):=by
 by_cases hk:(xs.map (·.2)).all (Fz 1 12)=true
 .obtain⟨e,q⟩:=Sv h hk;rw[e];refine(Bcf (aD (Awb _ _) (by rw[aA];exact aD hl (by decide))) q).cast ?_
  unfold Rv;rw[hk];rfl
 .have hk:=bI.mpr hk;apply Be (ws:=[.tup (xs.map (·.1))]) rfl;refine Aq (Ed (Az (Ag (Kl (τ:=Fz 1 12) (Af rfl) hl rfl λx hx=>Ae (Aa (Af rfl) Ac) (Ahx (h x hx))))) (by rw[hk];rfl) (Aq (Ao (Ad.cast ?_))))
  unfold Rv;rw[hk];rfl
theorem Awd{P:SP}{n:Nat}{xs:List (W×bK)}(hP:∀S,P.p S->(Al S0).p S)(h0:∀S,P.p S->AtL n (xs.map (·.1)) S)(h:∀x∈xs,Tn S0 x.1 x.2)(hl:xs.length<=1000):Pu P (Du ns [.ref n]) (.bl (Rv (xs.map (·.2)))):=by
 by_cases hk:(xs.map (·.2)).all (Fz 1 12)=true
 .obtain⟨e,q⟩:=Sv h hk;rw[e] at h0;refine(Bce h0 (aD (Awb _ _) (by rw[aA];exact aD hl (by decide))) q).cast ?_
  unfold Rv;rw[hk];rfl
 .have hk:=bI.mpr hk;apply Be (ws:=[.ref n]) rfl;refine Aq (Ed (Az (Ag (Wz (τ:=Fz 1 12) h0 rfl hl rfl λx hx=>Ae (Aa (Af rfl) Ac) (Ahz (Ahx (h x hx)) hP)))) (by rw[hk];rfl) (Aq (Ao (Ad.cast ?_))))
  unfold Rv;rw[hk];rfl
end
section
variable{ns:List Int}
theorem Bkf:cY ("in":Str)=true:=by decide +kernel
theorem Bci:cY ("out":Str)=true:=by decide +kernel
theorem Jf(hz:cY z=true)(d:bK):Pu (Al S0) (Fx .Eq (Ad0 d) (.str z)) (.bl (match Ad0 d with|.str y=>y==z|_=>false)):=by
 unfold Ad0;split
 .exact Bc
 .exact Bgv hz
def wIs(d:bK)(z:Str):Bool:=match Ad0 d with|.str y=>y==z|_=>false
def Aou(y:Str)(ds:List bK)(z:Str):wIs (.tuple (.str y::ds)) z=(y==z):=rfl
theorem ix1:atI (a::b::ws) 1=some b:=by
 unfold atI ixN;rw[if_pos (by decide),if_pos (by rw[aU,aU];omega)]
 rfl
theorem ix2:atI (a::b::c::ws) 2=some c:=by
 unfold atI ixN;rw[if_pos (by decide),if_pos (by rw[aU,aU,aU];omega)]
 rfl
theorem Tn.word(h:Tn S0 w d)(e:wIs d z=true):∃xs:List (W×bK),w=.tup (.str z::xs.map (·.1))/\d=.tuple (.str z::xs.map (·.2))/\(∀x∈xs,Tn S0 x.1 x.2)/\xs.length < 1000:=by
 cases d with
 |tuple ds=>
  obtain⟨ws,rfl⟩:=h.tup_of;obtain⟨xs,rfl,rfl,q,hl⟩:=h.parts;cases xs with
  |nil=>cases e
  |cons x xs=>
   obtain⟨v,y⟩:=x;cases y with
   |str y=>
    have hv:=(q (v,.str y) aH).r;cases hv;have e:(y==z)=true:=e;obtain rfl:=eq_of_beq e;exact⟨xs,rfl,rfl,λx hx=>q x (aM _ hx),hl⟩
   |_=>cases e
 |_=>cases e
theorem Bgw{n:Nat}{k:Nat}(hn:xs.length=n):((((x::xs).length:Nat):Int)==((k+1:Nat):Int))=decide (n=k):=by
 rw[aU,hn];by_cases h:n=k
 .subst h;simp
 .rw[decide_eq_false h,beq_eq_false_iff_ne];omega
theorem Dn{i k n:Nat}(hv:Z[i]?=some (some (.tup (x::xs))))(hn:xs.length=n):Pu (Al S0) (Cq .Eq (zA (Bw ns) (Ab i)) (kI ((k+1:Nat):Int)) Z) (.bl (decide (n=k))):=
 (Ah (Ae (Aa (Af hv) Ac) Bh) Ad Ff).cast (by rw[Bgw hn])
theorem Awe(h:Tn S0 w d):Pu (Al S0) (Jr ns [w]) (.bl (Nb d)):=by
 apply Be (ws:=[w]) rfl;refine Ca (Bx (Ae (Aa (Af rfl) Ac) (Aks h))) ?_;by_cases e1:wIs d "in"=true
 .obtain⟨xs,rfl,rfl,q,hl⟩:=h.word e1;refine Aq (Ed (Ag (Ah (Af rfl) Ad (Jf Bkf _))) e1 (Aq (Ao ?_)))
  match xs,q with
  |[],_=>exact(Bo ((Dn (k:=1) rfl rfl).cast rfl)).cast rfl
  |[x],q=>exact(Bk ((Dn (k:=1) rfl rfl).cast rfl) (Ae (Aa (Av (Af rfl) Ad (Ak ix1)) (Aa Ad (Aa Ad Ac))) (Adx (q x aH)))).cast rfl
  |_::_::ys,_=>exact(Bo ((Dn (k:=1) rfl rfl).cast (by rw[decide_eq_false];simp))).cast rfl
 have e1:=bI.mpr e1;refine Ca (Dp (Ag (Ah (Af rfl) Ad (Jf Bkf _))) e1 Ar) ?_;by_cases e2:wIs d "out"=true
 .obtain⟨xs,rfl,rfl,q,hl⟩:=h.word e2;refine Aq (Ed (Ag (Ah (Af rfl) Ad (Jf Bci _))) e2 (Aq (Ao ?_)))
  match xs,q with
  |[],_=>exact(Bo ((Dn (k:=2) rfl rfl).cast rfl)).cast rfl
  |[_],_=>exact(Bo ((Dn (k:=2) rfl rfl).cast rfl)).cast rfl
  |[x,y],q=>
   have hx:=q x aH;have hy:=q y (aM _ aH);refine(Bk ((Dn (k:=2) rfl rfl).cast rfl) ?_:Pu (Al S0) _ (.bl (Eu 1 400 x.2&&Eu 1 4095 y.2))).cast rfl;have wh:=Ae (P:=Al S0) (Z:=[some (.tup [.str "out",x.1,y.1]),some (.str "out")]) (gs:=Ci (ixF ns (Ab 0) (kI 1)) nilF) (Aa (Av (Af rfl) Ad (Ak ix1)) Ac) (X8 (ns:=ns) hx);obtain⟨u,c⟩:=x;cases c with
   |int i=>
    cases hx.r;refine(Bk (wh.cast rfl) (Gf (Iu Ad (Av (Af rfl) Ad (Ak ix1)) Ht Ad Ht) (Ae (Aa (Av (Af rfl) Ad (Ak ix2)) (Aa Ad Ac)) (Ahy hy)))).cast rfl
   |_=>exact(Bo (wh.cast rfl)).cast rfl
  |_::_::_::ys,_=>exact(Bo ((Dn (k:=2) rfl rfl).cast (by rw[decide_eq_false];simp))).cast rfl
 have e2:=bI.mpr e2;refine Ca (Dp (Ag (Ah (Af rfl) Ad (Jf Bci _))) e2 Ar) (Aq (Ao (Ad.cast ?_)));unfold Nb;split
 .rename_i z ds;rw[Aou] at e1 e2;rw[e1,e2];rfl
 .rfl
end
section
variable{ns:List Int}
theorem Rx(h:Tn S0 w d)(ht:Np.contains t=true)(e:Acn (tyD d) t=false):Pu (Al S0) (Ei isa [w,.ty t]) (.bl false):=(Gp h.r ht).cast (by rw[e])
theorem Sw{m:Int}(h:Tn S0 w d):Pu (Al S0) (Fb ns [w,.int m]) (.bl (match d with|.tuple ds=>((ds.length:Nat):Int)==m|_=>false)):=by
 cases d with
 |tuple ds=>
  obtain⟨ws,rfl⟩:=h.tup_of;have e:=(Adz h.r).len;exact(Ads ws m).cast (by rw[e])
 |_=>
  apply Be (ws:=[w,.int m]) rfl;exact Aq (Ao (Bo (Ae (Aa (Af rfl) (Aa Ad Ac)) (Rx h (by decide) rfl))))
theorem Aov(h:Tn S0 w d):Pu (Al S0) (Ew (zB (Fb ns) (Ab 0) (kI 2)) (zA (Jr ns) (ixF ns (Ab 0) (kI 1))) (some w::cs)) (.bl (Rw d)):=by
 have no:(match d with|.tuple ds=>((ds.length:Nat):Int)==2|_=>false)=false->Rw d=false->Pu (Al S0) (Ew (zB (Fb ns) (Ab 0) (kI 2)) (zA (Jr ns) (ixF ns (Ab 0) (kI 1))) (some w::cs)) (.bl (Rw d)):=λe1 e2=>by
  rw[e2];exact Bo ((Ae (Aa (Af rfl) (Aa Ad Ac)) (Sw h)).cast (by rw[e1]))
 cases d with
 |tuple ds=>
  match ds,h,no with
  |[],h,no=>exact no rfl rfl
  |[_],h,no=>exact no rfl rfl
  |[a,b],h,_=>
   obtain⟨ws,rfl⟩:=h.tup_of;obtain⟨xs,e1,e2,q,_⟩:=h.parts
   match xs,e1,e2,q with
   |[x,y],e1,e2,q=>
    cases e2;subst e1;exact(Bk ((Ae (Aa (Af rfl) (Aa Ad Ac)) (Sw h)).cast rfl) (Ae (Aa (Av (Af rfl) Ad (Ak ix1)) Ac) (Awe (q y (aM _ aH))))).cast rfl
  |_::_::_::ys,h,no=>exact no (by rw[beq_eq_false_iff_ne,aU,aU,aU];omega) rfl
 |_=>exact no rfl rfl
theorem Awf(h:Tn S0 w d)(e:Rw d=true):∃k v:W×bK,w=.tup [k.1,v.1]/\d=.tuple [k.2,v.2]/\Tn S0 k.1 k.2/\Tn S0 v.1 v.2:=by
 cases d with
 |tuple ds=>
  match ds,h,e with
  |[a,b],h,_=>
   obtain⟨ws,rfl⟩:=h.tup_of;obtain⟨xs,e1,e2,q,_⟩:=h.parts
   match xs,e1,e2,q with
   |[x,y],e1,e2,q=>
    cases e2;subst e1;exact⟨x,y,rfl,rfl,q x aH,q y (aM _ aH)⟩
 |_=>cases e
theorem Ah0:∀{xs:List (W×bK)},(∀x∈xs,Tn S0 x.1 x.2)->(xs.map (·.2)).all Rw=true->∃ys:List ((W×bK)×(W×bK)),xs=ys.map (·.1)/\(xs.map (·.2)).map Am4=(ys.map (·.2)).map (·.2)/\∀y∈ys,Tn S0 y.2.1 y.2.2/\∀(P:SP)(cs:De),Pu P (ixF ns (Ab 0) (kI 0) (some y.1.1::cs)) y.2.1
 |[],_,_=>⟨[],rfl,rfl,(λ_ h=>(nomatch h))⟩
 |(w,d)::xs,h,e=>by
  rw[aG,bY,aC] at e;obtain⟨ys,rfl,h2,h3⟩:=Ah0 (λx hx=>h x (aM _ hx)) e.2
  obtain⟨k,v,rfl,rfl,hk,hv⟩:=Awf (h (w,d) aH) e.1;refine⟨((_,_),k)::ys,rfl,by rw[aG,aG,aG,aG,h2];rfl,λy hy=>?_⟩
  rcases bF.mp hy with rfl|hy
  .exact⟨hk,λP cs=>Av (Af rfl) Ad (Ak ix0)⟩
  .exact h3 y hy
theorem Bgx(n:Nat):decide ((63:Int) < (n:Int))=!decide (n<=63):=by
 by_cases h:n<=63
 .rw[decide_eq_true h,decide_eq_false];rfl;omega
 .rw[decide_eq_false h,decide_eq_true];rfl;omega
theorem Bl6(n:Nat):decide ((n:Int)<=63)=decide (n<=63):=decide_eq_decide.mpr (by omega)
theorem Awg(h:Tn S0 w d):Pu (Al S0) (K9 ns [w]) (.bl (Wy d)):=by
 apply Be (ws:=[w]) rfl;cases d with
 |tuple ds=>
  obtain⟨ws,rfl⟩:=h.tup_of;obtain⟨xs,rfl,rfl,q,hl⟩:=h.parts;have tl:decide ((63:Int) < (((xs.map (·.1)).length:Nat):Int))=!decide ((xs.map (·.2)).length<=63):=by rw[Bgx,aA,aA]
  by_cases h63:decide ((xs.map (·.2)).length<=63)=true
  .refine Ca (Dp (Ej (Az (Ag (Ae (Aa (Af rfl) (Aa Ad Ac)) Em))) (Ag (Ah (Ae (Aa (Af rfl) Ac) Bh) Ad Ji))) (by rw[tl,h63];rfl) Ar) ?_
   by_cases hr:(xs.map (·.2)).all Rw=true
   .refine Ca (Dp (Az (Ag (Kl (τ:=Rw) (Af rfl) hl rfl λx hx=>Aov (q x hx)))) (by rw[hr];rfl) Ar) ?_
    refine Aq (Ao ?_);obtain⟨ys,e1,e2,q2⟩:=Ah0 (ns:=ns) q hr;have hc:=Es (P:=Al S0) (xs:=ys) (φ:=λy=>y.1.1) (ψ:=λy=>y.2.1) (t:=λ_=>pure true) (e:=ixF ns (Ab 0) (kI 0)) (cs:=[]) (cap:=[]) (Z:=Bq 1 [.tup (xs.map (·.1))]) (src:=Cv ns (Ab 0)) (Fg ((Af rfl).cast (by rw[e1,bB];rfl))) rfl (by rw[e1,aA] at hl;exact aD hl (by decide)) (λy hy=>⟨Pu.pure,(q2 y hy).2 _ _⟩)
    refine(Akt hc λn=>Awd (P:=(Al S0).at n (ys.map λy=>y.2.1)) (S0:=S0) (xs:=ys.map (·.2)) (λS hS=>hS.1) (λS hS=>by rw[bB];exact hS.2) (λx hx=>?_) (by rw[e1,aA] at hl;rw[aA];exact hl)).cast ?_
    .obtain⟨y,hy,rfl⟩:=bU.mp hx;exact(q2 y hy).1
    .rw[<-e2];unfold Wy;dsimp only;rw[h63,hr];rfl
   .have hr:=bI.mpr hr;refine Aq (Ed (Az (Ag (Kl (τ:=Rw) (Af rfl) hl rfl λx hx=>Aov (q x hx)))) (by rw[hr];rfl) (Aq (Ao (Ad.cast ?_))))
    unfold Wy;dsimp only;rw[hr,jM];rfl
  .have h63:=bI.mpr h63;refine Aq (Ed (Ej (Az (Ag (Ae (Aa (Af rfl) (Aa Ad Ac)) Em))) (Ag (Ah (Ae (Aa (Af rfl) Ac) Bh) Ad Ji))) (by rw[tl,h63];rfl) (Aq (Ao (Ad.cast ?_))))
   unfold Wy;dsimp only;rw[h63];rfl
 |_=>exact Aq (Ed (Pu.bind (Az (Ag (Ae (Aa (Af rfl) (Aa Ad Ac)) (Rx h (by decide) rfl)))) Pu.pure) rfl (Aq (Ao Ad)))
theorem Arj(h:Tn S0 w d):Pu (Al S0) (La ns [w]) (.bl (Vb d)):=by
 apply Be (ws:=[w]) rfl;apply Aq;apply Ao;cases d with
 |tuple ds=>
  obtain⟨ws,rfl⟩:=h.tup_of;obtain⟨xs,rfl,rfl,q,hl⟩:=h.parts;refine(Bk (Ae (Aa (Af rfl) (Aa Ad Ac)) Em) (Gf (Ah (Ae (Aa (Af rfl) Ac) Bh) Ad Ht) (Ae (Aa (Af rfl) Ac) (Awc q hl)))).cast ?_;unfold Vb;dsimp only;rw[Bl6,aA,aA]
 |_=>exact Bo (Ae (Aa (Af rfl) (Aa Ad Ac)) (Rx h (by decide) rfl))
theorem Ark{m:Nat}(h:Tn S0 w d):Pu (Al S0) (Lb ns [w,.int ((m:Nat):Int)]) (.bl (Ady m d)):=by
 apply Be (ws:=[w,.int ((m:Nat):Int)]) rfl;apply Aq;apply Ao;cases d with
 |tuple ds=>
  obtain⟨ws,rfl⟩:=h.tup_of;obtain⟨xs,rfl,rfl,q,hl⟩:=h.parts;refine(Gf (Ae (Aa (Af rfl) (Aa (Af rfl) Ac)) (Sw h)) (Kl (τ:=Eu 1 4095) (Af rfl) hl rfl λx hx=>Ae (Aa (Af rfl) (Aa Ad Ac)) (Ahy (q x hx)))).cast ?_;unfold Ady;dsimp only
  congr 2
  by_cases e:(xs.map (·.2)).length=m
  .rw[decide_eq_true e,e];simp
  .rw[decide_eq_false e,beq_eq_false_iff_ne];omega
 |_=>exact Bo ((Ae (Aa (Af rfl) (Aa (Af rfl) Ac)) (Sw h)).cast rfl)
end
section
variable{ns:List Int}
theorem Awh:cY ("head":Str)=true:=by decide +kernel
theorem Awi:cY ("leaf":Str)=true:=by decide +kernel
theorem Awj:cY ("fork":Str)=true:=by decide +kernel
theorem Awk:cY ("rest":Str)=true:=by decide +kernel
theorem Awl:cY ("free":Str)=true:=by decide +kernel
def Ad1(h:Tn S0 w d):Pu (Al S0) ((λws=>Dv ns (ws ++ [(.int 0)])) [w]) (.bl (Eu 0 4095 d)):=Ahy h
theorem Aow{i:Nat}(hv:Z[i]?=some (some (.tup (x::xs)))):Pu P (slF ns (Ab i) (Bv (kI 1)) Bd Z) (.tup xs):=
 Ho (Af hv) (Dz Ad) Dk (Pu.cast Pu.pure (by rw[Avq];rfl))
theorem Arl{xs:List (W×bK)}{z:Str}(q:∀x∈xs,Tn S0 x.1 x.2):Pu (Al S0) (Ew (Cq .Eq (zA (Bw ns) (Ab 0)) (kI 2)) (zA (K9 ns) (ixF ns (Ab 0) (kI 1))) [some (.tup (.str z::xs.map (·.1))),some (.str z)])
  (.bl (match xs.map (·.2) with|[r]=>Wy r|_=>false)):=by
 match xs,q with
 |[],_=>exact(Bo ((Dn (k:=1) rfl rfl).cast rfl)).cast rfl
 |[x],q=>exact(Bk ((Dn (k:=1) rfl rfl).cast rfl) (Ae (Aa (Av (Af rfl) Ad (Ak ix1)) Ac) (Awg (q x aH)))).cast rfl
 |_::_::ys,_=>exact(Bo ((Dn (k:=1) rfl rfl).cast (by rw[decide_eq_false];simp))).cast rfl
theorem Arm{xs:List (W×bK)}{z:Str}(q:∀x∈xs,Tn S0 x.1 x.2):Pu (Al S0) (Ew (Cq .Eq (zA (Bw ns) (Ab 0)) (kI 2)) (zA (λws=>Dv ns (ws ++ [(.int 0)])) (ixF ns (Ab 0) (kI 1))) [some (.tup (.str z::xs.map (·.1))),some (.str z)])
  (.bl (match xs.map (·.2) with|[r]=>Eu 0 4095 r|_=>false)):=by
 match xs,q with
 |[],_=>exact(Bo ((Dn (k:=1) rfl rfl).cast rfl)).cast rfl
 |[x],q=>exact(Bk ((Dn (k:=1) rfl rfl).cast rfl) (Ae (Aa (Av (Af rfl) Ad (Ak ix1)) Ac) (Ad1 (q x aH)))).cast rfl
 |_::_::ys,_=>exact(Bo ((Dn (k:=1) rfl rfl).cast (by rw[decide_eq_false];simp))).cast rfl
theorem Arn{xs:List (W×bK)}{z:Str}(q:∀x∈xs,Tn S0 x.1 x.2):Pu (Al S0) (Ew (Cq .Eq (zA (Bw ns) (Ab 0)) (kI 3)) (Ew (zC (Hj ns) (ixF ns (Ab 0) (kI 1)) (kI 1) (kI 400)) (zA (λws=>Dv ns (ws ++ [(.int 0)])) (ixF ns (Ab 0) (kI 2)))) [some (.tup (.str z::xs.map (·.1))),some (.str z)])
  (.bl (match xs.map (·.2) with|[t,n]=>Fz 1 400 t&&Eu 0 4095 n|_=>false)):=by
 match xs,q with
 |[],_=>exact(Bo ((Dn (k:=2) rfl rfl).cast rfl)).cast rfl
 |[_],_=>exact(Bo ((Dn (k:=2) rfl rfl).cast rfl)).cast rfl
 |[x,y],q=>exact(Bk ((Dn (k:=2) rfl rfl).cast rfl) (Gf (Ae (Aa (Av (Af rfl) Ad (Ak ix1)) (Aa Ad (Aa Ad Ac))) (Adx (q x aH))) (Ae (Aa (Av (Af rfl) Ad (Ak ix2)) Ac) (Ad1 (q y (aM _ aH)))))).cast rfl
 |_::_::_::ys,_=>exact(Bo ((Dn (k:=2) rfl rfl).cast (by rw[decide_eq_false];simp))).cast rfl
theorem Aro{xs:List (W×bK)}{z:Str}(q:∀x∈xs,Tn S0 x.1 x.2):Pu (Al S0) (Ew (Cq .Eq (zA (Bw ns) (Ab 0)) (kI 3)) (aC2 ns) [some (.tup (.str z::xs.map (·.1))),some (.str z)])
  (.bl (match xs.map (·.2) with|[k,p]=>Vb k&&Ady (Av9 k+1) p|_=>false)):=by
 match xs,q with
 |[],_=>exact(Bo ((Dn (k:=2) rfl rfl).cast rfl)).cast rfl
 |[_],_=>exact(Bo ((Dn (k:=2) rfl rfl).cast rfl)).cast rfl
 |[x,y],q=>
  have hx:=q x aH;refine(Bk ((Dn (k:=2) rfl rfl).cast rfl) (Au4 (p:=Vb x.2) (q:=Ady (Av9 x.2+1) y.2) (Ae (Aa (Av (Af rfl) Ad (Ak ix1)) Ac) (Arj hx)) λhk=>?_)).cast rfl;obtain⟨u,e⟩:=x;cases e with
  |tuple ks=>
   obtain⟨ws,rfl⟩:=hx.tup_of;have e:=(Adz hx.r).len;refine Ae (Aa (Av (Af rfl) Ad (Ak ix2)) (Aa ((Aj (Ae (Aa (Av (Af rfl) Ad (Ak ix1)) Ac) Bh) Ad Di).cast ?_) Ac)) (Ark (m:=ks.length+1) (q y (aM _ aH)));rw[e];rfl
  |_=>cases hk
 |_::_::_::ys,_=>exact(Bo ((Dn (k:=2) rfl rfl).cast (by rw[decide_eq_false];simp))).cast rfl
theorem Gq:Jj (.tuple (.str z::ds))=if z=="head" then decide (ds.length=4)&&ds.all (Eu 0 4095)
  else if z=="leaf" then (match ds with|[r]=>Wy r|_=>false)
  else if z=="fork" then (match ds with|[k,p]=>Vb k&&Ady (Av9 k+1) p|_=>false)
  else if z=="rest" then (match ds with|[t,n]=>Fz 1 400 t&&Eu 0 4095 n|_=>false)
  else if z=="free" then (match ds with|[n]=>Eu 0 4095 n|_=>false)
  else false:=rfl
theorem bhl:(("leaf":Str)=="head")=false:=by decide +kernel
theorem bhf:(("fork":Str)=="head")=false:=by decide +kernel
theorem blf:(("fork":Str)=="leaf")=false:=by decide +kernel
theorem bhr:(("rest":Str)=="head")=false:=by decide +kernel
theorem blr:(("rest":Str)=="leaf")=false:=by decide +kernel
theorem bfr:(("rest":Str)=="fork")=false:=by decide +kernel
theorem bhe:(("free":Str)=="head")=false:=by decide +kernel
theorem ble:(("free":Str)=="leaf")=false:=by decide +kernel
theorem bfe:(("free":Str)=="fork")=false:=by decide +kernel
theorem bre:(("free":Str)=="rest")=false:=by decide +kernel
theorem W0(h:Tn S0 w d):Pu (Al S0) (Fq ns [w]) (.bl (Jj d)):=by
 apply Be (ws:=[w]) rfl;refine Ca (Bx (Ae (Aa (Af rfl) Ac) (Aks h))) ?_;by_cases e1:wIs d "head"=true
 .obtain⟨xs,rfl,rfl,q,hl⟩:=h.word e1;refine Aq (Ed (Ag (Ah (Af rfl) Ad (Jf Awh _))) e1 (Aq (Ao ?_)));refine(Gf (Dn (k:=4) rfl rfl) (Kl (xs:=xs) (τ:=Eu 0 4095) (Aow rfl) (lU hl) rfl λx hx=>Ae (Aa (Af rfl) Ac) (Ad1 (q x hx)))).cast ?_;rw[Gq,if_pos (beq_self_eq_true _),aA,aA]
 have e1:=bI.mpr e1;refine Ca (Dp (Ag (Ah (Af rfl) Ad (Jf Awh _))) e1 Ar) ?_;by_cases e2:wIs d "leaf"=true
 .obtain⟨xs,rfl,rfl,q,hl⟩:=h.word e2;refine Aq (Ed (Ag (Ah (Af rfl) Ad (Jf Awi _))) e2 (Aq (Ao ((Arl q).cast ?_))));rw[Gq,bhl,beq_self_eq_true];rfl
 have e2:=bI.mpr e2;refine Ca (Dp (Ag (Ah (Af rfl) Ad (Jf Awi _))) e2 Ar) ?_;by_cases e3:wIs d "fork"=true
 .obtain⟨xs,rfl,rfl,q,hl⟩:=h.word e3;refine Aq (Ed (Ag (Ah (Af rfl) Ad (Jf Awj _))) e3 (Aq (Ao ((Aro q).cast ?_))));rw[Gq,bhf,blf,beq_self_eq_true];rfl
 have e3:=bI.mpr e3;refine Ca (Dp (Ag (Ah (Af rfl) Ad (Jf Awj _))) e3 Ar) ?_;by_cases e4:wIs d "rest"=true
 .obtain⟨xs,rfl,rfl,q,hl⟩:=h.word e4;refine Aq (Ed (Ag (Ah (Af rfl) Ad (Jf Awk _))) e4 (Aq (Ao ((Arn q).cast ?_))));rw[Gq,bhr,blr,bfr,beq_self_eq_true];rfl
 have e4:=bI.mpr e4;refine Ca (Dp (Ag (Ah (Af rfl) Ad (Jf Awk _))) e4 Ar) ?_;by_cases e5:wIs d "free"=true
 .obtain⟨xs,rfl,rfl,q,hl⟩:=h.word e5;refine Aq (Ed (Ag (Ah (Af rfl) Ad (Jf Awl _))) e5 (Aq (Ao ((Arm q).cast ?_))));rw[Gq,bhe,ble,bfe,bre,beq_self_eq_true];rfl
 have e5:=bI.mpr e5;refine Ca (Dp (Ag (Ah (Af rfl) Ad (Jf Awl _))) e5 Ar) (Aq (Ao (Ad.cast ?_)));unfold Jj;split
 .rw[Aou] at e1 e2 e3 e4 e5;rw[e1,e2,e3,e4,e5];rfl
 .rfl
end
theorem Bgy:∀c∈Wv.cps.toList,c < 128:=by decide +kernel
theorem Bgz:∀c,c < 128->decide (c∈Wv.cps.toList)=M2.okC c:=by decide +kernel
theorem Ba6(c:Nat):decide (c∈Wv.cps.toList)=M2.okC c:=by
 by_cases h:c < 128
 .exact Bgz c h
 .rw[decide_eq_false λm=>h (Bgy c m)];unfold M2.okC;simp;omega
section
variable{ns:List Int}
theorem Arp(c:Nat):Pu P (Fx .NotIn (.str ⟨#[c]⟩) (.str Wv)) (.bl (!M2.okC c)):=by
 rw[<-Ba6,<-StrLaws.found_one];exact Pu.pure
theorem Awm{n:Nat}(h1:Rd S 16 (.ref n) d)(h2:Rd S 16 y e)(k1:d.canLay0=true)(k2:e.canLay0=true):Fx .Eq (.ref n) y S=.ok (.bl (jU d e)) S:=by
 show eqD false (.ref n) y S=_;unfold eqD;rw[h1.deref,h2.deref];dsimp only;have z1:cO d=true:=by unfold cO;rw[k1,decide_eq_true (aD h1.depth (by decide))];rfl
 have z2:cO e=true:=by unfold cO;rw[k2,decide_eq_true (aD h2.depth (by decide))];rfl
 rw[z1,z2];rfl
theorem Bg0{n:Nat}(h1:Rd S 16 (.ref n) d)(h2:Rd S 16 y e)(k1:d.canLay0=true)(k2:e.canLay0=true):Fx .NotEq (.ref n) y S=.ok (.bl (!jU d e)) S:=by
 show eqD true (.ref n) y S=_;unfold eqD;rw[h1.deref,h2.deref];dsimp only;have z1:cO d=true:=by unfold cO;rw[k1,decide_eq_true (aD h1.depth (by decide))];rfl
 have z2:cO e=true:=by unfold cO;rw[k2,decide_eq_true (aD h2.depth (by decide))];rfl
 rw[z1,z2];rfl
theorem W2{n:Nat}:∀l:List Str,Rds S n (l.map W.str) (l.map fJ)
 |[]=>.nil
 |z::l=>.cons (.str z) (W2 l)
theorem W3:∀{l:List Str},(∀z∈l,cY z=true)->nM (l.map fJ)=true
 |[],_=>rfl
 |z::l,h=>by
  rw[aG,nM,W3 λy hy=>h y (aM _ hy)];show (cY z&&true)=true;rw[h z aH];rfl
theorem Bg1{Z:De}{f:De->M W}{l:List Str}(h:PuL P (f Z) (l.map W.str))(hs:∀z∈l,cY z=true):Pu P (Cq .Eq f (Ef nilF) Z) (.bl l.isEmpty):=λS hS=>by
 obtain⟨G,n,e,hat,_⟩:=h S hS;refine⟨G ++ [.lst []],?_⟩;show (f Z >>= λx=>Ef nilF Z >>= λy=>Fx .Eq x y) S=_;rw[Bp,e];dsimp only;rw[Bp,show Ef nilF Z (S ++ G)=.ok (.ref (S ++ G).length) (S ++ G ++ [.lst []]) from rfl];dsimp only;rw[Awm (d:=.list (l.map fJ)) (e:=.list []) (.lst (Hm hat) (W2 l)) (.lst (by rw[bC (aN _),eG];rfl) .nil) (W3 hs) rfl,aO]
 cases l <;> rfl
theorem Ik{a b:Int}(h:Tn S0 w d):Pu (Al S0) (Eh ns [w,.int a,.int b]) (.bl (Fz a b d)):=by
 apply Be (ws:=[w,.int a,.int b]) rfl;cases d with
 |str z=>
  have hr:=h.r;cases hr;have hz:=h.len;have ho:cY z=true:=by rcases h.k with k|k;exact(aR.mp k).1;cases k
  by_cases hl:(decide (a<=(z.length:Int))&&decide ((z.length:Int)<=b))=true
  .refine Ca (Dp (Ej (Az (Ag (Ae (Aa (Af rfl) (Aa Ad Ac)) Wq))) (Az (Ag (Iu (Af rfl) (Ae (Aa (Af rfl) Ac) (len_str hz)) Ht (Af rfl) Ht)))) (by rw[hl];rfl) Ar) (Aq (Ao ?_))
   have hc:=Ahg (P:=Al S0) (xs:=z.cps.toList) (φ:=λc=>W.str ⟨#[c]⟩) (ψ:=λc=>W.str ⟨#[c]⟩) (τ:=λc=>!M2.okC c) (s:=Bg 0) (t:=Bf (Cq .NotIn (Ab 0) (Cp (Hi ns) nilF))) (e:=Ab 0) (k:=1) (cap:=[]) (Z:=Bq 3 [.str z,.int a,.int b]) (src:=Cv ns (Ab 0)) (Az3 hz (Af rfl)) Lx (λc _=>⟨Ag (Ah (Af rfl) (Ae Ac Adw) (Arp c)),λ_=>Af rfl⟩) ⟨none,rfl⟩ (by rw[cN];exact hz)
   refine(Bg1 (l:=(z.cps.toList.filter λc=>!M2.okC c).map λc=>(⟨#[c]⟩:Str)) (by rw[bB];exact hc) (λy hy=>?_)).cast ?_
   .obtain⟨c,hc,rfl⟩:=bU.mp hy;have hm:=(rT.mp hc).1;have:=pQ.mp ho c (lG.mp hm);show (#[c].all (· < 0x110000))=true;simpa using this
   .unfold Fz;dsimp only;rw[hl,uN];unfold M2.G5;rw[List.isEmpty_map]
    congr 1
    induction z.cps.toList with
    |nil=>rfl
    |cons c l ih=>
     rw[mG,bY,<-ih];cases M2.okC c <;> rfl
  .have hl:=bI.mpr hl;refine Aq (Ed (Ej (Az (Ag (Ae (Aa (Af rfl) (Aa Ad Ac)) Wq))) (Az (Ag (Iu (Af rfl) (Ae (Aa (Af rfl) Ac) (len_str hz)) Ht (Af rfl) Ht)))) (by rw[hl];rfl) (Aq (Ao (Ad.cast ?_))))
   unfold Fz;dsimp only;rw[hl,jM]
 |_=>exact Aq (Ed (Pu.bind (Az (Ag (Ae (Aa (Af rfl) (Aa Ad Ac)) (Rx h (by decide) rfl)))) Pu.pure) rfl (Aq (Ao Ad)))
theorem Nf{a b:Int}(h:Tn S0 w d):Pu (Al S0) (Eb ns [w,.int a,.int b]) (.bl (Eu a b d)):=by
 apply Be (ws:=[w,.int a,.int b]) rfl;apply Aq;apply Ao;cases d with
 |int i=>
  have hr:=h.r;cases hr;exact(Bk ((Ae (Aa (Af rfl) (Aa Ad Ac)) (Gp h.r (by decide))).cast rfl) (Bk ((Al5 (Ae (Aa (Af rfl) (Aa Ad Ac)) (Gp h.r (by decide)))).cast rfl) (Iu (Af rfl) (Af rfl) Ht (Af rfl) Ht))).cast rfl
 |bool b=>exact Bk ((Ae (Aa (Af rfl) (Aa Ad Ac)) (Gp h.r (by decide))).cast rfl) (Bo ((Al5 (Ae (Aa (Af rfl) (Aa Ad Ac)) (Gp h.r (by decide)))).cast rfl))
 |_=>exact Bo (Ae (Aa (Af rfl) (Aa Ad Ac)) (Rx h (by decide) rfl))
end
def Am5(a b:Str)(l:List Str):Li (a::b::l)=(Ib a b&&Li (b::l)):=rfl
theorem Aa2:∀ks:List Str,Li ks=(bR (ks.length - 1)).all λi=>Ib (ks.getD i ⟨#[]⟩) (ks.getD (i+1) ⟨#[]⟩)
 |[]=>rfl
 |[_]=>rfl
 |a::b::l=>by
  rw[Am5,Aa2 (b::l),show (a::b::l).length - 1=(b::l).length - 1+1 from rfl,List.range_succ_eq_map,bY,jF];rfl
theorem Abf{j:Nat}(h:ws[j]?=some w):atI ws (j:Int)=some w:=by
 have hl:=(aL.mp h).1;unfold atI ixN;rw[if_pos (mR j),if_pos (by omega)]
 show ws[((j:Nat):Int).toNat]?=_;rw[cV];exact h
section
variable{ns:List Int}
theorem Awn{v:W}{ks:List Str}(hl:ks.length<=63)(h1:Pu P (Bw ns [v]) (.int ks.length))(h2:∀i,i < ks.length->Pu P (ixW ns v (.int (i:Int))) (.str (ks.getD i ⟨#[]⟩))):
  PuR P (aB7 ns) (Bq 1 [v]) (.bl (Li ks)):=by
 apply Aq;apply Ao;have hr:Fj [.int ((ks.length:Int) - 1)]=pure (.fix ((bR (ks.length - 1)).map λ(k:Nat)=>W.int ((0:Int)+(k:Int)))):=by
  unfold Fj;dsimp only;rw[if_pos (by constructor <;> omega),show ((ks.length:Int) - 1).toNat=ks.length - 1 by omega]
 have h:=Es (P:=P) (xs:=bR (ks.length - 1)) (φ:=λ(k:Nat)=>W.int ((0:Int)+(k:Int))) (ψ:=λk=>W.bl (Ib (ks.getD k ⟨#[]⟩) (ks.getD (k+1) ⟨#[]⟩))) (t:=λ_=>pure true) (e:=Cq .Lt (ixF ns (Ab 1) (Ab 0)) (ixF ns (Ab 1) (Ai .add (Ab 0) (kI 1)))) (cs:=[some v]) (cap:=[0]) (Z:=Bq 1 [v]) (src:=J4 Fj (yA (Ai .sub (zA (Bw ns) (Ab 0)) (kI 1))))
  (Pu.bind (Aa (Aj (Ae (Aa (Af rfl) Ac) h1) Ad Sg) Ac) (by rw[hr];exact Pu.pure)) rfl (by rw[cW];unfold big;omega) (λk hk=>⟨Pu.pure,by
   have hk:=iR.mp hk;refine Ah (Av (Af rfl) (Af rfl) ?_) (Av (Af rfl) (Aj (Af rfl) Ad Di) ?_) Al8
   .rw[rO];exact h2 k (by omega)
   .rw[rO,show (k:Int)+1=((k+1:Nat):Int) from rfl];exact h2 (k+1) (by omega)⟩)
 refine(K6 (bs:=(bR (ks.length - 1)).map λk=>Ib (ks.getD k ⟨#[]⟩) (ks.getD (k+1) ⟨#[]⟩)) (by rw[bB];exact h)).cast ?_
 rw[Aa2,jF];rfl
theorem Aku{ks:List Str}{i:Nat}(h:i < ks.length):(ks.map W.str)[i]?=some (.str (ks.getD i ⟨#[]⟩)):=by
 rw[cB,cR,aW h];rfl
theorem Arq{xs:List (W×bK)}(h:∀x∈xs,Tn S0 x.1 x.2)(hl:xs.length<=1000):Pu (Al S0) (Gn ns [.tup (xs.map (·.1))]) (.bl (decide (xs.length<=63)&&Rv (xs.map (·.2)))):=by
 apply Be (ws:=[.tup (xs.map (·.1))]) rfl;have t:decide ((63:Int) < (((xs.map (·.1)).length:Nat):Int))=!decide (xs.length<=63):=by rw[Bgx,aA]
 by_cases hc:(decide (xs.length<=63)&&(xs.map (·.2)).all (Fz 1 12))=true
 .rw[aC] at hc;obtain⟨e,q⟩:=Sv h hc.2;refine Ca (Dp (Ej (Ag (Ah (Ae (Aa (Af rfl) Ac) Bh) Ad Ji)) (Az (Ag (Kl (τ:=Fz 1 12) (Af rfl) hl rfl λx hx=>Ae (Aa (Af rfl) (Aa Ad (Aa Ad Ac))) (Ik (h x hx)))))) (by rw[t,hc.1,hc.2];rfl) Ar) ?_
  have hlen:((xs.map (·.2)).filterMap Abe).length=xs.length:=by have:=congrArg mW e;rw[aA,aA] at this;exact this.symm
  rw[e];unfold Rv;rw[hc.1,hc.2,iK,iK];refine Awn (ks:=(xs.map (·.2)).filterMap Abe) (by rw[hlen];exact of_decide_eq_true hc.1) ?_ ?_
  .exact Pu.cast (Bh (ws:=((xs.map (·.2)).filterMap Abe).map W.str)) (by rw[aA])
  .intro i hi;exact Ak (Abf (Aku hi))
 .have hc:=bI.mpr hc;refine Aq (Ed (Ej (Ag (Ah (Ae (Aa (Af rfl) Ac) Bh) Ad Ji)) (Az (Ag (Kl (τ:=Fz 1 12) (Af rfl) hl rfl λx hx=>Ae (Aa (Af rfl) (Aa Ad (Aa Ad Ac))) (Ik (h x hx)))))) (by rw[t,<-aAa,hc];rfl) (Aq (Ao (Ad.cast ?_))))
  unfold Rv;rw[<-yV,hc];rfl
theorem Ars{n:Nat}{xs:List (W×bK)}(hP:∀S,P.p S->(Al S0).p S)(h0:∀S,P.p S->AtL n (xs.map (·.1)) S)(h:∀x∈xs,Tn S0 x.1 x.2)(hl:xs.length<=1000):Pu P (Gn ns [.ref n]) (.bl (decide (xs.length<=63)&&Rv (xs.map (·.2)))):=by
 apply Be (ws:=[.ref n]) rfl;have t:decide ((63:Int) < (((xs.map (·.1)).length:Nat):Int))=!decide (xs.length<=63):=by rw[Bgx,aA]
 by_cases hc:(decide (xs.length<=63)&&(xs.map (·.2)).all (Fz 1 12))=true
 .rw[aC] at hc;obtain⟨e,q⟩:=Sv h hc.2;refine Ca (Dp (Ej (Ag (Ah (Ru h0 rfl) Ad Ji)) (Az (Ag (Wz (τ:=Fz 1 12) h0 rfl hl rfl λx hx=>Ae (Aa (Af rfl) (Aa Ad (Aa Ad Ac))) (Ahz (Ik (h x hx)) hP))))) (by rw[t,hc.1,hc.2];rfl) Ar) ?_
  have hlen:((xs.map (·.2)).filterMap Abe).length=xs.length:=by have:=congrArg mW e;rw[aA,aA] at this;exact this.symm
  rw[e] at h0;unfold Rv;rw[hc.1,hc.2,iK,iK];refine Awn (ks:=(xs.map (·.2)).filterMap Abe) (by rw[hlen];exact of_decide_eq_true hc.1) (λS hS=>⟨[],?_⟩) λi hi S hS=>⟨[],?_⟩
  .have e:S[n]?=some (.lst _):=h0 S hS;unfold Bw;dsimp only;rw[e,bJ];dsimp only;rw[aA]
  .have e:S[n]?=some (.lst _):=h0 S hS;unfold ixW;dsimp only;rw[e];dsimp only;rw[Abf (Aku hi),bJ];rfl
 .have hc:=bI.mpr hc;refine Aq (Ed (Ej (Ag (Ah (Ru h0 rfl) Ad Ji)) (Az (Ag (Wz (τ:=Fz 1 12) h0 rfl hl rfl λx hx=>Ae (Aa (Af rfl) (Aa Ad (Aa Ad Ac))) (Ahz (Ik (h x hx)) hP))))) (by rw[t,<-aAa,hc];rfl) (Aq (Ao (Ad.cast ?_))))
  unfold Rv;rw[<-yV,hc];rfl
end
section
variable{ns:List Int}
def Jk(h:Pu P (t Z) true):Pu P (orT t u Z) true:=h.bind Pu.pure
def Ga(h:Pu P (t Z) false)(h2:Pu P (u Z) q):Pu P (orT t u Z) q:=h.bind h2
theorem Ba7{x:W×bK}:Nb (.tuple [x.2])=false:=by
 obtain⟨_,y⟩:=x;cases y with
 |str z=>
  unfold Nb;dsimp only;split
  .rfl
  .split <;> rfl
 |_=>rfl
theorem lt2{n:Nat}:decide ((((n+1+1:Nat):Nat):Int) < 2)=false:=decide_eq_false (by omega)
theorem Art(h:Tn S0 w d):Pu (Al S0) (Gh ns [w]) (.bl (Nb d)):=by
 apply Be (ws:=[w]) rfl;cases d with
 |tuple ds=>
  obtain⟨ws,rfl⟩:=h.tup_of;obtain⟨xs,rfl,rfl,q,hl⟩:=h.parts
  match xs,q with
  |[],_=>exact Aq (Ed (Ga (Pu.cast (Az (Ag (Ae (Aa (Af rfl) (Aa Ad Ac)) Em))) rfl) (Jk (Pu.cast (Ag (Ah (Ae (Aa (Af rfl) Ac) Bh) Ad M5)) rfl))) rfl (Aq (Ao Ad)))
  |[x],_=>
   rw[aG,cT,aG,cT,Ba7];exact Aq (Ed (Ga (Pu.cast (Az (Ag (Ae (Aa (Af rfl) (Aa Ad Ac)) Em))) rfl) (Jk (Pu.cast (Ag (Ah (Ae (Aa (Af rfl) Ac) Bh) Ad M5)) rfl))) rfl (Aq (Ao Ad)))
  |(v,e)::y::ys,q=>
   have hv:=q (v,e) aH;have hy:=q y (aM _ aH);rw[aG,aG,aG,aG];cases e with
   |str z=>
    have hr:=hv.r;cases hr;refine Ca (Dp (Ga (Pu.cast (Az (Ag (Ae (Aa (Af rfl) (Aa Ad Ac)) Em))) rfl) (Ga (Pu.cast (Ag (Ah (Ae (Aa (Af rfl) Ac) Bh) Ad M5)) lt2) (Az (Ag (Ae (Aa (Av (Af rfl) Ad (Ak ix0)) (Aa Ad Ac)) Wq))))) rfl Ar) ?_;by_cases e1:(z==("in":Str))=true
    .refine Aq (Ed (Ag (Ah (Av (Af rfl) Ad (Ak ix0)) Ad Bc)) e1 (Aq (Ao ?_)));have e0:Nb (.tuple (.str z::y.2::ys.map (·.2)))=(match y.2::ys.map (·.2) with|[t]=>Fz 0 63 t|_=>false):=by
      unfold Nb;dsimp only;rw[if_pos e1]
      try (cases ys <;> rfl)
     rw[e0];cases ys with
     |nil=>exact(Bk ((Dn (k:=1) rfl rfl).cast rfl) (Ae (Aa (Av (Af rfl) Ad (Ak ix1)) (Aa Ad (Aa Ad Ac))) (Ik hy))).cast rfl
     |cons u ys=>exact(Bo ((Dn (k:=1) rfl rfl).cast (by rw[decide_eq_false];simp))).cast rfl
    have e1:=bI.mpr e1;refine Ca (Dp (Ag (Ah (Av (Af rfl) Ad (Ak ix0)) Ad Bc)) e1 Ar) ?_;have e0:Nb (.tuple (.str z::y.2::ys.map (·.2)))=if z==("out":Str) then (match y.2::ys.map (·.2) with|[a,b]=>Eu 1 400 a&&Eu 1 4095 b|_=>false) else false:=by
     unfold Nb;dsimp only;rw[if_neg (by rw[e1];decide)]
     try (rcases ys with _|⟨a,_|⟨b,us⟩⟩ <;> rfl)
    rw[e0];by_cases e2:(z==("out":Str))=true
    .rw[if_pos e2]
     match ys,q with
     |[],_=>exact Aq (Ed (Ej (Ag (Ah (Av (Af rfl) Ad (Ak ix0)) Ad Vm)) (Ag (Ah (Ae (Aa (Af rfl) Ac) Bh) Ad Jp))) (by rw[e2];rfl) (Aq (Ao Ad)))
     |[u],q=>
      refine Ca (Dp (Ej (Ag (Ah (Av (Af rfl) Ad (Ak ix0)) Ad Vm)) (Ag (Ah (Ae (Aa (Af rfl) Ac) Bh) Ad Jp))) (by rw[e2];rfl) Ar) (Aq (Ao ?_))
      exact Gf (Ae (Aa (Av (Af rfl) Ad (Ak ix1)) (Aa Ad (Aa Ad Ac))) (Nf hy)) (Ae (Aa (Av (Af rfl) Ad (Ak ix2)) (Aa Ad (Aa Ad Ac))) (Nf (q u (aM _ (aM _ aH)))))
     |a::b::us,_=>
      refine Aq (Ed (Ej (Ag (Ah (Av (Af rfl) Ad (Ak ix0)) Ad Vm)) (Ag (Ah (Ae (Aa (Af rfl) Ac) Bh) Ad Jp))) ?_ (Aq (Ao Ad)));rw[e2,uM,uG,dJ,beq_eq_false_iff_ne];simp only[aU,aG];omega
    .have e2:=bI.mpr e2;rw[e2];exact Aq (Ed (Jk ((Ag (Ah (Av (Af rfl) Ad (Ak ix0)) Ad Vm)).cast (by rw[e2];rfl))) rfl (Aq (Ao Ad)))
   |_=>exact Aq (Ed (Ga (Pu.cast (Az (Ag (Ae (Aa (Af rfl) (Aa Ad Ac)) Em))) rfl) (Ga (Pu.cast (Ag (Ah (Ae (Aa (Af rfl) Ac) Bh) Ad M5)) lt2) (Az (Ag (Ae (Aa (Av (Af rfl) Ad (Ak ix0)) (Aa Ad Ac)) (Rx hv (by decide) rfl)))))) rfl (Aq (Ao Ad)))
 |_=>exact Aq (Ed (Jk ((Az (Ag (Ae (Aa (Af rfl) (Aa Ad Ac)) (Rx h (by decide) rfl)))).cast rfl)) rfl (Aq (Ao Ad)))
end
def hfL:List ((De->M W)×(De->M W)):=[((kS "head"),(kI 5)),((kS "free"),(kI 2))]
noncomputable def hfK:List (Key×W):=[(.inr "head",.int 5),(.inr "free",.int 2)]
section
variable{ns:List Int}
theorem Bcj(h:Pu P (ixF ns (Ab 0) (kI 0) Z) (.str z))(hz:Ats hfK (.inr z)=some v):Pu P (ixF ns (M3 hfL) (ixF ns (Ab 0) (kI 0)) Z) v:=λS hS=>by
 have e1:M3 hfL Z S=.ok (.ref S.length) (S ++ [.dct hfK]):=by
  have:J7 [] hfK=hfK:=by kernel_rfl
  show R.ok (W.ref S.length) (S ++ [Cell.dct (J7 [] hfK)])=_;rw[this]
 obtain⟨G,e2⟩:=h (S ++ [.dct hfK]) (P.st _ _ hS);refine⟨[.dct hfK] ++ G,?_⟩;unfold ixF;rw[Bp,e1];dsimp only;unfold ixF at e2;rw[Bp,e2];dsimp only;have hn:(S ++ [Cell.dct hfK] ++ G)[S.length]?=some (.dct hfK):=by
  rw[aY (by simp),bC (aN _),eG]
  rfl
 unfold ixW;dsimp only;rw[hn];dsimp only[Ael];rw[hz,aO];rfl
theorem W4(h:Tn S0 (.tup ws) (.tuple ds)):Pu (Al S0) (Fx .Eq (.tup ws) (.tup [])) (.bl ds.isEmpty):=λS ⟨G,hG⟩=>⟨[],by
 subst hG;show eqD false (.tup ws) (.tup []) (S0 ++ G)=_;have h1:=(h.r.app G).up (show 8<=16 by decide)
 have k:(mF ds).canLay0=true:=by rcases h.k with k|k;exact Am3 k;cases k
 unfold eqD;rw[h1.deref,show Gg (S0 ++ G) 16 (.tup [])=some (.tuple []) from rfl];dsimp only;have z1:cO (.tuple ds)=true:=by unfold cO;rw[k,decide_eq_true (aD h1.depth (by decide))];rfl
 rw[z1,show cO (.tuple [])=true from rfl,bJ];cases ds <;> rfl⟩
theorem Aru(hs:s v Z=some Z1)(h1:PuN P b Z1 Z2)(h2:PuR P (Jh s b ws) Z2 r):PuR P (Jh s b (v::ws)) Z r:=λS hS=>by
 obtain⟨G,e⟩:=h1 S hS;obtain⟨G',e'⟩:=h2 (S ++ G) (P.st _ _ hS);exact⟨G ++ G',by unfold Jh;rw[hs];dsimp only;rw[e];dsimp only;rw[e',aO]⟩
theorem Ba8(hs:s v Z=some Z1)(h1:PuR P b Z1 r):PuR P (Jh s b (v::ws)) Z r:=λS hS=>by
 obtain⟨G,e⟩:=h1 S hS;exact⟨G,by unfold Jh;rw[hs];dsimp only;rw[e]⟩
theorem Ba9(h1:Pu P (src Z) (.fix ws))(h2:PuR P (Jh s b ws) Z r):PuR P (My src s b) Z r:=λS hS=>by
 obtain⟨G,e⟩:=h1 S hS;obtain⟨G',e'⟩:=h2 (S ++ G) (P.st _ _ hS);exact⟨G ++ G',by unfold My Er;rw[e];dsimp only;rw[e',aO]⟩
theorem Bg2{Z:De}{x:W×bK}(h:Tn S0 x.1 x.2)(hv:Z[2]?=some (some x.1)):Pu (Al S0) (orT (Ea (Bf (zB (Ei isa) (Ab 2) (kF (.ty "tuple"))))) (aB6 ns) Z) (!Rw x.2):=by
 obtain⟨v,e⟩:=x;cases e with
 |tuple ds=>
  obtain⟨ws,rfl⟩:=h.tup_of;obtain⟨xs,rfl,rfl,q,hl⟩:=h.parts;have t:Pu (Al S0) (Ea (Bf (zB (Ei isa) (Ab 2) (kF (.ty "tuple")))) Z) false:=Pu.cast (Az (Ag (Ae (Aa (Af hv) (Aa Ad Ac)) Em))) rfl
  match xs,q,hv with
  |[],_,hv=>exact Ga t (Jk (Pu.cast (Ag (Ah (Ae (Aa (Af hv) Ac) Bh) Ad Jp)) rfl))
  |[_],_,hv=>exact Ga t (Jk (Pu.cast (Ag (Ah (Ae (Aa (Af hv) Ac) Bh) Ad Jp)) rfl))
  |[_,y],q,hv=>exact Ga t (Ga (Pu.cast (Ag (Ah (Ae (Aa (Af hv) Ac) Bh) Ad Jp)) rfl) (Pu.cast (Az (Ag (Ae (Aa (Av (Af hv) Ad (Ak ix1)) Ac) (Art (q y (aM _ aH)))))) rfl))
  |_::_::_::us,_,hv=>
   refine Ga t (Jk (Pu.cast (Ag (Ah (Ae (Aa (Af hv) Ac) Bh) Ad Jp)) ?_));rw[dJ,beq_eq_false_iff_ne];simp only[aU,aG];omega
 |_=>exact Jk (Pu.cast (Az (Ag (Ae (Aa (Af hv) (Aa Ad Ac)) (Rx h (by decide) rfl)))) rfl)
theorem Agb(hb:b=An (aD2 ns) Aw):
  ∀(xs:List (W×bK))(u v x:Option W),(∀x∈xs,Tn S0 x.1 x.2)->((xs.map (·.2)).all Rw=true/\∃x',PuN (Al S0) (Jh (Bg 2) b (xs.map (·.1))) [u,v,x] [u,v,x'])\/((xs.map (·.2)).all Rw=false/\PuR (Al S0) (Jh (Bg 2) b (xs.map (·.1))) [u,v,x] (.bl false))
 |[],u,v,x,_=>.inl ⟨rfl,x,Sd⟩
 |y::xs,u,v,x,h=>by
  have hy:=h y aH;have t:=Bg2 (ns:=ns) (Z:=[u,v,some y.1]) hy rfl;by_cases e:Rw y.2=true
  .have hN:PuN (Al S0) b [u,v,some y.1] [u,v,some y.1]:=by
    rw[hb];exact Nt (Dp t (by rw[e];rfl) Ar) Ar
   rcases Agb hb xs u v (some y.1) (λz hz=>h z (aM _ hz)) with ⟨h1,x',h2⟩|⟨h1,h2⟩
   .exact .inl ⟨by rw[aG,bY,e,h1];rfl,x',J5 rfl hN h2⟩
   .exact .inr ⟨by rw[aG,bY,e,h1];rfl,Aru rfl hN h2⟩
  .have e:=bI.mpr e;refine .inr ⟨by rw[aG,bY,e];rfl,Ba8 rfl (?_:PuR (Al S0) b [u,v,some y.1] (.bl false))⟩
   rw[hb];exact Aq (Ed t (by rw[e];rfl) (Aq (Ao Ad)))
theorem Bkg{z:Str}{ys rs:List (W×bK)}(q:∀x∈ys,Tn S0 x.1 x.2)(qr:∀x∈rs,Tn S0 x.1 x.2)(hr:rs.length<=1000):
  PuR (Al S0) (aA6 ns)
   (Bq 3 [.tup (.str z::.tup (rs.map (·.1))::ys.map (·.1))])
   (.bl (match mF (rs.map (·.2))::ys.map (·.2) with|[k,p]=>Vb k&&Ady (Av9 k+1) p|_=>false)):=by
 match ys,q with
 |[],_=>exact Aq (Ed (Jk (Pu.cast (Ag (Ah (Ae (Aa (Af rfl) Ac) Bh) Ad Jp)) rfl)) rfl (Aq (Ao Ad)))
 |[p],q=>
  have hp:=q p aH;obtain⟨pw,pd⟩:=p;have t3:Pu (Al S0) (Bf (Cq .NotEq (zA (Bw ns) (Ab 0)) (kI 3)) (Bq 3 [.tup [.str z,.tup (rs.map (·.1)),pw]])) false:=Pu.cast (Ag (Ah (Ae (Aa (Af rfl) Ac) Bh) Ad Jp)) rfl;rw[aG,cT,aG,cT];dsimp only at hp ⊢
  have tr:Pu (Al S0) (Ea (Bf (zA (Gn ns) (ixF ns (Ab 0) (kI 1)))) (Bq 3 [.tup [.str z,.tup (rs.map (·.1)),pw]])) (!Vb (.tuple (rs.map (·.2)))):=(Az (Ag (Ae (Aa (Av (Af rfl) Ad (Ak ix1)) Ac) (Arq qr hr)))).cast (by unfold Vb;dsimp only;rw[aA])
  cases pd with
  |tuple ps=>
   obtain⟨ws,rfl⟩:=hp.tup_of;obtain⟨us,rfl,rfl,qu,hu⟩:=hp.parts;have ti:Pu (Al S0) (Ea (aD5 ns) (Bq 3 [.tup [.str z,.tup (rs.map (·.1)),.tup (us.map (·.1))]])) false:=Pu.cast (Az (Ag (Ae (Aa (Av (Af rfl) Ad (Ak ix2)) (Aa Ad Ac)) Em))) rfl;by_cases hk:Vb (.tuple (rs.map (·.2)))=true
   .refine Ca (Dp (Ga t3 (Ga ti tr)) (by rw[hk];rfl) Ar) (Aq (Ao ?_))
    refine(Gf (Ah (Ae (Aa (Av (Af rfl) Ad (Ak ix2)) Ac) Bh) (Aj (Ae (Aa (Av (Af rfl) Ad (Ak ix1)) Ac) Bh) Ad Di) Ff) (Kl (xs:=us) (τ:=Eu 1 4095) (Av (Af rfl) Ad (Ak ix2)) hu rfl λx hx=>Ae (Aa (Af rfl) (Aa Ad (Aa Ad Ac))) (Nf (qu x hx)))).cast ?_;rw[hk,iK];show W.bl (((((us.map (·.1)).length:Nat):Int)==(((rs.map (·.1)).length:Nat):Int)+1)&&_)=W.bl (decide ((us.map (·.2)).length=(rs.map (·.2)).length+1)&&_)
    congr 2
    by_cases e:us.length=rs.length+1
    .rw[decide_eq_true (by simp only[aA];exact e)]
     simp only[aA];rw[e];simp
    .rw[decide_eq_false (by simp only[aA];exact e),beq_eq_false_iff_ne]
     simp only[aA];omega
   .have hk:=bI.mpr hk;refine Aq (Ed (Ga t3 (Ga ti tr)) (by rw[hk];rfl) (Aq (Ao (Ad.cast ?_))))
    rw[hk,sU]
  |_=>
   refine Aq (Ed (Ga t3 (Jk ((Az (Ag (Ae (Aa (Av (Af rfl) Ad (Ak ix2)) (Aa Ad Ac)) (Rx hp (by decide) rfl)))).cast rfl))) rfl (Aq (Ao (Ad.cast ?_))))
   show W.bl false=W.bl (_&&false);rw[jM]
 |a::b::us,_=>
  refine Aq (Ed (Jk (Pu.cast (Ag (Ah (Ae (Aa (Af rfl) Ac) Bh) Ad Jp)) ?_)) rfl (Aq (Ao (Ad.cast rfl))));rw[dJ,beq_eq_false_iff_ne];simp only[aU,aG];omega
theorem Bkh{ys rs:List (W×bK)}(qr:∀x∈rs,Tn S0 x.1 x.2)(hr:rs.length<=1000):
  PuR (Al S0) (aA4 ns)
   (Bq 3 [.tup (.str "leaf"::.tup (rs.map (·.1))::ys.map (·.1))])
   (.bl (match mF (rs.map (·.2))::ys.map (·.2) with|[r]=>Wy r|_=>false)):=by
 have t1:Pu (Al S0) (Bf (Cq .NotEq (ixF ns (Ab 0) (kI 0)) (kS "leaf")) (Bq 3 [.tup (.str "leaf"::.tup (rs.map (·.1))::ys.map (·.1))])) false:=Pu.cast (Ag (Ah (Av (Af rfl) Ad (Ak ix0)) Ad Vm)) (by rw[beq_self_eq_true];rfl)
 match ys,t1 with
 |[],t1=>
  refine Ca (Dp (Ga t1 (Pu.cast (Ag (Ah (Ae (Aa (Af rfl) Ac) Bh) Ad Jp)) rfl)) rfl Ar) ?_;have hs:Pu (Al S0) (Cv ns (ixF ns (Ab 0) (kI 1)) (Bq 3 [.tup [.str "leaf",.tup (rs.map (·.1))]])) (.fix (rs.map (·.1))):=Fg (Av (Af rfl) Ad (Ak ix1));rcases Agb (S0:=S0) (ns:=ns) rfl rs (some (.tup [.str "leaf",.tup (rs.map (·.1))])) none none qr with ⟨hk,x',hN⟩|⟨hk,hR⟩
  .refine Ca (Nu hs hN) (Aq (Ao ?_));obtain⟨us,e1,e2,q2⟩:=Ah0 (ns:=ns) qr hk;have hlu:us.length<=1000:=by rw[e1,aA] at hr;exact hr
   have hc:=Es (P:=Al S0) (xs:=us) (φ:=λy=>y.1.1) (ψ:=λy=>y.2.1) (t:=λ_=>pure true) (e:=ixF ns (Ab 0) (kI 0)) (cs:=[]) (cap:=[]) (Z:=[some (.tup [.str "leaf",.tup (rs.map (·.1))]),none,x']) (src:=Cv ns (ixF ns (Ab 0) (kI 1))) (Fg ((Av (Af rfl) Ad (Ak ix1)).cast (by rw[e1,bB];rfl))) rfl (aD hlu (by decide)) (λy hy=>⟨Pu.pure,(q2 y hy).2 _ _⟩)
   refine(Akt hc λn=>Ars (P:=(Al S0).at n (us.map λy=>y.2.1)) (S0:=S0) (xs:=us.map (·.2)) (λS hS=>hS.1) (λS hS=>by rw[bB];exact hS.2) (λx hx=>?_) (by rw[aA];exact hlu)).cast ?_
   .obtain⟨y,hy,rfl⟩:=bU.mp hx;exact(q2 y hy).1
   .rw[<-e2];show _=W.bl (decide ((rs.map (·.2)).length<=63)&&(rs.map (·.2)).all Rw&&Rv ((rs.map (·.2)).map Am4));rw[hk,uN,aA,e1,aA,aA]
  .refine Aq (Ba9 hs ?_);have e:W.bl (match [mF (rs.map (·.2))] with|[r]=>Wy r|_=>false)=.bl false:=by
    show W.bl (decide ((rs.map (·.2)).length<=63)&&(rs.map (·.2)).all Rw&&Rv ((rs.map (·.2)).map Am4))=_;rw[hk,jM];rfl
   rw[cT];refine e ▸ hR
 |a::us,t1=>
  refine Aq (Ed (Ga t1 (Pu.cast (Ag (Ah (Ae (Aa (Af rfl) Ac) Bh) Ad Jp)) ?_)) rfl (Aq (Ao (Ad.cast rfl))));rw[dJ,beq_eq_false_iff_ne];simp only[aU,aG];omega
theorem Aab(h:Tn S0 w d):Pu (Al S0) (G7 ns [w]) (.bl (Jj d)):=by
 apply Be (ws:=[w]) rfl;cases d with
 |tuple ds=>
  obtain⟨ws,rfl⟩:=h.tup_of;obtain⟨xs,rfl,rfl,q9,hl⟩:=h.parts;cases xs with
  |nil=>exact Aq (Ed (Ga (Pu.cast (Az (Ag (Ae (Aa (Af rfl) (Aa Ad Ac)) Em))) rfl) (Jk (Pu.cast (Ag (Ah (Af rfl) (Dj Ac (by decide)) (W4 h))) rfl))) rfl (Aq (Ao Ad)))
  |cons x xs=>
   obtain⟨v,e⟩:=x;have hv:=q9 (v,e) aH;have q:∀x∈xs,Tn S0 x.1 x.2:=λx hx=>q9 x (aM _ hx);rw[aG,aG] at h;rw[aG,aG];dsimp only at h ⊢
   cases e with
   |str z=>
    have hr:=hv.r;cases hr;refine Ca (Dp (Ga (Pu.cast (Az (Ag (Ae (Aa (Af rfl) (Aa Ad Ac)) Em))) rfl) (Ga (Pu.cast (Ag (Ah (Af rfl) (Dj Ac (by decide)) (W4 h))) rfl) (Az (Ag (Ae (Aa (Av (Af rfl) Ad (Ak ix0)) (Aa Ad Ac)) Wq))))) rfl Ar) ?_
    have wz:∀y:Str,Pu (Al S0) (Bf (Cq .Eq (ixF ns (Ab 0) (kI 0)) (kS y)) (Bq 3 [.tup (.str z::xs.map (·.1))])) (z==y):=λy=>Ag (Ah (Av (Af rfl) Ad (Ak ix0)) Ad Bc);have nums:∀(Z:De),Z[0]?=some (some (.tup (.str z::xs.map (·.1))))->Pu (Al S0) (Cp Jm (yA (aC6 ns)) Z) (.bl ((xs.map (·.2)).all (Eu 0 4095))):=λZ hZ=>Kl (Aow hZ) (by rw[aU] at hl;omega) rfl λx hx=>Ae (Aa (Af rfl) (Aa Ad (Aa Ad Ac))) (Nf (q x hx))
    rw[Gq];by_cases e1:(z==("head":Str))=true
    .refine Aq (Ed (Jk ((wz "head").cast e1)) rfl ?_);obtain rfl:=eq_of_beq e1;refine Ca (Bx (w:=.int 5) (Bcj (Av (Af rfl) Ad (Ak ix0)) rfl)) (Aq (Ao ?_));refine(Gf ((Ah (Ae (Aa (Af rfl) Ac) Bh) (Af rfl) Ff).cast (congrArg W.bl (Bgw (k:=4) rfl))) (nums _ rfl)).cast ?_;rw[if_pos e1,aA,aA]
    rw[if_neg e1];have e1:=bI.mpr e1;by_cases e5:(z==("free":Str))=true
    .refine Aq (Ed (Ga ((wz "head").cast e1) ((wz "free").cast e5)) rfl ?_);obtain rfl:=eq_of_beq e5;refine Ca (Bx (w:=.int 2) (Bcj (Av (Af rfl) Ad (Ak ix0)) rfl)) (Aq (Ao ?_));refine(Gf ((Ah (Ae (Aa (Af rfl) Ac) Bh) (Af rfl) Ff).cast (congrArg W.bl (Bgw (k:=1) rfl))) (nums _ rfl)).cast ?_;rw[ble,bfe,bre,beq_self_eq_true];rcases xs with _|⟨a,_|⟨b,us⟩⟩
     .rfl
     .simp
     .rw[decide_eq_false (by simp)];rfl
    have e5:=bI.mpr e5;refine Ca (Dp (Ga ((wz "head").cast e1) ((wz "free").cast e5)) rfl Ar) ?_;by_cases e4:(z==("rest":Str))=true
    .refine Aq (Ed (wz "rest") e4 (Aq (Ao ?_)));obtain rfl:=eq_of_beq e4;rw[blr,bfr,beq_self_eq_true]
     match xs,q with
     |[],_=>exact(Bo ((Dn (k:=2) rfl rfl).cast rfl)).cast rfl
     |[_],_=>exact(Bo ((Dn (k:=2) rfl rfl).cast rfl)).cast rfl
     |[x,y],q=>exact(Bk ((Dn (k:=2) rfl rfl).cast rfl) (Gf (Ae (Aa (Av (Af rfl) Ad (Ak ix1)) (Aa Ad (Aa Ad Ac))) (Ik (q x aH))) (Ae (Aa (Av (Af rfl) Ad (Ak ix2)) (Aa Ad (Aa Ad Ac))) (Nf (q y (aM _ aH)))))).cast rfl
     |_::_::_::ys,_=>exact(Bo ((Dn (k:=2) rfl rfl).cast (by rw[decide_eq_false];simp))).cast rfl
    have e4:=bI.mpr e4;refine Ca (Dp (wz "rest") e4 Ar) ?_;rw[e4,e5]
    match xs,q,h,hl,wz with
    |[],_,_,_,_=>
     refine Aq (Ed (Jk (Pu.cast (Ag (Ah (Ae (Aa (Af rfl) Ac) Bh) Ad M5)) rfl)) rfl (Aq (Ao (Ad.cast ?_))));rw[cT];dsimp only;split
     .rfl
     .split <;> rfl
    |y::ys,q8,h,hl,wz=>
     have hy:=q8 y aH;have q:∀x∈ys,Tn S0 x.1 x.2:=λx hx=>q8 x (aM _ hx);rw[aG,aG] at h;rw[aG,aG];rw[aG] at wz;obtain⟨yw,yd⟩:=y;dsimp only at h hy wz ⊢
     by_cases ht:Acn (tyD yd) "tuple"=true
     .refine Ca (Dp (Ga (Pu.cast (Ag (Ah (Ae (Aa (Af rfl) Ac) Bh) Ad M5)) lt2) (Az (Ag (Ae (Aa (Av (Af rfl) Ad (Ak ix1)) (Aa Ad Ac)) (Gp hy.r (by decide)))))) (by rw[ht];rfl) Ar) ?_
      cases yd with
      |tuple ds=>
       obtain⟨ws,rfl⟩:=hy.tup_of;obtain⟨rs,rfl,rfl,qr,hr⟩:=hy.parts;by_cases e3:(z==("fork":Str))=true
       .refine Aq (Ed (wz "fork") e3 ?_);obtain rfl:=eq_of_beq e3;rw[blf,beq_self_eq_true,if_neg (by decide),if_pos rfl]
        exact Bkg q qr hr
       have e3:=bI.mpr e3;refine Ca (Dp (wz "fork") e3 Ar) ?_;rw[e3];by_cases e2:(z==("leaf":Str))=true
       .obtain rfl:=eq_of_beq e2;rw[beq_self_eq_true,if_pos rfl];exact Bkh qr hr
       .have e2:=bI.mpr e2;rw[e2];exact Aq (Ed (Jk ((Ag (Ah (Av (Af rfl) Ad (Ak ix0)) Ad Vm)).cast (by rw[e2];rfl))) rfl (Aq (Ao Ad)))
      |_=>cases ht
     .have ht:=bI.mpr ht;refine Aq (Ed (Ga (Pu.cast (Ag (Ah (Ae (Aa (Af rfl) Ac) Bh) Ad M5)) lt2) (Az (Ag (Ae (Aa (Av (Af rfl) Ad (Ak ix1)) (Aa Ad Ac)) (Gp hy.r (by decide)))))) (by rw[ht];rfl) (Aq (Ao (Ad.cast ?_))))
      cases yd with
      |tuple ds=>cases ht
      |_=>
       split
       .rcases ys with _|⟨a,us⟩ <;> rfl
       .split
        .rcases ys with _|⟨a,_|⟨b,us⟩⟩ <;> rfl
        .rfl
   |_=>exact Aq (Ed (Ga (Pu.cast (Az (Ag (Ae (Aa (Af rfl) (Aa Ad Ac)) Em))) rfl) (Ga (Pu.cast (Ag (Ah (Af rfl) (Dj Ac (by decide)) (W4 h))) rfl) (Az (Ag (Ae (Aa (Av (Af rfl) Ad (Ak ix0)) (Aa Ad Ac)) (Rx hv (by decide) rfl)))))) rfl (Aq (Ao Ad)))
 |_=>exact Aq (Ed (Jk ((Az (Ag (Ae (Aa (Af rfl) (Aa Ad Ac)) (Rx h (by decide) rfl)))).cast rfl)) rfl (Aq (Ao Ad)))
end
section
variable{S0 S S':Store}{ns:List Int}{w:W}{d:bK}{P:SP}{α:Type}{m:M α}{a:α}
theorem Am6(h:Fr [] S S'):∃G,S'=S ++ G:=⟨S'.drop S.length,by
 have e:S'.take S.length=S:=by
  apply vZ;intro i;by_cases hi:i < S.length
  .rw[qG hi,h.get i hi (λz=>nomatch z)]
  .rw[jC (by rw[eQ];omega),jC (by omega)]
 conv=>lhs;rw[<-nR S.length S',e]⟩
theorem Bki(h:∀S,P.p S->Wm m S λx S'=>x=a/\Fr [] S S'):Pu P m a:=λS hS=>by
 obtain⟨x,S',e,rfl,f⟩:=h S hS;obtain⟨G,rfl⟩:=Am6 f;exact⟨G,e⟩
theorem Bck(hS:P.p S)(f:Fr [] S S'):P.p S':=by
 obtain⟨G,rfl⟩:=Am6 f;exact P.st S G hS
theorem Akv{n:Nat}(h:Rd S n w d)(f:Fr [] S S'):Rd S' n w d:=by
 obtain⟨G,rfl⟩:=Am6 f;exact h.app G
def Tn.fr(h:Tn S w d)(f:Fr [] S S'):Tn S' w d:=⟨Akv h.r f,h.k⟩
def Eo:(Al S).p S:=⟨[],(bJ S).symm⟩
theorem Am7{n:Nat}(f:Fr [] S S')(hn:S.length<=n):Fr [] S (S'.set n c):=f.trans (Fr.set (n:=n) (c:=c)) λi hi=>.inr (by rw[bA.mp hi];exact hn)
theorem W5(h:Tn S0 w d):Pu (Al S0) (Ce ns [w,v]) (.bl true):=by
 refine Bki λS hS=>?_;have ck:∀{g:List W->M W} {b:Bool},Pu (Al S0) (g [w]) (.bl b)->∀Z:De,Z[0]?=some (some w)->Pu (Al S0) (Cp g (yA (Ab 0)) Z) (.bl b):=λhg Z hZ=>Ae (Aa (Af hZ) Ac) hg;let bs:List Bool:=[Fz 1 12 d,Fz 0 400 d,Eu 64 200 d,Jj d];apply Mj (ws:=[w,v]) rfl;refine Cw (Hq (P:=Al S0) (ws:=bs.map W.bl) (Ge (Aa (ck (Ahx h) _ rfl) (Aa (ck (Ba5 h) _ rfl) (Aa (ck (Wx h) _ rfl) (Aa (ck (W0 h) _ rfl) Ac)))) (show 4<=big by decide)) hS λn S1 f1 hn hln=>?_)
 refine Cw (Hq (P:=Al S0) (ws:=[.bl (Fz 1 12 d),.bl (Fz 0 400 d),.bl (Eu 64 200 d)]) (Ge (Aa (Ae (Aa (Af rfl) (Aa Ad (Aa Ad Ac))) (Ik h)) (Aa (Ae (Aa (Af rfl) (Aa Ad (Aa Ad Ac))) (Ik h)) (Aa (Ae (Aa (Af rfl) (Aa Ad (Aa Ad Ac))) (Nf h)) Ac))) (show 3<=big by decide)) (Bck hS f1) λk S2 f2 hk hlk=>?_)
 have f12:=f1.then0 f2;refine Wf (Abr (P:=SP.any) (Af rfl) trivial hk λS3 f3=>Bu (Cr (P:=Al S0) (Ae (Aa (Af rfl) Ac) (Aab h)) (Bck hS (f12.then0 f3)) λS4 f4=>Ek (Xk (f4.at0 (f3.at0 hk)) (show 3 < big by decide) ?_)))
 have f14:=(f12.then0 f3).then0 f4;have hkn:n≠k:=λe=>by subst e;have:=Fy hn;omega
 have hn5:(S4.set k (.lst ([.bl (Fz 1 12 d),.bl (Fz 0 400 d),.bl (Eu 64 200 d)] ++ [.bl (Jj d)])))[n]?=some (.lst (bs.map W.bl)):=by
  rw[cJ (gO hkn)];exact f4.at0 (f3.at0 (f2.at0 hn))
 have hk5:(S4.set k (.lst ([.bl (Fz 1 12 d),.bl (Fz 0 400 d),.bl (Eu 64 200 d)] ++ [.bl (Jj d)])))[k]?=some (.lst (bs.map W.bl)):=Qw (Fy (f4.at0 (f3.at0 hk)));have f5:Fr [] S (S4.set k (.lst ([.bl (Fz 1 12 d),.bl (Fz 0 400 d),.bl (Eu 64 200 d)] ++ [.bl (Jj d)]))):=Am7 f14 (aD (by have:=f1.len;exact this) hlk)
 generalize S4.set k (.lst ([.bl (Fz 1 12 d),.bl (Fz 0 400 d),.bl (Eu 64 200 d)] ++ [.bl (Jj d)]))=S5 at hn5 hk5 f5;let P5:SP:=(SP.any.at n (bs.map W.bl)).at k (bs.map W.bl);have rb:∀(T:Store)(l:List Bool),Rds T 15 (l.map W.bl) (l.map tL):=λT l=>by
  induction l with
  |nil=>exact .nil
  |cons b l ih=>exact .cons (.bl b) ih
 have eq:Pu P5 (Fx .Eq (.ref n) (.ref k)) (.bl true):=λT hT=>⟨[],by
  rw[Awm (d:=.list (bs.map tL)) (e:=.list (bs.map tL)) (.lst hT.1.2 (rb T bs)) (.lst hT.2 (rb T bs)) rfl rfl,bJ]
  congr 2
  show (Fz 1 12 d==Fz 1 12 d&&(Fz 0 400 d==Fz 0 400 d&&(Eu 64 200 d==Eu 64 200 d&&(Jj d==Jj d&&true))))=true;simp⟩
 refine Iw (Cr (P:=P5) (a:=.bl true) (Bk (Ah (Af rfl) (Af rfl) eq) ?_) ⟨⟨trivial,hn5⟩,hk5⟩ λS6 f6=>⟨rfl,f5.then0 f6⟩);refine(Wz (P:=P5) (xs:=bs.map λb=>(W.bl b,tL b)) (τ:=λe=>Acn (tyD e) "bool") (n:=n) (λT hT=>by rw[bB];exact hT.1.2) rfl (show 4<=1000 by decide) rfl λx hx=>?_).cast rfl
 obtain⟨b,_,rfl⟩:=bU.mp hx;exact Ae (Aa (Af rfl) (Aa Ad Ac)) λT _=>⟨[],by rw[bJ];rfl⟩
end
theorem Bg3(e:b Z S=.rt w S1):An b b' Z S=.rt w S1:=by
 unfold An;rw[e]
theorem Rz{b b':MS}{Z Z1:De}{S S1:Store}{c:Nat×W}(e:b Z S=.ex c Z1 S1):An b b' Z S=.ex c Z1 S1:=by
 unfold An;rw[e]
theorem Ah1{f:De->M W}{Z:De}{S S1:Store}{c:Nat×W}(e:f Z S=.exc c S1):G4 f Z S=.ex c Z S1:=by
 unfold G4 Er;rw[e]
theorem Bg4{exm:Nat->Bool}{i:Nat}{c:Nat×W}(e:b Z S=.ex c Z1 S1)(hm:exm c.1=true)(e2:su (Z1.set i (some (.exn c.1 c.2))) S1=.rt w S2):Ai8 exm i b su Z S=.rt w S2:=by
 unfold Ai8;rw[e];dsimp only;rw[if_pos hm,e2]
section
variable{ns:List Int}{c:Nat}
theorem Bcl{exm:Nat->Bool}{i:Nat}(h:PuN P b Z Z'):PuN P (Ai8 exm i b su) Z Z':=λS hS=>by
 obtain⟨G,e⟩:=h S hS;exact⟨G,by unfold Ai8;rw[e]⟩
def Bba(c:Nat)(s:Str):Prop:=(c=6/\s="page")\/(c=3/\s="size")
theorem nobody(h:Tn S0 w d)(hp:Jj d=false):PuX (Al S0) (Hk ns [w]) (6,.non):=by
 apply Wc (ws:=[w]) rfl;exact Wa (Az1 (Az (Ag (Ae (Aa (Af rfl) Ac) (W0 h)))) (by rw[hp];rfl) (Wa (Vl (Aa Ad (Aa Ad Ac)) rfl)))
theorem Aox(h:Tn S0 w d)(hp:Jj d=false):PuX (Al S0) (Ia ns [w]) (6,.non):=by
 apply Wc (ws:=[w]) rfl;exact Wa (Az1 (Az (Ag (Ae (Aa (Af rfl) Ac) (W0 h)))) (by rw[hp];rfl) (Wa (Vl (Aa Ad (Aa Ad Ac)) rfl)))
theorem Awo(h:Tn S0 w d)(hp:Jj d=false):PuX (Al S0) (G8 ns [w,v]) (6,.non):=by
 apply Wc (ws:=[w,v]) rfl;exact Wa (Az0 (Au3 (Aa (Af rfl) Ac) (nobody h hp)))
theorem Am8{way:W}(hs:Bba c s){f:De->M W}(hb:∀S,P.p S->∃G,(aB3 ns) (Bq 5 [way,w,v]) S=.ex (c,.non) (Bq 5 [way,w,v]) (S ++ G)):
  Pu P (Bm ns [way,w,v]) (.str s):=λS hS=>by
 obtain⟨G,e1⟩:=hb S hS;refine⟨G,?_⟩;unfold Bm Dh;rw[if_pos (show [way,w,v].length=3 from rfl)];have fin:Jb ns (Bq 5 [way,w,v]) S=.rt (.str s) (S ++ G):=by
  unfold Jb;refine Bg3 (Bg4 e1 ?_ ?_)
  .rcases hs with ⟨rfl,_⟩|⟨rfl,_⟩ <;> rfl
  .rcases hs with ⟨rfl,rfl⟩|⟨rfl,rfl⟩ <;> rfl
 rw[fin]
theorem ref0(hs:Bba c s)(hX:PuX P (Hk ns [w]) (c,.non)):Pu P (Bm ns [.int 0,w,v]) (.str s):=Am8 hs (f:=kF .non) λS hS=>by
 obtain⟨G,e⟩:=hX S hS;exact⟨G,Rz (Aql (S1:=S) rfl (Rz (Ah1 e)))⟩
theorem Bkj(hs:Bba c s)(hX:PuX P (Ia ns [w]) (c,.non)):Pu P (Bm ns [.int 1,w,v]) (.str s):=Am8 hs (f:=kF .non) λS hS=>by
 obtain⟨G,e⟩:=hX S hS;exact⟨G,Rz (Au6 (S1:=S) rfl (Rz (Aql (S1:=S) rfl (Rz (Ah1 e)))))⟩
theorem Bbb(hs:Bba c s)(hX:PuX P (G8 ns [w,v]) (c,.non)):Pu P (Bm ns [.int 2,w,v]) (.str s):=Am8 hs (f:=kF .non) λS hS=>by
 obtain⟨G,e⟩:=hX S hS;exact⟨G,Rz (Au6 (S1:=S) rfl (Rz (Au6 (S1:=S) rfl (Rz (Ah1 e)))))⟩
theorem Bkk(h:Pu P (Hk ns [w]) x):Pu P (Bm ns [.int 0,w,v]) (.str ""):=by
 apply Be (ws:=[.int 0,w,v]) rfl;exact Ca (Bcl (Nt (Bgf (Ag (Ah (Af rfl) Ad Ff)) rfl (Nt (Au5 (Ae (Aa (Af rfl) Ac) h)) Ar)) Ar)) (Aq (Ao Ad))
theorem Arv(h:PuL P (f Z) ws):PuN P (G4 f) Z Z:=λS hS=>by
 obtain⟨G,n,e,_⟩:=h S hS;exact⟨G,by unfold G4 Er;rw[e]⟩
theorem Bkl(h:PuL P (Ia ns [w]) ws):Pu P (Bm ns [.int 1,w,v]) (.str ""):=by
 apply Be (ws:=[.int 1,w,v]) rfl;exact Ca (Bcl (Nt (Dp (Ag (Ah (Af rfl) Ad Ff)) rfl (Nt (Bgf (Ag (Ah (Af rfl) Ad Ff)) rfl (Nt (Arv (Ajk (Aa (Af rfl) Ac) h)) Ar)) Ar)) Ar)) (Aq (Ao Ad))
end
mutual
def wt:bK->Nat
 |.none=>5
 |.bool _=>5
 |.int _=>8
 |.str z=>10 * z.length+2
 |.tuple ds=>wts ds+3
 |.list ds=>wts ds+3
 |.dict _=>0
def wts:List bK->Nat
 |[]=>0
 |d::ds=>wt d+2+wts ds
end
theorem Awp{i:Int}(h:okD (.int i)=true):i.natAbs < 10 ^ 7:=by
 obtain⟨h1,h2⟩:=aR.mp h;have h1:=of_decide_eq_true h1;have h2:=of_decide_eq_true h2;omega
mutual
theorem shown_le:∀{d:bK},okD d=true->d.shown.length<=wt d
 |.none,_=>by decide +kernel
 |.bool true,_=>by decide +kernel
 |.bool false,_=>by decide +kernel
 |.int i,h=>by
  have:=int_text_length_le10 (k:=7) (by decide) (Awp h)
  show (fX (toString i)).length<=8;rw[PySem.ofString_length];omega
 |.str z,h=>by
  refine StrLaws.reprText_len z λc hc=>?_;have:=pQ.mp (aR.mp h).1 c (lG.mp hc);have:=of_decide_eq_true this;exact vP this (by decide)
 |.tuple ds,h=>by
  have h1:=shownAll_le (aR.mp h).2;have h2:=tupleText_len_le (iB ds);show (tupleText (iB ds)).length<=wts ds+3;omega
 |.list ds,h=>by
  have h1:=shownAll_le (aR.mp h).2;have h2:=listText_len_le (iB ds);show (listText (iB ds)).length<=wts ds+3;omega
theorem shownAll_le:∀{ds:List bK},Cy ds=true->((iB ds).map (·.length)).sum+2 * (iB ds).length<=wts ds
 |[],_=>aN _
 |d::ds,h=>by
  rw[Cy,aC] at h;have h1:=shown_le h.1;have h2:=shownAll_le h.2;show ((d.shown::iB ds).map (·.length)).sum+2 * (d.shown::iB ds).length<=wt d+2+wts ds;rw[aG,jH,aU];omega
end
mutual
theorem Aa3:∀{d:bK},okD d=true->d.showable=true
 |.none,_=>rfl
 |.bool _,_=>rfl
 |.int i,h=>by
  refine decide_eq_true (bM (m:=24) ?_ (by decide))
  have:=Awp h;by_cases hz:i.natAbs=0
  .rw[hz];decide
  .exact(Nat.log2_lt hz).mpr (vP this (by decide))
 |.str z,h=>rfl
 |.tuple ds,h=>Pj (aR.mp h).2
 |.list ds,h=>Pj (aR.mp h).2
theorem Pj:∀{ds:List bK},Cy ds=true->vC ds=true
 |[],_=>rfl
 |d::ds,h=>by
  rw[Cy,aC] at h;rw[vC,Aa3 h.1,Pj h.2];rfl
end
mutual
theorem Agc:∀{d:bK},okD d=true->d.hasDict=false
 |.none,_=>rfl
 |.bool _,_=>rfl
 |.int i,h=>rfl
 |.str z,h=>rfl
 |.tuple ds,h=>Vz (aR.mp h).2
 |.list ds,h=>Vz (aR.mp h).2
theorem Vz:∀{ds:List bK},Cy ds=true->wA ds=false
 |[],_=>rfl
 |d::ds,h=>by
  rw[Cy,aC] at h;rw[wA,Agc h.1,Vz h.2];rfl
end
structure El(S:Store)(n b:Nat)(w:W)(d:bK):Prop where
 r:Rd S n w d
 k:okD d=true
 b:wt d<=b
section
variable{n m b b' k:Nat}
def El.tn(h:El S n b w d)(hn:n<=8):Tn S w d:=⟨h.r.up hn,.inl h.k⟩
def El.le(h:El S n b w d)(hn:n<=m)(hb:b<=b'):El S m b' w d:=⟨h.r.up hn,h.k,aD h.b hb⟩
theorem Aoy(h:El S n b w d)(hn:n<=16)(hb:b<=sizeLine):Tj [w] S=.ok (.str d.shown) S:=by
 have h1:=h.r.up hn;unfold Tj;dsimp only;rw[h1.deref];dsimp only;rw[Aa3 h.k,Agc h.k,decide_eq_true (aD h1.depth (by decide)),decide_eq_true (aD (shown_le h.k) (aD h.b hb))]
 rfl
mutual
theorem Rd.frn{L:List Nat}{S S':Store}(f:Fr L S S')(hL:∀i∈L,∀ws,S[i]?≠some (.lst ws)/\S[i]?≠some (.dct [])):∀{n:Nat} {w:W} {d:bK},Rd S n w d->Rd S' n w d
 |_,_,_,.non=>.non
 |_,_,_,.bl b=>.bl b
 |_,_,_,.int i=>.int i
 |_,_,_,.str z=>.str z
 |_,_,_,.tup h=>.tup (Rds.frn f hL h)
 |_,_,_,.lst h r=>.lst (f.at h λz=>(hL _ z _).1 h) (Rds.frn f hL r)
 |_,_,_,.dct h=>.dct (f.at h λz=>(hL _ z []).2 h)
theorem Rds.frn{L:List Nat}{S S':Store}(f:Fr L S S')(hL:∀i∈L,∀ws,S[i]?≠some (.lst ws)/\S[i]?≠some (.dct [])):∀{n:Nat} {ws:List W} {ds:List bK},Rds S n ws ds->Rds S' n ws ds
 |_,_,_,.nil=>.nil
 |_,_,_,.cons h r=>.cons (Rd.frn f hL h) (Rds.frn f hL r)
end
theorem El.frn{i:Nat}{k:Int}(h:El S n b w d)(f:Fr [i] S S')(hi:S[i]?=some (stD k)):El S' n b w d:=⟨h.r.frn f λj hj ws=>by
 rw[bA.mp hj,hi];exact⟨(λe=>by cases e),(λe=>by cases e)⟩,h.k,h.b⟩
def El.fr0(h:El S n b w d)(f:Fr [] S S'):El S' n b w d:=⟨Akv h.r f,h.k,h.b⟩
theorem Sx:∀{ds es:List bK},wts (ds ++ es)=wts ds+wts es
 |[],es=>by rw[jW];show wts es=0+wts es;omega
 |d::ds,es=>by
  show wt d+2+wts (ds ++ es)=wt d+2+wts ds+wts es;rw[Sx];omega
structure Els(S:Store)(n b:Nat)(xs:List (W×bK)):Prop where
 e:∀x∈xs,Rd S n x.1 x.2/\okD x.2=true
 b:wts (xs.map (·.2))<=b
theorem Aoz:∀{xs:List (W×bK)},(∀x∈xs,Rd S n x.1 x.2)->Rds S n (xs.map (·.1)) (xs.map (·.2))
 |[],_=>.nil
 |x::xs,h=>.cons (h x aH) (Aoz λy hy=>h y (aM _ hy))
theorem Agd:∀{xs:List (W×bK)},(∀x∈xs,okD x.2=true)->Cy (xs.map (·.2))=true
 |[],_=>rfl
 |x::xs,h=>by rw[aG,Cy,h x aH,Agd λy hy=>h y (aM _ hy)];rfl
theorem Els.tup(h:Els S n b xs)(hl:xs.length<=1000):El S (n+1) (b+3) (.tup (xs.map (·.1))) (.tuple (xs.map (·.2))):=
 ⟨.tup (Aoz λx hx=>(h.e x hx).1),by rw[okD,Agd λx hx=>(h.e x hx).2,decide_eq_true (by rw[aA];exact hl)];rfl,cZ h.b 3⟩
theorem El.parts(h:El S (n+1) (b+3) (.tup ws) (.tuple ds)):∃xs:List (W×bK),ws=xs.map (·.1)/\ds=xs.map (·.2)/\Els S n b xs/\xs.length<=1000:=by
 obtain⟨xs,e1,e2,q⟩:=Aot (Adz h.r);obtain⟨hl,ho⟩:=Bch (.inl h.k);refine⟨xs,e1,e2,⟨λx hx=>⟨q x hx,Aaa ho (by rw[e2];exact oV hx)⟩,?_⟩,?_⟩
 .have:=h.b;rw[e2] at this;exact Nat.le_of_add_le_add_right this
 .rw[e2,aA] at hl;exact hl
end
noncomputable def Cl.d:Cl->bK
 |.inn t=>.tuple [.str "in",.str t]
 |.out n p=>.tuple [.str "out",.int n,.int p]
def Ah2(r:Str×Cl):bK:=.tuple [.str r.1,r.2.d]
noncomputable def Pg.d:Pg->bK
 |.head a b c d=>.tuple [.str "head",.int a,.int b,.int c,.int d]
 |.leaf rs=>.tuple [.str "leaf",.tuple (rs.map Ah2)]
 |.fork ks ps=>.tuple [.str "fork",.tuple (ks.map fJ),.tuple (ps.map iC)]
 |.rest t n=>.tuple [.str "rest",.str t,.int n]
 |.free n=>.tuple [.str "free",.int n]
theorem Bkm(h:M2.G5 z=true):cY z=true:=by
 unfold cY;rw[pQ];intro c hc;have:=cG.mp h c (lG.mpr hc);unfold M2.okC at this;simp only[aC,decide_eq_true_eq] at this;rw[decide_eq_true_eq];omega
theorem Ah3(h:M2.G5 z=true)(hl:z.length<=1000):okD (.str z)=true:=by rw[okD,Bkm h,decide_eq_true hl];rfl
theorem Ah4{i:Int}(h0:-1000000<=i)(h1:i<=1000000):okD (.int i)=true:=by rw[okD,decide_eq_true h0,decide_eq_true h1];rfl
theorem Ah5{n k:Int}(h:Fd n k=true)(hk:0<=k):0<=n/\n<=4095:=by
 have:=Hc h hk;omega
theorem V0{n k:Int}(h:Fd n k=true)(hk:0<=k):okD (.int n)=true:=by
 have:=Ah5 h hk;exact Ah4 (by omega) (by omega)
theorem Am9(h:isKey k=true):okD (.str k)=true/\wt (.str k)<=122:=by
 unfold isKey at h;simp only[aC,decide_eq_true_eq] at h;exact⟨Ah3 h.1 (by omega),by show 10 * k.length+2<=122;omega⟩
theorem k_in:okD (.str "in")=true:=by decide +kernel
theorem Bkn:okD (.str "out")=true:=by decide +kernel
theorem Bl7:wt (.str "in")=22:=by decide +kernel
theorem Bko:wt (.str "out")=32:=by decide +kernel
theorem Ad2(h:Cy ds=true)(hl:ds.length<=1000):okD (.tuple ds)=true:=by rw[okD,h,decide_eq_true hl];rfl
section
variable{ns:List Int}
theorem Bkp{c:Cl}(h:c.ok=true):Rd S 1 c.w c.d/\okD c.d=true/\wt c.d<=661:=by
 cases c with
 |inn t=>
  have h:(M2.G5 t&&decide (t.length<=63))=true:=h;simp only[aC,decide_eq_true_eq] at h;refine⟨.tup (.cons (.str _) (.cons (.str _) .nil)),Ad2 ?_ (by simp),?_⟩
  .rw[Cy,Cy,Cy,k_in,Ah3 h.1 (by omega)];rfl
  .show wt (.str "in")+2+(10 * t.length+2+2+0)+3<=661;rw[Bl7];omega
 |out n p=>
  have h:(decide (1<=n)&&decide (n<=400)&&Fd p 1)=true:=h;simp only[aC,decide_eq_true_eq] at h;refine⟨.tup (.cons (.str _) (.cons (.int _) (.cons (.int _) .nil))),Ad2 ?_ (by simp),?_⟩
  .rw[Cy,Cy,Cy,Cy,Bkn,Ah4 (i:=n) (by omega) (by omega),V0 h.2 (by decide)];rfl
  .show wt (.str "out")+2+(8+2+(8+2+0))+3<=661;rw[Bko];decide
theorem Awq(h1:isKey r.1=true)(h2:r.2.ok=true):Rd S 2 (Hr r) (Ah2 r)/\okD (Ah2 r)=true/\wt (Ah2 r)<=800:=by
 obtain⟨a,b,c⟩:=Bkp (S:=S) h2;obtain⟨k1,k2⟩:=Am9 h1;refine⟨.tup (.cons (.str _) (.cons a .nil)),Ad2 ?_ (show 2<=1000 by decide),?_⟩
 .rw[Cy,Cy,Cy,k1,b];rfl
 .show wt (.str r.1)+2+(wt r.2.d+2+0)+3<=800;omega
theorem Ah6{c:Nat}:∀{ds:List bK},(∀d∈ds,wt d<=c)->wts ds<=ds.length * (c+2)
 |[],_=>dU _
 |d::ds,h=>by
  have h1:=h d aH;have h2:=Ah6 λe he=>h e (aM _ he);show wt d+2+wts ds<=(ds.length+1) * (c+2);rw[aAv];omega
theorem W6{rs:List (Str×Cl)}(h:∀r∈rs,isKey r.1=true/\r.2.ok=true)(hl:rs.length<=64):Els S 2 52000 (rs.map λr=>(Hr r,Ah2 r)):=by
 refine⟨λx hx=>?_,?_⟩
 .obtain⟨r,hr,rfl⟩:=bU.mp hx;have:=Awq (S:=S) (h r hr).1 (h r hr).2;exact⟨this.1,this.2.1⟩
 .refine aD (Ah6 (c:=800) λd hd=>?_) ?_
  .rw[bB] at hd;obtain⟨r,hr,rfl⟩:=bU.mp hd;exact(Awq (S:=S) (h r hr).1 (h r hr).2).2.2
  .rw[aA,aA];exact aD (dX 802 hl) (by decide)
theorem W7{ks:List Str}(h:∀k∈ks,isKey k=true)(hl:ks.length<=64):Els S 2 8000 (ks.map λk=>(W.str k,fJ k)):=by
 refine⟨λx hx=>?_,?_⟩
 .obtain⟨k,hk,rfl⟩:=bU.mp hx;exact⟨.str _,(Am9 (h k hk)).1⟩
 .refine aD (Ah6 (c:=122) λd hd=>?_) ?_
  .rw[bB] at hd;obtain⟨k,hk,rfl⟩:=bU.mp hd;exact(Am9 (h k hk)).2
  .rw[aA,aA];exact aD (dX 124 hl) (by decide)
theorem Ad3{ps:List Int}(h:∀p∈ps,-1000000<=p/\p<=1000000)(hl:ps.length<=66):Els S 2 1000 (ps.map λp=>(W.int p,iC p)):=by
 refine⟨λx hx=>?_,?_⟩
 .obtain⟨k,hk,rfl⟩:=bU.mp hx;exact⟨.int _,Ah4 (h k hk).1 (h k hk).2⟩
 .refine aD (Ah6 (c:=8) λd hd=>?_) ?_
  .rw[bB] at hd;obtain⟨k,hk,rfl⟩:=bU.mp hd;exact aN 8
  .rw[aA,aA];exact aD (dX 10 hl) (by decide)
theorem k_head:okD (.str "head")=true:=by decide +kernel
theorem Bg5:okD (.str "leaf")=true:=by decide +kernel
theorem Bg6:okD (.str "fork")=true:=by decide +kernel
theorem Bg7:okD (.str "rest")=true:=by decide +kernel
theorem Bg8:okD (.str "free")=true:=by decide +kernel
theorem w_head:wt (.str "head")=42:=by decide +kernel
theorem Bg9:wt (.str "leaf")=42:=by decide +kernel
theorem Bha:wt (.str "fork")=42:=by decide +kernel
theorem Bhb:wt (.str "rest")=42:=by decide +kernel
theorem Bhc:wt (.str "free")=42:=by decide +kernel
def Age{n b:Nat}(h1:Rds S n ws ds)(h2:Cy ds=true)(h3:ds.length<=1000)(h4:wts ds+3<=b):El S (n+1) b (.tup ws) (.tuple ds):=⟨.tup h1,Ad2 h2 h3,h4⟩
theorem Ah7{b:Nat}(h:Els S 2 b xs)(hl:xs.length<=1000):El S 4 (b+60) (.tup [.str "leaf",.tup (xs.map (·.1))]) (.tuple [.str "leaf",.tuple (xs.map (·.2))]):=by
 have e:=h.tup hl;refine Age (.cons (.str _) (.cons e.r .nil)) ?_ (by simp) ?_
 .rw[Cy,Cy,Cy,Bg5,e.k];rfl
 .show wt (.str "leaf")+2+(wt (.tuple (xs.map (·.2)))+2+0)+3<=b+60;have:=e.b;rw[Bg9];omega
theorem Sy{b c:Nat}(h:Els S 2 b xs)(hl:xs.length<=1000)(h':Els S 2 c ys)(hl':ys.length<=1000):El S 4 (b+c+70) (.tup [.str "fork",.tup (xs.map (·.1)),.tup (ys.map (·.1))]) (.tuple [.str "fork",.tuple (xs.map (·.2)),.tuple (ys.map (·.2))]):=by
 have e:=h.tup hl;have e':=h'.tup hl';refine Age (.cons (.str _) (.cons e.r (.cons e'.r .nil))) ?_ (by simp) ?_
 .rw[Cy,Cy,Cy,Cy,Bg6,e.k,e'.k];rfl
 .show wt (.str "fork")+2+(wt (.tuple (xs.map (·.2)))+2+(wt (.tuple (ys.map (·.2)))+2+0))+3<=b+c+70;have:=e.b;have:=e'.b;rw[Bha];omega
theorem Ao0{p:Pg}(h:p.ok):El S 4 60000 p.w p.d:=by
 cases p with
 |head a b c d=>
  refine(Age (n:=3) (b:=60000) (.cons (.str _) (.cons (.int _) (.cons (.int _) (.cons (.int _) (.cons (.int _) .nil))))) ?_ (by simp) ?_:El S 4 60000 (.tup [.str "head",.int a,.int b,.int c,.int d]) (.tuple [.str "head",.int a,.int b,.int c,.int d]))
  .rw[Cy,Cy,Cy,Cy,Cy,Cy,k_head,V0 h.1 (by decide),V0 h.2.1 (by decide),V0 h.2.2.1 (by decide),V0 h.2.2.2 (by decide)];rfl
  .show wt (.str "head")+2+(8+2+(8+2+(8+2+(8+2+0))))+3<=60000;rw[w_head];decide
 |leaf rs=>
  have e:=Ah7 (W6 (S:=S) h.2.1 (by have:=h.1;omega)) (by rw[aA];have:=h.1;omega)
  rw[bB,bB] at e;exact e.le (aN _) (by decide)
 |fork ks ps=>
  obtain⟨⟨h1,h2,h3⟩,h4,h5⟩:=h;have e:=Sy (W7 (S:=S) h2 (by omega)) (by rw[aA];omega) (Ad3 (S:=S) (ps:=ps) (λp hp=>by have:=Ah5 (h5 p hp) (by decide);omega) (by omega)) (by rw[aA];omega)
  rw[bB,bB,bB,bB] at e;exact e.le (aN _) (by decide)
 |rest t n=>
  obtain⟨h1,h2,h3,h4⟩:=h;refine(Age (n:=3) (b:=60000) (.cons (.str _) (.cons (.str _) (.cons (.int _) .nil))) ?_ (by simp) ?_:El S 4 60000 (.tup [.str "rest",.str t,.int n]) (.tuple [.str "rest",.str t,.int n]))
  .rw[Cy,Cy,Cy,Cy,Bg7,Ah3 h1 (by omega),V0 h4 (by decide)];rfl
  .show wt (.str "rest")+2+(10 * t.length+2+2+(8+2+0))+3<=60000;rw[Bhb];omega
 |free n=>
  refine(Age (n:=3) (b:=60000) (.cons (.str _) (.cons (.int _) .nil)) ?_ (by simp) ?_:El S 4 60000 (.tup [.str "free",.int n]) (.tuple [.str "free",.int n]))
  .have h:Fd n 0=true:=h;rw[Cy,Cy,Cy,Bg8,V0 h (by decide)];rfl
  .show wt (.str "free")+2+(8+2+0)+3<=60000;rw[Bhc];decide
end
section
variable{a b:Int}
theorem Ad4(h:Tn S w d)(e:Eu a b d=true):∃i,w=.int i/\a<=i/\i<=b:=by
 cases d with
 |int i=>
  have hr:=h.r;cases hr;obtain⟨h1,h2⟩:=aR.mp e;exact⟨i,rfl,of_decide_eq_true h1,of_decide_eq_true h2⟩
 |_=>cases e
theorem Ana(h:Tn S w d)(e:Fz a b d=true):∃z,w=.str z/\d=.str z/\M2.G5 z=true/\a<=(z.length:Int)/\(z.length:Int)<=b:=by
 cases d with
 |str z=>
  have hr:=h.r;cases hr;obtain⟨h1,h2⟩:=aR.mp e;obtain⟨h2,h3⟩:=aR.mp h2;exact⟨z,rfl,rfl,h1,of_decide_eq_true h2,of_decide_eq_true h3⟩
 |_=>cases e
theorem Ad5{i k:Int}(h1:k<=i)(h2:i<=4095):Fd i k=true:=by unfold Fd;rw[decide_eq_true h1,decide_eq_true h2];rfl
def Bcm:wIs (.tuple (.str z::ds)) z=true:=beq_self_eq_true z
theorem Bbc(h:Tn S w d)(e:Nb d=true):∃c:Cl,c.ok=true/\w=c.w:=by
 have hd:∃z ds,d=.tuple (.str z::ds):=by
  unfold Nb at e;split at e
  .exact⟨_,_,rfl⟩
  .cases e
 obtain⟨z,ds,rfl⟩:=hd;obtain⟨xs,rfl,e2,q,_⟩:=h.word Bcm;injection e2 with e2
 injection e2 with _ e2
 subst e2;unfold Nb at e;dsimp only at e;split at e
 .rename_i hz;obtain rfl:=eq_of_beq hz
  match xs,q,e with
  |[x],q,e=>
   obtain⟨t,h1,_,h2,h3,h4⟩:=Ana (q x aH) e;refine⟨.inn t,?_,by rw[aG,cT,h1];rfl⟩
   show (M2.G5 t&&decide (t.length<=63))=true;rw[h2,decide_eq_true (by omega)]
   rfl
 .split at e
  .rename_i hz;obtain rfl:=eq_of_beq hz
   match xs,q,e with
   |[x,y],q,e=>
    obtain⟨e1,e2⟩:=aR.mp e;obtain⟨i,h1,h2,h3⟩:=Ad4 (q x aH) e1;obtain⟨j,g1,g2,g3⟩:=Ad4 (q y (aM _ aH)) e2;refine⟨.out i j,?_,by rw[aG,aG,cT,h1,g1];rfl⟩
    show (decide (1<=i)&&decide (i<=400)&&Fd j 1)=true;rw[decide_eq_true h2,decide_eq_true h3,Ad5 g2 g3];rfl
  .cases e
theorem Ao1:∀{xs:List (W×bK)},(∀x∈xs,Tn S x.1 x.2)->(xs.map (·.2)).all Rw=true->((xs.map (·.2)).map Am4).all (Fz 1 12)=true->∃rs:List (Str×Cl),xs.map (·.1)=rs.map Hr/\(∀r∈rs,isKey r.1=true/\r.2.ok=true)/\((xs.map (·.2)).map Am4).filterMap Abe=rs.map (·.1)/\rs.length=xs.length
 |[],_,_,_=>⟨[],rfl,(λ_ h=>(nomatch h)),rfl,rfl⟩
 |(w,d)::xs,h,e1,e2=>by
  rw[aG,bY,aC] at e1;rw[aG,aG,bY,aC] at e2;obtain⟨rs,h1,h2,h3,h4⟩:=Ao1 (λx hx=>h x (aM _ hx)) e1.2 e2.2
  obtain⟨k,v,rfl,rfl,hk,hv⟩:=Awf (h (w,d) aH) e1.1;obtain⟨z,g1,g2,g3,g4,g5⟩:=Ana hk e2.1;obtain⟨c,hc,e⟩:=Bbc hv e1.1;have hz:isKey z=true:=by
   unfold isKey;rw[g3,decide_eq_true (by omega),decide_eq_true (by omega)]
   rfl
  refine⟨(z,c)::rs,?_,λr hr=>?_,?_,by rw[aU,aU,h4]⟩
  .rw[aG,aG,h1];show W.tup [k.1,v.1]::_=W.tup [.str z,c.w]::_;rw[g1,e]
  .rcases bF.mp hr with rfl|hr
   .exact⟨hz,hc⟩
   .exact h2 r hr
  .rw[aG,aG,aG,<-h3];show List.filterMap Abe (k.2::_)=_;rw[g2];rfl
theorem ints_of{k:Int}:∀{xs:List (W×bK)},(∀x∈xs,Tn S x.1 x.2)->(xs.map (·.2)).all (Eu k 4095)=true->∃ps:List Int,xs.map (·.1)=ps.map W.int/\(∀p∈ps,Fd p k=true)/\ps.length=xs.length
 |[],_,_=>⟨[],rfl,(λ_ h=>(nomatch h)),rfl⟩
 |(w,d)::xs,h,e=>by
  rw[aG,bY,aC] at e;obtain⟨ps,h1,h2,h3⟩:=ints_of (λx hx=>h x (aM _ hx)) e.2
  obtain⟨i,g1,g2,g3⟩:=Ad4 (h (w,d) aH) e.1;refine⟨i::ps,by rw[aG,aG,h1,g1],λp hp=>?_,by rw[aU,aU,h3]⟩
  rcases bF.mp hp with rfl|hp
  .exact Ad5 g2 g3
  .exact h2 p hp
theorem Arw(h:Tn S w d)(e:Jj d=true):∃p:Pg,p.ok/\w=p.w:=by
 have hd:∃z ds,d=.tuple (.str z::ds):=by
  unfold Jj at e;split at e
  .exact⟨_,_,rfl⟩
  .cases e
 obtain⟨z,ds,rfl⟩:=hd;obtain⟨xs,rfl,e2,q,_⟩:=h.word Bcm;injection e2 with e2
 injection e2 with _ e2
 subst e2;rw[Gq] at e;split at e
 .rename_i hz;obtain rfl:=eq_of_beq hz;obtain⟨e1,e2⟩:=aR.mp e;obtain⟨ps,h1,h2,h3⟩:=ints_of q e2;have hl:ps.length=4:=by rw[h3];have:=of_decide_eq_true e1;rw[aA] at this;exact this
  rw[h1]
  match ps,h2,hl with
  |[a,b,c,d],h2,_=>exact⟨.head a b c d,⟨h2 a (by simp),h2 b (by simp),h2 c (by simp),h2 d (by simp)⟩,rfl⟩
 split at e
 .rename_i hz;obtain rfl:=eq_of_beq hz
  match xs,q,e with
  |[x],q,e=>
   have hx:=q x aH;obtain⟨u,c⟩:=x;cases c with
   |tuple rs=>
    obtain⟨ws,rfl⟩:=hx.tup_of;obtain⟨ys,rfl,rfl,qy,_⟩:=hx.parts;have e:(decide ((ys.map (·.2)).length<=63)&&(ys.map (·.2)).all Rw&&Rv ((ys.map (·.2)).map Am4))=true:=e;rw[aC,aC] at e;obtain⟨⟨e1,e2⟩,e3⟩:=e;obtain⟨e3,e4⟩:=aR.mp e3;obtain⟨rs,h1,h2,h3,h4⟩:=Ao1 qy e2 e3;have e1:=of_decide_eq_true e1;rw[aA] at e1;refine⟨.leaf rs,⟨by omega,h2,by rw[<-h3];exact e4⟩,?_⟩
    rw[aG,cT,h1];rfl
   |_=>cases e
 split at e
 .rename_i hz;obtain rfl:=eq_of_beq hz
  match xs,q,e with
  |[x,y],q,e=>
   have hx:=q x aH;have hy:=q y (aM _ aH);obtain⟨e1,e2⟩:=aR.mp e;obtain⟨u,c⟩:=x;obtain⟨v,c'⟩:=y;cases c with
   |tuple ks=>
    cases c' with
    |tuple ps=>
     obtain⟨ws,rfl⟩:=hx.tup_of;obtain⟨ys,rfl,rfl,qy,_⟩:=hx.parts;obtain⟨ws,rfl⟩:=hy.tup_of;obtain⟨zs,rfl,rfl,qz,_⟩:=hy.parts;obtain⟨f1,f2⟩:=aR.mp e1;obtain⟨f2,f3⟩:=aR.mp f2;obtain⟨f4,f5⟩:=aR.mp e2;obtain⟨g1,g2⟩:=Sv qy f2;obtain⟨ps,k1,k2,k3⟩:=ints_of qz f5;have hlen:((ys.map (·.2)).filterMap Abe).length=ys.length:=by have:=congrArg mW g1;rw[aA,aA] at this;exact this.symm
     have f1:=of_decide_eq_true f1;have f4:=of_decide_eq_true f4;rw[aA] at f1 f4;have f4:zs.length=(ys.map (·.2)).length+1:=f4;rw[aA] at f4;refine⟨.fork ((ys.map (·.2)).filterMap Abe) ps,⟨⟨by omega,g2,f3⟩,by omega,k2⟩,?_⟩
     rw[aG,aG,cT,g1,k1];rfl
    |_=>cases e2
   |_=>cases e1
 split at e
 .rename_i hz;obtain rfl:=eq_of_beq hz
  match xs,q,e with
  |[x,y],q,e=>
   obtain⟨e1,e2⟩:=aR.mp e;obtain⟨t,g1,_,g3,g4,g5⟩:=Ana (q x aH) e1;obtain⟨i,h1,h2,h3⟩:=Ad4 (q y (aM _ aH)) e2;refine⟨.rest t i,⟨g3,by omega,by omega,Ad5 h2 h3⟩,?_⟩
   rw[aG,aG,cT,g1,h1];rfl
 split at e
 .rename_i hz;obtain rfl:=eq_of_beq hz
  match xs,q,e with
  |[x],q,e=>
   obtain⟨i,h1,h2,h3⟩:=Ad4 (q x aH) e;refine⟨.free i,Ad5 h2 h3,?_⟩;rw[aG,cT,h1];rfl
 .cases e
end
def Good(S:Store)(n b:Nat)(t:W):Prop:=∃d,El S n b t d
section
variable{n m b b' k:Nat}{ns:List Int}
theorem Good.fr0(h:Good S n b t)(f:Fr [] S S'):Good S' n b t:=by obtain⟨d,h⟩:=h;exact⟨d,h.fr0 f⟩
theorem Good.le(h:Good S n b t)(hn:n<=m)(hb:b<=b'):Good S m b' t:=by obtain⟨d,h⟩:=h;exact⟨d,h.le hn hb⟩
theorem Bbd{a:Nat}(ha:S[a]?=some (.lst ws))(hl:ws.length * 2<=big)(q:Q (.ref S.length) (S ++ [.lst (ws ++ ws)])):Wm (Bop.fn .mul (.ref a) (.int 2)) S Q:=⟨_,_,by
 show Ag2 (.ref a) (.int 2) S=.ok (.ref S.length) (S ++ [.lst (ws ++ ws)]);unfold Ag2;dsimp only;rw[ha];dsimp only;rw[if_pos (by rw[aC,aC];exact⟨⟨by decide,by decide⟩,decide_eq_true hl⟩)]
 show R.ok _ (S ++ [.lst (ws ++ (ws ++ []))])=_;rw[bJ],q⟩
noncomputable def Bbe(r:Nat):List W:=[.non,.bl true,.int 5,.int (-1),.int 4096,.str "",.str "a\tb",.str "abcdefghijklm",.tup [],.ref r,.tup [.str "in",.str "x"],.tup [.str "in",.int 5],.tup [.str "out",.int 0,.int 1]]
noncomputable def Aex:List W:=[.tup [.str "out",.int 401,.int 1],.tup [.str "out",.int 1,.int 0],.tup [.str "out",.int 5,.bl true],.tup [.str "on",.str "x"],.str (tW "x" 401),.str (tW "x" 64),.str "leaf"]
def good_str(h:okD (.str z)=true)(hw:wt (.str z)<=5000):Good S 2 5000 (.str z):=⟨_,.str _,h,hw⟩
def Jg(h1:Rds S 1 ws ds)(h2:Cy ds=true)(h3:wts ds+3<=5000)(h4:ds.length<=1000):Good S 2 5000 (.tup ws):=⟨_,Age h1 h2 h4 h3⟩
theorem Arx{r:Nat}(h:S[r]?=some (.lst [])):∀t∈Bbe r,Good S 2 5000 t:=by
 intro t ht;unfold Bbe at ht;simp only[bF,bT,or_false] at ht;rcases ht with rfl|rfl|rfl|rfl|rfl|rfl|rfl|rfl|rfl|rfl|rfl|rfl|rfl
 .exact⟨_,.non,rfl,by decide⟩
 .exact⟨_,.bl _,rfl,by decide⟩
 .exact⟨_,.int _,by decide,by decide⟩
 .exact⟨_,.int _,by decide,by decide⟩
 .exact⟨_,.int _,by decide,by decide⟩
 .exact good_str (by decide +kernel) (by decide +kernel)
 .exact good_str (by decide +kernel) (by decide +kernel)
 .exact good_str (by decide +kernel) (by decide +kernel)
 .exact Jg .nil rfl (by decide) (by decide)
 .exact⟨.list [],.lst h .nil,rfl,by decide⟩
 .exact Jg (.cons (.str _) (.cons (.str _) .nil)) (by decide +kernel) (by decide +kernel) (by decide)
 .exact Jg (.cons (.str _) (.cons (.int _) .nil)) (by decide +kernel) (by decide +kernel) (by decide)
 .exact Jg (.cons (.str _) (.cons (.int _) (.cons (.int _) .nil))) (by decide +kernel) (by decide +kernel) (by decide)
theorem Ary:∀t∈Aex,Good S 2 5000 t:=by
 intro t ht;unfold Aex at ht;simp only[bF,bT,or_false] at ht;rcases ht with rfl|rfl|rfl|rfl|rfl|rfl|rfl
 .exact Jg (.cons (.str _) (.cons (.int _) (.cons (.int _) .nil))) (by decide +kernel) (by decide +kernel) (by decide)
 .exact Jg (.cons (.str _) (.cons (.int _) (.cons (.int _) .nil))) (by decide +kernel) (by decide +kernel) (by decide)
 .exact Jg (.cons (.str _) (.cons (.int _) (.cons (.bl _) .nil))) (by decide +kernel) (by decide +kernel) (by decide)
 .exact Jg (.cons (.str _) (.cons (.str _) .nil)) (by decide +kernel) (by decide +kernel) (by decide)
 .exact good_str (by decide +kernel) (by decide +kernel)
 .exact good_str (by decide +kernel) (by decide +kernel)
 .exact good_str (by decide +kernel) (by decide +kernel)
theorem Bbf:Good S 2 5000 (.tup [.str "in"]):=Jg (.cons (.str _) .nil) (by decide +kernel) (by decide +kernel) (by decide)
theorem Ao2{i:Int}(h:atI ws i=some t):t∈ws:=by
 obtain⟨j,_,h⟩:=Option.bind_eq_some_iff.mp h;exact gU h
theorem Ao3{i:Int}(h:0 < ws.length):∃t,atI ws (i % (ws.length:Int))=some t:=by
 have h1:=gH i (show (ws.length:Int)≠0 by omega)
 have h2:=gM i (show (0:Int) < ws.length by omega)
 refine⟨ws[(i % (ws.length:Int)).toNat]'(by omega),?_⟩
 unfold atI;rw[Av5 h1 h2];exact aW _
end
section
variable{n m b b' k:Nat}{ns:List Int}
theorem Bbg{m:Int}(h1:z.length<=16)(h2:0<=m)(h3:m<=1048576):Pu P (Bop.fn .mul (.str z) (.int m)) (.str (tW z m)):=Lw (by rw[decide_eq_true h1,decide_eq_true h2,decide_eq_true h3];rfl) Pu.pure
theorem Ao4{m:Int}(h2:0<=m)(h3:m<=1048576):Pu P (Ai .mul (kS "x") (kI m) Z) (.str (tW "x" m)):=Aj Ad Ad (Bbg (by decide) h2 h3)
theorem Ah8:Pu P (Cm (yB (kF a) (kF c)) Z) (.tup [a,c]):=Dj (Aa Ad (Aa Ad Ac)) (show 2<=big by decide)
theorem Aac:Pu P (Cm (yC (kF a) (kF c) (kF e)) Z) (.tup [a,c,e]):=Dj (Aa Ad (Aa Ad (Aa Ad Ac))) (show 3<=big by decide)
theorem Awr(ws:List W):Mg ws (some (-1)) none=ws.drop (ws.length - 1):=by
 unfold Mg HT.sIx;dsimp only;rw[if_pos (by decide),show ((-1:Int)+(ws.length:Int)).toNat=ws.length - 1 by omega,iI (by rw[cD];exact aN _)]
theorem Aws(ws:List W):Mg ws none (some (-1))=ws.take (ws.length - 1):=by
 unfold Mg HT.sIx;dsimp only;rw[if_pos (by decide),show ((-1:Int)+(ws.length:Int)).toNat=ws.length - 1 by omega,iZ,rK]
theorem Tc(hl:xs.length+ys.length<=big):Pu P (Bop.fn .add (.tup xs) (.tup ys)) (.tup (xs ++ ys)):=by
 show Pu P (addW (.tup xs) (.tup ys)) _;unfold addW;dsimp only;cases xs with
 |nil=>exact Pu.pure
 |cons x xs=>
  rw[if_neg (by simp)]
  exact Lw hl Pu.pure
def Bhd(h:Pu P (f Z) (.tup ws)):Pu P (Ayt f Z) (.tup ws.reverse):=h.bind Pu.pure
theorem Ah9:∀{l l':List bK},l.Sublist l'->wts l<=wts l'
 |_,_,.slnil=>aN _
 |_,_,.cons a h=>aD (Ah9 h) (by show wts _<=wt a+2+wts _;omega)
 |_,_,.cons₂ a h=>by
  show wt a+2+wts _<=wt a+2+wts _;have:=Ah9 h;omega
theorem Ao5:∀l:List bK,wts l.reverse=wts l
 |[]=>rfl
 |d::l=>by
  rw[lB,Sx,Ao5 l];show wts l+(wt d+2+0)=wt d+2+wts l;omega
def Els.sub(h:Els S n b xs)(hs:ys.Sublist xs):Els S n b ys:=⟨λy hy=>h.e y (hs.subset hy),aD (Ah9 (hs.map _)) h.b⟩
theorem Els.app(h:Els S n b xs)(h':Els S n b' ys):Els S n (b+b') (xs ++ ys):=⟨λy hy=>by
 rcases bW.mp hy with hy|hy
 .exact h.e y hy
 .exact h'.e y hy,by rw[cX,Sx];exact tD h.b h'.b⟩
theorem Els.rev(h:Els S n b xs):Els S n b xs.reverse:=⟨λy hy=>h.e y (wV.mp hy),by rw[wX,Ao5];exact h.b⟩
def Els.up(h:Els S n b xs)(hn:n<=m)(hb:b<=b'):Els S m b' xs:=⟨λy hy=>⟨(h.e y hy).1.up hn,(h.e y hy).2⟩,aD h.b hb⟩
def Els.good(h:Els S n b xs)(hl:xs.length<=1000):Good S (n+1) (b+3) (.tup (xs.map (·.1))):=⟨_,h.tup hl⟩
def Els.fr0(h:Els S n b xs)(f:Fr [] S S'):Els S' n b xs:=⟨λx hx=>⟨Akv (h.e x hx).1 f,(h.e x hx).2⟩,h.b⟩
theorem okL(h:okD (.tuple ds)=true):okD (.list ds)=true:=by
 rw[okD] at h;rw[okD];exact h
mutual
def smD:bK->Bool
 |.tuple ds=>decide (ds.length<=500)&&Mf ds
 |_=>true
def Mf:List bK->Bool
 |[]=>true
 |d::ds=>smD d&&Mf ds
end
theorem Agf:∀{ds:List bK} {d:bK},Mf ds=true->d∈ds->smD d=true
 |e::ds,d,h,m=>by
  rw[Mf,aC] at h;rcases bF.mp m with rfl|m
  .exact h.1
  .exact Agf h.2 m
theorem Td{α:Type}{f:α->bK}(h:∀a,smD (f a)=true):∀l:List α,Mf (l.map f)=true
 |[]=>rfl
 |a::l=>by rw[aG,Mf,h a,Td h l];rfl
theorem Ad6(h:ds.length<=500)(h2:Mf ds=true):smD (.tuple ds)=true:=by rw[smD,decide_eq_true h,h2];rfl
theorem Bbh{p:Pg}(h:p.ok):smD p.d=true:=by
 cases p with
 |leaf rs=>
  refine Ad6 (by simp) ?_
  rw[Mf,Mf,Mf,Ad6 (ds:=rs.map Ah2) (by rw[aA];have:=h.1;omega) (Td (λr=>by obtain⟨k,c⟩:=r;cases c <;> rfl) rs)]
  rfl
 |fork ks ps=>
  obtain⟨⟨h1,_⟩,h4,_⟩:=h;refine Ad6 (by simp) ?_
  rw[Mf,Mf,Mf,Mf,Ad6 (ds:=ks.map fJ) (by rw[aA];omega) (Td (λ_=>rfl) ks),Ad6 (ds:=ps.map iC) (by rw[aA];omega) (Td (λ_=>rfl) ps)]
  rfl
 |_=>rfl
theorem Akw{i:Int}{ws:List W}{r:Nat}{x1:Option W}{T:Store}{b':MS}(hr:S[r]?=some (.lst ws))(hl:0 < ws.length/\ws.length<=big)(f:Fr [] T S)(g:∀t∈ws,Good S n b t):
  Wb (An (retS (aD8 ns)) b') [some (.int i),x1,some (.ref r)] S (Xl λt S'=>Fr [] T S'/\Good S' n b t):=by
 obtain⟨t,ht⟩:=Ao3 (i:=i) hl.1;refine Iw (Avf (Ec rfl ?_));refine Iv (Ec rfl ?_);refine Et (Bu (Ec rfl (Ek ?_)));refine Aog hr ?_;refine Cr (P:=SP.any) (Cd (by omega)) trivial λS1 f1=>?_
 refine Ame (f1.at0 hr) ht ?_;exact⟨f.then0 f1,(g t (Ao2 ht)).fr0 f1⟩
theorem Bhe{i:Int}(h:El S n (b+3) w d)(hs:smD d=true)(hn:2<=n)(hi:0<=i):Wm (Gd ns [.int i,w]) S λt S'=>Fr [] S S'/\Good S' n (2 * b+5003) t:=by
 apply Mj (ws:=[.int i,w]) rfl;refine Cw ⟨.ref (S ++ [Cell.lst []]).length,S ++ [Cell.lst []] ++ [Cell.lst (Bbe S.length)],rfl,?_⟩;have f0:Fr [] S (S ++ [Cell.lst []]):=Fr.app;have gA:=Arx (S:=S ++ [Cell.lst []]) (r:=S.length) Fo;generalize hoA:Bbe S.length=lA at gA;have lA13:lA.length=13:=by rw[<-hoA];rfl
 generalize S ++ [Cell.lst []]=T at f0 gA;have f1:Fr [] T (T ++ [Cell.lst lA]):=Fr.app;have hA:(T ++ [Cell.lst lA])[T.length]?=some (.lst lA):=Fo;generalize T ++ [Cell.lst lA]=S1 at f1 hA;refine Cw (Iv (Ec rfl (Hq (P:=SP.any) (ws:=Aex) (Ge (Aa Aac (Aa Aac (Aa Aac (Aa Ah8 (Aa (Ao4 (by decide) (by decide)) (Aa (Ao4 (by decide) (by decide)) (Aa Ad Ac))))))) (show 7<=big by decide)) trivial λrB S2 f2 hB hlB=>Ahj (f2.at0 hA) hB (by rw[lA13];exact(by decide:13+7<=big)) ?_)))
 have f3:Fr [] T (S2 ++ [Cell.lst (lA ++ Aex)]):=(f1.then0 f2).then0 Fr.app;have hC:(S2 ++ [Cell.lst (lA ++ Aex)])[S2.length]?=some (.lst (lA ++ Aex)):=Fo;have gC:∀t∈lA ++ Aex,Good T 2 5000 t:=λt ht=>by
  rcases bW.mp ht with ht|ht
  .exact gA t ht
  .exact Ary t ht
 have hlC:T.length<=S2.length:=(f1.then0 f2).len;generalize S2 ++ [Cell.lst (lA ++ Aex)]=S3 at f3 hC;generalize S2.length=rC at hC hlC;have l20:(lA ++ Aex).length=20:=by rw[aK,lA13];rfl
 generalize lA ++ Aex=lC at hC gC l20;refine Wf (Abr (P:=SP.any) (Af rfl) trivial hC λS4 f4=>Bu (Cr (P:=SP.any) (Dj (Aa Ad Ac) (show 1<=big by decide)) trivial λS5 f5=>Ek (Xk (f5.at0 (f4.at0 hC)) (by rw[l20];decide) ?_)))
 have f6:Fr [] T (S5.set rC (.lst (lC ++ [W.tup [.str "in"]]))):=Am7 ((f3.then0 f4).then0 f5) hlC;have hD:(S5.set rC (.lst (lC ++ [W.tup [.str "in"]])))[rC]?=some (.lst (lC ++ [W.tup [.str "in"]])):=Qw (Fy (f5.at0 (f4.at0 hC)));have gD:∀t∈lC ++ [W.tup [.str "in"]],Good T 2 5000 t:=λt ht=>by
  rcases bW.mp ht with ht|ht
  .exact gC t ht
  .rw[bA.mp ht];exact Bbf
 have l21:(lC ++ [W.tup [.str "in"]]).length=21:=by rw[aK,l20];rfl
 generalize S5.set rC (.lst (lC ++ [W.tup [.str "in"]]))=S6 at f6 hD;generalize lC ++ [W.tup [.str "in"]]=lD at hD gD l21;by_cases ht:Acn (tyD d) "tuple"=true
 .cases d with
  |tuple ds=>
   have h6:=h.fr0 (f0.then0 f6);obtain⟨n',rfl⟩:∃n',n=n'+1:=⟨n - 1,by omega⟩
   have hw:∃ws,w=.tup ws:=by cases h.r with|tup r=>exact⟨_,rfl⟩
   obtain⟨ws,rfl⟩:=hw;obtain⟨xs,rfl,rfl,q,hl⟩:=h6.parts;have hbig:(xs.map (·.1)).length<=big:=by rw[aA];exact aD hl (by decide)
   refine K7 (Cr (P:=SP.any) (Ag (Ae (Aa (Af rfl) (Aa Ad Ac)) Em)) trivial λS7 f7=>⟨rfl,?_⟩);have neg1:∀{Z:De},Pu SP.any (Aen (kI 1) Z) (.int (-1)):=Aht Ad;have hl2:(xs.map (·.1)).length+((xs.map (·.1)).drop ((xs.map (·.1)).length - 1)).length<=big:=by
    rw[cD,aA];exact aD (show xs.length+(xs.length - (xs.length - 1))<=2000 by omega) (by decide)
   refine Cw (Iv (Ec rfl ?_));refine Iv (Amc ?_);refine Bu ?_;refine Abq (P:=SP.any) (ws:=[.tup (xs.map (·.1))]) (Aa (Af rfl) Ac) trivial λS8 f8=>?_;refine(Xj (ws:=xs.map (·.1)) hbig ?_:Wm (Ck (xs.map (·.1))) S8 _);refine Bu ?_;refine Cr (P:=SP.any) (a:=.tup (xs.map (·.1) ++ (xs.map (·.1)).drop ((xs.map (·.1)).length - 1))) (Aj (Af rfl) (Ho (Af rfl) (Dz neg1) Dk Pu.pure) (by rw[Awr];exact Tc hl2)) trivial λS9 f9=>?_
   refine Bu ?_;refine Cr (P:=SP.any) (a:=.tup ((xs.map (·.1)).take ((xs.map (·.1)).length - 1))) (Ho (Af rfl) Dk (Dz neg1) (by rw[<-Aws];exact Pu.pure)) trivial λS10 f10=>?_
   refine Bu ?_;refine Cr (P:=SP.any) (a:=.tup (xs.map (·.1)).reverse) (Bhd (Af rfl)) trivial λS11 f11=>?_;refine Ek ⟨show 4<=big by decide,?_⟩
   refine Xi ?_;refine Bbd Fo (show 4 * 2<=big by decide) ?_
   have f8':Fr [] S8 (S8 ++ [Cell.lst (xs.map (·.1))]):=Fr.app;have hL:(S8 ++ [Cell.lst (xs.map (·.1))])[S8.length]?=some (.lst (xs.map (·.1))):=Fo;generalize S8 ++ [Cell.lst (xs.map (·.1))]=S8' at f8' hL f9;have fT:Fr [] T S11:=((((f6.then0 f7).then0 f8).then0 f8').then0 f9).then0 (f10.then0 f11);have f611:Fr [] S6 S11:=(((f7.then0 f8).then0 f8').then0 f9).then0 (f10.then0 f11);have hL:=f11.at0 (f10.at0 (f9.at0 hL));refine Ahj (Hm (Hm (f611.at0 hD))) Fo (by rw[l21];exact(by decide:21+8<=big)) ?_
   refine Hh ?_;generalize hfour:[W.ref S8.length,.tup (xs.map (·.1) ++ (xs.map (·.1)).drop ((xs.map (·.1)).length - 1)),.tup ((xs.map (·.1)).take ((xs.map (·.1)).length - 1)),.tup (xs.map (·.1)).reverse]=four;have lf:four.length=4:=by rw[<-hfour];rfl
   have fe:Fr [] S11 (S11 ++ [Cell.lst four] ++ [Cell.lst (four ++ four)] ++ [Cell.lst (lD ++ (four ++ four))]):=(Fr.app.then0 Fr.app).then0 Fr.app;have g4:∀t∈four,Good S11 (n'+1) (2 * b+5003) t:=by
    intro t ht;have q:=q.fr0 f611;rw[<-hfour] at ht;simp only[bF,bT,or_false] at ht;rcases ht with rfl|rfl|rfl|rfl
    .have e:=(h6.fr0 f611);exact⟨.list (xs.map (·.2)),.lst hL (Adz e.r),okL e.k,aD e.b (by omega)⟩
    .rw[<-iM,<-cX,aA];exact((q.app (q.sub (lE _ _))).good (by have:=of_decide_eq_true (aR.mp hs).1;rw[aA] at this;rw[aK,cD];omega)).le (aN _) (by omega)
    .rw[<-nY];exact((q.sub (kZ _ _)).good (aD (oW _ _) (by rw[aA];omega))).le (aN _) (by omega)
    .rw[<-wX];exact(q.rev.good (by rw[oR];exact hl)).le (aN _) (by omega)
   refine Akw (ws:=lD ++ (four ++ four)) Fo (by rw[aK,aK,l21,lf];exact⟨by decide,by decide⟩) (f0.then0 (fT.then0 fe)) λt ht=>?_
   rcases bW.mp ht with ht|ht
   .exact((gD t ht).fr0 (fT.then0 fe)).le hn (by omega)
   .rcases bW.mp ht with ht|ht
    .exact(g4 t ht).fr0 fe
    .exact(g4 t ht).fr0 fe
  |_=>cases ht
 .have ht:=bI.mpr ht;have h6:=h.fr0 (f0.then0 f6);refine Fp (Cr (P:=Al S6) (Ag (Ae (Aa (Af rfl) (Aa Ad Ac)) (Gp h6.r (by decide)))) Eo λS7 f7=>⟨ht,?_⟩)
  refine Akw (f7.at0 hD) (by rw[l21];exact⟨by decide,by decide⟩) (f0.then0 (f6.then0 f7)) λt ht=>((gD t ht).fr0 (f6.then0 f7)).le hn (by omega)
end
theorem Ad7{j:Nat}(h:j<=ws.length):Mg ws none (some (j:Int))=ws.take j:=by
 unfold Mg HT.sIx;dsimp only;rw[if_neg (by omega),cV,oN h,rK,iZ]
theorem Ad8{j:Nat}(h:j<=ws.length):Mg ws (some (j:Int)) none=ws.drop j:=by
 unfold Mg HT.sIx;dsimp only;rw[if_neg (by omega),cV,oN h,iI (by rw[cD];exact aN _)]
def spB(ns:List Int)(e:De->M W):MS:=(An (Br 2 (zA (Bs ns) (Ab 0)))
 (An (aA0 ns)
 (An (aB0 ns)
 (rQ (Ai .add (Ai .add (slF ns (Ab 1) Bd (Bv (Ab 3))) (Cm (yA e))) (slF ns (Ab 1) (Bv (Ai .add (Ab 3) (kI 1))) Bd))))))
def inF(ns:List Int)(g:List W->M W):De->M W:=Cp g (yB (Ab 0) (ixF ns (Ab 1) (Ab 3)))
def Spo(n j:Nat)(k:Int)(S:Store)(d:bK):W->Store->Prop:=λt S'=>∃k',Fr [n] S S'/\S'[n]?=some (stD k')/\k<=k'/\k'<=k+(j+1:Nat)/\Good S' (j+2) (3 * wt d+6000) t
def Bbi(n j:Nat)(g:List W->M W):Prop:=∀{S:Store} {k:Int} {w:W} {d:bK},El S j (wt d) w d->smD d=true->S[n]?=some (stD k)->0<=k->k+(j+1:Nat)<=900000->Wm (g [.ref n,w]) S (Spo n j k S d)
section
variable{n j:Nat}{k:Int}{ns:List Int}
theorem Awt{i:Int}(hi:0<=i)(f:Fr [n] S0 S)(h:El S j (wt d) w d)(hs:smD d=true)(hk:S[n]?=some (stD (k+1))):
  Wb (An (retS (zB (Gd ns) (Ai .fdiv (Ab 2) (kI 4)) (Ab 1))) b') [some (.ref n),some w,some (.int i),x3] S (Hu b'' (Xl (Spo n j k S0 d))):=by
 refine Iw (Abq (P:=SP.any) (Aa (Aj (Af rfl) Ad Cu) (Aa (Af rfl) Ac)) trivial λS1 f1=>?_);refine Cz (Bhe ((h.fr0 f1).le (iQ j 2) (iQ _ 3)) hs (Nat.le_add_left 2 j) (xQ hi (by decide))) λt S2 zz=>?_
 obtain⟨f2,g⟩:=zz;exact⟨k+1,f.then0 (f1.then0 f2),(f1.then0 f2).at0 hk,by omega,by omega,g.le (aN _) (by omega)⟩
theorem W8(hj:j+1<=8)(hin:Bbi n j g):Bbi n (j+1) (Dh 2 4 (spB ns (inF ns g))):=by
 intro S k w d h hs hS h0 hk;apply Mj (ws:=[.ref n,w]) rfl;refine Cw (Je rfl hS h0 (by omega) λi S1 f1 hS1 hi=>?_)
 have h1:=h.frn f1 hS;by_cases hc:(!Acn (tyD d) "tuple"||(match d with|.tuple ds=>ds.isEmpty|_=>true)||i % 4==0)=true
 .refine K7 (Cr (P:=Al S1) (a:=true) ?_ Eo λS2 f2=>⟨rfl,Awt hi (f1.then0 f2) (h1.fr0 f2) hs (f2.at0 hS1)⟩);have ti:=Gp (t:="tuple") (S0:=S1) h1.r (by decide)
  cases d with
  |tuple ds=>
   obtain⟨ws,rfl⟩:∃ws,w=.tup ws:=by cases h.r with|tup r=>exact⟨_,rfl⟩
   refine Ga ((Az (Ag (Ae (Aa (Af rfl) (Aa Ad Ac)) ti))).cast rfl) ?_;refine(Ej (Ag (Ah (Af rfl) (Dj Ac (by decide)) (W4 (S0:=S1) ⟨h1.r.up hj,.inl h1.k⟩))) (Ag (Ah (Aj (Af rfl) Ad Cd) Ad Ff))).cast ?_
   exact hc
  |_=>exact Jk ((Az (Ag (Ae (Aa (Af rfl) (Aa Ad Ac)) ti))).cast rfl)
 .have hc:=bI.mpr hc;rw[tM,tM] at hc;obtain⟨⟨c1,c2⟩,c3⟩:=hc;cases d with
  |tuple ds=>
   obtain⟨ws,rfl⟩:∃ws,w=.tup ws:=by cases h.r with|tup r=>exact⟨_,rfl⟩
   have c2:ds.isEmpty=false:=c2;refine Fp (Cr (P:=Al S1) (a:=false) ?_ Eo λS2 f2=>⟨rfl,?_⟩)
   .refine Ga ((Az (Ag (Ae (Aa (Af rfl) (Aa Ad Ac)) Em))).cast rfl) ?_;refine(Ej (Ag (Ah (Af rfl) (Dj Ac (by decide)) (W4 (S0:=S1) ⟨h1.r.up hj,.inl h1.k⟩))) (Ag (Ah (Aj (Af rfl) Ad Cd) Ad Ff))).cast ?_
    rw[c2,c3];rfl
   have h2:=h1.fr0 f2;have hw:wt (.tuple ds)=wts ds+3:=rfl;rw[hw] at h2;obtain⟨xs,rfl,rfl,q,hl⟩:=h2.parts;have hpos:0 < xs.length:=by cases xs with|nil=>cases c2|cons _ _=>exact wB _
   have hL:((xs.map (·.1)).length:Int)=(xs.length:Int):=by rw[aA]
   have m1:=gH (i / 4) (show (xs.length:Int)≠0 by omega)
   have m2:=gM (i / 4) (show (0:Int) < xs.length by omega)
   obtain⟨a,ha⟩:∃a:Nat,i / 4 % (xs.length:Int)=(a:Int):=⟨(i / 4 % (xs.length:Int)).toNat,by omega⟩
   have hal:a < xs.length:=by omega
   refine Cw (Cr (P:=SP.any) (a:=.int (a:Int)) ((Aj (Aj (Af rfl) Ad Cu) (Ae (Aa (Af rfl) Ac) Bh) (Cd (by rw[hL];omega))).cast (by rw[hL,ha])) trivial λS3 f3=>?_)
   have hx:xs[a]?=some xs[a]:=aW hal;have hm:xs[a]∈xs:=lZ hal;generalize xs[a]=x at hx hm;refine Iw ?_;refine Iv ?_;refine Iv ?_;refine Cr (P:=SP.any) (a:=.tup ((xs.map (·.1)).take a)) (Ho (Af rfl) Dk (Dz (Af rfl)) (by rw[<-Ad7 (by rw[aA];omega)];exact Pu.pure)) trivial λS4 f4=>?_
   refine Amd (Bu ?_);refine Abq (P:=SP.any) (ws:=[.ref n,x.1]) (Aa (Af rfl) (Aa (Av (Af rfl) (Af rfl) (Ak (Abf (by rw[cB,hx];rfl)))) Ac)) trivial λS5 f5=>?_
   have f25:=(f3.then0 f4).then0 f5;have hxe:El S5 j (wt x.2) x.1 x.2:=⟨Akv (q.e x hm).1 f25,(q.e x hm).2,aN _⟩;refine Cz (hin hxe (Agf (aR.mp hs).2 (oV hm)) ((f2.then0 f25).at0 hS1) (by omega) (by omega)) λt S6 zz=>?_
   obtain⟨k',f6,hk6,b1,b2,t',ht⟩:=zz;refine Ek ⟨show 1<=big by decide,?_⟩
   refine Cr (P:=SP.any) (a:=.tup ((xs.map (·.1)).take a ++ [t])) (Tc ?_) trivial λS7 f7=>?_
   .rw[eQ,aA];exact aD (show min a xs.length+1<=1001 by omega) (by decide)
   refine Cr (P:=SP.any) (a:=.tup ((xs.map (·.1)).drop (a+1))) (Ho (Af rfl) (Dz (Aj (Af rfl) Ad Di)) Dk (by rw[<-Ad8 (j:=a+1) (by rw[aA];omega)];exact Pu.pure)) trivial λS8 f8=>?_
   refine Cr (P:=SP.any) (a:=.tup ((xs.map (·.1)).take a ++ [t] ++ (xs.map (·.1)).drop (a+1))) (Tc ?_) trivial λS9 f9=>?_
   .rw[aK,eQ,cD,aA];exact aD (show min a xs.length+[t].length+(xs.length - (a+1))<=1001 by rw[cC];omega) (by decide)
   have f69:=(f7.then0 f8).then0 f9;have fS5:Fr [n] S S5:=f1.then0 (f2.then0 f25);refine⟨k',(fS5.same f6).then0 f69,f69.at0 hk6,by omega,by omega,?_⟩
   have e1:=ht.fr0 f69;have q9:∀y∈xs,Rd S9 (j+2) y.1 y.2/\okD y.2=true:=λy hy=>by
    have hy1:El S5 j (wt y.2) y.1 y.2:=⟨Akv (q.e y hy).1 f25,(q.e y hy).2,aN _⟩;have hy2:=(hy1.frn f6 ((f2.then0 f25).at0 hS1)).fr0 f69;exact⟨hy2.r.up (iQ _ _),hy2.k⟩
   have hx0:xs=xs.take a ++ x::xs.drop (a+1):=by
    have:=(nR a xs).symm;rw[eF hal] at this;have e:xs[a]=x:=by rw[aW hal] at hx;exact bV hx
    rw[e] at this;exact this
   have hwx:wts (xs.map (·.2))=wts ((xs.take a).map (·.2))+(wt x.2+2+wts ((xs.drop (a+1)).map (·.2))):=by
    conv=>lhs;rw[hx0,cX,Sx]
    rfl
   have E:Els S9 (j+2) (wts (xs.map (·.2))+2 * wt x.2+6000) (xs.take a ++ [(t,t')] ++ xs.drop (a+1)):=by
    refine⟨λy hy=>?_,?_⟩
    .rcases bW.mp hy with hy|hy
     .rcases bW.mp hy with hy|hy
      .exact q9 y (tK hy)
      .rw[bA.mp hy];exact⟨e1.r,e1.k⟩
     .exact q9 y (tH hy)
    .rw[cX,cX,Sx,Sx];have e2:=e1.b;show wts ((xs.take a).map (·.2))+(wt t'+2+0)+wts ((xs.drop (a+1)).map (·.2))<=_;omega
   have G:=E.good (by
    have:=of_decide_eq_true (aR.mp hs).1;rw[aA] at this;rw[aK,aK,eQ,cD,cC];omega)
   rw[cX,cX,nY,iM] at G;refine G.le (aN _) ?_;rw[hw,hwx];omega
  |_=>cases c1
theorem Bbj:Bbi n 0 (Dh 2 4 (spB ns e)):=by
 intro S k w d h hs hS h0 hk;apply Mj (ws:=[.ref n,w]) rfl;refine Cw (Je rfl hS h0 (by omega) λi S1 f1 hS1 hi=>?_)
 have h1:=h.frn f1 hS;refine K7 (Cr (P:=Al S1) (a:=true) ?_ Eo λS2 f2=>⟨rfl,Awt hi (f1.then0 f2) (h1.fr0 f2) hs (f2.at0 hS1)⟩);have ti:=Gp (t:="tuple") (S0:=S1) h1.r (by decide)
 cases d with
 |tuple ds=>cases h.r
 |_=>exact Jk ((Az (Ag (Ae (Aa (Af rfl) (Aa Ad Ac)) ti))).cast rfl)
theorem Arz:Bbi n 5 (J8 ns):=W8 (by decide) (W8 (by decide) (W8 (by decide) (W8 (by decide) (W8 (by decide) Bbj))))
end
section
variable{b b':MS}{Z:De}{S:Store}{K:RS->Prop}{n:Nat}{ws:List W}{ns:List Int}
theorem R0{J:Nat->De->Store->Prop}(there:∀i Z S,J i Z S->S[n]?=some (.lst ws))(step:∀(i:Nat)(w:W)(Z:De)(S:Store),ws[i]?=some w->J i Z S->∃Z1,s w Z=some Z1/\Wb b Z1 S (Ajo (J (i+1)) K))(fin:∀Z S,J ws.length Z S->K (.nx Z S)):∀(m i:Nat)(Z:De)(S:Store),J i Z S->i<=ws.length->ws.length < m+i->Wb (forL s b n m i) Z S K
 |0,i,Z,S,hJ,h1,h2=>by omega
 |m+1,i,Z,S,hJ,h1,h2=>by
  refine⟨?_⟩;unfold forL;rw[there i Z S hJ];dsimp only;cases e:ws[i]? with
  |none=>
   have:i=ws.length:=by have:=dZ.mp e;omega
   subst this;exact fin Z S hJ
  |some w=>
   have hlt:=(aL.mp e).1;obtain⟨Z1,e1,hb⟩:=step i w Z S e hJ;have hb:=hb.un;dsimp only;rw[e1];dsimp only;revert hb;cases b Z1 S with
   |nx Z2 S2=>exact λhb=>(R0 there step fin m (i+1) Z2 S2 hb hlt (by omega)).un
   |ct Z2 S2=>exact λhb=>(R0 there step fin m (i+1) Z2 S2 hb hlt (by omega)).un
   |bk Z2 S2=>exact λhb=>hb
   |rt _ _=>exact λhb=>hb
   |ex _ _ _=>exact λhb=>hb
   |bad=>exact λhb=>hb
theorem Aia(h:Wm (f Z) S λw S'=>∃r,w=.ref r/\S'[r]?=some (.lst ws)/\Wb (forL s b r (ws.length+1) 0) Z S' (Hu b' K)):Wb (An (My (Cv ns f) s b) b') Z S K:=by
 obtain⟨w,S',e,r,rfl,hr,hb⟩:=h;refine Qx ⟨?_⟩;have e1:Cv ns f Z S=.ok (.liv r) S':=by
  unfold Cv;rw[Bp,e];dsimp only;unfold Aqd;dsimp only;rw[hr]
 unfold My Er;rw[e1];dsimp only;rw[hr];exact hb.un
def Tp(bb:Nat)(t:W):Prop:=∃ys:List (W×bK),t=.tup (ys.map (·.1))/\(∀T:Store,Els T 2 bb ys)/\ys.length<=1000
theorem Bbk{a:Nat}(h:a+1<=ws.length):Mg ws (some (a:Int)) (some ((a:Int)+1))=(ws.drop a).take 1:=by
 unfold Mg HT.sIx;dsimp only;rw[if_neg (by omega),if_neg (by omega),cV,show ((a:Int)+1).toNat=a+1 by omega,oN h,oN (show a<=ws.length by omega),Nat.add_sub_cancel_left]
def Ar0{j:Nat}(h:j+1<=ws.length):Mg ws (some ((j:Int)+1)) none=ws.drop (j+1):=Ad8 (j:=j+1) h
theorem Bbl{x5:Option W}{z u:Str}{R:List W}{x1 x2 x3 x4 x6 x7:Option W}(T:Store):Wm (Lq (tQ .Eq (ixF ns (Ab 0) (kI 0)) (kS "fork")) (Ab 5) (Cm (yB (Ab 5) (Cm (yB (kS "in") (kS ""))))) [some (.tup (.str z::R)),x1,x2,x3,x4,some (.str u),x6,x7]) T
  λv T'=>Fr [] T T'/\v=if z=="fork" then .str u else .tup [.str u,.tup [.str "in",.str ""]]:=by
 have t:Pu SP.any (Bf (Cq .Eq (ixF ns (Ab 0) (kI 0)) (kS "fork")) [some (.tup (.str z::R)),x1,x2,x3,x4,some (.str u),x6,x7]) (z=="fork"):=Ag (Ah (Av (Af rfl) Ad (Ak ix0)) Ad Bc);by_cases hz:(z==("fork":Str))=true
 .rw[if_pos hz];exact Az8 (Cr t trivial λT1 f1=>⟨hz,Ec rfl ⟨f1,rfl⟩⟩)
 .rw[if_neg hz];exact Az9 (Cr t trivial λT1 f1=>⟨bI.mpr hz,Cr (P:=SP.any) (Dj (Aa (Af rfl) (Aa Ah8 Ac)) (show 2<=big by decide)) trivial λT2 f2=>⟨f1.then0 f2,rfl⟩⟩)
theorem Bbm{z u:Str}(hu:okD (.str u)=true/\wt (.str u)<=200):∃vd,(∀T:Store,Rd T 2 (if z=="fork" then .str u else .tup [.str u,.tup [.str "in",.str ""]]) vd)/\okD vd=true/\wt vd<=300:=by
 by_cases hz:(z==("fork":Str))=true
 .rw[if_pos hz];exact⟨.str u,λT=>.str u,hu.1,by omega⟩
 .rw[if_neg hz];refine⟨.tuple [.str u,.tuple [.str "in",.str ""]],λT=>.tup (.cons (.str _) (.cons (.tup (.cons (.str _) (.cons (.str _) .nil))) .nil)),?_,?_⟩
  .refine Ad2 ?_ (by simp)
   rw[Cy,Cy,Cy,hu.1,show okD (.tuple [.str "in",.str ""])=true by decide +kernel]
   rfl
  .show wt (.str u)+2+(wt (.tuple [.str "in",.str ""])+2+0)+3<=300;rw[show wt (.tuple [.str "in",.str ""])=31 by decide +kernel]
   omega
theorem Awu{j:Nat}(h:[W.str "",W.str "abcdefghijklm"][j]?=some w):∃u,w=.str u/\okD (.str u)=true/\wt (.str u)<=200:=by
 match j,h with
 |0,h=>cases h;exact⟨_,rfl,by decide +kernel,by decide +kernel⟩
 |1,h=>cases h;exact⟨_,rfl,by decide +kernel,by decide +kernel⟩
 |j+2,h=>cases h
theorem Ad9{z:Str}{R:List W}{xs:List (W×bK)}{bb:Nat}{i:Int}{S:Store}(hx:∀T:Store,Els T 2 bb xs)(hl:xs.length<=400)(hp:0 < xs.length)(hi:0<=i)(k:∀(a:Nat)(r:Nat)(ls:List W)(x5 x6:Option W)(S':Store),Fr [] S S'->S'[r]?=some (.lst ls)->S.length<=r->ls.length=4->(∀t∈ls,Tp (3 * bb+1000) t)->Wb b' [some (.tup (.str z::.tup (xs.map (·.1))::R)),some (.int i),some (.int (a:Int)),some (.tup (xs.map (·.1))),some (.ref r),x5,x6,none] S' K):
  Wb (An (aD3 ns)
 (An (Br 3 (ixF ns (Ab 0) (kI 1)))
 (An (aB1 ns)
 (An (aA9 ns)
 b')))) [some (.tup (.str z::.tup (xs.map (·.1))::R)),some (.int i),none,none,none,none,none,none] S K:=by
 have hL:((xs.map (·.1)).length:Int)=(xs.length:Int):=by rw[aA]
 have m1:=gH (i / 11) (show (xs.length:Int)≠0 by omega)
 have m2:=gM (i / 11) (show (0:Int) < xs.length by omega)
 obtain⟨a,ha⟩:∃a:Nat,i / 11 % (xs.length:Int)=(a:Int):=⟨(i / 11 % (xs.length:Int)).toNat,by omega⟩
 have hal:a < xs.length:=by omega
 have hlm:(xs.map (·.1)).length=xs.length:=aA ..
 refine Cw (Cr (P:=SP.any) (a:=.int (a:Int)) ((Aj (Aj (Af rfl) Ad Cu) (Ae (Aa (Av (Af rfl) Ad (Ak ix1)) Ac) Bh) (Cd (by rw[hL];omega))).cast (by rw[hL,ha])) trivial λS1 f1=>?_)
 refine Cw (Cr (P:=SP.any) (Av (Af rfl) Ad (Ak ix1)) trivial λS2 f2=>?_);have s0:∀{Z:De},Z[3]?=some (some (.tup (xs.map (·.1))))->Z[2]?=some (some (.int (a:Int)))->Pu SP.any (slF ns (Ab 3) Bd (Bv (Ab 2)) Z) (.tup ((xs.take a).map (·.1))):=λh3 h2=>Ho (Af h3) Dk (Dz (Af h2)) (by rw[nY,<-Ad7 (by omega)];exact Pu.pure)
 have s1:∀{Z:De},Z[3]?=some (some (.tup (xs.map (·.1))))->Z[2]?=some (some (.int (a:Int)))->Pu SP.any (slF ns (Ab 3) (Bv (Ab 2)) (Bv (Ai .add (Ab 2) (kI 1))) Z) (.tup (((xs.drop a).take 1).map (·.1))):=λh3 h2=>Ho (Af h3) (Dz (Af h2)) (Dz (Aj (Af h2) Ad Di)) (by rw[nY,iM,<-Bbk (by omega)];exact Pu.pure)
 have s2:∀{Z:De},Z[3]?=some (some (.tup (xs.map (·.1))))->Z[2]?=some (some (.int (a:Int)))->Pu SP.any (slF ns (Ab 3) (Bv (Ab 2)) Bd Z) (.tup ((xs.drop a).map (·.1))):=λh3 h2=>Ho (Af h3) (Dz (Af h2)) Dk (by rw[iM,<-Ad8 (by omega)];exact Pu.pure)
 have s3:∀{Z:De},Z[3]?=some (some (.tup (xs.map (·.1))))->Z[2]?=some (some (.int (a:Int)))->Pu SP.any (slF ns (Ab 3) (Bv (Ai .add (Ab 2) (kI 1))) Bd Z) (.tup ((xs.drop (a+1)).map (·.1))):=λh3 h2=>Ho (Af h3) (Dz (Aj (Af h2) Ad Di)) Dk (by rw[iM,<-Ar0 (by omega)];exact Pu.pure)
 have ad:∀{x y:List (W×bK)},x.length+y.length<=3000->Pu SP.any (Bop.fn .add (.tup (x.map (·.1))) (.tup (y.map (·.1)))) (.tup ((x ++ y).map (·.1))):=λhxy=>by
  rw[cX];exact Tc (by rw[aA,aA];exact aD hxy (by decide))
 have tk:(xs.take a).length<=400:=aD (oW _ _) (by omega)
 have dr:(xs.drop a).length<=400:=by rw[cD];omega
 have d1:(xs.drop (a+1)).length<=400:=by rw[cD];omega
 have t1:((xs.drop a).take 1).length<=1:=oW _ _;have eT:∀T:Store,Els T 2 bb (xs.take a):=λT=>(hx T).sub (kZ _ _);have eD:∀T:Store,Els T 2 bb (xs.drop a):=λT=>(hx T).sub (lE _ _);have eE:∀T:Store,Els T 2 bb (xs.drop (a+1)):=λT=>(hx T).sub (lE _ _);have eM:∀T:Store,Els T 2 bb ((xs.drop a).take 1):=λT=>(eD T).sub (kZ _ _);refine Cw (Hq (P:=SP.any) (Ge (Aa (Aj (Aj (s0 rfl rfl) (s1 rfl rfl) (ad (by omega))) (s2 rfl rfl) (ad (by rw[aK];omega))) (Aa (Aj (Aj (s0 rfl rfl) (s3 rfl rfl) (ad (by omega))) (s1 rfl rfl) (ad (by rw[aK];omega))) Ac)) (show 2<=big by decide)) trivial λr S3 f3 hr hlr=>?_)
 have g0:∀t∈[W.tup ((xs.take a ++ (xs.drop a).take 1 ++ xs.drop a).map (·.1)),W.tup ((xs.take a ++ xs.drop (a+1) ++ (xs.drop a).take 1).map (·.1))],Tp (3 * bb+1000) t:=λt ht=>by
  simp only[bF,bT,or_false] at ht;rcases ht with rfl|rfl
  .exact⟨_,rfl,λT=>(((eT T).app (eM T)).app (eD T)).up (aN _) (by omega),by rw[aK,aK];omega⟩
  .exact⟨_,rfl,λT=>(((eT T).app (eE T)).app (eM T)).up (aN _) (by omega),by rw[aK,aK];omega⟩
 have f03:=(f1.then0 f2).then0 f3;refine Aia (ws:=[.str "",.str "abcdefghijklm"]) (Hq (P:=SP.any) (Ge (Aa Ad (Aa Ad Ac)) (show 2<=big by decide)) trivial λq S4 f4 hq hlq=>⟨q,rfl,hq,?_⟩)
 have hrq:r≠q:=λe=>by subst e;have:=Fy hr;omega
 refine R0 (ws:=[.str "",.str "abcdefghijklm"]) (J:=λj Z T=>∃ls x5 x6,Z=[some (.tup (.str z::.tup (xs.map (·.1))::R)),some (.int i),some (.int (a:Int)),some (.tup (xs.map (·.1))),some (.ref r),x5,x6,none]/\T[r]?=some (.lst ls)/\T[q]?=some (.lst [.str "",.str "abcdefghijklm"])/\Fr [] S T/\ls.length=2+j/\∀t∈ls,Tp (3 * bb+1000) t) ?_ ?_ ?_ _ 0 _ _ ⟨_,none,none,rfl,f4.at0 hr,hq,f03.then0 f4,rfl,g0⟩ (dU _) (show 2 < 2+1+0 by decide)
 .rintro j Z T ⟨ls,x5,x6,rfl,h1,h2,_⟩;exact h2
 .rintro j w Z T hw ⟨ls,x5,x6,rfl,h1,h2,f,hls,ht⟩;obtain⟨u,rfl,hu1,hu2⟩:=Awu hw;obtain⟨vd,v1,v2,v3⟩:=Bbm (z:=z) ⟨hu1,hu2⟩;refine⟨_,rfl,?_⟩;refine Cw (Cz (Bbl (x5:=none) T) λv T1 zz=>?_);obtain⟨g1,hv⟩:=zz;subst hv;have hj:j < 2:=by have:=(aL.mp hw).1;exact this
  refine Wf (Abr (P:=SP.any) (Af rfl) trivial (g1.at0 h1) λT2 g2=>Bu (Cr (P:=SP.any) (Aj (Aj (s0 rfl rfl) (Dj (Aa (Af rfl) Ac) (show 1<=big by decide)) (ad (y:=[(_,vd)]) (by rw[cC];omega))) (s3 rfl rfl) (ad (by rw[aK,cC];omega))) trivial λT3 g3=>Ek (Xk ((g2.then0 g3).at0 (g1.at0 h1)) (by rw[hls];exact uZ (show 2+j<=4 by omega) (by decide)) ?_)))
  refine Hh ⟨_,_,_,rfl,Qw (Fy ((g2.then0 g3).at0 (g1.at0 h1))),by rw[cJ hrq];exact(g2.then0 g3).at0 (g1.at0 h2),Am7 (((f.then0 g1).then0 g2).then0 g3) (aD (f1.then0 f2).len hlr),by rw[aK,hls];rfl,λt htt=>?_⟩
  rcases bW.mp htt with htt|htt
  .exact ht t htt
  .rw[bA.mp htt];refine⟨_,rfl,λT=>?_,by rw[aK,aK,cC];omega⟩
   refine Els.up (((eT T).app (⟨λy hy=>?_,?_⟩:Els T 2 305 [(_,vd)])).app (eE T)) (aN _) (by omega)
   .rw[bA.mp hy];exact⟨v1 T,v2⟩
   .show wt vd+2+0<=305;omega
 .rintro Z T ⟨ls,x5,x6,rfl,h1,h2,f,hls,ht⟩;exact k a r ls x5 x6 T f h1 (aD (f1.then0 f2).len hlr) hls ht
end
theorem Ar1(ws:List W)(j:Nat):Mg ws none (some (j:Int))=ws.take j:=by
 by_cases h:j<=ws.length
 .exact Ad7 h
 .unfold Mg HT.sIx;dsimp only;rw[if_neg (by omega),cV,Nat.min_eq_right (by omega),rK,iZ,lY,iI (by omega)]
def Anb(S:Store)(b:Nat):W->Store->Prop:=λv S'=>∃r ws,v=.ref r/\S'[r]?=some (.lst ws)/\Fr [] S S'/\ws.length<=100/\∀t∈ws,Good S' 4 b t
section
variable{ns:List Int}{i:Int}
theorem Aib{r k:Nat}{cap:List Nat}(h0:∀S,P.p S->AtL r ls S)(hv:Z[k]?=some (some (.ref r)))(hc:K4 1 cap Z=none::cs)(hl:ls.length<=1000)(he:∀t∈ls,Pu P (e (some t::cs)) (ψ t)):PuL P (Bt 1 cap (Cv ns (Ab k)) (Bg 0) (λ_=>pure true) e Z) (ls.map ψ):=by
 have h:=Sh (P:=P) (xs:=ls) (φ:=λt=>t) (ψ:=ψ) (τ:=λ_=>true) (s:=Bg 0) (t:=λ_=>pure true) (e:=e) (k:=1) (cap:=cap) (Z:=Z) (src:=Cv ns (Ab k)) (n:=r) (λS hS=>by rw[wC];exact h0 S hS) (Wd h0 (Af hv)) Lx (λx hx=>⟨Pu.pure,λ_=>he x hx⟩) ⟨none,hc⟩ (aD hl (by decide))
 rw[fH.mpr (λ_ _=>rfl)] at h;exact h
theorem Ar2{bb:Nat}(hx:∀T:Store,Els T 2 bb xs)(hl:xs.length<=400)(hp:0 < xs.length)(hi:0<=i):Wm (Ii ns [.tup [.str "leaf",.tup (xs.map (·.1))],.int i]) S (Anb S (3 * bb+2000)):=by
 apply Mj (ws:=[.tup [.str "leaf",.tup (xs.map (·.1))],.int i]) rfl;refine Ad9 (z:="leaf") (R:=[]) hx hl hp hi λa r ls x5 x6 S1 f1 hr hlr hls ht=>?_;refine K7 (Cr (P:=SP.any) (Ag (Ah (Av (Af rfl) Ad (Ak ix0)) Ad Bc)) trivial λS2 f2=>⟨beq_self_eq_true _,?_⟩);refine Iw (Hq (P:=SP.any.at r ls) (Aib (ψ:=λt=>.tup [.str "leaf",t]) (λT hT=>hT.2) rfl rfl (by omega) λt _=>Dj (Aa Ad (Aa (Af rfl) Ac)) (show 2<=big by decide)) ⟨trivial,f2.at0 hr⟩ λq S3 f3 hq _=>?_)
 refine⟨q,_,rfl,hq,(f1.then0 f2).then0 f3,by rw[aA];omega,λt htt=>?_⟩
 obtain⟨u,hu,rfl⟩:=bU.mp htt;obtain⟨ys,rfl,e,hy⟩:=ht u hu;exact⟨_,(Ah7 (e S3) hy).le (aN _) (by omega)⟩
theorem Ar3{bb:Nat}(hx:∀T:Store,Els T 2 bb xs)(hl:xs.length<=400)(hp:0 < xs.length)(hk:∀T:Store,Els T 2 1000 ks)(hkl:ks.length<=400)(hi:0<=i):Wm (Ii ns [.tup [.str "fork",.tup (xs.map (·.1)),.tup (ks.map (·.1))],.int i]) S (Anb S (3 * bb+5000)):=by
 apply Mj (ws:=[.tup [.str "fork",.tup (xs.map (·.1)),.tup (ks.map (·.1))],.int i]) rfl;refine Ad9 (z:="fork") (R:=[.tup (ks.map (·.1))]) hx hl hp hi λa r ls x5 x6 S1 f1 hr hlr hls ht=>?_;refine Fp (Cr (P:=SP.any) (Ag (Ah (Av (Af rfl) Ad (Ak ix0)) Ad Bc)) trivial λS2 f2=>⟨blf,?_⟩);have k7:∀T:Store,Els T 2 1020 (ks ++ [(W.int 7,iC 7)]):=λT=>((hk T).app (⟨λy hy=>by rw[bA.mp hy];exact⟨.int _,by decide⟩,by decide⟩:Els T 2 20 [(W.int 7,iC 7)]))
 have add7:∀{P:SP},Pu P (Bop.fn .add (.tup (ks.map (·.1))) (.tup [.int 7])) (.tup ((ks ++ [(W.int 7,iC 7)]).map (·.1))):=by
  intro P;rw[cX];exact Tc (by rw[aA];exact aD (show ks.length+1<=401 by omega) (by decide))
 have l7:(ks ++ [(W.int 7,iC 7)]).length<=401:=by rw[aK,cC];omega
 let ψ:W->W:=λt=>.tup [.str "fork",t,.tup (((ks ++ [(W.int 7,iC 7)]).map (·.1)).take ((match t with|.tup us=>us.length|_=>0)+1))]
 refine Cw (Hq (P:=SP.any.at r ls) (Aib (ψ:=ψ) (λT hT=>hT.2) rfl rfl (by omega) λt htt=>?_) ⟨trivial,f2.at0 hr⟩ λq S3 f3 hq _=>?_)
 .obtain⟨ys,rfl,e,hy⟩:=ht t htt;refine Dj (Aa Ad (Aa (Af rfl) (Aa (Ho (Aj (Av (Af rfl) Ad (Ak ix2)) (Dj (Aa Ad Ac) (show 1<=big by decide)) add7) Dk (Dz (Aj (Ae (Aa (Af rfl) Ac) Bh) Ad Di)) ?_) Ac))) (show 3<=big by decide)
  rw[<-Ar1];exact Pu.pure
 have gq:∀t∈ls.map ψ,∀T:Store,Good T 4 (3 * bb+5000) t:=λt htt T=>by
  obtain⟨u,hu,rfl⟩:=bU.mp htt;obtain⟨ys,rfl,e,hy⟩:=ht u hu;have E:=Sy (e T) hy ((k7 T).sub (kZ (((ys.map (·.1)).length)+1) _)) (by rw[eQ];omega)
  simp only[nY] at E;exact⟨_,E.le (aN _) (by omega)⟩
 refine Iw ?_;refine Iv (Ec rfl ?_);refine Hq (P:=SP.any) (ws:=[.tup [.str "fork",.tup (xs.map (·.1)),.tup ((ks ++ [(W.int 7,iC 7)]).map (·.1))],.tup [.str "fork",.tup (xs.map (·.1)),.tup ((ks.drop 1).map (·.1))],.tup [.str "fork",.tup (xs.map (·.1)),.tup (((W.int 0,iC 0)::ks.drop 1).map (·.1))]]) (Ge (Aa ?_ (Aa ?_ (Aa ?_ Ac))) (show 3<=big by decide)) trivial λq2 S4 f4 hq2 _=>?_
 .exact Dj (Aa Ad (Aa (Af rfl) (Aa (Aj (Av (Af rfl) Ad (Ak ix2)) (Dj (Aa Ad Ac) (show 1<=big by decide)) add7) Ac))) (show 3<=big by decide)
 .exact Dj (Aa Ad (Aa (Af rfl) (Aa (Ho (Av (Af rfl) Ad (Ak ix2)) (Dz Ad) Dk (by rw[iM,<-Avq];exact Pu.pure)) Ac))) (show 3<=big by decide)
 .exact Dj (Aa Ad (Aa (Af rfl) (Aa (Aj (Dj (Aa Ad Ac) (show 1<=big by decide)) (Ho (Av (Af rfl) Ad (Ak ix2)) (Dz Ad) Dk Pu.pure) (by rw[Avq,<-iM,aG];exact Tc (by rw[aA,cD];exact aD (show 1+(ks.length - 1)<=401 by omega) (by decide)))) Ac))) (show 3<=big by decide)
 refine Ahj (f4.at0 hq) hq2 (by rw[aA,hls];exact(by decide:4+3<=big)) ?_
 refine⟨S4.length,_,rfl,Fo,(((f1.then0 f2).then0 f3).then0 f4).then0 Fr.app,by rw[aK,aA,hls];exact(by decide:4+3<=100),λt htt=>?_⟩
 rcases bW.mp htt with htt|htt
 .exact gq t htt _
 .have k0:∀T:Store,Els T 2 1020 ((W.int 0,iC 0)::ks.drop 1):=λT=>((⟨λy hy=>by rw[bA.mp hy];exact⟨.int _,by decide⟩,by decide⟩:Els T 2 20 [(W.int 0,iC 0)]).app ((hk T).sub (lE 1 _))).up (aN _) (by omega)
  simp only[bF,bT,or_false] at htt;rcases htt with rfl|rfl|rfl
  .exact⟨_,(Sy (hx _) (by omega) (k7 _) (by omega)).le (aN _) (by omega)⟩
  .exact⟨_,(Sy (hx _) (by omega) ((hk _).sub (lE 1 _)) (by rw[cD];omega)).le (aN _) (by omega)⟩
  .exact⟨_,(Sy (hx _) (by omega) (k0 _) (by rw[aU,cD];omega)).le (aN _) (by omega)⟩
end
noncomputable def Gj(m:Nat):List Str:=Mw ((bR m).map λ(k:Nat)=>M1.Dq 2 ((0:Int)+(k:Int)))
theorem Bbn:(bR 64).map (λ(k:Nat)=>M1.Dq 2 ((0:Int)+(k:Int)))=Srt.ky64:=by decide +kernel
theorem Awv:∀k:Nat,k < 64->isKey (M1.Dq 2 ((0:Int)+(k:Int)))=true:=by decide +kernel
theorem Bbo:∀j:Nat,j < 64->∀i:Nat,i < j->(M1.Dq 2 ((0:Int)+(i:Int))==M1.Dq 2 ((0:Int)+(j:Int)))=false:=by decide +kernel
theorem Anc{m:Nat}(h:m<=64):((bR m).map λ(k:Nat)=>M1.Dq 2 ((0:Int)+(k:Int))).Nodup:=by
 rw[List.Nodup,List.pairwise_map];refine(List.pairwise_lt_range (n:=m)).imp_of_mem λ{a b} ha hb hab=>?_;have:=Bbo b (bM (iR.mp hb) h) a hab;exact beq_eq_false_iff_ne.mp this
def Aea{m:Nat}(h:m<=64):Vy (Gj m):=Va (Anc h)
theorem Gv(m:Nat):(Gj m).length=m:=by
 unfold Gj;rw[(Gs _).length_eq,aA,cW]
theorem Aad{m:Nat}(h:m<=64):∀k∈Gj m,isKey k=true:=λk hk=>by
 obtain⟨j,hj,rfl⟩:=bU.mp ((Gs _).mem_iff.mp hk);exact Awv j (bM (iR.mp hj) h)
theorem Agg{m:Nat}:∀k∈Gj m,k.length=2:=λk hk=>by
 obtain⟨j,hj,rfl⟩:=bU.mp ((Gs _).mem_iff.mp hk);exact By 2 _
noncomputable def W9(i:Int):Cl:=if i / 3 % 2=0 then .inn "" else .out (1+i / 2 % 400) 7
theorem Aww{i:Int}(hi:0<=i):(W9 i).ok=true:=by
 unfold W9;split
 .decide +kernel
 .show (decide (1<=1+i / 2 % 400)&&decide (1+i / 2 % 400<=400)&&Fd 7 1)=true;rw[decide_eq_true (by omega),decide_eq_true (by omega)]
  decide
theorem Awx(i:Int)(hi:0<=i):atI [W.tup [.str "in",.str ""],.tup [.str "out",.int (1+i / 2 % 400),.int 7]] (i / 3 % 2)=some (W9 i).w:=by
 unfold W9;by_cases h:i / 3 % 2=0
 .rw[if_pos h,h];rfl
 .rw[if_neg h,show i / 3 % 2=1 by omega]
  rfl
section
variable{P:SP}{S:Store}{ns:List Int}{i:Int}
theorem Ar4{m:Nat}{Q:W->Store->Prop}{Z:De}(h:m<=64)(hm:Pu SP.any (Ai .add (kI 63) (Ai .mod (Ab 0) (kI 2)) Z) (.int (m:Int)))(q:∀r S',Fr [] S S'->S'[r]?=some (.lst ((Gj m).map W.str))->S.length<=r->Q (.ref r) S'):
  Wm (Cp Jz (yA (aC3 ns)) Z) S Q:=by
 have hc:=Es (P:=SP.any) (xs:=bR m) (φ:=λ(k:Nat)=>W.int ((0:Int)+(k:Int))) (ψ:=λk=>W.str (M1.Dq 2 ((0:Int)+(k:Int)))) (t:=λ_=>pure true) (e:=Cp (Bj ns) (yB (Ab 0) (kI 2))) (cs:=[]) (cap:=[]) (Z:=Z) (src:=J4 Fj (yA (Ai .add (kI 63) (Ai .mod (Ab 0) (kI 2))))) (J1 (Aa hm Ac) (aD h (by decide))) rfl (by rw[cW];exact aD h (by decide)) (λk _=>⟨Pu.pure,Ae (Aa (Af rfl) (Aa Ad Ac)) (Akl (by omega))⟩)
 refine Et (Bu (Hq (P:=SP.any) hc trivial λr S1 f1 hr _=>Ek ?_));refine Avh (ss:=(bR m).map λ(k:Nat)=>M1.Dq 2 ((0:Int)+(k:Int))) (by rw[bB];exact hr) ?_ (q _ _ (f1.then0 Fr.app) Fo f1.len)
 by_cases h64:m < 64
 .exact .inl (by rw[aA,cW];exact h64)
 .obtain rfl:m=64:=by omega
  exact .inr Bbn
theorem Ao6{S:Store}{a b:Nat}{l:List Str}(ha:S[a]?=some (.lst (l.map W.str)))(hb:S[b]?=some (.lst (l.map W.str)))(hs:∀z∈l,cY z=true):Fx .NotEq (.ref a) (.ref b) S=.ok (.bl false) S:=by
 rw[Bg0 (d:=.list (l.map fJ)) (e:=.list (l.map fJ)) (.lst ha (W2 l)) (.lst hb (W2 l)) (W3 hs) (W3 hs)];have:∀l:List Str,uO (l.map fJ) (l.map fJ)=true:=λl=>by
  induction l with
  |nil=>rfl
  |cons z l ih=>
   show ((z==z)&&uO (l.map fJ) (l.map fJ))=true;rw[ih,beq_self_eq_true];rfl
 show R.ok (W.bl (!uO (l.map fJ) (l.map fJ))) S=_;rw[this];rfl
noncomputable def Il(i:Int):List Str:=if i % 2=1 then ["page","page","page"] else ["","","page"]
theorem Awy(i:Int):∀z∈Il i,cY z=true:=by
 unfold Il;split <;> decide +kernel
theorem Aeb{v s:W}{Z:De}{cap:List Nat}{cs:De}{a b c:Str}{e:De->M W}(hc:K4 1 cap Z=none::cs)(h0:Pu P (e (some (.int 0)::cs)) (.str a))(h1:Pu P (e (some (.int 1)::cs)) (.str b))(h2:Pu P (e (some (.int 2)::cs)) (.str c)):
  PuL P (Bt 1 cap (J4 Fj (yA (kI 3))) (Bg 0) (λ_=>pure true) e Z) ([a,b,c].map W.str):=by
 have h:=Es (P:=P) (xs:=[(0,a),(1,b),(2,c)]) (φ:=λ(x:Nat×Str)=>W.int ((0:Int)+(x.1:Int))) (ψ:=λx=>W.str x.2) (t:=λ_=>pure true) (e:=e) (cs:=cs) (cap:=cap) (Z:=Z) (src:=J4 Fj (yA (kI 3))) (J1 (k:=3) (Aa Ad Ac) (by decide)) hc (show 3<=big by decide) (λx hx=>⟨Pu.pure,by
  simp only[bF,bT,or_false] at hx;rcases hx with rfl|rfl|rfl
  .exact h0
  .exact h1
  .exact h2⟩)
 exact h
structure Many(S:Store)(ns:List Int)(i:Int)(w:W):Prop where
 pg:Pu (Al S) (Fq ns [w]) (.bl (i % 2==0))
 r0:Pu (Al S) (Bm ns [.int 0,w,.int 200]) (.str ((Il i).getD 0 ""))
 r1:Pu (Al S) (Bm ns [.int 1,w,.int 200]) (.str ((Il i).getD 1 ""))
 r2:Pu (Al S) (Bm ns [.int 2,w,.int 200]) (.str ((Il i).getD 2 ""))
theorem Xa{p:Pg}(hi:i % 2=0)(h:p.ok)(hb:195 < p.body.length)(hb2:p.body.length<=big):Many S ns i p.w:=by
 have e:Il i=(["","","page"]:List Str):=by unfold Il;rw[if_neg (by omega)]
 refine⟨(Abt h).cast (by rw[hi];rfl),?_,?_,?_⟩
 .rw[e];exact Bkk (Sq h)
 .rw[e];exact Bkl (Avx h)
 .rw[e];exact Bbb (.inl ⟨rfl,rfl⟩) (Avv h (by decide) (by decide) (by omega) hb2)
theorem Aec{w:W}{d:bK}(hi:i % 2=1)(h:Tn S w d)(hp:Jj d=false):Many S ns i w:=by
 have e:Il i=(["page","page","page"]:List Str):=by unfold Il;rw[if_pos hi]
 refine⟨(W0 h).cast (by rw[hp,hi];rfl),?_,?_,?_⟩
 .rw[e];exact ref0 (.inl ⟨rfl,rfl⟩) (nobody h hp)
 .rw[e];exact Bkj (.inl ⟨rfl,rfl⟩) (Aox h hp)
 .rw[e];exact Bbb (.inl ⟨rfl,rfl⟩) (Awo h hp)
noncomputable def Hd(m:Nat)(i:Int):List (Str×Cl):=(Gj m).map λk=>(k,W9 i)
theorem Akx{m:Nat}(h:m<=64)(hi:0<=i):∀r∈Hd m i,isKey r.1=true/\r.2.ok=true:=λr hr=>by
 obtain⟨k,hk,rfl⟩:=bU.mp hr;exact⟨Aad h k hk,Aww hi⟩
theorem Kq(m:Nat)(i:Int):(Hd m i).length=m:=by unfold Hd;rw[aA,Gv]
theorem Ane(m:Nat)(i:Int):(Hd m i).map (·.1)=Gj m:=by
 unfold Hd;rw[bB];exact wC _
theorem Bhf{ys:List Str}{c:Nat}(h:∀y∈ys,c<=y.length):ys.length * c<=(ys.map (·.length)).sum:=by
 induction ys with
 |nil=>rw[oG,Nat.zero_mul];exact dU _
 |cons y ys ih=>
  have h1:=h y aH;have h2:=ih λz hz=>h z (aM _ hz);rw[aG,jH,aU,aAv];omega
theorem Awz(c:Cl):2<=c.t.length:=by
 cases c with
 |inn t=>
  show 2<=((("i":Str) ++ M1.Dq 1 (t.length:Int)) ++ t).length;rw[len_app,len_app,By,show ("i":Str).length=1 from rfl];omega
 |out n p=>
  show 2<=(("o":Str) ++ Ka [n,p]).length;rw[len_app,Ij];show 2<=_+2 * 2;omega
theorem Ar5(hi:0<=i)(hm:i % 2=0):Many S ns i (.tup [.str "leaf",.tup ((Hd 63 i).map Hr)]):=by
 have hk:=Akx (m:=63) (by decide) hi
 have ok:Pg.ok (.leaf (Hd 63 i)):=⟨by rw[Kq];exact aN _,hk,by rw[Ane];exact Rr (Aea (by decide))⟩
 have eb:(Pg.leaf (Hd 63 i)).body.length=1+(jn ((Hd 63 i).map Jv)).length:=by
  show (M1.Dq 1 _ ++ jn _).length=_;rw[len_app,By]
 refine Xa (p:=.leaf (Hd 63 i)) hm ok ?_ ?_
 .have h5:=Bhf (ys:=(Hd 63 i).map Jv) (c:=5) λy hy=>by
   obtain⟨r,hr,rfl⟩:=bU.mp hy;obtain⟨k,hk',rfl⟩:=bU.mp hr;have:=Awz (W9 i);have h2:=Agg k hk';show 5<=(M1.Dq 1 _ ++ k ++ (W9 i).t).length;rw[len_app,len_app,By];omega
  rw[eb,Vx];rw[aA,Kq] at h5;omega
 .have:=Adu (ys:=(Hd 63 i).map Jv) (c:=78) (n:=63) (λy hy=>by
   obtain⟨r,hr,rfl⟩:=bU.mp hy;exact Wu (hk r hr).1 (hk r hr).2) (by rw[aA,Kq];exact aN _)
  rw[eb];exact aD (show 1+(jn ((Hd 63 i).map Jv)).length<=5000 by omega) (by decide)
theorem Aed:∀{ks:List Str},(∀z∈ks,z.length=2)->Ph ks=3 * (ks.length:Int)
 |[],_=>rfl
 |k::ks,h=>by
  have h1:=h k aH;have h2:=Aed λz hz=>h z (aM _ hz);unfold Ph at h2 ⊢
  rw[aG,jH,h2,h1,aU];omega
theorem Ar6(hm:i % 2=0):Many S ns i (.tup [.str "fork",.tup ((Gj 63).map W.str),.tup ((bG 64 (5:Int)).map W.int)]):=by
 have ok:Pg.ok (.fork (Gj 63) (bG 64 5)):=⟨⟨by rw[Gv];exact aN _,Aad (by decide),Rr (Aea (by decide))⟩,by rw[Gv];rfl,λp hp=>by rw[(vD.mp hp).2];decide⟩
 have e:=Akr (Gj 63) (bG 64 5) (by rw[Gv];rfl)
 rw[Aed Agg,Gv] at e;exact Xa (p:=.fork (Gj 63) (bG 64 5)) hm ok (by omega) (aD (show (Pg.fork (Gj 63) (bG 64 5)).body.length<=1000 by omega) (by decide))
theorem Ar7(hi:0<=i)(hm:i % 2=1):Many S ns i (.tup [.str "leaf",.tup ((Hd 64 i).map Hr)]):=by
 have e:=Ah7 (W6 (S:=S) (Akx (m:=64) (by decide) hi) (by rw[Kq];exact aN _)) (by rw[aA,Kq];decide)
 rw[bB,bB] at e;refine Aec hm (e.tn (by decide)) ?_
 rw[Gq,bhl,beq_self_eq_true];show (decide (((Hd 64 i).map _).length<=63)&&_&&_)=false;rw[aA,Kq];rfl
theorem Ar8(hm:i % 2=1):Many S ns i (.tup [.str "fork",.tup ((Gj 64).map W.str),.tup ((bG 65 (5:Int)).map W.int)]):=by
 have e:=Sy (W7 (S:=S) (Aad (m:=64) (by decide)) (by rw[Gv];exact aN _)) (by rw[aA,Gv];decide) (Ad3 (S:=S) (ps:=bG 65 (5:Int)) (λp hp=>by rw[(vD.mp hp).2];decide) (by decide)) (by decide)
 rw[bB,bB,bB,bB] at e;refine Aec hm (e.tn (by decide)) ?_
 rw[Gq,bhf,blf,beq_self_eq_true];show (decide (((Gj 64).map _).length<=63)&&_&&_)=false;rw[aA,Gv];rfl
end
section
variable{ns:List Int}{i:Int}
theorem Bhg(k:Nat):(bG k [W.int 5]).flatten=(bG k (5:Int)).map W.int:=by
 rw[List.map_replicate];induction k with
 |zero=>rfl
 |succ k ih=>rw[eY,gV,ih,eY];rfl
theorem Aw0{k:Nat}(hk:k<=1000)(hg:Pu P (g Z) (.int (k:Int))):PuL P (Ai .mul (Ef (yA (kI 5))) g Z) ((bG k (5:Int)).map W.int):=λS hS=>by
 obtain⟨G,n,e,hn,_⟩:=Ge (P:=P) (Z:=Z) (Aa (Ad (w:=.int 5)) Ac) (show 1<=big by decide) S hS
 obtain⟨G2,e2⟩:=hg (S ++ G) (P.st _ _ hS);refine⟨G ++ G2 ++ [.lst ((bG k (5:Int)).map W.int)],(S ++ G ++ G2).length,?_,?_,?_⟩
 .unfold Ai;rw[Bp,e];dsimp only;rw[Bp,e2];dsimp only;show Ag2 (.ref n) (.int k) (S ++ G ++ G2)=_;unfold Ag2;dsimp only;rw[Hm hn];dsimp only;rw[if_pos (by rw[aC,aC];refine⟨⟨decide_eq_true (by omega),decide_eq_true (by omega)⟩,decide_eq_true ?_⟩;rw[cV];show 1 * k<=big;rw[Nat.one_mul];exact aD hk (by decide)),cV]
  rw[Bhg,aO,aO]
 .rw[<-aO,<-aO];exact Fo
 .rw[aO,aK];omega
theorem Ar9(i:Int):Il i=[(Il i).getD 0 "",(Il i).getD 1 "",(Il i).getD 2 ""]:=by
 unfold Il;split <;> rfl
theorem Bhh:Pu P (Fx .NotEq (.bl a) (.bl a)) (.bl false):=λS _=>⟨[],by rw[bJ];cases a <;> rfl⟩
def Bhi:Pu P (Fx .Is (.bl a) (.bl b)) (.bl (a==b)):=Pu.pure
theorem Bhj:Pu P (Ei isa [.bl a,.ty "bool"]) (.bl true):=λS _=>⟨[],by rw[bJ];rfl⟩
theorem Asa{w:W}{x1 x2 x4 x5:Option W}{K:RS->Prop}{T:Store}(M:∀T,Many T ns i w)(k:∀(x4:Option W)(T':Store),Fr [] T T'->K (.nx [some (.int i),x1,x2,some w,x4,x5] T')):
  Wb (aA3 ns) [some (.int i),x1,x2,some w,x4,x5] T K:=by
 refine Fp (Cr (P:=Al T) (Ej (Az (Ag (Ae (Aa (Ae (Aa (Af rfl) Ac) (M T).pg) (Aa Ad Ac)) Bhj))) (Ag (Ah (Ae (Aa (Af rfl) Ac) (M T).pg) (Ah (Aj (Af rfl) Ad Cd) Ad Ff) Bhh))) Eo λT1 f1=>⟨rfl,?_⟩);have hd:PuL SP.any (Lq (tQ .Eq (Ai .mod (Ab 0) (kI 2)) (kI 1)) (Ef (yC (kS "page") (kS "page") (kS "page"))) (Ef (yC (kS "") (kS "") (kS "page"))) [some (.int i),x1,x2,some w,x4,x5]) ((Il i).map W.str):=by
  by_cases h:i % 2=1
  .rw[show Il i=(["page","page","page"]:List Str) by unfold Il;rw[if_pos h]]
   exact Avd (Ag (Ah (Aj (Af rfl) Ad Cd) Ad Ff)) (by rw[h];rfl) (Ge (Aa Ad (Aa Ad (Aa Ad Ac))) (show 3<=big by decide))
  .rw[show Il i=(["","","page"]:List Str) by unfold Il;rw[if_neg h]]
   exact Ave (Ag (Ah (Aj (Af rfl) Ad Cd) Ad Ff)) (by rw[beq_eq_false_iff_ne];exact h) (Ge (Aa Ad (Aa Ad (Aa Ad Ac))) (show 3<=big by decide))
 refine Cw (Hq (P:=SP.any) hd trivial λr T2 f2 hr _=>?_);have M2:=M T2;have h3:PuL (Al T2) (Bt 1 [3] (J4 Fj (yA (kI 3))) (Bg 0) (λ_=>pure true) (zC (Bm ns) (Ab 0) (Ab 1) (kI 200)) [some (.int i),x1,x2,some w,some (.ref r),x5]) ((Il i).map W.str):=by
  rw[Ar9 i];exact Aeb (v:=.non) (s:=.non) (cs:=[some w]) rfl (Ae (Aa (Af rfl) (Aa (Af rfl) (Aa Ad Ac))) M2.r0) (Ae (Aa (Af rfl) (Aa (Af rfl) (Aa Ad Ac))) M2.r1) (Ae (Aa (Af rfl) (Aa (Af rfl) (Aa Ad Ac))) M2.r2)
 refine Fp (We (p:=false) (Amb (Hq (P:=Al T2) h3 Eo λq T3 f3 hq _=>Ec rfl ⟨_,T3,Ao6 hq (f3.at0 hr) (Awy i),rfl,rfl,?_⟩)));exact Hh (k _ T3 ((f1.then0 f2).then0 f3))
theorem Asb(i:Int):Pg.ok (.leaf [("a",.inn (lawT i 63))]):=by
 refine⟨show 1<=63 by decide,λr hr=>?_,rfl⟩
 rw[bA.mp hr];refine⟨show isKey "a"=true by decide +kernel,?_⟩
 show (M2.G5 (lawT i 63)&&decide ((lawT i 63).length<=63))=true;rw[Su,Jd];rfl
theorem Asc(i:Int):Pg.ok (.rest (lawT i 400) (i % 4096)):=⟨Su _ _,by rw[Jd];decide,by rw[Jd];decide,Ad5 (by omega) (by omega)⟩
theorem Bbp(hi:0<=i):Wm (Hl ns [.int i]) S λv S'=>v=.bl true/\Fr [] S S':=by
 obtain⟨m,hm,h64,hL,hF⟩:∃m:Nat,(63:Int)+i % 2=(m:Int)/\m<=64/\(∀T,Many T ns i (.tup [.str "leaf",.tup ((Hd m i).map Hr)]))/\∀T,Many T ns i (.tup [.str "fork",.tup ((Gj m).map W.str),.tup ((bG (m+1) (5:Int)).map W.int)]):=by
  by_cases h:i % 2=0
  .exact⟨63,by omega,by decide,λT=>Ar5 hi h,λT=>Ar6 h⟩
  .have h:i % 2=1:=by omega
   exact⟨64,by omega,by decide,λT=>Ar7 hi h,λT=>Ar8 h⟩
 apply Mj (ws:=[.int i]) rfl;refine Cw (Ar4 h64 ((Aj Ad (Aj (Af rfl) Ad Cd) Di).cast (by rw[hm])) λr1 S1 f1 h1 _=>?_)
 have hr:PuL (SP.any.at r1 ((Gj m).map W.str)) (Bt 1 [0] (Cv ns (Ab 1)) (Bg 0) (λ_=>pure true) (Cm (aA7 ns)) [some (.int i),some (.ref r1),none,none,none,none]) ((Hd m i).map Hr):=by
  have he:∀t,Pu (SP.any.at r1 ((Gj m).map W.str)) (Cm (aA7 ns) [some t,some (.int i)]) (.tup [t,(W9 i).w]):=λt=>Dj (Aa (Af rfl) (Aa (Rq (Aa Ah8 (Aa (Dj (Aa Ad (Aa (Aj Ad (Aj (Aj (Af rfl) Ad Cu) Ad Cd) Di) (Aa Ad Ac))) (show 3<=big by decide)) Ac)) (show 2<=big by decide) (Aj (Aj (Af rfl) Ad Cu) Ad Cd) (Awx i hi)) Ac)) (show 2<=big by decide)
  have h:=Aib (ns:=ns) (P:=SP.any.at r1 ((Gj m).map W.str)) (r:=r1) (ls:=(Gj m).map W.str) (Z:=[some (.int i),some (.ref r1),none,none,none,none]) (k:=1) (cap:=[0]) (cs:=[some (.int i)]) (ψ:=λt=>.tup [t,(W9 i).w]) (λT hT=>hT.2) rfl rfl (by rw[aA,Gv];omega) λt _=>he t
  rw[bB] at h;unfold Hd;rw[bB];exact h
 refine Cw (Hq hr ⟨trivial,h1⟩ λr2 S2 f2 h2 _=>?_);have lenK:((Gj m).map W.str).length=m:=by rw[aA,Gv]
 let Q2:SP:=(SP.any.at r1 ((Gj m).map W.str)).at r2 ((Hd m i).map Hr);have e1:Pu Q2 (Cp (Ep ns) (yA (Ab 2)) [some (.int i),some (.ref r1),some (.ref r2),none,none,none]) (.tup ((Hd m i).map Hr)):=Rt (P:=Q2) (r:=r2) (λT hT=>hT.2) rfl;have e2:Pu Q2 (Cp (Ep ns) (yA (Ab 1)) [some (.int i),some (.ref r1),some (.ref r2),none,none,none]) (.tup ((Gj m).map W.str)):=Rt (P:=Q2) (r:=r1) (λT hT=>hT.1.2) rfl;have e3:Pu Q2 (Cp (Bw ns) (yA (Ab 1)) [some (.int i),some (.ref r1),some (.ref r2),none,none,none]) (.int m):=(Ru (P:=Q2) (r:=r1) (ws:=(Gj m).map W.str) (λT hT=>hT.1.2) rfl).cast (by rw[lenK])
 have e4:Pu Q2 (Cp (Ep ns) (yA (aD4 ns)) [some (.int i),some (.ref r1),some (.ref r2),none,none,none]) (.tup ((bG (m+1) (5:Int)).map W.int)):=Au8 (Aw0 (k:=m+1) (by omega) ((Aj e3 Ad Di).cast rfl))
 refine Aia (ws:=[.tup [.str "leaf",.tup ((Hd m i).map Hr)],.tup [.str "fork",.tup ((Gj m).map W.str),.tup ((bG (m+1) (5:Int)).map W.int)]]) (Hq (P:=Q2) (Ge (Aa (Dj (Aa Ad (Aa e1 Ac)) (show 2<=big by decide)) (Aa (Dj (Aa Ad (Aa e2 (Aa e4 Ac))) (show 3<=big by decide)) Ac)) (show 2<=big by decide)) ⟨⟨trivial,f2.at0 h1⟩,h2⟩ λq S3 f3 hq _=>⟨q,rfl,hq,?_⟩)
 have f03:=(f1.then0 f2).then0 f3;refine R0 (ws:=[.tup [.str "leaf",.tup ((Hd m i).map Hr)],.tup [.str "fork",.tup ((Gj m).map W.str),.tup ((bG (m+1) (5:Int)).map W.int)]]) (J:=λj Z T=>∃x3 x4,Z=[some (.int i),some (.ref r1),some (.ref r2),x3,x4,none]/\T[q]?=some (.lst [.tup [.str "leaf",.tup ((Hd m i).map Hr)],.tup [.str "fork",.tup ((Gj m).map W.str),.tup ((bG (m+1) (5:Int)).map W.int)]])/\Fr [] S T) ?_ ?_ ?_ _ 0 _ _ ⟨none,none,rfl,hq,f03⟩ (dU _) (show 2 < 2+1+0 by decide)
 .rintro j Z T ⟨x3,x4,rfl,h,_⟩;exact h
 .rintro j w Z T hw ⟨x3,x4,rfl,h,f⟩;refine⟨_,rfl,?_⟩;have M:∀T,Many T ns i w:=by
   match j,hw with
   |0,hw=>cases hw;exact hL
   |1,hw=>cases hw;exact hF
   |j+2,hw=>cases hw
  exact Asa M λx4 T' f'=>⟨_,_,rfl,f'.at0 h,f.then0 f'⟩
 .rintro Z T ⟨x3,x4,rfl,h,f⟩;refine Cw (Hq (P:=SP.any) (ws:=[Pg.leaf [("a",.inn (lawT i 63))],Pg.rest (lawT i 400) (i % 4096)].map Pg.w) (Ge (Aa (Dj (Aa Ad (Aa (Dj (Aa (Dj (Aa Ad (Aa (Dj (Aa Ad (Aa (Ae (Aa (Af rfl) (Aa Ad Ac)) (Pb (size:=63) (by decide))) Ac)) (show 2<=big by decide)) Ac)) (show 2<=big by decide)) Ac) (show 1<=big by decide)) Ac)) (show 2<=big by decide)) (Aa (Dj (Aa Ad (Aa (Ae (Aa (Af rfl) (Aa Ad Ac)) (Pb (size:=400) (by decide))) (Aa (Aj (Af rfl) Ad Cd) Ac))) (show 3<=big by decide)) Ac)) (show 2<=big by decide)) trivial λr5 T1 g1 h5 _=>?_)
  refine Iw (Cr (P:=SP.any.at r5 ([Pg.leaf [("a",.inn (lawT i 63))],Pg.rest (lawT i 400) (i % 4096)].map Pg.w)) (a:=.bl true) ?_ ⟨trivial,h5⟩ λT2 g2=>⟨rfl,(f.then0 g1).then0 g2⟩);refine(Wz (τ:=λ_=>true) (xs:=[Pg.leaf [("a",.inn (lawT i 63))],Pg.rest (lawT i 400) (i % 4096)].map λp=>(p.w,PyData.none)) (n:=r5) (λT hT=>by rw[bB];exact hT.2) rfl (by rw[aA];exact(by decide:2<=1000)) rfl λx hx=>?_).cast rfl
  obtain⟨p,hp,rfl⟩:=bU.mp hx;have ok:p.ok:=by
   simp only[bF,bT,or_false] at hp;rcases hp with rfl|rfl
   .exact Asb i
   .exact Asc i
  exact(Gf (Ah (Ae (Aa (Af rfl) Ac) (Abt ok)) Ad Bhi) (Ah (Ae (Aa (Af rfl) Ac) (Sq ok)) (Ae (Aa (Af rfl) Ac) (Adv ok)) Bc)).cast (by simp)
end
theorem Bbq(i:Int)(hi:0<=i):∃L:Nat,atI [W.int 400,.int 401,.int 12,.int 13] (i / 15 % 4)=some (.int (L:Int))/\L<=401:=by
 have:i / 15 % 4=0\/i / 15 % 4=1\/i / 15 % 4=2\/i / 15 % 4=3:=by omega
 rcases this with h|h|h|h <;> rw[h]
 .exact⟨400,rfl,by decide⟩
 .exact⟨401,rfl,by decide⟩
 .exact⟨12,rfl,by decide⟩
 .exact⟨13,rfl,by decide⟩
section
variable{ns:List Int}{i:Int}
def Aee{k:Int}(h0:-1000000<=k)(h1:k<=1000000):Tn S (.int k) (.int k):=⟨.int k,.inl (Ah4 h0 h1)⟩
theorem Ao7{L:Nat}(h:L<=500):Tn S (.str (lawT i L)) (.str (lawT i L)):=⟨.str _,.inl (Ah3 (Su _ _) (by rw[Jd];omega))⟩
noncomputable def ten(i:Int)(a b c:Nat):List W:=[.non,.bl true,.str "64",.ref a,.ref b,.tup [.str "a"],.ref c,.str "a\n",.str "\t",.int (i % 300)]
theorem Aw1{a b c:Nat}(ha:S[a]?=some (.lst []))(hb:S[b]?=some (.lst [.str "a"]))(hc:S[c]?=some (.dct [])):∀t∈ten i a b c,∃d,Tn S t d:=by
 intro t ht;unfold ten at ht;simp only[bF,bT,or_false] at ht;rcases ht with rfl|rfl|rfl|rfl|rfl|rfl|rfl|rfl|rfl|rfl
 .exact⟨_,.non,.inl rfl⟩
 .exact⟨_,.bl _,.inl rfl⟩
 .exact⟨_,.str _,.inl (by decide +kernel)⟩
 .exact⟨_,.lst ha .nil,.inl rfl⟩
 .exact⟨_,.lst hb (.cons (.str _) .nil),.inl (by decide +kernel)⟩
 .exact⟨_,.tup (.cons (.str _) .nil),.inl (by decide +kernel)⟩
 .exact⟨_,.dct hc,.inr rfl⟩
 .exact⟨_,.str _,.inl (by decide +kernel)⟩
 .exact⟨_,.str _,.inl (by decide +kernel)⟩
 .exact⟨_,Aee (by omega) (by omega)⟩
theorem Bhk(hi:0<=i):Wm (ixF ns aB4 (Ai .mod (Ai .fdiv (Ab 2) (kI 60)) (kI 10)) [x0,x1,some (.int i),x3,x4,x5,x6,x7,x8,x9]) S λt S'=>Fr [] S S'/\∃d,Tn S' t d:=by
 refine Avf ⟨.ref (S ++ [Cell.lst []] ++ [Cell.lst [.str "a"]] ++ [Cell.dct []]).length,S ++ [Cell.lst []] ++ [Cell.lst [.str "a"]] ++ [Cell.dct []] ++ [Cell.lst (ten i S.length (S ++ [Cell.lst []]).length (S ++ [Cell.lst []] ++ [Cell.lst [.str "a"]]).length)],rfl,?_⟩;have f:Fr [] S (S ++ [Cell.lst []] ++ [Cell.lst [.str "a"]] ++ [Cell.dct []]):=(Fr.app.then0 Fr.app).then0 Fr.app;have g:=Aw1 (i:=i) (S:=S ++ [Cell.lst []] ++ [Cell.lst [.str "a"]] ++ [Cell.dct []]) (Hm (Hm Fo)) (Hm Fo) Fo;have hl:(ten i S.length (S ++ [Cell.lst []]).length (S ++ [Cell.lst []] ++ [Cell.lst [.str "a"]]).length).length=10:=rfl;generalize ten i S.length (S ++ [Cell.lst []]).length (S ++ [Cell.lst []] ++ [Cell.lst [.str "a"]]).length=lt at g hl;generalize S ++ [Cell.lst []] ++ [Cell.lst [.str "a"]] ++ [Cell.dct []]=T at f g;obtain⟨t,ht⟩:=Ao3 (ws:=lt) (i:=i / 60) (by omega)
 rw[hl] at ht;refine Cr (P:=SP.any) (Aj (Aj (Af rfl) Ad Cu) Ad Cd) trivial λT1 f1=>?_;refine Ame (f1.at0 Fo) ht ?_;obtain⟨d,hd⟩:=g t (Ao2 ht);exact⟨(f.then0 Fr.app).then0 f1,d,(hd.fr Fr.app).fr f1⟩
theorem Bl8(hi:0<=i):∃v,atI [W.int 63,.int 201,.non,.str "64",.bl true,.int (-5),.int (201+i)] (i / 9 % 7)=some v/\∀S,Pu (Al S) (Jq ns [v]) (.bl false):=by
 have:i / 9 % 7=0\/i / 9 % 7=1\/i / 9 % 7=2\/i / 9 % 7=3\/i / 9 % 7=4\/i / 9 % 7=5\/i / 9 % 7=6:=by omega
 rcases this with h|h|h|h|h|h|h <;> rw[h]
 .exact⟨_,rfl,λS=>(Ss 63).cast rfl⟩
 .exact⟨_,rfl,λS=>(Ss 201).cast rfl⟩
 .exact⟨_,rfl,λS=>Wx ⟨.non,.inl rfl⟩⟩
 .exact⟨_,rfl,λS=>Wx ⟨.str _,.inl (by decide +kernel)⟩⟩
 .exact⟨_,rfl,λS=>Wx ⟨.bl _,.inl rfl⟩⟩
 .exact⟨_,rfl,λS=>(Ss (-5)).cast rfl⟩
 .refine⟨_,rfl,λS=>(Ss (201+i)).cast ?_⟩;rw[decide_eq_false (show ¬ 201+i<=200 by omega),jM]
theorem Bbr(h:Tn S (.tup ws) (.tuple ds)):Pu (Al S) (Fx .NotEq (.tup ws) (.tup [])) (.bl (!ds.isEmpty)):=λT ⟨G,hG⟩=>⟨[],by
 subst hG;show eqD true (.tup ws) (.tup []) (S ++ G)=_;have h1:=(h.r.app G).up (show 8<=16 by decide)
 have k:(mF ds).canLay0=true:=by rcases h.k with k|k;exact Am3 k;cases k
 unfold eqD;rw[h1.deref,show Gg (S ++ G) 16 (.tup [])=some (.tuple []) from rfl];dsimp only;have z1:cO (.tuple ds)=true:=by unfold cO;rw[k,decide_eq_true (aD h1.depth (by decide))];rfl
 rw[z1,show cO (.tuple [])=true from rfl,bJ];cases ds <;> rfl⟩
def Abw(h:Pu P (t Z) false):Pu P (Vj t u Z) false:=h.bind Pu.pure
theorem Aef{b:Nat}(hc:K4 1 [6] Z=[none,some v])(h:Wm (f Z) S (Anb S b))(q:∀S',Fr [] S S'->Q (.bl true) S'):
  Wm (Cp Jm (yA (Bt 1 [6] (Cv ns f) (Bg 0) (λ_=>pure true) (zB (Ce ns) (Ab 0) (Ab 1)))) Z) S Q:=by
 obtain⟨w,S1,e,r,ws,rfl,hr,f1,hl,g⟩:=h;have e1:Cv ns f Z S=.ok (.liv r) S1:=by
  unfold Cv;rw[Bp,e];dsimp only;unfold Aqd;dsimp only;rw[hr]
 let Q1:SP:=(Al S1).at r ws;have hp:PuL Q1 (Bt 1 [6] (λ_=>pure (.liv r)) (Bg 0) (λ_=>pure true) (zB (Ce ns) (Ab 0) (Ab 1)) Z) (ws.map λ_=>W.bl true):=by
  have h:=Sh (P:=Q1) (xs:=ws) (φ:=λt=>t) (ψ:=λ_=>W.bl true) (τ:=λ_=>true) (s:=Bg 0) (t:=λ_=>pure true) (e:=Cp (Ce ns) (yB (Ab 0) (Ab 1))) (k:=1) (cap:=[6]) (Z:=Z) (src:=λ_=>pure (.liv r)) (n:=r) (λS hS=>by rw[wC];exact hS.2) Pu.pure Lx (λx hx=>⟨Pu.pure,λ_=>?_⟩) ⟨none,hc⟩ (aD hl (by decide))
  .rw[fH.mpr (λ_ _=>rfl)] at h;exact h
  .obtain⟨d,hd⟩:=g x hx;exact Ae (Aa (Af rfl) (Aa (Af rfl) Ac)) (Ahz (W5 (hd.tn (by decide))) λT hT=>hT.1)
 have ha:=K6 (bs:=ws.map λ_=>true) (f:=Bt 1 [6] (λ_=>pure (.liv r)) (Bg 0) (λ_=>pure true) (zB (Ce ns) (Ab 0) (Ab 1))) (Z:=Z) (P:=Q1) (by rw[bB];exact hp)
 have eq:Cp Jm (yA (Bt 1 [6] (Cv ns f) (Bg 0) (λ_=>pure true) (zB (Ce ns) (Ab 0) (Ab 1)))) Z S=Cp Jm (yA (Bt 1 [6] (λ_=>pure (.liv r)) (Bg 0) (λ_=>pure true) (zB (Ce ns) (Ab 0) (Ab 1)))) Z S1:=by
  unfold Cp yA Ci Bt;simp only[Bp,e1];rfl
 obtain⟨G,e2⟩:=ha S1 ⟨Eo,hr⟩;refine⟨.bl true,S1 ++ G,?_,q _ (f1.then0 Fr.app)⟩;rw[eq,e2]
 congr 2
 rw[jF];exact cG.mpr λ_ _=>rfl
end
section
variable{ns:List Int}{i:Int}
abbrev Told:RS->Prop:=Xl λw _=>w=.bl true
theorem Ao8{b b':MS}{Z:De}{w v:W}{d:bK}{K:RS->Prop}{k:Nat}{g:De->M W}(h:Tn S w d)(hv:Z[k]?=some (some w))(hg:Pu (Al S) (g Z) v)(q:∀S',Fr [] S S'->Wb b' Z S' K):Wb (An (ifS (Ea (Bf (zB (Ce ns) (Ab k) g))) b Aw) b') Z S K:=
 Fp (Cr (P:=Al S) (Az (Ag (Ae (Aa (Af hv) (Aa hg Ac)) (W5 h)))) Eo λS' f=>⟨rfl,q S' f⟩)
theorem Bbs{b b':MS}{p:Pg}{size:Int}{x0 x1 x3 x4 x5 x8 x9:Option W}{K:RS->Prop}(h:p.ok)(hi:0<=i)(q:∀S',Fr [] S S'->Wb b' [x0,x1,some (.int i),x3,x4,x5,some (.int size),some p.w,x8,x9] S' K):
  Wb (An (ifS (aC5 ns) (An (ifS (aC4 ns) b Aw) Aw) Aw) b') [x0,x1,some (.int i),x3,x4,x5,some (.int size),some p.w,x8,x9] S K:=by
 have inn:∀{w:W} {ws:List W} {z:Str},w=.tup (.str z::ws)->Pu (Al S) (Bf (Cq .In (ixF ns (Ab 7) (kI 0)) (Cm (yB (kS "leaf") (kS "fork")))) [x0,x1,some (.int i),x3,x4,x5,some (.int size),some w,x8,x9]) (("leaf":Str)==z||(("fork":Str)==z||false)):=λe=>by
  subst e;exact Ag (Ah (Av (Af rfl) Ad (Ak ix0)) (Dj (Aa Ad (Aa Ad Ac)) (show 2<=big by decide)) Pu.pure)
 have ne2:∀{w:W} {ws X:List W} {z:Str} {ds:List bK},w=.tup (.str z::.tup X::ws)->Tn S (.tup X) (.tuple ds)->Pu (Al S) (Bf (Cq .NotEq (ixF ns (Ab 7) (kI 1)) (Cm nilF)) [x0,x1,some (.int i),x3,x4,x5,some (.int size),some w,x8,x9]) (!ds.isEmpty):=λe hT=>by
  subst e;exact Ag (Ah (Av (Af rfl) Ad (Ak ix1)) (Dj Ac (by decide)) (Bbr hT))
 cases p with
 |leaf rs=>
  have hT:Tn S (.tup (rs.map Hr)) (.tuple (rs.map Ah2)):=by
   have e:=(W6 (S:=S) h.2.1 (by have:=h.1;omega)).tup (by rw[aA];have:=h.1;omega)
   rw[bB,bB] at e;exact e.tn (by decide)
  have c:=Nv (inn (w:=.tup [.str "leaf",.tup (rs.map Hr)]) rfl) (ne2 (w:=.tup [.str "leaf",.tup (rs.map Hr)]) rfl hT);cases hr:(rs.map Ah2).isEmpty with
  |true=>
   rw[hr] at c;exact Fp (Cr c Eo λS1 f1=>⟨by decide +kernel,q S1 f1⟩)
  |false=>
   rw[hr] at c;refine K7 (Cr c Eo λS1 f1=>⟨by decide +kernel,?_⟩)
   have hx:∀T:Store,Els T 2 52000 (rs.map λr=>(Hr r,Ah2 r)):=λT=>W6 h.2.1 (by have:=h.1;omega)
   have hb:=Ar2 (S:=S1) (ns:=ns) (i:=i) hx (by rw[aA];have:=h.1;omega) (by rw[aA];cases rs with|nil=>cases hr|cons _ _=>exact wB _) hi
   rw[bB] at hb;refine Fp (Ahi (We (p:=true) (Aef rfl (Et (Bu (Ec rfl (Bu (Ec rfl (Ek hb)))))) λS2 f2=>⟨rfl,rfl,?_⟩)));exact Hh (q S2 (f1.then0 f2))
 |fork ks ps=>
  obtain⟨⟨h1,h2,h3⟩,h4,h5⟩:=h;have hT:Tn S (.tup (ks.map W.str)) (.tuple (ks.map fJ)):=by
   have e:=(W7 (S:=S) h2 (by omega)).tup (by rw[aA];omega)
   rw[bB,bB] at e;exact e.tn (by decide)
  have c:=Nv (inn (w:=.tup [.str "fork",.tup (ks.map W.str),.tup (ps.map W.int)]) rfl) (ne2 (w:=.tup [.str "fork",.tup (ks.map W.str),.tup (ps.map W.int)]) rfl hT);cases hr:(ks.map fJ).isEmpty with
  |true=>
   rw[hr] at c;exact Fp (Cr c Eo λS1 f1=>⟨by decide +kernel,q S1 f1⟩)
  |false=>
   rw[hr] at c;refine K7 (Cr c Eo λS1 f1=>⟨by decide +kernel,?_⟩)
   have hb:=Ar3 (S:=S1) (ns:=ns) (i:=i) (xs:=ks.map λk=>(W.str k,fJ k)) (ks:=ps.map λp=>(W.int p,iC p)) (λT=>W7 h2 (by omega)) (by rw[aA];omega) (by rw[aA];cases ks with|nil=>cases hr|cons _ _=>exact wB _) (λT=>Ad3 (λp hp=>by have:=Ah5 (h5 p hp) (by decide);omega) (by omega)) (by rw[aA];omega) hi
   rw[bB,bB] at hb;refine Fp (Ahi (We (p:=true) (Aef rfl (Et (Bu (Ec rfl (Bu (Ec rfl (Ek hb)))))) λS2 f2=>⟨rfl,rfl,?_⟩)));exact Hh (q S2 (f1.then0 f2))
 |head a b c d=>exact Fp (Cr (Abw ((inn (w:=.tup [.str "head",.int a,.int b,.int c,.int d]) rfl).cast (by decide +kernel))) Eo λS1 f1=>⟨rfl,q S1 f1⟩)
 |rest t n=>exact Fp (Cr (Abw ((inn (w:=.tup [.str "rest",.str t,.int n]) rfl).cast (by decide +kernel))) Eo λS1 f1=>⟨rfl,q S1 f1⟩)
 |free n=>exact Fp (Cr (Abw ((inn (w:=.tup [.str "free",.int n]) rfl).cast (by decide +kernel))) Eo λS1 f1=>⟨rfl,q S1 f1⟩)
theorem Aky{p:Pg}{t:W}{d:bK}{size:Int}{bb:Nat}{x0 x1 x3 x5 x8 x9:Option W}(hp:p.ok)(hi:0<=i)(hs:64<=size/\size<=200)(ht:El S 7 bb t d)(hb:bb<=sizeLine):
  Wb (aA1 ns) [x0,x1,some (.int i),x3,some t,x5,some (.int size),some p.w,x8,x9] S Told:=by
 refine Cw (Et (Bu (Ec rfl (Ek ⟨_,S,Aoy ht (by decide) hb,?_⟩))))
 refine Fp (Cr (P:=Al S) (Ej (Az (Ag (Ae (Aa (Af rfl) (Aa (Af rfl) Ac)) (W5 (ht.tn (by decide)))))) (Az (Ag (Ae (Aa (Af rfl) (Aa (Af rfl) Ac)) (W5 ((Ao0 hp).tn (by decide))))))) Eo λS1 f1=>⟨rfl,?_⟩)
 refine Bbs hp hi λS2 f2=>?_;obtain⟨v,hv,hz⟩:=Bl8 (ns:=ns) hi;refine Cw (Cr (P:=SP.any) (Rq (Aa Ad (Aa Ad (Aa Ad (Aa Ad (Aa Ad (Aa (Aht Ad) (Aa (Aj Ad (Af rfl) Di) Ac))))))) (show 7<=big by decide) (Aj (Aj (Af rfl) Ad Cu) Ad Cd) hv) trivial λS3 f3=>?_)
 have f03:=(f1.then0 f2).then0 f3;have ht3:=ht.fr0 f03;have fin:∀S',Fr [] S S'->Wb (rQ (Cq .Eq (zA Tj (Ab 4)) (Ab 8))) [x0,x1,some (.int i),x3,some t,x5,some (.int size),some p.w,some (.str d.shown),some v] S' Told:=λS' f=>by
  refine Iw (Amb (Et (Bu (Ec rfl (Ek ⟨_,S',Aoy (ht.fr0 f) (by decide) hb,?_⟩)))))
  refine Ec rfl (Cr (P:=SP.any) Bc trivial λS4 f4=>?_);show W.bl (d.shown==d.shown)=.bl true;rw[beq_self_eq_true]
 cases hpg:Jj d with
 |false=>
  refine K7 (Cr (P:=Al S3) (Az (Ag (Ae (Aa (Af rfl) Ac) (Aab (ht3.tn (by decide)))))) Eo λS4 f4=>⟨by rw[hpg];rfl,?_⟩)
  have t4:=(ht3.fr0 f4).tn (show 7<=8 by decide)
  have h3:PuL (Al S4) (Bt 1 [9,4] (J4 Fj (yA (kI 3))) (Bg 0) (λ_=>pure true) (zC (Bm ns) (Ab 0) (Ab 2) (Ab 1)) [x0,x1,some (.int i),x3,some t,x5,some (.int size),some p.w,some (.str d.shown),some v]) ((["page","page","page"]:List Str).map W.str):=
   Aeb (v:=.non) (s:=.non) (cs:=[some v,some t]) rfl (Ae (Aa (Af rfl) (Aa (Af rfl) (Aa (Af rfl) Ac))) (ref0 (.inl ⟨rfl,rfl⟩) (nobody t4 hpg))) (Ae (Aa (Af rfl) (Aa (Af rfl) (Aa (Af rfl) Ac))) (Bkj (.inl ⟨rfl,rfl⟩) (Aox t4 hpg))) (Ae (Aa (Af rfl) (Aa (Af rfl) (Aa (Af rfl) Ac))) (Bbb (.inl ⟨rfl,rfl⟩) (Awo t4 hpg)))
  refine Fp (We (p:=false) (Amb (Hq (P:=Al S4) h3 Eo λq S5 f5 hq _=>?_)));refine Iv (Amc (Bu (Xi (Ek ⟨show 1<=big by decide,?_⟩))))
  refine Xi ⟨.ref (S5 ++ [Cell.lst [.str "page"]]).length,S5 ++ [Cell.lst [.str "page"]] ++ [Cell.lst ((["page","page","page"]:List Str).map W.str)],?_,?_⟩
  .show Ag2 (.ref S5.length) (.int 3) (S5 ++ [Cell.lst [.str "page"]])=_;unfold Ag2;dsimp only;rw[Fo];rfl
  refine⟨_,_,Ao6 (l:=["page","page","page"]) (Hm (Hm hq)) Fo (by decide +kernel),rfl,rfl,?_⟩
  exact Hh (fin _ ((((f03.then0 f4).then0 f5).then0 Fr.app).then0 Fr.app))
 |true=>
  refine Bgj (Cr (P:=Al S3) (Az (Ag (Ae (Aa (Af rfl) Ac) (Aab (ht3.tn (by decide)))))) Eo λS4 f4=>⟨by rw[hpg];rfl,?_⟩)
  obtain⟨p',ok',e'⟩:=Arw ((ht3.fr0 f4).tn (show 7<=8 by decide)) hpg
  refine Fp (Cr (P:=Al S4) (Ag (Ah (Ae (Aa Ad (Aa (Af rfl) (Aa (Af rfl) Ac))) (Bbb (.inr ⟨rfl,rfl⟩) (by rw[e'];exact Avz ok' (hz S4)))) Ad Vm)) Eo λS5 f5=>⟨by rw[beq_self_eq_true];rfl,?_⟩)
  exact Hh (fin _ ((f03.then0 f4).then0 f5))
end
noncomputable def six(i:Int)(L:Nat):List W:=[.str (lawT i (i % 15).toNat),.str (lawT i L),.int 63,.int 64,.int 200,.int 201]
theorem Bhl{i:Int}{L:Nat}(hi:0<=i)(h:L<=401):∀t∈six i L,∃d,Tn S t d:=by
 intro t ht;unfold six at ht;simp only[bF,bT,or_false] at ht;rcases ht with rfl|rfl|rfl|rfl|rfl|rfl
 .exact⟨_,Ao7 (by omega)⟩
 .exact⟨_,Ao7 (by omega)⟩
 .exact⟨_,Aee (by decide) (by decide)⟩
 .exact⟨_,Aee (by decide) (by decide)⟩
 .exact⟨_,Aee (by decide) (by decide)⟩
 .exact⟨_,Aee (by decide) (by decide)⟩
theorem law_holds(ns:List Int)(_:ns.length<=63):∃S',Aoj ns [.scr] []=.ok (.bl true) S':=by
 suffices h:Wm (Aoj ns [.scr]) [] (λw _=>w=.bl true) by
  obtain⟨w,S',e,rfl⟩:=h;exact⟨S',e⟩
 refine Mj rfl ?_;refine Cw (f:=M3 [((kS "cells"),(Ab 0)),((kS "at"),(kI 0))]) ⟨.ref 0,[stD 0],?_,?_⟩
 .have:J7 [] [(.inr "cells",.scr),(.inr "at",.int 0)]=[((.inr "cells":Key),W.scr),(.inr "at",.int 0)]:=by kernel_rfl
  show R.ok (W.ref 0) [Cell.dct (J7 [] [(.inr "cells",.scr),(.inr "at",.int 0)])]=_;rw[this];rfl
 refine Cw (Je rfl (S:=[stD 0]) (k:=0) rfl (by decide) (by decide) λi S1 _ h1 hi=>?_)
 obtain⟨L,hL,hL2⟩:=Bbq i hi;refine Cw (Cr (P:=SP.any) (Ae (Aa (Af rfl) (Aa (Rq (Aa Ad (Aa Ad (Aa Ad (Aa Ad Ac)))) (show 4<=big by decide) (Aj (Aj (Af rfl) Ad Cu) Ad Cd) hL) Ac)) (Pb (size:=L) (by omega))) trivial λS2 f2=>?_)
 have h2:=f2.at0 h1;have tx:Pu SP.any (Ez ns [.int i,.int (i % 15)]) (.str (lawT i (i % 15).toNat)):=by
  have:=Pb (P:=SP.any) (ns:=ns) (n:=i) (size:=(i % 15).toNat) (by omega)
  rw[show (((i % 15).toNat:Nat):Int)=i % 15 by omega] at this
  exact this
 refine Aia (ws:=six i L) (Hq (P:=SP.any) (Ge (Aa (Ae (Aa (Af rfl) (Aa (Aj (Af rfl) Ad Cd) Ac)) tx) (Aa (Af rfl) (Aa Ad (Aa Ad (Aa Ad (Aa Ad Ac)))))) (show 6<=big by decide)) trivial λq S3 f3 hq _=>⟨q,rfl,hq,?_⟩)
 have h3:=f3.at0 h2;refine R0 (ws:=six i L) (J:=λj Z T=>∃x4,Z=[some .scr,some (.ref 0),some (.int i),some (.str (lawT i L)),x4,none,none,none,none,none]/\T[q]?=some (.lst (six i L))/\T[0]?=some (stD 1)) ?_ ?_ ?_ _ 0 _ _ ⟨none,rfl,hq,h3⟩ (dU _) (show 6 < 6+1+0 by decide)
 .rintro j Z T ⟨x4,rfl,h,_⟩;exact h
 .rintro j w Z T hw ⟨x4,rfl,h,h'⟩;refine⟨_,rfl,?_⟩;obtain⟨d,hd⟩:=Bhl (S:=T) hi hL2 w (gU hw);refine Ao8 hd rfl Ad λT' f'=>?_;exact Hh ⟨_,rfl,f'.at0 h,f'.at0 h'⟩
 rintro Z T ⟨x4,rfl,_,hT⟩;refine Cw (Cz (Bhk hi) λt T1 zz=>?_);obtain⟨e1,d,hd⟩:=zz;refine Ao8 hd rfl Ad λT2 e2=>?_;have hT2:=(e1.then0 e2).at0 hT;have many:∀b':MS,(∀T3,T3[0]?=some (stD 1)->Wb b' [some .scr,some (.ref 0),some (.int i),some (.str (lawT i L)),x4,some t,none,none,none,none] T3 Told)->Wb (An (aC1 ns) b') [some .scr,some (.ref 0),some (.int i),some (.str (lawT i L)),x4,some t,none,none,none,none] T2 Told:=λb' k=>by
  have c:Pu SP.any (Bf (Cq .Eq (Ai .mod (Ai .fdiv (Ab 2) (kI 5)) (kI 9)) (kI 1)) [some .scr,some (.ref 0),some (.int i),some (.str (lawT i L)),x4,some t,none,none,none,none]) (i / 5 % 9==1):=Ag (Ah (Aj (Aj (Af rfl) Ad Cu) Ad Cd) Ad Ff);cases hc:(i / 5 % 9==1) with
  |false=>
   rw[hc] at c;exact Fp (Cr (Abw c) trivial λT3 e3=>⟨rfl,k T3 (e3.at0 hT2)⟩)
  |true=>
   rw[hc] at c;refine Fp (Baa (Cr c trivial λT3 e3=>⟨rfl,?_⟩));refine Ahi (We (p:=true) (Abq (P:=SP.any) (Aa (Aj (Af rfl) Ad Cu) Ac) trivial λT4 e4=>Cz (Bbp (xQ hi (by decide))) λv T5 ⟨hv,e5⟩=>⟨hv,rfl,?_⟩))
   exact k T5 (((e3.then0 e4).then0 e5).at0 hT2)
 refine many _ λT3 hT3=>?_;refine Cw (Cr (P:=SP.any) (Aj Ad (Aj (Aj (Af rfl) Ad Cu) Ad Cd) Di) trivial λT4 e4=>?_);refine Cw (Et (Bu (Ec rfl (Bu (Ec rfl (Ek (Ba4 (by omega) (by omega) (e4.at0 hT3) (by decide) (by decide) λpw T5 hp=>?_)))))))
 obtain⟨k,_,hk,k1,k2,p,ok,rfl,_⟩:=hp;refine Cw (Ec rfl ?_);have hpe:El T5 4 60000 p.w p.d:=Ao0 ok;have c:Pu SP.any (Bf (Cq .Gt (Ai .mod (Ai .fdiv (Ab 2) (kI 1000)) (kI 3)) (kI 0)) [some .scr,some (.ref 0),some (.int i),some (.str (lawT i L)),some p.w,some t,some (.int (64+i / 7 % 137)),some p.w,none,none]) (decide (0 < i / 1000 % 3)):=Ag (Ah (Aj (Aj (Af rfl) Ad Cu) Ad Cd) Ad Ji);cases hc:decide (0 < i / 1000 % 3) with
 |false=>
  rw[hc] at c;refine Fp (Cr c trivial λT6 e6=>⟨rfl,?_⟩);exact Aky ok hi ⟨by omega,by omega⟩ ((hpe.fr0 e6).le (by decide) (aN _)) (by decide)
 |true=>
  rw[hc] at c;refine K7 (Cr c trivial λT6 e6=>⟨rfl,?_⟩);have h6:=hpe.fr0 e6;refine Cw (Et (Bu (Ec rfl (Bu (Ec rfl (Ek (Cz (Arz (n:=0) (ns:=ns) (⟨h6.r.up (by decide),h6.k,aN _⟩:El T6 5 (wt p.d) p.w p.d) (Bbh ok) (e6.at0 hk) (by omega) (by omega)) λu T7 hu=>?_)))))))
  obtain⟨k',_,_,_,_,du,hdu⟩:=hu;refine Hh ?_;have hb:=hpe.b;exact Aky ok hi ⟨by omega,by omega⟩ (hdu.le (aN _) (show 3 * wt p.d+6000<=186000 by omega)) (by decide)
end K3
open PySem PySem.W PyProof.Rows
set_option maxRecDepth 100000 in
set_option maxHeartbeats 0 in
theorem PySem.Challenge.cw_leafhouse_k03_keys_values_pages_holds : PySem.Challenge.rw_leafhouse_k03_keys_values_pages.Holds := by
 w_on;o_law;k_head;(case hw=>w_witness2)
 k_fill
 refine D.Auy (l:=PySem.Challenge.rw_leafhouse_k03_keys_values_pages) (k:=104) (x:="_law_script") rfl rfl ⟨λ_=>rfl,by decide,by decide,rfl⟩ (λw h yY=>PySem.W.kIn_of yY) ?F
 case F=>
  intro w mg fa h KX G hmg;refine' K3.all_mk KX G hmg K3.law_holds ?_ ?_ ?_ ?_ ?_ ?_ ?_ ?_ ?_ ?_ ?_ ?_ ?_ (D.Dt KX G ?_ ?_ ?_ ?_) (D.Dt KX G ?_ ?_ ?_ ?_) (D.Dt KX G ?_ ?_ ?_ ?_) (D.Dt KX G ?_ ?_ ?_ ?_) (D.Dt KX G ?_ ?_ ?_ ?_) (D.Dt KX G ?_ ?_ ?_ ?_) (D.Dt KX G ?_ ?_ ?_ ?_) (D.Dt KX G ?_ ?_ ?_ ?_) (D.Dt KX G ?_ ?_ ?_ ?_) (D.Dt KX G ?_ ?_ ?_ ?_) (D.Dt KX G ?_ ?_ ?_ ?_) (D.Dt KX G ?_ ?_ ?_ ?_) (D.Dt KX G ?_ ?_ ?_ ?_) (D.Dt KX G ?_ ?_ ?_ ?_) (D.Dt KX G ?_ ?_ ?_ ?_) (D.Dt KX G ?_ ?_ ?_ ?_) (D.Dt KX G ?_ ?_ ?_ ?_) (D.Dt KX G ?_ ?_ ?_ ?_) ?_ ?_ ?_ ?_ ?_ (D.Dt KX G ?_ ?_ ?_ ?_) (D.Dt KX G ?_ ?_ ?_ ?_) (D.Dt KX G ?_ ?_ ?_ ?_) (D.Dt KX G ?_ ?_ ?_ ?_) (D.Dt KX G ?_ ?_ ?_ ?_) (D.Dt KX G ?_ ?_ ?_ ?_) (D.Dt KX G ?_ ?_ ?_ ?_) (D.Dt KX G ?_ ?_ ?_ ?_) (D.Dt KX G ?_ ?_ ?_ ?_) (D.Dt KX G ?_ ?_ ?_ ?_) (D.Dt KX G ?_ ?_ ?_ ?_) (D.Dt KX G ?_ ?_ ?_ ?_) (D.Dt KX G ?_ ?_ ?_ ?_) (D.Dt KX G ?_ ?_ ?_ ?_) (D.Dt KX G ?_ ?_ ?_ ?_) (D.Dt KX G ?_ ?_ ?_ ?_) (D.Dt KX G ?_ ?_ ?_ ?_) (D.Dt KX G ?_ ?_ ?_ ?_) (D.Dt KX G ?_ ?_ ?_ ?_) (D.Dt KX G ?_ ?_ ?_ ?_) (D.Dt KX G ?_ ?_ ?_ ?_) (D.Dt KX G ?_ ?_ ?_ ?_) (D.Dt KX G ?_ ?_ ?_ ?_) (D.Dt KX G ?_ ?_ ?_ ?_) (D.Dt KX G ?_ ?_ ?_ ?_) (D.Dt KX G ?_ ?_ ?_ ?_) (D.Dt KX G ?_ ?_ ?_ ?_) ?_ ?_ ?_ ?_ ?_ ?_ ?_ ?_ ?_ ?_ ?_ ?_ ?_ ?_ ?_ ?_ ?_ ?_ ?_ ?_ ?_ ?_ ?_ ?_ ?_ ?_ ?_ ?_ ?_ ?_ ?_ ?_ ?_ ?_ ?_ ?_ ?_ ?_ ?_ ?_ ?_ ?_ ?_ ?_ ?_
  all_goals try k_is
  all_goals kernel_rfl
