import PyProof.Rows.All
import Wide.All
import OpenK.AllK
import Wide.FinOn
import Lean
import PyProof.EqAt
import PyProof.EqKinds
import PyProof.TupleCall
import PyProof.SetNew
import KE.KLam
import KE.KNestM
import PyProof.Conv_int_bool
import PySem.Challenge.RW_leafhouse_k07_writes_of_a_disk
set_option Elab.async false
set_option linter.all false
set_option maxRecDepth 100000
set_option maxHeartbeats 8000000
set_option autoImplicit true
set_option relaxedAutoImplicit true
set_option genSizeOf false
set_option compiler.extract_closed false
set_option bootstrap.genMatcherCode false
set_option tactic.hygienic false
noncomputable section
local macro_rules|`(#check $s:str)=>do
 let f:List Lean.Ident×Nat×Nat->Char->List Lean.Ident×Nat×Nat:=fun(l,n,v) c=>let v:=v*91+(c.toNat-if c.toNat<92 then 35 else 36);if n=9 then (l++[Lean.mkIdent (.mkSimple s!"tw{v}")],0,0) else (l,n+1,v)
 let i:=(s.getString.toList.foldl f ([],0,0)).1.toArray
 let n:=Lean.mkIdent `PySem.W.Fast
 `(structure $n:ident : Prop where ($i:ident* : True))
#check"ENu{Cz?8vK0o26*B:zPf8O06_O*52B>8%`UX]Z`{03tA._e7E35|k+m%BV-,3qos80{J4V>Sh#cyDmbaBigi61):IJ==I5U}@bR4>qy/*]kikB8%2Ch;^UMb#^*~Si~#y(KkW5)T4G/_)RbE>|Hk9R1AsyA~veUeIs#bv]{{qDLGUv/9i:4%$A7B$cz#|H4GG6w#Gm`+J[*M#b1L8aKb`eZ0u)vF)25kGi]}=.Fo^hfS=US.=-`/MxL?kC7:~f+_=f_<.?69o'%b/IKbK_7@gbYa%K':PF0A0NLz@@,YVA.n8$L*|CRc^jG^SU45lD?HJ'}d8ukd]v,H&z<KA<aDD#:*HbZfsX6d::M0fOjD>UP~C{C'L#EVK)1y$QgIBDkE%nJVJMB[^*VFqT1h3cCFYra+s9%j0[.$b&VDE>/9{%Z2XQ-?'FOVCxDG*N%vme)QF%)ZY6|nTjcLHUL%38uCZ%8#0n$[:c3FHfNq-<Gki_&>oL<)cNC[>m;7u3[[PZD]uziV<kL43%Y`gi<G>^D3iP`Yw7&]@9p(+Q/J@o:ruR,D2$rAKG}[T^r%/?(p-/=mnW.&C9}?xF8C=pGq*s5gVWW_=#i97@S.^F23nkADiyo,A,c$/at:8l@o&m;`&1Vu2D0WiL$J/y5TEHhE%%<BJl)&v[^/0Y+rA6)MN5BXAPvy#Gx419D58fNs1sTJ0H4uRN~p9Z<Ftcl[K`&--'r^Z`F01G2AoZPwG^HT0l[C<UWJB|60kxpfMO33+446#nLnVqCu<<[Z%eKo:ASh{HCofpJ2<^?*Y9j^.d*V1&3X&dA+^M2lH8>m$NA>6nKA~U=cigBcuWrFJQt{<Epr$*-?E6tSo1Pb<S[`~RLHJ7MuQmt|75rS(pFrE9Bt5]3p-)4k+;-~LXrx+1}Dg]@sk$mKtTHg*/:djXyV&d-Y>h>ZUgsBKEyp.j?P^G;Ha~ix:}b'&F/gK]P6-C7b<0,iLEiW(fI.AL))pfAT5GxsQEU]/l'eg'nX,D2r?8v?@<WA)bk[6eFABgHIJ}MYH%9zM]}.{F:}q@I<IVKdczD2@$x47GI4^V3yPPf<$O?j3u[<4F`IU$M%P}K8|mp@88P.{,7W8U=CRc)_ij.B(ACOCzTN=:=dI^6Az{pU3C>twp@{9,#vAe$|>nUA@6axDq.@qm',5rfpwN8'8rGXw5*r+v>;L3@C=J,jCX4p?NNA)C,wl0}-_To&A>g%,Xn@&C?&9ve.,Z31AF{F1IFU?6K8WHQ:%42RHGp/Dp'K^c>ZtQXBOtY35z$}ddlDm6Lm>d>`=ip,Gww|ZJ)48[@=M1&cYa08/D~`QcUt;(?R/SSw2WB)/Lkcr6VglV%,|-1)v&]=4MK6[P.-XL8/Kju3D?C|86|}gd$C<.1MUC#@1YwN/BJuUZ#tF(6g[Y=@gio*'*ZodBB(c:GaAOOVB{JV<[B#9jcjl|I$K%Qw.A0jD98_8.9<c*Cfy+kocg%H757^U0#oS/Jt/)r>Prq~0^E~%N?1jZ2%CX~Vx8a#(Lj}[4VuP[2?O[.rOE0-9MhQ0)EN?rF8hayt&vJI/BevED@Hy/2vtMmMx8*H(Df^>ARE600EWIn#f9wr68Nl[{Qi*;L@0^<Sg{|o0jS`E5RXf#+S%IaU*,,aJ*^O.B?JU;FIG[sC+d:p?ZwZogcb+J7]/9Zp-5G}.R#th_3Uz/'Es2Yc#tbzC+o{+:w/~J3=',DM]I}^Ii^3K9(2CDF6,*D)7O=mBW}6_Z:@GlJMPM:Q.b9G9k[h6;NY1NAr{ec_?(Pm8{OB#]2llM-k{LW~F6hi9skl_QyHjv#KNN?KW(7e++30ii94({$qM27^nhMe=57+zO*pFoKc8OMlJ8cw=3iuR6o(gf=#p[AKQ<:%8qx`sOJ}^+4e;@Ez)V5k,Sh&j2[Zc731f#mR.hNF-'>W-.Si]JMqEW*V~E<Z<VbDtF5DtPHVZPp$}V);,z3Li3Usy#KOpOu%H6_H626kgxqdxb$W$l@nf4/r"
open PySem renaming Str->t6,Obj->tu,Pos->o8
local macro_rules|`(tactic|let $x:ident:=$e)=>`(tactic|have $x:ident:=$e)|`(tactic|let $x:ident $t:typeSpec:=$e)=>`(tactic|have $x:ident $t:typeSpec:=$e)
abbrev lg:=List
abbrev o9:=Option
def dg:=@of_decide_eq_true
def dh:=@decide_eq_true_eq
def di:=@if_pos
def dj:=@decide_eq_true
def dm:=@if_neg
def dq:=@decide_eq_false
local macro_rules|`(tactic|rfl')=>`(tactic|kernel_rfl)
local macro_rules|`(tactic|omega)=>`(tactic|lia)
def p8:Nat->Lean.Term->Array Lean.Term->Lean.MacroM Lean.Term
|0,_,_=>Lean.Macro.throwUnsupported
|n+1,s,a=>match s with
 |`($f[$x])=>p8 n f (#[x]++a)
 |_=>pure (Lean.Syntax.mkApp s a)
local macro_rules|`($f[$x])=>p8 99 f #[x]
open Unit renaming unit->u9
open Prod renaming mk->u6
def u5:Nat->Lean.Syntax->Lean.MacroM (Lean.TSyntax `rcasesPat)
|0,_=>Lean.Macro.throwUnsupported
|n+1,s=>match s with
 |`(($a,$b,*))=>do `(rcasesPat|⟨$[$(←(#[a]++b.getElems).mapM λx=>do `(Lean.Parser.Tactic.rcasesPatLo|$(←u5 n x):rcasesPat))],*⟩)
 |`(_)=>`(rcasesPat|_)
 |`($i:ident)=>`(rcasesPat|$i:ident)
 |_=>Lean.Macro.throwUnsupported
local macro_rules|`(tactic|let ($a,$b,*):=$e)=>do `(tactic|obtain $(←u5 9 (←`(($a,$b,*)))):rcasesPat :=$e)
local macro_rules|`(($a,$b,*))=>`(⟨$a,$b,*⟩)|`(())=>`(by first|decide +kernel|omega|simpa)
local macro_rules|`(def $i:declId $s:optDeclSig :=$v)=>Lean.MonadRef.withRef .missing do if v.raw.isOfKind ``Lean.Parser.Term.byTactic||v.raw.isOfKind ``Lean.Parser.Term.paren then `(theorem $i $(Lean.mkNode ``Lean.Parser.Command.declSig #[s.raw.getArg 0,(s.raw.getArg 1).getArg 0]) :=$v) else `(noncomputable def $i:declId $s:optDeclSig :=$v)
local macro_rules|`(def $i:declId $s:optDeclSig $v:declValEqns)=>Lean.MonadRef.withRef .missing `(noncomputable def $i:declId $s:optDeclSig $v:declValEqns)
local macro_rules|`(nonrec def $i:declId $s:optDeclSig :=$v)=>`(set_option tactic.hygienic true in def $i:declId $s:optDeclSig :=$v)
local macro_rules|`(tactic|ac_rfl)=>`(tactic|exact(show False from $(Lean.mkIdent `h)).elim)
open Option renaming some->sr,none->sy
open Bool renaming true->t8,false->t7
open PySem renaming wpAny_bind->aA,Value->aF,wpAny_pure->aG,Addr->aH,Shared->aO,Expr->bO,Program->cD,Stmt->cO,wpAny_mono->cX,wpAny_callSpecial?_slot->dD,Heap->dI,wpAny_field->dJ,FuncData->dN,strKind->dR,World->dW,wpAny_call_entry->dY,wpAny_newObj_type->eO,Around->eQ,wpAny_Call_Name_kw->eU,wpAny_holding->eV,wpAny_loadPart_at->fK,wpAny_setField->fU,codeAny_call_builtin->gB,mem_of_lookup->gJ,wpAny_truthy_bool->gK,codeAny_mono->gQ,Scope->gR,wpAny_standAt->gZ,Keyword->iB,wpAny_seqItems->iD,codeAny_builtin->iM,wpAny_setField_rec->jJ,wpAny_setState_of->jT,wpAny_call->jX,Builtin->jY,wpAny_setEntries_of->kJ,PyData->lD,wpAny_askSetting->lG,wpAny_execs_nil->lX,NameKind->lZ,Paired->mG,codeAny_handlers_test->mH,wpAny_isInstance->mZ,wpAny_handleBy_cons->nG,ExceptHandler->nR,wpAny_attempt->nU,wpAny_passesOwn->nY,wpAny_ite_split->oA,tupleKind_room_in1->oG,wpAny_rule->oH,wpAny_pyIter_list->oO,wpAny_typeOf->oV,plainObj_wpAny_Assign_Attribute->oZ,IsPair->pK,plainId_quiet->pP,wpAny_updateSeq_pair->pW,codeAny_of_tree->qC,wpAny_isSubtype_exc->qI,Arguments->qU,wpAny_pyIter_tuple->qW,wpAny_fieldsOf->rE,sizeLine_eq->rN,wpAny_sequenceKey->rR,wpAny_of_eq->rW,fits_of_scanBound->rZ,wpAny_onRaise->sO,noFill_tuple_add->sW,wpAny_Try_except->sX,TriplesOk->tH,IsPart->tU,codeAny_handlers_suite->tW,weight_type_call_type->uG,GenState->uK,wpAny_throw->uM,wpAny_newFunctionEnv->uN,IsZip->uO,isSubtype_stop->uP,SetTable->uQ,isSubtype_type->uR,seq_tuple_add->vM,wpAny_handled->vP,CmpOp->vQ,Within->wH,concat_meets->wM,wpAny_pyIter_strU->wO,wpAny_pyIter_enum->wR,ExcBaseFacts->wV,wpAny_storeSet_of->wW,wpAny_pyIter_slot->wY,wpAny_setEpoch_of->wZ,slot_dict_getitem->xM,wpAny_execs_cons->xW,PassesOwn->xX,wpAny_lookBehind->xY,pastItsLine_dict->xZ,take_succ_filter->yG,wpAny_pyIter_zip->yK,entryFor_of_tree->yL,wpAny_letGo->yR,wpAny_updateSeq->zJ,BindsTo->zR,wpAny_Name->zT,wpAny_load->zU,wpAny_loadPart->zW,typeIs_str->aAa,typeIs_int->aAc,call_meets->aAd,wpAny_newTuple->aAg,arm_exec_Raise->aAh,wpAny_runValue->aAi,entryFor_alias->aAl,wpAny_bindName->aAp,intBits_le_64->aAx,call_list_seq->aAy,evalPart_none->aBb,Drawn->aBk,ClassData->aBn,wpAny_nsSet1->aBr,seqIndex_neg->aBs,OwnTail->aBt,OsState->aBu,ElemsOf->aBv,sub_set_self->aBw,Operator->aCr,call->aDk,Walks->aDu,Meets->aDv
open PySem.W renaming Frag->aB,mg_of->aY,nsIn->bA,mg_none_of->cC,findIn->cF,keepIn->cM,fnOf->cQ,exmOne->cU,hideAll->cY,hideAll_get->eG,kia_one->fQ,codeHdIn->gG,typeIn->iY,codeIn->iZ,callWith_K->jG,kla_obj->jO,kitOne->lB,of_hideAll->lL,envX->lR,instObj->lW,makesIn->lY,mroIn->mF,hasDictIn->mJ,emptyDict->mK,hideAll_none->mQ,tabObj->mU,kitAny->mV,callWith_K0->nM,funFrames_hide->oW,plainGet->pI,exm_one->pZ,plainGet_of->qH,lookIn->qX,plainOver->rO,specialIn->rP,clsIn->sJ,isFn->tO,cellsFrom_some->tR,takerIn->uC,findObj_own->vB,codeHd_of_K->vI,kitx_list->wJ,kitx_dict->wK,readsIn->zF,findCls->zG,OpenLaw->zL,noTabs->aAr,Looks->aAz
open PySem.Heap renaming get?_push_of_some->aC,get?_push_size->aU,lt_size->aZ,get?_update_other->bT,get?_update_self->bW,size_push->fP,SameBut->gC,get?_none_of_le->gU,FlyingW->jE,MadeExcOf->mR,get?_update_ne->vH,NotedW->yQ,ExtBut->aCp,update->aCq,HeldW->aDl
open Nat renaming le_trans->aD,le_refl->aN,lt_of_lt_of_le->aQ,ne_of_lt->bR,zero_le->cP,lt_irrefl->eF,le_succ->fM,sub_self->gF,le_of_lt->gP,lt_succ_self->gV,succ_le_succ->gY,le_succ_of_le->iJ,add_le_add_left->jD,lt_of_le_of_lt->jL,ne_of_gt->jQ,lt_add_right->lK,mul_le_mul_right->mW,le_add_right->nA,le_of_eq->oR,le_of_ble_eq_true->pG,min_le_right->pJ,add_le_add->rG,succ_ne_self->sZ,lt_succ_of_lt->xF,lt_or_ge->xG,succ->aAm,zero_add->aCf,mod_lt->aDq,not_lt->aDr
open List renaming length_map->aJ,getElem?_eq_some_iff->aK,mem_singleton->aM,prefix_refl->aP,mem_cons_of_mem->aR,getElem?_eq_getElem->aV,mem_cons->aW,mem_cons_self->aX,all_eq_true->bB,getElem?_append_left->bD,mem_append->bF,getElem?_append_right->bG,length_append->bH,getElem?_map->bK,prefix_append->bL,not_mem_nil->bM,append_nil->bQ,mem_append_right->bV,getD_eq_getElem?_getD->cA,mem_append_left->cB,length_range->cG,map_cons->cJ,replicate->cL,append_assoc->cR,getElem?_set_ne->cW,size_toArray->cZ,lookup_cons->dF,map_append->dG,getElem?_set_self->dH,map_map->dO,nodup_cons->dU,mem_of_getElem?->dX,mem_map->dZ,all_cons->eN,length_replicate->eY,length_singleton->eZ,length_set->fB,length_cons->fD,range->fO,mem_filterMap->gA,length_drop->gD,drop_eq_getElem_cons->gH,getElem?_eq_none->gO,length_take->gW,nodup_append->iG,drop_eq_nil_of_le->iH,getElem?_eq_none_iff->iR,mem_range->iW,eq_nil_of_length_eq_zero->jA,take_of_length_le->jF,lookup->jR,forall_mem_cons->jV,filter_eq_self->jZ,getElem_of_mem->kO,getElem_inj->kZ,getElem?_replicate->lC,getElem_mem->lH,isEmpty_iff->lJ,mem_of_mem_take->mX,getElem?_range->nJ,nil_append->nZ,pairwise_cons->oJ,getElem?_drop->oK,set_eq_take_append_cons_drop->oN,take_append_drop->pD,length_filter_le->pF,any_cons->pM,sum_cons->pQ,pairwise_append->pX,length_nil->pY,filterMap_cons->qG,takeWhile_cons->qK,map_nil->qN,contains_cons->rB,length_eraseIdx_of_lt->rD,not_lt->rY,getElem?_take_of_lt->sH,take_append_getElem->sV,take_length->sY,cons_append->tD,of_mem_zip->uD,forIn_cons->uF,getElem?_zipWith->uI,nodup_nil->uT,drop_zero->uU,drop_eq_nil_iff->uV,mem_of_mem_drop->uW,replicate_succ->vD,length_zipWith->vJ,take_succ_cons->vK,take_set_of_le->vL,map_drop->vR,mem_replicate->wC,ext_getElem?->xJ,zipIdx_cons->yI,filter_cons->yN,mem_filter->yV,zipIdx_nil->zE,find?_cons->zK,length_zip->zM,all_append->zN,forIn_nil->aAf,mapM_cons->aAq,findIdx?->aBf,all_map->aCe,foldl->aDj,zip->aEi
open Bool renaming and_eq_true->aL,and_eq_true_iff->bU,false_ne_true->cV,or_eq_true->fC,not_eq_true'->iC,eq_false_iff->jC,false_eq_true->jK,not_true->pO,true_and->pR,or_eq_true_iff->qJ,not_eq_true->tK,or_true->tY,false_and->zV,false_or->aBc,or_false->aBd
open Array renaming length_toList->bC,getElem?_eq_some_iff->fG,replicate->iQ,getElem?_toList->iT,toList_append->kY,append_empty->lM,eq_empty_of_size_eq_zero->pL,getElem?_eq_none_iff->rA,getElem?_eq_getElem->rJ,size_eq_one_iff->uH,append_assoc->vW,toList_push->wX,size_append->xO,toList->aBq
open Option renaming map_eq_some_iff->bI,bind_eq_some_iff->lE,isSome_iff_exists->nP,isSome_map->rT,getD_none->yE,getD_some->yM,map->aDo
open PySem.Value renaming ref->bJ,none->fY,builtin->iV,type->pH,isStrOf->sE,bool->tM,isStrOf_shape->vA,int->xU,str->xV,isInt->aCj,float->aCk
open Ne renaming symm->bN
open Option.some renaming inj->bY,injEq->gM
open False renaming elim->bZ
open PySem.NameKind renaming free->cN,cell->vN
open PySem.Obj renaming data_mapFields->dC,mapFields->fV,isFreed_of_fields->fW,cls_mapFields->mO,mapSeq->oE,putSet->aAj
open PySem.Builtin.Str renaming occurrences->dM,strSliceIndices->qR
open PyProof.Rows renaming slot_tuple_getitem->eX,callWith_type1->mL,slice_closes_to_neg->oY,slice_closes_fromL->pA,StrsAre->pN,AllBare->qL,subscriptTail_builtinR->tV,IntsAre->uY,entry_tuple_getitem->vC,args_tuple_getitem->vY,slice_closes_from_neg->wD,IsTup->wG,callWith_builtin1->yH,slice_closes_toL->yU,slicePart_none->zX,tail_any->zZ,slice_closesL->aAt,printed_star->aAw,Constant_none->aBe,isnot_bool->aBp,mul_one_list->aCg,is_bool->aCs
open PySem.Txt renaming slice->fH,stripChars->jN,ljustF->tZ,mul->uZ,join->aAo,stripBy->aCv
open PySem.F renaming excBase_ValueError->fJ,slot_tuple_iterator_next->jH,called_set->lO,plainAttrs_str->lU,args_tuple_add_2->nQ,entry_tuple_add->oM,slot_tuple_add->oU,attr_ValueError->oX,typeOf_object_class->pB,args_tuple_iterator_next_1->qD,slot_zip_next->qF,entry_tuple_iterator_next->qM,called_enumerate->qZ,plain_extend_loop->rK,slot_dict_getitem->rM,store_ValueError->sS,plain_list_iadd->tG,slot_gs_get->vO,entry_type_call->wN,args_zip_next_1->wU,entry_zip_next->yJ,slot_int_rmul->yX,entry_bexc_ga->yZ,plain_set_new->zH
open Int renaming toNat_natCast->fX,emod_nonneg->jP,emod_lt_of_pos->lV,toNat_of_nonneg->nO,fdiv_eq_ediv_of_nonneg->rF,eq_ofNat_of_zero_le->tL,zero_add->uB,mul_ediv_add_emod->uJ,natCast_nonneg->wA,emod_eq_of_lt->xP,pow_succ->xQ,lt_trans->xT,add_mul->yS,mul_nonneg->aAs,ne_of_gt->aCb,le_of_lt->aCc,mul_comm->aCd,toNat->aEc
open PySem.Calls renaming Name_function_global->fZ,loadGlobal_global->jB,evalArgs_plain->pU,callWith_builtin->tX,spliced_cons->vX,spliced_nil->wL
open PySem.Heap.SameBut renaming update->iK,refl->aDx
open True renaming intro->iU
open PySem.SetTable renaming below->jM,grown->lF
open PySem.Around renaming under_plainId->jU,frames_deeper->uL,under_plain->vZ
open PySem.Builtin.Tuple renaming tupleExact->jW,tupleItemsOf->qY,tupleIsExact->aAn
open PySem.Code renaming quiet_builtin->lN
open PySem.SeqAt renaming shaped->lQ,EqAt->aAb
open ForInStep renaming yield->mC
open PySem.Str renaming ofString->mY,empty->aEa,mk->aEh
open PySem.Builtin.Slice renaming slicePlaces->nF,sliceAdjust->rH,slicePartIndex->yW,sliceApplied->zY
open List.cons renaming inj->nW
open PySem.Builtin.List renaming listLengthHint->qO,listExtendWith->qP,listTooLong->sI,listSameRef->sU,listFitsIndex->aAe
open PyProof.Rows.KTD.Dat renaming flat->qQ
open PySem.Paired renaming length->sG,snoc->aCo,rec->aDf
open PySem.PyData renaming strOk->uA,eqv->wB,str->aAu
open PySem.Data renaming cell->uX,fields->yP,seq->aEf
open PySem.EntryCells renaming newEntry->vG
open PySem.SeqAt.EqAt renaming int_str->vU,str_int->vV,tuple_none->aCh,none_bool->aCl,bool_none->aCm,bool_bool->aCn,none_int->aCw,none_str->aCx,bool_int->aCy,bool_str->aCz,int_none->aDa,int_bool->aDb,str_none->aDc,str_bool->aDd,int_int->aDh,str_str->aDi,same->aEd
open PySem.AutoListH renaming list___mul___list_int_3->wF
open PySem.Heap.Ns1 renaming of_empty->wI
open PySem.WalksT renaming enumerateD->wQ
open PySem.SetTable.below renaming go->xH
open Nat.succ renaming inj->xK
open PySem.StrLaws renaming found_one->xN,occ_spec->yO
open Nat.Coprime renaming dvd_of_dvd_mul_right->xR
open PySem.W.Looks renaming ld->yF,here->aDg
open Sum renaming inl->zO,inr->zQ
open PySem.Builtin.Frozenset renaming newClass->aAk,sizeOf->aBh,slot0->aBo
open Classical renaming byContradiction->aAv
open PySem.Value.ref renaming inj->aBa
open PySem.Shared renaming TypeIs->aBg
open PySem.Env renaming blockKind->aBi
open List.Pairwise renaming imp_of_mem->aBj,nil->aDt
open PySem.Builtin.Range renaming rangeSize->aBl
open PyProof.Rows.IsTup renaming new->aBm
open PySem.Manifest.Receiver renaming self->aBx,none->aBy
open PySem.AutoIntOps renaming pow_4->aBz
open PyProof.Rows.KTD renaming datLooks->aCa,datumAt->aCt,tabLook->aCu
open List.eraseDupsBy renaming loop->aCi
open List.Perm renaming nodup_iff->aDe,cons_inv->aDn,swap->aEg
open PySem.Heap.IsSliceOf renaming new->aDm
open PySem.Walks renaming list->aDp
open PySem.Within renaming cons->aDs
open PySem.Heap.IsTuple renaming push->aDw
open PySem.PassesOwn renaming leaving->aDy
open PySem.DictEntry renaming refKey->aDz
open PySem.IsL renaming update->aEb
open PySem.Heap.DictOf renaming new->aEe
open Prod renaming mk->aEj
namespace L2
open PySem PySem.Spec PyProof.Rows
abbrev Key:=Sum Int t6
def Ahx:Key->aF->Bool
 |.inl k,v=>aCj k v
 |.inr x,v=>sE x v
def Bpo(w:dW):Key->Int
 |.inl k=>hashInt k
 |.inr x=>hashStr w x
theorem Eu:∀{k:Key} {v:aF},Ahx k v=t8->(∃i t,k=zO i/\v=xU i t)\/(∃x t,k=zQ x/\v=xV x t)
 |.inl i,v,h=>by
  let(t,e):=Value.isInt_shape h;exact .inl (i,t,rfl,e)
 |.inr x,v,h=>by
  let(t,e):=vA h;exact .inr (x,t,rfl,e)
def Atu(i:Int)(t:Tok):Ahx[.inl i][.int i t]=t8:=by simp[Ahx,aCj]
def Atv(x:t6)(t:Tok):Ahx[.inr x][.str x t]=t8:=by simp[Ahx,sE]
def Bh5(a b:Int):decide[(zO a:Key)=zO b]=(a==b):=by
 by_cases e:a=b
 .simp_all
 simp_all
def Bh6(a b:t6):decide[(zQ a:Key)=zQ b]=decide[a=b]:=by simp
def Bh7(a:Int)(b:t6):decide[(zO a:Key)=zQ b]=t7:=rfl
def Bh8(a:t6)(b:Int):decide[(zQ a:Key)=zO b]=t7:=rfl
def Hv(prog:cD)(w:dW):PySem.KeyKind prog w Key where
 is:=Ahx
 hash:=Bpo w
 inj:=λv a b ha hb=>by
  rcases Eu ha with ⟨i,t,rfl,rfl⟩|⟨x,t,rfl,rfl⟩
  .rcases Eu hb with ⟨j,u,rfl,e⟩|⟨y,u,rfl,e⟩
   .injection e with e1 _;rw[e1]
   .exact nomatch e
  .rcases Eu hb with ⟨j,u,rfl,e⟩|⟨y,u,rfl,e⟩
   .exact nomatch e
   .injection e with e1 _;rw[e1]
 byValue:=λk v h=>by
  rcases Eu h with ⟨i,t,rfl,rfl⟩|⟨x,t,rfl,rfl⟩ <;> rfl
 pyHash:=λhv h=>by
  rcases Eu hv with ⟨i,t,rfl,rfl⟩|⟨x,t,rfl,rfl⟩
  .exact wpAny_pyHash_int h
  .exact wpAny_pyHash_str h
 eqBool:=λhu hv h=>by
  rcases Eu hu with ⟨i,t,rfl,rfl⟩|⟨x,t,rfl,rfl⟩
  .rcases Eu hv with ⟨j,u,rfl,rfl⟩|⟨y,u,rfl,rfl⟩
   .rw[Bh5] at h;exact wpAny_eqBool_int h
   .rw[Bh7] at h;exact vU i t y u _ _ _ _ h
  .rcases Eu hv with ⟨j,u,rfl,rfl⟩|⟨y,u,rfl,rfl⟩
   .rw[Bh8] at h;exact vV x t j u _ _ _ _ h
   .rw[Bh6] at h;exact wpAny_eqBool_str h
 «strs»:=λk x t v h=>by
  rcases Eu h with ⟨i,u,rfl,e⟩|⟨y,u,rfl,e⟩
  .exact nomatch e
  .injection e with e1 _
   subst e1;cases v <;> rfl
inductive V where
 |non|bl (b:Bool)|int (i:Int)|str (x:t6)|byt (b:Array UInt8)|flt (b:UInt64)|ref (a:aH)|ty (n:String)
 deriving DecidableEq
def RelV:V->aF->Prop
 |.non,u=>u=fY
 |.bl b,u=>u=tM b
 |.int i,u=>∃t,u=xU i t
 |.str x,u=>∃t,u=xV x t
 |.byt b,u=>∃t,u=Value.bytes b t
 |.flt b,u=>∃t,u=aCk b t
 |.ref a,u=>u=bJ a
 |.ty n,u=>u=pH n
abbrev Vals:lg V->lg aF->Prop:=mG RelV
def Vals.length{xs:lg V}{us:lg aF}(r:Vals xs us):xs.length=us.length:=sG r
theorem Vals.get:∀{b:lg V} {c:lg aF} {i:Nat} {x:V},Vals b c->b[i]?=sr x->∃u,c[i]?=sr u/\RelV x u
 |_,_,_,_,.nil,e=>by trivial
 |_,_,0,_,.cons r _,e=>by simp at e;subst e;exact(_,rfl,r)
 |_,_,i+1,x,.cons _ t,e=>by
  let(u,g,d):=Vals.get t (by trivial)
  exact(u,by trivial,d)
theorem Vals.set(r:RelV x u):∀{b:lg V} {c:lg aF} (i:Nat),Vals b c->Vals (b.set i x) (c.set i u)
 |_,_,_,.nil=>.nil
 |_,_,0,.cons _ t=>.cons r t
 |_,_,i+1,.cons q t=>.cons q (Vals.set r i t)
def Vals.append{xs ys:lg V}{us ws:lg aF}(h:Vals xs us)(s:Vals ys ws):Vals[xs ++ ys][us ++ ws]:=aDf (motive:=λa b _=>Vals[a ++ ys][b ++ ws]) s (λr _ t=>.cons r t) h
theorem Vals.take:∀{b:lg V} {c:lg aF} (n:Nat),Vals b c->Vals b.take[n] c.take[n]
 |_,_,0,_=>.nil
 |_,_,_+1,.nil=>.nil
 |_,_,n+1,.cons r t=>.cons r (Vals.take n t)
theorem Vals.drop:∀{b:lg V} {c:lg aF} (n:Nat),Vals b c->Vals b.drop[n] c.drop[n]
 |_,_,0,r=>r
 |_,_,_+1,.nil=>.nil
 |_,_,n+1,.cons _ t=>Vals.drop n t
def Wa:o9 V->o9 aF->Prop
 |some v,sr u=>RelV v u
 |none,sy=>True
 |_,_=>False
def KV{κ:Type}:lg[κ×V]->lg[κ×aF]->Prop:=mG λ(p:κ×V) (q:κ×aF)=>p.1=q.1/\RelV p.2 q.2
def kV:Key->V
 |.inl i=>.int i
 |.inr x=>.str x
inductive HO where
 |lst (xs:List V)
 |tup (xs:List V)
 |dK (kvs:List (Key×V))|dT (kvs:List (List Key×V))
 |set (S:Int->Bool) (n:Nat)
 |ins (C dx:aH) (fs:List (t6×V))
 |own (x:aH)
 |xd (fs:List (t6×V))
 |met (f x:aH)
 |rng (lo hi:Int)
 |frz (o:tu) (u:HO)
 |tbl (ps:Array aF)
 |ext (φ:dI->Prop)
abbrev Hp:=aH->o9 HO
def upd(H:Hp)(a:aH)(o:HO):Hp:=λb=>if b=a then sr o else H b
def Aq:upd H a o a=sr o:=by unfold upd;simp
def Aj(h:b≠a):upd H a o b=H b:=by unfold upd;simp_all
def Bbw:upd (upd H a o) a u=upd H a u:=by
 unfold upd;simp_all
def Bm{H:Hp}{a b:aH}{o:HO}(h:H a=sr o)(h':H b=sy):a≠b:=by
 intro e;simp_all
section
variable(P:cD)(w:dW)
def Ek(H:Hp)(h:dI)(a:aH):HO->Prop
 |.lst xs=>xs.length<=sizeLine/\∃(its:lg aF)(n:Nat),Vals xs its/\h.get? a=sr { cls:=.type "list",data:=.seq its.toArray n }
 |.tup xs=>xs.length<=sizeLine/\∃its:lg aF,Vals xs its/\wG h a its.toArray
 |.dK kvs=>kvs.length<=sizeLine/\(a==sysModules)=t7/\∃vs,KV kvs vs/\h.DictOf (Hv P w) a vs
 |.dT kvs=>kvs.length<=sizeLine/\(a==sysModules)=t7/\∃xs:lg[lg Key×aH×aF],
   mG (λ(p:lg Key×V) (q:lg Key×aH×aF)=>p.1=q.1/\H q.2.1=sr .tup[p.1.map[kV]]/\RelV p.2 q.2.2) kvs xs/\
   ∃o es ep,h.get? a=sr o/\o.ExactDict/\o.data=.dict es ep/\es.toList=xs.map entryOfKey[tupleKind[Hv P w]]/\(xs.map (·.1)).Nodup
 |.set S n=>h.SetOf (intKind P w) a S n
 |.ins C dx fs=>H dx=sr .own[a]/\fs.length<=1000/\dx≠a/\h.get? a=sr[lW C dx]/\
   ∃mA,h.Ns1 dx mA/\(∀f,Wa fs.lookup[f] mA[f])/\wH mA (fs.map (·.1))
 |.own _=>∃o,h.get? a=sr o
 |.xd fs=>∃mA,h.Ns1 a mA/\∀f,Wa fs.lookup[f] mA[f]
 |.rng lo hi=>∃t u v,h.get? a=sr { cls:=.type "range",data:=.fields #[.int lo t,.int hi u,.int 1 v] }
 |.frz o u=>h.get? a=sr o/\Ek H h a u
 |.tbl ps=>h.get? a=sr { cls:=.none,data:=.fields ps }
 |.met f x=>h.get? a=sr (PySem.W.methodObj .ref[f] .ref[x])
 |.ext φ=>φ h/\(∃o,h.get? a=sr o)/\∀h1 h2:dI,φ h1->(∀o,h1.get? a=sr o->h2.get? a=sr o)->φ h2
def HOk(H:Hp)(h:dI):Prop:=∀a o,H a=sr o->Ek P w H h a o
end
section
def Ek.lt(x:Ek P w H h a o):a < h.objs.size:=by
 cases o with
 |lst c=>let(_,_,_,_,e):=x;exact aZ e
 |tup c=>let(_,_,_,p):=x;exact p.lt
 |dK b=>let(_,_,_,_,o,_,_,e,_):=x;exact aZ e
 |dT b=>let(_,_,_,_,o,_,_,e,_):=x;exact aZ e
 |set S n=>let(o,_,_,_,e,_):=x;exact aZ e
 |ins C g fs=>let(_,_,_,e,_):=x;exact aZ e
 |own y=>let(_,e):=x;exact aZ e
 |xd fs=>let(_,(_,_,_,e,_),_):=x;exact aZ e
 |rng lo hi=>let(_,_,_,e):=x;exact aZ e
 |frz ob u=>let(e,_):=x;exact aZ e
 |tbl ps=>exact aZ (x)
 |met f y=>exact aZ (x)
 |ext d=>let(_,(_,e),_):=x;exact aZ e
def Paired.mapP{α β:Type}{F G:α->β->Prop}{l₁:lg α}{l₂:lg β}(h:mG F l₁ l₂)(f:∀a b,F a b->G a b):mG G l₁ l₂:=h.rec .nil λr _ t=>.cons (f _ _ r) t
def Ek.stay(x:Ek P w H h a o)(k:∀b u,(b=a\/H b=sr .own[a])->h.get? b=sr u->h'.get? b=sr u)(I:∀b,H b=sr .own[a]->H' b=sr .own[a])(G:∀b l,H b=sr .tup[l]->H' b=sr .tup[l]):Ek P w H' h' a o:=by
 induction o with
 |lst l=>let(z,j,n,r,e):=x;exact(z,j,n,r,k _ _ .inl[rfl] e)
 |tup l=>let(z,j,r,ob,e,c):=x;exact(z,j,r,ob,k _ _ .inl[rfl] e,c)
 |dK A=>let(z,y,E,r,ob,g,i,e,c):=x;exact(z,y,E,r,ob,g,i,k _ _ .inl[rfl] e,c)
 |dT A=>
  let(z,y,l,r,ob,g,i,e,c):=x;exact(z,y,l,Paired.mapP r λp q z=>(z.1,G _ _ z.2.1,z.2.2),ob,g,i,k _ _ .inl[rfl] e,c)
 |set S n=>let(ob,g,i,t,e,c):=x;exact(ob,g,i,t,k _ _ .inl[rfl] e,c)
 |ins C N fs=>
  let(d,z,ne,e,s,(m,g,i,J,c),r):=x;exact(I _ d,z,ne,k _ _ .inl[rfl] e,s,(m,g,i,k _ _ .inr[d] J,c),r)
 |own y=>let(ob,e):=x;exact(ob,k _ _ .inl[rfl] e)
 |xd fs=>let(s,(m,g,i,e,c),r):=x;exact(s,(m,g,i,k _ _ .inl[rfl] e,c),r)
 |rng lo hi=>let(t,u,v,e):=x;exact(t,u,v,k _ _ .inl[rfl] e)
 |frz ob u F=>let(e,q):=x;exact(k _ _ .inl[rfl] e,F q)
 |tbl ps=>
  let e:=x;exact k a _ .inl[rfl] e
 |met f y=>
  let e:=x;exact k a _ .inl[rfl] e
 |ext L=>let(p,(o,e),st):=x;exact(st _ _ p λo q=>k _ _ .inl[rfl] q,(o,k _ _ .inl[rfl] e),st)
def HOk.lt(x:HOk P w H h)(e:H a=sr o):a < h.objs.size:=(x a o e).lt
def HOk.fresh(x:HOk P w H h)(e:h.objs.size<=a):H a=sy:=by
 cases q:H a with
 |none=>rfl
 |some u=>exact absurd[aQ x.lt[q] e][eF _]
def HOk.kept(x:HOk P w H h)(k:∀b u,h.get? b=sr u->h'.get? b=sr u):HOk P w H h':=(λa o e=>
 (x a o e).stay (λb u c q=>k b u q) (λc q=>q) λc c q=>q)
def HOk.laid(x:HOk P w H h)(k:∀b u,h.get? b=sr u->h'.get? b=sr u)(hp:h.objs.size<=a)(new:Ek P w (upd H a o) h' a o):HOk P w (upd H a o) h':=(λb u e=>by
 let d:=x.fresh hp;by_cases f:b=a
 .subst f;rw[Aq] at e;simp_all
 .rw[Aj f] at e;exact(x b u e).stay (λc v i q=>k c v q) (λc q=>by rw[Aj[Bm q d]];omega) λc g q=>by rw[Aj[Bm q d]];omega)
end
def Rd(H:Hp)(a:aH)(u:HO):Prop:=H a=sr u\/∃o,H a=sr[.frz o u]
def Rd.of(h:H a=sr u):Rd H a u:=.inl h
def Rd.ok(r:Rd H a u)(x:HOk P w H h):Ek P w H h a u:=by
 rcases r with r|⟨o,r⟩
 .exact x a u r
 .let(_,q):=x a _ r;omega
def Mut:o9 HO->Prop
 |some (.lst _)=>True
 |some (.dK _)=>True
 |some (.dT _)=>True
 |some (.set _ _)=>True
 |some (.ins _ _ _)=>True
 |some (.ext _)=>True
 |_=>False
section
def HOk.write(ok:HOk P w H h)(i:Mut H[x])(p:e=x\/H e=sr .own[x])(k:∀b u,b≠e->h.get? b=sr u->h'.get? b=sr u)(j:∃u,h'.get? e=sr u)(new:Ek P w (upd H x n) h' x n):HOk P w (upd H x n) h':=(λb u q=>by
 let f:∀c y,H c=sr .own[y]->c≠x:=λc y r z=>by subst z;rw[r] at i;exact i
 let d:∀c g,H c=sr .tup[g]->c≠x:=λc g r z=>by subst z;rw[r] at i;exact i
 by_cases l:b=x
 .subst l;rw[Aq] at q;simp_all
 .rw[Aj l] at q;by_cases a:b=e
  .let m:H b=sr .own[x]:=by
    rcases p with z|z
    .exact absurd a.trans[z] l
    .rwa [a]
   rw[q] at m;cases m;let(v,o):=j;exact(v,a ▸ o)
  .refine(ok b u q).stay (λc v s r=>k c v ?_ r) (λc r=>(Aj[f c b r]) ▸ r) λc g r=>(Aj[d c g r]) ▸ r
   grind)
end
structure Un(fs ex:List aH)(H H':Hp)(h h':dI):Prop where
 keep:∀b o,h.get? b=sr o->H b=sy->b∉fs->b∉ex->h'.get? b=sr o
 slot:∀b o,h.get? b=sr o->H b=sy->b∈fs->b∉ex->∃sl,h'.get? b=sr { o with slots:=sl }
 free:∀b o,h.get? b=sr o->H b=sy->b∉ex->H' b=sy
 there:∀b o,h.get? b=sr o->b∉ex->∃o',h'.get? b=sr o'
 tups:∀b xs,H b=sr (.tup xs)->H' b=sr (.tup xs)
 frzs:∀b o u,H b=sr (.frz o (.lst u))->H' b=sr (.frz o (.lst u))
 tbls:∀b ps,H b=sr (.tbl ps)->∃more,H' b=sr (.tbl (ps ++ more))
section
def Un.any(u:Un fs ex H H1 h e)(q:h.get? b=sr ob)(n:H b=sy)(a:b∉ex):∃d,e.get? b=sr { ob with slots:=d }:=by
 by_cases c:b∈fs
 .exact u.slot b ob q n c a
 .exact(ob.slots,u.keep b ob q n c a)
def Un.kept(k:∀b u,h.get? b=sr u->h'.get? b=sr u):Un fs ex H H h h':=(
 (λb ob q a a a=>k b ob q,λb ob q a a a=>(ob.slots,k b ob q),λa a a n a=>n,λb ob q a=>(ob,k b ob q),λa a q=>q,λa a a q=>q,λa ps q=>(#[],by trivial)))
def Un.refl:Un fs ex H H h h:=Un.kept λuw uw q=>q
theorem Un.laid(k:∀b u,h.get? b=sr u->h'.get? b=sr u)(hp:h.objs.size<=a)(d:H a=sy):Un fs ex H (upd H a o) h h' where
 keep:=λb u q c c c=>k b u q
 slot:=λb u q c c c=>(u.slots,k b u q)
 free:=λb u q n c=>by rw[Aj bR[aQ aZ[q] hp]];exact n
 there:=λb u q c=>(u,k b u q)
 tups:=λb e q=>by rw[Aj[Bm q d]];exact q
 frzs:=λb u e q=>by rw[Aj[Bm q d]];exact q
 tbls:=λb ps q=>(#[],by rw[Aj[Bm q d],q];simp)
def Un.write(f:Mut H[x])(p:e=x\/H e=sr .own[x])(k:∀b u,b≠e->h.get? b=sr u->h'.get? b=sr u)(l:∃u,h'.get? e=sr u):Un fs ex H (upd H x o) h h':=by
 let j:∀b,H b=sy->b≠x:=λb n z=>by subst z;rw[n] at f;exact f
 let g:∀b,H b=sy->b≠e:=λb n z=>by simp_all
 let c:∀b u,H b=sr u->¬ Mut sr[u]->b≠x:=λb u q m z=>by simp_all
 refine(λb u q n a a=>k b u (g b n) q,λb u q n a a=>(u.slots,k b u (g b n) q),λb u q n a=>(Aj[j b n]) ▸ n,λb u q a=>?_,
  λb i q=>(Aj[c b _ q λz=>z]) ▸ q,λb u i q=>(Aj[c b _ q λz=>z]) ▸ q,λb ps q=>(#[],by rw[Aj[c b _ q λz=>z],q];simp))
 by_cases d:b=e
 .simp_all
 .exact(u,k b u d q)
end
def trk(h:dI)(H:Hp):lg aH:=(fO h.objs.size).filter λa=>(H a).isSome
def Aj0(h:dI)(H:Hp):dI:=cY h (trk h H)
def Awm(e:h.get? b=sr o)(n:H b=sy):(Aj0 h H).get? b=sr o:=(
 eG _ e λa=>by
  let q:=(yV.mp a).2;simp_all)
def Bbx(e:(Aj0 h H).get? b=sr o):h.get? b=sr o/\H b=sy:=by
 let e':=lL _ e;refine(e',?_);cases q:H b with
 |none=>rfl
 |some x=>
  let z:(Aj0 h H).get? b=sy:=mQ _ (yV.mpr (iW.mpr aZ[e'],by simp[q]))
  simp_all
def Bby(g h:dI)(L:aH):lg[aH×tu]:=(fO h.objs.size).filterMap λa=>if a=L\/(g.get? a).isSome=t8 then sy else (h.get? a).map λo=>(u6 a o)
def rest(g h:dI)(L d:aH):lg[aH×tu]:=(Bby g h L).filter λp=>decide[p.1≠d]
structure Mod(K:aB)(mg:t6->Option aF)(base:dI):Prop where
 kin:K.In base
 glob:base.Ns mainGlobals mg
 blt:∃mb,base.Ns builtinsNs mb/\∀x:t6,x≠"__name__"->mb x=bootBuiltins x
 nolimit:base.NoLimit
structure Cx where
 prog:cD
 w:dW
 K:aB
 mg:t6->Option aF
 base:dI
 A:eQ
 N:List t6
 s₀:aO
 H₀:Hp
 env:Env
 outer:List Env
 stack:List Env
 ex:List aH
 fn:t6->Bool
 calm:Bool
 pn:List (aH×tu)
 xe:aF->aO->Prop
def frs(l:lg Env):lg aH:=l.filterMap (·.frame)
abbrev Cx.fs(X:Cx):lg aH:=frs X.outer
def Vis(sc:gR)(x:t6):Prop:=sc.names.lookup x=sr .local\/sc.names.lookup x=sr .cell\/sc.names.lookup x=sr .free
def Loc(sc:gR)(x:t6):Prop:=sc.names.lookup x=sr .local\/sc.names.lookup x=sr .cell
def Look(env:Env)(h:dI)(m:t6->o9 aF)(x:t6)(u:aF):Prop:=
 (env.kindOf x=sr .local/\m x=sr u)\/((env.kindOf x=sr .cell\/env.kindOf x=sr .free)/\∃c,env.cells.lookup x=sr c/\h.IsCell c sr[u])
structure Cx.Ok(X:Cx):Prop where
 mod:Mod X.K X.mg X.base
 kind:X.env.scope.kind=.function
 glob:X.env.globals=mainGlobals
 blt:X.env.builtins=builtinsNs
 above:X.s₀.heap.objs.size<=X.env.locals
 inj:∀x y c,X.env.cells.lookup x=sr c->X.env.cells.lookup y=sr c->x=y
 has:∀x,(X.env.kindOf x=sr .cell\/X.env.kindOf x=sr .free)->∃c,X.env.cells.lookup x=sr c
 cab:∀x c,X.fn x=t8->X.env.cells.lookup x=sr c->X.s₀.heap.objs.size<=c
 hd:X.calm=t8->X.A.handled=sy
 frames:X.A.frames=sr X.stack
 stk:X.stack=X.outer\/(X.stack=X.env::X.outer/\X.env.frame=sr X.env.locals)
 exf:∀b∈X.ex,b≠X.env.locals/\∀x c,X.env.cells.lookup x=sr c->c≠b
 bs:∀b o,X.base.get? b=sr o->X.s₀.heap.get? b=sr o/\X.H₀ b=sy
 bsz:X.base.objs.size<=X.s₀.heap.objs.size
 noex:∀b o,X.base.get? b=sr o->b∉X.ex
 exfs:∀b∈X.ex,b∉X.fs
 funs:X.s₀.heap.FunFrames X.base X.outer
 frf:∀b∈X.fs,X.H₀ b=sy
structure Inv(X:Cx)(aa:List (aH×tu))(σ:List (Option V))(H:Hp)(s:aO):Prop where
 ok:X.Ok
 os:s.os=X.s₀.os
 bare:qL s.gens
 base:Un X.fs X.ex X.H₀ H X.s₀.heap s.heap
 loc:∃m,s.heap.Ns X.env.locals m/\∀(i:Nat)(x:t6)(v:V),X.N[i]?=sr x->σ[i]?=sr (sr v)->Vis X.env.scope x->∃u,RelV v u/\Look X.env s.heap m x u
 cell:∀x c,X.env.cells.lookup x=sr c->∃v,s.heap.IsCell c v
 free:H X.env.locals=sy
 freeC:∀x c,X.env.cells.lookup x=sr c->H c=sy
 pin:∀p∈X.pn ++ aa,s.heap.get? p.1=sr p.2/\H p.1=sy/\p.1≠X.env.locals/\p.1∉X.fs/\∀v,p.2.data≠.cell v
 hok:HOk X.prog X.w H s.heap
 len:σ.length=X.N.length
section
def Inv.bs(I:Inv X d c H s):∀b o,X.base.get? b=sr o->s.heap.get? b=sr o/\H b=sy:=(λb o e=>
 (I.base.keep b o (I.ok.bs b o e).1 (I.ok.bs b o e).2 (by
   intro a;have:=(I.ok.funs.mem a).1;rw[e] at this;cases this) (I.ok.noex b o e),I.base.free b o (I.ok.bs b o e).1 (I.ok.bs b o e).2 (I.ok.noex b o e)))
def Inv.bk(I:Inv X aa σ H s):∀b o,X.base.get? b=sr o->s.heap.get? b=sr o:=λb o e=>(I.bs b o e).1
def Inv.mod(I:Inv X aa σ H s):Mod X.K X.mg X.base:=I.ok.mod
def Inv.kIn(I:Inv X aa σ H s):X.K.In s.heap:=I.ok.mod.kin.keeps I.bk
def Inv.lt(I:Inv X c b H s):X.env.locals < s.heap.objs.size:=(let ⟨_,a,_⟩:=I.loc;a.lt)
def Inv.sz(I:Inv X aa σ H s):X.s₀.heap.objs.size<=s.heap.objs.size:=aD I.ok.above gP[I.lt]
def Inv.nofs(I:Inv X e d H s)(h:s.heap.objs.size<=a):a∉X.fs:=(λc=>by
 let(_,o,b,_):=I.ok.funs.mem c;exact absurd aQ[aZ b][aD I.sz h] eF[_])
def Inv.cne(I:Inv X k d H s):∀x c,X.env.cells.lookup x=sr c->c≠X.env.locals:=(λx c e z=>by
 let(v,o,g,hd):=I.cell x c e;let(m,(f,h,j,a,b,_),_):=I.loc
 grind)
def Inv.funs(I:Inv X p k H s):s.heap.FunFrames X.base X.outer:=by
 let all:∀(l:_),(∀b∈frs l,b∈X.fs)->X.s₀.heap.FunFrames X.base l->s.heap.FunFrames X.base l:=by
  intro l;induction l with
  |nil=>intro _ _;trivial
  |cons env r d=>
   rintro hs ⟨j,⟨L,o,hf,h,g,hd⟩,f⟩;let c:=hs L (by unfold frs;rw[qG,hf];exact aX)
   let(n,e):=I.base.slot L o g (I.ok.frf L c) c λz=>I.ok.exfs L z c
   exact(j,(L,_,hf,h,e,hd),d (λb a=>hs b (by unfold frs;rw[qG,hf];exact aR _ a)) f)
 exact all X.outer (λm a=>a) I.ok.funs
def Inv.stack(I:Inv X c b H s):s.heap.FunFrames X.base X.stack:=by
 rcases I.ok.stk with e|⟨e,hf⟩
 .exact e ▸ I.funs
 .rw[e];let(m,a,_):=I.loc;exact .cons (by rw[I.ok.kind];simp) hf a gU[aD I.ok.bsz I.ok.above] I.funs
def Inv.stkSub(I:Inv X d c H s):∀b∈frs X.stack,b∈X.env.locals::X.fs:=(λb a=>by
 rcases I.ok.stk with e|⟨e,hf⟩
 .rw[e] at a;exact aR _ a
 .rw[e] at a;unfold frs at a;rw[qG,hf] at a;trivial)
def Inv.stkFree(I:Inv X d c H s):∀b∈frs X.stack,H b=sy:=(λb hb=>by
 rcases aW.mp[I.stkSub b hb] with e|hb
 .exact e ▸ I.free
 .let(_,o,a,_):=I.ok.funs.mem hb;exact I.base.free b o a (I.ok.frf b hb) λz=>I.ok.exfs b z hb)
def Inv.step{g':Array uK}{t':Nat}{d':aBk}{ch:lg aH}(I:Inv X O Q H s)(g:∀b∈ch,(b∈X.ex\/X.s₀.heap.objs.size<=b)/\b≠X.env.locals/\(∀x c,X.env.cells.lookup x=sr c->c≠b)/\∀p∈X.pn ++ O,p.1≠b)(keep:∀b o,b≠X.env.locals->b∉X.fs->b∉ch->s.heap.get? b=sr o->H b=sy->h'.get? b=sr o)(slot:∀b o,b≠X.env.locals->b∈X.fs->b∉ch->s.heap.get? b=sr o->H b=sy->∃J,h'.get? b=sr { o with slots:=J })(free:∀b o,b∉ch->s.heap.get? b=sr o->H b=sy->H' b=sy)(there:∀b o,b∉ch->s.heap.get? b=sr o->∃B,h'.get? b=sr B)(tups:∀b t,H b=sr .tup[t]->H' b=sr .tup[t])(frzs:∀b o u,H b=sr[.frz o .lst[u]]->H' b=sr[.frz o .lst[u]])(tbls:∀b ps,H b=sr .tbl[ps]->∃more,H' b=sr .tbl[ps ++ more])(ns:∀m,s.heap.Ns X.env.locals m->h'.Ns X.env.locals m)(hok:HOk X.prog X.w H' h')(Z:qL g'):
  Inv X O Q H' { s with heap:=h',gens:=g',drawn:=d',toks:=t' }:=by
 let C:∀b o,X.s₀.heap.get? b=sr o->b≠X.env.locals:=λb o e=>bR[aQ aZ[e] I.ok.above];let h:∀b o,X.s₀.heap.get? b=sr o->b∉X.ex->b∉ch:=λb o e a y=>by
  rcases(g b y).1 with z|z
  .exact a z
  .exact absurd[aQ aZ[e] z][eF _]
 let cellK:∀x c,X.env.cells.lookup x=sr c->∀v,s.heap.IsCell c v->h'.IsCell c v:=λx c e v ⟨o,A,hd⟩=>by
  let f:c∉ch:=λz=>(g c z).2.2.1 x c e rfl;by_cases N:c∈X.fs
  .let(J,q):=slot c o (I.cne x c e) N f A (I.freeC x c e);exact(_,q,hd)
  .exact(o,keep c o (I.cne x c e) N f A (I.freeC x c e),hd)
 refine(I.ok,I.os,Z,(λb o e n y a=>?_,λb o e n y a=>?_,λb o e n a=>?_,λb o e a=>?_,λb t e=>tups b t (I.base.tups b t e),λb o t e=>frzs b o t (I.base.frzs b o t e),λb ps e=>?_),?_,λx c e=>?_,?_,λx c e=>?_,λp hp=>?_,hok,I.len)
 .exact keep[b][o][C b o e][y][h b o e a][I.base.keep b o e n y a][I.base.free b o e n a]
 .let(J,j):=I.base.slot b o e n y a;let(G,E):=slot b _ (C b o e) y (h b o e a) j (I.base.free b o e n a);exact(G,E)
 .let(B,j):=I.base.there b o e a;exact free b B (h b o e a) j (I.base.free b o e n a)
 .let(B,j):=I.base.there b o e a;exact there b B (h b o e a) j
 .let(T,j):=I.base.tbls b ps e;let(S,E):=tbls b _ j;exact(T ++ S,by rw[E,vW])
 .let(m,U,Y):=I.loc;refine(m,ns m U,λi x v j E e3=>?_);let(u,r,l):=Y i x v j E e3;refine(u,r,?_);rcases l with l|⟨k,c,e,z⟩
  .exact .inl l
  .exact .inr (k,c,e,cellK x c e _ z)
 .let(v,z):=I.cell x c e;exact(v,cellK x c e v z)
 .let(m,(o,_,_,A,_),_):=I.loc;exact free _ o (λz=>(g _ z).2.1 rfl) A I.free
 .let(v,o,A,hd):=I.cell x c e;exact free c o (λz=>(g c z).2.2.1 x c e rfl) A (I.freeC x c e)
 .let(e,n,ne,L,d):=I.pin p hp;let f:p.1∉ch:=λz=>(g p.1 z).2.2.2 p hp rfl;exact(keep p.1 p.2 ne L f e n,free p.1 p.2 f e n,ne,L,d)
def Inv.un{l:Nat}(I:Inv X y k H s)(u:Un X.fs [] H H' s.heap h')(hok:HOk X.prog X.w H' h'):Inv X y k H' { s with heap:=h',toks:=l }:=by
 let(m,(o,F,G,h,r),_):=id I.loc;let(B,t):=u.any h I.free ()
 exact I.step (ch:=[]) (λa z=>nomatch z) (λb o a d a e n=>u.keep b o e n d ()) (λb o a d a e n=>u.slot b o e n d ()) (λb o a e n=>u.free b o e n ()) (λb o a e=>u.there b o e ()) u.tups u.frzs u.tbls (λE q=>by
  let(C,f,g,c,p):=q;rw[h] at c;cases c;exact(_,f,g,t,p)) hok I.bare
def Inv.call{l:Array uK}{E:Nat}{N:aBk}{q:lg aH}(I:Inv X t B H s)(u:Un frs[X.stack] q H H' s.heap h')(hok:HOk X.prog X.w H' h')(J:qL l)(f:∀b∈q,(b∈X.ex\/X.s₀.heap.objs.size<=b)/\b≠X.env.locals/\(∀x c,X.env.cells.lookup x=sr c->c≠b)/\∀p∈X.pn ++ t,p.1≠b):
  Inv X t B H' { s with heap:=h',gens:=l,drawn:=N,toks:=E }:=by
 let(m,(o,T,U,k,r),_):=id I.loc;let(P,g):=u.any k I.free λz=>(f _ z).2.1 rfl
 exact I.step f (λb o g L a e n=>u.keep b o e n (λz=>(aW.mp[I.stkSub b z]).elim g L) a) (λb o C C a e n=>u.any e n a) (λb o a e n=>u.free b o e n a) (λb o a e=>u.there b o e a) u.tups u.frzs u.tbls (λS G=>by
  let(Q,h,j,d,F):=G;rw[k] at d;cases d;exact(_,h,j,g,F)) hok J
def Inv.turned{t':Nat}{d:aH}(I:Inv X h j H s)(k:∀b o,b≠d->s.heap.get? b=sr o->h'.get? b=sr o)(E:H d=sy)(y:d≠X.env.locals)(J:d∈X.ex\/X.s₀.heap.objs.size<=d)(G:∀x c,X.env.cells.lookup x=sr c->c≠d)(F:∀p∈X.pn ++ h,p.1≠d):Inv X h j H { s with heap:=h',toks:=t' }:=by
 let g:∀b u,H b=sr u->b≠d:=λb u e z=>by simp_all
 refine I.step (g':=s.gens) (d':=s.drawn) (ch:=[d]) (λb w=>?_) (λb o a a f e a=>k b o (λz=>f[by simp[z]]) e) (λb o a a f e a=>(o.slots,k b o (λz=>f[by simp[z]]) e)) (λa a a a n=>n)
  (λb o f e=>(o,k b o (λz=>f[by simp[z]]) e)) (λa a e=>e) (λa a a e=>e) (λb ps e=>(#[],by trivial)) (λm t=>?_) (λb u e=>?_) I.bare
 .let e:b=d:=by simpa using w
  subst e;trivial
 .let(o,A,B,l,r):=t;exact(o,A,B,k _ o bN[y] l,r)
 .refine(I.hok b u e).stay (λc v f q=>k c v ?_ q) (λa q=>q) λa a q=>q;rcases f with z|z
  .exact z ▸ g b u e
  .exact g c _ z
def Inv.tok(I:Inv X aa σ H s)(t:Nat):Inv X aa σ H { s with toks:=t }:=I.un Un.refl I.hok
def Inv.kept{t':Nat}(I:Inv X aa σ H s)(k:∀b u,s.heap.get? b=sr u->h'.get? b=sr u):Inv X aa σ H { s with heap:=h',toks:=t' }:=I.un Un.kept[k] I.hok.kept[k]
def Inv.laid{t':Nat}(I:Inv X d c H s)(k:∀b u,s.heap.get? b=sr u->h'.get? b=sr u)(hp:s.heap.objs.size<=a)(new:Ek X.prog X.w (upd H a o) h' a o):
  Inv X d c (upd H a o) { s with heap:=h',toks:=t' }:=(I.un[Un.laid k hp I.hok.fresh[hp]][I.hok.laid k hp new])
def Inv.write{t':Nat}(I:Inv X aa σ H s)(mu:Mut H[x])(he:e=x\/H e=sr .own[x])(k:∀b u,b≠e->s.heap.get? b=sr u->h'.get? b=sr u)(heo:∃u,h'.get? e=sr u)(new:Ek X.prog X.w (upd H x o) h' x o):Inv X aa σ (upd H x o) { s with heap:=h',toks:=t' }:=I.un[Un.write mu he k heo][I.hok.write mu he k heo new]
def Inv.pins_of(I:Inv X c b H s)(h:∀p∈pins',s.heap.get? p.1=sr p.2/\H p.1=sy/\p.1≠X.env.locals/\p.1∉X.fs/\∀v,p.2.data≠.cell v):Inv X pins' b H s:=(
 (I.ok,I.os,I.bare,I.base,I.loc,I.cell,I.free,I.freeC,λp hp=>(bF.mp hp).elim (λz=>I.pin p (cB _ z)) h[p],I.hok,I.len))
def Aeq{N:lg t6}(hN:N.Nodup){i j:Nat}{x:t6}(a:N[i]?=sr x)(b:N[j]?=sr x):i=j:=by
 let(k,f):=aK.mp a;let(h,e):=aK.mp b;exact(kZ hN).mp f.trans[e.symm]
def Atw{M:Model}{A:eQ}{E:aF->aO->Prop}{i:Nat}{x:t6}{v:V}{u:aF}{Q:Unit->aO->Prop}(I:Inv X aa σ H s)(hN:X.N.Nodup)(hi:X.N[i]?=sr x)(g:Loc X.env.scope x)(r:RelV v u)(h:∀s',Inv X aa (σ.set i sr[v]) H s'->(∃a,gC a s.heap s'.heap/\(a=X.env.locals\/X.env.cells.lookup x=sr a))->Q u9 s')(hf:X.fn x=t8\/X.env.scope.names.lookup x=sr .local:=by first|exact .inl rfl|exact .inr rfl|assumption):wpAny M A (storeName X.env x u) Q E s:=by
 let(m,hn,hl):=id I.loc;let L:(X.env.scope.kind==.class||(X.env.scope.kind==.module&&X.env.locals != X.env.globals))=t7:=by rw[I.ok.kind];rfl
 let t:i < σ.length:=I.len ▸ (aK.mp hi).1;let cne:=I.cne;let tracked:∀{a:aH} {h':dI},(∃o,s.heap.get? a=sr o/\H a=sy)->gC a s.heap h'->HOk X.prog X.w H h':=λ{a h'} ha hs b ob e=>by
  let(_,_,az):=ha;refine(I.hok b ob e).stay (λc S hc q=>(hs.2 c ?_).trans q) (λuw q=>q) λuw uw q=>q;rintro rfl;rcases hc with rfl|hc
  .rw[az] at e;cases e
  .rw[az] at hc;cases hc
 rcases g with hk|hk
 .refine wpAny_storeName_local hk hn (λh' hn' hs=>?_) L;let(oL,_,_,hoL,_):=id hn;refine h _ (I.ok,I.os,I.bare,(λb o e n F g=>?_,λb o e n F g=>?_,I.base.free,λb o e g=>?_,I.base.tups,I.base.frzs,I.base.tbls),(_,hn',λj y U f l e3=>?_),λy c e=>?_,I.free,I.freeC,λp hp=>?_,tracked (oL,hoL,I.free) hs,by simpa using I.len) (_,hs,.inl rfl)
  .exact(hs.2 b bR[aQ aZ[e] I.ok.above]).trans (I.base.keep b o e n F g)
  .let(Z,f):=I.base.slot b o e n F g;exact(Z,(hs.2 b bR[aQ aZ[e] I.ok.above]).trans f)
  .let(o',f):=I.base.there b o e g;exact(o',(hs.2 b bR[aQ aZ[e] I.ok.above]).trans f)
  .by_cases B:j=i
   .subst B;rw[hi] at f;cases f;rw[dH t] at l;cases l;exact(u,r,.inl (hk,()))
   .rw[cW bN[B]] at l;let(Y,r',q):=hl j y U f l e3;refine(Y,r',?_);rcases q with ⟨k,e⟩|⟨k,c,e,z⟩
    .refine .inl (k,?_);have:y≠x:=λe=>B Aeq[hN][f][e ▸ hi];simp[this,e]
    .exact .inr (k,c,e,z.sameBut hs (cne y c e))
  .let(S,z):=I.cell y c e;exact(S,z.sameBut hs (cne y c e))
  .let(e,n,ne,nf,d):=I.pin p hp;exact((hs.2 p.1 ne).trans e,n,ne,nf,d)
 .let C:X.fn x=t8:=by simp_all
  let(c,hc):=I.ok.has x .inl[hk];let(S,z):=I.cell x c hc;refine wpAny_storeName_cell I.ok.kind hk hc z (λh' P hs=>?_);let(oc,J,G):=id z;refine h { s with heap:=h' } (I.ok,I.os,I.bare,(λb o e n F g=>?_,λb o e n F g=>?_,I.base.free,λb o e g=>?_,I.base.tups,I.base.frzs,I.base.tbls),(m,hn.sameBut hs bN[cne x c hc],λj y U f l e3=>?_),λy T e=>?_,I.free,I.freeC,λp hp=>?_,tracked (oc,J,I.freeC x c hc) hs,by simpa using I.len) (c,hs,.inr hc)
  .exact(hs.2 b bR[aQ[aZ e][I.ok.cab x c C hc]]).trans (I.base.keep b o e n F g)
  .let(Z,f):=I.base.slot b o e n F g;exact(Z,(hs.2 b bR[aQ[aZ e][I.ok.cab x c C hc]]).trans f)
  .let(o',f):=I.base.there b o e g;exact(o',(hs.2 b bR[aQ[aZ e][I.ok.cab x c C hc]]).trans f)
  .by_cases B:j=i
   .subst B;rw[hi] at f;cases f;rw[dH t] at l;cases l;exact(u,r,.inr (.inl hk,c,hc,P))
   .rw[cW bN[B]] at l;let(Y,r',q):=hl j y U f l e3;refine(Y,r',?_);rcases q with q|⟨k,T,e,z'⟩
    .exact .inl q
    .refine .inr (k,T,e,z'.sameBut hs ?_);rintro rfl;exact B Aeq[hN][f][I.ok.inj _ _ _ e hc ▸ hi]
  .by_cases O:T=c
   .subst O;exact(_,P)
   .let(w2,z2):=I.cell y T e;exact(w2,z2.sameBut hs O)
  .let(e,n,ne,nf,d):=I.pin p hp;refine((hs.2 p.1 ?_).trans e,n,ne,nf,d);intro q;rw[q,J] at e;let q':oc=p.2:=bY e;exact d S (q' ▸ G)
def R0{i:Nat}(I:Inv X d b H s)(hN:X.N.Nodup)(hi:X.N[i]?=sr x)(c:Loc X.env.scope x)(r:RelV v u)(h:∀a,Inv X d (b.set i sr[v]) H a->Q u9 a)(hf:X.fn x=t8\/X.env.scope.names.lookup x=sr .local:=by first|exact .inl rfl|exact .inr rfl|assumption):wpAny M A (storeName X.env x u) Q E s:=(
 Atw I hN hi c r (λa f g=>h a f) hf)
def Inv.call'(I:Inv X d f H s)(g:s'.os=s.os)(u:Un frs[X.stack] ch H H' s.heap s'.heap)(hok:HOk X.prog X.w H' s'.heap)(h:qL s'.gens)(a:∀b∈ch,(b∈X.ex\/X.s₀.heap.objs.size<=b)/\b≠X.env.locals/\(∀x c,X.env.cells.lookup x=sr c->c≠b)/\∀p∈X.pn ++ d,p.1≠b):Inv X d f H' s':=by
 let(h',l,m,j,k):=s';subst g;exact I.call u hok h a
end
abbrev XK:=aF->o9[Nat×o9 aH]->Hp->Prop
abbrev St:=lg o9[V]
abbrev VK:=V->Hp->Prop
abbrev TE:=St->Hp->VK->Prop
abbrev TT:=St->Hp->(Bool->Hp->Prop)->Prop
abbrev TA:=St->Hp->(lg V->Hp->Prop)->Prop
structure Ends where
 nx:St->Hp->Prop
 rt:VK
 bk:St->Hp->Prop:=λuw uw=>False
 ct:St->Hp->Prop:=λuw uw=>False
abbrev TS:=Ends->St->Hp->Prop
inductive EP(X:Cx)(aa:List (aH×tu))(σ:St)(Q:VK)(u:aF)(s':aO):Prop
 |mk (v:V) (H':Hp) (I:Inv X aa σ H' s') (r:RelV v u) (q:Q v H'):EP X aa σ Q u s'
inductive TP(X:Cx)(aa:List (aH×tu))(σ:St)(Q:Bool->Hp->Prop)(b:Bool)(s':aO):Prop
 |mk (H':Hp) (I:Inv X aa σ H' s') (q:Q b H'):TP X aa σ Q b s'
inductive AP(X:Cx)(aa:List (aH×tu))(σ:St)(Q:List V->Hp->Prop)(us:List aF)(s':aO):Prop
 |mk (vs:List V) (H':Hp) (I:Inv X aa σ H' s') (r:Vals vs us) (q:Q vs H'):AP X aa σ Q us s'
def SP(X:Cx)(aa:lg[aH×tu])(D:Ends)(f:Flow)(s':aO):Prop:=
 match f with
 |.next=>∃σ' H',Inv X aa σ' H' s'/\D.nx σ' H'
 |.brk=>∃σ' H',Inv X aa σ' H' s'/\D.bk σ' H'
 |.cont=>∃σ' H',Inv X aa σ' H' s'/\D.ct σ' H'
 |.ret u=>∃v σ' H',Inv X aa σ' H' s'/\RelV v u/\D.rt v H'
def PE(X:Cx)(e:bO)(t:TE):Prop:=
 ∀(aa:lg[aH×tu])(s:aO)(σ:St)(H:Hp)(Q:VK),Inv X aa σ H s->t σ H Q->wpAny (model X.prog X.w) X.A (eval e X.env) (EP X aa σ Q) X.xe s
def PT(X:Cx)(e:bO)(t:TT):Prop:=
 ∀(aa:lg[aH×tu])(s:aO)(σ:St)(H:Hp)(Q:Bool->Hp->Prop),Inv X aa σ H s->t σ H Q->wpAny (model X.prog X.w) X.A isTrue[e][X.env][eval e X.env] (TP X aa σ Q) X.xe s
def PW(X:Cx)(e:bO)(t:TT):Prop:=
 ∀(whole:Sem aF)(aa:lg[aH×tu])(s:aO)(σ:St)(H:Hp)(Q:Bool->Hp->Prop),Inv X aa σ H s->t σ H Q->wpAny (model X.prog X.w) X.A (isTrue e X.env whole) (TP X aa σ Q) X.xe s
def PA(X:Cx)(es:lg bO)(t:TA):Prop:=
 ∀(pos:o8)(aa:lg[aH×tu])(s:aO)(σ:St)(H:Hp)(Q:lg V->Hp->Prop),Inv X aa σ H s->t σ H Q->wpAny (model X.prog X.w) X.A spliced[backTo[pos][starEach es X.env]] (AP X aa σ Q) X.xe s
def PS(X:Cx)(st:cO)(t:TS):Prop:=
 ∀(aa:lg[aH×tu])(s:aO)(σ:St)(H:Hp)(D:Ends),Inv X aa σ H s->t D σ H->wpAny (model X.prog X.w) X.A (exec st X.env) (SP X aa D) X.xe s
def PSs(X:Cx)(st:lg cO)(t:TS):Prop:=
 ∀(aa:lg[aH×tu])(s:aO)(σ:St)(H:Hp)(D:Ends),Inv X aa σ H s->t D σ H->wpAny (model X.prog X.w) X.A (execs st X.env) (SP X aa D) X.xe s
def thn{α:Type}{t:Sem α}{Q Q':α->aO->Prop}(h:wpAny M A t Q E s)(hQ:∀a s,Q a s->Q' a s):wpAny M A t Q' E s:=cX h hQ λuw uw x=>x
section
def Bh9(i:Nat):TE:=λσ H Q=>∃v,σ[i]?=sr sr[v]/\Q v H
def tC(v:V):TE:=λuw H Q=>Q v H
def Aer{i:Nat}(hN:X.N[i]?=sr x)(n:Vis X.env.scope x)(hd:(x==("__debug__":t6))=t7:=by decide)(b:(x==("__classdict__":t6))=t7:=by decide):PE X (.Name x pos) Bh9[i]:=by
 rintro t s j H Q I ⟨v,e,h⟩;let(m,o,q):=I.loc;let(u,r,l):=q i x v hN e n;let a:EP X t j Q u s:=(v,H,I,r,h);rcases l with ⟨hk,p⟩|⟨hk,c,f,g⟩
 .exact zT (wpAny_loadName_local I.ok.kind hk o p a) hd
 .rcases hk with hk|hk
  .exact zT (wpAny_loadName_cell I.ok.kind hk f g a) hd
  .exact zT (wpAny_loadName_free I.ok.kind hk f g a b) hd
def Awn{i j pos}:PE X (.Constant .int[i] j pos) tC[.int[i]]:=λuw uw uw H uw I h=>wpAny_Constant_int (.int i,H,I.tok _,(_,rfl),h)
def Bmk{b j pos}:PE X (.Constant .bool[b] j pos) tC[.bl[b]]:=λuw uw uw H uw I h=>Constant_bool (.bl b,H,I,rfl,h)
def Bia{x j pos}:PE X (.Constant .str[x] j pos) tC[.str[x]]:=λuw uw uw H uw I h=>Calls.Constant_str (.str x,H,I.tok _,(_,rfl),h)
abbrev Stk(X:Cx):Prop:=X.stack=X.env::X.outer
abbrev Frm(X:Cx):Prop:=X.env.frame=sr X.env.locals
def Gl(X:Cx)(x:t6):Prop:=X.env.kindOf x=sr .globalImplicit
def K9(I:Inv X g f H s)(d:Gl X x)(c:X.mg x=sr u)(h:Q u s)(hd:(x==("__debug__":t6))=t7:=by decide):wpAny (model X.prog X.w) X.A eval[.Name x pos][X.env] Q E s:=(
 fZ I.ok.kind d jB[I.ok.glob ▸ I.mod.glob.keeps I.bk][c][h] hd)
def Aa5(I:Inv X l k H s)(f:Gl X x)(e:X.mg x=sy)(c:bootBuiltins x=sr u)(h:Q u s)(d:x≠"__name__":=by decide)(hd:(x==("__debug__":t6))=t7:=by decide):wpAny (model X.prog X.w) X.A eval[.Name x pos][X.env] Q E s:=by
 let(mb,i,g):=I.mod.blt;exact fZ I.ok.kind f Calls.loadGlobal_builtin[I.ok.glob ▸ I.mod.glob.keeps I.bk][e][I.ok.blt ▸ i.keeps I.bk][(g x d).trans c][h] hd
def tB(t:TE):TT:=λσ H Q=>t σ H λx H1=>∃c,x=.bl c/\Q c H1
def Bpp(t u:TT):TT:=λσ H Q=>t σ H λc H1=>if c=t8 then u σ H1 Q else Q t7 H1
def tOr(t u:TT):TT:=λσ H Q=>t σ H λc H1=>if c=t8 then Q t8 H1 else u σ H1 Q
def Bml(ta tb:TE):TE:=λσ H Q=>ta σ H λx H1=>∃c,x=.bl c/\if c=t8 then tb σ H1 Q else Q .bl[t7] H1
def Bpq(ta tb:TE):TE:=λσ H Q=>ta σ H λx H1=>∃c,x=.bl c/\if c=t8 then Q .bl[t8] H1 else tb σ H1 Q
def Bmm(ta:TE):TE:=λσ H Q=>ta σ H λx H1=>∃c,x=.bl c/\Q .bl[!c] H1
def tIf(t:TT)(ta tb:TE):TE:=λσ H Q=>t σ H λc H1=>if c=t8 then ta σ H1 Q else tb σ H1 Q
end
def SqL(K:aB)(H:Hp)(a:aH)(xs:lg V):Prop:=
 Rd H a .lst[xs]\/
  ∃(o:tu)(its:Array aF)(n:Nat),K.lookup a=sr o/\o.cls=.type "list"/\o.dict=sy/\o.data=.seq its n/\its.size<=sizeLine/\Vals xs its.toList
def SqT(K:aB)(H:Hp)(a:aH)(xs:lg V):Prop:=
 Rd H a .tup[xs]\/
  ∃(o:tu)(its:Array aF)(n:Nat),K.lookup a=sr o/\o.cls=.type "tuple"/\o.data=.seq its n/\its.size<=sizeLine/\Vals xs its.toList
def Bpr:aF->o9 V
 |.none=>sr .non
 |.bool b=>sr .bl[b]
 |.int i _=>sr .int[i]
 |.str x _=>sr .str[x]
 |.bytes b _=>sr .byt[b]
 |.float b _=>sr .flt[b]
 |.ref a=>sr .ref[a]
 |.type n=>sr .ty[n]
 |_=>sy
def RelV.abs(r:RelV x u):Bpr u=sr x:=by
 cases x with
 |non=>cases r;rfl
 |bl _=>cases r;rfl
 |int _=>let(t,rfl):=r;rfl
 |str _=>let(t,rfl):=r;rfl
 |byt _=>let(t,rfl):=r;rfl
 |flt _=>let(t,rfl):=r;rfl
 |ref _=>cases r;rfl
 |ty _=>cases r;rfl
def RelV.inj(r:RelV x u)(q:RelV y u):x=y:=bY r.abs.symm.trans[q.abs]
def Vals.inj{c b:lg V}{d:lg aF}(h:Vals c d):Vals b d->c=b:=by
 induction h generalizing b with
 |nil=>intro g;cases g;rfl
 |cons r _ i=>
  intro g;cases g with
  |cons f e=>rw[r.inj f,i e]
section
def SqT.of{K:aB}(h:H a=sr .tup[xs]):SqT K H a xs:=.inl .inl[h]
def Inv.list(I:Inv X l j H s)(h:SqL X.K H a c):∃b:lg aF,Vals c b/\PlainL s.heap a b.toArray/\c.length<=sizeLine:=by
 rcases h with h|⟨o,b,n,f,g,hd,hs,k,r⟩
 .let(z,b,n,r,e):=h.ok I.hok;exact(b,r,(_,n,e,rfl,rfl,rfl),z)
 .refine(b.toList,r,(o,n,I.kIn a o f,g,hd,()),?_)
  let e:=r.length;simp_all
def Inv.tuple(I:Inv X l j H s)(h:SqT X.K H a c):∃b:lg aF,Vals c b/\wG s.heap a b.toArray/\c.length<=sizeLine:=by
 rcases h with h|⟨o,b,n,f,g,hs,k,r⟩
 .let(z,b,r,p):=h.ok I.hok;exact(b,r,p,z)
 .refine(b.toList,r,(o,I.kIn a o f,g,n,()),?_)
  let e:=r.length;simp_all
def Inv.list_inj(I:Inv X q m H s)(h:SqL X.K H a g)(h':SqL X.K H a f):g=f:=by
 let(k,r,(o,n,e,_,_,d),_):=I.list h;let(b,j,(p,n',e',_,_,c),_):=I.list h';rw[e] at e';cases e';rw[d] at c;injection c with d1 _
 have:=by simpa using congrArg aBq d1
 subst this;exact r.inj j
def Inv.tuple_inj(I:Inv X q m H s)(h:SqT X.K H a g)(h':SqT X.K H a f):g=f:=by
 let(k,r,(o,e,_,n,d),_):=I.tuple h;let(b,j,(p,e',_,n',c),_):=I.tuple h';rw[e] at e';cases e';rw[d] at c;injection c with d1 _
 have:=by simpa using congrArg aBq d1
 subst this;exact r.inj j
end
abbrev Cx.wish(X:Cx)(E:aF->aO->Prop):Cx:={ X with xe:=E }
abbrev Cx.nox(X:Cx):Cx:=X.wish λuw uw=>False
def Cx.Ok.wish{X:Cx}(ok:X.Ok)(E:aF->aO->Prop):(X.wish E).Ok:=(
 (ok.mod,ok.kind,ok.glob,ok.blt,ok.above,ok.inj,ok.has,ok.cab,ok.hd,ok.frames,ok.stk,ok.exf,ok.bs,ok.bsz,ok.noex,ok.exfs,ok.funs,ok.frf))
def Cx.Ok.unwish{X:Cx}{E:aF->aO->Prop}(ok:(X.wish E).Ok):X.Ok:=(
 (ok.mod,ok.kind,ok.glob,ok.blt,ok.above,ok.inj,ok.has,ok.cab,ok.hd,ok.frames,ok.stk,ok.exf,ok.bs,ok.bsz,ok.noex,ok.exfs,ok.funs,ok.frf))
section
def Inv.wish(I:Inv X aa σ H s)(E:aF->aO->Prop):Inv X.wish[E] aa σ H s:=(I.ok.wish E,I.os,I.bare,I.base,I.loc,I.cell,I.free,I.freeC,I.pin,I.hok,I.len)
def Inv.unwish(I:Inv X.wish[E] aa σ H s):Inv X aa σ H s:=(I.ok.unwish,I.os,I.bare,I.base,I.loc,I.cell,I.free,I.freeC,I.pin,I.hok,I.len)
def PE.nox(h:PE X.nox e t):PE X e t:=(λd s a H Q I c=>
 cX[h d s a H Q I.wish[_] c][λ_ _ ⟨v,H',I',r,q⟩=>(v,H',I'.unwish,r,q)] λb b z=>bZ z)
end
section
def Bps(t u:TS):TS:=λD σ H=>t { D with nx:=u D } σ H
def Amd{X:Cx}{st:cO}{rest:lg cO}{t u:TS}(i:PS X st t)(g:PSs X rest u):PSs X (st::rest) (Bps t u):=by
 intro b s d H D I h;refine xW (thn (i b s d H { D with nx:=u D } I h) λf e q=>?_)
 cases f with
 |next=>
  let(a,k,j,q):=q;exact g b e a k D j q
 |ret v=>exact q
 |brk=>exact q
 |cont=>exact q
def Ara{X:Cx}{st:cO}{t:TS}(b:PS X st t):PSs X [st] t:=by
 intro c s a H D I h;refine xW[thn[b c s a H D I h] λf d q=>?_];cases f with
 |next=>exact lX q
 |ret v=>omega
 |brk=>omega
 |cont=>omega
def Inv.quiet(I:Inv X b a H s):interactive X.env=t7:=by simp[interactive,I.ok.kind]
def Bmn(te:TE):TS:=λD σ H=>te σ H λuw H1=>D.nx σ H1
def Arb(he:PE X e te)(hs:swapsWith e sy pos.line X.env=pure t7:=by rfl):PS X (.Expr e pos) Bmn[te]:=λaa s σ H D I h=>wpAny_Expr_any (thn[he aa s σ H _ I h] λv s1 ⟨x,H1,I1,r1,q1⟩=>(σ,H1,I1,q1)) I.quiet hs
def Bpt(te:TE):TS:=λD σ H=>te σ H D.rt
def Bib(he:PE X e te):PS X (.Return sr[e] pos) Bpt[te]:=λaa s σ H D I h=>wpAny_Return_some[thn[he aa s σ H _ I h] λv s1 ⟨x,H1,I1,r1,q1⟩=>(x,σ,H1,I1,r1,q1)]
def Bpu(c:TT)(t u:TS):TS:=λD σ H=>c σ H λb H1=>if b=t8 then t D σ H1 else u D σ H1
end
abbrev TG:=V->St->Hp->(St->Hp->Prop)->Prop
abbrev TGs:=lg V->St->Hp->(St->Hp->Prop)->Prop
def PG(X:Cx)(target:bO)(t:TG):Prop:=
 ∀(aa:lg[aH×tu])(s:aO)(σ:St)(H:Hp)(v:V)(u:aF)(Q:St->Hp->Prop),Inv X aa σ H s->RelV v u->t v σ H Q->
  wpAny (model X.prog X.w) X.A (assign target X.env u) (λuw s'=>∃σ' H',Inv X aa σ' H' s'/\Q σ' H') X.xe s
def PGs(X:Cx)(ts:lg bO)(t:TGs):Prop:=
 ∀(aa:lg[aH×tu])(s:aO)(σ:St)(H:Hp)(vs:lg V)(us:lg aF)(Q:St->Hp->Prop),Inv X aa σ H s->Vals vs us->t vs σ H Q->
  wpAny (model X.prog X.w) X.A (assignInOrder ((assignEach ts X.env).map (·.2)) us) (λuw s'=>∃σ' H',Inv X aa σ' H' s'/\Q σ' H') X.xe s
section
def Xg(i:Nat):TG:=λv σ H Q=>Q (σ.set i sr[v]) H
def Bpv:TGs:=λvs σ H Q=>vs=[]/\Q σ H
def Bg8(t:TG)(u:TGs):TGs:=λvs σ H Q=>∃v r,vs=v::r/\t v σ H λσ' H'=>u r σ' H' Q
def Awo(k:PG X e t)(j:PGs X b u)(hs:(assignEach (e::b) X.env).map (·.2)=assign e X.env::(assignEach b X.env).map (·.2):=by rfl):PGs X (e::b) (Bg8 t u):=by
 rintro c s d H o q Q I r ⟨v,p,l,h⟩;subst l;cases r with
 |cons r g=>
  exact hs ▸ assignInOrder_cons[thn[k c s d H _ _ _ I r h] λ_ f ⟨σ1,H1,I1,q1⟩=>j c f σ1 H1 _ _ Q I1 g q1]
def Bmp(K:aB)(n:Nat)(t:TGs):TG:=λv σ H Q=>∃a xs,v=.ref a/\SqT K H a xs/\xs.length=n/\t xs σ H Q
def Bic(te:TE)(g:TG):TS:=λD σ H=>te σ H λx H1=>g x σ H1 D.nx
def Bid(n:PE X e f)(m:PG X a g)(hs:swapsWithSole [a] e b.line X.env=pure t7:=by rfl)(l:swappedStores [a] e X.env=pure sy:=by rfl)(o:(assignEach [a] X.env).map (·.2)=[assign a X.env]:=by rfl):PS[X][.Assign [a] e b][Bic f g]:=by
 intro d s c H D I h;refine wpAny_Assign_stores (thn[n d s c H _ I h] λv i ⟨x,H1,I1,r1,q1⟩=>?_) hs l;exact o ▸ thn[m d i c H1 x v _ I1 r1 q1] λt u q=>q
end
structure It where
 go:Nat->Hp->Prop
 yld:Nat->Hp->V->Hp->Prop
 stop:Nat->Hp->Prop
def Ado(X:Cx)(aa:lg[aH×tu])(H:Hp)(b:aH):Prop:=
 H b=sy/\b≠X.env.locals/\b∉X.fs/\(b∈X.ex\/X.s₀.heap.objs.size<=b)/\(∀x c,X.env.cells.lookup x=sr c->c≠b)/\∀p∈X.pn ++ aa,p.1≠b
def Inv.fpOk(I:Inv X f h H s)(a:s.heap.objs.size<=b)(d:H' b=sy):Ado X f H' b:=by
 refine(d,jQ[aQ I.lt a],I.nofs a,.inr[aD I.sz a],λx c e z=>?_,λp hp z=>absurd aQ[aZ (I.pin p hp).1][by simp_all] eF[_])
 .let(v,q):=I.cell x c e;exact absurd aQ[q.lt][by simp_all] eF[_]
structure Turn(P:cD)(w:dW)(K:aB)(tg:bO)(J:It)(fp:List aH)(it:aH)(tn:Nat->dI->Prop):Prop where
 mem:it∈fp
 obj:∀i h,tn i h->∀b∈fp,∃o,h.get? b=sr o/\∀v,o.data≠.cell v
 keep:∀i h h',tn i h->(∀b∈fp,∀o,h.get? b=sr o->h'.get? b=sr o)->tn i h'
 item:∀(X:Cx),X.prog=P->X.w=w->X.K=K->X.calm=t8->∀(i:Nat)(aa:List (aH×tu))(s:aO)(σ:St)(H:Hp)(E:aF->aO->Prop),Inv X aa σ H s->(∀b∈fp,Ado X aa H b)->tn i s.heap->J.go i H->
  wpAny (model P w) X.A (pyNext (.ref it)) (λr s1=>∃u,r=sr u/\
   wpAny (model P w) X.A (letOwnedTupleGo tg (.ref it) u) (λuw s2=>∃x H',Inv X aa σ H' s2/\RelV x u/\J.yld i H x H'/\tn (i+1) s2.heap/\∀b∈fp,H' b=sy) E s1) E s
 done:∀(X:Cx),X.prog=P->X.w=w->X.K=K->X.calm=t8->∀(i:Nat)(aa:List (aH×tu))(s:aO)(σ:St)(H:Hp)(E:aF->aO->Prop),Inv X aa σ H s->(∀b∈fp,Ado X aa H b)->tn i s.heap->J.stop i H->
  wpAny (model P w) X.A (pyNext (.ref it)) (λr s1=>r=sy/\Inv X aa σ H s1) E s
 self:∀(A:eQ)(i:Nat)(s:aO)(Q:aF->aO->Prop)(E:aF->aO->Prop),tn i s.heap->Q (.ref it) s->wpAny (model P w) A (pyIter (.ref it)) Q E s
abbrev TI:=St->Hp->(It->Hp->Prop)->Prop
def PIE(X:Cx)(aa:lg[aH×tu])(σ:St)(tg:bO)(R:It->Hp->Prop)(itv:aF)(s2:aO):Prop:=
 ∃(it:aH)(fp:lg aH)(tn:Nat->dI->Prop)(J:It)(H':Hp),itv=.ref it/\Inv X aa σ H' s2/\Turn X.prog X.w X.K tg J fp it tn/\tn 0 s2.heap/\(∀b∈fp,Ado X aa H' b)/\R J H'
def PI(X:Cx)(tg iter:bO)(wi:TI):Prop:=
 ∀(aa:lg[aH×tu])(s:aO)(σ:St)(H:Hp)(R:It->Hp->Prop),Inv X aa σ H s->wi σ H R->
  wpAny (model X.prog X.w) X.A (eval iter X.env) (λv s1=>wpAny (model X.prog X.w) X.A pyIter[v] (PIE X aa σ tg R) X.xe s1) X.xe s
def Arc(d:s.heap.get? c=sr o)(f:o.cls=.type n)(hd:o.data=.fields g)(e:["enumerate","zip","dict_itemiterator","dict_reverseitemiterator","odict_iterator","itertools.zip_longest","itertools.pairwise"].contains n=t7)(a:Q u9 s):wpAny M A (letOwnedTupleGo b .ref[c] u) Q E s:=by
 cases b <;> first
  |exact aG a
  |(cases u <;> first
    |exact aG a
    |(refine aA[zU d ?_];rw[f,hd];show wpAny M A (if _ then _ else _) Q E s;rw[dm (by intro h;rw[e,zV] at h;cases h)];exact aG a))
def Itl(K:aB)(a:aH):It:=
 (λi H=>∃xs x,SqL K H a xs/\xs[i]?=sr x,λi H x H'=>H'=H/\∀xs,SqL K H a xs->xs[i]?=sr x,λi H=>∃xs,SqL K H a xs/\xs.length<=i)
def Itt(K:aB)(a:aH):It:=
 (λi H=>∃xs x,SqT K H a xs/\xs[i]?=sr x,λi H x H'=>H'=H/\∀xs,SqT K H a xs->xs[i]?=sr x,λi H=>∃xs,SqT K H a xs/\xs.length<=i)
def Itr(lo:Int)(n:Nat):It:=(λi uw=>i < n,λi H x H'=>H'=H/\x=.int[lo+i],λi uw=>n<=i)
theorem Atx{P:cD}{w:dW}{K:aB}{S:bO}(a f:aH):Turn P w K S (Itl K a) [f] f (λi h=>h.IsListIter f a i) where
 mem:=by simp
 obj:=λi h st b g=>by
  let e:b=f:=by simpa using g
  subst e;let(o,e,c,d):=st;exact(o,e,λv z=>by rw[d] at z;cases z)
 keep:=λi h h' st k=>st.at λo e=>k f () o e
 item:=by
  intro X A t hK N i O s L H E I hf st y;subst A t hK;let(Q,x,m,r):=y;let(q,n,p,Y):=I.list m;let(u,hu,U):=n.get r;let(J,G,f2,F,C,B):=hf f ()
  refine wpAny_pyNext_list_item st p.isList (x:=u) (by simpa using hu) λh' j T=>?_
  let I1:Inv X O L H { s with heap:=h' }:=I.turned (t':=s.toks) (λb o g e=>(T.2 b g).trans e) J G F C B
  let(o,e,c,d):=id j;exact(u,rfl,Arc (s:={ s with heap:=h' }) e c d () (x,H,I1,U,(rfl,λys Z=>by rw[I.list_inj Z m];exact r),j,λb g=>(hf b g).1))
 done:=by
  intro X A t hK N i O s L H E I hf st y;subst A t hK;let(Q,m,r):=y;let(q,n,p,Y):=I.list m;let(J,G,f2,F,C,B):=hf f ()
  let hl:=n.length;exact wpAny_pyNext_list_end I.ok.hd[N] st p.isList (by simp;omega) λh' eb=>(rfl,I.turned (t':=s.toks) (λb o g e=>eb b o g e) J G F C B)
 self:=λl l l l l st h=>wpAny_pyIter_listiter st h
theorem Ao7{P:cD}{w:dW}{K:aB}{S:bO}(a g:aH):Turn P w K S (Itt K a) [g] g (λi h=>h.IsTupleIter g a i) where
 mem:=by simp
 obj:=λi h st b j=>by
  let e:b=g:=by simpa using j
  subst e;let(o,e,c,d):=st;exact(o,e,λv z=>by rw[d] at z;cases z)
 keep:=λi h h' st k=>st.at λo e=>k g () o e
 item:=by
  intro X A t hK N i O s L H E I hf st y;subst A t hK;let(Q,x,n,r):=y;let(f,q,p,Y):=I.tuple n;let(u,hu,U):=q.get r;let(J,G,f2,F,C,B):=hf g ()
  refine wpAny_pyNext_tuple_item st (show s.heap.IsTuple a f.toArray from p) (x:=u) (by simpa using hu) λh' l T=>?_
  let I1:Inv X O L H { s with heap:=h' }:=I.turned (t':=s.toks) (λb o j e=>(T.2 b j).trans e) J G F C B
  let(o,e,c,d):=id l;exact(u,rfl,Arc (s:={ s with heap:=h' }) e c d () (x,H,I1,U,(rfl,λys Z=>by rw[I.tuple_inj Z n];exact r),l,λb j=>(hf b j).1))
 done:=by
  intro X A t hK N i O s L H E I hf st y;subst A t hK;let(Q,n,r):=y;let(f,q,p,Y):=I.tuple n;let(J,G,f2,F,C,B):=hf g ()
  let hl:=q.length;exact wpAny_pyNext_tuple_end I.ok.hd[N] st (show s.heap.IsTuple a f.toArray from p) (by simp;omega) λh' eb=>(rfl,I.turned (t':=s.toks) (λb o j e=>eb b o j e) J G F C B)
 self:=λm m m m m st h=>wpAny_pyIter_tupleiter st h
theorem Ao8{P:cD}{w:dW}{K:aB}{G:bO}(a:aH)(lo:Int)(n:Nat):Turn P w K G (Itr lo n) [a] a (λi h=>IsRangeIter h a (lo+(i:Nat) * 1) ((n:Int) - (i:Nat)) 1) where
 mem:=by simp
 obj:=λi h st b c=>by
  let e:b=a:=by simpa using c
  subst e;exact(_,st,λv z=>by
   let z':yP _=uX v:=z;cases z')
 keep:=λi h h' st k=>k a () _ st
 item:=by
  intro X q l hK p i F s B H E I hf st m;subst q l hK;let(A,y,N,x,u,r):=hf a ()
  let W:=Walks.range (prog:=X.prog) (w:=X.w) I.ok.hd[p] a lo 1 n;refine W.item i s _ _ m st λv h' C L d J=>?_;let(t,rfl):=L;let Q:Inv X F B H { s with heap:=h',toks:=C }:=I.turned (λb o c e=>J b o (by simpa using c) e) A y x u r
  refine(_,rfl,Arc (s:={ s with heap:=h',toks:=C }) (n:="range_iterator") d rfl rfl () (.int[lo+i],H,Q,(t,?_),(rfl,rfl),d,λb c=>(hf b c).1))
  rw[Int.mul_one]
 done:=by
  intro X q l hK p i F s B H E I hf st m;subst q l hK;let(A,y,N,x,u,r):=hf a ()
  exact wpAny_pyNext_range_end I.ok.hd[p] st (by have:n<=i:=m;omega) λh' O=>(rfl,I.turned (t':=s.toks) (λb o c e=>O b o c e) A y x u r)
 self:=λj j j j j st h=>wpAny_pyIter_rangeiter st h
section
def Bmq(K:aB)(tl:TE):TI:=λσ H R=>tl σ H λx H1=>∃a,x=.ref a/\(∃xs,SqL K H1 a xs)/\R (Itl K a) H1
def Bpw(K:aB)(tl:TE):TI:=λσ H R=>tl σ H λx H1=>∃a,x=.ref a/\(∃xs,SqT K H1 a xs)/\R (Itt K a) H1
def Bbz{l:bO}{tl:TE}(m:PE X l tl):PI X w l (Bmq X.K tl):=by
 intro r s d H R I h;refine thn[m r s d H _ I h] λv f ⟨x,H1,I1,r1,q1⟩=>?_;let(a,e,(u,k),q):=q1;subst e;cases r1;let(j,y,p,z):=I1.list k;apply oO p.isList;refine(f.heap.objs.size,_,_,_,H1,rfl,I1.kept λb o e=>aC _ e,Atx a _,(_,aU _ rfl,rfl,rfl),λb n=>?_,q);let e:=by simpa using n
 subst e;exact I1.fpOk aN[_] I1.hok.fresh[aN[_]]
def Bie{l:bO}{tl:TE}(m:PE X l tl):PI X w l (Bpw X.K tl):=by
 intro r s d H R I h;refine thn[m r s d H _ I h] λv f ⟨x,H1,I1,r1,q1⟩=>?_;let(a,e,(u,k),q):=q1;subst e;cases r1;let(j,y,p,z):=I1.tuple k;apply qW[p];refine(f.heap.objs.size,_,_,_,H1,rfl,I1.kept λb o e=>aC _ e,Ao7 a _,(_,aU _ rfl,rfl,rfl),λb n=>?_,q);let e:=by simpa using n
 subst e;exact I1.fpOk aN[_] I1.hok.fresh[aN[_]]
def Awp{lo hi:Int}{t u v:Tok}{g:Nat}(I:Inv X h f H s)(m:-(2 ^ 62)<=lo)(l:lo < 2 ^ 62)(k:-(2 ^ 62)<=hi)(j:hi < 2 ^ 62)(q:R (Itr lo (hi - lo).toNat) H):wpAny (model X.prog X.w) X.A pyIter[.ref[s.heap.objs.size]] (PIE X h f x R) E { s with heap:=s.heap.push { cls:=.type "range",data:=.fields #[.int lo t,.int hi u,.int 1 v] },toks:=g }:=by
 refine wpAny_pyIter_range[IsRange.new ..][small_one m l k j][?_];let d:Inv X h f H { s with heap:=s.heap.push { cls:=.type "range",data:=.fields #[.int lo t,.int hi u,.int 1 v] },toks:=g }:=I.kept λb o e=>aC _ e
 refine(_,_,_,_,H,rfl,
  d.kept λb o e=>aC _ e,Ao8 _ lo _,?_,λb i=>?_,q)
 .let p:lo+(0:Nat) * 1=lo:=by simp
  let n:((hi - lo).toNat:Nat) - ((0:Nat):Int)=aBl lo hi 1:=by rw[rangeSize_one];split <;> omega
  rw[p,n];exact aU _ rfl
 .let e:b=(s.heap.push { cls:=.type "range",data:=.fields #[.int lo t,.int hi u,.int 1 v] }).objs.size:=by simpa using i
  subst e;exact d.fpOk aN[_] d.hok.fresh[aN[_]]
def Bmr(ta:TA):TI:=λσ H R=>ta σ H λvs H1=>∃j:Int,vs=[.int j]/\-(2 ^ 62)<=j/\j < 2 ^ 62/\R (Itr 0 j.toNat) H1
def Bpx(wi:TI)(g:TG)(tb:TS):TS:=λD σ H=>wi σ H λJ H1=>∃W:Nat->Nat->St->Hp->Prop,(∃m,W 0 m σ H1)/\∀i m σ H,W i m σ H->
 (J.stop i H/\D.nx σ H)\/(J.go i H/\∃N:St->Hp->Prop,(∀σ' H',N σ' H'->∃m',m' < m/\W (i+1) m' σ' H')/\∀x H',J.yld i H x H'->g x σ H' λσ2 H2=>tb { D with nx:=N,ct:=N,bk:=D.nx } σ2 H2)
def Aes(fp:lg aH)(h:dI):lg[aH×tu]:=fp.filterMap λb=>(h.get? b).map λo=>(u6 b o)
def Ms(a:b∈c)(e:h.get? b=sr o):(u6 b o)∈Aes c h:=(gA.mpr (b,a,by simp_all))
def Aty(hp:p∈Aes a h):p.1∈a/\h.get? p.1=sr p.2:=by
 let(b,c,e):=gA.mp hp;cases q:h.get? b with
 |none=>simp_all
 |some o=>
  rw[q] at e;let e':=bY e;subst e';trivial
def Inv.pinned(I:Inv X c f H s)(hf:∀b∈fp,Ado X c H b)(g:∀b∈fp,∃o,s.heap.get? b=sr o/\∀v,o.data≠.cell v):Inv X (c ++ Aes fp s.heap) f H s:=(
 I.pins_of λp hp=>(bF.mp hp).elim (λz=>I.pin p (bV _ z)) λz=>by
  let(a,e):=Aty z;let(k,j,h,_):=hf p.1 a;let(o,e',d):=g p.1 a;simp_all)
def Inv.unpinned(I:Inv X (aa ++ pl) σ H s):Inv X aa σ H s:=I.pins_of λp hp=>I.pin p bV[_][cB _ hp]
def Bif(hp:xX (model X.prog X.w) X.A X.env X.xe)(hc:X.calm=t8)(hi:PI X tg z wi)(hg:PG X tg g)(l:PSs X body tb)(hs:∀x,foldedSetIterable z X.env x=pure x:=by intro _;rfl):PS[X][.For tg z body [] pos][Bpx wi g tb]:=by
 intro C s σ H D I h;refine wpAny_For (thn[hi C s σ H _ I h] λv s1 h1=>thn h1 λitv s2 h2=>?_) hs;let(it,O,tn,J,H2,e,I2,T,S,f2,W,(m0,w0),E):=h2;subst e;let k:∀{t:Hp},(∀b∈O,t b=sy)->∀b∈O,Ado X C t b:=λhn b l=>(hn b l,(f2 b l).2);refine codeAny_forLoop_any (λn s'=>∃i j t,Inv X C j t s'/\tn i s'.heap/\(∀b∈O,t b=sy)/\W i n j t) ?_ m0 (0,σ,H2,I2,S,λb l=>(f2 b l).1,w0);rintro n s3 ⟨i,c,P,I3,F,L,w3⟩;rcases E i n c P w3 with ⟨stop,qn⟩|⟨go,N,hN,step⟩
 .refine nY hp (thn[T.done X rfl rfl rfl hc i C s3 c P X.xe I3 k[L] F stop] λr s4 ⟨hr,I4⟩=>?_);subst hr;exact lX (c,P,I4,qn)
 .refine nY hp (thn[T.item X rfl rfl rfl hc i C s3 c P X.xe I3 k[L] F go] λr s4 ⟨u,hr,h4⟩=>?_);subst hr;refine nY hp (thn h4 λ_ s5 ⟨x,H5,I5,r5,y5,st5,fr5⟩=>?_);let I5':=I5.pinned[k fr5][T.obj _ _ st5];refine nY hp (thn[hg _ s5 c H5 x u _ I5' r5 (step x H5 y5)] λ_ s6 ⟨σ6,H6,I6,q6⟩=>?_);refine nY hp (thn[l _ s6 σ6 H6 _ I6 q6] λf U y=>?_);let again:∀{a:St} {q:Hp},Inv X (C ++ Aes O s5.heap) a q U->N a q->∃m,m < n/\∃i j t,Inv X C j t U/\tn i U.heap/\(∀b∈O,t b=sy)/\W i m j t:=λ{a q} p G=>by
   let(m',hm,w7):=hN a q G;refine(m',hm,i+1,a,q,p.unpinned,T.keep _ _ _ st5 λb l o e=>(p.pin[u6 b o][bV _ bV[_][Ms l e]]).1,λb l=>?_,w7);let(o,e,d):=T.obj _ _ st5 b l;exact(p.pin[u6 b o][bV _ bV[_][Ms l e]]).2.1
  cases f with
  |next=>let(a,q,p,G):=y;exact again p G
  |cont=>let(a,q,p,G):=y;exact again p G
  |brk=>let(a,q,p,y):=y;exact(a,q,p.unpinned,y)
  |ret v=>let(x7,a,q,p,r7,y):=y;exact(x7,a,q,p.unpinned,r7,y)
end
abbrev R2:=V->V->Hp->VK->Prop
def OpR(X:Cx)(f:aF->aF->Sem aF)(r:R2):Prop:=
 ∀(aa:lg[aH×tu])(s:aO)(σ:St)(H:Hp)(x y:V)(v u:aF)(Q:VK),Inv X aa σ H s->RelV x v->RelV y u->r x y H Q->
  wpAny (model X.prog X.w) X.A (f v u) (EP X aa σ Q) X.xe s
def UnR(X:Cx)(f:aF->Sem aF)(r:V->Hp->VK->Prop):Prop:=
 ∀(aa:lg[aH×tu])(s:aO)(σ:St)(H:Hp)(x:V)(v:aF)(Q:VK),Inv X aa σ H s->RelV x v->r x H Q->
  wpAny (model X.prog X.w) X.A f[v] (EP X aa σ Q) X.xe s
def Jv(X:Cx)(f:aF)(r:lg V->Hp->VK->Prop):Prop:=
 ∀(aa:lg[aH×tu])(s:aO)(σ:St)(H:Hp)(xs:lg V)(us:lg aF)(Q:VK),Inv X aa σ H s->Vals xs us->r xs H Q->
  wpAny (model X.prog X.w) X.A (call f us) (EP X aa σ Q) X.xe s
def tOp(r:R2)(ta tb:TE):TE:=λσ H Q=>ta σ H λx H1=>tb σ H1 λy H2=>r x y H2 Q
def rI(C:Int->Int->Prop)(g:Int->Int->V):R2:=λx y H Q=>∃i j,x=.int i/\y=.int j/\C i j/\Q (g i j) H
def rI0(g:Int->Int->V):R2:=λx y H Q=>∃i j,x=.int i/\y=.int j/\Q (g i j) H
def rU(g:Int->V):V->Hp->VK->Prop:=λx H Q=>∃i,x=.int i/\Q g[i] H
section
def Big(B:PE X a n)(z:PE X b tb){k:lg[aH×tu]}{s:aO}{c:St}{H:Hp}{R:V->V->Hp->Prop}(I:Inv X k c H s)(h:n c H λx l=>tb c l λy d=>R x y d){Q:aF->aO->Prop}{f:aF->aF->Sem aF}(hf:∀v u j x y d,Inv X k c d j->RelV x v->RelV y u->R x y d->wpAny (model X.prog X.w) X.A (f v u) Q X.xe j):
  wpAny (model X.prog X.w) X.A (eval a X.env) (λv g=>wpAny (model X.prog X.w) X.A (eval b X.env) (λu e=>wpAny (model X.prog X.w) X.A (f v u) Q X.xe e) X.xe g) X.xe s:=(thn[B k s c H _ I h] λv o ⟨x,l,I1,r1,q1⟩=>thn[z k o c l _ I1 q1] λu j ⟨y,d,I2,r2,q2⟩=>hf v u j x y d I2 r1 r2 q2)
def opI{C:Int->Int->Prop}{g:Int->Int->Int}(b:∀(i j:Int)(t u:Tok)(s:aO)(Q:aF->aO->Prop)(E:aF->aO->Prop),C i j->Q .int[g i j][s.toks] { s with toks:=s.toks+1 }->wpAny (model X.prog X.w) X.A f[.int i t][.int j u] Q E s):
  OpR X f (rI C λi j=>.int[g i j]):=by
 rintro m s l H x y v u Q I e d ⟨i,j,rfl,rfl,h,q⟩;let(t,rfl):=e;let(c,rfl):=d;exact b i j t c s _ _ h (.int _,H,I.tok _,(_,rfl),q)
def Bih{g:Int->Int->Int}(b:∀(i j:Int)(t u:Tok)(s:aO)(Q:aF->aO->Prop)(E:aF->aO->Prop),Q .int[g i j][s.toks] { s with toks:=s.toks+1 }->wpAny (model X.prog X.w) X.A f[.int i t][.int j u] Q E s):
  OpR X f (rI0 λi j=>.int[g i j]):=by
 rintro l s k H x y v u Q I e d ⟨i,j,rfl,rfl,q⟩;let(t,rfl):=e;let(c,rfl):=d;exact b i j t c s _ _ (.int _,H,I.tok _,(_,rfl),q)
def Bb0{g:Int->Int->Bool}(a:∀(i j:Int)(t u:Tok)(s:aO)(Q:aF->aO->Prop)(E:aF->aO->Prop),Q .bool[g i j] s->wpAny (model X.prog X.w) X.A f[.int i t][.int j u] Q E s):
  OpR X f (rI0 λi j=>.bl[g i j]):=by
 rintro m s l H x y v u Q I h e ⟨i,j,rfl,rfl,q⟩;let(t,rfl):=h;let(d,rfl):=e;exact a i j t d s _ _ (.bl _,H,I,rfl,q)
def Bpy(i j:Int):Prop:=0 < j/\j < 1073741824
def Bpz(i j:Int):Prop:=0<=j/\j<=1000000/\i.natAbs < 2 ^ 64
def Bb1(i j:Int):Prop:=(-(2 ^ 64) < i/\i < 2 ^ 64)\/(-(2 ^ 64) < j/\j < 2 ^ 64)
def Bb1.ok{i j:Int}(h:Bb1 i j):IntMulOk i j:=by
 rcases h with ⟨b,a⟩|⟨b,a⟩
 .exact .of_left[aAx b a]
 .exact .of_right[aAx b a]
def Bii:OpR X binaryOp[.Add] (rI0 λi j=>.int[i+j]):=Bih λuw uw uw uw uw uw uw q=>add_int q
def Bij:OpR X binaryOp[.Sub] (rI0 λi j=>.int[i - j]):=Bih λuw uw uw uw uw uw uw q=>sub_int q
def Bik:OpR X binaryOp[.Mult] (rI Bb1 λi j=>.int[i * j]):=opI λuw uw uw uw uw uw uw hc q=>mul_int q hc.ok
def unI{g:Int->Int}(a:∀(i:Int)(t:Tok)(s:aO)(Q:aF->aO->Prop)(E:aF->aO->Prop),Q (.int g[i] s.toks) { s with toks:=s.toks+1 }->wpAny (model X.prog X.w) X.A f[.int i t] Q E s):
  UnR X f (rU λi=>.int g[i]):=by
 rintro h s e H x v Q I c ⟨i,rfl,q⟩;let(t,rfl):=c;exact a i t s _ _ (.int _,H,I.tok _,(_,rfl),q)
end
section
def Jb(I:Inv X c a H s)(q:Q .bl[k] H)(e:k=b):EP X c a Q .bool[b] s:=by
 subst e;exact(.bl k,H,I,rfl,q)
def Bms:OpR X compareOp[.Lt] (rI0 λi j=>.bl decide[i < j]):=Bb0 λuw uw uw uw uw uw uw q=>lt_int q
def Bmt:OpR X compareOp[.LtE] (rI0 λi j=>.bl decide[i<=j]):=Bb0 λuw uw uw uw uw uw uw q=>le_int q
def Bmu:OpR X compareOp[.Gt] (rI0 λi j=>.bl decide[j < i]):=Bb0 λuw uw uw uw uw uw uw q=>gt_int q
def Bmv:OpR X compareOp[.GtE] (rI0 λi j=>.bl decide[j<=i]):=Bb0 λuw uw uw uw uw uw uw q=>ge_int q
def Atz:OpR X compareOp[.In] (λx y H Q=>∃i j,x=.str i/\y=.str j/\Q .bl[!(dM j i 0 j.length 1).isEmpty] H):=by
 rintro e s c H x y v u Q I b a ⟨i,j,rfl,rfl,q⟩;let(t,rfl):=b;let(d,rfl):=a;exact in_str[Jb I q rfl]
def Bil:OpR X compareOp[.Is] (λx y H Q=>y=.non/\Q .bl[decide[x=.non]] H):=by
 rintro d s c H x y v u Q I b a ⟨rfl,q⟩;cases a;refine is_none_gen[Jb I q ?_];cases x <;> first
  |rfl
  |(let(t,rfl):=b;rfl)
def Bb2:OpR X compareOp[.IsNot] (λx y H Q=>y=.non/\Q .bl[!decide (x=.non)] H):=by
 rintro d s c H x y v u Q I b a ⟨rfl,q⟩;cases a;refine isnot_none_gen[Jb I q ?_];cases x <;> first
  |rfl
  |(let(t,rfl):=b;rfl)
def isObj:HO->Bool
 |.lst _=>t8
 |.ins _ _ _=>t8
 |_=>t7
def Vp{f:lg[aH×tu]}{s:aO}{c:St}{H:Hp}{a:aH}{o:HO}(I:Inv X f c H s)(h:H a=sr o)(p:isObj o=t8):∃ob,s.heap.get? a=sr ob/\ob.cls≠.type "tuple":=by
 cases o with
 |lst i=>
  obtain⟨_,d,n,_,e⟩:_:=I.hok a _ h;exact(_,e,(by show pH "list"≠_;trivial))
 |ins C j fs=>
  let(_,_,_,e,_):=I.hok a _ h;exact(_,e,())
 |_=>exact absurd (show t7=t8 from p) cV
def OpR.or(h:OpR X f r)(h':OpR X f e):OpR X f (λx y H Q=>r x y H Q\/e x y H Q):=by
 intro d s a H x y v u Q I c b q;rcases q with q|q
 .exact h d s a H x y v u Q I c b q
 .exact h' d s a H x y v u Q I c b q
def Bmw(t:TE):TT:=λσ H Q=>t σ H λx H'=>∃k,x=.bl k/\Q k H'
def Ao9(r r':R2)(ta tb tc:TE):TE:=λσ H Q=>ta σ H λx H1=>tb σ H1 λy H2=>r x y H2 λz H3=>∃k,z=.bl k/\
 (if k=t8 then tc σ H3 λw' H4=>r' y w' H4 Q else Q .bl[t7] H3)
def Awq(T:OpR X compareOp[n] r)(j:OpR X compareOp[g] L)(ha:PE X a w)(Z:PE X b tb)(Y:PE X c t)(U:lastMarks [n,g] [b,c]=t7:=by with_unfolding_all rfl):PE[X][.Compare a [n,g] [b,c] pos][Ao9 r L w tb t]:=by
 intro i s f H Q I h;refine Compare_chain (thn[ha i s f H _ I h] λv E ⟨x,H1,I1,r1,q1⟩=>chain_link (thn[Z i E f H1 _ I1 q1] λu C ⟨y,H2,I2,r2,q2⟩=>
  thn[T i C f H2 x y v u _ I2 r1 r2 q2] λd B ⟨z,H3,I3,r3,k,e,q3⟩=>?_)) U
 subst e;cases r3;apply gK;cases k with
 |false=>exact ite_ff (.bl t7,H3,I3,rfl,q3)
 |true=>exact ite_tt chain_last[thn[Y i B f H3 _ I3 q3] λq A ⟨z',H4,I4,r4,q4⟩=>j i A f H4 y z' u q Q I4 r2 r4 q4]
def Awr(Z:OpR X compareOp[n] r)(j:OpR X compareOp[g] N)(ha:PE X a w)(hb:PE X b tb)(hc:PE X c t)(hm:lastMarks [n,g] [b,c]=t7:=by with_unfolding_all rfl):PT X (.Compare a [n,g] [b,c] pos) Bmw[Ao9 r N w tb t]:=by
 intro i s f H Q I h;refine isTrue_chain (thn[ha i s f H _ I h] λv E ⟨x,H1,I1,r1,q1⟩=>test_link (thn[hb i E f H1 _ I1 q1] λu C ⟨y,H2,I2,r2,q2⟩=>
  thn[Z i C f H2 x y v u _ I2 r1 r2 q2] λd B ⟨z,H3,I3,r3,k,e,q3⟩=>?_)) hm
 subst e;cases r3;apply gK;cases k with
 |false=>
  let(k',e',U):=q3;cases e';exact ite_ff (H3,I3,U)
 |true=>
  refine ite_tt test_last[thn[hc i B f H3 _ I3 q3] λq A ⟨z',H4,I4,r4,q4⟩=>thn[j i A f H4 y z' u q _ I4 r2 r4 q4] λd' s5 ⟨z2,H5,I5,r5,k2,e2,q5⟩=>?_];subst e2;cases r5;exact gK (H5,I5,q5)
def Aet:(sizeLine:Nat) < 2 ^ 63:=by decide
def Apa:OpR X binaryOp[.Add] (λx y H Q=>∃i j,x=.str i/\y=.str j/\i.length+j.length<=sizeLine/\Q .str[i ++ j] H):=by
 rintro g s e H x y v u Q I c b ⟨i,j,rfl,rfl,d,q⟩;let(t,rfl):=c;let(a,rfl):=b;exact add_str (λa f=>(.str _,H,I.tok _,(_,rfl),q)) d
def vals1(r:Vals [x] a):∃u,a=[u]/\RelV x u:=by
 cases r with
 |cons c b=>cases b;exact(_,rfl,c)
def vals2(r:Vals [x,y] b):∃u a,b=[u,a]/\RelV x u/\RelV y a:=by
 cases r with
 |cons f e=>
  cases e with
  |cons d c=>cases c;exact(_,_,rfl,f,d)
def Bp0(K:aB)(x:V)(H:Hp)(n:Nat):Prop:=
 match x with
 |.str y=>y.length<=sizeLine/\n=y.length
 |.byt y=>y.size<=sizeLine/\n=y.size
 |.ref p=>(∃xs,SqL K H p xs/\n=xs.length)\/∃xs,SqT K H p xs/\n=xs.length
 |_=>False
def Aws:Jv X .builtin["len"] (λb H Q=>∃x n,b=[x]/\Bp0 X.K x H n/\Q .int[n] H):=by
 rintro m s j H b k Q I r ⟨x,n,rfl,e,q⟩;let(u,rfl,c):=vals1 r;let l:=Aet;let hs:sizeLine=16777216:=rN;cases x with
 |str y=>
  let(t,rfl):=c;obtain⟨i,e'⟩:_:=e;subst e';exact len_str () (.int _,H,I.tok _,(_,rfl),q)
 |byt y=>
  let(t,rfl):=c;obtain⟨i,e'⟩:_:=e;subst e';exact PySem.W.len_bytes () (.int _,H,I.tok _,(_,rfl),q)
 |ref p=>
  cases c;let e':=e;rcases e' with ⟨b,g,e'⟩|⟨b,g,e'⟩
  .subst e';let(f,d,pl,h):=I.list g;let a:=d.length;exact Calls.call_len_list pl.isList (by simp only[cZ];omega) (.int b.length,H,I.tok _,(_,by simp only[cZ];rw[a]),q)
  .subst e';let(f,d,pl,h):=I.tuple g;let a:=d.length;exact len_tuple pl (by simp only[cZ];omega) (.int b.length,H,I.tok _,(_,by simp only[cZ];rw[a]),q)
 |_=>exact bZ e
end
structure At0(h:dI)(x dx C:aH)(mA:t6->Option aF):Prop where
 obj:h.get? x=sr (lW C dx)
 ns:h.Ns1 dx mA
 ne:dx≠x
nonrec def Ahy{h:dI}{g:aH}{d:t6->o9 aF}(n:h.Ns1 g d):∃c,h.get? g=sr c/\∀name,qX name c=sr d[name]:=by
 let(o,f,s,k,hd,m,_,l):=n;refine(o,k,λname=>?_);let e:=l name;unfold nsFind findBy at e;rw[<-Array.find?_toList] at e;unfold qX;rw[hd];dsimp only;split
 .rename_i y q;rw[q] at e;exact congrArg sr e
 .rename_i q;rw[q] at e;let a:f.toList.any (·.refKey)=t7:=by
   rw[List.any_eq_false];intro y j;let(z,t,b):=m y Array.mem_toList_iff.mp[j];simp[aDz,b]
  let p:¬ f.toList.any (·.refKey)=t8:=by rw[a];simp
  rw[dm p];exact congrArg sr e
def At0.look(I:At0 h x e C b):∃a,PySem.W.InstAt h x (lW C e) C sr[a]/\∀name,qX name a=sr b[name]:=(
 let ⟨a,c,d⟩:=Ahy I.ns
 (a,(I.obj,rfl,rfl,c),d))
section
def Awt{prog:cD}{w:dW}{A:eQ}{E:aF->aO->Prop}{s:aO}{K:aB}{x g C f:aH}{b:t6->o9 aF}{name:t6}(X:K.In s.heap)(I:At0 s.heap x g C b)(c:pI K C name=t8)(hf:cF K .ref[C] name=sr sr[.ref[f]])(e:tO K .ref[f]=t8)(i:b name=sy)(h:Q (u6 .ref[f] [.ref x]) s):
  wpAny (model prog w) A (getMethod .ref[x] name pl) Q E s:=by
 let(d,J,j):=I.look;exact PySem.W.method_fn X J (qH c).1 (qH c).2 hf beq_iff_eq.mp[e] (by show (qX name d).map _=_;simp_all) h
def Bb3{prog:cD}{w:dW}{A:eQ}{E:aF->aO->Prop}{s:aO}{K:aB}{x e C:aH}{f:t6->o9 aF}{name:t6}{v:aF}(X:K.In s.heap)(I:At0 s.heap x e C f)(hs:cF K .ref[C] "__setattr__"=sr sr[.builtin["object.__setattr__"]])(hp:rO K C=t8)(n:uC K C name=sr sy)(p:mJ K C=t8)(m:wH f ns)(o:ns.length<=sizeLine)(h:∀h',At0 h' x e C (λy=>if y=name then sr v else f y)->gC e s.heap h'->Q u9 { s with heap:=h',toks:=s.toks+2 }):
  wpAny (model prog w) A (setAttr .ref[x] name v) Q E s:=by
 let(z,J,F):=I.look;refine PySem.W.set_plain X J hs (PySem.W.osa_open (r:=sy) X J hp n λb=>?_);let(G,q,j):=PySem.W.any_some p;refine aA aG[aA[aA[zW I.obj aA[aDg[PySem.W.looks_clsIn X q][?_]]]]];rw[j];refine aG (a:=sr e) aA[aG[aA[?_]]];refine aBr I.ns λh' d c=>?_;let(B,t,u,g,i,k):=d.count[aDs name v m];refine aA xY[g][i ▸ xZ aD[k][by grind]][?_]
 exact aG[h _ ((c.2 _ bN[I.ne]).trans I.obj,d,I.ne) c]
def Awu{prog:cD}{w:dW}{A:eQ}{s:aO}{K:aB}{C f:aH}(X:K.In s.heap)(c:lY K C=t8)(hi:cF K .ref[C] "__init__"=sr sr[.ref[f]])(hf:iY K .ref[f]=sr .type["function"])(h:codeAny (model prog w) A.under[.builtin "type.__call__" (.ref C::a,b)] (.call .ref[f] (.ref[s.heap.objs.size+1]::a,b)) PySem.W.InitBack[s.heap.objs.size+1][R]
   { s with heap:=(s.heap.push mK).push (lW C s.heap.objs.size) }):
  codeAny (model prog w) A (.call .ref[C] (a,b)) R s:=(PySem.W.make_core[PySem.W.makes_of X c][PySem.W.looks_findIn X hi][λself=>PySem.W.bind_fn X self hf][.inl rfl][h])
end
def Wd(f:t6)(v:V):lg[t6×V]->lg (t6×V)
 |[]=>[(f,v)]
 |(g,x)::r=>if g=f then (u6 g v)::r else (u6 g x)::Wd f v r
theorem Ab4(f g:t6)(v:V):∀fs:lg[t6×V],(Wd f v fs).lookup g=if g=f then sr v else fs.lookup g
 |[]=>by
  show jR g [(f,v)]=_;by_cases h:g=f
  .let a:(g==f)=t8:=beq_iff_eq.mpr h;simp only[jR,a,di h]
  .let a:(g==f)=t7:=beq_eq_false_iff_ne.mpr h;simp only[jR,a,dm h]
 |(k,x)::r=>by
  rw[show Wd f v ((u6 k x)::r)=(if k=f then (u6 k v)::r else _) from rfl]
  by_cases b:k=f
  .rw[di b];by_cases h:g=k
   .let a:(g==k)=t8:=beq_iff_eq.mpr h;simp only[jR,a,di h.trans[b]]
   .let a:(g==k)=t7:=beq_eq_false_iff_ne.mpr h;simp only[jR,a,dm (λe:g=f=>h e.trans[b.symm])]
  .rw[dm b];by_cases h:g=k
   .let a:(g==k)=t8:=beq_iff_eq.mpr h;simp only[jR,a,dm (λe:g=f=>b h.symm.trans[e])]
   .let a:(g==k)=t7:=beq_eq_false_iff_ne.mpr h;simp only[jR,a];exact Ab4 f g v r
theorem Aa6(f:t6)(v:V):∀fs:lg[t6×V],f∈(Wd f v fs).map (·.1)/\∀g,g∈fs.map (·.1)->g∈(Wd f v fs).map (·.1)
 |[]=>(by simp[Wd],λg h=>by simp_all)
 |(k,x)::r=>by
  let(d,c):=Aa6 f v r;rw[show Wd f v _=(if k=f then _ else _) from rfl]
  grind
theorem Ab5(f:t6)(v:V):∀fs:lg[t6×V],(Wd f v fs).length<=fs.length+1
 |[]=>by simp[Wd]
 |(k,x)::r=>by
  let c:=Ab5 f v r;rw[show Wd f v _=(if k=f then _ else _) from rfl]
  grind
def Wa.some_of(r:Wa sr[v] o):∃u,o=sr u/\RelV v u:=by
 cases o with
 |none=>trivial
 |some u=>exact(u,rfl,r)
def Wa.none_of(r:Wa sy o):o=sy:=by
 cases o with
 |none=>rfl
 |some u=>trivial
def Ahz(r:RelV v u):PySem.W.handedIn u=t8:=by
 cases v with
 |non=>cases (r);rfl
 |bl b=>cases (r);rfl
 |int i=>let(t,e):=(r);cases e;rfl
 |str x=>let(t,e):=(r);cases e;rfl
 |byt b=>let(t,e):=(r);cases e;rfl
 |flt b=>let(t,e):=(r);cases e;rfl
 |ref a=>cases (r);rfl
 |ty n=>cases (r);rfl
section
def Ad0(hok:HOk P w H h)(e:H a=sr[.ins C c fs]):∃b,At0 h a c C b/\(∀f,Wa fs.lookup[f] b[f])/\wH b (fs.map (·.1))/\fs.length<=1000/\H c=sr .own[a]:=by
 let(d,z,ne,ob,b,n,r,q):=(hok a _ e);exact(b,(ob,n,ne),r,q,z,d)
end
structure Cls(K:aB)(C:aH):Prop where
 pg:pI K C aEa=t8
 hd:mJ K C=t8
 po:rO K C=t8
 sa:cF K (.ref C) "__setattr__"=sr (sr (.builtin "object.__setattr__"))
def Cls.get{K:aB}{C:aH}(c:Cls K C)(f:t6):pI K C f=t8:=c.pg
def Qs(K:aB)(C:aH)(f:t6):Prop:=cF K .ref[C] f=sr sy
def Qs.taker{K:aB}{C:aH}{f:t6}(n:Qs K C f):uC K C f=sr sy:=by
 unfold uC;rw[n];rfl
structure Meth(K:aB)(C:aH)(m:t6)(f:aH):Prop where
 at_:cF K (.ref C) m=sr (sr (.ref f))
 fn:tO K (.ref f)=t8
 kp:cM K (.ref f)=t8
section
def Apb(I:Inv X k i H s)(e:H a=sr[.ins C q fs])(c:Cls X.K C)(n:Qs X.K C f)(l:fs.lookup f=sr v)(h:∀u d,Inv X k i H d->RelV v u->Q u d):wpAny (model X.prog X.w) A (getAttr .ref[a] f b) Q E s:=by
 let(j,O,r,_,_,_):=Ad0 I.hok e;let(u,hu,g):=Wa.some_of (v:=v) (o:=j f) (l ▸ r f);let(m,J,p):=O.look;exact PySem.W.get_value I.kIn J (qH c.get[f]).1 (vB c.hd n rfl (by simp_all)) Ahz[g] (h u _ I.tok[_] g)
def Aeu(I:Inv X i b H s)(e:H a=sr[.ins C f fs])(c:Cls X.K C)(k:Meth X.K C m g)(l:fs.lookup m=sy)(h:Q (u6 .ref[g] [.ref a]) s):wpAny (model X.prog X.w) A (getMethod .ref[a] m pl) Q E s:=by
 let(d,O,r,_,_,_):=Ad0 I.hok e;exact Awt I.kIn O c.get[m] k.at_ k.fn (Wa.none_of (by rw[<-l];simp_all)) h
def Apc(I:Inv X F m H s)(e:H a=sr[.ins C d fs])(c:Cls X.K C)(n:Qs X.K C f)(L:fs.length < 1000)(G:RelV y u)(h:∀k,Inv X F m (upd H a .ins[C][d][Wd f y fs]) k->Q u9 k):wpAny (model X.prog X.w) A (setAttr .ref[a] f u) Q E s:=by
 let(J,O,r,j,_,l):=Ad0 I.hok e;let t:(fs.map (·.1)).length<=sizeLine:=by rw[aJ,rN];omega
 refine Bb3 I.kIn O c.sa c.po n.taker c.hd j t λh' i p=>h _ ?_;let hd:∃o,h'.get? d=sr o:=let ⟨o,_,_,e',_⟩:=i.ns;(o,e');apply I.write (x:=a) (e:=d) (e ▸ iU) .inr[l] (λb q B z=>(p.2 b B).trans z) hd;refine((Aj O.ne) ▸ l,?_,O.ne,i.obj,_,i.ns,λg=>?_,λg v=>?_)
 .have:=Ab5 f y fs;omega
 .rw[Ab4];by_cases q:g=f
  .rwa [di q,di q]
  simp_all
 .by_cases q:g=f
  .exact q ▸ (Aa6 f y fs).1
  .refine(Aa6 f y fs).2 g (j g λz=>v ?_);simp_all
def Inv.made(I:Inv X k f H s):Inv X k f upd[upd H s.heap.objs.size .own[s.heap.objs.size+1]][s.heap.objs.size+1][.ins C s.heap.objs.size []]
  { s with heap:=(s.heap.push mK).push (lW C s.heap.objs.size) }:=by
 let d:_=sr mK:=aU s.heap rfl;let j:=by
  have:=aU s.heap.push[mK] (o:=lW C s.heap.objs.size) rfl
  rwa [fP] at this
 let l:=I.laid (a:=s.heap.objs.size) (o:=.own[s.heap.objs.size+1]) (t':=s.toks) (λb u q=>aC _ q) aN[_] (_,d);refine l.laid (λb u q=>aC _ q) oR[fP ..] ?_;let ne:s.heap.objs.size≠s.heap.objs.size+1:=bR gV[_];refine(by rw[Aj ne,Aq],cP _,ne,j,λc=>sy,(wI (mK,#[],_,d,rfl,(λe h=>absurd h ()),λc=>rfl)).at λo q=>aC _ q,λc=>iU,λy g=>absurd rfl g)
end
def Bp1(K:aB)(ta tv:TE)(f:t6):TS:=λD σ H=>tv σ H λy H1=>ta σ H1 λx H2=>∃a C dx fs,x=.ref a/\H2 a=sr[.ins C dx fs]/\Cls K C/\Qs K C f/\fs.length < 1000/\
 D.nx σ (upd H2 a .ins[C][dx][Wd f y fs])
section
def Bim(v:PE X o j)(t:PE X value i)(hs:swapsWith value sr[.Attribute o f b] e.line X.env=pure t7):PS[X][.Assign [.Attribute o f b] value e][Bp1 X.K j i f]:=by
 intro g s d H D I h;refine oZ (thn[t g s d H _ I h] λu k ⟨y,H1,I1,ry,q⟩=>thn[v g k d H1 _ I1 q] λJ G ⟨x,H2,I2,rx,a,C,dx,fs,ex,ea,c,n,l,q2⟩=>?_) hs;subst ex;obtain rfl:_:=rx;exact Apc I2 ea c n l ry λF z=>(d,_,z,q2)
def Bmx:V->V->Hp->VK->Prop:=λx y H Q=>∃i j,x=.int i/\y=.int j/\Q .int[i+j] H
def Bmy:V->V->Hp->VK->Prop:=λx y H Q=>∃i j,x=.int i/\y=.int j/\Q .int[i - j] H
end
section
inductive Aa7(K:aB)(H:Hp):V->aF->Prop where
 |non:Aa7 K H .non (.type "NoneType")
 |bl (x:Bool):Aa7 K H (.bl x) (.type "bool")
 |int (i:Int):Aa7 K H (.int i) (.type "int")
 |str (x:t6):Aa7 K H (.str x) (.type "str")
 |flt (x:UInt64):Aa7 K H (.flt x) (.type "float")
 |lst {a:aH} {xs:List V} (e:H a=sr (.lst xs)):Aa7 K H (.ref a) (.type "list")
 |frz {a:aH} {o:tu} {xs:List V} (e:H a=sr (.frz o (.lst xs))):Aa7 K H (.ref a) (.type "list")
 |tup {a:aH} {xs:List V} (e:H a=sr (.tup xs)):Aa7 K H (.ref a) (.type "tuple")
 |dK {a:aH} {kvs:List (Key×V)} (e:H a=sr (.dK kvs)):Aa7 K H (.ref a) (.type "dict")
 |dT {a:aH} {kvs:List (List Key×V)} (e:H a=sr (.dT kvs)):Aa7 K H (.ref a) (.type "dict")
 |ins {a C dx:aH} {fs:List (t6×V)} (e:H a=sr (.ins C dx fs)) (cl:Cls K C) (ha:cF K (.ref C) "__class__"=sr (sr (.builtin "object.__class__")))
   (hn:rP K (.builtin "object.__class__") "__get__"=sr (sr (.builtin "getset_descriptor.__get__"))) (htk:PySem.W.takesIn K (.builtin "object.__class__")=sr t8)
   (hm:mF K C (.type "object")=sr t8):Aa7 K H (.ref a) (.ref C)
def At1(I:Inv X Y N H s)(d:RelV x u)(ty:Aa7 X.K H x t)(e:lB X.K t c=sr b)(h:∀r,Q .bool[b] { s with toks:=r }):
  wpAny (model X.prog X.w) A (call .builtin["isinstance"] [u,c]) Q E s:=by
 cases ty with
 |non=>cases (show u=fY from d);exact fQ PySem.W.kitx_none I.kIn iU e (λz=>nomatch z) h
 |bl y=>cases (show u=tM y from d);exact fQ PySem.W.kitx_bool I.kIn iU e (λz=>nomatch z) h
 |int i=>let(t,q):=(show ∃t,u=xU i t from d);cases q;exact fQ PySem.W.kitx_int I.kIn iU e (λz=>nomatch z) h
 |str y=>let(t,q):=(show ∃t,u=xV y t from d);cases q;exact fQ PySem.W.kitx_str I.kIn iU e (λz=>nomatch z) h
 |flt y=>let(t,q):=(show ∃t,u=aCk y t from d);cases q;exact fQ PySem.W.kitx_float I.kIn iU e (λz=>nomatch z) h
 |@lst a l f=>
  cases (show u=bJ a from d);let(_,_,n,_,g):=(I.hok a _ f);exact fQ wJ I.kIn (_,g,rfl) e (λz=>nomatch z) h
 |@frz a ob l f=>
  cases (show u=bJ a from d);let(_,_,_,n,_,g):=(I.hok a _ f);exact fQ wJ I.kIn (_,g,rfl) e (λz=>nomatch z) h
 |@tup a l f=>
  cases (show u=bJ a from d);let(_,_,_,p):=(show Ek X.prog X.w H s.heap a .tup[l] from I.hok a _ f);let(o,g,k,_):=p;exact fQ PySem.W.kitx_tuple I.kIn (o,g,k) e (λz=>nomatch z) h
 |@dK a j f=>
  cases (show u=bJ a from d);let(_,_,P,_,p):=(show Ek X.prog X.w H s.heap a .dK[j] from I.hok a _ f);let(o,G,L,g,k,_):=p;exact fQ wK I.kIn (o,g,k.1) e (λz=>nomatch z) h
 |@dT a j f=>
  cases (show u=bJ a from d);let(_,_,l,_,o,G,L,g,k,_):=(show Ek X.prog X.w H s.heap a .dT[j] from I.hok a _ f);exact fQ wK I.kIn (o,g,k.1) e (λz=>nomatch z) h
 |@ins a C U fs f cl F v m B=>
  cases (show u=bJ a from d);let(T,O,_):=Ad0 I.hok f;let(S,J,_):=O.look;exact fQ (PySem.W.kitx_own cl.get[_] cl.hd F v m B) I.kIn J e (λz=>nomatch z) h
end
structure Fx(k:Nat)(A:eQ)(cm:Bool:=true):Prop where
 hd:cm=t8->A.handled=sy
 dp:A.depth+3 * k+5 < recursionLimit
 un:A.units+16 * k+200 < cLine
theorem Fx.mono{j k:Nat}(r:Fx k A a)(h:j<=k):Fx j A a:=(r.hd,by have:=r.dp;omega,by have:=r.un;omega)
def Fx.deeper{k:Nat}(r:Fx (k+1) A a)(env:Env):Fx k A.deeper[env] a:=(
 (r.hd,by have:=r.dp;show A.depth+1+3 * k+5 < _;omega,by have:=r.un;show A.units+3+_+200 < _;omega))
def Apd{A:eQ}{C:aH}{b:lg aF}{c:lg[t6×aF]}:(A.under[.builtin "type.__call__" (.ref C::b,c)]).depth=A.depth+1:=by rfl
def Ape{A:eQ}{C:aH}{us:lg aF}{kw:lg[t6×aF]}:(A.under[.builtin "type.__call__" (.ref C::us,kw)]).units=A.units+1:=rfl
def Fx.make{k:Nat}(r:Fx (k+1) A d)(C:aH)(b:lg aF)(c:lg[t6×aF]):Fx k A.under[.builtin "type.__call__" (.ref C::b,c)] d:=(
 (r.hd,by have:=r.dp;rw[Apd];omega,by have:=r.un;rw[Ape];omega))
def Fx.depth{k:Nat}(r:Fx k A b):A.depth < recursionLimit:=by have:=r.dp;omega
def Bin:TA:=λuw H Q=>Q [] H
def Ard(ta:TE)(tr:TA):TA:=λσ H Q=>ta σ H λx H1=>tr σ H1 λxs H2=>Q (x::xs) H2
section
def Aj1:PA X [] Bin:=λuw uw uw uw H Q I h=>wL ([],H,I,.nil,h)
def Xh(o:PE X e g)(n:PA X c t)(hs:starEach (e::c) X.env=(u6 t7 (eval e X.env))::starEach c X.env:=by rfl):PA X (e::c) (Ard g t):=by
 intro a f s d H Q I h;rw[hs];show wpAny _ _ (spliced ((u6 t7 (eval e X.env))::backTo a _)) _ _ s;exact vX[thn[o f s d H _ I h] λu i ⟨x,H1,I1,r1,q1⟩=>thn[n a f i d H1 _ I1 q1] λy z ⟨xs,H2,I2,r2,q2⟩=>(_,H2,I2,.cons r1 r2,q2)]
def Bp2(t:TA):TE:=λσ H Q=>t σ H λxs H1=>xs.length<=sizeLine/\∀p,H1 p=sy->Q[.ref p][upd H1 p .tup[xs]]
def Bp3(t:TA):TE:=λσ H Q=>t σ H λxs H1=>xs.length<=sizeLine/\∀p,H1 p=sy->Q[.ref p][upd H1 p .lst[xs]]
end
abbrev Sp:=lg V->Hp->VK->XK->Prop
abbrev CXT:=lg Env->Hp->aO->XK->aF->aO->Prop
structure Adp(P:cD)(w:dW)(K:aB)(mg:t6->Option aF)(base:dI)(A:eQ)(outer:List Env)(s:aO)(H:Hp):Prop where
 frames:A.frames=sr outer
 mod:Mod K mg base
 bs:∀b o,base.get? b=sr o->s.heap.get? b=sr o/\H b=sy
 bsz:base.objs.size<=s.heap.objs.size
 funs:s.heap.FunFrames base outer
 frf:∀b∈frs outer,H b=sy
 hok:HOk P w H s.heap
 bare:qL s.gens
def CE(outer:lg Env)(P:cD)(w:dW)(H:Hp)(s:aO)(Q:VK)(u:aF)(s':aO):Prop:=
 ∃v H',s'.os=s.os/\qL s'.gens/\Un frs[outer] [] H H' s.heap s'.heap/\HOk P w H' s'.heap/\RelV v u/\Q v H'
def CR(CX:CXT)(outer:lg Env)(P:cD)(w:dW)(H:Hp)(s:aO)(Q:VK)(E:XK)(r:Result)(s':aO):Prop:=
 match r with
 |.ok (.ret u)=>CE outer P w H s Q u s'
 |.ok _=>False
 |.error e=>CX outer H s E e s'
structure Hw(P:cD)(w:dW)(K:aB)(mg:t6->Option aF)(base:dI)(CX:CXT)(k:Nat)(f:aH)(fd:dN)(ps:List t6)(sp:Sp)(cm:Bool:=true):Prop where
 len:∀vs H Q E,sp vs H Q E->vs.length=ps.length
 run:∀(A:eQ)(outer:List Env)(s:aO)(H:Hp)(args:Args)(us:List aF)(vs:List V)(Q:VK)(E:XK),Fx k A cm->Adp P w K mg base A outer s H->zR s fd args (ps.zip us)->Vals vs us->sp vs H Q E->
  codeAny (model P w) A (.call (.ref f) args) (CR CX outer P w H s Q E) s
theorem Hw.mono{P:cD}{w:dW}{K:aB}{mg:t6->o9 aF}{base:dI}{g:CXT}{j k:Nat}{f:aH}{fd:dN}{ps:lg t6}{c:Sp}{d:Bool}(F:Hw P w K mg base g j f fd ps c d)(h:j<=k):
  Hw P w K mg base g k f fd ps c d:=(F.len,λA outer s H a m l Q E n=>F.run A outer s H a m l Q E n.mono[h])
theorem Adp.make{P:cD}{w:dW}{K:aB}{mg:t6->o9 aF}{base:dI}{A:eQ}{outer:lg Env}{s:aO}{H:Hp}(e:Adp P w K mg base A outer s H)(C:aH)(c:lg aF)(d:lg[t6×aF]):
  Adp P w K mg base A.under[.builtin "type.__call__" (.ref C::c,d)] outer s H:=(by first|exact e.frames|rfl,e.mod,e.bs,e.bsz,e.funs,e.frf,e.hok,e.bare)
section
def Inv.env0(I:Inv X b a H s):Adp X.prog X.w X.K X.mg X.base X.A X.stack s H:=(
 (I.ok.frames,I.ok.mod,I.bs,aD I.ok.bsz I.sz,I.stack,I.stkFree,I.hok,I.bare))
def Inv.after(I:Inv X f c H s)(h:CE X.stack X.prog X.w H s Q u a):EP X f c Q u a:=by
 let(v,j,os,bare,un,hok,r,q):=h;let(k,g,d,t,e):=a;obtain rfl:_:=os;exact(v,j,I.call un hok bare (λb z=>absurd z ()),r,q)
end
def Binds(K:aB)(fd:dN)(ps:lg t6)(ds:lg aF):Prop:=
 ∀(s:aO)(us:lg aF),K.In s.heap->(us ++ ds).length=ps.length->zR s fd (us,[]) ps.zip[us ++ ds]
def Binds.all{K:aB}{fd:dN}{ps:lg t6}(h:∀a:lg aF,a.length=ps.length->bindArgs fd (a,[])=pure ps.zip[a]):Binds K fd ps []:=(λs a e c=>by
 rw[bQ] at c ⊢
 exact .of_eq[h a c])
section
variable{k:Nat}
structure Mk(K:aB)(C f:aH):Prop where
 makes:lY K C=t8
 init:cF K (.ref C) "__init__"=sr (sr (.ref f))
 fn:tO K (.ref f)=t8
 kp:cM K (.ref C)=t8
end
def PK(X:Cx)(kws:lg iB)(t:TA):Prop:=
 ∀(pos:o8)(aa:lg[aH×tu])(s:aO)(σ:St)(H:Hp)(Q:lg V->Hp->Prop),Inv X aa σ H s->t σ H Q->wpAny (model X.prog X.w) X.A (evalAll ((backToKw pos (keywordEach kws X.env)).map (·.2))) (AP X aa σ Q) X.xe s
section
variable{k:Nat}
def Bb4(ha:PE X e te)(hr:PK X kws t):PK X ((nm,e,kpos)::kws) (Ard te t):=λpos aa s σ H Q I h=>wpAny_evalAll_cons aA[thn[ha aa s σ H _ I h] λu s1 ⟨x,H1,I1,r1,q1⟩=>aA gZ[aG[thn[hr pos aa s1 σ H1 _ I1 q1] λus s2 ⟨xs,H2,I2,r2,q2⟩=>(_,H2,I2,.cons r1 r2,q2)]]]
end
structure Hn(N P:List t6)(sc:gR):Prop where
 kind:sc.kind=.function
 co:sc.isCoroutine=t7
 gen:sc.isGenerator=t7
 nd:N.Nodup
 pre:N.take P.length=P
 par:∀x∈P,sc.names.lookup x=sr .local\/sc.names.lookup x=sr .cell
 nofree:∀y∈sc.names,y.2≠.free
theorem Ah0{kindOf:t6->o9 lZ}{x:t6}:∀{binds:lg[t6×aF]} {m:t6->o9 aF},(∀v,(u6 x v)∉binds)->bindL kindOf binds m x=m x
 |[],_,_=>rfl
 |(n,v)::r,m,h=>by
  unfold bindL;rw[Ah0 λw c=>h w (aR _ c)];split
  .have:x≠n:=by rintro rfl;exact h v aX
   simp_all
  rfl
theorem Ah1{kindOf:t6->o9 lZ}{x:t6}:∀{binds:lg[t6×aF]} {m:t6->o9 aF},(∀v,(u6 x v)∉binds)->bindC kindOf binds m x=m x
 |[],_,_=>rfl
 |(n,v)::r,m,h=>by
  unfold bindC;rw[Ah1 λw c=>h w (aR _ c)];split
  .rfl
  .have:x≠n:=by rintro rfl;exact h v aX
   simp_all
theorem Ah2{kindOf:t6->o9 lZ}{x:t6}{v:aF}:∀{P:lg t6} {b:lg aF} {i:Nat} {m:t6->o9 aF},P.Nodup->P[i]?=sr x->b[i]?=sr v->kindOf x=sr .local->
  bindL kindOf P.zip[b] m x=sr v
 |[],_,_,_,_,h,_,_=>by trivial
 |_,[],_,_,_,_,h,_=>by trivial
 |p::P,w::b,0,m,nd,f,e,d=>by
  simp at f e;subst f;subst e;show bindL kindOf ((u6 p w)::P.zip b) m p=_;unfold bindL;rw[Ah0 λv g=>(dU.mp nd).1 (uD g).1,di d];simp
 |p::P,w::b,i+1,m,nd,f,e,d=>by
  unfold bindL;exact Ah2 (dU.mp nd).2 (by trivial) (by trivial) d
theorem Ah3{kindOf:t6->o9 lZ}{x:t6}{v:aF}:∀{P:lg t6} {b:lg aF} {i:Nat} {m:t6->o9 aF},P.Nodup->P[i]?=sr x->b[i]?=sr v->kindOf x≠sr .local->
  bindC kindOf P.zip[b] m x=sr v
 |[],_,_,_,_,h,_,_=>by trivial
 |_,[],_,_,_,_,h,_=>by trivial
 |p::P,w::b,0,m,nd,f,e,d=>by
  simp at f e;subst f;subst e;show bindC kindOf ((u6 p w)::P.zip b) m p=_;unfold bindC;rw[Ah1 λv g=>(dU.mp nd).1 (uD g).1,dm d];simp
 |p::P,w::b,i+1,m,nd,f,e,d=>by
  unfold bindC;exact Ah3 (dU.mp nd).2 (by trivial) (by trivial) d
def start(N:lg t6)(vs:lg V):St:=vs.map sr ++ cL (N.length - vs.length) sy
def Aa8(CX:CXT)(P:cD)(w:dW)(K:aB)(mg:t6->o9 aF)(base:dI)(N:lg t6)(qual:t6)(scope:gR)(f:aH)(cd:aF)(A:eQ)(outer:lg Env)(s:aO)(H:Hp)(E:XK)(cm:Bool:=true):Cx where
 prog:=P
 w:=w
 K:=K
 mg:=mg
 base:=base
 A:=A.deeper (envOfC qual scope s.heap.objs.size f cd)
 N:=N
 s₀:=s
 H₀:=H
 env:=envOfC qual scope s.heap.objs.size f cd
 outer:=outer
 stack:=envOfC qual scope s.heap.objs.size f cd::outer
 ex:=[]
 calm:=cm
 fn:=λuw=>t8
 pn:=[]
 xe:=λe s'=>wpAny (model P w) A.deeper[envOfC qual scope s.heap.objs.size f cd] leaving[envOfC qual scope s.heap.objs.size f cd][e] (λuw s''=>CX outer H s E e s'') (λe' s''=>CX outer H s E e' s'') s'
def Ame{sc:gR}{n:Nat}{x:t6}(h:sc.names.lookup x=sr .cell):∃c,(cellsFrom n sc.names []).lookup x=sr c:=nP.mp[tR sc.names n [] .inl[h]]
def At2{I:Bool}{O:CXT}{P:cD}{w:dW}{K:aB}{mg:t6->o9 aF}{base:dI}{N ps:lg t6}{qual:t6}{scope:gR}{f:aH}{C:aF}{A:eQ}{outer:lg Env}{s J:aO}{H:Hp}{E:XK}{F:lg aF}{l:lg V}(S:Hn N ps scope)(hd:I=t8->A.handled=sy)(j:Adp P w K mg base A outer s H)(hl:l.length=ps.length)(r:Vals l F)(x:InCallC s s.heap.objs.size (bindL (envOfC qual scope s.heap.objs.size f C).kindOf ps.zip[F] λB=>sy) cellsFrom[s.heap.objs.size+1][scope.names][[]] (bindC (envOfC qual scope s.heap.objs.size f C).kindOf ps.zip[F] λB=>sy) J):
  Inv (Aa8 O P w K mg base N qual scope f C A outer s H E I) [] (start N l) H J:=by
 let U:ps.length<=N.length:=by have:=congrArg List.length S.pre;rw[gW] at this;omega
 let(G,tk,rfl,L):=x.done;let m:∀b:aH,b∉(Aa8 O P w K mg base N qual scope f C A outer s H E I).ex:=λb z=>absurd (show b∈([]:lg aH) from z) ()
 refine((j.mod,S.kind,rfl,rfl,aN _,λy z c G g=>?_,λy hy=>?_,λy c B h=>?_,hd,uL j.frames,.inr (rfl,rfl),λb z=>absurd z m[b],j.bs,j.bsz,λb B B=>m b,λb z=>absurd z m[b],j.funs,j.frf),
  rfl,j.bare,Un.kept L,(_,x.toInCall.ns,λi y v G g h3=>?_),λy c h=>(_,x.cell y c h),j.hok.fresh aN[_],λy c h=>?_,λp hp=>absurd (show p∈([]:lg[aH×tu]) from hp) (),j.hok.kept L,?_)
 .exact name_of_addr x.apart gJ[G] gJ[g]
 .let hy:scope.names.lookup y=sr .cell\/scope.names.lookup y=sr .free:=hy;rcases hy with hy|hy
  .exact Ame hy
  .exact absurd rfl (S.nofree _ gJ[hy])
 .exact gP[x.above y c gJ[h]]
 .let hi:i < l.length:=by
   unfold start at g;by_cases hi:i < l.length
   .exact hi
   .rw[bG[by simpa using hi]] at g
    rw[lC] at g;split at g <;> cases g
  let X:l[i]?=sr v:=by
   unfold start at g;rw[bD[by simpa using hi],bK] at g
   cases e:l[i]? with
   |none=>rw[e] at g;cases g
   |some a=>rw[e] at g;cases g;rfl
  let(u,hu,T):=r.get X;let hp:ps[i]?=sr y:=by
   rwa [<-S.pre,sH ()]
  let o:ps.Nodup:=S.pre ▸ S.nd.sublist[List.take_sublist ..];refine(u,T,?_);rcases S.par y dX[hp] with k|k
  .exact .inl (k,Ah2 o hp hu k)
  .let(c,e):=Ame (n:=s.heap.objs.size+1) k;refine .inr (.inl k,c,e,?_);let q:=x.cell y c e;rw[Ah3 o hp hu (by show scope.names.lookup y≠_;rw[k];decide)] at q
   exact q
 .exact j.hok.fresh gP[x.above y c gJ[h]]
 .unfold start;show _=N.length;rw[bH,aJ,eY];omega
def Bg9{z:Bool}{T:CXT}{P:cD}{w:dW}{K:aB}{mg:t6->o9 aF}{base:dI}{k:Nat}{f:aH}{name qual:t6}{params:qU}{body:lg cO}{scope:gR}{X kV m U a ct oc:aF}{Z od:o9 aH}{G:Array o9[aF]}{N ps:lg t6}{B:Sp}(lk:K.lookup f=sr (oc,od,.func[cQ name qual params body scope X kV m U Z a ct],G))(O:iZ K a qual=t8)(S:Hn N ps scope)(len:∀g H Q E,B g H Q E->g.length=ps.length)(hbody:∀(A:eQ)(outer:lg Env)(s:aO)(H:Hp)(g:lg V)(Q:VK)(E:XK),Fx k A.deeper[envOfC qual scope s.heap.objs.size f a] z->B g H Q E->
   ∃t,PSs (Aa8 T P w K mg base N qual scope f a A outer s H E z) body t/\t { nx:=λuw h=>Q .non h,rt:=Q } (start N g) H):
  Hw P w K mg base T (k+1) f (cQ name qual params body scope X kV m U Z a ct) ps B z:=by
 refine(len,λA outer s H Y us g Q E L l hb r i=>?_);let hl:=len _ _ _ _ i;let KX:K.In s.heap:=l.mod.kin.keeps λb o e=>(l.bs b o e).1;let I:s.heap.NoLimit:=l.mod.nolimit.keeps λb o e=>(l.bs b o e).1;let au:∀y∈ps.zip us,scope.names.lookup y.1=sr .local\/(scope.names.lookup y.1=sr .cell/\((cellsFrom (s.heap.objs.size+1) scope.names []).lookup y.1).isSome=t8):=λ⟨n,v⟩ hy=>by
  rcases S.par n (uD hy).1 with q|q
  .exact .inl q
  .exact .inr (q,tR _ _ _ .inl[q])
 refine codeAny_call_function L.depth (KX _ _ lk) rfl S.co S.gen rfl (PySem.W.codeRec_of KX O) (hb _ _ _ _ ?_);refine wpAny_newFunctionEnv_cells S.kind au λenv he s1 x=>?_;subst he;refine(I.keeps x.toInCall.keep,codeAny_func ?_);let(t,ht,hq):=hbody A outer s H g Q E L.deeper[_] i;refine cX[ht [] s1 (start N g) H _ (At2 S L.hd l hl r x) hq][λfl C hs=>?_] λe C hs=>hs;let j:∀{d:St} {h:Hp} {v:V} {u:aF},Inv (Aa8 T P w K mg base N qual scope f a A outer s H E z) [] d h C->RelV v u->Q v h->CE outer P w H s Q u C:=
  λ{d h v u} J F q=>(v,h,J.os,J.bare,J.base,J.hok,F,q)
 cases fl with
 |ret u=>
  let(v,d,h,J,F,q):=hs;exact j J F q
 |next=>
  let(d,h,J,q):=hs;exact j (v:=V.non) (u:=fY) J rfl q
 |brk=>
  let(_,_,_,q):=hs;exact bZ q
 |cont=>
  let(_,_,_,q):=hs;exact bZ q
section
def tCB(r:lg V->Hp->VK->Prop)(t:TA):TE:=λσ H Q=>t σ H λvs H1=>r vs H1 Q
def Aa9(hc:Jv X .type[T] r)(hg:Gl X x)(hm:X.mg x=sy)(hv:bootBuiltins x=sr .type[T])(ha:PA X (e::es) t)(hn:x≠"__name__":=by decide)(hdb:(x==("__debug__":t6))=t7:=by decide)(he:starEach (e::es) X.env=(u6 t7 (eval e X.env))::starEach es X.env:=by rfl)(hpl:(backTo pos (starEach es X.env)).any (·.1)=t7:=by rfl):PE[X][.Call (.Name x p) (e::es) [] pos][tCB r t]:=λaa s σ H Q I h=>eU[Aa5 I hg hm hv mL[thn[ha pos aa s σ H _ I h] λus s1 ⟨vs,H1,I1,r1,q1⟩=>hc aa s1 σ H1 vs us Q I1 r1 q1][he][hpl] hn hdb]
end
end L2
namespace HT
open PySem PyProof.Rows
section
open PySem.SeqAt
open PySem.AutoSeq1 (wpAny_loadPart')
open PySem.MeetsSeq PySem.MeetsSeq2 PySem.MeetsSeq3
end
section
def cat_tup(u:wG s.heap t d.toArray)(x:wG s.heap b a.toArray)(o:d≠[])(z:a=[]->Q .ref[t] s)(y:a≠[]->Q .ref[s.heap.objs.size] { s with heap:=s.heap.push { cls:=.type "tuple",data:=.seq (d ++ a).toArray } })(v:d.length+a.length<=sizeLine):wpAny (model prog w) A (binaryOp .Add .ref[t] .ref[b]) Q E s:=by
 let((cls,q,data,k),j,p,n,hd):=id u;let((r,i,data2,f),c,h,l,g):=id x;simp at p hd h g;subst p hd h g;let e:d.toArray ++ a.toArray=(d ++ a).toArray:=by simp
 by_cases m:a=[]
 .exact wM (_,j,rfl) (_,c,rfl) sW vM oU oM (nQ ..)
   (tuple_addW1 t b d.toArray a.toArray n l q i k f (by simpa using o) (by simp_all)) (j,c,z m)
 .refine wM (_,j,rfl) (_,c,rfl) sW vM oU oM (nQ ..)
   (tuple_addW2 t b d.toArray a.toArray n l q i k f (by simpa using o) (by simp_all) ()) (j,c,?_)
  exact e ▸ y m
def sIx(n d:Nat):o9 Int->Nat
 |none=>d
 |some v=>if v < 0 then (v+(n:Int)).toNat else min v.toNat n
def Are(v:Int)(n d:Nat):(if v < 0 then max (v+(n:Int)) 0 else min v (n:Int))=((sIx n d sr[v]:Nat):Int):=by
 show _=(((if v < 0 then _ else _):Nat):Int)
 grind
def Apf(lo hi:o9 Int)(n:Nat):rH lo hi 1 (n:Int)=(u6 ((sIx n 0 lo:Nat):Int) ((sIx n n hi:Nat):Int)):=by
 apply Prod.ext
 .cases lo with
  |none=>rfl
  |some v=>exact Are v n 0
 .cases hi with
  |none=>rfl
  |some v=>exact Are v n n
def Apg(i j:Nat):nF (i:Int) (j:Int) 1=j - i:=by
 unfold nF
 grind
def Aev{o:o9 Int}{Q:o9 Int->aO->Prop}(p:tU v o)(h:Q o s):wpAny (model prog w) A yW[v] Q E s:=by
 cases p with
 |none=>exact zX h
 |int i t=>exact slicePart_int h
def Px{lo hi:o9 Int}{n:Nat}{Q:Int×Int×Nat->aO->Prop}(hs:s.heap.IsSliceOf g f e .none)(pl:tU f lo)(pu:tU e hi)(h:Q (u6 ((sIx n 0 lo:Nat):Int) u6[1][sIx n n hi - sIx n 0 lo]) s):wpAny (model prog w) A zY[.ref g][pure (n:Int)] Q E s:=by
 let(os,b,i,c):=id hs;refine aA (aA (dJ b c (x:=f) rfl (aA (dJ b c (x:=e) rfl (aA (dJ b c (x:=.none) rfl aG[?_]))))));refine aA zX[?_];refine aA[Aev pl aA[Aev pu aA[aG[?_]]]];show wpAny _ _ (match rH lo hi 1 n with|(lo,hi)=>pure[u6 lo u6[_][nF lo hi 1]]) _ _ s
 rw[Apf lo hi n];show wpAny _ _ pure[u6[_][u6 1 _]] _ _ s;rw[Apg];exact aG h
def Awv(a:Array aF)(i k:Nat):((fO k).filterMap λ(m:Nat)=>a[((i:Int)+(m:Int) * 1).toNat]?).toArray=((a.toList.drop i).take k).toArray:=by
 let e:(λ(m:Nat)=>a[((i:Int)+(m:Int) * 1).toNat]?)=λm=>a[i+m]?:=by grind
 rw[e];have:=pick_run a i k;rw[List.filterMap_map] at this;let f:((λx=>a[x]?) ∘ λx=>i+x)=λm=>a[i+m]?:=rfl;rw[f] at this;rw[this]
def getItem_tuple_cut{lo hi:o9 Int}(c:wG s.heap t items)(hs:s.heap.IsSliceOf j n l .none)(pl:tU n lo)(pu:tU l hi)(q:¬ (sIx items.size 0 lo=0/\sIx items.size items.size hi=items.size))(h:Q .ref[s.heap.objs.size] { s with heap:=s.heap.push { cls:=.type "tuple",data:=.seq ((items.toList.drop[sIx items.size 0 lo]).take (sIx items.size items.size hi - sIx items.size 0 lo)).toArray } })(o:items.size<=sizeLine):wpAny (model prog w) A (getItem .ref[t] .ref[j]) Q E s:=by
 let a:sizeOk .seq[((items.toList.drop[sIx items.size 0 lo]).take (sIx items.size items.size hi - sIx items.size 0 lo)).toArray]:=by
  show ((items.toList.drop[sIx items.size 0 lo]).take (sIx items.size items.size hi - sIx items.size 0 lo)).toArray.size<=sizeLine;rw[cZ,gW,gD,bC];omega
 let r:sIx items.size items.size hi<=items.size:=by
   cases hi with
   |none=>exact(aN _)
   |some v=>
    show (if v < 0 then (v+(_:Int)).toNat else min v.toNat _)<=_
    by_cases k:v < 0
    .rw[di k];omega
    .rw[dm k];exact pJ ..
 let(os,d,f,p):=id hs;let g:s.TypeIs .ref[j] "slice":=(os,d,f);unfold getItem
 try with_reducible apply eV
 first|refine aA aG[?_]|skip
 refine aA[rR c.typeIs () ?_]
 refine aA (dD (name:=mY "__getitem__") c.typeIs eX
  (dY eX c.typeIs vC ?_ (vY ..)))
 show wpAny _ _ (qY .ref[t] >>= _) _ _ s;refine aA[tupleItemsOf_ c ?_];refine aA[oV g ?_];rw[di ()]
 refine aA[Px hs pl pu ?_];let e:¬ ((((sIx items.size 0 lo:Nat):Int)==0&&(1:Int)==1&&(sIx items.size items.size hi - sIx items.size 0 lo)==items.size)=t8):=by grind
 show wpAny _ _ (if (((sIx items.size 0 lo:Nat):Int)==0&&(1:Int)==1&&(sIx items.size items.size hi - sIx items.size 0 lo)==items.size)=t8 then _ else _) _ _ s
 rw[dm e,Awv]
 first
  |exact aA (m:=jW _) eO[aG (_,rfl,aG h)][a]
  |exact aA (m:=jW _) (eO aA[aG[aG (_,rfl,aG h)]] a)
  |exact aA (aA (m:=jW _) (eO aG[aG (_,rfl,aG h)] a))
  |exact aA (aA (m:=jW _) eO[aG (_,rfl,aG h)][a])
end
end HT
namespace L2
open PySem PySem.Spec PyProof.Rows
abbrev TO:=St->Hp->(o9 Int->Hp->Prop)->Prop
def PO(X:Cx)(e:o9 bO)(t:TO):Prop:=
 ∀(aa:lg[aH×tu])(s:aO)(σ:St)(H:Hp)(Q:o9 Int->Hp->Prop),Inv X aa σ H s->t σ H Q->
  wpAny (model X.prog X.w) X.A (evalPart e X.env) (λu s'=>∃o H',Inv X aa σ H' s'/\tU u o/\Q o H') X.xe s
def Bmz(t:TE):TO:=λσ H Q=>t σ H λx H1=>∃i,x=.int i/\Q sr[i] H1
def intsAre_of{ns:lg Int}:∀{b:lg aF},Vals ns.map[V.int] b->uY b ns:=by
 induction ns with
 |nil=>intro b r;cases r;exact .nil
 |cons n ns f=>
  intro b r;cases r with
  |cons d c=>
   let(t,e):=d;subst e;exact .cons n t f[c]
section
def SlR(X:Cx)(r:V->o9 Int->o9 Int->Hp->VK->Prop):Prop:=
 ∀(aa:lg[aH×tu])(s:aO)(σ:St)(H:Hp)(x:V)(v vl vu:aF)(lo hi:o9 Int)(sl:aH)(Q:VK),Inv X aa σ H s->RelV x v->s.heap.IsSliceOf sl vl vu .none->tU vl lo->tU vu hi->r x lo hi H Q->
  ∃T id,typeLookup .type[T] "__getitem__"=pure sr[.builtin[id]]/\s.TypeIs v T/\wpAny (model X.prog X.w) X.A (getItem v .ref[sl]) (EP X aa σ Q) X.xe s
def SlR.or{r g:V->o9 Int->o9 Int->Hp->VK->Prop}(h:SlR X r)(h':SlR X g):SlR X (λx lo hi H Q=>r x lo hi H Q\/g x lo hi H Q):=by
 intro i s b H x v d c lo hi e Q I f hs pl pu q;rcases q with q|q
 .exact h i s b H x v d c lo hi e Q I f hs pl pu q
 .exact h' i s b H x v d c lo hi e Q I f hs pl pu q
def tSl(r:V->o9 Int->o9 Int->Hp->VK->Prop)(te:TE)(tl th:TO):TE:=λσ H Q=>te σ H λx H1=>tl σ H1 λl H2=>th σ H2 λu H3=>r x l u H3 Q
def Aph(xs:lg V)(lo hi:o9 Int):lg V:=(xs.drop[HT.sIx xs.length 0 lo]).take (HT.sIx xs.length xs.length hi - HT.sIx xs.length 0 lo)
def Ab6(a:lg V)(lo hi:o9 Int):(Aph a lo hi).length<=a.length:=by
 unfold Aph;rw[gW,gD];omega
def Bm0(K:aB):V->o9 Int->o9 Int->Hp->VK->Prop:=λx lo hi H Q=>∃a xs,x=.ref a/\SqT K H a xs/\
 ¬ (HT.sIx xs.length 0 lo=0/\HT.sIx xs.length xs.length hi=xs.length)/\∀p,H p=sy->Q[.ref p][upd H p .tup[Aph xs lo hi]]
def Bio:SlR X Bm0[X.K]:=by
 rintro o s j H x v l k lo hi m Q I g hs pl pu ⟨a,e,rfl,i,n,q⟩;cases g;let(d,r,f,h):=I.tuple i;let c:d.toArray.size=e.length:=r.length.symm;refine("tuple",_,eX.lookup,f.typeIs,?_);refine HT.getItem_tuple_cut f hs pl pu (by rw[c];omega) ?_ (by rw[c];omega)
 rw[c];refine(.ref s.heap.objs.size,_,I.laid (λb ob q=>aC _ q) aN[_] ?_,rfl,q _ I.hok.fresh[aN[_]]);exact(aD (Ab6 e lo hi) h,_,(r.drop _).take _,aBm ..)
def Bha(K:aB):R2:=λx y H Q=>∃a b xs ys,x=.ref a/\y=.ref b/\SqT K H a xs/\SqT K H b ys/\xs≠[]/\xs.length+ys.length<=sizeLine/\
 (ys=[]->Q .ref[a] H)/\(ys≠[]->∀p,H p=sy->Q[.ref p][upd H p .tup[xs ++ ys]])
def Vals.nil_iff(r:Vals a b):b=[] ↔ a=[]:=by
 cases r with
 |nil=>simp
 |cons _ _=>simp
def Bb5:OpR X binaryOp[.Add] Bha[X.K]:=by
 rintro B s p H x y v u Q I g f ⟨a,b,t,r,rfl,rfl,o,n,m,A,i,h⟩;cases g;cases f;let(l,d,k,_):=I.tuple o;let(e,c,j,_):=I.tuple n;refine HT.cat_tup k j (λz=>m d.nil_iff.mp[z]) (λz=>(.ref a,H,I,rfl,i c.nil_iff.mp[z])) (λz=>?_) (by rw[<-d.length,<-c.length];omega)
 refine(.ref s.heap.objs.size,_,I.laid (λb ob q=>aC _ q) aN[_] ?_,rfl,h (λw=>z c.nil_iff.mpr[w]) _ I.hok.fresh[aN[_]]);exact(by simp_all,_,d.append c,aBm ..)
end
def ixN(n:Nat)(i:Int):o9 Nat:=if 0<=i then (if i < n then sr i.toNat else sy) else if -(n:Int)<=i then sr (i+n).toNat else sy
def atI{α:Type}(xs:lg α)(i:Int):o9 α:=(ixN xs.length i).bind λj=>xs[j]?
def Bb6{n:Nat}{i:Int}{j:Nat}(h:ixN n i=sr j):seqIndex? i n=sr j/\j < n/\-(n:Int)<=i/\i < n:=by
 unfold ixN at h;by_cases c:0<=i
 .rw[di c] at h;by_cases a:i < n
  .rw[di a] at h;let e:=bY h;exact(by rw[seqIndex_of c a,e],(),(),a)
  simp_all
 .rw[dm c] at h;by_cases a:-n<=i
  .rw[di a] at h;let e:=bY h;exact(by rw[aBs () a,e],(),a,())
  simp_all
def Aj2{d:Type}{a:lg d}{i:Int}{v:d}(h:atI a i=sr v):∃j,seqIndex? i a.length=sr j/\a[j]?=sr v/\j < a.length/\-(a.length:Int)<=i/\i < a.length:=by
 unfold atI at h;cases e:ixN a.length i with
 |none=>simp_all
 |some j=>
  rw[e] at h;let(m,l,k,g):=Bb6 e;exact(j,m,h,l,k,g)
def Ad1(b:bO):Prop:=∀o i,subscripted b t7 o i=operate [o,i] (getItem o i)
def IxR(X:Cx)(r:R2):Prop:=
 ∀(value slice:bO)(aa:lg[aH×tu])(s:aO)(σ:St)(H:Hp)(x y:V)(v u:aF)(Q:VK),Inv X aa σ H s->RelV x v->RelV y u->r x y H Q->
  subscripted slice t7 v u=operate [v,u] (getItem v u)->wpAny (model X.prog X.w) X.A (subscriptTail value slice v u) (EP X aa σ Q) X.xe s
def MtR(X:Cx)(id:String)(r:V->lg V->Hp->VK->Prop):Prop:=
 ∀(aa:lg[aH×tu])(s:aO)(σ:St)(H:Hp)(x:V)(xs:lg V)(v:aF)(us:lg aF)(Q:VK),Inv X aa σ H s->RelV x v->Vals xs us->r x xs H Q->
  wpAny (model X.prog X.w) X.A (call .builtin[id] (v::us)) (EP X aa σ Q) X.xe s
section
def IxR.or(h:IxR X r)(h':IxR X e):IxR X (λx y H Q=>r x y H Q\/e x y H Q):=by
 intro value slice d s a H x y v u Q I c b q hs;rcases q with q|q
 .exact h value slice d s a H x y v u Q I c b q hs
 .exact h' value slice d s a H x y v u Q I c b q hs
def Bm1(K:aB):R2:=λx y H Q=>∃p xs i v,x=.ref p/\y=.int i/\SqL K H p xs/\atI xs i=sr v/\Q v H
def Bm2(K:aB):R2:=λx y H Q=>∃p xs i v,x=.ref p/\y=.int i/\SqT K H p xs/\atI xs i=sr v/\Q v H
def Bm3:R2:=λx y H Q=>∃z i c,x=.str z/\y=.int i/\z.length<=sizeLine/\atI z.cps.toList i=sr c/\Q .str[⟨#[c]⟩] H
def Bb7:IxR X Bm1[X.K]:=by
 intro value slice F s k H x y v u Q I m l h hs;let(p,J,i,z,rfl,rfl,n,A,q):=h;cases m;let(t,rfl):=l;let(d,r,pl,L):=I.list n;let(j,b,E,O,C,B):=Aj2 A;let(w,g,c):=r.get E;let o:=r.length;let N:=Aet;let a:EP X F k Q w s:=(z,H,I,c,q);by_cases f:0<=i
 .let e:i.toNat=j:=by
   rw[seqIndex_of f B] at b;exact bY b
  exact item_listR pl.isList f () (by rw[e];simpa using g) a hs
 .let e:(i+(d.toArray.size:Int)).toNat=j:=by
   rw[aBs () C] at b
   rw[cZ,<-o];exact bY b
  exact tV (x:=w) pl.isList.typeIs slot_list_getitem.lookup
   (wpAny_getItem_list_neg pl.isList () (by simp_all) () (by rw[e];simpa using g) (rfl,a)) hs
def Ci:IxR X Bm2[X.K]:=by
 intro value slice F s k H x y v u Q I c b h hs;let(p,l,i,z,rfl,rfl,e,f,q):=h;cases c;let(t,rfl):=b;let(d,r,pl,m):=I.tuple e;let(j,C,g,B,A,o):=Aj2 f;let(w,E,a):=r.get g;let n:=Aet;exact tV pl.typeIs slot_tuple_getitem.lookup
  (getItem_tuple pl () () (by rw[cZ,<-r.length];omega) (by simp_all) (rfl,(z,H,I,a,q))) hs
def Aew:IxR X Bm3:=by
 intro value slice w s m H x y v u Q I d b h hs;let(z,i,c,rfl,rfl,o,f,q):=h;let(t,rfl):=d;let(n,rfl):=b;let(j,a,l,r,k,g):=Aj2 f;let e:z.cps.toList.length=z.length:=by rfl
 rw[e] at a k g;let p:=Aet;exact zZ (aAa s z t) slot_str_getitem.lookup (getItem_str (by grind) (by rw[a];simpa using l) (.str _,H,I.tok _,(_,rfl),q)) hs
def rIx(K:aB):R2:=λx y H Q=>Bm1 K x y H Q\/Bm2 K x y H Q\/Bm3 x y H Q
def Bip:IxR X rIx[X.K]:=Bb7.or Ci.or[Aew]
def Aj3(lo hi:o9 Int)(n:Nat):(sliceBounds lo hi sy n).1=((HT.sIx n 0 lo:Nat):Int)/\(sliceBounds lo hi sy n).2.1=((HT.sIx n n hi:Nat):Int)/\(sliceBounds lo hi sy n).2.2=1:=by
 refine(?_,?_,rfl)
 .cases lo with
  |none=>rfl
  |some i=>
   simp[sliceBounds,HT.sIx,yE,if_true];by_cases h:i < 0
   .simp only[h,if_true] <;> omega
   .simp only[h,if_false] <;> omega
 .cases hi with
  |none=>rfl
  |some i=>
   simp[sliceBounds,HT.sIx,yE,show (1) > 0 by decide,if_true]
   by_cases h:i < 0
   .simp only[h,if_true] <;> omega
   .simp only[h,if_false] <;> omega
def Ahf(a:lg aF)(lo hi:o9 Int):slicePick a.toArray lo hi sy=((a.drop[HT.sIx a.length 0 lo]).take (HT.sIx a.length a.length hi - HT.sIx a.length 0 lo)).toArray:=by
 let(f,e,d):=Aj3 lo hi a.toArray.size;unfold slicePick;rw[f,e,d];simp only[sliceRange_one,pick_run] <;> rfl
def Bm4(K:aB):V->o9 Int->o9 Int->Hp->VK->Prop:=λx lo hi H Q=>∃a xs,x=.ref a/\SqL K H a xs/\∀p,H p=sy->Q[.ref p][upd H p .lst[Aph xs lo hi]]
def Bb8:SlR X Bm4[X.K]:=by
 rintro n s j H x v l k lo hi m Q I f hs pl pu ⟨a,e,rfl,i,q⟩;cases f;let(g,r,d,h):=I.list i;let c:=r.length;refine("list",_,slot_list_getitem.lookup,d.isList.typeIs,?_);refine wpAny_getItem_list_slice d.isList hs pl pu .none () ?_ (by simp_all)
 rw[Ahf,<-c];refine(.ref s.heap.objs.size,_,I.laid (λb ob q=>aC _ q) aN[_] ?_,rfl,q _ I.hok.fresh[aN[_]]);exact(aD (Ab6 e lo hi) h,_,0,(r.drop _).take _,aU _ rfl)
def Ga:V->Bool
 |.non=>t8
 |.bl _=>t8
 |.int _=>t8
 |.str _=>t8
 |_=>t7
def eqV:V->V->Bool
 |.non,.non=>t8
 |.bl a,.bl b=>a==b
 |.bl a,.int b=>(if a then 1 else 0)==b
 |.int a,.bl b=>a==(if b then 1 else 0)
 |.int a,.int b=>a==b
 |.str a,.str b=>a==b
 |_,_=>t7
def Biq(e:RelV y u)(c:RelV x v)(g:Ga y=t8)(f:Ga x=t8):aAb A s u v (eqV y x):=by
 cases y with
 |non=>
  cases e;cases x with
  |non=>cases c;exact aEd _
  |bl b=>cases c;exact aCl b
  |int b=>let(t,rfl):=c;exact aCw b t
  |str b=>let(t,rfl):=c;exact aCx b t
  |_=>exact absurd (show t7=t8 from f) cV
 |bl a=>
  cases e;cases x with
  |non=>cases c;exact aCm a
  |bl b=>cases c;exact aCn a b
  |int b=>let(t,rfl):=c;exact aCy a b t
  |str b=>let(t,rfl):=c;exact aCz a b t
  |_=>exact absurd (show t7=t8 from f) cV
 |int a=>
  let(d,rfl):=e;cases x with
  |non=>cases c;exact aDa a d
  |bl b=>cases c;exact aDb a d b
  |int b=>let(t,rfl):=c;exact aDh a d b t
  |str b=>let(t,rfl):=c;exact vU a d b t
  |_=>exact absurd (show t7=t8 from f) cV
 |str a=>
  let(d,rfl):=e;cases x with
  |non=>cases c;exact aDc a d
  |bl b=>cases c;exact aDd a d b
  |int b=>let(t,rfl):=c;exact vV a d b t
  |str b=>let(t,rfl):=c;exact aDi a d b t
  |_=>exact absurd (show t7=t8 from f) cV
 |_=>exact absurd (show t7=t8 from g) cV
def eqU(x:V)(u:aF):Bool:=match u with
 |.none=>eqV .non x
 |.bool b=>eqV .bl[b] x
 |.int i _=>eqV .int[i] x
 |.str z _=>eqV .str[z] x
 |_=>t7
def Bir(r:RelV y u)(f:Ga y=t8):eqU x u=eqV y x:=by
 cases y with
 |non=>cases r;rfl
 |bl b=>cases r;rfl
 |int i=>let(t,rfl):=r;rfl
 |str z=>let(t,rfl):=r;rfl
 |_=>trivial
def inV(x:V)(xs:lg V):Bool:=xs.any λy=>eqV y x
def Aj4:OpR X compareOp[.NotIn] (λx y H Q=>∃i j,x=.str i/\y=.str j/\Q .bl[!(!(dM j i 0 j.length 1).isEmpty)] H):=by
 rintro e s c H x y v u Q I b a ⟨i,j,rfl,rfl,q⟩;let(t,rfl):=b;let(d,rfl):=a;exact notIn_str (.bl _,H,I,rfl,q)
def Jv.or(h:Jv X f r)(h':Jv X f e):Jv X f (λa H Q=>r a H Q\/e a H Q):=by
 intro d s b H a c Q I rs q;rcases q with q|q
 .exact h d s b H a c Q I rs q
 .exact h' d s b H a c Q I rs q
def Aj5:Jv X .type["list"] (λk H Q=>∃p d,k=[.ref p]/\(SqL X.K H p d\/SqT X.K H p d)/\∀l,H l=sy->Q[.ref l][upd H l .lst[d]]):=by
 rintro v s m H k y Q I r ⟨p,d,rfl,hq,q⟩;let(u,rfl,t):=vals1 r;cases t;let h:∀(a:_),_->_->∀(h':dI)(c:Nat),_->
   _->EP X v m Q _ { s with heap:=h' }:=λa b f h' c kp e=>
  (.ref s.heap.objs.size,_,I.laid kp aN[_] (show Ek X.prog X.w _ h' _ .lst[d] from (f,a,c,b,e)),rfl,q _ I.hok.fresh[aN[_]])
 rcases hq with hq|hq
 .let(a,b,pl,f):=I.list hq;let g:=b.length;let(o,i,j,n,hd):=pl.isList;exact aAy p .inl[rfl] i j hd (λh' c kp e=>h a b f h' c kp e) (by simp[cZ] <;> omega)
 .let(a,b,pl,f):=I.tuple hq;let g:=b.length;let(o,i,j,n,hd):=pl;exact aAy p .inr[rfl] i j hd (λh' c kp e=>h a b f h' c kp e) (by simp[cZ] <;> omega)
def Ahg:Jv X .type["tuple"] (λg H Q=>∃p a,g=[.ref p]/\((SqL X.K H p a/\∀l,H l=sy->Q[.ref l][upd H l .tup[a]])\/(SqT X.K H p a/\Q .ref[p] H))):=by
 rintro x s t H g v Q I r ⟨p,a,rfl,h⟩;let(u,rfl,m):=vals1 r;cases m;rcases h with ⟨f,q⟩|⟨f,q⟩
 .let(c,d,pl,i):=I.list f;let j:=d.length;refine call_tuple_list[pl.isList][λh' kp=>?_][by simp_all]
  let k:=I.kept (t':=s.toks) kp;let n:=
   k.laid (t':=s.toks) (λb o e=>aC _ e) aN[_] (show Ek X.prog X.w _ _ _ .tup[a] from (i,c,d,aBm ..))
  exact(.ref h'.objs.size,_,n,rfl,q _ k.hok.fresh[aN[_]])
 .let(c,d,pl,i):=I.tuple f;exact call_tuple_same pl (.ref p,H,I,rfl,q)
def tyV(K:aB)(T:String)(x:V)(H:Hp):Prop:=match x with
 |.str _=>T="str"
 |.int _=>T="int"
 |.ref p=>(T="list"/\∃xs,SqL K H p xs)\/(T="tuple"/\∃o,K.lookup p=sr o/\o.cls=.type "tuple"/\o.dict=sy)\/
   (T="dict"/\((∃kvs,H p=sr .dK[kvs])\/∃kvs,H p=sr .dT[kvs]))\/(T="set"/\∃S n,H p=sr[.set S n])
 |_=>False
def Bis(I:Inv X q l H s)(r:RelV x v)(ty:tyV X.K T x H):
  s.TypeIs v T/\∀a,v=.ref a->∃ob,s.heap.get? a=sr ob/\ob.dict=sy:=by
 cases x with
 |str z=>
  let(t,rfl):=r;cases (ty);exact(aAa s z t,λg e=>nomatch e)
 |int i=>
  let(t,rfl):=r;cases (ty);exact(aAc s i t,λg e=>nomatch e)
 |ref p=>
  cases r;rcases ty with ⟨rfl,m,j⟩|⟨rfl,o,b,k,hd⟩|⟨rfl,b⟩|⟨rfl,S,n,b⟩
  .let(h,_,pl,_):=I.list j;refine(pl.isList.typeIs,λa e=>?_);cases e;let(o,n,e,c,hd,_):=pl;exact(o,e,hd)
  .refine((o,I.kIn p o b,k),λa e=>?_);cases e;exact(o,I.kIn _ o b,hd)
  .let z:∃o,s.heap.get? p=sr o/\o.ExactDict:=by
    rcases b with ⟨d,b⟩|⟨d,b⟩
    .let(_,_,_,_,o,_,_,e,ex,_):=I.hok p _ b;exact(o,e,ex)
    .let(_,_,_,_,o,_,_,e,ex,_):=I.hok p _ b;exact(o,e,ex)
   let(o,e,ex):=z;refine((o,e,ex.1),λa f=>?_);cases f;exact(o,e,ex.2.1)
  .let(o,_,_,_,e,ex,_):=I.hok p _ b;refine((o,e,ex.1),λa f=>?_);cases f;exact(o,e,ex.2.1)
 |_=>exact bZ ty
def tBM(K:aB)(T:String)(r:V->lg V->Hp->VK->Prop)(to:TE)(t:TA):TE:=λσ H Q=>to σ H λx H1=>tyV K T x H1/\t σ H1 λxs H2=>r x xs H2 Q
end
def MtM(X:Cx)(id:String)(r:V->lg V->Hp->VK->Prop):Prop:=
 ∀(aa:lg[aH×tu])(s:aO)(σ:St)(H:Hp)(x:V)(xs:lg V)(v:aF)(us:lg aF)(Q:VK),Inv X aa σ H s->RelV x v->Vals xs us->r x xs H Q->
  wpAny (model X.prog X.w) X.A (call .builtin[id] (v::us)) (EP X aa σ Q) X.xe s
def Vals.one{x:V}{a:lg aF}(h:Vals [x] a):∃u,a=[u]/\RelV x u:=by
 cases h with|cons r h=>
 cases h;exact(_,rfl,r)
def Vals.two{x y:V}{a:lg aF}(h:Vals [x,y] a):∃u v,a=[u,v]/\RelV x u/\RelV y v:=by
 cases h with|cons r h=>
 cases h with|cons q h=>
 cases h;exact(_,_,rfl,r,q)
theorem Vals.rep(h:Vals a b):∀k:Nat,Vals (cL k a).flatten (cL k b).flatten
 |0=>.nil
 |k+1=>Vals.append h (Vals.rep h k)
theorem foldl_rep(a:lg aF):∀(k:Nat)(b:lg aF),
  aDj[λf d=>f ++ d][b.toArray][cL k a.toArray]=(b ++ (cL k a).flatten).toArray
 |0,b=>by simp
 |k+1,b=>by
  let e:b.toArray ++ a.toArray=(b ++ a).toArray:=by simp
  let g:(b ++ a) ++ (cL k a).flatten=b ++ (cL (k+1) a).flatten:=by
   rw[vD,List.flatten_cons,cR]
  rw[<-g,<-foldl_rep a k _,<-e,vD,List.foldl_cons]
section
def Inv.lset{a its':lg aF}{n:Nat}{f:Array aF->Array aF}{h:Nat}(I:Inv X p g H s)(o:H l=sr .lst[r])(e:s.heap.get? l=sr { cls:=.type "list",data:=.seq a.toArray n })(hf:f a.toArray=its'.toArray)(k:Vals ys its')(j:ys.length<=sizeLine):
  Inv X p g (upd H l .lst[ys]) { s with heap:=s.heap.update l oE[f],toks:=h }:=by
 let q:=aEb e f;rw[hf] at q;refine I.write (by rw[o];trivial) .inl[rfl] (λt u m hu=>(bT s.heap _ bN[m]).trans hu) (_,q) ?_
 exact(j,its',_,k,q)
def Inv.lnew{t':Nat}(I:Inv X e a H s)(d:Vals ys its)(c:ys.length<=sizeLine):
  Inv X e a (upd H s.heap.objs.size .lst[ys]) { s with heap:=s.heap.push { cls:=.type "list",data:=.seq its.toArray },toks:=t' }:=(
 I.laid (λb b q=>aC _ q) aN[_] (c,its,0,d,aU _ rfl))
def Inv.fresh(I:Inv X aa σ H s):H s.heap.objs.size=sy:=I.hok.fresh aN[_]
def Inv.lstM(I:Inv X h g H s)(d:H l=sr .lst[b]):b.length<=sizeLine/\∃(a:lg aF)(n:Nat),Vals b a/\b.length=a.length/\s.heap.get? l=sr { cls:=.type "list",data:=.seq a.toArray n }:=by
 let(z,a,n,r,e):=I.hok l _ d;exact(z,a,n,r,r.length,e)
def Aww{n:Nat}(h:n<=sizeLine):sI n=t7:=(dq ())
end
section
def Bb9:V->lg V->Hp->VK->Prop:=λx vs H Q=>∃l xs y,x=.ref l/\vs=[y]/\H l=sr .lst[xs]/\xs.length < sizeLine/\Q .non (upd H l .lst[xs ++ [y]])
def Ah4:MtM X "list.append" Bb9:=by
 rintro o s g H x i v j Q I c d ⟨l,h,y,rfl,rfl,b,k,q⟩;cases c;let(u,rfl,f):=d.one;let(z,a,n,r,m,e):=I.lstM b;refine aAd F.slot_list_append (_,e,rfl) F.entry_list_append (F.args_list_append_2 ..) (PySem.list_append l a.toArray n u (by grind)) (e,?_)
 refine(.non,_,I.lset (its':=a ++ [u]) b e () r.append[.cons f .nil] ?_,rfl,q)
 rw[bH,eZ];omega
def Bm5:R2:=λx y H Q=>∃l b xs zs,x=.ref l/\y=.ref b/\H l=sr .lst[xs]/\H b=sr .lst[zs]/\xs.length+zs.length<=sizeLine/\∀p,H p=sy->Q[.ref p][upd H p .lst[xs ++ zs]]
def Bit:OpR X binaryOp[.Add] Bm5:=by
 rintro E s o H x y v u Q I f d ⟨l,b,w,p,rfl,rfl,i,j,B,q⟩;cases f;cases d;let(z,c,n,r,C,e):=I.lstM i;let(t,a,A,g,h,m):=I.lstM j;refine PySem.P.add_list e m ?_ (by simp_all)
 let k:c.toArray ++ a.toArray=(c ++ a).toArray:=by simp
 exact k ▸ (.ref _,_,I.lnew r.append[g] (by rw[bH];omega),rfl,q _ I.fresh)
def Bm6:R2:=λx y H Q=>∃l k xs,x=.ref l/\y=.int k/\H l=sr .lst[xs]/\-(2 ^ 63)<=k/\k < 2 ^ 63/\xs.length * k.toNat<=sizeLine/\
 ∀p,H p=sy->Q[.ref p][upd H p .lst[(cL k.toNat xs).flatten]]
def len_rep{c:Type}(a:lg c)(k:Nat):(cL k a).flatten.length=k * a.length:=by simp
def Biu:OpR X binaryOp[.Mult] Bm6:=by
 intro Y s O H x y v u Q I C B h;let(l,k,P,rfl,rfl,G,L,J,o,q):=h;cases C;let(t,rfl):=B;let(z,b,n,r,E,e):=I.lstM G;let f:b.toArray.size * k.toNat<=sizeLine:=by rw[cZ,<-E];exact o
 let i:¬ b.toArray.size * k.toNat > (2 ^ 63 - 1) / 8:=by
  have:(sizeLine:Nat)<=(2 ^ 63 - 1) / 8:=by decide
  omega
 let g:¬ (!aAe k)=t8:=by
  rw[fitsIndex_both L J];exact cV
 let c:¬ sI[b.toArray.size * k.toNat]=t8:=by
  rw[Aww f];exact cV
 let d:aDj[λw p=>w ++ p][#[]][cL (if b.toArray.isEmpty=t8 then 0 else k.toNat) b.toArray]=(cL k.toNat b).flatten.toArray:=by
  let N:=λm=>by
   have:=foldl_rep b m [];rw[nZ] at this;exact this
  rw[N];cases b with
  |nil=>simp
  |cons a S=>rw[dm ()]
 refine wpAny_binaryOp_repeat_ref (T:="list") (U:="int") () (_,e,rfl) (λA=>aAc A k t) noFill_list_mul F.fills_int_mul yX repeat_list F.slot_int_index.lookup
  (aAd yX (aAc s k t) F.entry_int_rmul (F.args_int_rmul_2 _ _) (int___rmul___int_list k t l b.toArray n)
   (e,rfl,(_,e,rfl),aAd F.slot_list_mul (_,e,rfl) F.entry_list_mul (F.args_list_mul_2 _ _) (wF l b.toArray n k t g i c) (e,?_)))
 rw[d];exact(.ref _,_,I.lnew (t':=s.toks) r.rep[k.toNat] (by rw[len_rep,Nat.mul_comm];exact o),rfl,q _ I.fresh)
end
section
variable{κ:Type}[DecidableEq κ]
def Wz(kvs:lg[κ×V])(k:κ):o9 V:=(kvs.find? λkv=>decide[kv.1=k]).map (·.2)
def putK(kvs:lg[κ×V])(k:κ)(v:V):lg[κ×V]:=
 if (kvs.any λkv=>decide[kv.1=k])=t8 then kvs.map[λkv=>if kv.1=k then (u6 kv.1 v) else kv] else kvs ++ [(k,v)]
def Aex{p:κ×V}{r:lg[κ×V]}{k:κ}(e:p.1=k):Wz (p::r) k=sr p.2:=by simp[Wz,e]
def Aey{p:κ×V}{r:lg[κ×V]}{k:κ}(e:¬ p.1=k):Wz (p::r) k=Wz r k:=by simp[Wz,e]
theorem Amf(k:κ):∀a:lg[κ×V],(a.any λkv=>decide[kv.1=k])=(Wz a k).isSome
 |[]=>rfl
 |p::r=>by
  rw[pM];by_cases e:p.1=k
  .simp[Aex e,dj e]
  .rw[Aey e,dq e];exact Amf k r
def R5(a:lg[κ×V])(k:κ)(v:V):(putK a k v).length<=a.length+1:=by
 unfold putK;split
 .simp
 simp
def Wa.isSome_eq(r:Wa o u):o.isSome=u.isSome:=by
 cases o with
 |none=>cases u with
  |none=>rfl
  |some _=>trivial
 |some _=>cases u with
  |none=>trivial
  |some _=>rfl
def KV.val{a:lg[κ×V]}{d:lg[κ×aF]}(r:KV a d)(k:κ):Wa[Wz a k][valueAt d k]:=by
 induction r with
 |nil=>trivial
 |@cons p q ps qs h t g=>
  let(f,i):=h;by_cases e:p.1=k
  .let e':=f.symm.trans e;let b:valueAt (q::qs) k=sr q.2:=by simp[valueAt,e']
   rw[Aex e,b];trivial
  .let e':¬ _:=λz=>e f.trans[z];let b:valueAt (q::qs) k=valueAt qs k:=by simp[valueAt,e']
   rw[Aey e,b];omega
def KV.any(r:KV a b)(k:κ):(a.any λkv=>decide[kv.1=k])=b.any λkv=>decide[kv.1=k]:=by
 induction r with
 |nil=>rfl
 |cons h t c=>simp_all
def KV.repl(r:KV a c)(k:κ)(f:RelV y u):
  KV[a.map λkv=>if kv.1=k then (u6 kv.1 y) else kv][c.map λkv=>if kv.1=k then (u6 kv.1 u) else kv]:=by
 induction r with
 |nil=>exact .nil
 |@cons p q ps qs h t d=>
  rw[cJ,cJ];refine .cons ?_ d;let(b,g):=h;by_cases e:p.1=k
  .rw[di e,di b.symm.trans[e]];trivial
  .rw[dm e,dm[λz=>e b.trans[z]]];trivial
def KV.put(r:KV a b)(k:κ)(c:RelV y u):KV[putK a k y][stored b k u]:=by
 unfold putK stored;rw[r.any k];by_cases e:(b.any λkv=>decide[kv.1=k])=t8
 .rw[di e,di e];exact r.repl k c
 .rw[dm e,dm e];exact aCo r (rfl,c)
def KV.length(r:KV kvs vs):kvs.length=vs.length:=sG r
end
def Ah5(r:RelV kV[k] u):(Hv P w).is k u=t8:=by
 cases k with
 |inl i=>let(t,e):=(show ∃t,u=xU i t from r);subst e;exact Atu i t
 |inr x=>let(t,e):=(show ∃t,u=xV x t from r);subst e;exact Atv x t
theorem Ah6:∀{b:lg Key} {c:lg aF},Vals b.map[kV] c->ItemsAre (Hv P w) b c
 |[],_,r=>by cases r;exact .nil
 |k::b,_,r=>by
  cases r with
  |cons h t=>exact .cons Ah5[h] Ah6[t]
abbrev KT(H:Hp):lg[lg Key×V]->lg[lg Key×aH×aF]->Prop:=mG λp q=>p.1=q.1/\H q.2.1=sr .tup[p.1.map[kV]]/\RelV p.2 q.2.2
def KT.val{H:Hp}{c:lg[lg Key×V]}{d:lg[lg Key×aH×aF]}(r:KT H c d)(k:lg Key):Wa (Wz c k) ((atKey d k).map (·.2)):=by
 induction r with
 |nil=>trivial
 |@cons p q ps qs h t g=>
  let(f,_,i):=h;by_cases e:p.1=k
  .let e':=f.symm.trans e;let b:atKey (q::qs) k=sr q.2:=by simp[atKey,e']
   rw[Aex e,b];trivial
  .let e':¬ _:=λz=>e f.trans[z];let b:atKey (q::qs) k=atKey qs k:=by simp[atKey,e']
   rw[Aey e,b];omega
def KT.repl(r:KT H a d)(k:lg Key)(g:RelV y u):
  KT H (a.map λkv=>if kv.1=k then (u6 kv.1 y) else kv) d.map[putAt k u]:=by
 induction r with
 |nil=>exact .nil
 |@cons p q ps qs h t f=>
  rw[cJ];refine .cons ?_ f;let(b,j,i):=h;unfold putAt;by_cases e:p.1=k
  .rw[di e,di b.symm.trans[e]];trivial
  .rw[dm e,dm[λz=>e b.trans[z]]];trivial
def KT.put(r:KT H a c)(k:lg Key)(g:H b=sr .tup[k.map[kV]])(d:RelV y u):
  KT[H][putK a k y][storedH c k b u]:=by
 let e:(a.any λkv=>decide[kv.1=k])=(atKey c k).isSome:=by
  rw[Amf,(r.val k).isSome_eq,rT]
 unfold putK storedH;rw[e];by_cases q:(atKey c k).isSome=t8
 .rw[di q,di q];exact r.repl k d
 .rw[dm q,dm q];exact aCo r (rfl,g,d)
def KT.keeps(r:KT H a d)(f:∀b c,H b=sr .tup[c]->H' b=sr .tup[c]):KT H' a d:=(
 Paired.mapP r λe e z=>(z.1,f _ _ z.2.1,z.2.2))
section
def Py(ok:HOk P w H h)(e:Rd H a u):Ek P w H h a u:=e.ok ok
def Ah7(ok:HOk P w H h)(e:Rd H a .dK[b]):b.length<=sizeLine/\(a==sysModules)=t7/\∃c,KV b c/\h.DictOf (Hv P w) a c:=(
 Py ok e)
def Awx(ok:HOk P w H h)(e:H a=sr .dK[kvs]):kvs.length<=sizeLine/\(a==sysModules)=t7/\∃vs,KV kvs vs/\h.DictOf (Hv P w) a vs:=Ah7 ok .inl[e]
def Aez(ok:HOk P w H h)(e:H a=sr .tup[c.map[kV]]):(tupleKind[Hv P w]).is h c a:=by
 let(_,b,r,o,g,f,n,d):=(ok a _ e);exact(o,b.toArray,n,g,f,d,by simpa using Ah6 r)
def Amg(ok:HOk P w H h)(e:Rd H a .dT[b]):b.length<=sizeLine/\(a==sysModules)=t7/\
  ∃c,KT H b c/\h.DictOfH tupleKind[Hv P w] a c:=by
 let(z,y,c,r,o,n,s,k,j,i,g,f):=(Py ok e);refine(z,y,c,r,o,n,s,k,j,i,g,λx hx=>?_,f);let all:∀{l:_} {m:_},KT H l m->∀x∈m,(tupleKind[Hv P w]).is h x.1 x.2.1:=by
  intro l m q;induction q with
  |nil=>simp
  |@cons p q ps qs u t d=>
   intro x hx;rcases aW.mp hx with e|hx
   .exact Aez ok (by simp_all)
   .exact d x hx
 exact all r x hx
end
def Ae0(H:Hp)(a:aH)(y:V)(r:o9 V):Prop:=
 (∃kvs k,Rd H a .dK[kvs]/\y=kV k/\r=Wz kvs k)\/∃kvs k b,Rd H a .dT[kvs]/\y=.ref b/\H b=sr .tup[k.map[kV]]/\r=Wz kvs k
def At3(H:Hp)(a:aH)(y v:V)(H':Hp):Prop:=
 (∃kvs k,H a=sr .dK[kvs]/\y=kV k/\kvs.length < sizeLine/\H'=upd H a .dK[putK kvs k v])\/
 (∃kvs k b,H a=sr .dT[kvs]/\y=.ref b/\H b=sr .tup[k.map[kV]]/\kvs.length < sizeLine/\H'=upd H a .dT[putK kvs k v])\/
 ∃xs k,H a=sr .lst[xs]/\y=.int k/\0<=k/\k < xs.length/\H'=upd H a .lst[xs.set k.toNat v]
def Ae0.k{H:Hp}{a:aH}{kvs:lg[Key×V]}{k:Key}(e:H a=sr .dK[kvs]):Ae0 H a kV[k] (Wz kvs k):=.inl (kvs,k,.inl e,rfl,rfl)
def At3.k{H:Hp}{a:aH}{kvs:lg[Key×V]}{k:Key}{v:V}(e:H a=sr .dK[kvs])(hl:kvs.length < sizeLine):At3 H a kV[k] v (upd H a .dK[putK kvs k v]):=.inl (kvs,k,e,rfl,hl,rfl)
section
def Inv.big(I:Inv X c b H s):sysModules < s.heap.objs.size:=(Nat.lt_trans () (I.mod.glob.keeps I.bk).lt)
def At4(hu:A.units+1 < cLine)(I:Inv X B t H s)(g:Ae0 H a y sr[v])(r:RelV y u)(h:∀f q,Inv X B t H q->RelV v f->Q f q):
  wpAny (model X.prog X.w) A (getItem .ref[a] u) Q E s:=by
 rcases g with ⟨i,k,e,n,l⟩|⟨i,k,b,e,n,x,l⟩
 .subst n;let(z,hd,F,d,o):=Ah7 I.hok e;let(f,j,c):=Wa.some_of[l ▸ d.val k];exact wpAny_getItem_of Ah5[r] o.mapOf j (h f _ I.tok[_] c)
 .subst n;cases (r);let(z,hd,C,d,o):=Amg I.hok e;let(f,j,c):=Wa.some_of[l ▸ d.val k];let(p,hp,m):=bI.mp j;apply wpAny_getItem_heap oG[hu] (Aez I.hok x) o hp;exact m ▸ h f _ I.tok[_] c
def Bp4(hu:A.units+1 < cLine)(I:Inv X r n H s)(g:Ae0 H a y o)(m:RelV y u)(h:∀j,Inv X r n H j->Q .bool[o.isSome] j):
  wpAny (model X.prog X.w) A (compareOp .In u .ref[a]) Q E s:=by
 rcases g with ⟨d,k,e,f,l⟩|⟨d,k,b,e,f,p,l⟩
 .subst f;let(z,hd,v,c,i):=Ah7 I.hok e;apply wpAny_in_of Ah5[m] hd i.mapOf;rw[<-(c.val k).isSome_eq,<-l];exact h _ I.tok[_]
 .subst f;cases (m);let(z,hd,t,c,i):=Amg I.hok e;apply wpAny_in_heap oG[hu] (Aez I.hok p) hd i;let q:=(c.val k).isSome_eq;rw[rT] at q;rw[<-q,<-l];exact h _ I.tok[_]
def Bca(hu:A.units+1 < cLine)(I:Inv X r n H s)(g:Ae0 H a y o)(m:RelV y u)(h:∀j,Inv X r n H j->Q .bool[!o.isSome] j):
  wpAny (model X.prog X.w) A (compareOp .NotIn u .ref[a]) Q E s:=by
 rcases g with ⟨d,k,e,f,l⟩|⟨d,k,b,e,f,p,l⟩
 .subst f;let(z,hd,v,c,i):=Ah7 I.hok e;apply wpAny_notIn_of Ah5[m] hd i.mapOf;rw[<-(c.val k).isSome_eq,<-l];exact h _ I.tok[_]
 .subst f;cases (m);let(z,hd,t,c,i):=Amg I.hok e;apply wpAny_notIn_heap oG[hu] (Aez I.hok p) hd i;let q:=(c.val k).isSome_eq;rw[rT] at q;rw[<-q,<-l];exact h _ I.tok[_]
def Aj6{d:Nat}(I:Inv X h c H s)(e:Mut H[a])(hs:gC a s.heap h')(f:∃q,h'.get? a=sr q)(new:Ek X.prog X.w (upd H a ob) h' a ob):
  Inv X h c (upd H a ob) { s with heap:=h',toks:=d }:=(
 I.write e .inl[rfl] (λb q g z=>(hs.2 b g).trans z) f new)
theorem Awy(z:b.length<=sizeLine)(hd:(a==sysModules)=t7)(c:KV b d)(e:h'.DictOf (Hv P w) a d):
  Ek P w H' h' a .dK[b]:=(z,hd,d,c,e)
def At5(hu:A.units+1 < cLine)(I:Inv X aa T H s)(g:At3 H a y v H')(C:RelV y u)(F:RelV v r)(h:∀N,Inv X aa T H' N->Q u9 N):
  wpAny (model X.prog X.w) A (setItem .ref[a] u r) Q E s:=by
 rcases g with ⟨f,k,e,m,l,o⟩|⟨f,k,b,e,m,S,l,o⟩|⟨L,k,e,m,h0,hk,o⟩
 .subst m o;let(z,hd,U,d,J):=Awx I.hok e;let G:U.length<=sizeLine:=d.length ▸ z;let B:(putK f k v).length<=sizeLine:=by have:=R5 f k v;omega
  refine wpAny_setItem_pairs (hsz:=G) Ah5[C] J λh' i hs=>h _ ?_;let Y:∃q,h'.get? a=sr q:=let ⟨q,_,_,p,_⟩:=i;(q,p);exact Aj6 I (e ▸ iU) hs Y (Awy B hd (d.put k F) i)
 .subst m o;cases (show u=bJ b from C);let(z,hd,L,d,J):=Amg I.hok .inl[e];let G:L.length<=sizeLine:=(sG d) ▸ z;let B:(putK f k v).length<=sizeLine:=by have:=R5 f k v;omega
  refine wpAny_setItem_heap (hsz:=G) oG[hu] (Aez I.hok S) J λh' i hs=>h _ ?_;let(q,es,ep,p,h2,h3,h4,_,h5):=i;refine Aj6 I (e ▸ iU) hs (q,p) (B,hd,_,(d.put k S F).keeps λc ys ec=>?_,q,es,ep,p,h2,h3,h4,h5)
  rwa [Aj[by grind]]
 .subst m o;let(t,rfl):=C;let(z,j,n,O,P):=I.hok a _ e;let B:=O.length;let hn:=Aet;refine PySem.W.ki_setAt P h0 () (by simp_all) (h _ ?_)
  let em:oE (·.setIfInBounds k.toNat r) { cls:=.type "list",data:=.seq j.toArray n }={ cls:=.type "list",data:=.seq (j.set k.toNat r).toArray n }:=by simp[oE]
  let e':(s.heap.update a (oE (·.setIfInBounds k.toNat r))).get? a=sr { cls:=.type "list",data:=.seq (j.set k.toNat r).toArray n }:=by
   rw[bW _ P (rfl),em]
  exact I.write (x:=a) (e:=a) (by rw[e];trivial) .inl[rfl] (λb u Z q=>(bT _ _ bN[Z]).trans q) (_,e') (by rwa [fB],_,n,O.set F _,e')
end
section
def Bm7(I:Inv X i f H s)(e:Rd H a .dK[c])(h:∀t d,Inv X i f H d->Q (.int c.length t) d):wpAny (model X.prog X.w) A (call .builtin["len"] [.ref a]) Q E s:=by
 let(z,hd,j,b,g):=Ah7 I.hok e;refine call_len_dict hd g (by rw[<-b.length];rw[rN] at z;omega) ?_
 exact b.length ▸ h _ _ I.tok[_]
end
def Bm8(td ty tv:TE):TS:=λD σ H=>tv σ H λv H1=>td σ H1 λx H2=>ty σ H2 λy H3=>∃a H4,x=.ref a/\At3 H3 a y v H4/\D.nx σ H4
section
def Bcb(hu:X.A.units+1 < cLine)(B:PE X o j)(hi:PE X i ty)(z:PE X value f)(hs:swapsWith value sr[.Subscript o i b] d.line X.env=pure t7):
  PS[X][.Assign [.Subscript o i b] value d][Bm8 j ty f]:=by
 intro e s c H D I h;refine wpAny_Assign_Subscript (thn[z e s c H _ I h] λr l ⟨v,H1,I1,rv,q1⟩=>thn[B e l c H1 _ I1 q1] λu k ⟨x,H2,I2,rx,q2⟩=>thn[hi e k c H2 _ I2 q2] λQ P ⟨y,H3,I3,ry,a,H4,ex,g,q3⟩=>?_) hs;subst ex;obtain rfl:_:=rx;exact At5 hu I3 g ry rv λO C=>(c,H4,C,q3)
end
def Amh(h:dI)(a:sysModules < h.objs.size):Ek P w H (h.push { cls:=.type "dict",data:=.dict #[] }) h.objs.size .dK[[]]:=(
 (cP _,beq_eq_false_iff_ne.mpr bN[bR[a]],[],.nil,aEe h))
def Biv:TE:=λuw H Q=>∀p,H p=sy->Q[.ref p][upd H p .dK[[]]]
section
def Awz:PE X (.Dict [] [] b) Biv:=(λd s c H Q I h=>
 wpAny_Dict_empty (.ref s.heap.objs.size,_,I.laid[λa a q=>aC _ q][aN _][Amh s.heap I.big],rfl,h _ I.hok.fresh[aN[_]]))
end
def Aj7:lg[TE×TE]->St->Hp->(lg[V×V]->Hp->Prop)->Prop
 |[],_,H,Q=>Q [] H
 |(tk,tv)::r,σ,H,Q=>tk σ H λx H1=>tv σ H1 λy H2=>Aj7 r σ H2 λps H3=>Q ((u6 x y)::ps) H3
abbrev VV:lg[V×V]->lg[aF×aF]->Prop:=mG λp q=>RelV p.1 q.1/\RelV p.2 q.2
def PPs(X:Cx)(pos:o8)(keys:lg o9[bO])(values:lg bO)(trs:lg[TE×TE]):Prop:=
 ∀(aa:lg[aH×tu])(s:aO)(σ:St)(H:Hp)(Q:lg[V×V]->Hp->Prop),Inv X aa σ H s->Aj7 trs σ H Q->
  wpAny (model X.prog X.w) X.A evalPairs[pairTrees keys values X.env pos] (λvs s'=>∃ps H',Inv X aa σ H' s'/\VV ps vs/\Q ps H') X.xe s
def Qt(kvs more:lg[Key×V]):lg[Key×V]:=more.foldl (λacc kv=>putK acc kv.1 kv.2) kvs
def KV.merge:∀{more:lg[Key×V]} {rs:lg[Key×aF]} {kvs:lg[Key×V]} {vs:lg[Key×aF]},KV more rs->KV kvs vs->KV[Qt kvs more][merged vs rs]:=by
 intro more rs kvs vs r;induction r generalizing kvs vs with
 |nil=>intro q;exact q
 |@cons p q ps qs h t c=>
  intro b;let e:KV[putK kvs p.1 p.2][stored vs q.1 q.2]:=by
   have:=b.put p.1 h.2;rw[<-h.1];omega
  exact c e
theorem Wh:∀(more a:lg[Key×V]),(Qt a more).length<=a.length+more.length
 |[],a=>by show a.length<=_;simp
 |p::r,a=>by
  let d:=Wh r (putK a p.1 p.2);let c:=R5 a p.1 p.2;show (Qt (putK a p.1 p.2) r).length<=_;rw[fD];omega
theorem Ae1:∀{d:lg[Key×V]} {f:lg[aF×aF]},VV (d.map λkv=>(u6 kV[kv.1] kv.2)) f->∃rs,Carries (Hv P w) f rs/\KV d rs
 |[],_,r=>by cases r;exact([],iU,.nil)
 |p::d,_,r=>by
  cases r with
  |@cons a b g bs h t=>
   let(rs,c,q):=Ae1 (P:=P) (w:=w) t;let(b1,b2):=b;exact((u6 p.1 b2)::rs,(Ah5 h.1,rfl,c),.cons (rfl,h.2) q)
def Bm9(trs:lg[TE×TE]):TE:=λσ H Q=>∀p,H p=sy->Aj7 trs σ (upd H p .dK[[]]) λps H2=>H2 p=sr .dK[[]]/\∃kvs:lg[Key×V],ps=kvs.map[λkv=>(u6 kV[kv.1] kv.2)]/\kvs.length<=15/\Q[.ref p][upd H2 p .dK[Qt [] kvs]]
def Bcc(h:PPs X k b values i)(f:b.all (·.isSome)=t8)(A:b.length=values.length)(C:b≠[])(l:b.length<=15):PE X (.Dict b values k) Bm9[i]:=by
 intro G s n H Q I q;let y:=I.hok.fresh aN[s.heap.objs.size];let J:=I.laid (a:=s.heap.objs.size) (t':=s.toks) (λp p q=>aC _ q) aN[_] (Amh s.heap I.big);refine wpAny_Dict_walk (knd:=Hv X.prog X.w) f A C l (thn[h G _ n _ _ J (q _ y)] λL N ⟨ps,H2,I2,rel,e,kvs,ep,lk,q2⟩=>?_);subst ep;let(rs,c,r):=Ae1 (P:=X.prog) (w:=X.w) rel;let(z,hd,o,t,F):=Awx I2.hok e;cases t;refine(rs,c,F,λh' g hs=>(.ref s.heap.objs.size,_,?_,rfl,q2));let v:(Qt [] kvs).length<=sizeLine:=by
  let B:=Wh kvs [];rw[pY] at B;rw[rN];omega
 exact Aj6 I2 (e ▸ iU) hs (let ⟨q,_,_,x,_⟩:=g;(q,x)) (Awy v hd r.merge[.nil] g)
structure M1(X:Cx)(o:bO)(m:t6)(aj:o8)(e:bO)(cpos:o8):Prop where
 base:attributeBase o m X.env (eval o X.env)=eval o X.env
 few:((backTo cpos (starEach [e] X.env)).all (λx=>!x.1)&&(backToKw cpos (keywordEach [] X.env)).all (λx=>x.1.isSome)
  &&decide (([e]:List bO).length+([]:List iB).length+(if ([]:List iB).isEmpty then 0 else 1) < 30))=t8
 line:(aj.endLine==cpos.line)=t8
 trees:backTo cpos (starEach [e] X.env)=[(t7,eval e X.env)]
structure M2(X:Cx)(o:bO)(m:t6)(aj:o8)(e f:bO)(cpos:o8):Prop where
 base:attributeBase o m X.env (eval o X.env)=eval o X.env
 few:((backTo cpos (starEach [e,f] X.env)).all (λx=>!x.1)&&(backToKw cpos (keywordEach [] X.env)).all (λx=>x.1.isSome)
  &&decide (([e,f]:List bO).length+([]:List iB).length+(if ([]:List iB).isEmpty then 0 else 1) < 30))=t8
 line:(aj.endLine==cpos.line)=t8
 trees:backTo cpos (starEach [e,f] X.env)=[(t7,eval e X.env),(t7,eval f X.env)]
end L2
namespace Att
open PySem PySem.W PySem.Calls PyProof.Rows
def Adq:∀(ns:lg Int)(d:lg aF),WellAll P h d ns.map[WData.int]->uY d ns:=by
 intro ns;induction ns with
 |nil=>
  intro d w;cases w;exact .nil
 |cons n ns e=>
  intro d w;cases w with
  |cons a b=>
   cases a;exact .cons _ _ (e _ b)
def At6{l:OpenLaw}{n:Nat}(s:l.most=sr n){P:Params}{h:dI}{args:lg WData}{vals:lg aF}(b:l.row.toRowW.claim.pre args=t8)(i:WellAll P h vals args):
  ∃a m ns,vals=[bJ a]/\args=[WData.list ns.map[WData.int]]/\h.get? a=sr { cls:=.type "list",data:=.seq m.toArray }/\uY m ns/\ns.length<=n:=by
 let j:WShape.hasAll [] args [.list .int]=t8:=(pre_splitW b).1;let t:l.pre.holds [] { args:=args }=t8:=(pre_splitW b).2;let(d,r,rfl,w,v):=hasAllW_cons j;obtain rfl:=hasAllW_nil v;let(y,rfl,u):=hasW_list w;let(ns,rfl):=items_int u;let c:ns.length<=n:=by
  let g:=by
   let g:=(holds_andW t).1;rw[s] at g;exact g
  let z:=condW_of g w_not[w_lt w_lit w_len_list[w_arg[rfl]]];simp_all
 cases i with
 |cons p o=>
  cases o;cases p with
  |list q e=>exact(_,_,ns,rfl,rfl,q,Adq ns _ e,c)
def At7(l:OpenLaw)(a:lg WData):l.row.toRowW.claim.post a .bool[t8] a=t8:=(
 postW_of
  (by rfl)
  (w_eq_bool w_res[rfl] w_lit) rfl)
def attach_call{l:OpenLaw}{n:Nat}{q:cD}{loose:lg t6}{XP:(t6->o9 aF)->dI->Prop}{E:dW->dI->Prop}{d:DefRec}(N:l.most=sr n)(x:d.params.defaults=[])(call:∀(w:dW)(s₀ b:aO)(mg mb:t6->o9 aF)(k:aH)(o:tu)(t s e:aF)(a:aH)(g:lg aF)(ns:lg Int),
   Ground q loose [] XP w s₀ mg mb b.heap->E w b.heap->
   b.heap.get? k=sr o->o.data=.func[docDef d.name d.params d.body d.scope t s e]->b.heap.CodeRec s d.name->mg d.name=sr .ref[k]->
   b.heap.get? a=sr { cls:=.type "list",data:=.seq g.toArray }->uY g ns->ns.length<=n->b.gens=#[]->
   codeAny[model l.prog w][callerA][.call .ref[k] ([.ref a],[])][λr p=>r=.ok .ret[.bool[t8]]/\OldK b.heap p.heap/\p.os=b.os/\qL p.gens][b]):
  WalkO q loose XP E l.row.toRowW d [] (λf g=>aDk f g):=by
 intro w s₀ b mg mb G H k o t s e dV kV L hd y B v Q C vals as h A I u P;obtain rfl:_:=Dflts.none B x;obtain rfl:kV=.none:=Dflts.noKw B;let(a,g,ns,rfl,rfl,i,hints,j):=At6 N h u;refine enter_call[gQ[call w s₀ b mg mb k o t s e a g ns G H L fd_plain[hd] y v i hints j Q] λr p J=>?_];let(rfl,U,T,S):=J;exact(.inl (_,_,[],rfl,λz=>rfl,.bool t8,At7 l _,λz=>(aDt,λz O=>(nomatch O))),U,T,S)
end Att
namespace L2
open PySem PySem.Spec PyProof.Rows
def At8{b:lg aF}{ns:lg Int}(h:uY b ns):Vals ns.map[V.int] b:=by
 induction h with
 |nil=>exact .nil
 |cons n t h c=>exact .cons (t,rfl) c
def inClass(s:cO)(j:Nat):cO:=match s with
 |.ClassDef _ _ _ body _ _ _ _ _ _ _=>body.getD j (.Pass (0,0,0,0))
 |_=>.Pass (0,0,0,0)
def Dy(s:cO):qU:=match s with
 |.FunctionDef _ a _ _ _ _ _ _ _ _=>a
 |_=>{ posonlyargs:=[],args:=[],vararg:=sy,kwonlyargs:=[],kw_defaults:=[],kwarg:=sy,defaults:=[] }
def Bc(s:cO):lg cO:=match s with
 |.FunctionDef _ _ b _ _ _ _ _ _ _=>b
 |_=>[]
def Am(s:cO):gR:=match s with
 |.FunctionDef _ _ _ _ _ _ sc _ _ _=>sc
 |_=>{ kind:=.function,names:=[],isGenerator:=false,isCoroutine:=false }
abbrev E0:XK:=λuw uw uw=>False
structure Fun(K:aB)(x qual:t6)(st:cO)(f:aH)(fd:dN):Prop where
 ex:∃(oc:aF)(od:Option aH)(dV kV doc pm:aF)(an:Option aH)(cdv ct:aF)(osl:Array (Option aF)),
  fd=cQ x qual (Dy st) (Bc st) (Am st) dV kV doc pm an cdv ct/\K.lookup f=sr (oc,od,.func fd,osl)/\iZ K cdv qual=t8
 kp:cM K (.ref f)=t8
section
def Pz{K:aB}{x qual:t6}{st:cO}{ps:lg t6}{an:o9 aH}{kV doc pm cdv ct:aF}(h:∀us:lg aF,us.length=ps.length->bindArgs (cQ x qual Dy[st] Bc[st] Am[st] .none kV doc pm an cdv ct) (us,[])=pure ps.zip[us]):Binds K (cQ x qual Dy[st] Bc[st] Am[st] .none kV doc pm an cdv ct) ps []:=.all h
def Aba{K:aB}{x qual:t6}{st:cO}{f:aH}{oc:aF}{od an:o9 aH}{osl:Array o9[aF]}{dV kV doc pm cdv ct:aF}(l:K.lookup f=sr (oc,od,.func[cQ x qual Dy[st] Bc[st] Am[st] dV kV doc pm an cdv ct],osl))(c:iZ K cdv qual=t8)(k:cM K .ref[f]=t8):Fun K x qual st f (cQ x qual Dy[st] Bc[st] Am[st] dV kV doc pm an cdv ct):=((oc,od,dV,kV,doc,pm,an,cdv,ct,osl,rfl,l,c),k)
end
section
def At9:Jv X .builtin["len"] (λc H Q=>∃a b,c=[V.ref a]/\H a=sr .dK[b]/\Q .int[b.length] H):=by
 rintro j s g H c h Q I r ⟨a,b,rfl,e,q⟩;let(u,rfl,d):=vals1 r;cases d;exact Bm7 I .inl[e] λt i f=>(.int b.length,H,f,(t,rfl),q)
end
def Api{A B:Prop}(h:B):if t7=t8 then A else B:=by trivial
def Ami{A B:Prop}(h:A):if t8=t8 then A else B:=by trivial
def R6(n:Nat)(h:dI)(e:aH)(od:o9 aH):Prop:=∃oe vs,h.get? e=sr oe/\oe.data=.fields vs/\(n=0->vs[2]?=sr .none)/\oe.dict=od
section
variable{M:Model}{A:eQ}{E:aF->aO->Prop}{s:aO}{n:Nat}{od:o9 aH}
def Aw0(fr:A.frames=sr (env::outer))(m:s.heap.FunFrames B (env::outer))(G:env.frame=sr L)(at_:s.heap.get? e=sr ob)(kB:B.StaysIn s.heap)(N:B.get? e=sy)(dt:ob.data=.fields l)(sz:1 < l.size)(J:l[0]?=sr H)(y:n=0->l[2]?=sr .none)(k:∀g,yQ B (env::outer) e ob.cls H rawInt[L] s.heap g->R6 n g e ob.dict->Q u9 { s with heap:=g }):
  wpAny M A (do let a<-frameOf env;let pl<-entryPlaceOf L nx;let b<-vG hd a .none rawInt[L] .none pl;setField .ref[e] 1 b) Q E s:=by
 let off:e∉(env::outer).filterMap (·.frame):=λz=>by
  let(_,o,q,n):=m.mem z;rw[at_] at q;exact n l ((bY q) ▸ dt)
 refine aA[wpAny_frameOf_fun fr m G λf only=>?_];refine aA[wpAny_entryPlaceOf λpl j=>?_];unfold vG newFields;refine aA eO[?_][j.sizeOk5 ..];generalize x:({ cls:=.type "traceback",dict:=sy,data:=.fields ([hd,.ref L,.none,rawInt L,.none] ++ (if pl.isEmpty then cL 6 fY else pl)).toArray }:tu)=tb
 let v:f.get? e=sr ob:=(only.2.1 e off).trans at_;let i:B.StaysIn f:=λb o z=>(only.2.1 b λw=>by rw[(m.mem w).1] at z;cases z).trans (kB b o z)
 let u:(f.push tb).get? e=sr ob:=aC tb v;apply fU u dt sz;let ne:f.objs.size≠e:=jQ aZ[v];let r:=dC dt (·.setIfInBounds 1 bJ[f.objs.size]);let t:=bW (fV (·.setIfInBounds 1 bJ[f.objs.size])) u fW[r];let F:=(bT f.push[tb] (fV (·.setIfInBounds 1 bJ[f.objs.size])) bN[ne]).trans (aU f (by rw[<-x];rfl))
 let stay:∀b o,b≠e->f.get? b=sr o->((f.push tb).update e (fV (·.setIfInBounds 1 bJ[f.objs.size]))).get? b=sr o:=λb o n z=>(bT _ _ bN[n]).trans (aC tb z);let h:∀b o,s.heap.get? b=sr o->(∀C,o.data≠.fields C)->b≠e:=λb o z n w=>by simp_all
 refine k _ (λb o z=>stay b o (λw=>by grind) (i b o z),m.of_keeps λb o z n=>?_,?_,λb o z n=>?_) (_,_,t,r,λz=>by rw[Array.getElem?_setIfInBounds_ne ()];exact y z,by
   let(c,d,dt,p):=ob;cases dt <;> rfl)
 .let(p,w):=only.2.2 b o z;exact(_,stay b _ (h b o z n) w,rfl)
 .refine(_,_,f.objs.size,_,_,t,(mO _ _,by simp_all),r,by simp[sz],i.fresh,ne,F,by rw[<-x],?_)
  first
   |(simp;done)
   |(rcases j with rfl|⟨_,_,_,_,_,_,_,rfl⟩ <;> simp)
 .let(p,w):=only.2.2 b o z;exact(p,stay b _ (h b o z n) w)
def Apj(kB:B.StaysIn s.heap)(H:s.heap.FunFrames B l)(tr:s.heap.TracedAtW B e cls N P)(I:R6 n s.heap e od)(k:∀g,B.StaysIn g->g.FunFrames B l->g.TracedW B e cls N->R6 n g e od->s.heap.UpToSlots g->Q u9 { s with heap:=g }):wpAny M A (setFlight .ref[e] sy) Q E s:=by
 let(C,i,T,O,u,h,G,dt,j,F,d,m,dT,v):=tr;let(y,f,r,q,L,J):=I;rw[h] at r;obtain rfl:=bY r;rw[dt] at q;obtain rfl:i=f:=by injection q
 let x:3 < u.size:=(fG.mp v).1;let a:∀b,b≠T->(s.heap.update T (fV (·.setIfInBounds 3 .none))).get? b=s.heap.get? b:=λb n=>bT _ _ bN[n];let c:∀b o,s.heap.get? b=sr o->(∀t,o.data≠.fields t)->b≠T:=λb o z n w=>by simp_all
 let p:=(a e bN[d]).trans h;refine wpAny_setFlight_none h dt j m dT x (k _ (λb o z=>(a b λw=>by simp_all).trans (kB b o z)) (H.of_keeps λb o z n=>(o,(a b (c b o z n)).trans z,rfl)) ?_ (_,_,p,dt,L,J) λb o z n=>(o.slots,(a b (c b o z n)).trans z))
 exact(C,i,T,_,_,p,G,dt,j,F,d,bW _ m fW[dC dT _],dC dT _,by simp_all)
def Aw1(fr:A.frames=sr (env::outer))(i:s.heap.FunFrames B (env::outer))(c:env.frame=sr L)(at_:s.heap.get? e=sr ob)(kB:B.StaysIn s.heap)(h:B.get? e=sy)(dt:ob.data=.fields a)(b:a[1]?=sr .none)(f:a[0]?=sr j)(d:n=0->a[2]?=sr .none)(k:∀g,yQ B (env::outer) e ob.cls j rawInt[L] s.heap g->R6 n g e ob.dict->Q u9 { s with heap:=g }):wpAny M A (noteFrame .ref[e] env) Q E s:=by
 unfold noteFrame;simp only[c];exact aA[dJ at_ dt b (Aw0 fr i c at_ kB h dt (fG.mp b).1 f d k)]
def Aw2(fr:A.frames=sr (env::outer))(F:s.heap.FunFrames B (env::outer))(p:env.frame=sr L)(tr:s.heap.TracedW B e cls I)(kB:B.StaysIn s.heap)(y:B.get? e=sy)(i:R6 n s.heap e od)(k:∀g,yQ B (env::outer) e cls I rawInt[L] s.heap g->R6 n g e od->Q u9 { s with heap:=g }):wpAny M A (noteFrame .ref[e] env) Q E s:=by
 let(O,t,T,P,J,f,(C,u),dt,j,S,h,m,dT,l):=tr;let(x,d,r,q,H,G):=i;rw[f] at r;obtain rfl:=bY r;rw[dt] at q;obtain rfl:t=d:=by injection q
 subst C;subst G;unfold noteFrame;simp only[p];refine aA[dJ f dt j ?_];refine aA[dJ m dT l ?_];refine aA[fU m dT (fG.mp l).1 ?_];let a:∀b,b≠T->(s.heap.update T (fV (·.setIfInBounds 3 fY))).get? b=s.heap.get? b:=λb n=>bT _ _ bN[n];let c:∀b o,s.heap.get? b=sr o->(∀v,o.data≠.fields v)->b≠T:=λb o z n w=>by simp_all
 refine Aw0 fr (F.of_keeps λb o z n=>(o,(a b (c b o z n)).trans z,rfl)) p ((a e bN[h]).trans f) (λb o z=>(a b λw=>by grind).trans (kB b o z)) y dt (fG.mp j).1 u H λg N i=>k g (N.1,N.2.1,N.2.2.1,λb o z n=>N.2.2.2 b o ((a b (c b o z n)).trans z) n) i
def Arf(fr:A.frames=sr (env::outer))(u:s.heap.FunFrames B (env::outer))(v:env.frame=sr L)(at_:s.heap.get? e=sr ob)(kB:B.StaysIn s.heap)(r:B.get? e=sy)(dt:ob.data=.fields a)(p:a[1]?=sr .none)(q:a[0]?=sr a0)(m:n=0->a[2]?=sr .none)(k:∀g,Heap.LeftW B (env::outer) e ob.cls a0 s.heap g->R6 n g e ob.dict->Q u9 { s with heap:=g }):wpAny M A (leaving env .ref[e]) Q E s:=(aA (Aw1 fr u v at_ kB r dt p q m λg N x=>Apj N.1 N.2.1 N.2.2.1 x λt j i h f d=>k t (j,i,h,λb o z n=>by
  let(y,w):=N.2.2.2 b o z n;let(c,l):=d b _ w n;exact(c,l)) f))
def Bcd(fr:A.frames=sr (env::outer))(t:env.frame=sr L)(r:jE B (env::outer) e cls C s.heap)(y:R6 n s.heap e od)(k:∀g,jE B outer e cls C g->R6 n g e od->s.heap.UpToSlots g->Q u9 { s with heap:=g }):wpAny M A (leaving env .ref[e]) Q E s:=by
 let(x,f,v,u):=r;exact aA (Aw2 fr v t u x f y λg N d=>Apj N.1 N.2.1 N.2.2.1 d λq m l j i h=>by
  let(_,_,a):=l;exact k q (m,f,a,j) i λb o z n=>by
   let(F,w):=N.2.2.2 b o z n;let(c,p):=h b _ w n;exact(c,p))
def okX(o:o9[Nat×o9 aH])(h:dI)(e:aH):Prop:=∀n od,o=sr[u6 n od]->R6 n h e od
def R6.ok{n:Nat}(c:R6 0 h e od):okX sr[u6 n od] h e:=(λa a z=>by
 cases z;let(d,b,j,i,g,f):=c;exact(d,b,j,i,λa=>g rfl,f))
def okX.none:okX sy h e:=(λa a z=>nomatch z)
def R6.okS{n:Nat}(c:R6 n h e od):okX sr[u6 n od] h e:=(λa a z=>by simp_all)
def Biw{o:o9[Nat×o9 aH]}(fr:A.frames=sr (env::outer))(b:env.frame=sr L)(a:jE B (env::outer) e cls h s.heap)(c:okX o s.heap e)(k:∀g,jE B outer e cls h g->okX o g e->s.heap.UpToSlots g->Q u9 { s with heap:=g }):wpAny M A (leaving env .ref[e]) Q E s:=by
 cases o with
 |none=>exact wpAny_leaves_onW fr b a λg f sm=>k g f okX.none sm
 |some p=>exact Bcd fr b a (c p.1 p.2 rfl) λg f d sm=>k g f d.okS sm
def Aw3{o:o9[Nat×o9 aH]}(fr:A.frames=sr (env::outer))(b:env.frame=sr L)(j:jE B (env::outer) e cls m s.heap)(i:okX o s.heap e)(k:∀g,aDl B (env::outer) e cls m L g->okX o g e->s.heap.UpToSlots g->Q u9 { s with heap:=g }):wpAny M A (noteFrame .ref[e] env) Q E s:=by
 let(h,a,d,c):=j;cases o with
 |none=>exact wpAny_looks_onW fr b (h,a,d,c) λg f sm=>k g f okX.none sm
 |some p=>exact Aw2 fr d b c h a (i p.1 p.2 rfl) λg N l=>k g (N.1,a,N.2.1,N.2.2.1) l.okS N.2.2.2
def Ae2{o:o9[Nat×o9 aH]}(kB:B.StaysIn s.heap)(f:B.get? e=sy)(h:s.heap.FunFrames B l)(tr:s.heap.TracedAtW B e cls t v)(j:okX o s.heap e)(k:∀g,jE B l e cls t g->okX o g e->s.heap.UpToSlots g->Q u9 { s with heap:=g }):wpAny M A (setFlight .ref[e] sy) Q E s:=by
 cases o with
 |none=>exact wpAny_setFlight_noneW kB h tr λg d c a i=>k g (d,f,c,a) okX.none λb ob q m=>(ob.slots,i b ob q m)
 |some p=>exact Apj kB h tr (j p.1 p.2 rfl) λg d c a r sm=>k g (d,f,c,a) r.okS sm
def Bix(fr:A.frames=sr (env::outer))(u:env.frame=sr L)(kB:B.StaysIn h)(r:h.FunFrames B (env::outer))(a:mR h s.heap e cls d)(k:∀g t,jE B outer e cls .ref[t] g->R6 0 g e sy->s.heap.UpToSlots g->Q u9 { s with heap:=g }):wpAny M A (leaving env .ref[e]) Q E s:=by
 let(t,i,_,_):=a.there;let c:B.get? e=sy:=by
  cases z:B.get? e with
  |none=>rfl
  |some o=>
   let w:=kB e o z;rw[a.new] at w;cases w
 refine Arf (n:=0) (a0:=.ref t) fr (r.of_keeps λb o z f=>(o,a.keeps b o z,rfl)) u i (λb o z=>a.keeps b o (kB b o z)) c rfl rfl rfl (λf=>rfl) λg q v=>?_;let(p,(_,_,m),l,j):=q;exact k g t (p,c,m,l) v j
end
def Ek.there(x:Ek P w H h a o):∃ob,h.get? a=sr ob:=by
 cases o with
 |lst c=>let(_,_,_,_,e):=x;exact(_,e)
 |tup c=>let(_,_,_,ob,e,_):=x;exact(_,e)
 |dK b=>let(_,_,_,_,o,_,_,e,_):=x;exact(_,e)
 |dT b=>let(_,_,_,_,o,_,_,e,_):=x;exact(_,e)
 |set S n=>let(o,_,_,_,e,_):=x;exact(_,e)
 |ins C g fs=>let(_,_,_,e,_):=x;exact(_,e)
 |own y=>exact x
 |xd fs=>let(_,(_,_,_,e,_),_):=x;exact(_,e)
 |rng lo hi=>let(_,_,_,e):=x;exact(_,e)
 |frz ob u=>let(e,_):=x;exact(_,e)
 |tbl ps=>exact(_,(x))
 |met f y=>exact(_,(x))
 |ext d=>let(_,z,_):=x;omega
structure Fly(P:cD)(w:dW)(outer:List Env)(H:Hp)(s:aO)(H':Hp)(e:aH)(cls:aF)(s':aO):Prop where
 os:s'.os=s.os
 bare:qL s'.gens
 un:Un (frs outer) [] H H' s.heap s'.heap
 hok:HOk P w H' s'.heap
 new:s.heap.get? e=sy
 fre:H' e=sy
 fly:∃(B:dI)(a0:aF),jE B outer e cls a0 s'.heap/\(∀b o,s.heap.get? b=sr o->H b=sy->b∉frs outer->B.get? b=sr o)/\
  (∀b o,s.heap.get? b=sr o->b∉frs outer->∃o',B.get? b=sr o')/\∀a u o,H' a=sr u->s'.heap.get? a=sr o->B.get? a=sr o
def CXo(P:cD)(w:dW):CXT:=λouter H s E e s'=>∃(ea:aH)(cls:aF)(H':Hp)(o:o9[Nat×o9 aH]),e=bJ ea/\Fly P w outer H s H' ea cls s'/\okX o s'.heap ea/\E cls o H'
section
def Inv.notStk(I:Inv X d a H s)(e:X.s₀.heap.get? b=sr o)(c:b∉X.fs):b∉frs X.stack:=(λz=>by
 rcases aW.mp[I.stkSub b z] with q|q
 .exact absurd aQ[aZ e][q ▸ I.ok.above] eF[_]
 trivial)
def Inv.fsStk(I:Inv X e d H s)(hs:Stk X):∀b∈X.fs,b∈frs X.stack:=(λb c=>by
 rw[hs];let(env,a,hf):=gA.mp c;exact gA.mpr (env,aW.mpr .inr[a],hf))
def Inv.locStk(I:Inv X aa σ H s)(hs:Stk X)(hf:Frm X):X.env.locals∈frs X.stack:=hs ▸ gA.mpr (X.env,aW.mpr .inl[rfl],hf)
def Inv.fly_made(I:Inv X aa σ H s)(O:Stk X)(L:Frm X)(Y:X.ex=[])(r:mR s.heap h' e cls S)(k:∀c:dI,Fly X.prog X.w X.outer X.H₀ X.s₀ H e cls { s with heap:=c }->R6 0 c e sy->Q u9 { s with heap:=c }):wpAny M X.A (leaving X.env .ref[e]) Q E { s with heap:=h' }:=by
 let J:∀env∈X.stack,∀a,env.frame=sr a->a∈frs X.stack:=λenv Z a ha=>gA.mpr (env,Z,ha);let st:(cY s.heap frs[X.stack]).StaysIn s.heap:=λb o q=>lL _ q;let N:s.heap.FunFrames (cY s.heap frs[X.stack]) X.stack:=oW I.stack J;let noex:∀b,b∉X.ex:=λb z=>by simp_all
 let N:s.heap.FunFrames (cY s.heap frs[X.stack]) (X.env::X.outer):=O ▸ N;refine Bix (s:={ s with heap:=h' }) (B:=cY s.heap frs[X.stack]) (h:=s.heap) (by rw[I.ok.frames,O]) L st N r λc t C cx y=>k c ?_ cx
 let y:h'.UpToSlots c:=y;let d:∀b o,s.heap.get? b=sr o->b∉frs X.stack->c.get? b=sr o:=λb o q n=>C.1 b o (eG _ q n);let p:∀b o,s.heap.get? b=sr o->b∈frs X.stack->∃G,c.get? b=sr { o with slots:=G }:=λb o q hb=>by
  let(_,g,P,U):=I.stack.mem hb;rw[q] at P;cases P;exact y b o (r.keeps b o q) U
 refine(I.os,I.bare,(λb o q n hb j=>?_,λb o q n hb j=>?_,λb o q n j=>I.base.free b o q n noex[b],λb o q j=>?_,I.base.tups,I.base.frzs,I.base.tbls),λa u q=>?_,?_,?_,?_)
 .exact d b o (I.base.keep b o q n hb noex[b]) (I.notStk q hb)
 .let(G,f):=I.base.slot b o q n hb noex[b];let(F,l):=p b _ f (I.fsStk O b hb);exact(F,l)
 .let(g,f):=I.base.there b o q noex[b];by_cases hb:b∈frs X.stack
  .let(G,l):=p b g f hb;exact(_,l)
  .exact(g,d b g f hb)
 .refine(I.hok a u q).stay (λb v hb z=>d b v z λm=>?_) (λj z=>z) λj j z=>z;let n:=I.stkFree b m;rcases hb with rfl|hb
  .rw[n] at q;cases q
  .rw[n] at hb;cases hb
 .cases q:X.s₀.heap.get? e with
  |none=>rfl
  |some o=>
   let(g,f):=I.base.there e o q noex[e];rw[r.new] at f;cases f
 .cases q:H e with
  |none=>rfl
  |some u=>
   let(g,f):=(I.hok e u q).there;rw[r.new] at f;cases f
 .refine(_,_,C,λb o q n hb=>eG[_][I.base.keep b o q n hb noex[b]][I.notStk q hb],λb o q hb=>?_,λa u o q z=>?_)
  .let(g,f):=I.base.there b o q noex[b];exact(g,eG _ f (I.notStk q hb))
  .let(ob,f):=(I.hok a u q).there;let l:=eG frs[X.stack] f λm=>by
    let n:=I.stkFree a m;rw[n] at q;cases q
   let T:=C.1 a ob l;let z:c.get? a=sr o:=z;rw[T] at z;cases z;exact l
def Inv.fly_on(I:Inv X aa σ H s)(P:Stk X)(N:Frm X)(hex:X.ex=[])(F:Fly X.prog X.w X.stack H s H' e cls p){o:o9[Nat×o9 aH]}(ox:okX o p.heap e)(k:∀c:dI,Fly X.prog X.w X.outer X.H₀ X.s₀ H' e cls { p with heap:=c }->okX o c e->Q u9 { p with heap:=c }):wpAny M X.A (leaving X.env .ref[e]) Q E p:=by
 let(B,a0,O,Y,U,L):=F.fly;let noex:∀b,b∉X.ex:=λb z=>by simp_all
 let C:=O;rw[P] at C;refine Biw (by rw[I.ok.frames,P]) N C ox λc j J Z=>k c ?_ J
 let y:∀b o,p.heap.get? b=sr o->b∈frs X.stack->∃G,c.get? b=sr { o with slots:=G }:=λb o q hb=>by
  let(_,h,T,nf):=O.2.2.1.mem hb;rw[q] at T;cases T;exact Z b o q nf
 refine(F.os.trans I.os,F.bare,(λb o q n hb l=>?_,λb o q n hb l=>?_,λb o q n l=>?_,λb o q l=>?_,λb S q=>F.un.tups b S (I.base.tups b S q),λb o u q=>F.un.frzs b o u (I.base.frzs b o u q),λb ps q=>?_),λa u q=>?_,?_,F.fre,?_)
 .exact j.1 b o Y[b][o][I.base.keep b o q n hb noex[b]][I.base.free b o q n noex[b]][I.notStk q hb]
 .let(G,d):=I.base.slot b o q n hb noex[b];let t:=I.fsStk P b hb;let(sl',g):=F.un.slot b _ d (I.base.free b o q n noex[b]) t ()
  let(m,r):=y b _ g t;exact(m,r)
 .let(h,d):=I.base.there b o q noex[b];exact F.un.free b h d (I.base.free b o q n noex[b]) ()
 .let(h,d):=I.base.there b o q noex[b];by_cases hb:b∈frs X.stack
  .let(_,f,g,_):=O.2.2.1.mem hb;let(G,r):=y b f g hb;exact(_,r)
  .let(f,g):=U b h d hb;exact(f,j.1 b f g)
 .let(m1,e1):=I.base.tbls b ps q;let(m2,e2):=F.un.tbls b _ e1;exact(m1 ++ m2,by simp_all)
 .refine(F.hok a u q).stay (λb v hb z=>?_) (λl z=>z) λl l z=>z;rcases hb with rfl|hb
  .exact j.1 b v (L b u v q z)
  .exact j.1 b v (L b _ v hb z)
 .cases q:X.s₀.heap.get? e with
  |none=>rfl
  |some o=>
   let(h,d):=I.base.there e o q noex[e];rw[F.new] at d;cases d
 .refine(B,a0,j,λb o q n hb=>Y[b][o][I.base.keep b o q n hb noex[b]][I.base.free b o q n noex[b]][I.notStk q hb],λb o q hb=>?_,λa u o q z=>?_)
  .let(h,d):=I.base.there b o q noex[b];exact U b h d (I.notStk q hb)
  .let(ob,d):=(F.hok a u q).there;let g:=L a u ob q d;let r:=j.1 a ob g;let z:c.get? a=sr o:=z;rw[r] at z;cases z;exact g
end
def Raises(X:Cx)(E:XK):Prop:=∀(aa:lg[aH×tu])(σ:St)(H:Hp)(s:aO)(e:aH)(cls:aF)(args:lg aF)(h':dI)(n:Nat),
 Inv X aa σ H s->mR s.heap h' e cls args->E cls sr[u6 n sy] H->X.xe .ref[e] { s with heap:=h' }
abbrev Ah8:lg aF:=[.type "ValueError",.type "Exception",.type "BaseException",.type "object"]
def unL{α:Type}:lg α->o9 (α×lg α)
 |a::l=>sr (u6 a l)
 |[]=>sy
def Pb{b:Type}{l:lg b}{p:b×lg b}(h:unL l=sr p):l=p.1::p.2:=by
 cases l <;> cases h
 rfl
def tkG{α β:Type}(o:o9 α)(d:β)(f:α->β):β:=match o with
 |some a=>f a
 |none=>d
def Mt{c b:Type}{p:b->Prop}{o:o9 c}{d:b}{f:c->b}(hd:p d)(h:∀a,o=sr a->p f[a]):p[tkG o d f]:=by
 cases o with
 |none=>exact hd
 |some a=>exact h a rfl
def Aj8{b:Type}{o:o9 b}{f:b->Bool}(h:tkG o t7 f=t8):∃a,o=sr a/\f a=t8:=by
 cases o with
 |none=>cases h
 |some a=>exact(a,rfl,h)
def Bna:aF->o9 String
 |.type n=>sr n
 |_=>sy
def Bnb:Data->o9 aBn
 |.cls c=>sr c
 |_=>sy
def Bnc:o9 aF->o9 String
 |some (.builtin n)=>sr n
 |_=>sy
def Bce{v:aF}{n:String}(h:Bna v=sr n):v=.type n:=by
 cases v <;> cases h
 rfl
def Bcf{v:Data}{n:aBn}(h:Bnb v=sr n):v=.cls n:=by
 cases v <;> cases h
 rfl
def Bcg{v:o9 aF}{n:String}(h:Bnc v=sr n):v=sr .builtin[n]:=by
 cases v with
 |none=>cases h
 |some v=>cases v <;> cases h;rfl
def six{c:Type}{l m:lg c}{a:c}(h:l.drop 4=a::m)(e:l.length=6):∃k0 i g f d,l=[k0,i,g,f,a,d]:=by
 rcases l with _|⟨k0,_|⟨i,_|⟨g,_|⟨f,l⟩⟩⟩⟩ <;> first|(cases h;done)|skip
 obtain rfl:l=a::m:=h;let(d,rfl):=List.length_eq_one_iff.mp (Nat.add_right_cancel (m:=5) e);exact(_,_,_,_,_,rfl)
def xiO(K:aB)(C:aH)(i:o9 aF):Bool:=tkG K.lookup[C] t7 λo=>tkG Bnb[o.data] t7 λc=>tkG unL[c.mro] t7 λm=>tkG unL[o.slots.toList.drop[4]] t7 λn=>
 decide[Bna o.cls=sr "type"]&&decide[m.1=.ref C]&&decide[Bnc n.1=sr "ValueError.__new__"]&&decide[o.slots.toList.length=6]&&!c.hasDel&&PySem.W.tailIn K Ah8 m.2&&PySem.W.nsOkIn K c.ns&&decide[bA K c.ns "__init__"=sr i]
inductive XO(h:dI)(C:aH)(i:Option aF):Prop
 |mk (tl:List aF) (N:aH) (nm:t6) (qn:_) (bs:_) (hdct:_) (sn:_) (sub:_) (ab:_) (col:_) (dd:_) (k0:_) (k1:_) (k2:_) (k3:_) (k5:_) (mN:_) (hC:h.get? C=sr (excClassObj nm qn C N bs tl hdct sn sub ab col dd k0 k1 k2 k3 k5 "ValueError.__new__")) (hN:h.Ns N mN) (hi:mN "__init__"=i) (T:aBt h Ah8 tl):XO h C i
def Apk{K:aB}{h:dI}{N:aH}{m:t6->o9 aF}{n:t6}{v:aF}(X:K.In h)(G:h.Ns N m)(e:bA K N n=sr sr[v]):m n=sr v:=by
 let(o,c,d,b,hd,_,hf):=G;unfold bA at e;split at e
 .rename_i q;let z:=X _ _ q;rw[b] at z;split at e
  .rw[<-hf];unfold nsFind findBy;simp_all
  simp_all
 trivial
def Aj9{K:aB}{h:dI}{C:aH}{i:o9 aF}(X:K.In h)(q:xiO K C i=t8):XO h C i:=by
 let((cl,H,J,j),F,q):=Aj8 q;let((t,bs,u,ns,qn,hd,g,sub,I,c,G),E,q):=Aj8 q;let((m,tl),b,q):=Aj8 q;let((n,n'),B,q):=Aj8 q;simp only[aL,dh,iC] at q;let(((((((s,r),p),o),f),k),e),d):=q;cases Bce s;cases Bcf E;let b:=Pb b;dsimp only at b f;subst b r f;obtain⟨l⟩:=j;let(k0,z,y,x,w,A):=six Pb[B] o;cases Bcg p;cases A;let a:h.Ns ns h.nsMap[ns]:=.of_isNs[PySem.W.isNs_of_in X e];refine(tl,ns,t,qn,bs,hd,g,sub,I,c,H,k0,z,y,x,w,_,X _ _ F,a,?_,PySem.W.tail_of_in X k);cases i with
 |none=>exact PySem.W.nsMap_none_of_in X e d
 |some v=>exact Apk X a d
def Biy(ta:TA)(C:aH)(E:XK):TS:=λuw σ H=>ta σ H λvs H1=>vs.length<=sizeLine/\∃n,E .ref[C] sr[u6 n sy] H1
abbrev We(K:aB)(C:aH):Prop:=xiO K C sy=t8
def Ed(CX:CXT)(X:Cx)(E:St->XK):Prop:=∀(aa:lg[aH×tu])(σ:St)(H:Hp)(s:aO)(e:aF)(s':aO),Inv X aa σ H s->CX X.stack H s E[σ] e s'->X.xe e s'
def Biz(sp:Sp)(dvs:lg V)(E:St->XK)(t:TA):TE:=λσ H Q=>t σ H λvs H1=>sp (vs ++ dvs) H1 Q E[σ]
def Amj{k:Nat}(F:Hw X.prog X.w X.K X.mg X.base CX k f fd ps C cm)(L:Fx k X.A cm)(S:Gl X x)(N:X.mg x=sr .ref[f])(P:cM X.K .ref[f]=t8)(U:Binds X.K fd ps y)(hd:Vals j y)(J:Ed CX X E)(Y:PA X (e::c) t)(i:(x==("__debug__":t6))=t7:=by decide)(T:starEach (e::c) X.env=(u6 t7 (eval e X.env))::starEach c X.env:=by rfl)(g:(backTo pos (starEach c X.env)).any (·.1)=t7:=by rfl):
  PE[X][.Call (.Name x p) (e::c) [] pos][Biz C j E t]:=by
 intro z s l H Q I h;refine eU[K9 I S N ?_ i];refine jG I.ok.mod.kin P (thn[Y pos z s l H _ I h] λm d ⟨vs,H1,I1,r,q⟩=>(I1.kIn,?_)) T g;let n:=r.append hd;let O:(m ++ y).length=ps.length:=n.length ▸ F.len _ _ _ _ q;refine jX[gQ[F.run X.A X.stack d H1 _ _ _ Q _ L I1.env0 (U d m I1.kIn O) n q] λr G o=>?_];cases r with
 |error e=>exact J z l H1 d e G I1 o
 |ok Z=>
  cases Z with
  |ret u=>exact I1.after o
  |next=>trivial
  |brk=>trivial
  |cont=>trivial
def Kz(a:aH)(cls:aF)(o:o9[Nat×o9 aH]):HO:=.ext λh=>(∃o vs,h.get? a=sr o/\o.cls=cls/\o.data=.fields vs)/\okX o h a
abbrev Cx.tryB(X:Cx)(pn:lg[aH×tu])(xe:aF->aO->Prop):Cx:={ X with pn:=pn,xe:=xe }
abbrev Cx.suite(X:Cx)(e:aH):Cx:={ X with A:=X.A.mark sr[.ref[e]],calm:=false,xe:=λuw uw=>False }
theorem Fx.mark{k:Nat}(r:Fx k A b):Fx k A.mark[v] t7:=(λz=>absurd z (),r.dp,r.un)
section
def Inv.tryIn(I:Inv X b a H s):Inv X.tryB[X.pn ++ b][xe] [] a H s:=(
 ((I.ok.mod,I.ok.kind,I.ok.glob,I.ok.blt,I.ok.above,I.ok.inj,I.ok.has,I.ok.cab,I.ok.hd,I.ok.frames,I.ok.stk,I.ok.exf,I.ok.bs,I.ok.bsz,I.ok.noex,I.ok.exfs,I.ok.funs,I.ok.frf),
 I.os,I.bare,I.base,I.loc,I.cell,I.free,I.freeC,λp hp=>I.pin p (by simp_all),I.hok,I.len))
def Inv.tryOut(I:Inv X.tryB[X.pn ++ c][xe] pins' b H s):Inv X c b H s:=(
 ((I.ok.mod,I.ok.kind,I.ok.glob,I.ok.blt,I.ok.above,I.ok.inj,I.ok.has,I.ok.cab,I.ok.hd,I.ok.frames,I.ok.stk,I.ok.exf,I.ok.bs,I.ok.bsz,I.ok.noex,I.ok.exfs,I.ok.funs,I.ok.frf),
 I.os,I.bare,I.base,I.loc,I.cell,I.free,I.freeC,λp hp=>I.pin p (cB _ hp),I.hok,I.len))
def Inv.suiteIn(I:Inv X c b H s)(e:aH):Inv X.suite[e] c b H s:=(
 ((I.ok.mod,I.ok.kind,I.ok.glob,I.ok.blt,I.ok.above,I.ok.inj,I.ok.has,I.ok.cab,λz=>Bool.noConfusion[z],I.ok.frames,I.ok.stk,I.ok.exf,I.ok.bs,I.ok.bsz,I.ok.noex,I.ok.exfs,I.ok.funs,I.ok.frf),
 I.os,I.bare,I.base,I.loc,I.cell,I.free,I.freeC,I.pin,I.hok,I.len))
def Inv.suiteOut(hd:X.calm=t8->X.A.handled=sy)(I:Inv X.suite[e] b a H s):Inv X b a H s:=(
 ((I.ok.mod,I.ok.kind,I.ok.glob,I.ok.blt,I.ok.above,I.ok.inj,I.ok.has,I.ok.cab,hd,I.ok.frames,I.ok.stk,I.ok.exf,I.ok.bs,I.ok.bsz,I.ok.noex,I.ok.exfs,I.ok.funs,I.ok.frf),
 I.os,I.bare,I.base,I.loc,I.cell,I.free,I.freeC,I.pin,I.hok,I.len))
def Inv.goes{i:Nat}{O:Nat}(I:Inv X aa r H s)(hN:X.N.Nodup)(hi:X.N[i]?=sr x)(Y:s.heap.Ns X.env.locals m)(Z:∀(j:Nat)(y:t6)(v:V),X.N[j]?=sr y->r[j]?=sr sr[v]->Vis X.env.scope y->∃u,RelV v u/\Look X.env s.heap m y u)(t:h'.Ns X.env.locals (λy=>if y=x then v else m y))(hs:gC X.env.locals s.heap h'):Inv X aa (r.set i sy) H { s with heap:=h',toks:=O }:=by
 let cne:=I.cne;let(oL,_,_,U,_):=id Y;let tracked:HOk X.prog X.w H h':=λb ob e=>by
  refine(I.hok b ob e).stay (λc E hc q=>(hs.2 c ?_).trans q) (λF q=>q) λF F q=>q;rintro rfl;rcases hc with rfl|hc
  .rw[I.free] at e;cases e
  .rw[I.free] at hc;cases hc
 let a:∀{b:aH} {o:tu},X.s₀.heap.get? b=sr o->b≠X.env.locals:=λe=>bR[aQ aZ[e] I.ok.above];refine(I.ok,I.os,I.bare,(λb o e n C h=>?_,λb o e n C h=>?_,I.base.free,λb o e h=>?_,I.base.tups,I.base.frzs,I.base.tbls),(_,t,λj y J g f e3=>?_),λy c e=>?_,I.free,I.freeC,λp hp=>?_,tracked,by simpa using I.len)
 .exact(hs.2 b a[e]).trans (I.base.keep b o e n C h)
 .let(P,g):=I.base.slot b o e n C h;exact(P,(hs.2 b a[e]).trans g)
 .let(S,g):=I.base.there b o e h;exact(S,(hs.2 b a[e]).trans g)
 .by_cases B:j=i
  .subst B;let A:j < r.length:=by
    by_cases G:j < r.length
    .exact G
    .rw[gO[by simpa using G]] at f;cases f
   rw[dH A] at f;cases f
  .rw[cW bN[B]] at f;let(L,Q,q):=Z j y J g f e3;refine(L,Q,?_);rcases q with ⟨k,e⟩|⟨k,c,e,z⟩
   .refine .inl (k,?_);have:y≠x:=λe=>B Aeq[hN][g][e ▸ hi];simp[this,e]
   .exact .inr (k,c,e,z.sameBut hs (cne y c e))
 .let(E,z):=I.cell y c e;exact(E,z.sameBut hs (cne y c e))
 .let(e,n,ne,T,d):=I.pin p hp;exact((hs.2 p.1 ne).trans e,n,ne,T,d)
def Inv.caught{o:o9[Nat×o9 aH]}(I:Inv X aa σ H s)(bf:Stk X)(Y:Frm X)(F:Fly X.prog X.w X.stack H s H' e cls E)(fl:jE B X.stack e cls a0 E.heap)(k1:∀b o,s.heap.get? b=sr o->H b=sy->b∉frs X.stack->B.get? b=sr o)(kE:∀b o,s.heap.get? b=sr o->b∉frs X.stack->∃l,B.get? b=sr l)(k2:∀a u o,H' a=sr u->E.heap.get? a=sr o->B.get? a=sr o)(c:jE B X.stack e cls a0 J)(sm:E.heap.UpToSlots J)(ox:okX o J e):
  Inv X aa σ upd[H'][e][Kz e cls o] { E with heap:=J }:=by
 let(hh,g,d,t,U):=E;obtain rfl:U=s.os:=F.os;let j:∀b o,hh.get? b=sr o->b∈frs X.stack->∃L,J.get? b=sr { o with slots:=L }:=λb o q hb=>by
  let(_,l,N,nf):=fl.2.2.1.mem hb;let N:hh.get? b=sr l:=N;rw[q] at N;cases N;exact sm b o q nf
 let G:∀b,b≠X.env.locals->b∉X.fs->b∉frs X.stack:=λb P y z=>(aW.mp[I.stkSub b z]).elim P y;let ne:∀{b:aH} {u:HO},H' b=sr u->b≠e:=λq=>Bm q F.fre;refine I.step (s:=s) (g':=g) (d':=d) (t':=t) (h':=J) (ch:=[]) (λA z=>nomatch z) (λb o P y A q n=>c.1 b o (k1 b o q n (G b P y))) (λb o A y A q n=>?_) (λb o A q n=>?_) (λb o A q=>?_)
  (λb xs q=>by let z:=F.un.tups b xs q;rwa [Aj ne[z]]) (λb o u q=>by let z:=F.un.frzs b o u q;rwa [Aj ne[z]]) (λb ps q=>?_) (λm hm=>?_) (λa u q=>?_) F.bare
 .let hb:=I.fsStk bf b y;let(L,T):=F.un.slot b o q n hb ()
  let(C,h):=j b _ T hb;exact(C,h)
 .rw[Aj (by rintro rfl;rw[F.new] at q;cases q)]
  exact F.un.free b o q n ()
 .by_cases hb:b∈frs X.stack
  .let(_,f,h,_):=fl.2.2.1.mem hb;let(L,q3):=j b f h hb;exact(_,q3)
  .let(f,h):=kE b o q hb;exact(f,c.1 b f h)
 .let(m,z):=F.un.tbls b ps q;exact(m,(Aj ne[z]) ▸ z)
 .let(o,es,ep,O,r):=hm;let hb:=I.locStk bf Y;let(L,T):=F.un.slot X.env.locals o O I.free hb ()
  let(C,h):=j X.env.locals _ T hb;exact(_,es,ep,h,r)
 .by_cases ha:a=e
  .subst ha;rw[Aq] at q;cases q;let(oe,vs,O,hc,hd,_):=c.first;refine(((oe,vs,O,hc,hd),ox),(oe,O),λP y p k=>?_);let((o,S,p1,p2,p3),p4):=p;refine((o,S,k o p1,p2,p3),λn od z=>?_);let(l,Q,z1,z2):=p4 n od z;exact(l,Q,k l z1,z2)
  .rw[Aj ha] at q;refine(F.hok a u q).stay (λb v hb z=>?_) (λb z=>(Aj ne[z]) ▸ z) λb xs z=>(Aj ne[z]) ▸ z;rcases hb with rfl|hb
   .exact c.1 b v (k2 b u v q z)
   .exact c.1 b v (k2 b _ v hb z)
end
section
def Aka(h:env'.frame=env.frame)(e:aF):noteFrame e env'=noteFrame e env:=by
 unfold noteFrame PySem.frameOf;rw[h]
def Arh{o:o9[Nat×o9 aH]}(f:o9 aH)(kB:B.StaysIn s.heap)(L:s.heap.FunFrames B l)(tr:s.heap.TracedAtW B e cls P X)(C:okX o s.heap e)(k:∀g,B.StaysIn g->g.FunFrames B l->g.TracedAtW B e cls P (f.elim .none λf=>rawInt f)->okX o g e->s.heap.UpToSlots g->Q u9 { s with heap:=g }):wpAny M A (setFlight .ref[e] f) Q E s:=by
 let(F,q,T,U,t,p,J,dt,j,H,d,m,dT,u):=tr;let x:3 < t.size:=(fG.mp u).1;generalize I:(f.elim .none λf=>rawInt f:aF)=v;let a:∀b,b≠T->(s.heap.update T (fV (·.setIfInBounds 3 v))).get? b=s.heap.get? b:=λb n=>bT _ _ bN[n];let c:∀b o,s.heap.get? b=sr o->(∀r,o.data≠.fields r)->b≠T:=λb o z n w=>by simp_all
 let y:=(a e bN[d]).trans p;unfold setFlight;refine aA[dJ p dt j ?_];rw[I];refine fU m dT x (k[_][λb o z=>(a b λw=>by grind).trans (kB b o z)][L.of_keeps λb o z n=>(o,(a b (c b o z n)).trans z,rfl)][?_][λn G z=>?_] λb o z n=>(o.slots,(a b (c b o z n)).trans z))
 .exact(F,q,T,_,_,y,J,dt,j,H,d,bW _ m fW[dC dT _],dC dT _,by simp_all)
 .let(i,h,O,N):=C n G z;exact(i,h,(a e bN[d]).trans O,N)
def Bhb{o:o9[Nat×o9 aH]}(fr:A.frames=sr (env::outer))(y:env.frame=sr L)(kB:B.StaysIn s.heap)(l:B.get? e=sy)(x:s.heap.FunFrames B (env::outer))(tr:s.heap.TracedAtW B e cls S v)(h:okX o s.heap e)(k:∀g,aDl B (env::outer) e cls S L g->okX o g e->s.heap.UpToSlots g->Q u9 { s with heap:=g }):wpAny M A (noteFrame .ref[e] env) Q E s:=by
 let(Z,C,T,oT,Y,f,(J,F),dt,r,I,j,u,dT,t):=id tr;subst J;unfold noteFrame;simp only[y];refine aA[dJ f dt r ?_];refine aA[dJ u dT t ?_];by_cases hf:(v==rawInt L)=t8
 .rw[di hf];obtain rfl:v=rawInt L:=by simpa using hf
  exact aG[k s.heap (kB,l,x,tr) h λb ob z X=>(ob.slots,z)]
 rw[dm hf];refine aA[fU u dT (fG.mp t).1 ?_];let a:∀b,b≠T->(s.heap.update T (fV (·.setIfInBounds 3 fY))).get? b=s.heap.get? b:=λb n=>bT _ _ bN[n];let c:∀b o,s.heap.get? b=sr o->(∀G,o.data≠.fields G)->b≠T:=λb o z n w=>by simp_all
 let m:(match o with|none=>1|some p=>p.1)=0->C[2]?=sr .none:=λz=>by
  cases o with
  |none=>cases z
  |some p=>
   let(i,d,q,P,m,_):=h p.1 p.2 rfl;simp_all
 refine Aw0 fr (x.of_keeps λb o z n=>(o,(a b (c b o z n)).trans z,rfl)) y ((a e bN[j]).trans f) (λb o z=>(a b λw=>by rw[w,I] at z;cases z).trans (kB b o z)) l dt (fG.mp r).1 F m λg N cx=>k g (N.1,l,N.2.1,N.2.2.1) (λn H z=>?_) λb o z n=>N.2.2.2 b o ((a b (c b o z n)).trans z) n
 subst z;let(i,d,q,P,m,O):=h n H rfl;rw[f] at q;cases q
 rwa [<-O]
end
def Bp5(X:Cx)(H:Hp)(e:aH)(cls:aF)(h:dI):Prop:=∃(B:dI)(a0 fl:aF),B.StaysIn h/\B.get? e=sy/\h.FunFrames B X.stack/\h.TracedAtW B e cls a0 fl/\
 (∀b o,X.s₀.heap.get? b=sr o->X.H₀ b=sy->b∉X.fs->B.get? b=sr o)/\(∀b o,X.s₀.heap.get? b=sr o->b∉X.fs->∃o',B.get? b=sr o')/\∀a u o,H a=sr u->h.get? a=sr o->B.get? a=sr o
def Xi(X:Cx)(E:St->XK):Prop:=∀(aa:lg[aH×tu])(σ:St)(H:Hp)(s:aO)(e:aH)(cls:aF)(o:o9[Nat×o9 aH]),Inv X aa σ H s->H e=sy->X.s₀.heap.get? e=sy->Bp5 X H e cls s.heap->okX o s.heap e->E σ cls o H->X.xe .ref[e] s
section
def Aw4{P:cD}{w:dW}{K:aB}{mg:t6->o9 aF}{base:dI}{N:lg t6}{qual:t6}{sc:gR}{f:aH}{Y:aF}{A:eQ}{outer:lg Env}{s₀:aO}{H₀:Hp}{E:XK}{X:Bool}:Xi[Aa8 (CXo P w) P w K mg base N qual sc f Y A outer s₀ H₀ E X] λg=>E:=(λaa σ H s e cls o I l k L ox q=>by
 let(B,a0,fl,kB,nB,U,tr,T,S,J):=L;let noex:∀b,b∉(Aa8 (CXo P w) P w K mg base N qual sc f Y A outer s₀ H₀ E X).ex:=λb z=>nomatch z;show wpAny _ _ (leaving ..) _ _ s;unfold leaving;refine aA[Bhb I.ok.frames rfl kB nB U tr ox λh1 d G x=>?_];refine Ae2 (s:={ s with heap:=h1 }) d.1 d.2.1 d.2.2.1 d.2.2.2 G λO c F t=>?_
 let sm:s.heap.UpToSlots O:=x.trans t;let m:∀b o,s.heap.get? b=sr o->b∈frs outer->∃C,O.get? b=sr { o with slots:=C }:=λb o q hb=>by
  let(_,j,Q,nf):=U.2.2.mem hb;rw[q] at Q;cases Q;exact sm b o q nf
 refine(e,cls,H,o,rfl,(I.os,I.bare,(λb o q n hb g=>c.1 b o (T b o q n hb),λb o q n hb g=>?_,λb o q n g=>I.base.free b o q n noex[b],λb o q g=>?_,I.base.tups,I.base.frzs,I.base.tbls),λa u q=>?_,k,l,B,a0,(c.1,c.2.1,c.2.2.1.2.2,c.2.2.2),λb o q n hb=>T b o q n hb,λb o q hb=>S b o q hb,λa u o q z=>?_),F,q)
 .let(C,h):=I.base.slot b o q n hb noex[b];let(y,i):=m b _ h hb;exact(y,i)
 .by_cases hb:b∈frs outer
  .let(j,h):=I.base.there b o q noex[b];let(C,i):=m b j h hb;exact(_,i)
  .let(j,h):=S b o q hb;exact(j,c.1 b j h)
 .refine(I.hok a u q).stay (λb v hb z=>?_) (λg z=>z) λg g z=>z;rcases hb with rfl|hb
  .exact c.1 b v (J b u v q z)
  .exact c.1 b v (J b _ v hb z)
 .let(ob,h):=(I.hok a u q).there;let i:=J a u ob q h;let q3:=c.1 a ob i;let z:O.get? a=sr o:=z;rw[q3] at z;cases z;exact i)
end
structure AtH(X:Cx)(aa:List (aH×tu))(σ:St)(H1 H2:Hp)(s1 s2:aO)(ea:aH)(cls:aF)(o:Option (Nat×Option aH))(h5:dI):Prop where
 I:Inv X aa σ H1 s1
 F:Fly X.prog X.w X.stack H1 s1 H2 ea cls s2
 K5:X.K.In h5
 bk:∀b o,X.base.get? b=sr o->h5.get? b=sr o
 LT:aAz (model X.prog X.w) h5 (typeOf (.ref ea)) cls
 go:∀{Q:Unit->aO->Prop} {E:aF->aO->Prop},(∀h6,Inv X aa σ (upd H2 ea (Kz ea cls o)) { s2 with heap:=h6 }->Q u9 { s2 with heap:=h6 })->wpAny (model X.prog X.w) (X.A.mark (sr (.ref ea))) (setFlight (.ref ea) sy) Q E { s2 with heap:=h5 }
def AtH.skip(a:AtH X s n H1 H2 p b f cls o d)(l:Gl X x)(k:X.mg x=sr .ref[C])(hd:(x==("__debug__":t6))=t7)(j:cU X.K cls .ref[C]=sr t7){Q:Flow->aO->Prop}(h:wpAny (model X.prog X.w) X.A (handleBy .ref[f] X.env rs) Q E { b with heap:=d }):
  wpAny (model X.prog X.w) X.A (handleBy .ref[f] X.env (.ExceptHandler sr[.Name x np] nm body hpos::rs)) Q E { b with heap:=d }:=(nG mH[fZ a.I.ok.kind l jB[a.I.ok.glob ▸ a.I.mod.glob.keeps a.bk][k][(pZ a.K5 a.LT j) _ _ _ _ (λi i e=>e) h] hd] (by intro q;cases q))
def AtH.take{i:Nat}(a:AtH X g T H1 r s1 Z j cls o h5)(hN:X.N.Nodup)(hi:X.N[i]?=sr n)(P:X.env.scope.names.lookup n=sr .local)(hg:Gl X x)(hm:X.mg x=sr .ref[C])(hd:(x==("__debug__":t6))=t7)(hx:cU X.K cls .ref[C]=sr t8)(hs:∀e,PSs X.suite[e] (B::suite) U)(q:U { nx:=λd r=>D.nx (d.set i sy) r,rt:=D.rt,bk:=λd r=>D.bk (d.set i sy) r,ct:=λd r=>D.ct (d.set i sy) r } (T.set i sr[.ref[j]]) upd[r][j][Kz j cls o]):
  wpAny (model X.prog X.w) X.A (handleBy .ref[j] X.env (.ExceptHandler sr[.Name x np] sr[n] (B::suite) hpos::rs)) (SP X g D) X.xe { Z with heap:=h5 }:=by
 let Q:X.env.kindOf n=sr .local:=P;let y:(X.env.scope.kind==.class||(X.env.scope.kind==.module&&X.env.locals != X.env.globals))=t7:=by rw[a.I.ok.kind];rfl
 refine nG mH[?_] (by intro q;cases q)
 refine fZ a.I.ok.kind hg jB[a.I.ok.glob ▸ a.I.mod.glob.keeps a.bk][hm][?_] hd;apply (pZ a.K5 a.LT hx) _ _ _ _ (λE E e=>e);show codeAny ..
 refine codeAny_handlers_suite_as[a.go λh6 I6=>?_];refine R0 I6 hN hi .inl[P] (v:=.ref j) rfl (λY I7=>?_) .inr[P];refine cX[hs j g Y _ _ _ I7.suiteIn[j] q][λf H G=>?_] λE E z=>z.elim;let out:∀{b:St} {c:Hp},Inv X.suite[j] g b c H->∀{Q':Flow->aO->Prop},(∀h,Inv X g (b.set i sy) c h->Q' f h)->
   wpAny (model X.prog X.w) X.A (do bindName X.env n .none;unbindBehindTheSuite X.env n hpos) (λE h=>Q' f h) X.xe H:=λ{b c} J {Q'} k=>by
  let J:Inv X g b c H:=J.suiteOut a.I.ok.hd;let(m,t,hl):=id J.loc;exact wpAny_nameGoes_keeps Q t y λh' v O L=>k _ (J.goes hN hi t hl O L)
 cases f with
 |next=>let(b,c,p,z):=G;exact out p (Q':=SP X g D) λh l=>(_,c,l,z)
 |brk=>let(b,c,p,z):=G;exact out p (Q':=SP X g D) λh l=>(_,c,l,z)
 |cont=>let(b,c,p,z):=G;exact out p (Q':=SP X g D) λh l=>(_,c,l,z)
 |ret u=>let(v,b,c,p,r8,z):=G;exact out p (Q':=SP X g D) λh l=>(v,_,c,l,r8,z)
def AtH.takeU(a:AtH X l m H1 H2 L p g cls o B)(y:Gl X x)(t:X.mg x=sr .ref[C])(hd:(x==("__debug__":t6))=t7)(s:cU X.K cls .ref[C]=sr t8)(hs:∀e,PSs X.suite[e] (h::suite) n)(q:n D m upd[H2][g][Kz g cls o]):
  wpAny (model X.prog X.w) X.A (handleBy .ref[g] X.env (.ExceptHandler sr[.Name x np] sy (h::suite) k::rs)) (SP X l D) X.xe { p with heap:=B }:=by
 refine nG mH[?_] (by intro q;cases q)
 refine fZ a.I.ok.kind y jB[a.I.ok.glob ▸ a.I.mod.glob.keeps a.bk][t][?_] hd;apply (pZ a.K5 a.LT s) _ _ _ _ (λj j e=>e);refine tW[a.go λN G=>?_];refine cX[hs g l _ _ _ _ G.suiteIn[g] q][λf J i=>?_] λj j z=>z.elim;cases f with
 |next=>let(b,d,c,z):=i;exact(_,d,c.suiteOut a.I.ok.hd,z)
 |brk=>let(b,d,c,z):=i;exact(_,d,c.suiteOut a.I.ok.hd,z)
 |cont=>let(b,d,c,z):=i;exact(_,d,c.suiteOut a.I.ok.hd,z)
 |ret u=>let(v,b,d,c,r,z):=i;exact(v,_,d,c.suiteOut a.I.ok.hd,r,z)
def Bnd(tb:(St->XK)->TS)(G:Ends->St->XK):TS:=λD σ H=>tb G[D] D σ H
def Ari{G:Ends->St->XK}{h0:nR}{hs:lg nR}(L:Stk X)(t:Frm X)(hb:∀(pn:lg[aH×tu])(xe:aF->aO->Prop)(E:St->XK),Ed[CXo X.prog X.w][X.tryB pn xe][E]->PSs (X.tryB pn xe) body tb[E])(hh:∀{C:lg[aH×tu]} {J:St} {H1 H2:Hp} {p s2:aO} {ea:aH} {cls:aF} {o:o9[Nat×o9 aH]} {h5:dI} {D:Ends},AtH X C J H1 H2 p s2 ea cls o h5->G D J cls o H2->wpAny (model X.prog X.w) X.A (handleBy .ref[ea] X.env (h0::hs)) (SP X C D) X.xe { s2 with heap:=h5 }):
  PS[X][.Try body (h0::hs) [] [] pos][Bnd tb G]:=by
 intro C s J H D I h;refine sX[cX[hb (X.pn ++ C) _ _ ?pass [] s J H D I.tryIn h][λf p q=>?_] λe p q=>q]
 case pass=>
  rintro T N H1 p e s2 g ⟨ea,cls,H2,o,rfl,F,ox,q⟩;let g:Inv X C N H1 p:=g.tryOut;let(B,a0,fl,k1,kE,k2):=F.fly;let x:=fl;rw[L] at x;refine Aw3 (by rw[g.ok.frames,L]) t x ox λh4 c Z S=>?_
  refine Ae2 c.1 c.2.1 c.2.2.1 c.2.2.2 Z λh5 d Y P=>?_;let y:∀b o,X.base.get? b=sr o->h5.get? b=sr o:=λb o e=>d.1 b o (k1 b o (g.bs b o e).1 (g.bs b o e).2 λm=>by
   let z:=(g.stack.mem m).1;rw[e] at z;cases z)
  refine hh (s2:=s2) (h5:=h5) (g,F,g.ok.mod.kin.keeps y,y,?_,λ{Q E} k=>?_) q
  .let(ob,ho,hc):=d.there;exact hc ▸ (yF ho).andThen .now
  .refine Ae2 (s:={ s2 with heap:=h5 }) d.1 d.2.1 d.2.2.1 d.2.2.2.at Y λh6 fl6 U O=>?_
   let i:=fl6;rw[<-L] at i;exact k h6 (g.caught L t F fl k1 kE k2 i S.trans[P.trans[O]] U)
 .cases f with
  |next=>let(a,n,l,z):=q;exact lX (a,n,l.tryOut,z)
  |brk=>let(a,n,l,z):=q;exact(a,n,l.tryOut,z)
  |cont=>let(a,n,l,z):=q;exact(a,n,l.tryOut,z)
  |ret u=>let(v,a,n,l,r8,z):=q;exact(v,a,n,l.tryOut,r8,z)
def Gx(cells:lg[t6×aH]):lg[t6×lZ]->lg[t6×aH]->lg (t6×aH)
 |[],acc=>acc
 |(n,k)::r,acc=>if (k==.free)=t8 then Gx cells r ((u6 n ((cells.lookup n).getD 0))::acc) else Gx cells r acc
def Ae3(h:∀x∈scope.names,x.2=.free->∃c,env.cells.lookup x.1=sr c):closureFor scope env=pure[Gx env.cells scope.names []]:=by
 let all:∀(l:lg[t6×lZ])(b:lg[t6×aH]),(∀x∈l,x.2=.free->∃c,env.cells.lookup x.1=sr c)->
   (forIn l b λ(x:t6×lZ) (r:lg (t6×aH))=>match x with
    |(name,kind)=>if (kind==cN)=t8 then do let a<-cellOf env name;pure[mC ((u6 name a)::r)] else pure mC[r])=pure[Gx env.cells l b]:=by
  intro l;induction l with
  |nil=>intro b _;rfl
  |cons y r m=>
   intro b i;let(n,k):=y;rw[uF];dsimp only;by_cases f:(k==cN)=t8
   .let(c,o):=i (u6 n k) aX beq_iff_eq.mp[f];let j:cellOf env n=pure c:=by unfold cellOf;rw[o]
    rw[di f,j];simp only[pure_bind];rw[m _ λx g=>i x (aR _ g)]
    conv=>rhs;unfold Gx
    rw[di f,o];rfl
   .rw[dm f];simp only[pure_bind];rw[m _ λx g=>i x (aR _ g)]
    conv=>rhs;unfold Gx
    rw[dm f]
 let q:=all scope.names [] h;unfold closureFor;dsimp only;rw[q];rfl
theorem Xj:∀(l:lg[t6×lZ])(a:lg[t6×aH])(x:t6)(c:aH),(∀y∈l,y.2=.free->∃c,cells.lookup y.1=sr c)->(Gx cells l a).lookup x=sr c->
  a.lookup x=sr c\/cells.lookup x=sr c
 |[],a,x,c,_,h=>.inl h
 |(n,k)::r,a,x,c,i,h=>by
  unfold Gx at h;by_cases j:(k==cN)=t8
  .rw[di j] at h;let(d,hd):=i (u6 n k) aX beq_iff_eq.mp[j];rcases Xj r _ x c (λy g=>i y (aR _ g)) h with q|q
   .rw[dF] at q;cases e:x==n with
    |true=>
     simp_all
    |false=>rw[e] at q;exact .inl q
   .exact .inr q
  .rw[dm j] at h;exact Xj r a x c (λy g=>i y (aR _ g)) h
theorem W2:∀(l:lg[t6×lZ])(a:lg[t6×aH])(x:t6),(∃c,a.lookup x=sr c)->∃c,(Gx cells l a).lookup x=sr c
 |[],a,x,h=>h
 |(n,k)::r,a,x,h=>by
  unfold Gx;by_cases f:(k==cN)=t8
  .rw[di f];apply W2 r _ x;rw[dF];cases e:x==n with
   |true=>exact(_,rfl)
   |false=>omega
  .exact(dm f) ▸ W2 r a x h
theorem P0:∀(l:lg[t6×lZ])(a:lg[t6×aH])(x:t6),(u6 x cN)∈l->∃c,(Gx cells l a).lookup x=sr c
 |(n,k)::r,a,x,h=>by
  unfold Gx;rcases aW.mp h with e|e
  .let(j,i):=Prod.mk.inj e;subst j;subst i;refine W2 r _ x ((cells.lookup x).getD 0,?_);simp
  .by_cases f:(k==cN)=t8
   .rw[di f];exact P0 r _ x e
   .rw[dm f];exact P0 r a x e
def Akb(i:∀y∈scope.names,y.2≠.cell)(h:(relabel scope env).names.lookup x=sr .cell\/(relabel scope env).names.lookup x=sr .free):(u6 x cN)∈scope.names:=by
 let go:∀(l:lg[t6×lZ])(k:lZ),(∀y∈l,y.2≠.cell)->k=.cell\/k=.free->
   (l.map λ(n,k)=>if (k==cN&&env.scope.kind==.function&&env.kindOf n==sr .cell) then (u6 n vN) else (u6 n k)).lookup x=sr k->(u6 x cN)∈l:=by
  intro l;induction l with
  |nil=>intro k _ _ h;simp at h
  |cons y r g=>
   intro k f hk h;let(n,a):=y;let d:a≠.cell:=f (u6 n a) aX;rw[cJ,dF] at h;dsimp only at h;by_cases b:(a==cN&&env.scope.kind==.function&&env.kindOf n==sr .cell)=t8
   .rw[di b] at h;dsimp only at h;cases e:x==n with
    |true=>
     let z:x=n:=beq_iff_eq.mp e;subst z;simp only[aL,beq_iff_eq] at b;exact b.1.1 ▸ aX
    |false=>
     rw[e] at h;exact aR _ (g k (λy c=>f y (aR _ c)) hk h)
   .rw[dm b] at h;dsimp only at h;cases e:x==n with
    |true=>
     let z:x=n:=beq_iff_eq.mp e;subst z;rw[e] at h;let h:a=k:=bY h;subst h;rcases hk with hk|hk
     .exact absurd hk d
     .exact hk ▸ aX
    |false=>
     rw[e] at h;exact aR _ (g k (λy c=>f y (aR _ c)) hk h)
 rcases h with h|h
 .exact go scope.names .cell i .inl[rfl] h
 .exact go scope.names .free i .inr[rfl] h
def Akc(h:scope.names.lookup x=sr .free):(relabel scope env).names.lookup x=sr .cell\/(relabel scope env).names.lookup x=sr .free:=by
 show jR x (scope.names.map λ(n,k)=>if (k==cN&&env.scope.kind==.function&&env.kindOf n==sr .cell) then (u6 n vN) else (u6 n k))=sr .cell\/jR x (scope.names.map λ(n,k)=>if (k==cN&&env.scope.kind==.function&&env.kindOf n==sr .cell) then (u6 n vN) else (u6 n k))=sr .free
 revert h;generalize scope.names=l;intro h;induction l with
 |nil=>simp at h
 |cons y r a=>
  let(n,c):=y;rw[cJ,dF];dsimp only;rw[dF] at h;by_cases b:(c==cN&&env.scope.kind==.function&&env.kindOf n==sr .cell)=t8
  .rw[di b];cases e:x==n with
   |true=>exact .inl rfl
   |false=>rw[e] at h;exact a h
  .rw[dm b];cases e:x==n with
   |true=>rw[e] at h;exact .inr h
   |false=>rw[e] at h;exact a h
def Cx.comp(X:Cx)(scope:gR)(own:lg t6)(cap:lg Nat)(C:aH)(s:aO)(H:Hp)(ex:lg aH):Cx where
 prog:=X.prog
 w:=X.w
 K:=X.K
 mg:=X.mg
 base:=X.base
 A:=X.A
 N:=own ++ cap.map λj=>X.N.getD j ""
 s₀:=s
 H₀:=H
 env:=compEnvC scope (Gx X.env.cells scope.names []) C X.env
 outer:=X.stack
 stack:=X.stack
 ex:=ex
 fn:=λuw=>t7
 calm:=X.calm
 pn:=[]
 xe:=λuw uw=>False
abbrev Cx.compX(X:Cx)(scope:gR)(own:lg t6)(cap:lg Nat)(C:aH)(s:aO)(H:Hp)(ex:lg aH)(xe:aF->aO->Prop):Cx:=(X.comp scope own cap C s H ex).wish xe
def PG.nox(h:PG X.nox d g):PG X d g:=(λf s b H v u Q I r q=>
 cX[h f s b H v u Q I.wish[_] r q][λ_ _ ⟨σ',H',I',q'⟩=>(σ',H',I'.unwish,q')] λc c z=>z.elim)
def Aua(own:lg t6)(cap:lg Nat)(σ:St):St:=cL own.length sy ++ cap.map λj=>σ.getD j sy
def PTs(X:Cx)(ifs:lg bO)(t:TT):Prop:=
 ∀(aa:lg[aH×tu])(s:aO)(σ:St)(H:Hp)(Q:Bool->Hp->Prop),Inv X aa σ H s->t σ H Q->
  wpAny (model X.prog X.w) X.A (forIn ifs t8 λc r=>if r=t8 then do let ok<-isTrue c X.env (eval c X.env);pure mC[ok] else pure mC[r]) (TP X aa σ Q) X.xe s
def PTs.nox(h:PTs X.nox a t):PTs X a t:=(λe s b H Q I q=>
 cX[h e s b H Q I.wish[_] q][λ_ _ ⟨H',I',q'⟩=>(H',I'.unwish,q')] λc c z=>z.elim)
def Akd:TT:=λuw H Q=>Q t8 H
section
def Ake(I:Nat->aO->Prop)(hN:∀e s,N e s->notedBy (model prog w) A env (λx L=>R .error[x] L) e s)(p:∀n s,I n s->wpAny (model prog w) A pyNext[J] (λr f=>match r with
   |none=>R .ok[.next] f
   |some v=>wpAny (model prog w) A (letOwnedTupleGo target J v) (λa d=>wpAny (model prog w) A (assign target env v) (λa j=>
     wpAny (model prog w) A (forIn C t8 λc r=>if r=t8 then do let ok<-isTrue c env (eval c env);pure mC[ok] else pure mC[r]) (λok b=>
      if ok=t8 then wpAny (model prog w) A (eval E env) (λx i=>
       wpAny (model prog w) A (call .builtin["list.append"] [F,x]) (λa g=>∃m,m < n/\I m g) N i) N b
      else ∃m,m < n/\I m b) N j) N d) N f) N s)(n:Nat)(h:I n s):codeAny (model prog w) A (.compLoop (.ListComp E [(target,H,C,0)] scope O) 0 J F env) R s:=by
 refine codeAny_loop rfl I (λn s P=>?_) n h;show wpAny _ A _ _ _ s;refine wpAny_noted cX[?_][λa a q=>q][hN];rw[compTurn_list];refine aA gZ[aA[cX[p n s P][λr f l=>?_] λa a z=>z]];cases r with
 |none=>exact aG l
 |some v=>
  refine aA[cX l (λa d o=>?_) λa a z=>z];refine aA[cX o (λa j y=>aA[cX y (λok b k=>?_) λa a z=>z]) λa a z=>z];cases ok with
  |false=>exact aG (rfl,k)
  |true=>
   exact aA aA[cX k (λx i u=>aA[cX u (λa g t=>aG[aG (rfl,t)]) λa a z=>z]) λa a z=>z]
end
def Ah9(J:It)(g:TG)(tt:TT)(te:TE)(D:aH)(σ0:St)(H1:Hp)(Q:VK):Prop:=
 ∃W:Nat->Nat->lg V->St->Hp->Prop,(∃m,W 0 m [] σ0 (upd H1 D .lst[[]]))/\∀i m acc σ' H',W i m acc σ' H'->H' D=sr .lst[acc]->
  (J.stop i H'/\Q .ref[D] H')\/(J.go i H'/\∀x H'',J.yld i H' x H''->g x σ' H'' λσ2 H2=>tt σ2 H2 λb H3=>if b=t8 then te σ2 H3 λy H4=>
   H4 D=sr .lst[acc]/\acc.length < sizeLine/\∃m',m' < m/\W[i+1][m'][acc ++ [y]][σ2][upd H4 D .lst[acc ++ [y]]]
   else H3 D=sr .lst[acc]/\∃m',m' < m/\W (i+1) m' acc σ2 H3)
def Aia(wi:TI)(g:TG)(tt:TT)(te:TE)(own:lg t6)(cap:lg Nat):TE:=λσ H Q=>wi σ H λJ H1=>∀D,H1 D=sy->Ah9 J g tt te D (Aua own cap σ) H1 Q
theorem Ae4{h h' B g:dI}(k:∀L o,B.get? L=sy->h.get? L=sr o->g.get? L=sy/\h'.get? L=sr o):∀{l:lg Env},h.FunFrames B l->h'.FunFrames g l
 |[],_=>trivial
 |_::_,⟨a,⟨L,o,b,c,d,e⟩,r⟩=>(a,(L,o,b,(k L o c d).1,(k L o c d).2,e),Ae4 k r)
def Apl{X:Cx}{use:o9[aF->Sem Unit]}{Q':aF->aO->Prop}{aa U:lg[aH×tu]}{s3 s1 Q:aO}{σ σ1:St}{H3 H1:Hp}{E:St->XK}{scope:gR}{own:lg t6}{cap:lg Nat}{C D:aH}{fp:lg aH}{xe:aF->aO->Prop}{e:aF}(bf:Stk X)(hfs:Frm X)(hex:X.ex=[])(hp:Xi X E)(P:Inv X aa σ H3 s3)(i:Inv (X.compX scope own cap C s3 H3 fp xe) U σ1 H1 s1)(hcx:CXo X.prog X.w X.stack H1 s1 E[σ] e Q)(hch:∀b∈fp,(b∈X.ex\/X.s₀.heap.objs.size<=b)/\b≠X.env.locals/\(∀x c,X.env.cells.lookup x=sr c->c≠b)/\∀p∈X.pn ++ aa,p.1≠b)(l:∀b o,s3.heap.get? b=sr o->b≠C)(hxe:xe=notedBy[model X.prog X.w][X.A][compEnvC scope (Gx X.env.cells scope.names []) C X.env] λx s'=>compPost (model X.prog X.w) X.A X.xe use Q' .ref[D] C .error[x] s'):xe e Q:=by
 let(t,cls,H5,o,rfl,F,ox,q):=hcx;let(B,a0,fl,k1,kE,k2):=F.fly;rw[hxe];show wpAny _ _ (noteFrame .ref[t] _) _ _ Q;rw[Aka (env':=compEnvC scope (Gx X.env.cells scope.names []) C X.env) (env:=X.env) rfl];let r:=fl;rw[bf] at r;let frC:H1 C=sy:=i.free;let(m,(Z,es,ep,O,rC),_):=i.loc;let O:s1.heap.get? C=sr Z:=O;let hCs:C∉frs X.stack:=λz=>by
  let(_,o',f,_):=P.stack.mem z;exact l C o' f rfl
 let CB:B.get? C=sr Z:=k1 C Z O frC hCs;let nC:∀{b:aH},B.get? b=sy->b≠C:=λz w=>by grind
 let H5C:H5 C=sy:=F.un.free C Z O frC ()
 refine Bhb (by rw[P.ok.frames,bf]) hfs r.1 r.2.1 r.2.2.1 r.2.2.2.at ox λh4 d ox4 sm4=>?_
 let post:∃m,h4.Ns C m/\∀h',gC C h4 h'->∀j:Env,j.locals=C->wpAny (model X.prog X.w) X.A (passOn "comprehension.variables-let-go" .ref[t] j:Sem aF) (λuw uw=>False) X.xe { Q with heap:=h' }:=by
  refine(m,(Z,es,ep,d.1 C Z CB,rC),λh' hsb j uw=>?_);let st:∀b,b≠C->h'.get? b=h4.get? b:=λb n=>hsb.2 b n;let Y:∀{b:aH} {ob:tu},(cY B [C]).get? b=sr ob->B.get? b=sr ob/\b≠C:=λ{b ob} z=>(lL _ z,λw=>by
   rw[w,mQ [C] ()] at z;cases z)
  let nh:∀{b:aH},B.get? b=sy->(cY B [C]).get? b=sy:=λ{b} z=>by
   cases w:(cY B [C]).get? b with
   |none=>rfl
   |some ob=>rw[(Y w).1] at z;cases z
  let put:∀{b:aH} {ob:tu},B.get? b=sr ob->b≠C->(cY B [C]).get? b=sr ob:=λz n=>eG _ z (by simpa using n)
  let(oe,vs,T,oT,ts,q1,hc,dt,v1,nT,nTe,qT,dT,t3):=d.2.2.2;let tr':h'.TracedAtW (cY B [C]) t cls a0 rawInt[X.env.locals]:=(oe,vs,T,oT,ts,(st t nC[d.2.1]).trans q1,hc,dt,v1,nh nT,nTe,(st T nC[nT]).trans qT,dT,t3);let ff':h'.FunFrames (cY B [C]) X.stack:=bf ▸ Ae4 (λL ob f h=>(nh f,(st L nC[f]).trans h)) d.2.2.1;unfold PySem.passOn;refine aA (dJ (s:={ Q with heap:=h' }) ((st t nC[d.2.1]).trans q1) dt v1 ?_)
  rw[dm (show ¬ ((bJ T==fY)=t8) from by simp)]
  refine aA (Arh (s:={ Q with heap:=h' }) (o:=o) j.frame (λb ob z=>(st b (Y z).2).trans (d.1 b ob (Y z).1)) ff' tr' (λn od z=>?_) λg kg fg tg og smg=>uM ?_)
  .let(oe',vs',c1,c2):=ox4 n od z;exact(oe',vs',(st t nC[d.2.1]).trans c1,c2)
  let k:∀{b:aH} {ob:tu},B.get? b=sr ob->b≠C->g.get? b=sr ob:=λz n=>kg _ _ (put z n);let frm:∀{b:aH} {ob:tu},Q.heap.get? b=sr ob->b∈frs X.stack->∃sl,g.get? b=sr { ob with slots:=sl }:=λ{b ob} z hb=>by
   let(_,o',z',nf):=fl.2.2.1.mem hb;rw[z] at z';cases z';let(sl,f):=sm4 b ob z nf;let h:=(st b nC[(fl.2.2.1.mem hb).1]).trans f;let(sl',S):=smg b _ h nf;exact(sl',S)
  let I:∀{b:aH} {ob:tu},X.s₀.heap.get? b=sr ob->b∉fp:=λ{b ob} z hb=>by
   rcases(hch b hb).1 with w|w
   .rw[hex] at w;cases w
   .exact absurd[aQ aZ[z] w][eF _]
  let N:∀b,b∉X.ex:=λb z=>by rw[hex] at z;cases z
  let J:Inv X aa σ H5 { Q with heap:=g }:=by
   refine P.call' (ch:=fp) F.os.trans[i.os] (λb ob z n hb H=>?_,λb ob z n hb H=>?_,λb ob z n H=>?_,λb ob z H=>?_,λb xs z=>F.un.tups b xs (i.base.tups b xs z),λb ob u z=>F.un.frzs b ob u (i.base.frzs b ob u z),λb ps z=>?_) (λa u z=>?_) F.bare hch
   .exact k[k1 b ob (i.base.keep b ob z n hb H) (i.base.free b ob z n H) hb][l b ob z]
   .let(sl,f):=i.base.slot b ob z n hb H;let(sl2,h):=F.un.slot b _ f (i.base.free b ob z n H) hb ()
    let(sl3,S):=frm h hb;exact(sl3,S)
   .let(o',f):=i.base.there b ob z H;exact F.un.free b o' f (i.base.free b ob z n H) ()
   .by_cases hb:b∈frs X.stack
    .let(_,o'',h,_):=fl.2.2.1.mem hb;let(sl,S):=frm h hb;exact(_,S)
    .let(o',f):=i.base.there b ob z H;let(o'',h):=kE b o' f hb;exact(o'',k h (l b ob z))
   .let(m1,e1):=i.base.tbls b ps z;let(m2,e2):=F.un.tbls b _ e1;exact(m1 ++ m2,by rw[e2,vW])
   .refine(F.hok a u z).stay (λb v hb w=>?_) (λuw w=>w) λuw uw w=>w;rcases hb with rfl|hb
    .exact k (k2 b u v z w) (by rintro rfl;rw[H5C] at z;cases z)
    .exact k[k2 b _ v hb w][by grind]
  refine hp aa σ H5 _ t cls o J F.fre ?_ (_,a0,_,kg,nh d.2.1,fg,tg,λb ob z n hb=>?_,λb ob z hb=>?_,λa u ob z w=>?_) og q
  .cases z:X.s₀.heap.get? t with
   |none=>rfl
   |some ob=>
    let(o1,f):=P.base.there t ob z N[t];let(o2,h):=i.base.there t o1 f I[z];rw[F.new] at h;cases h
  .let f:=P.base.keep b ob z n hb N[b];let n1:=P.base.free b ob z n N[b];let hb':=P.notStk z hb;exact put[k1 b ob (i.base.keep b ob f n1 hb' I[z]) (i.base.free b ob f n1 I[z]) hb'][l b ob f]
  .let(o1,f):=P.base.there b ob z N[b];let(o2,h):=i.base.there b o1 f I[z];let(o3,S):=kE b o2 h (P.notStk z hb);exact(o3,put S (l b o1 f))
  .let(o1,f):=(F.hok a u z).there;let h:=k2 a u o1 z f;let na:a≠C:=by grind
   let w:g.get? a=sr ob:=w;rw[k h na] at w;cases w;exact put h na
 cases use <;> exact post
def Abb{cap:lg Nat}(hX:(∀c o H,¬ E σ c o H)\/(X.stack=X.env::X.outer/\X.env.frame=sr X.env.locals/\X.ex=[]/\Xi X E))(hc:X.calm=t8)(hE:X.env.scope=es)(hi:PI X tg U wi)(hg:∀C s H ex,PG (X.comp scope own cap C s H ex) tg g)(ht:∀C s H ex,PTs (X.comp scope own cap C s H ex) ifs tt)(he:∀C s H ex xe,Ed[CXo X.prog X.w][X.compX scope own cap C s H ex xe][λuw=>E σ]->PE (X.compX scope own cap C s H ex xe) elt te)(hcap:∀j∈cap,∃x,X.N[j]?=sr x/\scope.names.lookup x=sr .free)(au:scope.kind=.function:=by rfl)(ak:∀y∈scope.names,y.2≠.cell:=by decide)(aq:∀y∈scope.names,y.2=.local->scope.names.lookup y.1=sr .local:=by decide)(hfree':∀y∈scope.names,y.2=.free->(es.names.lookup y.1=sr .cell\/es.names.lookup y.1=sr .free):=by decide +kernel)(hs:∀x,foldedSetIterable U X.env x=pure x:=by intro _;rfl)(I:Inv X aa σ H s)(h:Aia wi g tt te own cap σ H Q)(fin:∀(D C:aH)(s6:aO)(H5:Hp)(m:t6->o9 aF),(∀h',gC C s6.heap h'->Inv X aa σ H5 { s6 with heap:=h' })->s6.heap.Ns C m->Ado X aa H5 C->Q .ref[D] H5->
   compPost (model X.prog X.w) X.A X.xe use Q' .ref[D] C .ok[.next] s6):
  wpAny (model X.prog X.w) X.A (comprehension (.ListComp elt [(tg,U,ifs,0)] scope pos) scope X.env p0 newList[[]] t7 (eval U X.env) use) Q' X.xe s:=by
 subst hE;let az:∀y∈scope.names,y.2=.free->(X.env.kindOf y.1=sr .cell\/X.env.kindOf y.1=sr .free):=hfree';let hfr:∀x∈scope.names,x.2=.free->∃c,X.env.cells.lookup x.1=sr c:=λx hx hk=>I.ok.has x.1 (az x hx hk);refine wpAny_comprehension_free (use:=use) rfl hs Ae3[hfr] au aq (thn[hi aa s σ H _ I h] λv s1 h1=>thn h1 λitv k h2=>?_);let(it,O,tn,J,H2,rfl,I2,T,st2,f2,q):=h2;let hD2:H2 k.heap.objs.size=sy:=I2.hok.fresh aN[_];let(W,(m0,w0),turn):=q k.heap.objs.size hD2;refine eO ?_;let l:=I2.lnew (ys:=[]) (its:=[]) (t':=k.toks) .nil cP[_];generalize hs3:({ k with heap:=k.heap.push { cls:=.type "list",data:=.seq ([]:lg aF).toArray } }:aO)=t at l ⊢
 let fp3:∀b∈O,∃o,t.heap.get? b=sr o/\∀v,o.data≠.cell v:=λb hb=>by
  let(o,e,d):=T.obj _ _ st2 b hb;exact(o,by rw[<-hs3];exact aC _ e,d)
 let st3:tn 0 t.heap:=T.keep _ _ _ st2 λb uw o e=>by rw[<-hs3];exact aC _ e
 let hDl:k.heap.objs.size < t.heap.objs.size:=by rw[<-hs3];simp[fP]
 let fpD:∀b∈O,b≠k.heap.objs.size:=λb hb z=>by
  let(o,e,_):=T.obj _ _ st2 b hb;exact absurd aZ[e] (by rw[z];exact eF _)
 refine uN ak (by intro y hy;simp at hy) (λh₁ Z Y=>?_) au
 generalize hC:t.heap.objs.size=C at Z Y hDl ⊢
 let old:∀b o,t.heap.get? b=sr o->h₁.get? b=sr o:=λb o e=>Y.extBut b o (by rw[<-hC];exact bR aZ[e]) (aC _ e)
 let ltC:∀{b:aH} {o:tu},t.heap.get? b=sr o->b≠C:=λe=>by rw[<-hC];exact bR aZ[e]
 let cellIn:∀x c,(Gx X.env.cells scope.names []).lookup x=sr c->X.env.cells.lookup x=sr c:=λx c e=>by
  rcases Xj scope.names [] x c hfr e with z|z
  .simp at z
  .exact z
 obtain⟨xe,hxe⟩:∃xe,xe=notedBy[model X.prog X.w][X.A][compEnvC scope (Gx X.env.cells scope.names []) C X.env] λx s'=>compPost (model X.prog X.w) X.A X.xe use Q' .ref[k.heap.objs.size] C .error[x] s':=(_,rfl)
 let f:∀b∈O,Ado X aa (upd H2 k.heap.objs.size .lst[[]]) b:=λb hb=>(by rw[Aj[fpD b hb]];exact(f2 b hb).1,(f2 b hb).2)
 let I4:Inv (X.compX scope own cap C t (upd H2 k.heap.objs.size .lst[[]]) O xe) [] (Aua own cap σ) (upd H2 k.heap.objs.size .lst[[]]) { t with heap:=h₁,toks:=t.toks+([]:lg[t6×aF]).length }:=by
  refine((I.ok.mod,au,I.ok.glob,I.ok.blt,oR hC,λx y c h1 h2=>I.ok.inj x y c (cellIn x c h1) (cellIn y c h2),λx hx=>P0 _ _ x (Akb ak hx),λx c z=>absurd z (by show ¬ (t7=t8);decide),
   I.ok.hd,I.ok.frames,.inl rfl,λb hb=>(?_,λx c e=>(f b hb).2.2.2.2.1 x c (cellIn x c e)),l.bs,aD l.ok.bsz l.sz,λb o e hb=>?_,λb hb z=>?_,l.stack,l.stkFree),
   rfl,l.bare,Un.kept old,(_,Z,λi x v P S e3=>?_),λx c e=>?_,?_,λx c e=>l.freeC x c (cellIn x c e),λp hp=>absurd (show p∈([]:lg[aH×tu]) ++ [] from hp) (),l.hok.kept old,?_)
  .let(o,e,_):=fp3 b hb;exact ltC e
  .rcases(f b hb).2.2.2.1 with z|z
   .exact I.ok.noex b o e z
   .exact absurd aQ[aZ e][aD I.ok.bsz z] eF[_]
  .exact(aW.mp[l.stkSub b z]).elim (f b hb).2.1 (f b hb).2.2.1
  .
   let hlen:(cL own.length (sy:o9 V)).length=own.length:=eY;by_cases hi:i < own.length
   .let S:(cL own.length (sy:o9 V) ++ cap.map λj=>σ.getD j sy)[i]?=sr sr[v]:=S;rw[bD (by rw[hlen];exact hi),lC] at S
    split at S <;> cases S
   .let S:(cL own.length (sy:o9 V) ++ cap.map λj=>σ.getD j sy)[i]?=sr sr[v]:=S;let P:(own ++ cap.map λj=>X.N.getD j "")[i]?=sr x:=P;rw[bG (by rw[hlen];omega),bK,hlen] at S
    rw[bG (),bK] at P
    cases ej:cap[i - own.length]? with
    |none=>rw[ej] at P;cases P
    |some j=>
     rw[ej] at P S;let(y,hy,hf):=hcap j dX[ej];let P:X.N.getD j ""=x:=bY P;let S:σ.getD j sy=sr v:=bY S;rw[cA,hy] at P;let P:y=x:=P;subst P;let e2':σ[j]?=sr sr[v]:=by
      rw[cA] at S;cases z:σ[j]? with
      |none=>rw[z] at S;cases S
      |some o=>rw[z] at S;exact congrArg sr S
     let hmem:(u6 y cN)∈scope.names:=by
      exact gJ hf
     let(m,hn,hl):=l.loc;let hv:Vis X.env.scope y:=.inr[az _ hmem rfl];let(u,ru,lk):=hl j y v hy e2' hv;refine(u,ru,.inr (Akc hf,?_));rcases lk with ⟨k1,_⟩|⟨_,c,hcc,hz⟩
     .rcases az _ hmem rfl with k2|k2 <;> (let k2:X.env.kindOf y=_:=k2;rw[k1] at k2;cases k2)
     .let(c',hc'):=P0 (cells:=X.env.cells) scope.names [] y hmem;let ec:c=c':=bY hcc.symm.trans[cellIn y c' hc'];rw[<-ec] at hc';let(oc,ho,hd):=hz;exact(c,hc',oc,old c oc ho,hd)
  .let(v,o,ho,hd):=l.cell x c (cellIn x c e);exact(v,o,old c o ho,hd)
  .show upd H2 k.heap.objs.size .lst[[]] C=sy;rw[<-hC];exact l.hok.fresh aN[_]
  .show (cL own.length (sy:o9 V) ++ cap.map λj=>σ.getD j sy).length=(own ++ cap.map λj=>X.N.getD j "").length;simp
 let fpC:∀{G:Hp},(∀b∈O,G b=sy)->∀b∈O,Ado (X.compX scope own cap C t (upd H2 k.heap.objs.size .lst[[]]) O xe) [] G b:=λhn b hb=>
  (hn b hb,(by let(o,e,_):=fp3 b hb;exact ltC e),λz=>(aW.mp[l.stkSub b z]).elim (f b hb).2.1 (f b hb).2.2.1,.inl hb,λx c e=>(f b hb).2.2.2.2.1 x c (cellIn x c e),λp hp=>absurd (show p∈([]:lg[aH×tu]) ++ [] from hp) ())
 let hps:Ed[CXo X.prog X.w][X.compX scope own cap C t (upd H2 k.heap.objs.size .lst[[]]) O xe] λuw=>E σ:=by
  intro pins1 σ1 H1 s1 e s5 I1 hcx;rcases hX with hX|⟨bf,hfs,hex,hp⟩
  .let(_,_,_,_,_,_,_,q):=hcx;exact(hX _ _ _ q).elim
  exact Apl bf hfs hex hp l I1 hcx (λb hb=>((f b hb).2.2.2.1,(f b hb).2.1,(f b hb).2.2.2.2.1,(f b hb).2.2.2.2.2)) (λb o e=>ltC e) hxe
 let loop:codeAny (model X.prog X.w) X.A .compLoop[.ListComp elt [(tg,U,ifs,0)] scope pos][0][.ref it][.ref k.heap.objs.size][compEnvC scope (Gx X.env.cells scope.names []) C X.env]
   (compPost (model X.prog X.w) X.A X.xe use Q' .ref[k.heap.objs.size] C) { t with heap:=h₁,toks:=t.toks+([]:lg[t6×aF]).length }:=by
  refine Ake (N:=xe) (λn s'=>∃i L σ' G,Inv (X.compX scope own cap C t (upd H2 k.heap.objs.size .lst[[]]) O xe) [] σ' G s'/\tn i s'.heap/\(∀b∈O,G b=sy)/\G k.heap.objs.size=sr .lst[L]/\W i n L σ' G) (λe s h=>by rw[hxe] at h;exact h) ?_ m0
   (0,[],_,_,I4,T.keep _ _ _ st3 λb uw o e=>old b o e,λb hb=>(f b hb).1,Aq,w0)
  rintro n s5 ⟨i,L,σ5,H5,I5,st5,fr5,hD5,w5⟩;rcases turn i n L σ5 H5 w5 hD5 with ⟨stop,qn⟩|⟨go,step⟩
  .refine thn[T.done (X.compX scope own cap C t (upd H2 k.heap.objs.size .lst[[]]) O xe) rfl rfl rfl hc i [] s5 σ5 H5 _ I5 fpC[fr5] st5 stop] λr s6 ⟨hr,I6⟩=>?_;subst hr;let(m,hn,_):=id I6.loc;let hCs:X.s₀.heap.objs.size<=C:=by rw[<-hC];exact l.sz
   let ltS:∀{b:aH} {o:tu},t.heap.get? b=sr o->b≠C:=ltC;refine fin _ C s6 H5 m (λh' hsb=>?_) hn (I6.free,?_,?_,.inr hCs,?_,?_) qn
   rotate_left
   .let(_,(o,_,_,ho,_),_):=l.loc;exact(ltS ho).symm
   .intro z;let(o',P):=l.base.there C _ (l.ok.funs.mem z).2.choose_spec.1 (λw=>l.ok.exfs C w z)
    exact ltS P rfl
   .intro x c e;let(_,o,ho,_):=l.cell x c e;exact ltS ho
   .intro p hp;exact ltS (l.pin p hp).1
   let neC:∀{b:aH} {o:tu},t.heap.get? b=sr o->b≠C:=ltC;let B:=I6.base;refine l.call' (s':={ s6 with heap:=h' }) (ch:=O) I6.os (λb o e n hb hx=>?_,λb o e n hb hx=>?_,B.free,λb o e hx=>?_,B.tups,B.frzs,B.tbls) (λa u e=>?_) I6.bare λb hb=>((f b hb).2.2.2.1,(f b hb).2.1,(f b hb).2.2.2.2.1,(f b hb).2.2.2.2.2)
   .exact(hsb.2 b neC[e]).trans (B.keep b o e n hb hx)
   .let(sl,P):=B.slot b o e n hb hx;exact(sl,(hsb.2 b neC[e]).trans P)
   .let(o',P):=B.there b o e hx;exact(o',(hsb.2 b neC[e]).trans P)
   .refine(I6.hok a u e).stay (λb v hb z=>(hsb.2 b ?_).trans z) (λuw z=>z) λuw uw z=>z;rintro rfl;let f0:H5 b=sy:=I6.free;rcases hb with rfl|hb
    .rw[f0] at e;cases e
    .rw[f0] at hb;cases hb
  .refine thn[T.item (X.compX scope own cap C t (upd H2 k.heap.objs.size .lst[[]]) O xe) rfl rfl rfl hc i [] s5 σ5 H5 _ I5 fpC[fr5] st5 go] λr s6 ⟨u,hr,h6⟩=>?_;subst hr;refine thn h6 λ_ s7 ⟨x,H7,I7,r7,y7,st7,fr7⟩=>?_;let I7':=I7.pinned[fpC fr7][T.obj _ _ st7];refine thn[PG.nox (hg _ _ _ _) _ s7 σ5 H7 x u _ I7' r7 (step x H7 y7)] λ_ s8 ⟨σ8,H8,I8,q8⟩=>?_;refine thn[PTs.nox (ht _ _ _ _) _ s8 σ8 H8 _ I8 q8] λb s9 ⟨H9,I9,q9⟩=>?_;let again:∀{s':aO} {G:Hp} {acc':lg V} {m':Nat},Inv (X.compX scope own cap C t (upd H2 k.heap.objs.size .lst[[]]) O xe) ([] ++ Aes O s7.heap) σ8 G s'->G k.heap.objs.size=sr .lst[acc']->m' < n->W (i+1) m' acc' σ8 G->
     ∃m,m < n/\∃i L σ' G,Inv (X.compX scope own cap C t (upd H2 k.heap.objs.size .lst[[]]) O xe) [] σ' G s'/\tn i s'.heap/\(∀b∈O,G b=sy)/\G k.heap.objs.size=sr .lst[L]/\W i m L σ' G:=λ{s' G acc' m'} J hD hm hw=>by
    refine(m',hm,i+1,acc',σ8,G,J.unpinned,T.keep _ _ _ st7 λb hb o e=>(J.pin[u6 b o][bV _ bV[_][Ms hb e]]).1,λb hb=>?_,hD,hw);let(o,e,d):=T.obj _ _ st7 b hb;exact(J.pin[u6 b o][bV _ bV[_][Ms hb e]]).2.1
   cases b with
   |false=>
    rw[dm cV] at q9 ⊢
    let(hD9,m',hm,hw):=q9;exact again I9 hD9 hm hw
   |true=>
    rw[di rfl] at q9 ⊢
    refine thn[he _ _ _ _ _ hps _ s9 σ8 H9 _ I9 q9] λuy s10 ⟨y,H10,I10,r10,hD10,hl10,m',hm,hw⟩=>?_;refine thn (Ah4 (X:=X.compX scope own cap C t (upd H2 k.heap.objs.size .lst[[]]) O xe) _ s10 σ8 H10 .ref[k.heap.objs.size] [y] .ref[k.heap.objs.size] [uy]
     (λuw G=>G=upd H10 k.heap.objs.size .lst[L ++ [y]]) I10 rfl (.cons r10 .nil) (_,L,y,rfl,rfl,hD10,hl10,rfl)) λ_ s11 ⟨_,H11,I11,_,e11⟩=>?_
    subst e11;exact again I11 Aq hm hw
 exact codeAny_compStart_list loop (T.self _ 0 _ _ _ (T.keep _ _ _ st3 λb uw o e=>old b o e) loop)
def Bi0(wi:TI)(g:TG)(tt:TT)(te:(St->XK)->TE)(E:St->XK)(own:lg t6)(cap:lg Nat):TE:=λσ H Q=>wi σ H λJ H1=>∀D,H1 D=sy->Ah9 J g tt (te λuw=>E σ) D (Aua own cap σ) H1 Q
def Bch{cap:lg Nat}(A:X.calm=t8)(B:X.env.scope=l)(hi:PI X k c o)(v:∀C s H ex,PG (X.comp scope own cap C s H ex) k g)(t:∀C s H ex,PTs (X.comp scope own cap C s H ex) e p)(w:∀C s H ex,PE (X.comp scope own cap C s H ex) i q)(d:∀j∈cap,∃x,X.N[j]?=sr x/\scope.names.lookup x=sr .free)(F:scope.kind=.function:=by rfl)(L:∀y∈scope.names,y.2≠.cell:=by decide)(G:∀y∈scope.names,y.2=.local->scope.names.lookup y.1=sr .local:=by decide)(a:∀y∈scope.names,y.2=.free->(l.names.lookup y.1=sr .cell\/l.names.lookup y.1=sr .free):=by decide +kernel)(hs:∀x,foldedSetIterable c X.env x=pure x:=by intro _;rfl):
  PE[X][.ListComp i [(k,c,e,0)] scope pos][Aia o g p q own cap]:=(λU s S H Q I h=>Abb (E:=λb b b b=>False) (.inl λb b b z=>z) A B hi v t (λC s H ex xe b=>PE.nox[w C s H ex]) d F L G a hs I h λD C T P m J u b qn=>(m,u,λh' f=>(.ref D,P,J h' f,rfl,qn)))
def Bci{i:Nat}{cap:lg Nat}(hc:X.calm=t8)(hE:X.env.scope=es)(hi:PI X L d wi)(hg:∀C s H ex,PG (X.comp scope own cap C s H ex) L g)(ht:∀C s H ex,PTs (X.comp scope own cap C s H ex) w tt)(he:∀C s H ex,PE (X.comp scope own cap C s H ex) F te)(B:∀j∈cap,∃x,X.N[j]?=sr x/\scope.names.lookup x=sr .free)(au:scope.kind=.function)(ak:∀y∈scope.names,y.2≠.cell)(aq:∀y∈scope.names,y.2=.local->scope.names.lookup y.1=sr .local)(f:∀y∈scope.names,y.2=.free->(es.names.lookup y.1=sr .cell\/es.names.lookup y.1=sr .free))(hs:∀x,foldedSetIterable d X.env x=pure x)(hy:PG X (.Name y py) Xg[i])(Q:swapsWith (.ListComp F [(L,d,w,0)] scope P) sr[.Name y py] l.line X.env=pure t8):
  PS X .Assign[[.Name y py]][.ListComp F [(L,d,w,0)] scope P][l] Bic[Aia wi g tt te own cap][Xg i]:=by
 intro aa s σ H D I h;rw[exec_Assign_Name_used _ _ _ _ Q];refine aA gZ[aA[?_]];refine aA (cX (Abb (Q':=λc s'=>SP X aa D .next s') (E:=λc c c c=>False) (.inl λc c c z=>z) hc hE hi hg ht (λC s H ex xe c=>PE.nox[he C s H ex]) B au ak aq f hs I h λD' C O H5 m J hn fp qn=>?_) (λc s' q=>aG aG[q]) λc c z=>z);let I6:Inv X aa σ H5 O:=J O.heap (rfl,λc c=>rfl);let(p,U,Y,A,S,rC):=id hn;let nc:∀v,p.data≠.cell v:=λv z=>by grind
 let I6p:=I6.pinned (fp:=[C]) (λb hb=>by obtain rfl:=aM.mp hb;exact fp) (λb hb=>by obtain rfl:=aM.mp hb;exact(p,A,nc))
 refine thn[hy _ O σ H5 .ref[D'] .ref[D'] _ I6p rfl qn] λ_ n ⟨σ7,H7,k,q7⟩=>?_;let pC:=k.pin[u6 C p][bV _ bV[_][Ms aM.mpr[rfl] A]];let T:n.heap.get? C=sr p:=pC.1;let k:=k.unpinned;refine(m,(p,U,Y,T,S,rC),λh' e=>(σ7,H7,?_,q7));let t:∀{b:aH} {u:HO},H7 b=sr u->b≠C:=λq=>Bm q pC.2.1;refine k.step (s:=n) (g':=n.gens) (d':=n.drawn) (t':=n.toks) (h':=h') (ch:=[C]) (λb hb=>by obtain rfl:=aM.mp hb;exact(fp.2.2.2.1,fp.2.1,fp.2.2.2.2.1,fp.2.2.2.2.2))
  (λb o c c hb q c=>(e.2 b (λz=>hb aM.mpr[z])).trans q) (λb o c c hb q c=>(o.slots,(e.2 b (λz=>hb aM.mpr[z])).trans q)) (λc c c c q=>q)
  (λb o hb q=>(o,(e.2 b (λz=>hb aM.mpr[z])).trans q)) (λc c q=>q) (λc c c q=>q) (λb ps q=>(#[],lM ▸ q)) (λm' hm=>?_) (λa u q=>?_) k.bare
 .let(o,e1,e2,ho,r):=hm;exact(o,e1,e2,(e.2 _ (λz=>fp.2.1 z.symm)).trans ho,r)
 .refine(k.hok a u q).stay (λb v hb z=>(e.2 b ?_).trans z) (λc z=>z) λc c z=>z;rcases hb with rfl|hb
  .exact t q
  .exact t hb
mutual
inductive DV(H:Hp):V->lD->Prop
 |non:DV H .non .none
 |bl (b:Bool):DV H (.bl b) (.bool b)
 |int (i:Int):DV H (.int i) (.int i)
 |str (x:t6):DV H (.str x) (.str x)
 |lst {a:aH} {vs:List V} {ds:List lD}:H a=sr (.lst vs)->DVs H vs ds->DV H (.ref a) (.list ds)
 |tup {a:aH} {vs:List V} {ds:List lD}:H a=sr (.tup vs)->DVs H vs ds->DV H (.ref a) (.tuple ds)
 |dct {a:aH}:H a=sr (.dK [])->DV H (.ref a) (.dict [])
inductive DVs(H:Hp):List V->List lD->Prop
 |nil:DVs H [] []
 |cons {v:V} {d:lD} {vs:List V} {ds:List lD}:DV H v d->DVs H vs ds->DVs H (v::vs) (d::ds)
end
section
variable{X:Cx}{aa:lg (aH×tu)}{σ:St}{H:Hp}{s:aO}
def DV.reads(I:Inv X aa σ H s){v:V}{d:lD}{u:aF}(h:DV H v d):RelV v u->∃a,Reads s.heap u d a:=(
 DV.rec (motive_1:=λv d _=>∀u,RelV v u->∃a,Reads s.heap u d a) (motive_2:=λk E _=>∀m,Vals k m->∃a,ReadsAll s.heap m E a)
  (λ_ r=>by cases r;exact(_,.none)) (λb _ r=>by cases r;exact(_,.bool b)) (λi _ r=>by let(t,rfl):=r;exact(_,.int i t)) (λx _ r=>by let(t,rfl):=r;exact(_,.str x t))
  (λh _ t _ r=>by
   cases r;let(_,j,n,f,e):=I.hok _ _ h;let(a,g):=t _ f;exact(_,.list e rfl rfl (by simpa using g)))
  (λh _ t _ r=>by
   cases r;let(_,j,f,o,e,c,n,d):=I.hok _ _ h;let(a,g):=t _ f;exact(_,.tuple e c d (by simpa using g)))
  (λh _ r=>by
   cases r;let(_,_,k,f,o,q,F,e,x,d,_,p,_):=I.hok _ _ h;cases f;let z:q.toList=[]:=by
    revert p;generalize q.toList=l;intro p;cases p;rfl
   exact(_,.dict e x.1 d (by rw[z];exact .nil) (by rw[z];exact .nil)))
  (λ_ r=>by cases r;exact(_,.nil))
  (λ_ _ y w _ r=>by
   cases r with
   |cons C B=>
    let(a,g):=y _ C;let(bs,A):=w _ B;exact(_,.cons g A)) h u)
end
structure W3(K:aB)(C:aH):Prop where
 cls:(sJ K C).isSome=t8
 ga:cF K (.ref C) "__getattribute__"=sr (sr (.builtin "BaseException.__getattribute__"))
 gn:cF K (.ref C) "__getattr__"=sr sy
 cl:cF K (.ref C) "__class__"=sr (sr (.builtin "object.__class__"))
 mb:mF K C (.type "BaseException")=sr t8
 mo:mF K C (.type "object")=sr t8
section
variable{prog:cD}{w:dW}{A:eQ}{E:aF->aO->Prop}{h:dI}{g:Array uK}{d:aBk}{t:Nat}{os:aBu}{a C:aH}{o:tu}{K:aB}
open PySem.W in
def Apm(i:K.In h)(j:W3 K C)(c:h.get? a=sr o)(e:o.cls=.ref C)(k:R .ok[.ret[.ref[C]]] (h,g,d,t,os)):
  codeAny (model prog w) A (.call .builtin["getset_descriptor.__get__"] ([.builtin "object.__class__",.ref a,.ref C],[])) R (h,g,d,t,os):=by
 let b:((h,g,d,t,os):aO).TypeIs .builtin["object.__class__"] "getset_descriptor":=pB;let f:Looks (model prog w) h (isSubtype .ref[C] .type[".".intercalate ("object.__class__".cutAt '.').dropLast]) t8:=by rw[F.owner_object_class];exact looks_mroIn i j.mo
 refine gB vO.plain F.entry_gs_get (vO.check _ _ _ _ _ _ _ _ b (F.args_gs_get _ _ _) ?_)
 repeat (any_goals (first|assumption|(with_reducible refine fK c ?_;rw[e])|with_reducible refine f.at ?_|wp_step))
 refine(lN _ (),iM F.entry_object_class ?_)
 repeat (any_goals (first|assumption|(with_reducible refine fK c ?_;rw[e])|wp_step))
open PySem.W in
def Xk(j:K.In h)(k:W3 K C)(b:h.get? a=sr o)(f:o.cls=.ref C)(c:Q u9 (h,g,d,t,os)):
  wpAny M A (checkBuiltinCall "BaseException.__getattribute__" ([.ref a,nameV],[])) Q E (h,g,d,t,os):=by
 let e:builtinKind "BaseException.__getattribute__"=sr .slot:=by decide +kernel
 let hsplit:splitId "BaseException.__getattribute__"=sr[u6 "BaseException" "__getattribute__"]:=by decide +kernel
 let i:Looks M h (isSubtype .ref[C] .type["BaseException"]) t8:=looks_mroIn j k.mb;let l:=F.args_bexc_ga .ref[a] nameV;simp only[checkBuiltinCall,e,hsplit];refine aA ?_
 .unfold isInstance
  repeat (first|(with_reducible refine fK b ?_;rw[f])|with_reducible refine i.at ?_|wp_step)
  exact c
open PySem.W in
def Akf{i:Tok}(e:K.In h)(f:W3 K C)(b:h.get? a=sr o)(c:o.cls=.ref C)(m:Q .done[.ret .ref[C]] (h,g,d,t,os)):
  wpAny (model prog w) A (jY.«object.__getattribute__» ([.ref a,.str "__class__" i],[])) Q E (h,g,d,t,os):=by
 let j:((h,g,d,t,os):aO).TypeIs .builtin["object.__class__"] "getset_descriptor":=pB;let l:Looks[model prog w][h][typeLookup .ref[C] "__class__"][sr .builtin["object.__class__"]]:=looks_findIn e f.cl;let q:=pB;let p:=vO.lookup;let n:=F.slot_gs_set.lookup
 repeat (any_goals (first|assumption|(with_reducible refine fK b ?_;rw[c])|with_reducible refine l.at ?_|wp_step))
 refine Apm e f b c ?_
 repeat (any_goals (first|assumption|wp_step))
open PySem.W in
def Aub{m:Tok}{c b:Bool}{Q:aF->aO->Prop}(e:K.In h)(f:W3 K C)(j:h.get? a=sr o)(k:o.cls=.ref C)(u:Q .ref[C] (h,g,d,t,os)):
  wpAny (model prog w) A (getAttrBy .ref[a] (.str "__class__" m) c b) Q E (h,g,d,t,os):=by
 let v:=oX.ga.bind .ref[a];let p:(b&&onTheHeap iV["BaseException.__getattribute__"])=t7:=by cases b <;> rfl
 let i:(iV "BaseException.__getattribute__"==iV "object.__getattribute__")=t7:=by decide +kernel
 let n:(onTheHeap bJ[C]&&iV "BaseException.__getattribute__"==iV "object.__getattribute__")=t7:=by rw[i];rfl
 let s:Looks[model prog w][h][typeLookup .ref[C] "__getattribute__"][sr .builtin["BaseException.__getattribute__"]]:=looks_findIn e f.ga;let r:Looks (model prog w) h (typeLookup .ref[C] "__getattr__") sy:=looks_findIn e f.gn
 repeat (any_goals (first|assumption|(with_reducible refine fK j ?_;rw[k])|(with_reducible first|refine s.at ?_|refine r.at ?_)|wp_step))
 refine gB oX.ga.plain yZ (Xk e f j k (Akf e f j k ?_))
 repeat (any_goals (first|assumption|wp_step))
open PySem.W in
def Amk{Q:o9 aF->aO->Prop}(e:K.In h)(f:W3 K C)(b:h.get? a=sr o)(c:o.cls=.ref C)(i:Q sr[.ref[C]] (h,g,d,t+1,os)):
  wpAny (model prog w) A (getAttr? .ref[a] "__class__") Q E (h,g,d,t,os):=by
 unfold getAttr? getAttrBy?
 repeat (any_goals (first|assumption|with_reducible apply Aub e f b c|wp_step))
open PySem.W in
set_option tactic.hygienic true in
theorem Aml(r:W3 K C):KitX K .ref[a] .ref[C] (λh=>∃o x,h.get? a=sr o/\o.cls=.ref C/\o.data=.fields x) where
 ty:=λ_ _ _ ⟨o,_,h1,h2,_⟩=>h2 ▸ (Looks.ld h1).andThen .now
 it:=λu u X u=>by
  let(m,b):=nP.mp r.cls;unfold clsIn at b;split at b
  .rename_i F B p c i;intro N J L H k q;unfold isType loadHead;exact aA[zW k[_][_][X _ _ i] aG[q]]
  .cases b
 ne:=λh tp I y n G X f=>by
  let(m,b):=nP.mp r.cls;refine jC.mpr λq=>?_;let e:C=tp:=aBa beq_iff_eq.mp[q];subst e;unfold clsIn at b;split at b
  .rename_i F B p c i;let z:=(X _ _ i).symm.trans f;cases z
  .cases b
 ca:=λ{_ _ _ _ _ s} X ⟨o,_,h1,h2,_⟩ k=>by let(h,g,d,t,os):=s;exact Amk X r h1 h2 k
end
inductive TyX(K:aB)(H:Hp):V->aF->Prop
 |of {x:V} {t:aF}:Aa7 K H x t->TyX K H x t
 |exc {a C:aH} {o:Option (Nat×Option aH)}:H a=sr (Kz a (.ref C) o)->W3 K C->TyX K H (.ref a) (.ref C)
section
variable{X:Cx}{aa:lg (aH×tu)}{σ:St}{H:Hp}{s:aO}
def Arj{o:o9[Nat×o9 aH]}(I:Inv X aa σ H s)(e:H a=sr[Kz a .ref[C] o]):∃o b,s.heap.get? a=sr o/\o.cls=.ref C/\o.data=.fields b:=by
 let(p,_,_):=(I.hok a _ e);exact p.1
def Abd:V->o9 aF
 |.ty n=>sr .type[n]
 |.ref a=>sr .ref[a]
 |_=>sy
def Amm(h:Abd c=sr a)(r:RelV c u):u=a:=by
 cases c <;> simp[Abd] at h <;> subst h <;> exact r
end
def Its(x:t6):It:=(λi uw=>i < x.cps.size,λi H v H'=>H'=H/\∃c,x.cps[i]?=sr c/\v=.str ⟨#[c]⟩,λi uw=>i=x.cps.size)
theorem Amn{P:cD}{w:dW}{K:aB}{S:bO}(a:aH)(ty:String)(x:t6)(t:Tok)(p:["enumerate","zip","dict_itemiterator","dict_reverseitemiterator","odict_iterator","itertools.zip_longest","itertools.pairwise"].contains ty=t7)(W:∀A:eQ,A.handled=sy->aDu P w A a [a] [a] x.cps.size SignAt[x] (λi h=>h.IsStrIter a ty x t i))(hself:∀(A:eQ)(i:Nat)(s:aO)(Q:aF->aO->Prop)(E:aF->aO->Prop),s.heap.IsStrIter a ty x t i->Q .ref[a] s->wpAny (model P w) A pyIter[.ref[a]] Q E s):
  Turn P w K S Its[x] [a] a (λi h=>h.IsStrIter a ty x t i) where
 mem:=by simp
 obj:=λi h st b f=>by
  let e:b=a:=by simpa using f
  subst e;let(o,e,c,d):=st;exact(o,e,λv z=>by rw[d] at z;cases z)
 keep:=λi h h' st k=>let ⟨o,e,r⟩:=st;(o,k a () o e,r)
 item:=by
  intro X B n hK y i O s N H E I hf st j;subst B n hK;let(L,J,Y,G,F,C):=hf a ()
  refine(W X.A I.ok.hd[y]).item i s _ _ j st λv h' l U g m=>?_;let(c,u,q,rfl):=U;let I1:Inv X O N H { s with heap:=h',toks:=l }:=I.turned (λb o f e=>m b o (by simpa using f) e) L J G F C
  let(o,e,T,d):=id g;exact(_,rfl,Arc (s:={ s with heap:=h',toks:=l }) e T d p (.str ⟨#[c]⟩,H,I1,(u,rfl),(rfl,c,q,rfl),g,λb f=>(hf b f).1))
 done:=by
  intro X B n hK y i O s N H E I hf st j;subst B n hK;let j:i=x.cps.size:=j;subst j;let(L,J,Y,G,F,C):=hf a ()
  refine(W X.A I.ok.hd[y]).done s _ _ st λh' l m=>(rfl,I.turned (λb o f e=>m b o (by simpa using f) e) L J G F C)
 self:=hself
def Bp6(ts:TE):TI:=λσ H R=>ts σ H λv H1=>∃x,v=.str x/\R Its[x] H1
def Bi1{X:Cx}{p e:bO}{j:TE}(y:PE X e j):PI X p e Bp6[j]:=by
 intro m s i H R I h;refine thn[y m s i H _ I h] λv c ⟨z,H1,I1,r1,q1⟩=>?_;let(x,rfl,q):=q1;let(t,rfl):=r1;let n:∀o,Inv X m i H1 { c with heap:=c.heap.push o }:=λo=>I1.kept (t':=c.toks) λb u e=>aC _ e
 let l:∀b∈[c.heap.objs.size],_:=λb B=>by
  let e:b=c.heap.objs.size:=by simpa using B
  subst e;exact I1.fpOk aN[_] I1.hok.fresh[aN[_]]
 cases k:x.cps.all (· < 128)
 .refine wpAny_pyIter_wide k (c.heap.objs.size,[c.heap.objs.size],_,_,H1,rfl,n _,Amn _ "str_iterator" x t () (λA d=>Walks.strWide d _ x t) (λa a a a a st h=>wpAny_pyIter_striter_wide st h),(_,aU _ rfl,rfl,rfl),l,q)
 .refine wpAny_pyIter_ascii k (c.heap.objs.size,[c.heap.objs.size],_,_,H1,rfl,n _,Amn _ "str_ascii_iterator" x t () (λA d=>Walks.strAscii d _ x t) (λa a a a a st h=>wpAny_pyIter_striter_ascii st h),(_,aU _ rfl,rfl,rfl),l,q)
structure Aw5(J:It)(xs:List V)(ok:Hp->Prop):Prop where
 go:∀i H,i < xs.length->ok H->J.go i H
 yld:∀i H x H',i < xs.length->J.yld i H x H'->ok H->H'=H/\xs[i]?=sr x
 stop:∀H,ok H->J.stop xs.length H
def Amo(S:Aw5 J d ok)(P:H1 D=sy)(n:St->Prop)(G:n q)(p:V->Bool)(f:V->V)(O:d.length<=sizeLine)(hok:∀c,ok[upd H1 D .lst[c]])(hs:∀(i:Nat)(x:V)(k:St)(c:lg V)(A:St->V->Hp->Prop)(B:St->Hp->Prop),d[i]?=sr x->n k->(∀a,n a->p x=t8->A a f[x] (upd H1 D .lst[c]))->(∀a,n a->p x=t7->B a (upd H1 D .lst[c]))->
   g x k (upd H1 D .lst[c]) λa N=>z a N λb v=>if b=t8 then C a v λy L=>A a y L else B a v)(F:Q[.ref D][upd H1 D .lst[(d.filter p).map f]]):
  Ah9 J g z C D q H1 Q:=by
 refine(λi m c k H=>m=d.length - i/\i<=d.length/\n k/\c=((d.take i).filter p).map f/\H=upd H1 D .lst[c],(d.length,(),cP _,G,(),rfl),?_)
 rintro i m c k H ⟨rfl,hi,E,o,rfl⟩ _;by_cases h:i < d.length
 .refine .inr (S.go i _ h hok[_],λx t y=>?_);let(rfl,s):=S.yld i _ x t h y hok[_];let l:c.length < sizeLine:=by
   grind
  refine hs i x k c _ _ s E (λa r hp=>(Aq,l,d.length - (i+1),(),rfl,h,r,?_,?_)) (λa r hp=>(Aq,d.length - (i+1),(),rfl,h,r,?_,rfl))
  .rw[o,yG p d i x s,di hp,dG];rfl
  .rw[Bbw]
  .rw[o,yG p d i x s,hp];simp
 .let e:i=d.length:=by omega
  subst e;rw[sY] at o;subst o;exact .inl (S.stop _ hok[_],F)
def Bi2(h:R t8 H):Akd σ H R:=h
def Amp(S:Aw5 J k ok)(t:H1 D=sy)(e:St->Prop)(v:e j)(f:V->V)(r:k.length<=sizeLine)(hok:∀b,ok[upd H1 D .lst[b]])(hs:∀(i:Nat)(x:V)(d:St)(b:lg V)(A:St->V->Hp->Prop)(R:St->Hp->Prop),k[i]?=sr x->e d->(∀a,e a->A a f[x] (upd H1 D .lst[b]))->(∀a m,p a m (λy z=>A a y z)->R a m)->g x d (upd H1 D .lst[b]) R)(C:Q[.ref D][upd H1 D .lst[k.map[f]]]):Ah9 J g Akd p D j H1 Q:=by
 apply Amo S t e v _ f r hok (λi x d b A B s l u n=>hs i x d b A _ s l (λa q=>u a q rfl) λa m h=>Bi2 Ami[h])
 .rw[jZ.mpr[λn n=>rfl]];omega
section
variable{X:Cx}
theorem Akg:∀{b:lg t6} {c:lg aF},Vals b.map[V.str] c->pN c b
 |[],_,h=>by cases h;exact .nil
 |y::r,_,h=>by
  cases h with
  |cons e d=>
   let(t,rfl):=e;exact .cons y t Akg[d]
end
structure Ng(K:aB)(mg:t6->Option aF)(x:t6)(st:cO)(ps:List t6)(f:aH)(fd:dN):Prop where
 fn:Fun K x x st f fd
 gl:mg x=sr (.ref f)
 bd:Binds K fd ps []
section
def Fun.okX{P:cD}{w:dW}{K:aB}{mg:t6->o9 aF}{base:dI}{i:Bool}{x qual:t6}{st:cO}{f:aH}{fd:dN}{N ps:lg t6}{k:Nat}{e:Sp}(F:Fun K x qual st f fd)(S:Hn N ps Am[st])(len:∀c H Q E,e c H Q E->c.length=ps.length)(hbody:∀(a:aF)(A:eQ)(outer:lg Env)(s:aO)(H:Hp)(c:lg V)(Q:VK)(E:XK),Fx k A.deeper[envOfC qual Am[st] s.heap.objs.size f a] i->e c H Q E->
   ∃t,PSs (Aa8 (CXo P w) P w K mg base N qual Am[st] f a A outer s H E i) Bc[st] t/\t { nx:=λu q=>Q .non q,rt:=Q } (start N c) H):Hw P w K mg base (CXo P w) (k+1) f fd ps e i:=by
 let(z,y,B,kV,o,v,C,a,ct,l,rfl,m,h):=F.ex;exact Bg9 m h S len λA outer s H c Q E n g=>hbody a A outer s H c Q E n g
def Ark:Ed[CXo P w][X][λuw=>E0]:=λ_ _ _ _ _ _ _ ⟨_,_,_,_,_,_,_,z⟩=>z.elim
end
section
variable{prog:cD}{w:dW}{A:eQ}{E:aF->aO->Prop}{s:aO}
def Bcj{T newId initId:String}{o p:jY}{a:lg aF}{k:lg[t6×aF]}{S:PySem.Spec}{Q Q₁:aF->aO->Prop}(i:TypeCalled T newId initId)(O:checkTypeCall T (a,k)=pure u9)(B:checkBuiltinCall newId (.type T::a,k)=pure u9)(z:entryFor table newId=sr o)(y:entryFor table initId=sr p)(g:aDv (o (.type T::a,k)) S)(h:S A.in1 (wants Q₁ E) s)(nx:∀obj b,Q₁ obj b->b.TypeIs obj T/\argsOk initId (obj::a,k)/\∃n,aDv (p (obj::a,k)) n/\n A.in1 wants[λr j=>r=.none/\Q obj j][E] b):
  wpAny (model prog w) A (call .type[T] a k) Q E s:=by
 let(c,tl,N):=i.mro;let L:=i.made;let J:=i.sub;let I:=i.notType;let H:=i.canCreate;refine jX[qC (show wpAny _ _ (callAny .type[T] _) .. from aG (lN _ (),iM wN ?_))]
 rw[vZ[uG T a k][units_type_call_type T a k]]
 repeat (any_goals (first|assumption|wp_step))
 refine gQ[gB i.plain z rW[B][g prog w A.in1 _ s h]] λr b d=>?_
 match r,d with
 |.error e,d=>exact d
 |.ok .next,d=>exact d.elim
 |.ok .brk,d=>exact d.elim
 |.ok .cont,d=>exact d.elim
 |.ok (.ret obj),d=>
  let(x,v,n,u,t):=nx _ _ d;let G:=i.init.lookup;let F:=i.init.bind obj
  repeat (any_goals (first|assumption|wp_step))
  refine gQ gB[i.init.plain][y][i.init.check _ _ _ _ _ _ _ _ x v (u prog w A.in1 _ b t)] λl j f=>?_
  match l,f with
  |.error e,f=>exact f
  |.ok .next,f=>exact f.elim
  |.ok .brk,f=>exact f.elim
  |.ok .cont,f=>exact f.elim
  |.ok (.ret r),f=>
   let(rfl,q):=f
   repeat (any_goals (first|assumption|wp_step))
def Bi3{T newId:String}{self a b:aF}(h:typeLookup .type[T] "__init__"=pure sr[.builtin["object.__init__"]])(g:Bind.madeBy .type[T]=pure sr[newId])(e:(sr newId != sr "object.__new__")=t8):
  aDv[jY.«object.__init__» ([self,a],[("start",b)])][λf R s=>s.TypeIs self T/\R .ok[.ret[.none]] s]:=by
 refine Meets.of_wp λprog w A R s ⟨hT,hq⟩=>?_
 repeat (any_goals (first|rfl|wp_step))
 exact(_,rfl,hq)
end
nonrec def Aw6(x:t6)(t u:Tok):
  aDv (jY.«enumerate.__new__» ([.type "enumerate",.str x t],[("start",.int 1 u)])) (λe R s=>
   R (.ok (.ret (.ref (s.heap.push { cls:=.type strIterType[x],data:=.fields #[.str x t,.int 0 0] }).objs.size))) { s with heap:=(s.heap.push { cls:=.type strIterType[x],data:=.fields #[.str x t,.int 0 0] }).push { cls:=.type "enumerate",data:=.fields #[.none,.bool t7,.ref s.heap.objs.size,rawInt 1,.none,.none] } }):=(
 .of_wp λprog w A R s h=>by
  let(hp,g,d,f,os):=s;let i:=sub_enumerate
  wp_walk
  refine wpAny_stack_any λst=>aG ?_;split
  .rename_i c _ _ _ _ _;cases (c==pH "enumerate") <;> (wp_walk using wO;exact(_,rfl,h))
  .wp_walk using wO
   exact(_,rfl,h))
section
variable{prog:cD}{w:dW}{A:eQ}{E:aF->aO->Prop}{s:aO}
def Bck{x:t6}{t u:Tok}{Q:aF->aO->Prop}(h:∀h':dI,IsEnum h' (s.heap.objs.size+1) s.heap.objs.size 1 .none->h'.IsStrIter s.heap.objs.size strIterType[x] x t 0->(∀b o,s.heap.get? b=sr o->h'.get? b=sr o)->Q .ref[s.heap.objs.size+1] { s with heap:=h' }):
  wpAny (model prog w) A (call .type["enumerate"] [.str x t] [("start",.int 1 u)]) Q E s:=by
 refine Bcj (Q₁:=λobj a=>a.TypeIs obj "enumerate"/\Q obj a) qZ (rfl) (by rfl') F.entry_enumerate_new F.entry_object_init (Aw6 x t u) ?_
  λobj a c=>(c.1,rfl,_,Bi3 qZ.init.lookup qZ.made (),c.1,rfl,c.2)
 let e:(s.heap.push { cls:=.type strIterType[x],data:=.fields #[.str x t,.int 0 0] }).objs.size=s.heap.objs.size+1:=fP ..
 let d:=aU (s.heap.push { cls:=.type strIterType[x],data:=.fields #[.str x t,.int 0 0] }) (o:={ cls:=.type "enumerate",data:=.fields #[.none,.bool t7,.ref s.heap.objs.size,rawInt 1,.none,.none] }) rfl;rw[e] at d;show _/\_;rw[e];exact((_,d,rfl),h _ d (_,aC _ (aU _ rfl),rfl,rfl) λb o q=>aC _ (aC _ q))
def Bcl{M:Model}{g:o8}{T:String}{x:Sem aF}{rest:lg[Bool×Sem aF]}{kws:lg[o9 t6×Sem aF]}{Q:aF->aO->Prop}(b:kws.all (·.1.isSome)=t8)(i:(((u6 t7 x)::rest).any (·.1)||kws.any (·.1.isNone))=t7)(h:wpAny M A (spliced ((u6 t7 x)::rest)) (λm j=>wpAny M A (evalAll (kws.map (·.2))) (λl e=>wpAny M A (call .type[T] m ((kws.filterMap (·.1)).zip l)) Q E e) E j) E s):
  wpAny M A (callWith g .type[T] [] ((u6 t7 x)::rest) kws) Q E s:=by
 unfold callWith;refine aA (eV (cX (evalArgs_kw (Q:=λa e=>wpAny M A (call .type[T] a.pos a.kw) Q E e) b h) (λa j q=>aA gZ[?_]) λf f q=>q));simp only[i];refine aA aG[?_];exact aA[cX q (λr e n=>aA eV[wpAny_point[aG[n]]]) λf f q=>q]
end
theorem Aw7{prog:cD}{w:dW}{A:eQ}{b:aH}{c:lg aH}{n:Nat}{P:Nat->aF->Prop}{St:Nat->dI->Prop}(D:Draws prog w A b c n P St):
  Draws prog w A b c (n+1) (λi v=>P (i - 1) v) (λi h=>1<=i/\St (i - 1) h) where
 live:=λi h st=>D.live _ _ st.2
 frame:=λi h h' st k=>(st.1,D.frame _ _ _ st.2 k)
 item:=λi s Q E hi st g=>by
  let(m,st):=st;refine D.item (i - 1) s Q E () st λx h' e j hs f=>g x h' e j ((),?_) f
  rw[show i+1 - 1=i - 1+1 by omega]
  exact hs
 done:=λs Q E st l=>D.done s Q E (by simpa using st.2) l
def Ite(x:t6):It:=(λi uw=>i < x.cps.size,λi H v H'=>∃c T,x.cps[i]?=sr c/\H T=sy/\v=.ref T/\H'=upd H T .tup[[.int[(i:Int)+1],.str ⟨#[c]⟩]],λi uw=>i=x.cps.size)
def Auc{e g T:aH}{k:Int}{y:V}{u:aF}{tk i:Nat}(I:Inv X B C H s)(hf:∀b∈[e,g],Ado X B H b)(x:s.heap.objs.size<=T)(p:T∉[e,g])(a:∀b o,b∉[e,g]->s.heap.get? b=sr o->A.get? b=sr o)(t:wG A T #[.int k i,u])(F:RelV y u):
  Inv X B C (upd H T .tup[[.int k,y]]) { s with heap:=A,toks:=tk }/\∀b∈[e,g],upd H T .tup[[.int k,y]] b=sy:=by
 let N:=hf e ()
 let L:=hf g ()
 let f:H T=sy:=I.hok.fresh x;let w:∀b u,H b=sr u->b∉[e,g]:=λb u q c=>by rw[(hf b c).1] at q;cases q
 let l:∀{b:aH} {o:tu},s.heap.get? b=sr o->b≠T:=λq=>bR[aQ aZ[q] x];refine(?_,λb c=>?_)
 .refine I.step (s:=s) (g':=s.gens) (d':=s.drawn) (ch:=[e,g]) (λb c=>?_) (λb o h h j q h=>a b o j q) (λb o h h j q h=>(o.slots,a b o j q)) (λb o h q n=>(Aj l[q]) ▸ n)
   (λb o j q=>(o,a b o j q)) (λb E q=>(Aj[Bm q f]) ▸ q) (λb o u q=>(Aj[Bm q f]) ▸ q) (λb ps q=>(#[],by rw[Aj[Bm q f],q];simp)) (λm J=>?_) (λb u q=>?_) I.bare
  .let z:=hf b c;exact(z.2.2.2.1,z.2.1,z.2.2.2.2.1,z.2.2.2.2.2)
  .let(o,O,P,G,r):=J;exact(o,O,P,a _ o (λc=>(hf _ c).2.1 rfl) G,r)
  .by_cases c:b=T
   .subst c;rw[Aq] at q;cases q;exact((show 2<=sizeLine by decide),_,.cons (i,rfl) (.cons F .nil),t)
   .rw[Aj c] at q;refine(I.hok b u q).stay (λd v hd z=>a d v ?_ z) (λd z=>(Aj[Bm z f]) ▸ z) λd E z=>(Aj[Bm z f]) ▸ z;rcases hd with rfl|hd
    .exact w d u q
    .exact w d _ hd
 .rw[Aj (by rintro rfl;exact p c)]
  exact(hf b c).1
def Aw8{e h:aH}{l:Nat}(I:Inv X j k H s)(hf:∀b∈[e,h],Ado X j H b)(c:∀b o,b∉[e,h]->s.heap.get? b=sr o->h'.get? b=sr o):Inv X j k H { s with heap:=h',toks:=l }:=by
 let i:∀b u,H b=sr u->b∉[e,h]:=λb u q g=>by rw[(hf b g).1] at q;cases q
 refine I.step (g':=s.gens) (d':=s.drawn) (ch:=[e,h]) (λb g=>?_) (λb o a a f q a=>c b o f q) (λb o a a f q a=>(o.slots,c b o f q)) (λb o a q n=>n)
  (λb o f q=>(o,c b o f q)) (λb A q=>q) (λb o u q=>q) (λb ps q=>(#[],by trivial)) (λm t=>?_) (λb u q=>?_) I.bare
 .let z:=hf b g;exact(z.2.2.2.1,z.2.1,z.2.2.2.2.1,z.2.2.2.2.2)
 .let(o,w,x,p,r):=t;exact(o,w,x,c _ o (λg=>(hf _ g).2.1 rfl) p,r)
 .refine(I.hok b u q).stay (λd v hd z=>c d v ?_ z) (λa z=>z) λa a z=>z;rcases hd with rfl|hd
  .exact i d u q
  .exact i d _ hd
theorem Aib{P:cD}{w:dW}{K:aB}{l:lg bO}{Y:Nat}{j:o8}(e d:aH)(ty:String)(x:t6)(t:Tok)(f:e≠d)(D:∀A:eQ,A.handled=sy->Draws P w A d [d] x.cps.size (λi v=>∃c u,x.cps[i]?=sr c/\v=.str ⟨#[c]⟩ u) (λi h=>h.IsStrIter d ty x t i)):
  Turn P w K (.Tuple l Y j) Ite[x] [e,d] e (λi h=>(∃a,IsEnum h e d ((i+1:Nat):Int) a)/\h.IsStrIter d ty x t i) where
 mem:=by simp
 obj:=λi h st b hb=>by
  let((a,g),o,B,L,hd):=st;rcases aW.mp hb with rfl|hb
  .exact(_,g,λv z=>by
    let z':yP _=uX v:=z;cases z')
  .obtain rfl:b=d:=by simpa using hb
   exact(o,B,λv z=>by rw[hd] at z;cases z)
 keep:=λi h h' st k=>by
  let((a,g),o,B,r):=st;exact((a,k e () _ g),o,k d () o B,r)
 item:=by
  intro X Q N hK L i aa s σ H E I hf st F;subst Q N hK;let W:=wQ (A:=X.A) Aw7[D X.A.in1 (show X.A.in1.handled=sy from I.ok.hd L)] e f (by simpa using f) ()
  let((a,g),hs):=st;refine W.item (i+1) s _ _ Nat.succ_lt_succ[F] ((a,g),gY cP[_],by simpa using hs) λT vals h' tk hv Z S hM O=>?_
  let(tk',xv,(c,u,m,rfl),rfl):=hv;let G:=W.apart _ _ _ hM;refine(_,rfl,W.go l Y j (i+1) T { s with heap:=h',toks:=tk } _ _ hM λh2 p C=>?_)
  let m:x.cps[i]?=sr c:=by simpa using m
  let(o,B,r):=S;let z:=Auc (y:=.str ⟨#[c]⟩) (k:=((i+1:Nat):Int)) (tk:=tk) I hf Z G (λb o hb q=>C b o hb (O b o hb q)) (o,C T o G B,r) (u,rfl);exact(.ref T,_,z.1,rfl,(c,T,m,I.hok.fresh Z,rfl,rfl),(p.1,by simpa using p.2.2),z.2)
 done:=by
  intro X Q N hK L i aa s σ H E I hf st F;subst Q N hK;let F:i=x.cps.size:=F;subst F;let W:=wQ (A:=X.A) Aw7[D X.A.in1 (show X.A.in1.handled=sy from I.ok.hd L)] e f (by simpa using f) ()
  let((a,g),hs):=st;exact W.done s _ _ ((a,g),gY cP[_],by simpa using hs) λh' tk O=>(rfl,Aw8 I hf O)
 self:=λJ J J J J st h=>by
  let((a,g),_):=st;exact wR g h
def Bne(K:aB)(a:aH):It:=(λi H=>∃xs x,SqL K H a xs/\xs[i]?=sr x,λi H v H'=>∃x T,(∀xs,SqL K H a xs->xs[i]?=sr x)/\H T=sy/\v=.ref T/\H'=upd H T .tup[[.int (i:Int),x]],λi H=>∃xs,SqL K H a xs/\xs.length<=i)
def Bnf(ts:TE):TI:=λσ H R=>ts σ H λv H1=>∃x,v=.str x/\R Ite[x] H1
def Bcm{X:Cx}{m:lg bO}{kt j:Nat}{i p f d c:o8}{e:bO}{J:TE}(hg:Gl X "enumerate")(hm:X.mg "enumerate"=sy)(he:PE X e J)(hs:starEach [e] X.env=[(t7,eval e X.env)]:=by rfl):
  PI[X][.Tuple m kt i][.Call (.Name "enumerate" p) [e] [(sr "start",.Constant .int[1] j d,c)] f][Bnf J]:=by
 intro B s E H R I h;let w:PA X [e] (Ard J Bin):=Xh he Aj1 hs;let hk:PK X [(sr "start",.Constant .int[1] j d,c)] (Ard tC[.int[1]] Bin):=Bb4 Awn λG G G G H Q I h=>wpAny_evalAll_nil ([],H,I,.nil,h);refine eU[Aa5 I hg hm boot_enumerate ?_];let l:=w f B s E H (λF C=>match F with|[v]=>(∃x,v=.str x/\R Ite[x] C)|_=>False) I h
 rw[hs] at l ⊢
 refine Bcl rfl rfl (thn l λus Y ⟨F,C,I1,r,q⟩=>thn[hk f B Y E C (λO g=>O=[.int 1]/\g=C) I1 (rfl,rfl)] λws a ⟨O,g,I2,rz,n,e2⟩=>?_);subst n e2;let(z,rfl,u,rfl):=vals1 rz
 match F,q,r with
 |[v],⟨x,hx,q⟩,r=>
  subst hx;let(y,rfl,t,rfl):=vals1 r;refine Bck λh' n o k1=>wR n ?_;let U:Inv X B E g { a with heap:=h' }:=I2.kept (t':=a.toks) k1
  let P:∀b∈[a.heap.objs.size+1,a.heap.objs.size],Ado X B g b:=λb hb=>by
   let k:a.heap.objs.size<=b:=by
    rcases aW.mp hb with rfl|hb
    .exact fM _
    .obtain rfl:b=_:=by simpa using hb
     exact aN _
   exact I2.fpOk k I2.hok.fresh[k]
  cases w:x.cps.all (· < 128)
  .rw[show strIterType x="str_iterator" from by unfold strIterType;rw[w];rfl] at o
   exact(_,[a.heap.objs.size+1,a.heap.objs.size],_,_,g,rfl,U,Aib _ _ "str_iterator" x t sZ[_] (λA L=>Draws.strWide L _ x t),((_,n),o),P,q)
  .rw[show strIterType x="str_ascii_iterator" from by unfold strIterType;rw[w];rfl] at o
   exact(_,[a.heap.objs.size+1,a.heap.objs.size],_,_,g,rfl,U,Aib _ _ "str_ascii_iterator" x t sZ[_] (λA L=>Draws.strAscii L _ x t),((_,n),o),P,q)
section
variable{X:Cx}
def Bi4:SlR X (λx lo hi H Q=>∃z,x=.str z/\z.length<=sizeLine/\Q .str[fH z lo hi] H):=by
 rintro o s d H x v f e lo hi h Q I m hs pl pu ⟨z,rfl,n,q⟩;let(t,rfl):=m;refine("str",_,PySem.F.slot_str_getitem.lookup,aAa ..,?_);let a:∀(l u:o9[Int×Tok]),f=partValue l->e=partValue u->lo=l.map (·.1)->hi=u.map (·.1)->wpAny (model X.prog X.w) X.A getItem[.str z t][.ref h] (EP X o d Q) X.xe s:=by
  rintro l u rfl rfl rfl rfl;exact wpAny_getItem_str_slice (l:=l) (u:=u) (st:=sy) hs rfl (post_val_or_str (aD (Txt.slice_le z (l.map (·.1)) (u.map (·.1))) n,λg k=>(.str _,H,I.tok k,(g,rfl),q)))
 cases pl with
 |none=>cases pu with
  |none=>exact a sy sy rfl rfl rfl rfl
  |int j b=>exact a sy sr[u6 j b] rfl rfl rfl rfl
 |int i c=>cases pu with
  |none=>exact a sr[u6 i c] sy rfl rfl rfl rfl
  |int j b=>exact a sr[u6 i c] sr[u6 j b] rfl rfl rfl rfl
end
def Apn(sc:gR)(x:t6):Bool:=match sc.names.lookup x with
 |some .local=>t8
 |some .cell=>t8
 |some .free=>t8
 |_=>t7
def Apo(sc:gR)(x:t6):Bool:=match sc.names.lookup x with
 |some .local=>t8
 |some .cell=>t8
 |_=>t7
def Ae5(h:Apn sc x=t8):Vis sc x:=by
 unfold Apn at h;split at h
 .exact .inl ‹_›
 .exact .inr[.inl ‹_›]
 .exact .inr[.inr ‹_›]
 .cases h
def Aw9(h:Apo sc x=t8):Loc sc x:=by
 unfold Apo at h;split at h
 .exact .inl ‹_›
 .exact .inr ‹_›
 .cases h
section
def Aud(g:aB)(hK:X.K=g):Jv X .builtin["isinstance"] (λi H Q=>∃x c f t b,i=[x,c]/\TyX g H x t/\Abd c=sr f/\lB g t f=sr b/\Q .bl[b] H):=by
 subst hK;intro p s m H i w Q I r h;let(x,c,f,t,b,rfl,ty,o,l,q):=h;let(u,v,rfl,j,n):=vals2 r;obtain rfl:=Amm o n;let a:∀d,EP X p m Q .bool[b] { s with toks:=d }:=λd=>(.bl b,H,I.tok d,rfl,q)
 cases ty with
 |of ty=>exact At1 I j ty l a
 |exc e k=>
  cases j;exact fQ Aml[k] I.kIn (Arj I e) l (λz=>nomatch z) a
end
structure WE(X:Cx)(e:bO)(t:TE):Prop where
 un:PE X e t
structure WT(X:Cx)(e:bO)(t:TT):Prop where
 un:PT X e t
structure WW(X:Cx)(e:bO)(t:TT):Prop where
 un:PW X e t
structure WA(X:Cx)(es:List bO)(t:TA):Prop where
 un:PA X es t
structure WS(X:Cx)(st:cO)(t:TS):Prop where
 un:PS X st t
structure WSs(X:Cx)(sts:List cO)(t:TS):Prop where
 un:PSs X sts t
structure WG(X:Cx)(e:bO)(t:TG):Prop where
 un:PG X e t
structure WI(X:Cx)(tg e:bO)(t:TI):Prop where
 un:PI X tg e t
structure WTs(X:Cx)(es:List bO)(t:TT):Prop where
 un:PTs X es t
structure WO(X:Cx)(e:Option bO)(t:TO):Prop where
 un:PO X e t
structure WPs(X:Cx)(pos:o8)(ks:List (Option bO))(vs:List bO)(trs:List (TE×TE)):Prop where
 un:PPs X pos ks vs trs
section
variable{X:Cx}{x:t6}{pos pos' p aj cpos:o8}{a b c e o k v:bO}{es rest:lg bO}{sts:lg cO}{st:cO}{ta tb tc te to tl:TE}{t:TA}{tA tB':TT}{u u':TS}
def kv(i:Nat)(hN:X.N[i]?=sr x:=by rfl')(g:Apn X.env.scope x=t8:=by rfl')(hd:(x==("__debug__":t6))=t7:=by rfl')(d:(x==("__classdict__":t6))=t7:=by rfl'):
  WE X (.Name x pos) Bh9[i]:=(⟨Aer hN Ae5[g] hd d⟩)
def Bhc{v:V}{u:aF}(hm:X.mg x=sr u)(r:RelV v u)(hg:X.env.kindOf x=sr .globalImplicit:=by rfl')(hd:(x==("__debug__":t6))=t7:=by rfl'):WE X (.Name x pos) tC[v]:=⟨λuw uw uw H uw I h=>K9 I hg hm (v,H,I,r,h) hd⟩
def kop(ho:OpR X binaryOp[op] r)(ha:WE X a ta)(hb:WE X b tb):WE[X][.BinOp a op b pos][tOp r ta tb]:=⟨λaa s σ H Q I h=>wpAny_BinOp[Big ha.un hb.un I h λv u s2 x y H2 I2 rx ry q=>ho aa s2 σ H2 x y v u Q I2 rx ry q]⟩
def Bp7(q:WE X a ta)(n:WE X (.BoolOp .And (b::rest) pos) tb):WE[X][.BoolOp .And (a::b::rest) pos][Bml ta tb]:=(⟨by
  intro g s f H Q I h;refine BoolOp_and[thn[q.un g s f H _ I h] λv l ⟨x,H1,I1,r1,d⟩=>?_];let(c,rfl,d):=d;cases r1;apply gK;cases c with
  |true=>exact n.un g l f H1 Q I1 d
  |false=>exact(.bl t7,H1,I1,rfl,d)⟩)
def kor(q:WE X a ta)(n:WE X (.BoolOp .Or (b::rest) pos) tb):WE[X][.BoolOp .Or (a::b::rest) pos][Bpq ta tb]:=(⟨by
  intro g s f H Q I h;refine BoolOp_or[thn[q.un g s f H _ I h] λv l ⟨x,H1,I1,r1,d⟩=>?_];let(c,rfl,d):=d;cases r1;refine gK ?_;cases c with
  |false=>exact n.un g l f H1 Q I1 d
  |true=>exact(.bl t8,H1,I1,rfl,d)⟩)
def Bng(ha:WE X a ta):WE X (.BoolOp op [a] pos) ta:=⟨λaa s σ H Q I hw=>BoolOp_one[ha.un aa s σ H Q I hw]⟩
def knot(i:WE X a ta):WE X (.UnaryOp .Not a pos) Bmm[ta]:=(⟨by
  intro j s f H Q I h;refine UnaryOp_[thn[i.un j s f H _ I h] λv n ⟨x,H1,I1,r1,d⟩=>?_];let(c,rfl,d):=d;cases r1;exact not_of[gK (.bl[!c],H1,I1,rfl,d)]⟩)
def kif(n:WT X c tA)(r:WE X a ta)(q:WE X b tb):WE[X][.IfExp c a b pos][tIf tA ta tb]:=(⟨by
  intro g s f H Q I h;refine wpAny_IfExp[thn[n.un g s f H _ I h] λd i ⟨H1,I1,q1⟩=>?_];cases d with
  |true=>exact r.un g i f H1 Q I1 q1
  |false=>exact q.un g i f H1 Q I1 q1⟩)
def kix(hr:IxR X r)(ha:WE X a ta)(hb:WE X b tb)(hs:Ad1 b:=by exact λuw uw=>rfl):WE[X][.Subscript a b pos][tOp r ta tb]:=⟨λaa s σ H Q I h=>Subscript_[Big ha.un hb.un I h λv u s2 x y H2 I2 rx ry q=>hr a b aa s2 σ H2 x y v u Q I2 rx ry q (hs ..)]⟩
def Bp8(h:WA X es t):WE X (.List es pos) Bp3[t]:=(⟨by
  intro n s i H Q I m;refine wpAny_List_spliced[thn[h.un pos n s i H _ I m] λl d ⟨xs,H1,I1,r,z,q⟩=>(r.length ▸ z,?_)];let hf:H1 d.heap.objs.size=sy:=I1.hok.fresh aN[_];refine(.ref d.heap.objs.size,upd H1 d.heap.objs.size .lst[xs],I1.laid (t':=d.toks) (λb u e=>aC _ e) aN[_] ?_,rfl,q _ hf);exact(z,l,0,r,aU _ rfl)⟩)
def Bp9{j:Nat}(h:WA X es t):WE X (.Tuple es j pos) Bp2[t]:=(⟨by
  intro w s i H Q I n;refine wpAny_Tuple_spliced[thn[h.un pos w s i H _ I n] λm d ⟨xs,H1,I1,r,z,q⟩=>(r.length ▸ z,?_)];let hf:H1 d.heap.objs.size=sy:=I1.hok.fresh aN[_];refine(.ref d.heap.objs.size,upd H1 d.heap.objs.size .tup[xs],I1.laid (t':=d.toks) (λb u e=>aC _ e) aN[_] ?_,rfl,q _ hf);exact(z,m,r,(_,aU _ rfl,rfl,_,rfl))⟩)
def kbm{T:String}{name:t6}{id:String}{r:V->lg V->Hp->VK->Prop}(pa:PlainAttrs T)(slot:Slot T name id)(j:typeOf .builtin[id]=pure .type["method_descriptor"])(L:MtR X id r)(J:WE X o to)(O:WA X (e::es) t)(U:attributeBase o name X.env (eval o X.env)=eval o X.env:=by rfl')(g:((backTo cpos (starEach (e::es) X.env)).all (λx=>!x.1)&&(backToKw cpos (keywordEach [] X.env)).all (λx=>x.1.isSome)&&decide[(e::es).length+([]:lg iB).length+(if ([]:lg iB).isEmpty then 0 else 1) < 30])=t8:=by rfl')(Y:(aj.endLine==cpos.line)=t8:=by rfl')(N:starEach (e::es) X.env=(u6 t7 (eval e X.env))::starEach es X.env:=by rfl')(G:(backTo cpos (starEach es X.env)).any (·.1)=t7:=by rfl'):WE[X][.Call (.Attribute o name aj) (e::es) [] cpos][tBM X.K T r to t]:=by
 exact⟨by
   intro l s i H Q I h;refine wpAny_Call_method_late U g Y rfl (thn[J.un l s i H _ I h] λv B ⟨x,H1,I1,r1,ty,q1⟩=>?_);let(S,P):=Bis I1 r1 ty;refine(T,id,pa,slot,j,S,P,?_);let n:=O.un cpos l B i H1 _ I1 q1;rw[N] at n ⊢
   refine tX[by trivial][pU ?_]
   exact thn n λz A ⟨vs,H2,I2,r2,q2⟩=>L l A i H2 x vs v z Q I2 r1 r2 q2⟩
def Bcn(h:WE X e te):WO X sr[e] Bmz[te]:=(⟨by
  intro l s d H Q I j;rw[evalPart_some];refine thn[h.un l s d H _ I j] λu r ⟨x,H1,I1,r1,q1⟩=>?_;let(i,rfl,q):=q1;let(t,rfl):=r1;exact(sr i,H1,I1,.int i t,q)⟩)
def Bi5{r:V->o9 Int->o9 Int->Hp->VK->Prop}{lo hi:o9 bO}{tl n:TO}{y:o8}(N:SlR X r)(S:WE X e te)(O:WO X lo tl)(hu:WO X hi n):WE X .Subscript[e][.Slice lo hi sy y][pos] (tSl r te tl n):=(⟨by
  intro g s f H Q I h;refine Subscript_[thn[S.un g s f H _ I h] λv C ⟨x,H1,I1,r1,q1⟩=>?_];refine wpAny_Slice[thn[O.un g C f H1 _ I1 q1] λj B ⟨l,H2,I2,pl,q2⟩=>thn[hu.un g B f H2 _ I2 q2] λi d ⟨u,H3,I3,pu,q3⟩=>?_];rw[aBb];apply aG;let Z:Inv X g f H3 { d with heap:=d.heap.push { cls:=.type "slice",data:=.fields #[j,i,.none] } }:=I3.kept (t':=d.toks) λb ob q=>aC _ q
  let(T,id,U,L,P):=N g { d with heap:=d.heap.push { cls:=.type "slice",data:=.fields #[j,i,.none] } } f H3 x v j i l u d.heap.objs.size Q Z r1 (aDm ..) pl pu q3;show wpAny (model X.prog X.w) X.A (subscriptTail e (.Slice lo hi sy y) v .ref[d.heap.objs.size]) (EP X g f Q) X.xe { d with heap:=d.heap.push { cls:=.type "slice",data:=.fields #[j,i,.none] } }
  exact zZ (ops:=[.ref d.heap.objs.size,v]) L U P (rfl)⟩)
def Bco(E:WE X k ta)(B:WE X v tb)(C:WPs X pos A j f):WPs X pos (sr k::A) (v::j) ((u6 ta tb)::f):=(⟨λi s d H Q I h=>pairTrees_cons_walk (thn[E.un i s d H _ I h] λu m ⟨x,H1,I1,rx,q1⟩=>thn[B.un i m d H1 _ I1 q1] λS l ⟨y,H2,I2,ry,q2⟩=>
  thn[C.un i l d H2 _ I2 q2] λP T ⟨ps,H3,I3,rel,q3⟩=>((u6 x y)::ps,H3,I3,.cons (rx,ry) rel,q3))⟩)
def Bqa(q:WT X a tA)(n:WW X (.BoolOp .And (b::rest) pos) tB'):WW[X][.BoolOp .And (a::b::rest) pos][Bpp tA tB']:=(⟨by
  intro l g s d H Q I h;refine isTrue_and[thn[q.un g s d H _ I h] λc m ⟨H1,I1,q1⟩=>?_];cases c with
  |true=>exact n.un l g m d H1 Q I1 q1
  |false=>exact(H1,I1,q1)⟩)
def tor(q:WT X a tA)(n:WW X (.BoolOp .Or (b::rest) pos) tB'):WW[X][.BoolOp .Or (a::b::rest) pos][tOr tA tB']:=(⟨by
  intro l g s d H Q I h;refine isTrue_or[thn[q.un g s d H _ I h] λc m ⟨H1,I1,q1⟩=>?_];cases c with
  |true=>exact(H1,I1,q1)
  |false=>exact n.un l g m d H1 Q I1 q1⟩)
def Bnh(f:WT X a tA):WW X (.BoolOp .And [a] pos) tA:=(⟨by
  intro i g s d H Q I h;refine isTrue_and[thn[f.un g s d H Q I h] λc j e=>?_];cases c with
  |true=>exact isTrue_and_nil e
  |false=>exact e⟩)
def Bqb(f:WT X a tA):WW X (.BoolOp .Or [a] pos) tA:=(⟨by
  intro i g s d H Q I h;refine isTrue_or[thn[f.un g s d H Q I h] λc j e=>?_];cases c with
  |false=>exact isTrue_or_nil e
  |true=>exact e⟩)
def tw(h:WW X a tA):WT X a tA:=⟨h.un _⟩
def kbi{id:String}{r:lg V->Hp->VK->Prop}(G:Jv X .builtin[id] r)(C:X.mg x=sy)(A:bootBuiltins x=sr .builtin[id])(J:WA X (e::es) t)(E:X.env.kindOf x=sr .globalImplicit:=by rfl')(B:decide[x=("__name__":t6)]=t7:=by rfl')(f:(x==("__debug__":t6))=t7:=by rfl')(F:starEach (e::es) X.env=(u6 t7 (eval e X.env))::starEach es X.env:=by rfl')(d:(backTo pos (starEach es X.env)).any (·.1)=t7:=by rfl'):
  WE[X][.Call (.Name x p) (e::es) [] pos][tCB r t]:=(⟨by
    intro l s i H Q I h;refine eU[Aa5 I E C A ?_ of_decide_eq_false[B] f];exact yH (thn[J.un pos l s i H _ I h] λq w ⟨vs,H1,I1,r1,q1⟩=>G l w i H1 vs q Q I1 r1 q1) F d⟩)
def Axa{i:Nat}(nd:decide X.N.Nodup=t8:=by rfl')(hi:X.N[i]?=sr x:=by rfl')(d:Apo X.env.scope x=t8:=by rfl')(hf:(X.fn x||decide[X.env.scope.names.lookup x=sr .local])=t8:=by rfl'):
  WG X (.Name x pos) Xg[i]:=(⟨λm s j H v u Q I r h=>wpAny_assign_Name[R0 I dg[nd] hi Aw9[d] r (λl g=>(_,H,g,h)) (by simp_all)]⟩)
def Bcp(n:X.mg "range"=sy)(y:WA X [a] t)(w:X.env.kindOf "range"=sr .globalImplicit:=by rfl')(hs:starEach [a] X.env=[(t7,eval a X.env)]:=by rfl'):WI X tg (.Call (.Name "range" p) [a] [] pos) Bmr[t]:=(⟨by
  intro z s g H R I h;refine Call_[Aa5 I w n boot_range mL[thn[y.un pos z s g H _ I h] λC F ⟨vs,H1,I1,r1,d⟩=>?_][hs][rfl]];let(j,e,d,m,q):=d;subst e;cases r1 with
  |cons r i=>
   cases i;let(t,rfl):=r;exact call_range_1[Awp I1 () () d m (by simpa using q)]⟩)
def Bcq:WTs X [] Akd:=⟨λuw uw uw H uw I h=>wpAny_tests_nil (H,I,h)⟩
abbrev CcA(X:Cx)(cap:lg Nat)(scope:gR):Prop:=cap.all[λj=>match X.N[j]? with|some x=>decide[scope.names.lookup x=sr .free]|none=>t7]=t8
abbrev CcN(scope:gR):Prop:=scope.names.all[λy=>!decide (y.2=.local)||decide[scope.names.lookup y.1=sr .local]]=t8
abbrev CcF(scope sc:gR):Prop:=scope.names.all[λy=>!decide (y.2=.free)||(decide[sc.names.lookup y.1=sr .cell]||decide[sc.names.lookup y.1=sr .free])]=t8
def Bi6{r d A:bO}{i:lg bO}{scope:gR}{G:TI}{g:TG}{L:TT}{te:(St->XK)->TE}{E:St->XK}{own:lg t6}{cap:lg Nat}{sc:gR}(hX:Stk X/\Frm X/\X.ex=[]/\Xi X E)(hc:X.calm=t8)(hE:X.env.scope=sc)(hi:WI X A d G)(Y:∀C s H ex,WG (X.comp scope own cap C s H ex) A g)(S:∀C s H ex,WTs (X.comp scope own cap C s H ex) i L)(Z:∀C s H ex xe z,Ed[CXo X.prog X.w][X.compX scope own cap C s H ex xe][z]->WE (X.compX scope own cap C s H ex xe) r te[z])(n:CcA X cap scope)(au:scope.kind=.function)(ak:scope.names.all[λy=>decide[y.2≠.cell]]=t8)(aq:CcN scope)(az:CcF scope sc)(hs:∀x,foldedSetIterable d X.env x=pure x):
  WE[X][.ListComp r [(A,d,i,0)] scope pos][Bi0 G g L te E own cap]:=(
 ⟨by
   intro aa s O H Q I h;rw[eval_ListComp];exact Abb (use:=sy) (te:=te λP=>E O) .inr[hX] hc hE hi.un (λC s H ex=>(Y C s H ex).un) (λC s H ex=>(S C s H ex).un) (λC s H ex xe p=>(λC s H ex xe z p=>(Z C s H ex xe z p).un) C s H ex xe _ p) (by
     intro j U;let q:=bB.mp n j U;cases e:X.N[j]? with
     |none=>rw[e] at q;cases q
     |some x=>rw[e] at q;exact(x,rfl,dg q)) au (λy l=>dg[bB.mp ak y l]) (by
       intro y l F;let q:=bB.mp aq y l;rw[dj F] at q;exact dg q) (by
         intro y l F;let q:=bB.mp az y l;rw[dj F,pO,aBc,fC] at q;exact q.imp dg dg) hs I h λD C s6 H5 m J T P qn=>(m,T,λh' B=>(.ref D,H5,J h' B,rfl,qn))⟩)
def Bqc{i:Nat}(l:WE X e te)(nd:decide X.N.Nodup=t8:=by rfl')(hi:X.N[i]?=sr x:=by rfl')(j:Apo X.env.scope x=t8:=by rfl')(hs:swapsWith e sr[.Name x pos'] pos.line X.env=pure t7:=by rfl')(hf:X.fn x=t8:=by rfl'):WS[X][.Assign [.Name x pos'] e pos][Bic te Xg[i]]:=(⟨by
    intro m s d H D I h;refine wpAny_Assign_Name (thn[l.un m s d H _ I h] λv A ⟨y,H1,I1,r1,q1⟩=>?_) hs;exact R0 I1 dg[nd] hi Aw9[j] r1 (λz q=>(_,H1,q,q1)) .inl[hf]⟩)
def sif{tc:TT}{A B:lg cO}(q:WT X c tc)(w:WSs X A u)(r:WSs X B u'):WS[X][.If c A B pos][Bpu tc u u']:=(⟨by
  intro g s f H D I h;refine wpAny_If[thn[q.un g s f H _ I h] λd i ⟨H1,I1,q1⟩=>?_];cases d with
  |true=>exact w.un g i f H1 D I1 q1
  |false=>exact r.un g i f H1 D I1 q1⟩)
def Bi7(F:We X.K C)(G:X.mg x=sr .ref[C])(O:X.calm=t8)(Q:Raises X E)(P:WA X (e::es) t)(L:X.env.kindOf x=sr .globalImplicit:=by rfl')(hd:(x==("__debug__":t6))=t7:=by rfl')(l:starEach (e::es) X.env=(u6 t7 (eval e X.env))::starEach es X.env:=by rfl')(g:(backTo cpos (starEach es X.env)).any (·.1)=t7:=by rfl'):
  WS[X][.Raise sr[.Call (.Name x p) (e::es) [] cpos] sy pos][Biy t C E]:=(⟨by
    intro n s j H D I h;let(tl,N,nm,q,bs,hdct,sn,sub,ab,col,dd,k0,k1,k2,k3,k5,mN,S,hN,i,T):=Aj9 I.ok.mod.kin F;refine wpAny_Raise_call_subT (C:=C) (nm:=nm) (q:=q) (N:=N) (bs:=bs) (bm:=tl) (hdct:=hdct) (sn:=sn) (sub:=sub) (ab:=ab) (col:=col) (dd:=dd) (k0:=k0) (k1:=k1) (k2:=k2) (k3:=k3) (k5:=k5)
     fJ (mN:=mN) T.hasType[fJ.hasBase] I.ok.hd[O] (by rw[l];show (t7||(backTo cpos (starEach es X.env)).any (·.1))=t7;rw[g];rfl) i (K9 I L G (rfl,?_) hd)
    let d:=P.un cpos n s j H _ I h;rw[l] at d ⊢
    refine pU[cX d (λz A U=>?_) λw w y=>y];let(vs,Z,f,r,J,o,B):=U;exact(rfl,r.length ▸ J,f.bk _ _ S,hN.keeps f.bk,T.keeps f.bk,λh' e hmade=>Q n j Z A e .ref[C] z h' o f hmade B)⟩)
end
open PySem.Builtin.SmallTypes in
structure Nx(P:cD)(w:dW)(i l:aH)(St:Nat->dI->Prop)(Sc:Array aF->dI->Prop):Prop where
 live:∀k h,St k h->∃o,h.get? i=sr o/\∀v,o.data≠.cell v
 keep:∀k h h',St k h->(∀o,h.get? i=sr o->h'.get? i=sr o)->St k h'
 src:∀xs h h',Sc xs h->(∀o,h.get? l=sr o->h'.get? l=sr o)->Sc xs h'
 item:∀(A:eQ)(k:Nat)(s:aO)(xs:Array aF)(x:aF)(Q:aF->aO->Prop)(E:aF->aO->Prop),St k s.heap->Sc xs s.heap->xs[k]?=sr x->(∀h',St (k+1) h'->gC i s.heap h'->Q x { s with heap:=h' })->
  wpAny (model P w) A (nextOf (.ref i)) Q E s
 done:∀(A:eQ)(k:Nat)(s:aO)(xs:Array aF)(Q:aF->aO->Prop)(E:aF->aO->Prop),A.handled=sy->St k s.heap->Sc xs s.heap->xs[k]?=sy->
  (∀h' e,aCp i s.heap h'->(∃o,h'.get? e=sr o/\o.cls=.type "StopIteration")->E (.ref e) { s with heap:=h' })->wpAny (model P w) A (nextOf (.ref i)) Q E s
section
variable{prog:cD}{w:dW}{A:eQ}{E:aF->aO->Prop}{s:aO}
open PySem.Builtin.SmallTypes in
def Bcr{k:Nat}(st:s.heap.IsTupleIter b l k)(h:s.heap.IsTuple l d)(f:d[k]?=sr x)(go:∀h',h'.IsTupleIter b l (k+1)->gC b s.heap h'->Q x { s with heap:=h' }):wpAny (model prog w) A nextOf[.ref[b]] Q E s:=by
 let(p,hi,i,c):=id st;let(o,g,_,n,dt):=h;unfold nextOf;refine aA (dD (name:=mY "__next__") st.typeIs jH (dY jH st.typeIs qM ?_ qD[_]));refine aA (m:=field .ref[b] 0) (dJ hi c (x:=.ref l) rfl ?_);let e:¬ ((bJ l==fY)=t8):=cV;show wpAny _ _ (if (bJ l==fY)=t8 then _ else _) _ _ s
 rw[dm e];refine aA (m:=field .ref[b] 1) (dJ hi c (x:=.int k 0) rfl (aA (m:=seqItems? .ref[l]) (iD g dt ?_)));simp only[fX,f];refine aA[fU hi c () (aG (x,rfl,aG[go _ (_,bW _ hi fW[dC c _],(mO ..).trans i,?_) (iK ..)]))]
 rw[dC c];simp[rawInt]
open PySem.Builtin.SmallTypes in
def Bcs{k:Nat}(p:A.handled=sy)(st:s.heap.IsTupleIter c l k)(j:s.heap.IsTuple l f)(h:f[k]?=sy)(go:∀h' e,aCp c s.heap h'->(∃o,h'.get? e=sr o/\o.cls=.type "StopIteration")->E .ref[e] { s with heap:=h' }):wpAny (model prog w) A nextOf[.ref[c]] Q E s:=by
 let(t,hi,u,d):=id st;let(r,i,_,n,dt):=j;unfold nextOf;refine aA (dD (name:=mY "__next__") st.typeIs jH (dY jH st.typeIs qM ?_ qD[_]));refine aA (m:=field .ref[c] 0) (dJ hi d (x:=.ref l) rfl ?_);let g:¬ ((bJ l==fY)=t8):=cV;show wpAny _ _ (if (bJ l==fY)=t8 then _ else _) _ _ s
 rw[dm g];refine aA (m:=field .ref[c] 1) (dJ hi d (x:=.int k 0) rfl (aA (m:=seqItems? .ref[l]) (iD i dt ?_)));simp only[fX,h];refine aA oH[aA[fU hi d () ?_]]
 refine aA (m:=newExc .type["StopIteration"] []) ?_;simp only[newExc,newTuple];refine aA eO[?_][by size_fits]
 refine aA (m:=firstArgMember _ _) (rW (a:=fY) (by first|rfl|(simp only[firstArgMember];rfl)) eO[?_][by size_fits])
 simp only[raiseNew];refine aA vP[?_];rw[show A.in1.handled=sy from p];exact aA aG[uM[go _ _ (((iK ..).extBut.push _).push _) (_,aU _ rfl,rfl)]]
theorem Axb(i l:aH):Nx P w i l (λk h=>h.IsTupleIter i l k) (λa h=>h.IsTuple l a) where
 live:=λk h st=>by let(o,c,_,hd):=st;exact(o,c,λv z=>by rw[hd] at z;cases z)
 keep:=λk h h' st e=>st.at e
 src:=λa h h' st d=>let ⟨o,c,r⟩:=st;(o,d o c,r)
 item:=λA k s a x Q E st sc b go=>Bcr st sc b go
 done:=λA k s a Q E f st sc b go=>Bcs f st sc b go
theorem Bct(i l:aH):Nx P w i l (λk h=>h.IsListIter i l k) (λa h=>h.IsList l a) where
 live:=λk h st=>by let(o,e,_,hd):=st;exact(o,e,λv z=>by rw[hd] at z;cases z)
 keep:=λk h h' st d=>st.at d
 src:=λa h h' st c=>st.at c
 item:=λA k s a x Q E st sc b go=>wpAny_nextOf_list_item st sc b go
 done:=λA k s a Q E f st sc b go=>wpAny_nextOf_list_end f st sc b go
structure ZA(z TI TO i1 i2 l1 l2:aH):Prop where
 a:[z,TI,TO,i1,i2].Nodup
 b1:l1∉[z,TI,TO,i1,i2]
 b2:l2∉[z,TI,TO,i1,i2]
section
variable{St1 St2:Nat->dI->Prop}{Sc1 Sc2:Array aF->dI->Prop}{z TI TO i1 i2 l1 l2:aH}{k:Nat}{xs ys:Array aF}{x y a b:aF}
def ZA.ne(D:ZA z TI TO i1 i2 l1 l2):z≠TI/\z≠TO/\z≠i1/\z≠i2/\TI≠TO/\TI≠i1/\TI≠i2/\TO≠i1/\TO≠i2/\i1≠i2:=by
 let h:=D.a;simp_all
open PySem.Builtin PySem.Builtin.SmallTypes in
def Axc(u:Nx prog w i1 l1 St1 Sc1)(t:Nx prog w i2 l2 St2 Sc2)(D:ZA z TI TO i1 i2 l1 l2){Q:aF->aO->Prop}(i:uO s.heap z TI TO .none)(N:pK s.heap TI .ref[i1] .ref[i2])(L:pK s.heap TO a b)(s1:St1 k s.heap)(s2:St2 k s.heap)(c1:Sc1 xs s.heap)(c2:Sc2 ys s.heap)(hx:xs[k]?=sr x)(hy:ys[k]?=sr y)(go:∀h',uO h' z TI TO rawInt[s.heap.objs.size]->pK h' TO x y->St1 (k+1) h'->St2 (k+1) h'->pK h' s.heap.objs.size x y->(∀c o,c∉[z,TO,i1,i2]->s.heap.get? c=sr o->h'.get? c=sr o)->Q .ref[s.heap.objs.size] { s with heap:=h' }):
  wpAny (model prog w) A («zip.__next__» ([.ref z],[])) (λO s'=>∃v,O=.done (.ret v)/\Q v s') E s:=by
 let(d1,G,U,T,d5,d6,d7,S,P,n):=D.ne;let b1:=D.b1;let b2:=D.b2;simp only[aW,bM,or_false,not_or] at b1 b2;refine aA (m:=field .ref[z] 2) (dJ i rfl (x:=.bool t7) rfl (aA (m:=field .ref[z] 3) (dJ i rfl (x:=.ref TI) rfl aA[iD N rfl ?_])));refine aA (m:=ownedTupleIsFree .ref[z]) ?_;unfold ownedTupleIsFree;refine aA (dJ i rfl (x:=.none) rfl aG[?_]);simp only[if_true];refine aA (oH (aA (dJ i rfl (x:=.ref TO) rfl aA[jJ i () λh1 I e1=>aA ?_])))
 let I:uO h1 z TI TO .ellipsis:=I;simp only[yI,zE,uF,aAf];refine aA (aA (sO (aA (m:=nextOf .ref[i1]) ?_)));let d:∀c o,c≠z->s.heap.get? c=sr o->h1.get? c=sr o:=λc o f q=>e1.extBut _ _ f q;refine u.item _ k _ xs x _ _ (u.keep _ _ _ s1 λo q=>d _ o U.symm q) (u.src _ _ _ c1 λo q=>d _ o b1.1 q) hx λh2 t2 F=>aG ?_;let Z:pK h2 TO a b:=F.extBut _ _ S (d _ _ G.symm L);refine aA[iD Z rfl aA[pW Z λh3 J C=>aA yR[aG[?_]]]];let J:pK h3 TO x b:=J;refine aA (aA (sO (aA (m:=nextOf .ref[i2]) ?_)));let e:∀c o,c≠z->c≠TO->c≠i1->s.heap.get? c=sr o->h3.get? c=sr o:=λc o q1 q2 q3 q=>C.extBut _ _ q2 (F.extBut _ _ q3 (d c o q1 q));refine t.item _ k _ ys y _ _ (t.keep _ _ _ s2 λo q=>e _ o T.symm P.symm n.symm q) (t.src _ _ _ c2 λo q=>e _ o b2.1 b2.2.2.1 b2.2.2.2.1 q) hy λh4 t4 l=>aG ?_;let Y:pK h4 TO x b:=l.extBut _ _ P J;refine aA[iD Y rfl aA[pW Y λg r j=>aA yR[aG[aG[?_]]]]];let r:pK g TO x y:=r;refine aA[iD r rfl aA[aAg[?_]]];let sz:g.objs.size=s.heap.objs.size:=by rw[j.1,l.1,C.1,F.1,e1.1]
 let X:uO g z TI TO .ellipsis:=j.extBut _ _ G (l.extBut _ _ T (C.extBut _ _ G (F.extBut _ _ U I)));let h:∀c o,c∉[z,TO,i1,i2]->s.heap.get? c=sr o->g.get? c=sr o:=λc o f q=>by
  simp only[aW,bM,or_false,not_or] at f;exact j.extBut _ _ f.2.1 (l.extBut _ _ f.2.2.2 (e c o f.1 f.2.1 f.2.2.1 q))
 let zl:z < g.objs.size:=aZ X;refine aA (m:=ownedTupleHandOut .ref[z] .ref[g.objs.size]) ?_;unfold ownedTupleHandOut;let z6:uO (g.push { cls:=.type "tuple",data:=.seq #[x,y] }) z TI TO .ellipsis:=aC _ X;refine aA[jJ z6 () λh7 H e7=>?_]
 let H:uO h7 z TI TO rawInt[g.objs.size]:=H;refine jJ H () λB p e8=>aG (_,rfl,?_)
 let p:uO B z TI TO rawInt[g.objs.size]:=p;let up:∀c o,c≠z->g.get? c=sr o->B.get? c=sr o:=λc o f q=>e8.extBut _ _ f (e7.extBut _ _ f (aC _ q));let new:pK B g.objs.size x y:=e8.extBut _ _ jQ[zl] (e7.extBut _ _ jQ[zl] (aU _ rfl));show Q .ref[g.objs.size] _;rw[sz] at p new ⊢
 refine go B p (up _ _ G.symm r) (u.keep _ _ _ t2 λo q=>up _ o U.symm (j.extBut _ _ S.symm (l.extBut _ _ n (C.extBut _ _ S.symm q)))) (t.keep _ _ _ t4 λo q=>up _ o T.symm (j.extBut _ _ P.symm q)) new λc o f q=>?_;exact up c o (λw=>f[by simp[w]]) (h c o f q)
open PySem.Builtin PySem.Builtin.SmallTypes in
def Axd(t:Nx prog w i1 l1 St1 Sc1)(v:Nx prog w i2 l2 St2 Sc2)(D:ZA z TI TO i1 i2 l1 l2)(U:A.handled=sy)(n:uO s.heap z TI TO .none)(F:pK s.heap TI .ref[i1] .ref[i2])(C:pK s.heap TO a b)(s1:St1 k s.heap)(s2:St2 k s.heap)(c1:Sc1 xs s.heap)(c2:Sc2 ys s.heap)(he:xs[k]?=sy\/ys[k]?=sy)(go:∀h' e,(∀c o,c∉[z,TO,i1,i2]->s.heap.get? c=sr o->h'.get? c=sr o)->(∃o,h'.get? e=sr o/\o.cls=.type "StopIteration")->E .ref[e] { s with heap:=h' }):
  wpAny (model prog w) A («zip.__next__» ([.ref z],[])) Q E s:=by
 let(d1,d2,J,d4,d5,d6,d7,d8,d9,L):=D.ne;let b1:=D.b1;let b2:=D.b2;simp only[aW,bM,or_false,not_or] at b1 b2;refine aA (m:=field .ref[z] 2) (dJ n rfl (x:=.bool t7) rfl (aA (m:=field .ref[z] 3) (dJ n rfl (x:=.ref TI) rfl aA[iD F rfl ?_])));refine aA (m:=ownedTupleIsFree .ref[z]) ?_;unfold ownedTupleIsFree;refine aA (dJ n rfl (x:=.none) rfl aG[?_]);simp only[if_true];refine aA (oH (aA (dJ n rfl (x:=.ref TO) rfl aA[jJ n () λX r e1=>aA ?_])))
 let r:uO X z TI TO .ellipsis:=r;simp only[yI,zE,uF,aAf];refine aA (aA (sO (aA (m:=nextOf .ref[i1]) ?_)));let d:∀c o,c≠z->s.heap.get? c=sr o->X.get? c=sr o:=λc o g q=>e1.extBut _ _ g q;let P:=t.keep _ _ _ s1 λo q=>d _ o J.symm q;let S:=t.src _ _ _ c1 λo q=>d _ o b1.1 q;cases B:xs[k]? with
 |none=>
  refine t.done _ k _ xs _ _ U P S B λH e l j=>?_;let(u,h,i):=j;let O:uO H z TI TO .ellipsis:=l _ _ J r;let I:e≠z:=λw=>by subst w;rw[O] at h;cases h;simp at i
  refine jJ O () λG uw p=>go G e (λc o g q=>?_) (u,p.extBut _ _ I h,i)
  simp only[aW,bM,or_false,not_or] at g;exact p.extBut _ _ g.1 (l _ _ g.2.2.1 (d c o g.1 q))
 |some x=>
  let hy:ys[k]?=sy:=by
   rcases he with q|q
   .rw[B] at q;cases q
   .exact q
  refine t.item _ k _ xs x _ _ P S B λH t2 l=>aG ?_;let T:pK H TO a b:=l.extBut _ _ d8 (d _ _ d2.symm C);refine aA[iD T rfl aA[pW T λG o3 p=>aA yR[aG[?_]]]];refine aA (aA (sO (aA (m:=nextOf .ref[i2]) ?_)));let f:∀c o,c≠z->c≠TO->c≠i1->s.heap.get? c=sr o->G.get? c=sr o:=λc o h i q3 q=>p.extBut _ _ i (l.extBut _ _ q3 (d c o h q));refine v.done _ k _ ys _ _ U (v.keep _ _ _ s2 λo q=>f _ o d4.symm d9.symm L.symm q) (v.src _ _ _ c2 λo q=>f _ o b2.1 b2.2.2.1 b2.2.2.2.1 q) hy λh4 e Z j=>?_;let(u,h,i):=j;let N:uO h4 z TI TO .ellipsis:=Z _ _ d4 (p.extBut _ _ d2 (l.extBut _ _ J r));let I:e≠z:=λw=>by subst w;rw[N] at h;cases h;simp at i
  refine jJ N () λh5 uw Y=>go h5 e (λc o g q=>?_) (u,Y.extBut _ _ I h,i)
  simp only[aW,bM,or_false,not_or] at g;exact Y.extBut _ _ g.1 (Z _ _ g.2.2.2 (f c o g.1 g.2.1 g.2.2.1 q))
end
end
def Sq2(K:aB)(T:Bool)(H:Hp)(a:aH)(xs:lg V):Prop:=match T with
 |true=>SqT K H a xs
 |false=>SqL K H a xs
def St2(T:Bool)(i l:aH)(k:Nat)(h:dI):Prop:=match T with
 |true=>h.IsTupleIter i l k
 |false=>h.IsListIter i l k
def Sc2(T:Bool)(l:aH)(xs:Array aF)(h:dI):Prop:=match T with
 |true=>h.IsTuple l xs
 |false=>h.IsList l xs
def nx2(T:Bool)(i l:aH):Nx P w i l (St2 T i l) (Sc2 T l):=by
 cases T
 .exact Bct i l
 .exact Axb i l
section
def Inv.sq2(I:Inv X f e H s)(h:Sq2 X.K T H a d):∃b:lg aF,Vals d b/\Sc2 T a b.toArray s.heap:=by
 cases T
 .let(b,r,p,_):=I.list h;exact(b,r,p.isList)
 .let(b,r,p,_):=I.tuple h;exact(b,r,p)
def Inv.sq2_inj(I:Inv X e d H s)(h:Sq2 X.K T H a c)(h':Sq2 X.K T H a b):c=b:=by
 cases T
 .exact I.list_inj h h'
 .exact I.tuple_inj h h'
end
def Itz(K:aB)(T:Bool)(a b:aH):It:=(λi H=>∃xs ys x y,Sq2 K T H a xs/\Sq2 K T H b ys/\xs[i]?=sr x/\ys[i]?=sr y,
 λi H v H'=>∃p x y,(∀xs,Sq2 K T H a xs->xs[i]?=sr x)/\(∀ys,Sq2 K T H b ys->ys[i]?=sr y)/\H p=sy/\v=.ref p/\H'=upd H p .tup[[x,y]],
 λi H=>∃xs ys,Sq2 K T H a xs/\Sq2 K T H b ys/\(xs.length<=i\/ys.length<=i))
def zSt(T:Bool)(z TI TO i1 i2 a b:aH)(i:Nat)(h:dI):Prop:=uO h z TI TO .none/\pK h TI .ref[i1] .ref[i2]/\(∃u v,pK h TO u v)/\St2 T i1 a i h/\St2 T i2 b i h
theorem Axe{P:cD}{w:dW}{K:aB}{Z:lg bO}{kt:Nat}{O:o8}(T:Bool)(z TI TO t p a b:aH)(D:ZA z TI TO t p a b):
  Turn P w K (.Tuple Z kt O) (Itz K T a b) [z,TI,TO,t,p] z (zSt T z TI TO t p a b) where
 mem:=by simp
 obj:=λi h st c f=>by
  let(F,j,(u,v,l),L,J):=st;simp only[aW,bM,or_false] at f;rcases f with rfl|rfl|rfl|rfl|rfl
  .exact(_,F,λv q=>by let q:yP _=uX v:=q;cases q)
  .exact(_,j,λv q=>by let q:aEf _ _=uX v:=q;cases q)
  .exact(_,l,λv q=>by let q:aEf _ _=uX v:=q;cases q)
  .exact(nx2 (P:=P) (w:=w) T _ a).live _ _ L
  .exact(nx2 (P:=P) (w:=w) T _ b).live _ _ J
 keep:=λi h h' st k=>by
  let(F,j,(u,v,l),L,J):=st;exact(k z () _ F,k TI () _ j,(u,v,k TO () _ l),(nx2 (P:=P) (w:=w) T t a).keep _ _ _ L (k t ()),(nx2 (P:=P) (w:=w) T p b).keep _ _ _ J (k p ()))
 item:=by
  intro X hP hw hK f i aa s σ H E I hf st hg;subst hP hw hK;let(F,j,(u,v,l),L,J):=st;let(xs,ys,x,y,qx,qy,ex,ey):=hg;let(U,rx,cx):=I.sq2 qx;let(S,ry,cy):=I.sq2 qy;let(ux,hux,rux):=rx.get ex;let(uy,huy,ruy):=ry.get ey;let Y:s.TypeIs .ref[z] "zip":=(_,F,rfl);let lt:∀{c:aH} {o:tu},s.heap.get? c=sr o->c≠s.heap.objs.size:=λe=>bR aZ[e];unfold pyNext;refine aA (nU (dD (name:=mY "__next__") Y qF (dY qF Y yJ
   (Axc (nx2 T t a) (nx2 T p b) D F j l L J cx cy (x:=ux) (y:=uy) (by simpa using hux) (by simpa using huy) λh' a1 a2 a3 a4 a5 hk=>aG (_,rfl,?_)) wU[_])))
  refine wpAny_letOwnedTupleGo_zip (s:={ s with heap:=h' }) a1 λh2 z2 N=>?_
  let(d1,d2,d3,d4,d5,d6,d7,d8,d9,d10):=D.ne;let C:∀c o,c∉[z,TI,TO,t,p]->s.heap.get? c=sr o->h2.get? c=sr o:=λc o f q=>by
   simp only[aW,bM,or_false,not_or] at f;exact N.extBut _ _ f.1 (hk c o (by simp[f]) q)
  let B:H s.heap.objs.size=sy:=I.hok.fresh aN[_];let Q:∀c u,H c=sr u->c∉[z,TI,TO,t,p]:=λc u q f=>by rw[(hf c f).1] at q;cases q
  let nz:s.heap.objs.size≠z:=(lt F).symm;let hp2:wG h2 s.heap.objs.size #[ux,uy]:=(_,N.extBut _ _ nz a5,rfl,_,rfl);refine(.ref s.heap.objs.size,upd H s.heap.objs.size .tup[[x,y]],?_,rfl,(_,x,y,λxs' q=>by rw[I.sq2_inj q qx];exact ex,λys' q=>by rw[I.sq2_inj q qy];exact ey,B,rfl,rfl),
   (z2,N.extBut _ _ d1.symm (hk _ _ (by simp[d1.symm,d5,d6,d7]) j),(_,_,N.extBut _ _ d2.symm a2),(nx2 (P:=X.prog) (w:=X.w) T t a).keep _ _ _ a3 (λo q=>N.extBut _ _ d3.symm q),(nx2 (P:=X.prog) (w:=X.w) T p b).keep _ _ _ a4 (λo q=>N.extBut _ _ d4.symm q)),λc f=>?_)
  .show Inv X aa σ (upd H s.heap.objs.size .tup[[x,y]]) { s with heap:=h2,gens:=s.gens,drawn:=s.drawn,toks:=s.toks }
   refine I.step (s:=s) (g':=s.gens) (d':=s.drawn) (ch:=[z,TI,TO,t,p]) (λc f=>?_) (λc o g g f q g=>C c o f q) (λc o g g f q g=>(o.slots,C c o f q)) (λc o g q n=>by rw[Aj lt[q]];exact n)
    (λc o f q=>(o,C c o f q)) (λc xs q=>by rw[Aj[Bm q B]];exact q) (λc o u q=>by rw[Aj[Bm q B]];exact q) (λc ps q=>(#[],by rw[Aj[Bm q B],q];simp)) (λm hm=>?_) (λc u q=>?_) I.bare
   .let(f0,f1,f2,f3,f4,f5):=hf c f;exact(f3,f1,f4,f5)
   .let(o,es,ep,G,r):=hm;exact(o,es,ep,C _ o (λf=>(hf _ f).2.1 rfl) G,r)
   .by_cases hb:c=s.heap.objs.size
    .subst hb;rw[Aq] at q;cases q;exact((show 2<=sizeLine by decide),_,.cons rux (.cons ruy .nil),hp2)
    .rw[Aj hb] at q;refine(I.hok c u q).stay (λd v hd z=>C d v ?_ z) (λd z=>by rw[Aj[Bm z B]];exact z) λd xs z=>by rw[Aj[Bm z B]];exact z
     rcases hd with rfl|hd
     .exact Q d u q
     .exact Q d _ hd
  .obtain⟨o,G,_⟩:∃o,s.heap.get? c=sr o/\True:=by
    simp only[aW,bM,or_false] at f;rcases f with rfl|rfl|rfl|rfl|rfl
    .exact(_,F,trivial)
    .exact(_,j,trivial)
    .exact(_,l,trivial)
    .let(o,G,_):=(nx2 (P:=X.prog) (w:=X.w) T _ a).live _ _ L;exact(o,G,trivial)
    .let(o,G,_):=(nx2 (P:=X.prog) (w:=X.w) T _ b).live _ _ J;exact(o,G,trivial)
   rw[Aj lt[G]];exact(hf c f).1
 done:=by
  intro X hP hw hK f i aa s σ H E I hf st hg;subst hP hw hK;let(F,j,(u,v,l),L,J):=st;let(xs,ys,qx,qy,he):=hg;let(U,rx,cx):=I.sq2 qx;let(S,ry,cy):=I.sq2 qy;let Y:s.TypeIs .ref[z] "zip":=(_,F,rfl);let he':U.toArray[i]?=sy\/S.toArray[i]?=sy:=by
   rcases he with q|q
   .exact .inl (by rw[rA,cZ,<-rx.length];exact q)
   .exact .inr (by rw[rA,cZ,<-ry.length];exact q)
  let Q:∀c u,H c=sr u->c∉[z,TI,TO,t,p]:=λc u q f=>by rw[(hf c f).1] at q;cases q
  unfold pyNext;refine aA (nU (dD (name:=mY "__next__") Y qF (dY qF Y yJ
   (Axd (nx2 T t a) (nx2 T p b) D (show X.A.in1.handled=sy from I.ok.hd f) F j l L J cx cy he' λh' e hk q=>?_) wU[_])))
  let(o,G,hcl):=q;refine aA (mZ (T:="StopIteration") (b:=true) (o,G,hcl) uP (aG (rfl,?_)));let C:∀c o,c∉[z,TI,TO,t,p]->s.heap.get? c=sr o->h'.get? c=sr o:=λc o f q=>hk c o (λm=>f (by simp only[aW,bM,or_false] at m ⊢;rcases m with m|m|m|m <;> simp[m])) q
  refine I.step (s:=s) (g':=s.gens) (d':=s.drawn) (t':=s.toks) (h':=h') (ch:=[z,TI,TO,t,p]) (λc f=>?_) (λc o g g f q g=>C c o f q) (λc o g g f q g=>(o.slots,C c o f q)) (λc o g q n=>n)
   (λc o f q=>(o,C c o f q)) (λc xs q=>q) (λc o u q=>q) (λc ps q=>(#[],by rw[q];simp)) (λm hm=>?_) (λc u q=>?_) I.bare
  .let(f0,f1,f2,f3,f4,f5):=hf c f;exact(f3,f1,f4,f5)
  .let(o,es,ep,G,r):=hm;exact(o,es,ep,C _ o (λf=>(hf _ f).2.1 rfl) G,r)
  .refine(I.hok c u q).stay (λd v hd z=>C d v ?_ z) (λg z=>z) λg g z=>z;rcases hd with rfl|hd
   .exact Q d u q
   .exact Q d _ hd
 self:=λg g g g g st h=>yK st.1 h
abbrev itT(a:aH):tu:={ cls:=.type "tuple_iterator",data:=.fields #[.ref a,.int 0 0] }
abbrev Arl(u v:aF):tu:={ cls:=.type "tuple",data:=.seq #[u,v] }
abbrev Bni(TI TO:aH):tu:={ cls:=.type "zip",data:=.fields #[.none,.bool t7,.bool t7,.ref TI,.ref TO] }
def zT2(h:dI)(a b:aH):dI:=(h.push itT[a]).push itT[b]
def zT3(h:dI)(a b:aH):dI:=(zT2 h a b).push (Arl .ref[h.objs.size] .ref[(h.push itT[a]).objs.size])
def zT4(h:dI)(a b:aH):dI:=(zT3 h a b).push (Arl .none .none)
def zT5(h:dI)(a b:aH):dI:=(zT4 h a b).push (Bni (zT2 h a b).objs.size (zT3 h a b).objs.size)
def App(a b:aH)(d c:Array aF):
  aDv (jY.«zip.__new__» ([.type "zip",.ref a,.ref b],[])) (λg R s=>s.heap.IsTuple a d/\s.heap.IsTuple b c/\R .ok[.ret[.ref[(zT4 s.heap a b).objs.size]]] { s with heap:=zT5 s.heap a b }):=(
 .of_wp λprog w A R s h=>by
  let(f,e,h):=h;let i:=sub_zip
  wp_walk using qW f,qW[aDw e _]
  exact(_,rfl,h))
section
def Aue(t:Sc2 T a z s.heap)(r:Sc2 T b y s.heap)(go:∀h',zSt T (s.heap.objs.size+4) (s.heap.objs.size+2) (s.heap.objs.size+3) s.heap.objs.size (s.heap.objs.size+1) a b 0 h'->(∀c o,s.heap.get? c=sr o->h'.get? c=sr o)->Q .ref[s.heap.objs.size+4] { s with heap:=h' }):
  wpAny (model prog w) A (call .type["zip"] [.ref a,.ref b]) Q E s:=by
 cases T
 .exact call_zip_2 t r λh' i h g f e C k=>go h' (i,h,(_,_,g),f,e) k
 .refine callType_new F.called_zip () (F.typeCall_zip_2 ..) (F.newCall_zip_2 ..) (λobj=>F.args_object_init_3 obj ..) F.entry_zip_new (App a b z y) (t,r,?_)
  let m:(s.heap.push itT[a]).objs.size=s.heap.objs.size+1:=fP ..
  let l:(zT2 s.heap a b).objs.size=s.heap.objs.size+2:=by unfold zT2;rw[fP,m]
  let j:(zT3 s.heap a b).objs.size=s.heap.objs.size+3:=by unfold zT3;rw[fP,l]
  let p:(zT4 s.heap a b).objs.size=s.heap.objs.size+4:=by unfold zT4;rw[fP,j]
  let d:∀c o,(zT2 s.heap a b).get? c=sr o->(zT5 s.heap a b).get? c=sr o:=λc o q=>by unfold zT5 zT4 zT3;exact aC _ aC[_][aC _ q]
  let n:(zT5 s.heap a b).get? (zT4 s.heap a b).objs.size=sr[Bni (zT2 s.heap a b).objs.size (zT3 s.heap a b).objs.size]:=by unfold zT5;exact aU _ rfl
  let u:(zT5 s.heap a b).get? (zT3 s.heap a b).objs.size=sr[Arl .none .none]:=by unfold zT5 zT4;exact aC _ (aU _ rfl)
  let v:(zT5 s.heap a b).get? (zT2 s.heap a b).objs.size=sr[Arl .ref[s.heap.objs.size] .ref[(s.heap.push itT[a]).objs.size]]:=by unfold zT5 zT4 zT3;exact aC _ aC[_][aU _ rfl]
  let x:(zT5 s.heap a b).get? (s.heap.push itT[a]).objs.size=sr itT[b]:=d _ _ (by unfold zT2;exact aU _ rfl)
  let B:(zT5 s.heap a b).get? s.heap.objs.size=sr itT[a]:=d _ _ (by unfold zT2;exact aC _ (aU _ rfl))
  show _/\_;rw[l,j,p] at n;rw[j] at u;rw[m,l] at v;rw[m] at x;exact p ▸ ((_,n,rfl),(λh' i h g f e k=>go h' (i,h,(_,_,g),f,e) k) _ n v u (_,B,rfl,rfl) (_,x,rfl,rfl) λc o q=>d _ _ (by unfold zT2;exact aC _ (aC _ q)))
end
def boot_zip:bootBuiltins "zip"=sr .type["zip"]:=by decide +kernel
def Bqd(K:aB)(ta:TA):TI:=λσ H R=>ta σ H λvs H1=>∃T a b xs ys,vs=[.ref a,.ref b]/\Sq2 K T H1 a xs/\Sq2 K T H1 b ys/\R (Itz K T a b) H1
def Bi8{P:Nat}(Y:Gl X "zip")(U:X.mg "zip"=sy)(Z:PA X (e::l) C)(hs:starEach (e::l) X.env=(u6 t7 (eval e X.env))::starEach l X.env)(r:(backTo f (starEach l X.env)).any (·.1)=t7):
  PI[X][.Tuple y P w][.Call (.Name "zip" p) (e::l) [] f][Bqd X.K C]:=by
 intro aa s B H R I h;refine Call_[Aa5 I Y U boot_zip mL[thn[Z f aa s B H _ I h] λn d ⟨vs,H1,I1,r1,q1⟩=>?_][hs][r]];let(T,a,b,xs,ys,rfl,L,J,q):=q1;let(u,v,rfl,F,E):=r1.two;obtain rfl:u=bJ a:=F;obtain rfl:v=bJ b:=E;let(S,rx,A):=I1.sq2 L;let(Q,ry,z):=I1.sq2 J;let there:∀{c:aH} {n:Array aF},Sc2 T c n d.heap->c < d.heap.objs.size:=λ{c n} q=>by
  cases T
  .let(o,t,_):=q;exact aZ t
  .let(o,t,_):=q;exact aZ t
 let O:=there z;let j:∀c∈[d.heap.objs.size+4,d.heap.objs.size+2,d.heap.objs.size+3,d.heap.objs.size,d.heap.objs.size+1],d.heap.objs.size<=c:=λc g=>by
  simp only[aW,bM,or_false] at g;rcases g with rfl|rfl|rfl|rfl|rfl
  .exact nA ..
  .exact nA ..
  .exact nA ..
  .exact aN _
  .exact nA ..
 refine Aue A z λh' st k=>yK st.1 ?_;refine(_,_,_,_,H1,rfl,I1.kept (t':=d.toks) k,Axe T _ _ _ _ _ a b ((),λm=>absurd aQ[there A][j a m] eF[_],λm=>absurd aQ[O][j b m] eF[_]),st,λc g=>I1.fpOk (j c g) I1.hok.fresh[j c g],q)
def leS(a b:t6):Bool:=!decide (b.cps.toList < a.cps.toList)
def Adr(ss:lg t6):lg t6:=ss.mergeSort leS
theorem Abe{f:Type}{r:f->f->Prop}(i:∀a b,r a b->r b a->a=b):∀{d c:lg f},d.Perm c->d.Pairwise r->c.Pairwise r->d=c
 |[],c,p,_,_=>p.nil_eq
 |_,[],p,_,_=>by simp_all
 |a::d,b::c,p,h,g=>by
  rw[oJ] at h g;let e:a=b:=by
   rcases aW.mp p.mem_iff.mp[aX] with q|q
   .omega
   .rcases aW.mp p.mem_iff.mpr[aX] with z|z
    .exact z.symm
    .exact i a b (h.1 b z) (g.1 a q)
  subst e;rw[Abe i aDn[p] h.2 g.2]
def Auf(a b:t6):(leS a b||leS b a)=t8:=by
 unfold leS
 grind
def Aic(a b c:t6)(f:leS a b=t8)(e:leS b c=t8):leS a c=t8:=by
 unfold leS at *
 rw[iC,decide_eq_false_iff_not] at *
 exact rY.mpr[List.le_trans rY.mp[f] rY.mp[e]]
def Ae6(a b:t6)(f:leS a b=t8)(d:leS b a=t8):a=b:=by
 unfold leS at *
 rw[iC,decide_eq_false_iff_not] at *
 let e:=List.le_antisymm rY.mp[f] rY.mp[d];obtain⟨⟨x⟩⟩:=a;simp_all
def Ji(ss:lg t6):(Adr ss).Perm ss:=List.mergeSort_perm ss leS
def Nh(ss:lg t6):(Adr ss).Pairwise (λa b=>leS a b=t8):=List.pairwise_mergeSort Aic Auf ss
theorem Ae7:∀(p:t6)(l:lg t6),risingS p l=t8->(p::l).Pairwise (λa b=>leS a b=t8)
 |p,[],_=>by simp
 |p,x::r,h=>by
  let h:(!_&&_)=t8:=h;rw[aL,ltCps_eq] at h;let d:=Ae7 x r h.2;rw[oJ];refine(λy hy=>?_,d);rcases aW.mp hy with rfl|hy
  .exact h.1
  .exact Aic p x y h.1 ((oJ.mp d).1 y hy)
def Bcu(p:a.Perm b)(h:sortedS a=t8):a=Adr b:=by
 refine Abe Ae6 p.trans[(Ji b).symm] ?_ Nh[b];cases a with
 |nil=>simp
 |cons x r=>exact Ae7 x r h
section
variable{tk:Nat}
def Inv.newO(I:Inv X p j H s)(f:∀b ob,s.heap.get? b=sr ob->h'.get? b=sr ob)(t:s.heap.get? e=sy)(g:Ek X.prog X.w (upd H e o) h' e o):Inv X p j (upd H e o) { s with heap:=h',toks:=tk }:=by
 let ne:∀{b:aH} {o:tu},s.heap.get? b=sr o->b≠e:=λq z=>by simp_all
 let d:∀{b:aH} {u:HO},H b=sr u->b≠e:=λq=>by
  let(o,g):=(I.hok _ _ q).there;exact ne g
 refine I.step (ch:=[]) (λc z=>nomatch z) (λb o c c c q c=>f b o q) (λb o c c c q c=>(o.slots,f b o q)) (λb o c q n=>(Aj ne[q]) ▸ n)
  (λb o c q=>(o,f b o q)) (λb k q=>(Aj d[q]) ▸ q) (λb o u q=>(Aj d[q]) ▸ q) (λb ps q=>(#[],by rwa [Aj d[q],lM])) (λm l=>l.keeps f) (λa u q=>?_) I.bare
 by_cases h:a=e
 .subst h;rw[Aq] at q;cases q;exact g
 .rw[Aj h] at q;exact(I.hok a u q).stay (λb v c z=>f b v z) (λb z=>(Aj d[z]) ▸ z) λb k z=>(Aj d[z]) ▸ z
def Auh{b:lg aF}{c:lg t6}(h:pN b c):Vals c.map[V.str] b:=by
 induction h with
 |nil=>exact .nil
 |cons n t h d=>exact .cons (t,rfl) d
end
section
variable{prog:cD}{w:dW}{A:eQ}{E:aF->aO->Prop}{h:dI}{g:Array uK}{d:aBk}{t:Nat}{os:aBu}
variable{nm q:t6}{C N fI:aH}{bs tl bmB:lg aF}{hdct:Bool}{sn:lg t6}{sub:lg aF}{ab:Bool}{col:o9 Bool}{dd:o9 aH}{k0 k1 k2 k3 k5:o9 aF}{B newId initId:String}{oI:tu}{mN:t6->o9 aF}{rest:lg aF}
def Bcv(F:wV B newId initId bmB)(T:aBt h bmB tl)(c:h.get? C=sr[excClassObj nm q C N bs tl hdct sn sub ab col dd k0 k1 k2 k3 k5 newId])(v:h.Ns N mN)(hi:mN "__init__"=sr .ref[fI])(hf:h.get? fI=sr oI)(f:oI.cls=.type "function")(x:rest.length<=sizeLine)(go:∀h' e,mR h h' e .ref[C] rest->wpAny (model prog w) A (call .ref[fI] (.ref e::rest)) (λr l=>r=.none/\Q .done[.ret .ref[e]] l) E (h',g,d,t,os)):
  wpAny (model prog w) A (jY.«type.__call__» (.ref C::rest,[])) Q E (h,g,d,t,os):=by
 repeat (first|(with_reducible refine fK c ?_)|(with_reducible refine wpAny_madeBy_exc c ?_)|wp_step)
 refine codeAny_call_builtin_code[lN _ F.quiet][wpAny_check_new_subT F T c (codeAny_exc_new_subT F T c ?_ x)];generalize k:h.push { cls:=.type "tuple",data:=.seq rest.toArray }=h1;generalize j:h1.push { cls:=.ref C,data:=.fields #[.ref h.objs.size,.none,.none,.none,.bool t7,.none] }=h2;let n:h1.objs.size=h.objs.size+1:=k ▸ fP ..
 let keep:∀b o,h.get? b=sr o->h2.get? b=sr o:=λb o z=>j ▸ aC _ (k ▸ aC _ z);let made:h2.get?[h.objs.size+1]=sr { cls:=.ref C,data:=.fields #[.ref h.objs.size,.none,.none,.none,.bool t7,.none] }:=by
  rw[<-j,<-n];exact aU _ rfl
 let a:=keep _ _ c;show wpAny _ _ _ _ _ _;let own:(bJ C::tl).contains .ref[C]=t8:=by simp
 unfold isInstance
 repeat (first|(with_reducible refine fK made ?_)|(with_reducible refine qI a ?_;rw[own])|wp_step)
 show wpAny _ _ (typeLookup .ref[C] _) _ _ _;refine wpAny_typeLookup_tail a v.keeps[keep] T.keeps[keep] F.mroIs F.init.lookup ?_;rw[hi];refine eV aA[?_];unfold bindSpecial;refine aA (oV (T:="function") (_,keep _ _ hf,f) ?_);rw[di ()]
 refine aG aA[cX[go h2 (h.objs.size+1) (keep,gU fM[_],h.objs.size,made,gU aN[_],?_)][λr l s=>?_] λp p z=>z]
 .rw[<-j];exact aC _ (k ▸ aU _ rfl)
 .let(rfl,u):=s
  wp_walk
  exact u
def Arm(F:wV B newId initId bmB)(T:aBt h bmB tl)(b:h.get? C=sr[excClassObj nm q C N bs tl hdct sn sub ab col dd k0 k1 k2 k3 k5 newId])(f:h.Ns N mN)(hi:mN "__init__"=sr .ref[fI])(hf:h.get? fI=sr oI)(a:oI.cls=.type "function")(j:rest.length<=sizeLine)(go:∀h' e,mR h h' e .ref[C] rest->wpAny (model prog w) A.under[.builtin "type.__call__" (.ref C::rest,[])] (call .ref[fI] (.ref e::rest)) (λr c=>r=.none/\Q .ref[e] c) E (h',g,d,t,os)):
  wpAny (model prog w) A (call .ref[C] rest) Q E (h,g,d,t,os):=by
 let l:=tc_lookup;let k:=tc_bind .ref[C];let ty:((h,g,d,t,os):aO).TypeIs .ref[C] "type":=(_,b,rfl);refine jX qC[?_]
 repeat (any_goals (first|assumption|rfl|wp_step))
 exact(rfl,codeAny_call_builtin_at (lN _ ()) entry_typeCall wpAny_check_type_call_sub[b][Bcv F T b f hi hf a j λh' e i=>go h' e i])
end
section
open PySem.W PySem.Builtin PySem.Builtin.ObjectAttr in
theorem Aid(self:aF):∀{own:lg aF},(own.all λa=>match a with|.ref _=>t8|_=>t7)=t8->refuseLoop self "__setattr__" (own ++ Ah8)=pure u9
 |[],_=>sS.passes self
 |.ref a::r,h=>by
  rw[tD,refuseLoop_ref];exact Aid self (by simpa using h)
open PySem.W PySem.Builtin PySem.Builtin.ObjectAttr in
nonrec def Bi9{prog:cD}{w:dW}{A:eQ}{E:aF->aO->Prop}{s:aO}{K:aB}{x C:aH}{o:tu}{name:t6}{v:aF}{t:aBn}{own:lg aF}(X:K.In s.heap)(k:s.heap.get? x=sr o)(O:o.cls=.ref C)(p:o.dict=sy)(F:∀c,o.data≠.cls c)(j:clsIn K C=sr t)(hm:t.mro=own ++ Ah8)(ho:(own.all λa=>match a with|.ref _=>t8|_=>t7)=t8)(hd:t.hasDict=t8)(hs:findIn K .ref[C] "__setattr__"=sr sr[.builtin["object.__setattr__"]])(hn:findIn K .ref[C] name=sr sy)(J:mroIn K C .type["object"]=sr t8)(h:∀d h' U,s.heap.get? d=sy->d≠x->h'.get? x=sr { o with dict:=sr d }->h'.Ns1 d (λy=>if y=name then sr v else sy)->(∀b ob,b≠x->s.heap.get? b=sr ob->h'.get? b=sr ob)->Q u9 { s with heap:=h',toks:=U }):
  wpAny (model prog w) A (setAttr .ref[x] name v) Q E s:=by
 let I:InstAt s.heap x o C sy:=(k,O,by unfold notCls;split <;> first|(rename_i z;exact absurd z F[_])|rfl,by rw[p];exact iU)
 refine set_plain X I hs ?_;let(f,g,dr,i,os):=s;dsimp only at X k I h ⊢
 let r:=sS;let sub:Looks (model prog w) f (isInstance .ref[x] .type["object"]) t8:=I.type.andThen[looks_mroIn X J];refine gB r.slot.plain r.entry (@check_slot (model prog w) _ _ (f,g,dr,i+1,os) "object.__setattr__" "object" "__setattr__" .ref[x] [.str name i,v] [] _ r.kind r.split sub r.args[.ref[x]][.str name i][v] ?_);let lm:Looks (model prog w) f mroOf[.ref[C]] t.mro:=(looks_clsIn X j).andThen .now;rw[osa_eq,refuse_eq];refine aA aA[I.type.here[aA[lm.here[?_]]]];rw[hm,Aid _ ho];refine aG aA[I.type.here[aA[(looks_findIn X hn).here aA[aG[?_]]]]];show wpAny _ _ (storeInOwnDict .ref[x] .ref[C] (.str name i) name v t7) _ _ _;unfold storeInOwnDict
 repeat (first|(with_reducible refine fK k ?_;rw[O])|wp_step)
 unfold clsIn at j;split at j
 .rename_i c0 dd cd0 Z hK;cases j;refine zU[X _ _ hK][aG ?_];let Y:typeHasDict bJ[C]=t8:=by simp[typeHasDict]
  simp only[hd,p,Y,pO,jK,if_false,aBd]
  .let l:(f.push { cls:=.type "dict",data:=.dict #[] }).get? x=sr o:=aC _ k;let ne:x≠f.objs.size:=bR aZ[k];refine aA wpAny_alloc'[?_];refine aA[wpAny_update' l ?_];refine aG ?_;generalize N:((f.push { cls:=.type "dict",data:=.dict #[] }).update x λo=>{ cls:=o.cls,dict:=sr f.objs.size,data:=o.data,slots:=o.slots })=h2;let g2:h2.get? f.objs.size=sr { cls:=.type "dict",data:=.dict #[] }:=by
    rw[<-N,vH _ _ _ _ ne.symm];exact aU _ rfl
   let S:h2.get? x=sr { o with dict:=sr f.objs.size }:=by
    rw[<-N];refine bW _ l ?_;let fr:=(Heap.get?_some_iff.mp k).2;let(oc,od,u,osl):=o;cases u <;> first|rfl|exact fr
   let n2:h2.Ns f.objs.size (λT=>sy):=(_,#[],_,g2,rfl,λe he=>absurd he (),λT=>rfl)
   show wpAny _ _ (storeInDict f.objs.size (.str name i) name v) _ _ _;unfold storeInDict newKeyGuard;refine aA aG[aA[aBr wI[n2] λh' n m=>?_]];let(oD,esD,epD,B,G,H):=n.count[Within.cons name v Within.nil];refine aA (xY B (by rw[G];exact xZ[aD H (by rw[fD,pY,rN];omega)]) ?_)
   wp_walk
   refine h f.objs.size h' _ gU[aN[_]] ne.symm ((m.2 x ne).trans S) n λb ob J q=>?_;refine(m.2 b bR[aZ[q]]).trans ?_;rw[<-N,vH _ _ _ _ J];exact aC _ q
 .cases j
end
abbrev Abf(C:aH)(od:o9 aH)(t:aH):tu:={ cls:=.ref C,dict:=od,data:=.fields #[.ref t,.none,.none,.none,.bool t7,.none] }
section
variable{t:Nat}
def Bcw{prog:cD}{w:dW}{A:eQ}{E:aF->aO->Prop}{h:dI}{g:Array uK}{d:aBk}{os:aBu}{r q:t6}{C N e n:aH}{bs tl i:lg aF}{f:Bool}{p:lg t6}{sub:lg aF}{H:Bool}{k:o9 Bool}{G m:o9 aH}{k0 x v u s:o9 aF}{B newId initId:String}{rest:lg aF}(F:wV B newId initId i)(T:aBt h i tl)(z:h.get? C=sr[excClassObj r q C N bs tl f p sub H k G k0 x v u s newId])(j:h.get? e=sr[Abf C m n])(I:rest.length<=sizeLine)(go:∀h' o,h'.get? e=sr[Abf C m o]->(∀b ob,b≠e->h.get? b=sr ob->h'.get? b=sr ob)->Q .none (h',g,d,t,os)):
  wpAny (model prog w) A (call .builtin[initId] (.ref e::rest)) Q E (h,g,d,t,os):=by
 refine jX gB[F.init.plain][F.initEntry][wpAny_check_init_subT F T z j rfl ?_];let ne:e≠h.objs.size:=bR aZ[j]
 wp_walk
 refine go _ h.objs.size ?_ λb ob y q=>?_
 .rw[bW _ (aC _ j) rfl];rfl
 .rw[bT _ _ y.symm];exact aC _ q
end
abbrev Ahh(K:aB)(C fI:aH):Bool:=xiO K C sr[.ref[fI]]
structure XsK(K:aB)(C:aH)(f:t6):Prop where
 cls:∃cd own,sJ K C=sr cd/\cd.mro=own ++ Ah8/\(own.all λa=>match a with|.ref _=>t8|_=>t7)=t8/\cd.hasDict=t8
 sa:cF K (.ref C) "__setattr__"=sr (sr (.builtin "object.__setattr__"))
 no:cF K (.ref C) f=sr sy
 ob:mF K C (.type "object")=sr t8
structure XbK(K:aB)(B:aH):Prop where
 g:rP K (.ref B) "__getattribute__"=sr (sr (.builtin "type.__getattribute__"))
 r:zF K B (.type "type")=t8
 f:zG K (.ref B) (.type "type") "__init__"=sr (.val (.builtin "ValueError.__init__"))
def Jw(e C:aH)(od:o9 aH):HO:=.ext λh=>∃t,h.get? e=sr[Abf C od t]
def Akh(q:h.get? e=sr[Abf C b t]):Ek P w H h e (Jw e C b):=(
 ((t,q),(_,q),λ_ _ ⟨t',p⟩ k=>(t',k _ p)))
def Aui(h:attributeBase o name env (eval o env)=eval o env)(few:methodCallForm b.length backTo[a][starEach b env] backToKw[a][keywordEach [] env]=t8)(i:(g.endLine==a.line)=t8):
  eval (.Call (.Attribute o name g) b [] a) env=(do
   let d<-eval o env
   standAt g.atName
   let (f,first)<-holding [d] (getMethod d name (do return (<-importBound o env).getD t8))
   callWith a f first (backTo a (starEach b env)) backToKw[a][keywordEach [] env]):=by
 let e:eval (.Call (.Attribute o name g) b [] a) env=(do
   let d<-_
   _
   methodCall o name g a env d b.length ..):=rfl
 rw[e,h];unfold methodCall methodCallPos;rw[few,i];rfl
def Bja(K:aB)(ta:TA):TE:=λσ H Q=>ta σ H λvs H1=>∃e C fI od rest,vs=.ref e::rest/\H1 e=sr[Jw e C od]/\Ahh K C fI=t8/\rest.length<=sizeLine/\Q .non H1
def Bnj(K:aB)(ta tv:TE)(f:t6):TS:=λD σ H=>tv σ H λy H1=>ta σ H1 λx H2=>∃e C,x=.ref e/\H2 e=sr[Jw e C sy]/\XsK K C f/\∀d,H2 d=sy->D.nx σ (upd upd[H2][e][Jw e C sr[d]] d .xd[[(f,y)]])
section
def Axf(hg:Gl X x)(Z:X.mg x=sr .ref[B])(b:XbK X.K B)(ha:PA X (a::d) A)(hd:(x==("__debug__":t6))=t7)(i:starEach (a::d) X.env=(u6 t7 (eval a X.env))::starEach d X.env)(U:(backTo c (starEach d X.env)).any (·.1)=t7)(few:methodCallForm (a::d).length backTo[c][starEach (a::d) X.env] backToKw[c][keywordEach [] X.env]=t8)(ao:(aj.endLine==c.line)=t8):
  PE[X][.Call .Attribute[.Name x np]["__init__"][aj] (a::d) [] c][Bja X.K A]:=by
 intro aa s z H Q I h;refine PySem.W.methodCall_KW[K9 I hg Z ?_ hd][Aui rfl few ao];refine PySem.W.method_cls I.kIn b.g (PySem.W.cls_value I.kIn b.r b.f rfl ?_);let I0:=I.tok[s.toks+1];let v:=ha c aa _ z H _ I0 h;rw[i] at v ⊢
 refine tX[by trivial][pU ?_]
 refine thn v λus F ⟨vs,H2,I2,r2,e,C,fI,od,rest,ev,he,hx,hl,q⟩=>?_;subst ev;cases r2 with
 |@cons _ u _ ur G J=>
  obtain rfl:u=bJ e:=G;let((t,O),_,_):=(I2.hok e _ he);let(hh,g,dr,E,os):=F;let(tl,N,nm,qn,bs,o,sn,sub,ab,col,dd,k0,k1,k2,k3,k5,mN,hC,hN,Y,T):=Aj9 I2.kIn hx;refine Bcw fJ T hC O (J.length ▸ hl) λh' t' n k=>?_;let y:=I2.write (x:=e) (e:=e) (t':=E) (he ▸ iU) .inl[rfl] k (_,n) Akh[n];let eH:upd H2 e (Jw e C od)=H2:=funext λb=>by
   by_cases p:b=e
   .subst p;rw[Aq,he]
   .rw[Aj p]
  rw[eH] at y;exact(.non,H2,y,rfl,q)
def Bcx(ho:PE X o Z)(hv:PE X value T)(hs:swapsWith value sr[.Attribute o f p] G.line X.env=pure t7):PS[X][.Assign [.Attribute o f p] value G][Bnj X.K Z T f]:=by
 intro O s E H D I h;refine oZ (thn[hv O s E H _ I h] λu s1 ⟨y,H1,I1,ry,q⟩=>thn[ho O s1 E H1 _ I1 q] λov F ⟨x,H2,I2,rx,e,C,ex,he,k,q2⟩=>?_) hs;subst ex;obtain rfl:ov=bJ e:=rx;let((t,q1),_,_):=(show Ek X.prog X.w H2 F.heap e (Jw e C sy) from I2.hok e _ he);let(cd,own,c1,c2,c3,c4):=k.cls;refine Bi9 I2.kIn q1 rfl rfl (λc z=>by cases z) c1 c2 c3 c4 k.sa k.no k.ob λd h' U hd ne P J kp=>?_
 let Q:H2 d=sy:=by
  cases z:H2 d with
  |none=>rfl
  |some o=>
   let(ob,r):=(I2.hok d o z).there;rw[hd] at r;cases r
 let N:∀b,H2 b=sy->b≠e:=λb z w=>by rw[w,he] at z;cases z
 let bd:∀b o,F.heap.get? b=sr o->b≠d:=λb o z w=>by rw[w,hd] at z;cases z
 let Y:∀b o,H2 b=sr o->b≠d:=λb o z w=>by rw[w,Q] at z;cases z
 let a:∀b o,H2 b=sr o->b≠e->upd upd[H2][e][Jw e C sr[d]] d .xd[[(f,y)]] b=sr o:=λb o z w=>by rw[Aj[Y b o z],Aj w,z]
 let I3:Inv X O E (upd upd[H2][e][Jw e C sr[d]] d .xd[[(f,y)]]) { F with heap:=h',toks:=U }:=by
  refine I2.un (λb o q n m m=>kp b o (N b n) q,λb o q n m m=>(o.slots,kp b o (N b n) q),λb o q n m=>by rwa [Aj[bd b o q],Aj[N b n]],λb o q m=>?_,λb S q=>a b _ q λw=>by (rw[w,he] at q;cases q),λb o v q=>a b _ q λw=>by (rw[w,he] at q;cases q),λb ps q=>(#[],by (exact lM ▸ a b _ q λw=>by rw[w,he] at q;cases q))) λb o q=>?_
  .by_cases A:b=e
   .exact(_,A ▸ P)
   .exact(o,kp b o A q)
  .by_cases A:b=d
   .subst A;rw[Aq] at q;cases q;refine(_,J,λg=>?_);rw[dF];by_cases L:g=f
    .subst L;rwa [beq_self_eq_true,di rfl]
    .rw[dm L,beq_eq_false_iff_ne.mpr L];exact iU
   .rw[Aj A] at q;by_cases l:b=e
    .subst l;rw[Aq] at q;cases q;exact Akh (t:=t) P
    .rw[Aj l] at q;refine(I2.hok b o q).stay (λc v hc z=>kp c v (λw=>?_) z) (λc z=>a c _ z λw=>by rw[w,he] at z;cases z) λc S z=>a c _ z λw=>by rw[w,he] at z;cases z
     rcases hc with rfl|hc
     .exact l w
     .rw[w,he] at hc;cases hc
 exact(E,_,I3,q2 d Q)
end
def Aki(C:aH)(f:t6):Sp:=λvs H Q uw=>∃e n u,vs=[.ref e,n,u]/\H e=sr[Jw e C sy]/\∀d,H d=sy->Q .non (upd upd[H][e][Jw e C sr[d]] d .xd[[(f,n)]])
section
def Bhd{P:cD}{w:dW}{K:aB}{mg:t6->o9 aF}{base:dI}{cm:Bool}{x qual B fld a b c:t6}{st:cO}{f C m r:aH}{fd:dN}{k:Nat}{np z p1 p2 v N p3 Z Y l:o8}(F:Fun K x qual st f fd)(Sc:Hn [a,b,c] [a,b,c] Am[st])(hb:Bc st=[.Expr (.Call .Attribute[.Name B np]["__init__"][z] [.Name a p1,.Name c p2] [] v) N,.Assign [.Attribute (.Name a p3) fld Z] (.Name b Y) l])(hm:mg B=sr .ref[m])(S:XbK K m)(L:XsK K C fld)(O:Ahh K C r=t8)(hg:(Am st).names.lookup B=sr .globalImplicit)(o:Apn Am[st] a=t8)(X:Apn Am[st] b=t8)(U:Apn Am[st] c=t8)(dB:(B==("__debug__":t6))=t7)(t:([a,b,c].all λy=>!(y==("__debug__":t6))&&!(y==("__classdict__":t6)))=t8)(hl:(z.endLine==v.line)=t8):Hw P w K mg base (CXo P w) (k+1) f fd [a,b,c] (Aki C fld) cm:=by
 simp only[eN,List.all_nil,Bool.and_true,aL,iC] at t;let((I,G),(b1,b2),c1,c2):=t;refine Fun.okX F Sc (λT H Q E h=>?_) λcdv A outer s H T Q E rm h=>?_
 .let(e,n,u,rfl,_):=h;rfl
 .let(e,n,u,rfl,p,q):=h;rw[hb];refine(_,Amd (Arb (Axf (x:=B) (B:=m) hg hm S (Xh (Aer (i:=0) rfl Ae5[o] I G) (Xh (Aer (i:=2) rfl Ae5[U] c1 c2) Aj1 rfl) rfl) dB rfl rfl rfl hl) rfl)
   (Ara (Bcx (Aer (i:=0) rfl Ae5[o] I G) (Aer (i:=1) rfl Ae5[X] b1 b2) rfl)),?_)
  refine(_,rfl,_,rfl,e,C,r,sy,[u],rfl,p,O,(by show 1<=sizeLine;decide),?_)
  refine(_,rfl,_,rfl,e,C,rfl,p,L,λd dn=>q d dn)
end
section
def Inv.madeX(I:Inv X w j H s)(d:mR s.heap h' e .ref[C] h):Inv X w j upd[H][e][Jw e C sy] { s with heap:=h' }:=by
 let ne:∀{b:aH} {o:tu},s.heap.get? b=sr o->b≠e:=λq z=>by rw[z,d.new] at q;cases q
 let f:∀{b:aH} {u:HO},H b=sr u->b≠e:=λq=>by
  let(o,l):=(I.hok _ _ q).there;exact ne l
 let(t,r,_,_):=d.there;refine I.step (ch:=[]) (λc z=>nomatch z) (λb o c c c q c=>d.keeps b o q) (λb o c c c q c=>(o.slots,d.keeps b o q)) (λb o c q n=>(Aj ne[q]) ▸ n)
  (λb o c q=>(o,d.keeps b o q)) (λb k q=>(Aj f[q]) ▸ q) (λb o u q=>(Aj f[q]) ▸ q) (λb ps q=>(#[],(Aj f[q]) ▸ q)) (λm p=>p.keeps d.keeps) (λa u q=>?_) I.bare
 by_cases g:a=e
 .subst g;rw[Aq] at q;cases q;exact Akh r
 .rw[Aj g] at q;exact(I.hok a u q).stay (λb v c z=>d.keeps b v z) (λb z=>(Aj f[z]) ▸ z) λb k z=>(Aj f[z]) ▸ z
end
section
def Axg(f:tl.contains .type["BaseException"]=t8)(d:A.handled=sy)(h:wpAny M A x (λv a=>∃e b t,v=.ref e/\a.heap.get? C=sr[excClassObj nm q C N bs tl hdct sn sub ab col dd k0 k1 k2 k3 k5 newId]/\a.heap.get? e=sr[Abf C b t]/\E .ref[e] a) E s):
  wpAny M A (raiseStmt env sr[x] sy) Q E s:=by
 let has:(bJ C::tl).contains .type["BaseException"]=t8:=by rw[rB,f,tY]
 unfold raiseStmt;refine aA[cX h (λv a z=>?_) λc c z=>z];let(e,b,t,rfl,i,j,g):=z
 repeat (first|rfl|rfl|(with_reducible apply qI i;rw[has])|wp_step)
 exact wpAny_raiseNew_none d g
end
def Akj(X:Cx)(E:XK):Prop:=∀(aa:lg[aH×tu])(σ:St)(H:Hp)(s:aO)(e C:aH)(od:o9 aH),Inv X aa σ H s->X.s₀.heap.get? e=sy->H e=sr[Jw e C od]->(∀H',(∀b,b≠e->H' b=H b)->H' e=sy->E .ref[C] sr[u6 1 od] H')->X.xe .ref[e] s
def Bcy(ta:TA)(C:aH)(f:t6)(dvs:lg V)(E:XK):TS:=λuw σ H=>ta σ H λvs H1=>vs.length<=sizeLine/\∃n u,vs ++ dvs=[n,u]/\∀d,H1 d=sy->E .ref[C] sr[u6 1 sr[d]] (upd H1 d .xd[[(f,n)]])
def Auj{k:Nat}(hx:Ahh X.K C S=t8)(hk:cM X.K .ref[C]=t8)(a:iY X.K .ref[S]=sr .type["function"])(hex:X.ex=[])(hg:Gl X x)(hm:X.mg x=sr .ref[C])(hc:X.calm=t8)(hR:Akj X E)(F:Hw X.prog X.w X.K X.mg X.base (CXo X.prog X.w) k S fd ps (Aki C f) t8)(hr:Fx (k+1) X.A t8)(hb:Binds X.K fd ps Y)(hd:Vals y Y)(ha:PA X (c::U) ta)(hdb:(x==("__debug__":t6))=t7)(he:starEach (c::U) X.env=(u6 t7 (eval c X.env))::starEach U X.env)(hpl:(backTo j (starEach U X.env)).any (·.1)=t7):
  PS[X][.Raise sr[.Call (.Name x np) (c::U) [] j] sy pos][Bcy ta C f y E]:=by
 intro aa s σ H D I h;let(tl,N,nm,qn,bs,hdct,sn,sub,ab,col,dd,k0,k1,k2,k3,k5,mN,hC,hN,hni,T):=Aj9 I.ok.mod.kin hx;rw[aAh];refine aA (gZ (Axg (C:=C) (nm:=nm) (q:=qn) (N:=N) (bs:=bs) (tl:=tl) (hdct:=hdct) (sn:=sn) (sub:=sub) (ab:=ab) (col:=col) (dd:=dd) (k0:=k0) (k1:=k1) (k2:=k2) (k3:=k3) (k5:=k5) (newId:="ValueError.__new__") T.hasType[fJ.hasBase] I.ok.hd[hc] ?_));refine aA eU[K9 I hg hm ?_ hdb];refine jG (h₀:=X.base) I.ok.mod.kin hk (thn[ha j aa s σ H _ I h] λm s1 ⟨vs,H1,I1,r,hz,n,u,hnu,q⟩=>(I1.kIn,?_)) he hpl;obtain⟨Z,lI,cI⟩:∃Z,X.K.lookup S=sr Z/\Z.cls=.type "function":=by
  let a:aDo[λo:tu=>o.cls][X.K.lookup S]=sr .type["function"]:=a;cases z:X.K.lookup S with
  |none=>rw[z] at a;cases a
  |some o=>rw[z] at a;exact(o,rfl,bY a)
 let(hh,g,dr,tk,os):=s1;refine Arm fJ T.keeps[I1.bk] (I1.bk _ _ hC) hN.keeps[I1.bk] hni (I1.kIn _ _ lI) cI (by simp only[nZ];rwa [<-r.length]) λh' e hmade=>?_
 let I2:=I1.madeX hmade;let r2:Vals (V.ref e::(vs ++ y)) (bJ e::(m ++ Y)):=.cons rfl r.append[hd];let J:Aki C f (V.ref e::(vs ++ y)) upd[H1][e][Jw e C sy] (λv H2=>v=.non/\∃d,upd H1 e (Jw e C sy) d=sy/\H2=upd upd[upd[H1][e][Jw e C sy]][e][Jw e C sr[d]] d .xd[[(f,n)]]) (λuw uw uw=>False):=(e,n,u,by rw[hnu],Aq,λd B=>(rfl,d,B,rfl))
 let P:(bJ e::m ++ Y).length=ps.length:=by
  let z:=r2.length;rw[F.len _ _ _ _ J] at z;exact z.symm
 refine jX[gQ[F.run _ X.stack _ _ (bJ e::m,[]) (bJ e::(m ++ Y)) _ _ _ (hr.make C m []) (I2.env0.make C m []) (hb _ (bJ e::m) I2.kIn P) r2 J] λrr s' L=>?_]
 match rr,L with
 |.error e',L=>let(_,_,_,_,_,_,_,z):=L;exact z.elim
 |.ok (.ret v),L=>
  let(v',H',I3,rv,ev,d,B,eH):=I2.after L;subst ev;refine(rv,aA gZ[aG[?_]]);let de:d≠e:=λz=>by rw[z,Aq] at B;cases B
  rw[Aj de] at B;let Q:H' e=sr[Jw e C sr[d]]:=by rw[eH,Aj de.symm,Aq]
  let((t,q1),_,_):=(show Ek X.prog X.w H' s'.heap e (Jw e C sr[d]) from I3.hok e _ Q);let h1e:H1 e=sy:=by
   cases z:H1 e with
   |none=>rfl
   |some o=>
    let(ob,O):=(I1.hok e o z).there;rw[hmade.new] at O;cases O
  refine(e,sr d,t,rfl,I3.bk _ _ hC,q1,hR aa σ H' s' e C sr[d] I3 ?_ Q λH'' hk' hn=>?_)
  .cases z:X.s₀.heap.get? e with
   |none=>rfl
   |some o=>
    let(o',z1):=I1.base.there e o z (by simp_all)
    rw[hmade.new] at z1;cases z1
  .let eq:H''=upd H1 d .xd[[(f,n)]]:=funext λb=>by
    by_cases i:b=e
    .rw[i,hn,Aj de.symm,h1e]
    .rw[hk' b i,eH];by_cases p:b=d
     .rw[p,Aq,Aq]
     .rw[Aj p,Aj i,Aj i,Aj p]
   exact eq ▸ q d B
section
def Xl(H:Hp)(e:aH):Hp:=λb=>if b=e then sy else H b
def Fb(h:b≠e):Xl H e b=H b:=dm h
def Mu:Xl H e e=sy:=di rfl
def Qu(h:Xl H e b=sr u):b≠e/\H b=sr u:=by
 by_cases a:b=e
 .rw[a,Mu] at h;cases h
 .rw[Fb a] at h;trivial
def Inv.fly_held(I:Inv X aa σ H s)(P:Stk X)(O:Frm X)(hex:X.ex=[])(h0:X.s₀.heap.get? e=sy)(h:H e=sr[Jw e C U])(k:∀c:dI,Fly X.prog X.w X.outer X.H₀ X.s₀ (Xl H e) e .ref[C] { s with heap:=c }->R6 0 c e U->Q u9 { s with heap:=c }):wpAny M X.A (leaving X.env .ref[e]) Q E s:=by
 let((t,ho),_,_):=(show Ek X.prog X.w H s.heap e (Jw e C U) from I.hok e _ h);let N:∀env∈X.stack,∀a,env.frame=sr a->a∈e::frs X.stack:=λenv z a r=>aR _ (gA.mpr (env,z,r));let ff:s.heap.FunFrames (cY s.heap (e::frs X.stack)) (X.env::X.outer):=P ▸ oW I.stack N;let noex:∀b,b∉X.ex:=λb z=>by simp_all
 let Y:e∉frs X.stack:=λz=>by
  let n:=I.stkFree e z;rw[h] at n;cases n
 let p:(cY s.heap (e::frs X.stack)).get? e=sy:=mQ _ aX;refine Arf (n:=0) (B:=cY s.heap (e::frs X.stack)) (a0:=.ref t) (by rw[I.ok.frames,P]) ff O ho (λb o z=>lL _ z) p rfl rfl rfl (λF=>rfl) λc hL cx=>k c ?_ cx
 let(G,(_,_,x2),x3,Z):=hL;let d:∀b o,s.heap.get? b=sr o->b∉frs X.stack->b≠e->c.get? b=sr o:=λb o q n z=>G b o eG[_][q][by simp[n,z]]
 let y:∀b o,s.heap.get? b=sr o->b∈frs X.stack->∃L,c.get? b=sr { o with slots:=L }:=λb o q hb=>by
  let(_,l,T,nf):=I.stack.mem hb;rw[q] at T;cases T;exact Z b o q nf
 let f:∀{b:aH} {o:tu},X.s₀.heap.get? b=sr o->b≠e:=λq z=>by grind
 refine(I.os,I.bare,(λb o q n hb F=>?_,λb o q n hb F=>?_,λb o q n F=>?_,λb o q F=>?_,λb S q=>?_,λb o u q=>?_,λb ps q=>?_),λa u q=>?_,h0,Mu,?_)
 .exact d b o (I.base.keep b o q n hb noex[b]) (I.notStk q hb) f[q]
 .let(L,g):=I.base.slot b o q n hb noex[b];let(J,j):=y b _ g (I.fsStk P b hb);exact(J,j)
 .rw[Fb f[q]];exact I.base.free b o q n noex[b]
 .let(l,g):=I.base.there b o q noex[b];by_cases hb:b∈frs X.stack
  .let(L,j):=y b l g hb;exact(_,j)
  .exact(l,d b l g hb f[q])
 .let z:=I.base.tups b S q;rw[Fb (λw=>by rw[w,h] at z;cases z)];exact z
 .let z:=I.base.frzs b o u q;rw[Fb (λw=>by rw[w,h] at z;cases z)];exact z
 .let(m,z):=I.base.tbls b ps q;exact(m,by rw[Fb (λw=>by rw[w,h] at z;cases z)];exact z)
 .let(r,q):=Qu q;refine(I.hok a u q).stay (λb v hb z=>d b v z (λm=>?_) ?_) (λb z=>?_) λb S z=>?_
  .let n:=I.stkFree b m;rcases hb with rfl|hb
   .rw[n] at q;cases q
   .rw[n] at hb;cases hb
  .rcases hb with rfl|hb
   .exact r
   .rintro rfl;rw[h] at hb;cases hb
  .rw[Fb (λw=>by rw[w,h] at z;cases z)];exact z
  .rw[Fb (λw=>by rw[w,h] at z;cases z)];exact z
 .refine(_,_,(G,p,x2,x3),λb o q n hb=>eG[_][I.base.keep b o q n hb noex[b]][by simp[I.notStk q hb,f q]],λb o q hb=>?_,λa u o q z=>?_)
  .let(l,g):=I.base.there b o q noex[b];exact(l,eG _ g (by simp[I.notStk q hb,f q]))
  .let(r,q):=Qu q;let(ob,g):=(I.hok a u q).there;let j:=eG (e::frs X.stack) g (by
    let n:a∉frs X.stack:=λm=>by
     let n:=I.stkFree a m;rw[n] at q;cases q
    simp[n,r])
   let q3:=G a ob j;let z:c.get? a=sr o:=z;rw[q3] at z;cases z;exact j
end
structure XfK(K:aB)(C:aH)(f:t6):Prop where
 k:W3 K C
 hd:mJ K C=t8
 no:cF K (.ref C) f=sr sy
section
variable{prog:cD}{w:dW}{A:eQ}{E:aF->aO->Prop}{h:dI}{g:Array uK}{d:aBk}{t:Nat}{os:aBu}{a C:aH}{o:tu}{od:o9 tu}{K:aB}{f:t6}{v:aF}
open PySem.W in
def Axh{b:Tok}(k:K.In h)(I:InstAt h a o C od)(hf:findObj K C od f=sr .value[v])(c:Q .done[.ret v] (h,g,d,t,os)):
  wpAny (model prog w) A (jY.«object.__getattribute__» ([.ref a,.str f b],[])) Q E (h,g,d,t,os):=by
 let j:=I.type (M:=model prog w);let i:=looks_find (M:=model prog w) k I hf;refine aA aG[aA[aG[aA[j.at[aA[i.at[?_]]]]]]];exact aG c
open PySem.W in
def Bjb(c:K.In h)(i:W3 K C)(I:InstAt h a o C od)(hf:findObj K C od f=sr .value[v])(p:handedIn v=t8)(n:Q v (h,g,d,t+1,os)):
  wpAny (model prog w) A (getAttr .ref[a] f b) Q E (h,g,d,t,os):=by
 let j:=I.at_;let k:=I.cls;let s:=oX.ga.bind .ref[a];let m:(b&&onTheHeap iV["BaseException.__getattribute__"])=t7:=by cases b <;> rfl
 let e:(iV "BaseException.__getattribute__"==iV "object.__getattribute__")=t7:=by decide +kernel
 let l:(onTheHeap bJ[C]&&iV "BaseException.__getattribute__"==iV "object.__getattribute__")=t7:=by rw[e];rfl
 let r:Looks[model prog w][h][typeLookup .ref[C] "__getattribute__"][sr .builtin["BaseException.__getattribute__"]]:=looks_findIn c i.ga;let q:Looks (model prog w) h (typeLookup .ref[C] "__getattr__") sy:=looks_findIn c i.gn;unfold getAttr getAttrBy;refine aA wpAny_mkText[?_]
 repeat (any_goals (first|assumption|(with_reducible refine fK j ?_;rw[k])|(with_reducible first|refine r.at ?_|refine q.at ?_)|wp_step))
 refine gB oX.ga.plain yZ (Xk c i j k (Axh c I hf ?_));show wpAny _ _ handedOut[v] _ _ _;rw[handedOut_of p];exact aG n
end
def Bnk(K:aB)(ta:TE)(f:t6):TE:=λσ H Q=>ta σ H λx H1=>(∃a C dx fs v,x=.ref a/\H1 a=sr[.ins C dx fs]/\Cls K C/\Qs K C f/\fs.lookup f=sr v/\Q v H1)\/
 ∃a C n d v,x=.ref a/\H1 a=sr[Kz a .ref[C] sr[u6 n sr[d]]]/\H1 d=sr .xd[[(f,v)]]/\XfK K C f/\Q v H1
def Bcz(Z:PE X e J)(hb:attributeBase e f X.env (eval e X.env)=eval e X.env):PE[X][.Attribute e f N][Bnk X.K J f]:=by
 intro aa s B H Q I h;refine Attribute_any_[thn[Z aa s B H _ I h] λu L ⟨x,H1,I1,rx,z⟩=>?_][by rw[arm_eval_Attribute,hb]]
 rcases z with ⟨a,C,dx,fs,v,ex,r,c,n,l,q⟩|⟨a,C,n,d,v,ex,r,ed,m,q⟩
 .subst ex;obtain rfl:u=bJ a:=rx;exact Apb I1 r c n l λG s2 I2 j=>(v,H1,I2,j,q)
 .subst ex;obtain rfl:u=bJ a:=rx;let(((ob,vs,y,P,O),ok),_,_):=(I1.hok a _ r);let(S,F,t,z2,_,E):=ok n sr[d] rfl;rw[y] at t;cases t;let(T,p,U):=(I1.hok d _ ed);let(od,ho,Y):=Ahy p;let(G,hu,j):=Wa.some_of (v:=v) (o:=T f) (by
   let z:=U f;rw[dF,beq_self_eq_true] at z;exact z)
  let(hh,g,dr,tk,os):=L;refine Bjb I1.kIn m.k (y,P,by unfold PySem.W.notCls;rw[O],by rwa [E]) (vB m.hd m.no rfl (by rw[Y,hu])) Ahz[j] (v,H1,I1.tok _,j,q)
section
def Ahi:entryFor table "proto.unchain"=sr jY.«proto.unchain»:=by rfl'
def Apq(g:s.heap.get? a=sr c)(f:c.data=.fields b)(d:b[2]?=sr .none)(k:Q .none s):
  wpAny (model prog w) A runValue[.builtin "proto.unchain" ([.ref e,.ref a,.ref a,.bool t7],[])] Q E s:=(aAi[iM Ahi aA[dJ g f d aG[k]]])
def Auk(O:tl.contains .type["BaseException"]=t8)(J:A.handled=sr .ref[f])(L:∀s (Q:aF->aO->Prop),Q .none s->wpAny (model prog w) A c Q E s)(h:wpAny (model prog w) A x (λv a=>∃e o t,v=.ref e/\e≠f/\e≠C/\a.heap.get? C=sr[excClassObj nm q C N bs tl hdct sn sub ab col dd k0 k1 k2 k3 k5 newId]/\a.heap.get? e=sr[Abf C o t]/\
   (∃p l,a.heap.get? f=sr p/\p.data=.fields l/\l[2]?=sr .none)/\
   ∀(h':dI)(ob:tu)(k:Array aF),h'.get? e=sr ob->ob.cls=.ref C->ob.dict=o->ob.data=.fields k->k[0]?=sr .ref[t]->k[1]?=sr .none->(∀b,b≠e->h'.get? b=a.heap.get? b)->E .ref[e] { a with heap:=h' }) E s):
  wpAny (model prog w) A (raiseStmt env sr[x] sr[c]) Q E s:=by
 let has:(bJ C::tl).contains .type["BaseException"]=t8:=by rw[rB,O,tY]
 unfold raiseStmt;refine aA[cX h (λv a z=>?_) λG G z=>z];let(e,o,t,rfl,ne,Y,F,B,(p,l,U,T,S),P):=z;let(hp,g,d,y,os):=a;refine aA eV[L _ _ aA[aG[?_]]];show wpAny _ _ (do let _<-holding _ (excFromValue _ _);_) _ _ _
 repeat (first|(with_reducible refine fK B ?_)|(with_reducible refine fK F ?_)|(with_reducible refine qI F ?_;rw[has])|wp_step)
 let I:=bW[fV λx=>x.setIfInBounds 3 fY][B][by rfl]
 let m:=bW[fV λx=>x.setIfInBounds 4 tM[t8]][I][by rfl]
 generalize r:aCq aCq[hp][e][fV λx=>x.setIfInBounds 3 fY] e (fV λx=>x.setIfInBounds 4 tM[t8])=u at m ⊢
 let j:∀b,b≠e->u.get? b=hp.get? b:=λb n=>by
  rw[<-r,bT _ _ bN[n],bT _ _ bN[n]]
 unfold raiseNew;refine aA vP[?_];rw[J];dsimp only;rw[di (show (bJ f != bJ e)=t8 by simpa using bN ne)]
 refine aA (eV (Apq (s:=(u,g,d,y,os)) ((j f bN[ne]).trans U) T S aA[?_]));show wpAny _ _ (setField .ref[e] 2 .ref[f]) _ _ _;refine fU (s:=(u,g,d,y,os)) (x:=.ref f) (i:=2) m rfl (by show 2 < 6;decide) uM[?_]
 let H:=bW[fV λx=>x.setIfInBounds 2 bJ[f]][m][by rfl]
 exact P _ _ _ H rfl rfl rfl rfl rfl λb n=>(bT _ _ bN[n]).trans (j b n)
end
section
theorem Inv.fly_suite(I:Inv X aa σ H s)(bf:Stk X)(Q:Frm X)(hex:X.ex=[])(hp:Xi X E)(h0:X.s₀.heap.get? e=sy)(f:H e=sr[Jw e C Z])
(ho:h'.get? e=sr ob) (hc:ob.cls=.ref C) (hd:ob.dict=Z) (dt:ob.data=.fields vs) (v0:vs[0]?=sr a0) (v1:vs[1]?=sr .none) (h:∀b,b≠e->h'.get? b=s.heap.get? b)
(hA:A'.frames=X.A.frames) (q:E σ .ref[C] sr[u6 1 Z] (Xl H e)):notedBy (model X.prog X.w) A' X.env (cameBackBy (model X.prog X.w) X.A X.env X.xe) .ref[e] { s with heap:=h' }:=by
 let((t,O),_,_):=(show Ek X.prog X.w H s.heap e (Jw e C Z) from I.hok e _ f);let hin:∀env∈X.stack,∀a,env.frame=sr a->a∈e::frs X.stack:=λenv z a l=>aR _ (gA.mpr (env,z,l));let fr0:h'.FunFrames X.base X.stack:=I.stack.of_keeps λb o z n=>by
  by_cases hb:b=e
  .subst hb;rw[O] at z;cases z;exact absurd rfl n[_]
  .exact(o,(h b hb).trans z,rfl)
 let ff:h'.FunFrames (cY h' (e::frs X.stack)) (X.env::X.outer):=by rw[<-bf];exact oW fr0 hin
 let noex:∀b,b∉X.ex:=λb z=>by simp_all
 let P:(cY h' (e::frs X.stack)).get? e=sy:=mQ _ aX;show wpAny _ _ (noteFrame .ref[e] X.env) _ _ _;refine Aw1 (n:=1) (s:={ s with heap:=h' }) (B:=cY h' (e::frs X.stack)) (by rw[hA,I.ok.frames,bf]) ff Q ho (λb o z=>lL _ z) P dt v1 v0 (λz=>absurd z ()) λg N cx=>?_
 let(oe,ws,T,oT,ts,q1,hc1,dt1,w1,nT,nTe,qT,dT,t3):=id N.2.2.1;unfold cameBackBy;refine aA (dJ (s:={ s with heap:=g }) q1 dt1 w1 ?_)
 rw[dm (show ¬ ((bJ T==fY)=t8) from by simp)]
 refine Arh (s:={ s with heap:=g }) (o:=sr[u6 1 ob.dict]) X.env.frame N.1 N.2.1 N.2.2.1 cx.okS λp kg fg tg og smg=>?_
 rw[hc] at tg;rw[hd] at og;let up:∀{b:aH} {o:tu},s.heap.get? b=sr o->b∉frs X.stack->b≠e->(cY h' (e::frs X.stack)).get? b=sr o:=λ{b o} z n w=>eG[_][(h b w).trans z][by simp[n,w]]
 let c:∀{b:aH} {o:tu},s.heap.get? b=sr o->b∉frs X.stack->b≠e->p.get? b=sr o:=λz n w=>kg _ _ (up z n w);let j:∀{b:aH} {o:tu},s.heap.get? b=sr o->b∈frs X.stack->∃Y,p.get? b=sr { o with slots:=Y }:=λ{b o} z hb=>by
  let(_,o',z',nf):=I.stack.mem hb;rw[z] at z';cases z';let be:b≠e:=λw=>by
   rw[w,O] at z;cases z;exact nf _ rfl
  let(Y,d):=N.2.2.2 b o ((h b be).trans z) nf;let(sl',z2):=smg b _ d nf;exact(sl',z2)
 let L:∀{b:aH} {o:tu},X.s₀.heap.get? b=sr o->b≠e:=λz w=>by rw[w,h0] at z;cases z
 let G:∀{b:aH},H b=sy->b≠e:=λz w=>by rw[w,f] at z;cases z
 let F:∀b,b≠X.env.locals->b∉X.fs->b∉frs X.stack:=λb h1 U z=>(aW.mp[I.stkSub b z]).elim h1 U;let J:Inv X aa σ (Xl H e) { s with heap:=p }:=by
  refine I.step (s:=s) (g':=s.gens) (d':=s.drawn) (t':=s.toks) (h':=p) (ch:=[]) (λy z=>nomatch z) (λb o h1 U y z n=>c z (F b h1 U) G[n]) (λb o y U y z n=>j z (I.fsStk bf b U)) (λb o y z n=>by rw[Fb G[n]];exact n) (λb o y z=>?_)
   (λb xs z=>by rw[Fb (λw=>by rw[w,f] at z;cases z)];exact z) (λb o u z=>by rw[Fb (λw=>by rw[w,f] at z;cases z)];exact z) (λb ps z=>(#[],by rw[Fb (λw=>by rw[w,f] at z;cases z),lM];exact z)) (λm hm=>?_) (λa u z=>?_) I.bare
  .by_cases hb:b∈frs X.stack
   .let(Y,d):=j z hb;exact(_,d)
   .by_cases S:b=e
    .let(oe',_,_,_,_,d,_):=tg;rw[S];exact(oe',d)
    .exact(o,c z hb S)
  .let(o,es,ep,hoL,r):=hm;let(Y,d):=j hoL (I.locStk bf Q);exact(_,es,ep,d,r)
  .let(l,z):=Qu z;refine(I.hok a u z).stay (λb v hb w=>c w (λm=>?_) ?_) (λb w=>?_) λb xs w=>?_
   .let n:=I.stkFree b m;rcases hb with rfl|hb
    .rw[n] at z;cases z
    .rw[n] at hb;cases hb
   .rcases hb with rfl|hb
    .exact l
    .rintro rfl;rw[f] at hb;cases hb
   .rw[Fb (λw'=>by rw[w',f] at w;cases w)];exact w
   .rw[Fb (λw'=>by rw[w',f] at w;cases w)];exact w
 let fg':p.FunFrames (cY h' (e::frs X.stack)) X.stack:=by simp_all
 refine hp aa σ _ _ e .ref[C] sr[u6 1 Z] J Mu h0 (_,a0,_,kg,P,fg',tg,λb o z n hb=>up[I.base.keep b o z n hb noex[b]][I.notStk z hb][L z],λb o z hb=>?_,λa u o z w=>?_) og q
 .let(o',d):=I.base.there b o z noex[b];exact(o',up d (I.notStk z hb) L[z])
 .let(l,z):=Qu z;let(o',d):=(I.hok a u z).there;let n:a∉frs X.stack:=λm=>by
   let n:=I.stkFree a m;rw[n] at z;cases z
  let w:p.get? a=sr o:=w;rw[c d n l] at w;cases w;exact up d n l
end
def Bc0(X:Cx)(E:St->XK):Prop:=∀(aa:lg[aH×tu])(σ:St)(H:Hp)(s:aO)(e C:aH)(od:o9 aH)(h':dI)(ob:tu)(vs:Array aF)(a0:aF),Inv X aa σ H s->X.s₀.heap.get? e=sy->H e=sr[Jw e C od]->
 h'.get? e=sr ob->ob.cls=.ref C->ob.dict=od->ob.data=.fields vs->vs[0]?=sr a0->vs[1]?=sr .none->(∀b,b≠e->h'.get? b=s.heap.get? b)->E σ .ref[C] sr[u6 1 od] (Xl H e)->X.xe .ref[e] { s with heap:=h' }
def Arn(ta:TA)(C:aH)(f:t6)(dvs:lg V)(ea:aH)(E:St->XK):TS:=λuw σ H=>ta σ H λvs H1=>vs.length<=sizeLine/\(∃cls od,H1 ea=sr[Kz ea cls sr[u6 0 od]])/\∃n u,vs ++ dvs=[n,u]/\∀d,H1 d=sy->E σ .ref[C] sr[u6 1 sr[d]] (upd H1 d .xd[[(f,n)]])
def Aul{k j:Nat}(hx:Ahh X.K C fI=t8)(hk:cM X.K .ref[C]=t8)(a:iY X.K .ref[fI]=sr .type["function"])(hex:X.ex=[])(hg:Gl X x)(hm:X.mg x=sr .ref[C])(hh:X.A.handled=sr .ref[ea])(hR:Bc0 X E)(F:Hw X.prog X.w X.K X.mg X.base (CXo X.prog X.w) k fI fd ps (Aki C f) cm)(hr:Fx (k+1) X.A cm)(hb:Binds X.K fd ps ds)(hd:Vals J ds)(ha:PA X (i::es) ta)(hdb:(x==("__debug__":t6))=t7)(he:starEach (i::es) X.env=(u6 t7 (eval i X.env))::starEach es X.env)(hpl:(backTo cpos (starEach es X.env)).any (·.1)=t7):
  PS[X][.Raise sr[.Call (.Name x np) (i::es) [] cpos] sr[.Constant .none j kpos] pos][Arn ta C f J ea E]:=by
 intro aa s σ H D I h;let(tl,N,nm,qn,bs,hdct,sn,sub,ab,col,dd,k0,k1,k2,k3,k5,mN,hC,hN,hni,T):=Aj9 I.ok.mod.kin hx;rw[aAh];refine aA (gZ (Auk (C:=C) (nm:=nm) (q:=qn) (N:=N) (bs:=bs) (tl:=tl) (hdct:=hdct) (sn:=sn) (sub:=sub) (ab:=ab) (col:=col) (dd:=dd) (k0:=k0) (k1:=k1) (k2:=k2) (k3:=k3) (k5:=k5) (newId:="ValueError.__new__") T.hasType[fJ.hasBase] hh (λs Q q=>?_) ?_))
 .exact aA aBe[aA[gZ[aG[q]]]]
 refine aA eU[K9 I hg hm ?_ hdb];refine jG (h₀:=X.base) I.ok.mod.kin hk (thn[ha cpos aa s σ H _ I h] λp s1 ⟨vs,H1,I1,r,hz,⟨cls,odA,hea⟩,n,u,hnu,q⟩=>(I1.kIn,?_)) he hpl;obtain⟨oI,lI,cI⟩:∃oI,X.K.lookup fI=sr oI/\oI.cls=.type "function":=by
  let a:aDo[λo:tu=>o.cls][X.K.lookup fI]=sr .type["function"]:=a;cases z:X.K.lookup fI with
  |none=>rw[z] at a;cases a
  |some o=>rw[z] at a;exact(o,rfl,bY a)
 let(hh',g,dr,tk,os):=s1;refine Arm fJ T.keeps[I1.bk] (I1.bk _ _ hC) hN.keeps[I1.bk] hni (I1.kIn _ _ lI) cI (by simp only[nZ];rw[<-r.length];exact hz) λh' e hmade=>?_
 let I2:=I1.madeX hmade;let r2:Vals (V.ref e::(vs ++ J)) (bJ e::(p ++ ds)):=.cons rfl r.append[hd];let S:Aki C f (V.ref e::(vs ++ J)) upd[H1][e][Jw e C sy] (λv H2=>v=.non/\∃d,upd H1 e (Jw e C sy) d=sy/\H2=upd upd[upd[H1][e][Jw e C sy]][e][Jw e C sr[d]] d .xd[[(f,n)]]) (λuw uw uw=>False):=(e,n,u,by rw[hnu],Aq,λd L=>(rfl,d,L,rfl))
 let Z:(bJ e::p ++ ds).length=ps.length:=by
  let z:=r2.length;rw[F.len _ _ _ _ S] at z;exact z.symm
 refine jX[gQ[F.run _ X.stack _ _ (bJ e::p,[]) (bJ e::(p ++ ds)) _ _ _ (hr.make C p []) (I2.env0.make C p []) (hb _ (bJ e::p) I2.kIn Z) r2 S] λrr s' U=>?_]
 match rr,U with
 |.error e',U=>let(_,_,_,_,_,_,_,z):=U;exact z.elim
 |.ok (.ret v),U=>
  let(v',P,I3,rv,ev,d,L,eH):=I2.after U;subst ev;refine(rv,aA gZ[aG[?_]]);let de:d≠e:=λz=>by rw[z,Aq] at L;cases L
  rw[Aj de] at L;let he3:P e=sr[Jw e C sr[d]]:=by rw[eH,Aj de.symm,Aq]
  let((t,q1),_,_):=(show Ek X.prog X.w P s'.heap e (Jw e C sr[d]) from I3.hok e _ he3);let h1e:H1 e=sy:=by
   cases z:H1 e with
   |none=>rfl
   |some o=>
    let(ob,Y):=(I1.hok e o z).there;rw[hmade.new] at Y;cases Y
  let G:ea≠e:=λz=>by rw[z,h1e] at hea;cases hea
  let ead:ea≠d:=λz=>by rw[z,L] at hea;cases hea
  let hea3:P ea=sr[Kz ea cls sr[u6 0 odA]]:=by rw[eH,Aj ead,Aj G,Aj G];exact hea
  let((_,oka),_,_):=(show Ek X.prog X.w P s'.heap ea (Kz ea cls sr[u6 0 odA]) from I3.hok ea _ hea3);let(oa,va,w1,w2,w3,_):=oka 0 odA rfl;refine(e,sr d,t,rfl,G.symm,λz=>?_,I3.bk _ _ hC,q1,(oa,va,w1,w2,w3 rfl),λh2 ob vs2 z1 z2 z3 z4 z5 z6 z7=>hR aa σ P s' e C sr[d] h2 ob vs2 _ I3 ?_ he3 z1 z2 z3 z4 z5 z6 z7 ?_)
  .let n1:=hmade.new;rw[z,show hh'.get? C=sr _ from I1.bk _ _ hC] at n1;cases n1
  .cases z:X.s₀.heap.get? e with
   |none=>rfl
   |some o=>
    let(o',z1):=I1.base.there e o z (by rw[hex];simp)
    rw[hmade.new] at z1;cases z1
  .let eq:Xl P e=upd H1 d .xd[[(f,n)]]:=funext λb=>by
    by_cases l:b=e
    .rw[l,Mu,Aj de.symm,h1e]
    .rw[Fb l,eH];by_cases B:b=d
     .rw[B,Aq,Aq]
     .rw[Aj B,Aj l,Aj l,Aj B]
   rw[eq];exact q d L
def PA.nox(h:PA X.nox g t):PA X g t:=(λa i s b H Q I q=>
 cX[h a i s b H Q I.wish[_] q][λ_ _ ⟨vs,H',I',r',q'⟩=>(vs,H',I'.unwish,r',q')] λd d z=>z.elim)
def Bnl(K:aB)(C C2:aH)(f:t6)(dvs:lg V)(E:St->XK)(tb:(St->XK)->TS)(ta:TA):TS:=λD σ H=>
 tb (λσ' cls o H'=>cU K cls .ref[C]=sr t8/\∀ea,H' ea=sy->Arn ta C2 f dvs ea E D σ' upd[H'][ea][Kz ea cls o]) D σ H
def Bc1{k j:Nat}(S:Stk X)(p:Frm X)(O:X.ex=[])(hP:Xi X E)(hg:Gl X x)(hm:X.mg x=sr .ref[C])(hd:(x==("__debug__":t6))=t7)(hb:∀(pn:lg[aH×tu])(xe:aF->aO->Prop)(E:St->XK),Ed[CXo X.prog X.w][X.tryB pn xe][E]->PSs (X.tryB pn xe) body tb[E])(hx:Ahh X.K C2 fI=t8)(hk:cM X.K .ref[C2]=t8)(hft:iY X.K .ref[fI]=sr .type["function"])(hg2:Gl X y)(hm2:X.mg y=sr .ref[C2])(F:Hw X.prog X.w X.K X.mg X.base (CXo X.prog X.w) k fI fd ps (Aki C2 f) t7)(hr:Fx (k+1) X.A t7)(hbi:Binds X.K fd ps ds)(hdv:Vals dvs ds)(ha:∀e,PA X.suite[e] (g::U) ta)(hdb:(y==("__debug__":t6))=t7)(he:starEach (g::U) X.env=(u6 t7 (eval g X.env))::starEach U X.env)(hpl:(backTo cpos (starEach U X.env)).any (·.1)=t7):
  PS[X][.Try body [.ExceptHandler sr[.Name x np] sy [.Raise sr[.Call (.Name y yp) (g::U) [] cpos] sr[.Constant .none j kpos] L] hpos] [] [] pos][Bnl X.K C C2 f dvs E tb ta]:=by
 intro Y s σ H D I h;refine sX[cX[hb (X.pn ++ Y) _ _ ?pass [] s σ H D I.tryIn h][λf s1 q=>?_] λe s1 q=>q]
 case pass=>
  intro pins' G H1 s1 e s2 i hcx;let(ea,cls,H2,o,rfl,F2,ox,hx2,q):=hcx;let i:Inv X Y G H1 s1:=i.tryOut;let(B,a0,fl,k1,kE,k2):=F2.fly;let P:=fl;rw[S] at P;refine Aw3 (by rw[i.ok.frames,S]) p P ox λh4 c ox4 sm4=>?_
  refine Ae2 c.1 c.2.1 c.2.2.1 c.2.2.2 ox4 λh5 d ox5 sm5=>?_;let Q:∀b o,X.base.get? b=sr o->h5.get? b=sr o:=λb o e=>d.1 b o (k1 b o (i.bs b o e).1 (i.bs b o e).2 λm=>by
   let z:=(i.stack.mem m).1;rw[e] at z;cases z)
  let K5:X.K.In h5:=i.ok.mod.kin.keeps Q;let LT:aAz (model X.prog X.w) h5 typeOf[.ref[ea]] cls:=by
   let(ob,ho,hc):=d.there;exact hc ▸ (yF ho).andThen .now
  refine nG mH[?_] (by intro q;cases q)
  refine fZ i.ok.kind hg (jB (by rw[i.ok.glob];exact i.mod.glob.keeps Q) hm ?_) hd
  refine(pZ K5 LT hx2) _ _ _ _ (λn n e=>e) ?_;show codeAny _ _ _ _ _;refine tW[Ae2 d.1 d.2.1 d.2.2.1 d.2.2.2.at ox5 λh6 fl6 ox6 sm6=>?_];let l:=fl6;rw[<-S] at l;let I6:=i.caught S p F2 fl k1 kE k2 l sm4.trans[sm5.trans[sm6]] ox6;let step:=Ara (Aul (X:=(X.suite ea).wish notedBy[model X.prog X.w][X.A.mark sr[.ref[ea]]][X.env][cameBackBy (model X.prog X.w) X.A X.env X.xe]) (ea:=ea) (np:=yp) (cpos:=cpos) (kpos:=kpos) (pos:=L) (j:=j) hx hk hft O hg2 hm2 rfl (λY σ H s e C od h' ob vs a0 J h0 he' z1 z2 z3 z4 z5 z6 z7 z8=>
   Inv.fly_suite J.unwish.suiteOut[I.ok.hd] S p O hP h0 he' z1 z2 z3 z4 z5 z6 z7 rfl z8) F hr.mark hbi hdv PA.nox[ha[ea]] hdb he hpl)
  refine cX (step Y { s2 with heap:=h6 } G _ { nx:=λn n=>False,rt:=λn n=>False } ((I6.suiteIn ea).wish _) (q ea F2.fre)) (λf s8 T=>?_) λn n z=>z
  cases f with
  |next=>let(_,_,_,z):=T;exact z.elim
  |brk=>let(_,_,_,z):=T;exact z.elim
  |cont=>let(_,_,_,z):=T;exact z.elim
  |ret u=>let(_,_,_,_,_,z):=T;exact z.elim
 .cases f with
  |next=>let(a,t,r,z):=q;exact lX (a,t,r.tryOut,z)
  |brk=>let(a,t,r,z):=q;exact(a,t,r.tryOut,z)
  |cont=>let(a,t,r,z):=q;exact(a,t,r.tryOut,z)
  |ret u=>let(v,a,t,r,r8,z):=q;exact(v,a,t,r.tryOut,r8,z)
section
def Aum(t:uQ)(n:Nat):(t.orStandIn n).led=t.led/\(t.plain=t7->(t.orStandIn n).plain=t7):=by
 unfold SetTable.orStandIn;split
 .exact(rfl,id)
 .exact(rfl,λb=>rfl)
def Aun(t:uQ)(b:Array[Int×aF])(h:Int)(x:aF):(layNew t b h x).2.1.led=t.led/\(t.plain=t7->(layNew t b h x).2.1.plain=t7):=by
 unfold layNew;split
 .exact Aum ..
 .exact(rfl,λc=>rfl)
nonrec def Auo(t:uQ)(a:Array[Int×aF])(n:Nat)(e:t.plain=t7):(relayAll t a n).2.1.led=t.led/\(relayAll t a n).2.1.plain=t7:=by
 unfold relayAll;split
 .rename_i f order h;dsimp only;split
  .unfold SetTable.relaid SetTable.laid at h;simp only[Option.bind_eq_bind,lE,Option.pure_def,gM,Prod.mk.injEq] at h;let(_,_,rfl,_):=h;trivial
  trivial
 trivial
def kvS(e:Int×aF):t6:=match e.2 with
 |.str x _=>x
 |_=>""
def Akk{d:lg[Int×aF]}(h:aBv (dR P w) d){e:Int×aF}(g:e∈d):(∃a,e.2=.str kvS[e] a)/\(dR P w).is kvS[e] e.2=t8:=by
 let((k,c,_),_):=h e g;let(a,z):=vA c;have:kvS e=k:=by unfold kvS;rw[z]
 exact this ▸ ((a,z),c)
def SetT(P:cD)(w:dW)(h:dI)(a:aH)(ks:lg t6)(led:Bool):Prop:=∃o es ep t,h.get? a=sr o/\o.ExactSet/\o.data=.set es ep t/\aBv (dR P w) es.toList/\es.toList.map kvS=ks/\t.fits es.size=t8/\es.size < scanBound/\t.led=led/\(ks≠[]->t.plain=t7)
def Amq{c:lg[Int×aF]}(h:aBv (dR P w) c):(c.findIdx? λe=>(dR P w).is y e.2)=sy ↔ y∉c.map kvS:=by
 rw[List.findIdx?_eq_none_iff,dZ];constructor
 .rintro q ⟨e,a,rfl⟩;have:=q e a;rw[(Akk h a).2] at this;trivial
 .intro q e a;cases z:(dR P w).is y e.2 with
  |false=>rfl
  |true=>exact absurd (e,a,(dR P w).inj _ _ _ (Akk h a).2 z) q
def Bnm{h:dI}{a:aH}{o:tu}{d es':Array[Int×aF]}{b:Nat}{t t':uQ}(c:h.get? a=sr o)(hd:o.data=.set d b t):(h.update a (aAj es' t')).get? a=sr { o with data:=.set es' (b+1) t' }:=by
 have:=bW (aAj es' t') c (by rw[putSet_of es' t' hd];rfl)
 rw[putSet_of es' t' hd] at this;omega
def Bhe{g:Bool->Sem Unit}(F:∀(b:Bool)(e:aO)(y:Unit->aO->Prop),y u9 e->wpAny (model P w) A g[b] y E e){a:aH}{o:tu}{G c:Array[Int×aF]}{H:Nat}{t t2:uQ}{f z:Bool}{R:o9 Bool->aO->Prop}(r:s.heap.get? a=sr o)(i:o.ExactSet)(hd:o.data=.set G H t)(el:aBv (dR P w) c.toList)(v:c.size < scanBound)(hf:t2.fits c.size=t8)(u:t2.led=f)(hp:t2.plain=t7)(k:∀h' h,gC a s.heap h'->SetT P w h' a h f->h.Perm c.toList.map[kvS]->R sr[t8] { s with heap:=h' }):
  wpAny (model P w) A (do
   storeSet a c t2
   if (!z&&t2.tooFull)=t8 then do
    g (relayAll t2 c lF[c.size]).2.2
    storeSet a (relayAll t2 c lF[c.size]).1 (relayAll t2 c lF[c.size]).2.1
    pure sr[t8]
   else pure sr[t8]) R E s:=by
 refine aA[wW r hd ?_ rZ[v]];let n:=Bnm (es':=c) (t':=t2) r hd;let q:=iK s.heap a (aAj c t2);split
 .let m:=relayAll_perm t2 c lF[c.size];let x:=relayAll_fits t2 c lF[c.size];let p:=Auo t2 c lF[c.size] hp;generalize relayAll t2 c lF[c.size]=L at m x p ⊢
  let(j,C,Q):=L;let b2:j.size < scanBound:=by rwa [<-bC,m.length_eq,bC]
  exact aA[F _ _ _ aA[wW n rfl aG[k _ _ q.trans[iK _ a _] (_,j,_,C,Bnm n rfl,i,rfl,el.perm m,rfl,x,b2,p.1.trans u,λB=>p.2) m.map[kvS]] rZ[b2]]]
 .exact aG[k _ _ q (_,c,_,t2,n,i,rfl,el,rfl,hf,v,u,λB=>hp) .rfl]
def Bqe{a:aH}{d:lg t6}{n:Bool}{y:t6}{m:Tok}{Q:Bool->aO->Prop}(X:SetT P w s.heap a d n)(hr:d.length+1 < scanBound)(k:∀h' b c,gC a s.heap h'->SetT P w h' a c n->c.Perm (if y∈d then d else d ++ [y])->Q b { s with heap:=h' }):
  wpAny (model P w) A setAddHashed[a][.str y m][(dR P w).hash y] Q E s:=by
 let(o,u,ep,t,C,x,hd,g,i,hf,hb,U,hp):=id X;let l:(dR P w).is y (.str y m)=t8:=by simp[dR,sE]
 let v:u.size=d.length:=by rw[<-i,aJ,bC]
 unfold setAddHashed setAddHashedIn;refine eV aA[jT C hd hf ?_];dsimp only;rw[byScan_of rfl hb g];simp only[↓reduceIte];unfold setAddByScan;refine aA aA[oH[aA[wpAny_setScan_of l C hd hf g ?_]]];cases p:aBf (λe=>(dR P w).is y e.2) u.toList with
 |some j=>
  dsimp only;let T:y∈d:=i ▸ aAv λz=>by rw[(Amq g).mpr z] at p;cases p
  refine aG aG[?_];have:=k s.heap t7 d (aDx a s.heap) X (by simp_all)
  exact this
 |none=>
  dsimp only;let T:y∉d:=i ▸ (Amq g).mp p;let r:=layNew_perm t u ((dR P w).hash y) (.str y m);let F:=layNew_fits t u ((dR P w).hash y) (.str y m);let G:=Aun t u ((dR P w).hash y) (.str y m);generalize layNew t u ((dR P w).hash y) (.str y m)=L at r F G ⊢
  let(q,t1,wd,gv):=L;dsimp only at r F G ⊢
  rw[wX] at r;let el:=(g.push l rfl).perm r;let b1:q.size < scanBound:=by rwa [<-bC,r.length_eq,bH,bC,v]
  let pk:(q.toList.map kvS).Perm (if y∈d then d else d ++ [y]):=by
   rw[dm T];let z:=r.map kvS;rw[dG,i] at z;exact z
  let I:∀(b:Bool)(f:aO)(N:Unit->aO->Prop),N u9 f->wpAny (model P w) A (match b with|true=>rule "set.scan.the-table-gave-way"|false=>pure u9) N E f:=λb f N S=>by cases b <;> first|exact aG S|exact oH S
  refine aA[I _ _ _ ?_];let B:∀h' c,gC a s.heap h'->SetT P w h' a c n->c.Perm q.toList.map[kvS]->wpAny (model P w) A (match (sr t8:o9 Bool) with|some added=>pure added|none=>setAddHashedIn a (.str y m) ((dR P w).hash y) 99999) Q E { s with heap:=h' }:=λh' c sb S' p'=>aG[k h' t8 c sb S' p'.trans[pk]]
  split
  .apply aA;rw[hashByValue_scannable 8 rfl];refine aG (Bhe (t2:={ t1 with plain:=false }) I C x hd el b1 SetTable.fits_plain_off[F] G.1.trans[U] rfl B)
  .rename_i H;refine aA aG[?_];simp only[↓reduceIte];exact Bhe I C x hd el b1 F G.1.trans[U] (by simpa using H) B
def Aie:entryFor table "set.update.loop"=sr jY.«set.update.loop»:=(yL[by rfl])
def Abg:plainId "set.update.loop"=t8:=by decide +kernel
def InS(ss:lg t6)(i:Nat)(ks:lg t6):Prop:=ks.Nodup/\(∀x,x∈ks ↔ x∈ss.take i)/\ks.length<=i
def InS.step{i:Nat}(h:InS c i d)(m:c[i]?=sr y)(p:e.Perm (if y∈d then d else d ++ [y])):InS c (i+1) e:=by
 let(k,j,r):=h;let f:c.take[i+1]=c.take i ++ [y]:=by rw[List.take_succ,m];rfl
 by_cases g:y∈d
 .rw[di g] at p;refine(p.nodup_iff.mpr k,λx=>?_,by rw[p.length_eq];omega)
  rw[p.mem_iff,j,f,bF,aM];simp_all
 .rw[dm g] at p;refine(p.nodup_iff.mpr ?_,λx=>?_,by rw[p.length_eq,bH,eZ];omega)
  .rw[iG];exact(k,(),λa q b n=>by rw[aM.mp n];rintro rfl;trivial)
  .rw[p.mem_iff,f,bF,bF,j]
def Bnn{n:Nat}{L:Nat->aF->Prop}{St:Nat->dI->Prop}(W:aDu P w A.in1 I fp wr n L St)(J:a∉fp)(hn:ss.length=n)(hz:n < 4000)(hP:∀i v,L i v->∃x j,ss[i]?=sr x/\v=.str x j):
  ∀(k i:Nat)(s:aO)(g:lg t6),n - i=k->i<=n->St i s.heap->SetT P w s.heap a g led->InS ss i g->
  (∀h' j c,(∀b o,b∉wr->b≠a->s.heap.get? b=sr o->h'.get? b=sr o)->SetT P w h' a c led->InS ss n c->R .ok[.ret[.none]] { s with heap:=h',toks:=j })->
  codeAny (model P w) A (.builtin "set.update.loop" ([.ref a,.ref I],[])) R s:=by
 let aw:a∉wr:=λh=>J[W.sub _ h];let keep:∀{h h':dI} {g:lg t6},SetT P w h a g led->(∀b o,b∉wr->h.get? b=sr o->h'.get? b=sr o)->SetT P w h' a g led:=λ⟨o,es,ep,t,Z,r⟩ q=>(o,es,ep,t,q a o aw Z,r);intro k;induction k with
 |zero=>
  intro i s g hk hi st S d C;obtain rfl:i=n:=by omega
  apply iM Aie;rw[jU Abg _];show wpAny _ A.in1 (pyNext .ref[I] >>= _) _ _ s;refine aA[W.done s _ _ st λh' j q=>?_];exact aG (C h' j g (λb o n uw e=>q b o n e) (keep S q) d)
 |succ k T=>
  intro i s g hk hi st S d C;let m:i < n:=by omega
  apply iM Aie;rw[jU Abg _];show wpAny _ A.in1 (pyNext .ref[I] >>= _) _ _ s;refine aA[W.item i s _ _ m st λv h1 j Y y G=>?_];let(x,F,X,rfl):=hP i v Y;show wpAny _ A.in1 (holding [.str x F] setAdd[a][.str x F] >>= _) ..
  unfold setAdd;refine aA (eV (eV (aA ((dR P w).pyHash (k:=x) (by simp[dR,sE]) ?_))))
  refine Bqe[keep S G][jL (Nat.add_le_add_right d.2.2 1) (by show i+1 < 4096;omega)] λh2 b c N S2 Q=>?_
  let l:∀b o,b≠a->h1.get? b=sr o->h2.get? b=sr o:=λb o n e=>(N.2 b n).trans e;refine aG (pP Abg _,T (i+1) _ c () m (W.frame _ _ _ y λb hb o e=>l b o (λz=>J[z ▸ hb]) e) S2 (d.step X Q) λh3 u B O S3 U=>?_)
  exact C h3 u B (λb o n H e=>O b o n H (l b o H (G b o n e))) S3 U
end
abbrev byT(w:dW):Bool:=w.params.followText "set-order"
abbrev Aps(w:dW):tu:={ cls:=.type "set",dict:=sy,data:=.set #[] 0 .fresh[0][0][!byT w] }
section
def tc1:checkTypeCall "set" ([v],[])=pure u9:=by rfl'
def nc1:checkBuiltinCall "set.__new__" ([.type "set",v],[])=pure u9:=by rfl'
def Axi(h:Q₁ .ref[s.heap.objs.size] { s with heap:=s.heap.push Aps[w] }):codeAny[model P w][A][.call .builtin["set.__new__"] ([.type "set",v],[])][wants Q₁ E][s]:=by
 apply qC;refine aA rW[nc1][aG (pP zH _,iM F.entry_set_new ?_)];rw[jU zH _];unfold jY.«set.__new__» aAk;let a:=aBw;dsimp only
 wp_walk
 refine lG aG[?_];dsimp only;simp only[newObj];exact aA wpAny_alloc[aG[aG[h]]]
def Amr(b:s.TypeIs self "set")(e:Q u9 s):wpAny M A (checkBuiltinCall "set.__init__" ([self,v],[])) Q E s:=by
 simp only[checkBuiltinCall,kind_set_init,split_set_init,sig_set_init];refine aA[mZ b aBw ?_];simp only[pO,jK,if_false];unfold Bind.checkArgs;dsimp only;refine aA (m:=Bind.printed "*" t7 ..) (aAw (self:=self) rfl b λshort=>?_);let c:(if (aBx==aBy)=t8 then [self,v].length else [self,v].length - 1)=1:=rfl
 rw[c];simp only[qN];let d:Bind.check (.positional,"set","*",.self,[("iterable",.posOnly,t7)]) "set" short 1 []=pure u9:=rfl;exact d ▸ aG e
def Akl:isSubtype .type["list"] .type["set"]=pure t7:=by rw[uR];rfl
def Akm:isSubtype .type["list"] .type["frozenset"]=pure t7:=by rw[uR];rfl
def Axj(h:pN b c):∀(i:Nat)(v:aF),b[i]?=sr v->∃x a,c[i]?=sr x/\v=.str x a:=by
 induction h with
 |nil=>intro i v e;trivial
 |cons y a _ d=>
  intro i v e;cases i with
  |zero=>cases e;exact(y,a,rfl,rfl)
  |succ i=>exact d i v e
def R7(h:pN a b):a.length=b.length:=by
 induction h with
 |nil=>rfl
 |cons _ _ _ c=>exact congrArg _ c
def Aup(t:A.handled=sy)(f:s.heap.get? a=sr Aps[w])(g:s.heap.IsList l items)(hs:pN items.toList ss)(r:ss.length < 4000)(k:∀h' h d,(∀b o,b≠a->s.heap.get? b=sr o->h'.get? b=sr o)->SetT P w h' a d (!byT w)->InS ss ss.length d->Q .done[.ret .none] { s with heap:=h',toks:=h }):
  wpAny (model P w) A (jY.«set.__init__» ([.ref a,.ref l],[])) Q E s:=by
 let F:s.TypeIs .ref[a] "set":=(_,f,rfl);let j:=g.typeIs;let C:=Akl;let B:=Akm;unfold jY.«set.__init__» noKeywords
 repeat (first|(with_reducible refine aA[oO g ?_])|(with_reducible refine oO g ?_)|wp_step)
 let p:l≠a:=λz=>by
  let(o,c,m):=j;rw[z,f] at c;cases c;exact absurd m ()
 let x:a≠s.heap.objs.size:=bR aZ[f];let ls:l≠s.heap.objs.size:=by
  let(o,c,_):=j;exact bR aZ[c]
 refine Bnn (aDp (A:=A.in1) t s.heap.objs.size l ls items) (led:=!byT w) (ss:=ss) (by simp[x,p.symm]) (by rw[<-R7 hs,bC]) (by rw[<-bC,R7 hs];exact r) (λi v e=>Axj hs i v (by rw[iT];exact e)) items.size 0 _ [] Nat.sub_zero[_] cP[_] ((_,aU _ rfl,rfl,rfl),g.push _) ?_ ((),(),aN _) λh' h d q S i=>?_
 .exact(_,#[],0,_,aC _ f,(rfl,rfl,rfl),rfl,λe u=>by simp at u,rfl,rfl,(),rfl,λz=>absurd rfl z)
 .let e:items.size=ss.length:=by rw[<-R7 hs,bC]
  rw[e] at i;exact aG aG[k h' h d (λb o n z=>q b o (by simp only[aM];exact bR aZ[z]) n (aC _ z)) S i]
def Auq(G:A.handled=sy)(C:s.heap.IsList l items)(hs:pN items.toList n)(y:n.length < 4000)(k:∀h' m j,(∀b o,s.heap.get? b=sr o->h'.get? b=sr o)->SetT P w h' s.heap.objs.size j (!byT w)->InS n n.length j->Q .ref[s.heap.objs.size] { s with heap:=h',toks:=m }):
  wpAny (model P w) A (call .type["set"] [.ref l]) Q E s:=by
 let(c,tl,u):=lO.mro;let hmade:=lO.made;let t:=lO.sub;refine jX qC[?_];show wpAny _ _ (callAny .type["set"] _) ..
 refine aG (lN _ (),iM wN ?_)
 rw[vZ (uG "set" [.ref l] []) rfl];let T:=lO.notType;let O:=lO.canCreate;let H:=tc1 (v:=.ref l)
 repeat (any_goals (first|assumption|wp_step))
 refine gQ (Axi (E:=E) (Q₁:=λobj f=>obj=.ref s.heap.objs.size/\f={ s with heap:=s.heap.push Aps[w] }) (rfl,rfl)) λr f p=>?_
 cases r with
 |error e=>exact p
 |ok L=>
  cases L with
  |ret obj=>
   let(rfl,rfl):=p;let x:(s.heap.push Aps[w]).get? s.heap.objs.size=sr Aps[w]:=aU _ rfl;let J:aBg { s with heap:=s.heap.push Aps[w] } (.ref s.heap.objs.size) "set":=(_,x,rfl)
   let B:=lO.init.lookup;let I:=lO.init.bind .ref[s.heap.objs.size]
   repeat (any_goals (first|assumption|wp_step))
   refine gQ (gB (R:=wants (λr d=>r=.none/\Q .ref[s.heap.objs.size] d) E) lO.init.plain F.entry_set_init (Amr J ?_)) λh d a=>?_
   .refine Aup (s:={ s with heap:=s.heap.push Aps[w] }) G x C.push[_] hs y λh' m j q S i=>(rfl,k h' m j (λb o z=>q b o bR[aZ[z]] (aC _ z)) S i)
   .cases h with
    |error e=>exact a
    |ok g=>
     cases g with
     |ret r=>
      let(rfl,N):=a
      repeat (any_goals (first|assumption|wp_step))
     |_=>exact a.elim
  |_=>exact p.elim
end
section
def Bc2{n:Nat}{Q:Nat->aO->Prop}(hn:n≠0)(h:∀i d,i < n->Q i { s with drawn:=d }):wpAny M A (choose src n) Q E s:=λΓ p uw=>(hn,h _ _ (aDq _ Nat.pos_of_ne_zero[hn]))
theorem W4{c:Type}:∀(a:lg c)(i:Nat)(h:i < a.length),((getElem[a][i][by get_elem_tactic])::a.eraseIdx i).Perm a
 |_::_,0,_=>.rfl
 |x::a,i+1,h=>(aEg ..).trans ((W4 a i _).cons x)
theorem Bhf{f:Type}:∀(n:Nat)(a:lg f)(s:aO)(Q:lg f->aO->Prop),a.length=n->(∀e d,e.Perm a->Q e { s with drawn:=d })->wpAny M A (drawOrder n a) Q E s
 |0,a,s,Q,hn,h=>by
  obtain rfl:=jA hn;exact aG (h [] s.drawn .rfl)
 |n+1,[],s,Q,hn,h=>by trivial
 |n+1,x::a,s,Q,hn,h=>by
  refine aA[Bc2 () λi d hi=>?_]
  exact(aV hi) ▸ aA[Bhf n _ _ _ (by rw[rD hi,hn];rfl) λe g p=>aG h[_][g][(p.cons _).trans (W4 _ i hi)]]
end
def slot_set_iter:Slot "set" "__iter__" "set.__iter__":=(
 .of (owner:="set") (n:="__iter__") (by rfl) (by rfl) (by rfl) (by rfl) (by trivial) (by rfl))
def Ae8:entryFor table "set.__iter__"=sr jY.«frozenset.__iter__»:=(
 aAl (id':="frozenset.__iter__") (by rfl') rfl () (by rfl))
def Ahj(a:aF):argsOk "set.__iter__" ([a],[]):=by rfl'
def Cr:Slot "set_iterator" "__next__" "set_iterator.__next__":=(
 .of (owner:="set_iterator") (n:="__next__") (by rfl) (by rfl) (by rfl) (by rfl) (by trivial) (by rfl))
def Hx:entryFor table "set_iterator.__next__"=sr jY.«set_iterator.__next__»:=(yL[by rfl])
def Iz(a:aF):argsOk "set_iterator.__next__" ([a],[]):=by rfl'
section
variable{es:Array (Int×aF)}{ep i:Nat}
abbrev itF(first:aF)(i:Nat)(a:aH)(n ep:Nat):Data:=.fields #[first,.int i 0,.ref a,.int n 0,.int ep 0]
def stops{c:Type}{R:c->aO->Prop}(d:A.handled=sy)(k:∀h' (e:aH),(∀b o,s.heap.get? b=sr o->h'.get? b=sr o)->(∃o,h'.get? e=sr o/\o.cls=.type "StopIteration")->E' .ref[e] { s with heap:=h' }):
  wpAny (model P w) A (do let e<-newExc .type["StopIteration"] [];raiseNew e:Sem c) R E' s:=by
 apply aA;refine aA (m:=firstArgMember ..) (rW (a:=fY) (by rfl) ?_)
 refine eO ?_ (by size_fits)
 refine aA vP[?_];rw[d];refine aA aG[uM[k _ _ (λb o z=>aC _ (aC _ z)) (_,aU _ rfl,rfl)]]
def Bno{h nx:Nat}(c:s.heap.get? I=sr j)(k:j.cls=.type "set_iterator")(hd:j.data=itF (.int h 0) i a es.size ep)(n:s.heap.get? a=sr o)(d:o.data=.set es ep t)(hf:t.fits es.size=t8)(hN:∀(q:aF->aO->Prop)(m:o9[aF×Nat]->aO->Prop),m sr[u6 x nx] s->wpAny (model P w) A.in1 (setNext a h i ep) m q s)(p:∀h' b,gC I s.heap h'->h'.get? I=sr b->b.cls=.type "set_iterator"->b.data=itF (.int nx 0) (i+1) a es.size ep->Q sr[x] { s with heap:=h' }):
  wpAny (model P w) A pyNext[.ref[I]] Q E s:=by
 let l:s.TypeIs .ref[I] "set_iterator":=(_,c,k);unfold pyNext;refine aA nU[dD[l][Cr][dY Cr l Hx ?_ Iz[_]]];refine aA aG[aA[rE c hd ?_]];dsimp only;refine aA[kJ n d hf ?_];rw[dm ()]
 refine aA[hN _ _ ?_];dsimp only;let g:=bW (fV (·.setIfInBounds 0 rawInt[nx])) c fW[dC hd _];let e:=dC hd (·.setIfInBounds 0 rawInt[nx]);refine aA[fU c hd () aA[fU g e () (aG (x,rfl,aG p[_][_][(iK ..).trans (iK ..)][bW _ g fW[dC e _]][(mO ..).trans ((mO ..).trans k)][?_]))]]
 rw[dC e];simp[rawInt]
def Bnp{g:Nat}(l:A.handled=sy)(d:s.heap.get? I=sr h)(m:h.cls=.type "set_iterator")(hd:h.data=itF (.int g 0) i a es.size ep)(p:s.heap.get? a=sr o)(c:o.data=.set es ep t)(hf:t.fits es.size=t8)(hN:∀(u:aF->aO->Prop)(k:o9[aF×Nat]->aO->Prop),k sy s->wpAny (model P w) A.in1 (setNext a g i ep) k u s)(r:∀h',(∀b o,b≠I->s.heap.get? b=sr o->h'.get? b=sr o)->Q sy { s with heap:=h' }):
  wpAny (model P w) A pyNext[.ref[I]] Q E s:=by
 let j:s.TypeIs .ref[I] "set_iterator":=(_,d,m);unfold pyNext;refine aA nU[dD[j][Cr][dY Cr j Hx ?_ Iz[_]]];refine aA aG[aA[rE d hd ?_]];dsimp only;refine aA[kJ p c hf ?_];rw[dm ()]
 refine aA[hN _ _ ?_];dsimp only;refine aA[fU d hd () (stops l λh' e q ty=>?_)]
 exact aA (mZ (b:=true) ty uP aG[r h' λb o n z=>q b o ((bT _ _ bN[n]).trans z)])
def Bnq{p pl:Nat}{h0:Int}(e:s.heap.get? I=sr g)(h:g.cls=.type "set_iterator")(hd:g.data=itF .ref[T] i a es.size ep)(j:s.heap.get? a=sr o)(c:o.data=.set es ep t)(hf:t.fits es.size=t8)(m:s.heap.get? T=sr k)(f:k.data=.seq ps p)(hp:ps[i]?=sr rawInt[pl])(l:es[pl]?=sr[u6 h0 x])(n:∀h' b,gC I s.heap h'->h'.get? I=sr b->b.cls=.type "set_iterator"->b.data=itF .ref[T] (i+1) a es.size ep->Q sr[x] { s with heap:=h' }):
  wpAny (model P w) A pyNext[.ref[I]] Q E s:=by
 let d:s.TypeIs .ref[I] "set_iterator":=(_,e,h);refine aA nU[dD[d][Cr][dY Cr d Hx ?_ Iz[_]]];refine aA aG[aA[rE e hd ?_]];dsimp only;refine aA[kJ j c hf ?_];rw[dm ()]
 simp only[fX];refine aA[iD m f ?_];simp only[hp,rawInt];unfold setNextDrawn;refine aA aA[jT j c hf ?_];simp only[bne_self_eq_false,jK,if_false,fX,l];refine aG aA[fU e hd () (aG (x,rfl,aG n[_][_][iK ..][bW _ e fW[dC hd _]][(mO ..).trans h][?_]))]
 rw[dC hd];simp
def Bnr{v:Nat}(l:A.handled=sy)(d:s.heap.get? I=sr h)(m:h.cls=.type "set_iterator")(hd:h.data=itF .ref[T] i a es.size ep)(p:s.heap.get? a=sr o)(f:o.data=.set es ep t)(hf:t.fits es.size=t8)(r:s.heap.get? T=sr k)(g:k.data=.seq ps v)(hp:ps[i]?=sy)(u:∀h',(∀b o,b≠I->s.heap.get? b=sr o->h'.get? b=sr o)->Q sy { s with heap:=h' }):
  wpAny (model P w) A pyNext[.ref[I]] Q E s:=by
 let c:s.TypeIs .ref[I] "set_iterator":=(_,d,m);unfold pyNext;refine aA nU[dD[c][Cr][dY Cr c Hx ?_ Iz[_]]];refine aA aG[aA[rE d hd ?_]];dsimp only;refine aA[kJ p f hf ?_];rw[dm ()]
 simp only[fX];refine aA[iD r g ?_];simp only[hp];let j:=bW (fV (·.setIfInBounds 0 rawInt[0])) d fW[dC hd _];refine aA[fU d hd () aA[fU j (dC hd _) () (stops l λh' e q ty=>?_)]]
 exact aA (mZ (b:=true) ty uP aG[u h' λb o n z=>q b o ((bT _ _ bN[n]).trans ((bT _ _ bN[n]).trans z))])
end
def Rg:Slot "set_iterator" "__iter__" "set_iterator.__iter__":=(
 .of (owner:="set_iterator") (n:="__iter__") (by rfl) (by rfl) (by rfl) (by rfl) (by trivial) (by rfl))
def Abh:entryFor table "set_iterator.__iter__"=sr jY.«dict_keyiterator.__iter__»:=(
 aAl (id':="dict_keyiterator.__iter__") (by rfl') rfl () (by rfl))
section
variable{P:cD}{w:dW}{A:eQ}{E:aF->aO->Prop}{s:aO}{I a:aH}{oI o:tu}{es:Array (Int×aF)}{ep i:Nat}{t:uQ}{first:aF}{vs:lg aF}
def Bhg{Q:aF->aO->Prop}(b:s.TypeIs .ref[I] "set_iterator")(h:Q .ref[I] s):wpAny (model P w) A pyIter[.ref[I]] Q E s:=(wY b Rg (dY Rg b Abh (aG (_,rfl,"set_iterator",_,b,Cr.lookup,h)) (by
   rfl')))
theorem Bns{f:Nat->Nat}(F:A.handled=sy)(L:a≠I)(j:o.data=.set es ep t)(hf:t.fits es.size=t8)(hN:∀i (s:aO),s.heap.get? a=sr o->∀(r:aF->aO->Prop)(g:o9[aF×Nat]->aO->Prop),g ((vs[i]?).map λx=>(u6 x f[i+1])) s->wpAny (model P w) A.in1 (setNext a f[i] i ep) g r s):
  aDu P w A I [I,a] [I] vs.length (λi v=>vs[i]?=sr v) (λi h=>h.get? a=sr o/\∃oI,h.get? I=sr oI/\oI.cls=.type "set_iterator"/\oI.data=itF (.int f[i] 0) i a es.size ep) where
 sub:=λb c=>by simp at c;simp[c]
 frame:=λi h h' st C=>(C a () _ st.1,st.2.imp λoI z=>(C I () _ z.1,z.2))
 item:=λi s Q E hi st l=>by
  let(d,oI,n,m,y):=st;refine Bno (x:=(getElem[vs][i][by get_elem_tactic])) (nx:=f[i+1]) n m y d j hf (λr g q=>hN i s d r g (by rw[aV hi];exact q)) λh' u B J H G=>?_
  exact l _ h' s.toks aV[hi] ((B.2 a L).trans d,u,J,H,G) λb o c e=>(B.2 b (by simpa using c)).trans e
 done:=λs Q E st l=>by
  let(d,oI,n,m,y):=st;exact Bnp F n m y d j hf (λr g q=>hN _ s d r g (by rw[gO aN[_]];exact q)) λh' k=>l h' s.toks λb o c e=>k b o (by simpa using c) e
 self:=λi s Q E st l=>by
  let(_,oI,n,m,_):=st;exact Bhg (_,n,m) l
def Bnt{T:aH}{H:tu}{ps:lg Nat}{X:Nat}(N:A.handled=sy)(Y:a≠I)(TI:T≠I)(g:o.data=.set es ep t)(hf:t.fits es.size=t8)(j:H.data=.seq (ps.map λ(i:Nat)=>rawInt i).toArray X)(f:∀p∈ps,p < es.size):
  aDu P w A I [I,a,T] [I] (ps.filterMap λp=>es[p]?.map (·.2)).length (λi v=>(ps.filterMap λp=>es[p]?.map (·.2))[i]?=sr v) (λi h=>h.get? a=sr o/\h.get? T=sr H/\∃oI,h.get? I=sr oI/\oI.cls=.type "set_iterator"/\oI.data=itF .ref[T] i a es.size ep):=by
 let len:∀qs:lg Nat,(∀p∈qs,p < es.size)->(qs.filterMap λp=>es[p]?.map (·.2))=qs.map λp=>(es.getD p (u6 0 .none)).2:=λqs J=>by
  induction qs with
  |nil=>rfl
  |cons p ps L=>
   let hp:=J p aX;rw[List.filterMap_cons_some (b:=(es.getD p (u6 0 .none)).2) (by simp_all),cJ,L[λq z=>J q (aR _ z)]]
 rw[len ps f];exact {
  sub:=λb r=>by simp_all
  frame:=λi h h' st F=>(F a () _ st.1,F T () _ st.2.1,st.2.2.imp λoI z=>(F I () _ z.1,z.2))
  item:=λi s Q E hi st l=>by
   let(u,y,oI,n,m,G):=st;rw[aJ] at hi;let hp:=f _ lH[hi];refine Bnq (pl:=(getElem[ps][i][by get_elem_tactic])) (h0:=(getElem[es][(getElem[ps][i][by get_elem_tactic])][by get_elem_tactic]).1) (x:=(getElem[es][(getElem[ps][i][by get_elem_tactic])][by get_elem_tactic]).2) n m G u g hf y j (by simp[hi]) (by simp[hp]) λh' C B U S O=>?_
   exact l _ h' s.toks (by simp[hi,Array.getD,hp]) ((B.2 a Y).trans u,(B.2 T TI).trans y,C,U,S,O) λb o r e=>(B.2 b (by simpa using r)).trans e
  done:=λs Q E st l=>by
   let(u,y,oI,n,m,G):=st;exact Bnr N n m G u g hf y j () λh' k=>l h' s.toks λb o r e=>k b o (by simpa using r) e
  self:=λi s Q E st l=>by
   let(_,_,oI,n,m,_):=st;exact Bhg (_,n,m) l }
end
theorem Aro{b:Type}(nx:Nat->Nat):∀(n k:Nat)(l:lg b)(out:Array b),l.length=n->(pickOrder.go nx n k l out).toList.Perm (out.toList ++ l)
 |0,k,l,out,h=>by
  obtain rfl:=jA h;simp[pickOrder.go]
 |n+1,k,l,out,h=>by
  let hi:nx k % l.length < l.length:=aDq _ ()
  unfold pickOrder.go;rw[aV hi];apply (Aro nx n _ _ _ (by rw[rD hi,h];rfl)).trans
  rw[wX,cR];exact(W4 l _ hi).append_left _
def Aur{c:Type}(nx:Nat->Nat)(a:Array c):(pickOrder nx a).toList.Perm a.toList:=by
 have:=Aro nx a.size 0 a.toList #[] (by rfl)
 trivial
section
variable{es:Array (Int×aF)}{ep i sl:Nat}
def Axk{Q:o9[aF×Nat]->aO->Prop}(c:byT w=t8)(d:s.heap.get? a=sr o)(b:o.data=.set es ep t)(hf:t.fits es.size=t8)(q:Q (((pickOrder (w.params.setOrder a ep) es)[i]?).map λe=>(u6 e.2 sl)) s):wpAny (model P w) A (setNext a sl i ep) Q E s:=by
 refine aA[jT d b hf aA[aA[lG[aG[?_]]]]];rw[di (show (model P w).w.params.followText "set-order"=t8 from c),dm ()]
 unfold setWalk;refine aA aA[jT d b hf aA[aA[lG[aG[?_]]]]];exact(di (show (model P w).w.params.followText "set-order"=t8 from c)) ▸ aA lG[aG[aG[q]]]
def Axl{Q:o9[aF×Nat]->aO->Prop}(c:byT w=t7)(f:s.heap.get? a=sr o)(b:o.data=.set es ep t)(hf:t.fits es.size=t8)(d:t.led=t8)(k:es.size<=1)(q:Q (match es[jM t.place sl]?,t.place[jM t.place sl]? with|some e,sr j=>sr u6[e.2][j+1]|_,_=>sy) s):wpAny (model P w) A (setNext a sl i ep) Q E s:=by
 unfold setNext setsByText;refine aA[jT f b hf aA[aA[lG[aG[?_]]]]];rw[dm (by rw[show (model P w).w.params.followText "set-order"=t7 from c];decide)]
 dsimp only;refine oA[λz=>?_] λh=>?_
 .let z:(!t.plain&&decide[es.size > 1])=t8:=z;simp at z;omega
 .apply aA (m:=(do if (!t.led&&!es.isEmpty)=t8 then unsupported "set:maker-not-led"))
  rw[d];refine aG aG[?_];revert q;cases es[jM t.place sl]? with
  |none=>exact id
  |some e=>cases t.place[jM t.place sl]? <;> exact id
def Bnu(hh:A.handled=sy)(hS:SetT P w s.heap a ks (!byT w))(k:∀(I:aH)(B:lg aF)(fp:lg aH)(St:Nat->dI->Prop)(h':dI)(d:aBk),(∀b o,s.heap.get? b=sr o->h'.get? b=sr o)->s.heap.objs.size<=I->I < h'.objs.size->(∀y:eQ,y.handled=sy->aDu P w y I fp [I] B.length (λi v=>B[i]?=sr v) St)->
   St 0 h'->(∀b∈fp,b=a\/s.heap.objs.size<=b)->(∃C,pN B C/\C.Perm ks)->Q .ref[I] { s with heap:=h',drawn:=d }):
  wpAny (model P w) A pyIter[.ref[a]] Q E s:=by
 let(o,es,ep,t,F,hex,m,U,H,hf,J,S,hp):=hS;let hT:s.TypeIs .ref[a] "set":=(_,F,hex.1);let O:=aZ F;let tS:∀l:lg[Int×aF],(∀e∈l,e∈es.toList)->pN (l.map (·.2)) l.map[kvS]:=λl S=>by
  induction l with
  |nil=>exact .nil
  |cons e l ih=>
   let((tk,z),_):=Akk U (S e aX);rw[cJ,cJ,z];exact .cons _ tk (ih λx hx=>S x (aR _ hx))
 let u:∀l:lg[Int×aF],l.Perm es.toList->∃C,pN (l.map (·.2)) C/\C.Perm ks:=λl p=>(l.map kvS,tS l λe he=>p.mem_iff.mp he,by rw[<-H];exact p.map kvS)
 refine wY hT slot_set_iter (dY slot_set_iter hT Ae8 ?_ Ahj[_]);unfold jY.«frozenset.__iter__» aBo slotArgs aBh setDrawn setsByText;simp only[List.isEmpty_nil,pO,jK,if_false,pY,bne_self_eq_false];refine aA aA[aG[aG[aA[aA[kJ F m hf aG[?_]]]]]];refine aA aA[jT F m hf aA[aA[lG[aG[aG[?_]]]]]];let nz:a≠s.heap.objs.size:=bR O;refine oA[λz=>?_] λz=>?_
 .refine aA[Bhf es.size fO[es.size] s _ cG λG d p=>?_];let ly:G.length=es.size:=by rw[p.length_eq,cG]
  refine aA[aAg ?_ (by rw[aJ,ly];exact rZ J)]
  let hps:∀q∈G,q < es.size:=λq hq=>iW.mp p.mem_iff.mp[hq];let L:=aC { cls:=.type "tuple",data:=.seq (G.map λ(i:Nat)=>rawInt i).toArray } F;refine aA (wZ (s:={ s with heap:=s.heap.push _,drawn:=d }) L m hf ?_)
  generalize hg:s.heap.push { cls:=.type "tuple",data:=.seq (G.map λ(i:Nat)=>rawInt i).toArray }=N at L ⊢
  let hT1:N.get? s.heap.objs.size=sr { cls:=.type "tuple",data:=.seq (G.map λ(i:Nat)=>rawInt i).toArray }:=by rw[<-hg];exact aU _ rfl
  let X:N.objs.size=s.heap.objs.size+1:=by rw[<-hg];exact fP ..
  refine aA eO[aG (_,rfl,"set_iterator",_,(_,aU _ rfl,rfl),Cr.lookup,?_)];refine k N.objs.size _ _ _ _ d (λb o e=>aC _ (by rw[<-hg];exact aC _ e)) (by rw[X];exact fM _) (by rw[fP];exact gV _)
   (λy hA=>Bnt (T:=s.heap.objs.size) (a:=a) hA (by rw[X];exact bR xF[O]) (by rw[X];exact bR gV[_]) m hf rfl hps) (aC _ L,aC _ hT1,_,aU _ rfl,rfl,rfl) (λb J=>?_) ?_
  .simp only[aW,bM,or_false] at J;rcases J with rfl|rfl|rfl
   .exact .inr (by rw[X];exact fM _)
   .exact .inl rfl
   .exact .inr aN[_]
  .let e1:(G.filterMap λp=>es[p]?.map (·.2))=(G.filterMap λp=>es[p]?).map (·.2):=by rw[List.map_filterMap]
   rw[e1];exact u _ ((p.filterMap _).trans (by rw[filterMap_getElem?_range]))
 .refine aA aG[aA[wZ F m hf ?_]];refine aA eO[aG (_,rfl,"set_iterator",_,(_,aU _ rfl,rfl),Cr.lookup,?_)];let go:∀(B:lg aF)(f:Nat->Nat),f 0=0->(∃C,pN B C/\C.Perm ks)->(∀(y:eQ) i (s:aO),s.heap.get? a=sr o->∀(E':aF->aO->Prop)(Z:o9[aF×Nat]->aO->Prop),Z ((B[i]?).map λx=>(u6 x f[i+1])) s->wpAny (model P w) y (setNext a f[i] i ep) Z E' s)->
    Q .ref[s.heap.objs.size] { s with heap:=s.heap.push { cls:=.type "set_iterator",dict:=sy,data:=.fields [rawInt 0,rawInt 0,.ref a,rawInt es.size,rawInt ep].toArray } }:=λB f f0 hv hN=>by
   refine k s.heap.objs.size B _ _ _ s.drawn (λb o e=>aC _ e) aN[_] (by rw[fP];exact gV _) (λy hA=>Bns hA nz m hf hN[y.in1]) (aC _ F,_,aU _ rfl,rfl,?_) (λb J=>?_) hv
   .rw[f0];rfl
   .simp only[aW,bM,or_false] at J;rcases J with rfl|rfl
    .exact .inr aN[_]
    .exact .inl rfl
  cases Y:byT w with
  |true=>
   refine go ((pickOrder (w.params.setOrder a ep) es).toList.map (·.2)) (λuw=>0) rfl u[_][Aur _ _] λy i s' r E' Z q=>Axk Y r m hf ?_;let e:((pickOrder (w.params.setOrder a ep) es)[i]?).map (λe=>(u6 e.2 0))=(((pickOrder (w.params.setOrder a ep) es).toList.map (·.2))[i]?).map λx=>(u6 x 0):=by
    rw[bK,iT,Option.map_map];rfl
   rw[e];exact q
  |false=>
   let N:es.size<=1:=Nat.le_of_not_lt λh=>z (by
    show (!byT w&&(!t.plain&&decide[es.size > 1]))=t8;rw[Y,hp (λe=>by rw[<-H,List.map_eq_nil_iff] at e;rw[<-bC,e] at h;cases h)]
    simp[h])
   let pz:t.place.size=es.size:=by
    have:=hf;unfold SetTable.fits at this;simp only[aL,beq_iff_eq] at this;exact this.1
   refine go (es.toList.map (·.2)) (λi=>if i=0 then 0 else t.place.getD 0 0+1) rfl (u _ .rfl) λy i s' r E' Z q=>Axl Y r m hf (by rw[S,Y];rfl) N ?_
   clear S hp z go u tS U H k m hf F r;rcases xG 0 es.size with h2|h2
   .let(e,rfl):=uH.mp[Nat.le_antisymm N h2];let(j,hj):=uH.mp pz;rw[hj] at q ⊢
    cases i with
    |zero=>
     let b0:jM #[j] 0=0:=by simp[jM,xH]
     simp only[↓reduceIte,b0];exact q
    |succ i=>
     let b1:jM #[j] (j+1)=1:=by simp[jM,xH]
     let e1:(#[j]:Array Nat).getD 0 0=j:=rfl;simp only[e1,Nat.add_eq_zero_iff,sZ,and_false,if_false,b1] at q ⊢
     exact q
   .obtain rfl:es=#[]:=Array.size_eq_zero_iff.mp Nat.le_zero.mp[h2];simpa using q
end
section
def Bnv(e:s.TypeIs .ref[a] "set")(h:Q t7 s):wpAny (model P w) A qO[.ref[a]] Q E s:=by
 unfold qO;refine aA[wpAny_specialOf e PySem.F.slot_set_len.lookup ?_];generalize d:("set.__len__":String)=id0;wp_delta;subst d;refine aA (mZ (T:="set") (b:=true) e (by rw[uR];rfl') ?_)
 refine oA[λc=>absurd c ()][λf=>?_]
 refine oA[λf=>?_][λc=>absurd (rfl) c];refine aA[oV e ?_];exact aG h
def Axm(h:ItemsOf (λi v=>b[i]?=sr v) a b.length):a.toList=b:=by
 refine xJ λi=>?_;by_cases hi:i < a.size
 .let e:a.toList[i]?=sr getElem[a][i][by get_elem_tactic]:=by simp
  exact e ▸ (h.2 i _ rJ[hi]).symm
 .rw[gO[by simp_all],gO (by rw[<-h.1];omega)]
def Axn(S:A.handled=sy)(hS:SetT P w s.heap a N (!byT w))(hz:N.length<=1000)(k:∀h' tk d i,(∀b o,s.heap.get? b=sr o->h'.get? b=sr o)->(∃L,pN i L/\L.Perm N)->R i { s with heap:=h',toks:=tk,drawn:=d }):wpAny (model P w) A collect[.ref[a]] R E s:=by
 let(o,_,_,_,Z,y,_):=id hS;let x:=aZ Z;unfold collect;refine aA aAi[iM PySem.F.entry_proto_collect ?_];rw[jU PySem.F.plain_proto_collect _];show wpAny _ A.in1 (newList [] >>= λl=>again[.builtin "list.__iadd__" ([l,.ref a],[])]) _ _ s;refine aA eO[?_];refine aG (pP tG _,iM PySem.F.entry_list_iadd ?_);rw[jU tG _];generalize U:s.heap.push { cls:=.type "list",data:=.seq ([]:lg aF).toArray }=f;let hL:f.get? s.heap.objs.size=sr { cls:=.type "list",data:=.seq #[] }:=by rw[<-U];exact aU _ rfl
 let H:∀b o,s.heap.get? b=sr o->f.get? b=sr o:=λb o e=>by rw[<-U];exact aC _ e
 let z1:f.objs.size=s.heap.objs.size+1:=by rw[<-U];exact fP ..
 let S1:SetT P w f a N (!byT w):=by
  let(o,es,ep,t,ho,r):=hS;exact(o,es,ep,t,H a o ho,r)
 let hT:aBg { s with heap:=f } (.ref a) "set":=(_,H a o Z,y.1)
 show wpAny _ A.in1 (qP .ref[s.heap.objs.size] .ref[a] .ref[s.heap.objs.size]) _ _ _;unfold qP;refine aA (oV (T:="set") hT ?_);let e1:sU .ref[s.heap.objs.size] .ref[a]=t7:=by simp[sU,jQ x]
 simp only[e1,show (pH "set"==pH "list")=t7 by decide,show (pH "set"==pH "tuple")=t7 by decide,aBd,jK,if_false]
 refine aA (Bnu (s:={ s with heap:=f }) (show A.in1.handled=sy from S) S1 λI i fp St m d O Q i2 W st X hv=>?_)
 let LI:s.heap.objs.size≠I:=λz=>by rw[<-z] at Q;exact absurd (show f.objs.size<=s.heap.objs.size from Q) ()
 let Lf:s.heap.objs.size∉fp:=λz=>by
  rcases X _ z with q|q
  .exact absurd q jQ[x]
  .exact absurd (show f.objs.size<=s.heap.objs.size from q) ()
 let g:=O _ _ hL;let vl:i.length<=1000:=by
  let(L,f,m):=hv;rw[R7 f,m.length_eq];exact hz
 refine aA (eV (Bnv (s:={ s with heap:=m,drawn:=d }) (_,O _ _ (H a o Z),y.1) ?_))
 let u:∀(h:dI)(c:Nat),St 0 h->(∀b o,s.heap.get? b=sr o->h.get? b=sr o)->h.get? s.heap.objs.size=sr { cls:=.type "list",data:=.seq #[] c }->
   codeAny (model P w) A (.builtin "list.extend.loop" ([.ref s.heap.objs.size,.ref I,.ref s.heap.objs.size],[])) (λr j=>match r with|.ok (.ret v)=>wpAny (model P w) A (match v with|.ref a=>(do match (<-load a).data with|.seq xs _=>pure xs.toList|_=>unsupported "internal:collect")|_=>unsupported "internal:collect") R E j|.ok _=>False|.error e=>E e j) { s with heap:=h,drawn:=d }:=λh c J G hL'=>by
  refine codeAny_extend_loopS (W A.in1 S).toS (aD vl ()) s.heap.objs.size Lf _ i.length 0 _ #[] c rfl cP[_] J hL' ItemsOf.nil[_] λj acc c' hm hS' B=>?_
  rw[Moved.eq_with hm];refine aA[zU (show j.heap.get? _=sr _ from hS') aG[?_]];rw[Axm B];refine k j.heap j.toks d i (λb o e=>hm.heap b o (λY=>?_) (G b o e)) hv;rcases aW.mp Y with z|z
  .exact absurd aZ[e] (by rw[z];exact eF _)
  .rw[aM.mp z] at e;exact absurd aZ[e] aDr.mpr[aD[aD fM[_] oR[z1.symm]][Q]]
 let G:∀b o,s.heap.get? b=sr o->m.get? b=sr o:=λb o e=>O b o (H b o e);refine oA[λuw=>?_][λuw=>aG (pP rK _,u _ _ st G g)];refine aA oH[aA[?_]];show wpAny _ _ (updateSeq s.heap.objs.size (·.push .none) >>= λuw=>updateSeq s.heap.objs.size (·.pop)) _ _ _;refine aA[zJ g rfl ?_];let C:=bW (oE (·.push fY)) g rfl;refine zJ (hz:=by seq_fits) C rfl ?_
 let hL4:=bW (oE (·.pop)) C rfl;let p:∀b o,b≠s.heap.objs.size->m.get? b=sr o->((m.update s.heap.objs.size (oE (·.push fY))).update s.heap.objs.size (oE (·.pop))).get? b=sr o:=λb o n e=>(bT _ _ bN[n]).trans ((bT _ _ bN[n]).trans e);exact aG (pP rK _,u _ _ ((W A.in1 S).frame 0 _ _ st λb Y o e=>p b o (λz=>Lf[z ▸ Y]) e) (λb o e=>p b o bR[aZ[e]] (G b o e)) hL4)
end
def Bjc(P:cD)(w:dW)(a:aH)(ks:lg t6):HO:=.ext λh=>SetT P w h a ks (!byT w)
section
def Inv.draw(I:Inv X aa σ H s):Inv X aa σ H { s with drawn:=d }:=(I.ok,I.os,I.bare,I.base,I.loc,I.cell,I.free,I.freeC,I.pin,I.hok,I.len)
def Axo(m:X.calm=t8):Jv X .type["set"] (λd H Q=>∃p,∃a:lg t6,d=[.ref p]/\H p=sr .lst[a.map[V.str]]/\a.length < 4000/\∀q b,H q=sy->InS a a.length b->Q .ref[q] upd[H][q][Bjc X.prog X.w q b]):=by
 rintro _ s A H d B Q I r ⟨p,a,rfl,hp,l,q⟩;let(u,rfl,h):=vals1 r;cases h;let(_,j,n,g,e):=(I.hok p _ hp);refine Auq I.ok.hd[m] (_,e,rfl,_,rfl) Akg[g] l λh' C b keep S i=>(.ref _,_,I.newO (o:=Bjc _ X.w _ b) keep gU[aN[_]] (S,?_,?_),rfl,q _ b I.hok.fresh[aN[_]] i)
 .let(o,_,_,_,c,_):=S;exact(o,c)
 .rintro F E ⟨o,v,x,t,c,z⟩ k;exact(o,v,x,t,k o c,z)
def Akn(O:X.calm=t8):Jv X .builtin["sorted"] (λB H Q=>∃p a,B=[.ref p]/\H p=sr[Bjc X.prog X.w p a]/\a.length < 64/\∀q,H q=sy->Q[.ref q][upd H q .lst[(Adr a).map V.str]]):=by
 rintro aa s Z H B us Q I r ⟨p,a,rfl,hp,g,q⟩;let(u,rfl,J):=vals1 r;cases J;let S:SetT X.prog X.w s.heap p a (!byT X.w):=(I.hok p _ hp).1;apply Calls.call_function_entry kind_sorted plain_sorted entry_sorted args_sorted1[_];unfold jY.«sorted»
 refine aA (m:=checkCount "sorted" 1 1 _) (aG (aA (Axn (A:=X.A.in1) (show X.A.in1.handled=sy from I.ok.hd O) S (aD gP[g] ()) λf tk d j F N=>?_)))
 let(ss,k,C):=N;let L:j.length=a.length:=by rw[R7 k,C.length_eq]
 refine aA wpAny_newList[?_][L ▸ aD gP[g] ()]
 generalize G:f.push[seqObj "list" j.toArray 0]=h2;let v:h2.get? f.objs.size=sr[seqObj "list" j.toArray 0]:=G ▸ aU _ rfl;let E:∀b ob,s.heap.get? b=sr ob->h2.get? b=sr ob:=λb ob z=>G ▸ aC _ (F b ob z);let c:s.heap.get? f.objs.size=sy:=by
  cases z:s.heap.get? f.objs.size with
  |none=>rfl
  |some o=>exact absurd aZ[F _ _ z] eF[_]
 let T:H f.objs.size=sy:=by
  cases z:H f.objs.size with
  |none=>rfl
  |some o=>
   let(ob,h):=(I.hok _ o z).there;rw[c] at h;cases h
 let t:∀(out:Array aF) b ob,s.heap.get? b=sr ob->(sortedHeap h2 f.objs.size j out).get? b=sr ob:=λout b ob z=>by
  rw[sortedHeap_old (λw=>by simp_all) aZ[E b ob z]]
  exact E b ob z
 refine aA eV[dY slot_list_sort (_,v,rfl) entry_list_sort (list_sort_treeK strKind_oneLt v k.keysOf (λv1 v2 rest e=>keyKind_strs[e ▸ k]) () λl Y U=>(_,rfl,?_)) args_list_sort[_]]
 let(n,b1,b2,P):=sorted_out_str k Y U;obtain rfl:n=Adr a:=Bcu b2.trans[C] P;let(y,i):=sortedHeap_at (out:=(arrOf l).map (·.2)) v;refine aG (_,rfl,.ref f.objs.size,_,(I.draw (d:=d)).newO (o:=.lst[(Adr a).map V.str]) (tk:=tk) t[_] c (?_,_,y,Auh b1,i),rfl,q _ T);rw[aJ,(Ji a).length_eq];exact aD gP[g] ()
end
section
def KV.at{a:lg[Key×V]}{vs:lg[Key×aF]}(r:KV a vs):∀{j:Nat} {k:Key} {x:aF},vs[j]?=sr[u6 k x]->∃y,a[j]?=sr[u6 k y]/\RelV y x:=by
 induction r with
 |nil=>intro j k x h;cases h
 |@cons p q ps qs h t c=>
  intro j k x e;cases j with
  |zero=>
   cases e;let d:=h.1;subst d;exact(p.2,rfl,h.2)
  |succ j=>exact c e
def Bnw(h:(Hv P w).is k u=t8):RelV kV[k] u:=by
 rcases Eu h with ⟨i,t,rfl,rfl⟩|⟨x,t,rfl,rfl⟩ <;> exact(t,rfl)
theorem Ae9:∀{b:lg V} {c:lg aF},b.length=c.length->(∀(j:Nat)(v:aF),c[j]?=sr v->∃x,b[j]?=sr x/\RelV x v)->Vals b c
 |[],[],_,_=>.nil
 |x::b,u::c,d,h=>by
  let(y,e,r):=h 0 u rfl;cases (e);exact .cons r (Ae9 xK[d] λj v q=>h (j+1) v q)
 |[],_::_,d,_=>by trivial
 |_::_,[],d,_=>by trivial
def Apt(n:X.calm=t8):Jv X .type["list"] (λf H Q=>∃a b,f=[.ref a]/\H a=sr .dK[b]/\∀l,H l=sy->Q[.ref l][upd H l .lst[b.map λp=>kV p.1]]):=by
 rintro P s F H f J Q I r ⟨a,b,rfl,o,q⟩;let(u,rfl,g):=vals1 r;cases g;let(z,hd,G,d,B):=Awx I.hok o;let(N,C):=B.dictAt;let m:=d.length;refine PySem.W.kdl_call PySem.W.kdl_dict[hd] I.ok.hd[n] C (by simp_all) λh' L c E kp e hi=>?_
 let h:Vals (b.map λp=>kV p.1) c.toList:=by
  refine Ae9 (by rw[aJ,m,<-hi.1];rfl) λj v i=>?_
  let(k,x,A,t):=hi.2 j v (iT ▸ i);let(y,O,_):=d.at A;exact(kV k,by simp_all,Bnw t)
 exact(.ref s.heap.objs.size,_,I.laid kp aN[_] (show Ek X.prog X.w _ h' _ .lst[_] from (by rwa [aJ],c.toList,E,h,e)),rfl,q _ I.hok.fresh[aN[_]])
def Inv.thaw(I:Inv X l h H s)(e:H d=sr[.frz o .dK[f]]):Inv X l h (upd H d .dK[f]) s:=by
 let ne:∀{b u},H b=sr u->(∀o,u≠.frz o .dK[f])->b≠d:=λq n z=>by subst z;rw[e] at q;cases q;exact n _ rfl
 let k:∀{b},H b=sy->b≠d:=λq z=>by simp_all
 refine I.step (g':=s.gens) (d':=s.drawn) (t':=s.toks) (ch:=[]) (λa z=>nomatch z) (λa a a a a q a=>q) (λb o a a a q a=>(o.slots,q)) (λb o a a n=>(Aj k[n]) ▸ n) (λb o a q=>(o,q))
  (λb j q=>(Aj[ne q λa z=>nomatch z]) ▸ q) (λb o u q=>(Aj[ne q λa z=>by grind]) ▸ q) (λb ps q=>(#[],by rw[Aj[ne q λa z=>nomatch z],q,lM])) (λa q=>q) (λb u q=>?_) I.bare
 by_cases g:b=d
 .subst g;rw[Aq] at q;cases q;exact(I.hok b _ e).2
 .rw[Aj g] at q;exact(I.hok b u q).stay (λa a a z=>z) (λc z=>(Aj[ne z λa z=>nomatch z]) ▸ z) λc j z=>(Aj[ne z λa z=>nomatch z]) ▸ z
def Ams(Q:VK):VK:=λv H=>Q v H\/∃d o kvs,H d=sr[.frz o .dK[kvs]]/\Q v (upd H d .dK[kvs])
def PE.thaw(h:PE X e t):PE X e (λb H Q=>t b H Ams[Q]):=(λj s b H Q I q=>cX (h j s b H _ I q) (λu l ⟨v,H1,I1,r1,a⟩=>by
 rcases a with a|⟨d,o,i,e,a⟩
 .exact(v,H1,I1,r1,a)
 .exact(v,_,I1.thaw e,r1,a)) λg g z=>z)
def PS.thaw{g:cO}{t:TS}(h:PS X g t):PS X g (λD i H=>t { D with nx:=λc k=>D.nx c k\/∃d o a,k d=sr[.frz o .dK[a]]/\D.nx c (upd k d .dK[a]) } i H):=(λn s i H D I q=>cX (h n s i H _ I q) (λf r z=>by
 cases f <;> try exact z
 obtain⟨b,p,l,j|⟨d,o,a,e,j⟩⟩:=z
 .exact(b,p,l,j)
 .exact(b,_,l.thaw e,j)) λm m z=>z)
end
def Axp{t b:aH}{g:lg aF}{prog:cD}{w:dW}{A:eQ}{E:aF->aO->Prop}{s:aO}{Q:aF->aO->Prop}(q:wG s.heap t #[])(r:wG s.heap b g.toArray)(h:Q .ref[b] s):wpAny (model prog w) A (binaryOp .Add .ref[t] .ref[b]) Q E s:=by
 let((cls,u,k,o),i,j,n,hd):=id q;let((l,f,data2,e),a,d,p,c):=id r;simp at j hd d c;subst j hd d c;exact wM (_,i,rfl) (_,a,rfl) sW vM oU oM (nQ _ _)
  (tuple_addW0 t b #[] g.toArray n p u f o e rfl) (i,a,h)
def Bhh(K:aB):R2:=λx y H Q=>∃a b ys,x=.ref a/\y=.ref b/\SqT K H a []/\SqT K H b ys/\Q .ref[b] H
def Bc3:OpR X binaryOp[.Add] Bhh[X.K]:=by
 rintro o s l H x y v u Q I e d ⟨a,b,m,rfl,rfl,k,j,q⟩;cases e;cases d;let(i,f,h,_):=I.tuple k;let(c,n,g,_):=I.tuple j;cases f;exact Axp h g (.ref b,H,I,rfl,q)
def Bnx(tb:(St->XK)->TS):TS:=tb λuw uw uw uw=>False
def Bc4{X:Cx}{body:lg cO}{p:nR}{hs:lg nR}{i:o8}{tb:(St->XK)->TS}(o:∀(pn:lg[aH×tu])(xe:aF->aO->Prop)(E:St->XK),Ed[CXo X.prog X.w][X.tryB pn xe][E]->PSs (X.tryB pn xe) body tb[E]):
  PS X (.Try body (p::hs) [] [] i) Bnx[tb]:=by
 intro r s m H D I h;refine sX[cX[o (X.pn ++ r) _ _ ?pass [] s m H D I.tryIn h][λf k q=>?_] λe k q=>q]
 case pass=>
  rintro j l B k e y A ⟨_,_,_,_,_,_,_,q⟩;trivial
 cases f with
 |next=>let(a,d,c,z):=q;exact lX (a,d,c.tryOut,z)
 |brk=>let(a,d,c,z):=q;exact(a,d,c.tryOut,z)
 |cont=>let(a,d,c,z):=q;exact(a,d,c.tryOut,z)
 |ret u=>let(v,a,d,c,n,z):=q;exact(v,a,d,c.tryOut,n,z)
end L2
namespace D
open PySem PySem.Spec PyProof.Rows L2
structure Lm where
 qual:t6
 params:qU
 body:bO
 scope:gR
 cap:List t6
inductive W where
 |non
 |bl (b:Bool)
 |int (i:Int)
 |str (x:t6)
 |tup (ws:List W)
 |ref (n:Nat)
 |scr (ns:List Int)
 |ty (n:String)
 |cls (c:Nat)
 |exn (c:Nat) (w:W)
inductive Cell where
 |lst (ws:List W)
 |dct (kvs:List (Key×W))
 |ins (c:Nat) (fs:List (t6×W))
 |dead
 |clo (l:Lm) (ws:List W)
 |tab (q:t6)
abbrev Store:=lg Cell
inductive R(α:Type) where
 |ok (a:α) (S:Store)
 |exc (c:Nat×W) (S:Store)
 |bad
abbrev M(α:Type):=Store->R α
@[inline] def M.ret {α:Type} (a:α):M α:=λS=>.ok a S
def M.bind{α β:Type}(m:M α)(f:α->M β):M β:=λS=>match m S with
 |.ok a S1=>f a S1
 |.exc c S1=>.exc c S1
 |.bad=>.bad
instance:Monad M where
 pure:=M.ret
 bind:=M.bind
def bad{α:Type}:M α:=λuw=>.bad
structure Th where
 K:aB
 cl:Nat->aH
 xf:Nat->Option t6
 pl:Nat->Bool
 tb:List aH:=[]
def Scr(Θ:Th)(H:Hp)(l:aH)(ns:lg Int):Prop:=(∃o,H l=sr[.frz o .lst[ns.map[V.int]]])\/
 ∃(o:tu)(its:Array aF)(n:Nat),Θ.K.lookup l=sr o/\o.cls=.type "list"/\o.dict=sy/\o.data=.seq its n/\its.size<=sizeLine/\Vals ns.map[V.int] its.toList
def Scr.sq(h:Scr a H l ns):SqL a.K H l ns.map[V.int]:=by
 rcases h with ⟨o,h⟩|h
 .exact .inl[.inr (o,h)]
 .exact .inr h
mutual
inductive RV(Θ:Th)(ρ:List aH)(H:Hp):W->V->Prop
 |non:RV Θ ρ H .non .non
 |bl (b:Bool):RV Θ ρ H (.bl b) (.bl b)
 |int (i:Int):RV Θ ρ H (.int i) (.int i)
 |str (x:t6):RV Θ ρ H (.str x) (.str x)
 |tup {a:aH} {ws:List W} {vs:List V}:H a=sr (.tup vs)->RVs Θ ρ H ws vs->RV Θ ρ H (.tup ws) (.ref a)
 |ref {n:Nat} {a:aH}:ρ[n]?=sr a->RV Θ ρ H (.ref n) (.ref a)
 |scr {l:aH} {ns:List Int}:Scr Θ H l ns->RV Θ ρ H (.scr ns) (.ref l)
 |ty (n:String):RV Θ ρ H (.ty n) (.ty n)
 |cls (c:Nat):RV Θ ρ H (.cls c) (.ref (Θ.cl c))
 |exn {c:Nat} {w:W} {a:aH} {o:Option (Nat×Option aH)}:Θ.xf c=sy->a∉ρ->H a=sr (Kz a (.ref (Θ.cl c)) o)->RV Θ ρ H (.exn c w) (.ref a)
 |exf {c:Nat} {w:W} {v:V} {a d:aH} {n:t6}:Θ.xf c=sr n->a∉ρ->d∉ρ->H a=sr (Kz a (.ref (Θ.cl c)) (sr (u6 1 (sr d))))->H d=sr (.xd [(n,v)])->RV Θ ρ H w v->RV Θ ρ H (.exn c w) (.ref a)
inductive RVs(Θ:Th)(ρ:List aH)(H:Hp):List W->List V->Prop
 |nil:RVs Θ ρ H [] []
 |cons {w:W} {v:V} {ws:List W} {vs:List V}:RV Θ ρ H w v->RVs Θ ρ H ws vs->RVs Θ ρ H (w::ws) (v::vs)
end
structure Cd(ρ ρ':List aH)(H H':Hp):Prop where
 t:∀b xs,H b=sr (.tup xs)->H' b=sr (.tup xs)
 f:∀b o u,H b=sr (.frz o u)->H' b=sr (.frz o u)
 k:∀b o,H b=sr o->b∉ρ->H' b=sr o
 n:∀b,b∈ρ'->b∈ρ\/H b=sy
def Cd.refl(ρ:lg aH)(H:Hp):Cd ρ ρ H H:=(λuw uw q=>q,λuw uw uw q=>q,λuw uw q uw=>q,λuw q=>.inl q)
theorem Cd.trans(a:Cd h g H H1)(b:Cd g d H1 H2):Cd h d H H2 where
 t:=λc i q=>b.t c i (a.t c i q)
 f:=λc o u q=>b.f c o u (a.f c o u q)
 k:=λc o q m=>b.k c o (a.k c o q m) λz=>by
  rcases a.n c z with z|z
  .exact m z
  .rw[q] at z;cases z
 n:=λc m=>by
  rcases b.n c m with z|z
  .exact a.n c z
  .by_cases j:c∈h
   .exact .inl j
   .refine .inr ?_;cases e:H c with
    |none=>rfl
    |some o=>rw[a.k c o e j] at z;cases z
def Cd.out(t:Cd d b H H')(h:H a=sr o)(m:a∉d):a∉b:=(λz=>by
 rcases t.n a z with q|q
 .trivial
 simp_all)
def Scr.mono(t:Cd d a H H')(h:Scr b H l ns):Scr b H' l ns:=by
 rcases h with ⟨o,h⟩|h
 .exact .inl (o,t.f _ _ _ h)
 .exact .inr h
structure RVm(Θ:Th)(ρ ρ':List aH)(H H':Hp):Prop where
 r:∀{n:Nat} {a:aH},ρ[n]?=sr a->ρ'[n]?=sr a
 t:∀{b:aH} {xs:List V},H b=sr (.tup xs)->H' b=sr (.tup xs)
 s:∀{b:aH} {ns:List Int},Scr Θ H b ns->Scr Θ H' b ns
 x:∀{b a:aH} {c:aF} {o:Option (Nat×Option aH)},H b=sr (Kz a c o)->b∉ρ->b∉ρ'/\H' b=sr (Kz a c o)
 d:∀{b:aH} {xs:List (t6×V)},H b=sr (.xd xs)->b∉ρ->b∉ρ'/\H' b=sr (.xd xs)
def Axq{c b:lg aH}(p:c <+: b){n:Nat}(h:c[n]?=sr a):b[n]?=sr a:=by
 let(r,rfl):=p;exact(bD (aK.mp h).1).trans h
def RV.map(q:RVm e j a H H')(h:RV e j H w v):RV e a H' w v:=(
 RV.rec (motive_1:=λw v _=>RV e a H' w v) (motive_2:=λw v _=>RVs e a H' w v) .non .bl .int .str (λh _ r=>.tup q.t[h] r) (λh=>.ref q.r[h]) (λh=>.scr q.s[h]) .ty .cls (λx m h=>.exn x (q.x h m).1 (q.x h m).2) (λx m n h g _ r=>.exf x (q.x h m).1 (q.d g n).1 (q.x h m).2 (q.d g n).2 r) .nil (λ_ _ h r=>.cons h r) h)
def RVs.ind{p:lg W->lg V->Prop}(n:p [] [])(c:∀{w v a b},RV f e H w v->RVs f e H a b->p a b->p (w::a) (v::b))(h:RVs f e H a b):p a b:=by
 refine RVs.rec (motive_1:=λ_ _ _=>True) (motive_2:=λx y _=>p x y) ?_ ?_ ?_ ?_ ?_ ?_ ?_ ?_ ?_ ?_ ?_ n (λh r _ t=>c h r t) h <;> intros <;> trivial
def RVs.map(q:RVm Θ ρ ρ' H H')(h:RVs Θ ρ H ws vs):RVs Θ ρ' H' ws vs:=RVs.ind (p:=λx y=>RVs Θ ρ' H' x y) .nil (λh _ t=>.cons h.map[q] t) h
def Cd.vm(p:ρ <+: ρ')(t:Cd ρ ρ' H H'):RVm Θ ρ ρ' H H':=(Axq p,t.t _ _,Scr.mono t,λh m=>(t.out h m,t.k _ _ h m),λh m=>(t.out h m,t.k _ _ h m))
def RV.mono(p:ρ <+: ρ')(t:Cd ρ ρ' H H'):RV Θ ρ H w v->RV Θ ρ' H' w v:=RV.map t.vm[p]
def RVs.mono(p:ρ <+: ρ')(t:Cd ρ ρ' H H'):RVs Θ ρ H ws vs->RVs Θ ρ' H' ws vs:=RVs.map t.vm[p]
def RV.tI(h:RV f e H .tup[g] v):∃a d,v=.ref a/\H a=sr .tup[d]/\RVs f e H g d:=by
 cases h;exact(_,_,rfl,‹_›,‹_›)
def RV.rI{n:Nat}(h:RV f d H .ref[n] v):∃a,v=.ref a/\d[n]?=sr a:=by
 cases h;exact(_,rfl,‹_›)
def RV.cI(h:RV a d H .scr[ns] v):∃l,v=.ref l/\Scr a H l ns:=by
 cases h;exact(_,rfl,‹_›)
def RV.iI{i:Int}(h:RV e d H .int[i] v):v=.int i:=by cases h;rfl
def RVs.length(h:RVs Θ ρ H ws vs):ws.length=vs.length:=RVs.ind (p:=λws vs=>ws.length=vs.length) rfl (λ_ _ t=>congrArg aAm t) h
theorem RVs.get:∀{b:lg W} {c:lg V} {i:Nat} {w:W},RVs f d H b c->b[i]?=sr w->∃v,c[i]?=sr v/\RV f d H w v
 |_,_,_,_,.nil,e=>by trivial
 |_,_,0,_,.cons h _,e=>by simp at e;subst e;exact(_,rfl,h)
 |_,_,i+1,w,.cons _ r,e=>by
  let(v,k,g):=RVs.get r (by trivial)
  exact(v,by trivial,g)
def RVs.append(h:RVs Θ ρ H ws vs)(s:RVs Θ ρ H us zs):RVs Θ ρ H (ws ++ us) (vs ++ zs):=RVs.ind (p:=λws vs=>RVs Θ ρ H (ws ++ us) (vs ++ zs)) s (λh _ t=>.cons h t) h
def RKV(Θ:Th)(ρ:lg aH)(H:Hp):lg[Key×W]->lg[Key×V]->Prop:=mG λp q=>p.1=q.1/\RV Θ ρ H p.2 q.2
def RFs(Θ:Th)(ρ:lg aH)(H:Hp):lg[t6×W]->lg[t6×V]->Prop:=mG λp q=>p.1=q.1/\RV Θ ρ H p.2 q.2
abbrev fz(o:tu):HO:=.frz o (.ext λuw=>True)
abbrev fc(a:aH)(o:tu):HO:=.frz o .own[a]
def Amt(H:Hp)(a:aH)(cl:lg[t6×aH]):lg t6->lg V->Prop:=mG λx v=>∃c o u,cl.lookup x=sr c/\H c=sr[fc a o]/\o.data=.cell sr[u]/\RelV v u
inductive Clo(H:Hp)(a:aH)(l:Lm)(vs:List V):Prop
 |mk (cl:List (t6×aH)) (pm ct:aF) (c':aH) (oC:tu) (fs:Array aF) (t:Tok) (h:H a=sr (fz (jO "<lambda>" l.qual l.params l.body l.scope cl pm c' ct)))
  (hc:H c'=sr (fz oC)) (d:oC.data=.fields fs) (q:fs[1]?=sr (.str l.qual t)) (sub:∀x c,cl.lookup x=sr c->x∈l.cap) (inj:∀x y c,cl.lookup x=sr c->cl.lookup y=sr c->x=y) (cap:Amt H a cl l.cap vs):Clo H a l vs
def Xm(H:Hp)(q:t6)(ps:Array aF):Prop:=∀pos v,codeAmong pos ps.toList=sr v->∃c o fs t,v=.ref c/\H c=sr fz[o]/\o.data=.fields fs/\fs[1]?=sr[.str q t]
def Axr:HO->Bool
 |.frz _ (.own _)=>t7
 |_=>t8
def clK:HO->Bool
 |.frz _ (.own _)=>t8
 |.frz _ (.ext _)=>t8
 |_=>t7
def Cd.c(t:Cd e a H H'):∀b u,H b=sr u->clK u=t8->H' b=sr u:=(λb u q z=>by
 cases u <;> first|(cases z;done)|exact t.f _ _ _ q)
def Amt.mono(t:∀b u,H b=sr u->clK u=t8->H' b=sr u)(h:Amt H a cl ns vs):Amt H' a cl ns vs:=L2.Paired.mapP h λ_ _ ⟨c,o,u,q,z,r⟩=>(c,o,u,q,t _ _ z rfl,r)
def Clo.mono(t:∀b u,H b=sr u->clK u=t8->H' b=sr u)(h:Clo H a l c):Clo H' a l c:=by
 let(cl,g,ct,m,i,fs,e,h,k,d,q,f,j,cap):=h;exact(cl,g,ct,m,i,fs,e,t _ _ h rfl,t _ _ k rfl,d,q,f,j,cap.mono t)
def Xm.mono(t:∀b u,H b=sr u->clK u=t8->H' b=sr u)(h:Xm H q ps):Xm H' q ps:=(λa v e=>by
 let(c,o,fs,d,r,z,y):=h a v e;exact(c,o,fs,d,r,t _ _ z rfl,y))
def Ig(Θ:Th)(ρ:lg aH)(H:Hp)(a:aH):Cell->Prop
 |.lst ws=>∃vs,H a=sr .lst[vs]/\RVs Θ ρ H ws vs
 |.dct kvs=>∃vs,H a=sr .dK[vs]/\RKV Θ ρ H kvs vs
 |.ins c fs=>∃dx vs,H a=sr[.ins Θ.cl[c] dx vs]/\RFs Θ ρ H fs vs
 |.dead=>∃o u,H a=sr[.frz o u]/\Axr[.frz o u]=t8
 |.clo l ws=>∃vs,Clo H a l vs/\RVs Θ ρ H ws vs
 |.tab q=>∃ps,H a=sr .tbl[ps]/\tH ps.toList/\Xm H q ps
structure Rep(Θ:Th)(ρ:List aH)(S:Store)(H:Hp):Prop where
 len:ρ.length=S.length
 nd:ρ.Nodup
 tb:Θ.tb <+: ρ
 at_:∀(n:Nat)(a:aH)(c:Cell),ρ[n]?=sr a->S[n]?=sr c->Ig Θ ρ H a c
def RSl(Θ:Th)(ρ:lg aH)(H:Hp):lg o9[W]->lg o9[V]->Prop:=λY σ=>∀(i:Nat)(w:W),Y[i]?=sr sr[w]->∃v,σ[i]?=sr sr[v]/\RV Θ ρ H w v
def RSl.mono(p:b <+: a)(t:Cd b a H H')(h:RSl d b H Y c):RSl d a H' Y c:=(λi w e=>by
 let(v,g,f):=h i w e;exact(v,g,f.mono p t))
abbrev De:=lg o9[W]
section
variable(Θ:Th)
def XP(ρ:lg aH)(H:Hp)(c:Nat×W)(E:XK):Prop:=match Θ.xf c.1 with
 |none=>E .ref[Θ.cl[c.1]] sr[u6 (if Θ.pl c.1 then 0 else 1) sy] H
 |some n=>∀d v,d∉ρ->H d=sr .xd[[(n,v)]]->RV Θ ρ H c.2 v->E .ref[Θ.cl[c.1]] sr[u6 1 sr[d]] H
def Av{α β:Type}(Rel:lg aH->Hp->α->β->Prop)(ρ:lg aH)(H:Hp)(r:R α)(Q:β->Hp->Prop)(E:XK):Prop:=match r with
 |.ok w S'=>∀ρ' H' v,ρ <+: ρ'->Cd ρ ρ' H H'->Rep Θ ρ' S' H'->Rel ρ' H' w v->Q v H'
 |.exc c S'=>∀ρ' H',ρ <+: ρ'->Cd ρ ρ' H H'->Rep Θ ρ' S' H'->XP Θ ρ' H' c E
 |.bad=>False
inductive TF{α β:Type}(Rel:List aH->Hp->α->β->Prop)(f:De->M α)(σ:L2.St)(H:Hp)(Q:β->Hp->Prop)(E:XK):Prop
 |mk (ρ:List aH) (S:Store) (Y:De) (R:Rep Θ ρ S H) (sl:RSl Θ ρ H Y σ) (q:Av Θ Rel ρ H (f Y S) Q E):TF Rel f σ H Q E
inductive SqP{α β γ Y':Type}(Rel:List aH->Hp->α->β->Prop)(Rel2:List aH->Hp->γ->Y'->Prop)(ρ:List aH)(H:Hp)(f:α->M γ)(Q:Y'->Hp->Prop)(E:XK)(v:β)(H1:Hp):Prop
 |mk (ρ1:List aH) (S1:Store) (w:α) (p:ρ <+: ρ1) (t:Cd ρ ρ1 H H1) (R:Rep Θ ρ1 S1 H1) (r:Rel ρ1 H1 w v) (q:Av Θ Rel2 ρ1 H1 (f w S1) Q E):SqP Rel Rel2 ρ H f Q E v H1
inductive SqQ{α β γ Y':Type}(Rel:List aH->Hp->α->β->Prop)(Rel2:List aH->Hp->γ->Y'->Prop)(ρ:List aH)(H:Hp)(ρ0:List aH)(H0:Hp)(f:α->M γ)(Q:Y'->Hp->Prop)(E:XK)(v:β)(H1:Hp):Prop
 |mk (ρ1:List aH) (S1:Store) (w:α) (p:ρ <+: ρ1) (t:Cd ρ ρ1 H H1) (R:Rep Θ ρ1 S1 H1) (r:Rel ρ1 H1 w v) (q:Av Θ Rel2 ρ0 H0 (f w S1) Q E):SqQ Rel Rel2 ρ H ρ0 H0 f Q E v H1
def tF(E:L2.St->XK)(f:De->M W):TE:=λσ H Q=>TF Θ RV[Θ] f σ H Q E[σ]
def tFs(E:L2.St->XK)(f:De->M lg[W]):TA:=λσ H Q=>TF Θ RVs[Θ] f σ H Q E[σ]
def tFb(E:L2.St->XK)(f:De->M Bool):TT:=λσ H Q=>TF Θ (λuw uw a b=>a=b) f σ H Q E[σ]
def spF(g:lg W->M W):Sp:=λvs H Q E=>∃ρ S ws,Rep Θ ρ S H/\RVs Θ ρ H ws vs/\Av Θ RV[Θ] ρ H (g ws S) Q E
end
section
def WE.weak(h:WE X e t)(k:∀σ H Q,t' σ H Q->t σ H Q):WE X e t':=⟨λaa s σ H Q I q=>h.un aa s σ H Q I (k σ H Q q)⟩
def WA.weak(h:WA X es t)(k:∀σ H Q,t' σ H Q->t σ H Q):WA X es t':=⟨λpos aa s σ H Q I q=>h.un pos aa s σ H Q I (k σ H Q q)⟩
def WT.weak(h:WT X e t)(k:∀σ H Q,t' σ H Q->t σ H Q):WT X e t':=⟨λaa s σ H Q I q=>h.un aa s σ H Q I (k σ H Q q)⟩
theorem Av.shift{k j:Type}{c:lg aH->Hp->k->j->Prop}{Q:j->Hp->Prop}:∀{r:R k},Av m c i H r Q E->i <+: b->Cd i b H H1->Av m c b H1 r Q E
 |.ok ..,h,p,t=>λa g v f d e n=>h a g v p.trans[f] t.trans[d] e n
 |.exc ..,h,p,t=>λa g f d e=>h a g p.trans[f] t.trans[d] e
 |.bad,h,_,_=>h
def Av.seq{i q l n:Type}{Rel:lg aH->Hp->i->q->Prop}{a:lg aH->Hp->l->n->Prop}{d:lg aH}{H:Hp}{m:M i}{f:i->M l}{S:Store}{Q:n->Hp->Prop}{E:XK}(h:Av j a d H ((m >>= f) S) Q E):
  Av j Rel d H m[S] (SqP j Rel a d H f Q E) E:=by
 let h:Av j a d H (M.bind m f S) Q E:=h;unfold M.bind at h;cases e:m S with
 |bad=>rw[e] at h;exact h
 |exc c o=>rw[e] at h;exact h
 |ok w o=>
  rw[e] at h;exact λg s v p t r k=>(g,o,w,p,t,r,k,Av.shift h p t)
def Av.now{c b:Type}{Rel:lg aH->Hp->c->b->Prop}{w:c}{v:b}{Q:b->Hp->Prop}(h:Av e Rel a H ((pure w:M c) S) Q E)(r:Rep e a S H)(q:Rel a H w v):Q v H:=(
 h a H v aP[a] (Cd.refl a H) r q)
def Av.mono{f e:Type}{a:lg aH->Hp->f->e->Prop}{r:R f}{Q Q':e->Hp->Prop}(h:Av j a i H r Q E)(k:∀v b,Q v b->Q' v b):Av j a i H r Q' E:=by
 cases r with
 |ok w l=>exact λd b v p t r q=>k v b (h d b v p t r q)
 |exc c l=>exact h
 |bad=>exact h
def Rh{E:L2.St->XK}{f g:De->M W}{m:W->W->M W}{r:R2}(k:∀b S H x y d c Q E,Rep a b S H->RV a b H x d->RV a b H y c->Av a RV[a] b H (m x y S) Q E->r d c H Q):
  ∀e H Q,tF a E (λY=>do let x<-f Y;let y<-g Y;m x y) e H Q->tOp r (tF a E f) (tF a E g) e H Q:=by
 rintro e H Q ⟨b,S,Y,R,l,h⟩;refine(b,S,Y,R,l,(Av.seq h).mono ?_);rintro d F ⟨j,z,x,t,o,A,q,v⟩;refine(j,z,Y,A,l.mono t o,(Av.seq v).mono ?_);rintro c B ⟨i,w,y,s,n,R2,p,u⟩;exact k i w B x y d c Q _ R2 (q.mono s n) p u
end
section
def Ig.there(h:Ig f e H a c):∃o,H a=sr o:=by
 cases c with
 |lst b=>let(d,h,_):=h;exact(_,h)
 |dct b=>let(d,h,_):=h;exact(_,h)
 |ins c b=>let(j,d,h,_):=h;exact(_,h)
 |dead=>let(_,_,h,_):=h;exact(_,h)
 |clo k b=>let(d,(cl,g,ct,l,i,fs,t,h,_),_):=h;exact(_,h)
 |tab q=>let(ps,h,_):=h;exact(_,h)
def Rep.get(R:Rep e b S H){n:Nat}(h:S[n]?=sr c):∃a,b[n]?=sr a/\Ig e b H a c:=by
 let d:n < b.length:=R.len ▸ (aK.mp h).1;exact(_,aV d,R.at_ n _ c aV[d] h)
def Rep.tracked(R:Rep e b S H)(h:a∈b):∃o,H a=sr o:=by
 let(n,d,rfl):=kO h;let hs:n < S.length:=by rw[<-R.len];omega
 exact(R.at_ n _ _ aV[d] aV[hs]).there
def Paired.imp2{α β:Type}{F G:α->β->Prop}(f:∀a b,F a b->G a b){l:lg α}{m:lg β}(r:mG F l m):mG G l m:=L2.Paired.mapP r f
def Ig.mono(p:g <+: d)(t:Cd g d H H')(k:H' a=H a)(h:Ig l g H a c):Ig l d H' a c:=by
 cases c with
 |lst e=>let(b,h,r):=h;exact(b,k.trans h,r.mono p t)
 |dct e=>let(b,h,r):=h;exact(b,k.trans h,Paired.imp2 (λf f z=>(z.1,z.2.mono p t)) r)
 |ins c e=>let(m,b,h,r):=h;exact(m,b,k.trans h,Paired.imp2 (λf f z=>(z.1,z.2.mono p t)) r)
 |dead=>let(o,u,h,z):=h;exact(o,u,k.trans h,z)
 |clo j e=>let(b,h,r):=h;exact(b,h.mono t.c,r.mono p t)
 |tab q=>let(ps,h,z,y):=h;exact(ps,k.trans h,z,y.mono t.c)
theorem Bj(h:H p=sy)(q:∀b,b∈a->b∈ρ\/b=p:=by intro b c;first|exact .inl c|(rcases bF.mp c with z|z;exact .inl z;exact .inr aM.mp[z])):Cd ρ a H (upd H p o) where
 t:=λb d q=>by rw[Aj[Bm q h]];exact q
 f:=λb o u q=>by rw[Aj[Bm q h]];exact q
 k:=λb o q e=>by rw[Aj[Bm q h]];exact q
 n:=λb m=>by
  rcases q b m with z|z
  .exact .inl z
  .subst z;exact .inr h
theorem Rep.beside(R:Rep d b S H)(h:H p=sy):Rep d b S (upd H p o) where
 len:=R.len
 nd:=R.nd
 tb:=R.tb
 at_:=λn a c f e=>by
  let q:=R.at_ n a c f e;let(u,hu):=q.there;exact q.mono aP[b] Bj[h] Aj[Bm hu h]
theorem Rep.alloc(R:Rep i f S H)(h:H p=sy)(q:Ig i (f ++ [p]) (upd H p o) p c):Rep[i][f ++ [p]][S ++ [c]][upd H p o] where
 len:=by rw[bH,bH,R.len];rfl
 nd:=by
  rw[iG];refine(R.nd,(),λa m b l=>?_)
  obtain rfl:b=p:=by simpa using l
  let(u,hu):=R.tracked m;exact Bm hu h
 tb:=R.tb.trans (bL _ _)
 at_:=λn a d e g=>by
  by_cases j:n < f.length
  .rw[bD j] at e;rw[bD (by rw[<-R.len];exact j)] at g
   let z:=R.at_ n a d e g;let(u,hu):=z.there;exact z.mono (bL _ _) Bj[h] Aj[Bm hu h]
  .let k:=(aK.mp e).1;rw[bH,eZ] at k;obtain rfl:n=f.length:=by omega
   rw[bG aN[_],gF] at e;rw[R.len,bG aN[_],gF] at g;obtain rfl:p=a:=by simpa using e
   obtain rfl:c=d:=by simpa using g
   exact q
def La:(a ++ [p])[a.length]?=sr p:=by simp
theorem Rep.write{n:Nat}(R:Rep l e S H)(h:e[n]?=sr a)(t:Cd e e H (upd H a o))(q:Ig l e (upd H a o) a c):Rep l e (S.set n c) (upd H a o) where
 len:=by rw[fB];exact R.len
 nd:=R.nd
 tb:=R.tb
 at_:=λm b d g f=>by
  by_cases i:m=n
  .subst i;rw[h] at g;cases g;let p:m < S.length:=by rw[<-R.len];exact(aK.mp h).1
   rw[dH p] at f;cases f;exact q
  .rw[cW bN[i]] at f;let ne:b≠a:=by
    rintro rfl;let(u,k):=aK.mp g;let(s,j):=aK.mp h;exact i[(kZ R.nd).mp k.trans[j.symm]]
   exact(R.at_ m b d g f).mono aP[e] t Aj[ne]
theorem Mv{n:Nat}(i:d[n]?=sr a)(h:H a=sr u)(g:∀c,u≠.tup c)(e:∀ob x,u≠.frz ob x):Cd d d H (upd H a o) where
 k:=λb o q m=>by
  rw[Aj (by rintro rfl;exact m dX[i])]
  exact q
 n:=λb m=>.inl m
 t:=λb c q=>by
  rw[Aj (by rintro rfl;rw[h] at q;exact g c bY[q])]
  exact q
 f:=λb ob x q=>by
  rw[Aj (by rintro rfl;rw[h] at q;exact e ob x bY[q])]
  exact q
end
def big:Nat:=1000000
def K1{n:Nat}(h:n<=big):n<=sizeLine:=(aD h ())
def Dg(ws:lg W):M W:=λS=>if ws.length<=big then .ok[.ref S.length][S ++ [.lst ws]] else .bad
def Axs(ws:lg W):M W:=if ws.length<=big then pure .tup[ws] else bad
def addW:W->W->M W
 |.int i,.int j=>pure .int[i+j]
 |.str x,.str y=>if x.length+y.length<=big then pure .str[x ++ y] else bad
 |.tup xs,.tup ys=>if xs.length+ys.length<=big then pure .tup[xs ++ ys] else bad
 |.ref n,.ref m=>λS=>match S[n]?,S[m]? with
  |some (.lst xs),sr (.lst ys)=>if xs.length+ys.length<=big then .ok[.ref S.length][S ++ [.lst[xs ++ ys]]] else .bad
  |_,_=>.bad
 |_,_=>bad
def small(i:Int):Bool:=decide[-(2 ^ 64) < i]&&decide[i < 2 ^ 64]
def onI(f:Int->Int->M W):W->W->M W
 |.int i,.int j=>f i j
 |_,_=>bad
def W5(g:RV a b H x d)(e:RV a b H y c)(h:Av a RV[a] b H (onI f x y S) Q E):∃i j,d=.int i/\c=.int j/\Av a RV[a] b H (f i j S) Q E:=by
 unfold onI at h;split at h
 .cases g;cases e;exact(_,_,rfl,rfl,h)
 .cases h
def Bny:W->W->M W:=onI λi j=>pure .int[i - j]
def Bjd:W->W->M W
 |.int i,.int j=>if small i||small j then pure .int[i * j] else bad
 |.str z,.int n=>if decide[z.length<=16]&&decide[-1048576<=n]&&decide[n<=1048576] then pure .str[uZ z n] else bad
 |.ref n,.int k=>λS=>match S[n]? with
  |some (.lst xs)=>if decide[-(2 ^ 63)<=k]&&decide[k < 2 ^ 63]&&decide[xs.length * k.toNat<=big] then .ok[.ref S.length][S ++ [.lst (cL k.toNat xs).flatten]] else .bad
  |_=>.bad
 |_,_=>bad
def Bqf:W->W->M W:=onI λi j=>if 0 < j then pure .int[i % j] else bad
section
nonrec def Bmx(R:Rep k f S H)(v:RV k f H x n)(u:RV k f H y m)(h:Av k RV[k] f H (addW x y S) Q E):
  (rI0 (λi j=>V.int[i+j]) n m H Q\/(∃i j,n=.str i/\m=.str j/\i.length+j.length<=sizeLine/\Q .str[i ++ j] H))\/((Bha k.K n m H Q\/Bhh k.K n m H Q)\/Bm5 n m H Q):=by
 unfold addW at h;split at h
 .cases v;cases u;exact .inl[.inl (_,_,rfl,rfl,h.now R .int[_])]
 .cases v;cases u;split at h
  .rename_i A;exact .inl[.inr (_,_,rfl,rfl,K1 A,h.now R .str[_])]
  .exact(h).elim
 .let(a,w,rfl,t,d):=v.tI;let(b,l,rfl,s,g):=u.tI;split at h
  .rename_i z;cases d with
   |nil=>exact .inr .inl[.inr (a,b,l,rfl,rfl,SqT.of t,SqT.of s,h.now R (.tup s g))]
   |cons q r=>
   let d:=RVs.cons q r;let G:=d.length;let F:=g.length;refine .inr .inl[.inl (a,b,_,l,rfl,rfl,SqT.of t,SqT.of s,(),K1 (by rw[<-G,<-F];exact z),λe=>?_,λP p hp=>?_)]
   .subst e;cases g;rw[bQ] at h;exact h.now R (.tup t d)
   .exact h f _ _ aP[f] Bj[hp] R.beside[hp] .tup[Aq][(d.append g).mono aP[f] Bj[hp]]
  .ac_rfl
 .let(a,rfl,I):=v.rI;let(b,rfl,J):=u.rI;split at h
  .rename_i C B N L;split at h
   .rename_i A;let(w,t,d):=R.at_ _ _ _ I N;let(l,s,g):=R.at_ _ _ _ J L;refine .inr[.inr (a,b,w,l,rfl,rfl,t,s,K1 (by rw[<-d.length,<-g.length];exact A),λp hp=>?_)]
    let O:=R.alloc (o:=.lst[w ++ l]) (c:=.lst[C ++ B]) hp (_,Aq,(d.append g).mono (bL _ _) Bj[hp]);refine h (f ++ [p]) _ _ (bL _ _) Bj[hp] O .ref[?_];rw[<-R.len];exact La
   .exact h.elim
  .exact h.elim
 .ac_rfl
end
def Aif:HO->Bool
 |.lst _=>t7
 |.dK _=>t7
 |.frz _ (.dK _)=>t7
 |_=>t8
def Arp{H a:Hp}(t:∀b o,H b=sr o->Aif o=t8->a b=sr o):RVm d c c H a:=(
 (λh=>h,λh=>t _ _ h rfl,λh=>by
  rcases h with ⟨o,h⟩|h
  .exact .inl (o,t _ _ h rfl)
  .exact .inr h,λh m=>(m,t _ _ h rfl),λh m=>(m,t _ _ h rfl)))
def RV.keep{H H':Hp}(t:∀b o,H b=sr o->Aif o=t8->H' b=sr o):RV Θ ρ H w v->RV Θ ρ H' w v:=RV.map Arp[t]
def RVs.keep{H H':Hp}(t:∀b o,H b=sr o->Aif o=t8->H' b=sr o):RVs Θ ρ H ws vs->RVs Θ ρ H' ws vs:=RVs.map Arp[t]
def Axt{H a:Hp}(t:∀b o,H b=sr o->Aif o=t8->a b=sr o):∀b u,H b=sr u->clK u=t8->a b=sr u:=(λb u q z=>t b u q (by
 unfold clK at z;split at z <;> first|rfl|cases z))
def Ig.keep(k:H' a=H a)(t:∀b o,H b=sr o->Aif o=t8->H' b=sr o)(h:Ig l i H a c):Ig l i H' a c:=by
 cases c with
 |lst e=>let(d,h,r):=h;exact(d,k.trans h,r.keep t)
 |dct e=>let(d,h,r):=h;exact(d,k.trans h,Paired.imp2 (λf f z=>(z.1,z.2.keep t)) r)
 |ins c e=>let(m,d,h,r):=h;exact(m,d,k.trans h,Paired.imp2 (λf f z=>(z.1,z.2.keep t)) r)
 |dead=>let(o,u,h,z):=h;exact(o,u,k.trans h,z)
 |clo j e=>let(d,h,r):=h;exact(d,h.mono Axt[t],r.keep t)
 |tab q=>let(ps,h,z,y):=h;exact(ps,k.trans h,z,y.mono Axt[t])
def Bhi:W->W->M W:=onI λi j=>if decide[0 < j]&&decide[j < 1073741824] then pure .int[i / j] else bad
def Bqg:W->W->M W:=onI λi j=>if 0<=j then pure .int[i / 2 ^ j.toNat] else bad
def Bnz:W->W->M W:=onI λi j=>if decide[0<=j]&&decide[j<=1000000]&&decide[i.natAbs < 2 ^ 64] then pure .int[i * 2 ^ j.toNat] else bad
def Bqh:W->W->M W:=onI λi j=>if decide[i=10]&&decide[j=20] then pure .int[i ^ j.toNat] else bad
def Bqi:W->W->M W:=onI λi j=>pure .int[Builtin.bitAnd i j]
def Aus(p:Int->Int->Bool)(q:t6->t6->Bool):W->W->M W
 |.int i,.int j=>pure .bl[p i j]
 |.str i,.str j=>pure .bl[q i j]
 |_,_=>bad
def Kg(i j:t6):Bool:=decide[i.cps.toList < j.cps.toList]
section
def Hi{b:Type}[Decidable c]{m:M b}{a:lg aH->Hp->b->g->Prop}{Q:g->Hp->Prop}(h:Av i a f H ((if c then m else bad) S) Q E):c/\Av i a f H m[S] Q E:=by
 by_cases d:c
 .rw[di d] at h;trivial
 .rw[dm d] at h;trivial
def Bmy(R:Rep a b S H)(f:RV a b H x d)(e:RV a b H y c)(h:Av a RV[a] b H (Bny x y S) Q E):rI0 (λi j=>V.int[i - j]) d c H Q:=by
 let(i,j,rfl,rfl,h):=W5 f e h;exact(_,_,rfl,rfl,h.now R .int[_])
theorem RVs.rep(r:RVs b a H c d):∀k:Nat,RVs b a H (cL k c).flatten (cL k d).flatten
 |0=>.nil
 |k+1=>r.append[RVs.rep r k]
nonrec def Bqj(R:Rep e d S H)(m:RV e d H x g)(l:RV e d H y f)(h:Av e RV[e] d H (Bjd x y S) Q E):
  (rI Bb1 (λi j=>V.int[i * j]) g f H Q\/(∃z n,g=.str z/\f=.int n/\z.length<=16/\-1048576<=n/\n<=1048576/\Q .str[uZ z n] H))\/Bm6 g f H Q:=by
 unfold Bjd at h;split at h
 .cases m;cases l;let(b,h):=Hi h;refine .inl[.inl (_,_,rfl,rfl,?_,h.now R .int[_])];rcases qJ.mp b with q|q
  .exact .inl (dg (bU.mp q).1,dg (bU.mp q).2)
  .exact .inr (dg (bU.mp q).1,dg (bU.mp q).2)
 .cases m;cases l;let(b,h):=Hi h;let(b,r):=bU.mp b;let(t,s):=bU.mp b;exact .inl[.inr (_,_,rfl,rfl,dg t,dg s,dg r,h.now R .str[_])]
 .rename_i n k;let(a,rfl,A):=m.rI;cases l;split at h
  .rename_i w C;split at h
   .rename_i b;let(b,r):=bU.mp b;let(t,s):=bU.mp b;let(u,B,v):=R.at_ _ _ _ A C;refine .inr (a,k,u,rfl,rfl,B,dg t,dg s,K1 (by rw[<-v.length];exact dg r),λp hp=>?_)
    let F:=R.alloc (o:=.lst (cL k.toNat u).flatten) (c:=.lst (cL k.toNat w).flatten) hp (_,Aq,(v.rep _).mono (bL _ _) Bj[hp]);refine h (d ++ [p]) _ _ (bL _ _) Bj[hp] F .ref[?_];rw[<-R.len];exact La
   .ac_rfl
  .ac_rfl
 .ac_rfl
def Bn0(R:Rep a b S H)(g:RV a b H x e)(f:RV a b H y d)(h:Av a RV[a] b H (Bhi x y S) Q E):rI Bpy (λi j=>V.int[i / j]) e d H Q:=by
 let(i,j,rfl,rfl,h):=W5 g f h;let(c,h):=Hi h;exact(_,_,rfl,rfl,(dg (bU.mp c).1,dg (bU.mp c).2),h.now R .int[_])
def Bqk(R:Rep a b S H)(g:RV a b H x e)(f:RV a b H y d)(h:Av a RV[a] b H (Bnz x y S) Q E):rI Bpz (λi j=>V.int[i * 2 ^ j.toNat]) e d H Q:=by
 let(i,j,rfl,rfl,h):=W5 g f h;let(c,h):=Hi h;let(c,k):=bU.mp c;let(m,l):=bU.mp c;exact(_,_,rfl,rfl,(dg m,dg l,dg k),h.now R .int[_])
def Bc5{p:Int->Int->Bool}(R:Rep a b S H)(g:RV a b H x e)(f:RV a b H y d)(h:Av a RV[a] b H (Aus p q x y S) Q E):
  rI0 (λi j=>V.bl[p i j]) e d H Q\/∃i j,e=.str i/\d=.str j/\Q .bl[q i j] H:=by
 unfold Aus at h;split at h
 .cases g;cases f;exact .inl (_,_,rfl,rfl,h.now R .bl[_])
 .cases g;cases f;exact .inr (_,_,rfl,rfl,h.now R .bl[_])
 .exact bZ h
end
inductive Bop where
 |add|sub|mul|fdiv|mod|shl|shr|and|pow
inductive Cop where
 |lt|le|gt|ge
def Bop.fn:Bop->W->W->M W
 |.add=>addW
 |.sub=>Bny
 |.mul=>Bjd
 |.fdiv=>Bhi
 |.mod=>Bqf
 |.shl=>Bnz
 |.shr=>Bqg
 |.and=>Bqi
 |.pow=>Bqh
def Bop.of:aCr->o9 Bop
 |.Add=>sr .add
 |.Sub=>sr .sub
 |.Mult=>sr .mul
 |.FloorDiv=>sr .fdiv
 |.Mod=>sr .mod
 |.Pow=>sr .pow
 |.LShift=>sr .shl
 |.RShift=>sr .shr
 |.BitAnd=>sr .and
 |_=>sy
section
def Ax(o:Bop)(f g:De->M W):De->M W:=λY=>do let x<-f Y;let y<-g Y;o.fn x y
def Bn1(hK:X.K=F.K)(h:Bop.of J=sr o)(p:WE X a (tF F E f))(m:WE X b (tF F E g)):WE X (.BinOp a J b P) tF[F][E][Ax o f g]:=by
 cases J <;> simp only[Bop.of,gM,reduceCtorEq] at h <;> subst h
 .refine WE.weak[kop ((Bii.or Apa).or ((Bb5.or Bc3).or Bit)) p m][Rh λr S H x y A w Q E R l e h=>?_];rw[hK];exact Bmx R l e h
 .exact WE.weak[kop Bij p m][Rh λr S H x y A w Q E R l e h=>Bmy R l e h]
 .exact WE.weak (kop ((Bik.or (by
   intro Z s U H x y v u Q I O N h;let(z,n,rfl,rfl,G,T,Y,q):=h;let(t,rfl):=O;let(L,rfl):=N;exact SB.mul[mulOk_of 16 1048576 G () () () ()] λL k=>(.str _,H,I.tok _,(_,rfl),q))).or Biu) p m) (Rh λr S H x y A w Q E R l e h=>Bqj R l e h)
 .exact WE.weak (kop (opI λi j c c c c c d q=>by
 let G:(0:Int) < j:=d;exact mod_int' () (by rw[Int.fmod_eq_emod_of_nonneg i ()];exact q)) p m) (Rh λr S H x y A w Q E R l e h=>by
   let(i,j,rfl,rfl,h):=W5 l e h;let(d,h):=Hi h;exact(_,_,rfl,rfl,d,h.now R .int[_]))
 .exact WE.weak (kop (opI (C:=λi j=>i=10/\j=20) (g:=λi j=>i ^ j.toNat) λi j c c c c c d q=>by
   let(rfl,rfl):=d;exact aBz () () () () () q) p m) (Rh λr S H x y A w Q E R l e h=>by
   let(i,j,rfl,rfl,h):=W5 l e h;let(d,h):=Hi h;exact(_,_,rfl,rfl,(dg (bU.mp d).1,dg (bU.mp d).2),h.now R .int[_]))
 .exact WE.weak[kop (opI λc c c c c c c d q=>lshift_int_small d.1 d.2.1 d.2.2 q) p m][Rh λr S H x y A w Q E R l e h=>Bqk R l e h]
 .exact WE.weak (kop (opI λi j c c c c c d q=>
 rshift_int d (by rw[rF i (by
   rw[two_pow_cast];exact wA _)];exact q)) p m) (Rh λr S H x y A w Q E R l e h=>by
     let(i,j,rfl,rfl,h):=W5 l e h;let(d,h):=Hi h;exact(_,_,rfl,rfl,d,h.now R .int[_]))
 .exact WE.weak kop[Bih λc c c c c c c q=>and_int q][p][m] (Rh λr S H x y A w Q E R l e h=>by
   let(i,j,rfl,rfl,h):=W5 l e h;exact(_,_,rfl,rfl,h.now R .int[_]))
 .exact WE.weak (kop (opI λi j c c c c c d q=>by
 let G:(0:Int) < j:=d.1;let T:j < 1073741824:=d.2;exact floordiv_int () (by rw[rF i ()];exact q) .inl[PyProof.noPylong_small ()]) p m) (Rh λr S H x y A w Q E R l e h=>Bn0 R l e h)
end
section
def kF(w:W):De->M W:=λuw=>pure w
def Aa(i:Nat):De->M W:=λY=>match Y[i]? with
 |some (sr w)=>pure w
 |_=>bad
def Ga:W->o9 V
 |.non=>sr .non
 |.bl b=>sr .bl[b]
 |.int i=>sr .int[i]
 |.str x=>sr .str[x]
 |_=>sy
def Arq(h:D.Ga w=sr v):RV b a H w v:=by
 cases w <;> simp[D.Ga] at h <;> subst h
 .exact .non
 .exact .bl _
 .exact .int _
 .exact .str _
def Ako(a:D.Ga w=sr v)(h:WE X e tC[v]):WE X e (tF d E kF[w]):=(WE.weak h λb H Q q=>by
 let(c,S,Y,R,f,q):=q;exact q.now R Arq[a])
def Bn2{i:Nat}(c:WE X e Bh9[i]):WE X e (tF k E Aa[i]):=(WE.weak c λh H Q q=>by
 let(j,S,Y,R,b,q):=q;simp[Aa] at q;cases a:Y[i]? with
 |none=>rw[a] at q;trivial
 |some o=>
  rw[a] at q;cases o with
  |none=>trivial
  |some w=>
   let(v,f,d):=b i w a;exact(v,f,q.now R d))
def asB{α:Type}(w:W)(k:Bool->M α):M α:=match w with
 |.bl b=>k b
 |_=>bad
def Il(f g:De->M W):De->M W:=λY=>do let x<-f Y;asB x λb=>if b then g Y else pure .bl[t7]
def orF(f g:De->M W):De->M W:=λY=>do let x<-f Y;asB x λb=>if b then pure .bl[t8] else g Y
def Bje(f:De->M W):De->M W:=λY=>do let x<-f Y;asB x λb=>pure .bl[!b]
def Do(f:De->M W):De->M Bool:=λY=>do let x<-f Y;asB x λb=>pure b
def Afa(c:De->M Bool)(f g:De->M W):De->M W:=λY=>do let b<-c Y;if b then f Y else g Y
def Afb{f e:Type}{a:lg aH->Hp->f->e->Prop}{d:lg aH}{H:Hp}{S:Store}{w:W}{v:V}{k:Bool->M f}{Q:e->Hp->Prop}{E:XK}(i:RV g d H w v)(q:Av g a d H (asB w k S) Q E):∃b,v=.bl b/\Av g a d H (k b S) Q E:=by
 cases i <;> first|exact(q).elim|exact(_,rfl,q)
def Apu(k:∀a H Q,tF g E f a H Q->t a H Q)(h:WT X e tB[t]):WT X e (tFb g E Do[f]):=(WT.weak h λa H Q ⟨ρ,S,Y,R,sl,q⟩=>by
 refine k a H _ (ρ,S,Y,R,sl,(Av.seq q).mono ?_);rintro v s ⟨c,r,w,p,o,n,j,m⟩;let(b,rfl,l):=Afb j m;exact(b,rfl,l.now n rfl))
def Bql(p:WT X c (tFb e E t))(s:WE X a (tF e E f))(r:WE X b (tF e E g)):WE X (.IfExp c a b o) tF[e][E][Afa t f g]:=(WE.weak[kif p s r] λx H Q ⟨ρ,S,Y,R,sl,q⟩=>by
 refine(ρ,S,Y,R,sl,(Av.seq q).mono ?_);rintro v y ⟨d,l,w,k,i,m,rfl,j⟩;cases w with
 |true=>exact L2.Ami (d,l,Y,m,sl.mono k i,j)
 |false=>exact L2.Api (d,l,Y,m,sl.mono k i,j))
def Cop.fn:Cop->W->W->M W
 |.lt=>Aus (λi j=>decide[i < j]) Kg
 |.le=>Aus (λi j=>decide[i<=j]) (λi j=>!Kg j i)
 |.gt=>Aus (λi j=>decide[j < i]) (λi j=>Kg j i)
 |.ge=>Aus[λi j=>decide[j<=i]][λi j=>!Kg i j]
def nilF:De->M lg[W]:=λuw=>pure []
def Cu(f:De->M W)(g:De->M lg[W]):De->M lg[W]:=λY=>do let x<-f Y;let xs<-g Y;pure (x::xs)
def Gu(g:De->M lg[W]):De->M W:=λY=>do let xs<-g Y;Axs xs
def Dr(g:De->M lg[W]):De->M W:=λY=>do let xs<-g Y;Dg xs
def Bjf(t:WE X a (tF b E f))(s:WA X e (tFs b E u))(hs:starEach (a::e) X.env=(u6 t7 (eval a X.env))::starEach e X.env):WA X (a::e) tFs[b][E][Cu f u]:=(WA.weak[⟨Xh t.un s.un hs⟩] λz H Q ⟨ρ,S,Y,R,sl,q⟩=>by
 refine(ρ,S,Y,R,sl,(Av.seq (Rel:=RV b) q).mono ?_);rintro v G ⟨c,x,w,r,l,y,m,o⟩;refine(c,x,Y,y,sl.mono r l,(Av.seq (Rel:=RVs b) o).mono ?_);rintro B F ⟨i,C,A,p,k,R2,d,n⟩;exact n.now R2 .cons[m.mono p k][d])
def Bn3{j:Nat}(h:WA X k (tFs e E i)):WE[X][.Tuple k j g][tF e E Gu[i]]:=(WE.weak Bp9[h] λn H Q ⟨ρ,S,Y,R,sl,q⟩=>by
 refine(ρ,S,Y,R,sl,(Av.seq q).mono ?_);rintro r w ⟨b,v,o,t,s,l,a,c⟩;let(u,c):=Hi[by trivial]
 exact(K1 (by rw[<-a.length];omega),λp hp=>c b _ _ aP[_] Bj[hp] l.beside[hp] .tup[Aq][a.mono aP[_] Bj[hp]]))
def Bn4(h:WA X m (tFs g E l)):WE[X][.List m k][tF g E Dr[l]]:=(WE.weak Bp8[h] λn H Q ⟨ρ,S,Y,R,sl,q⟩=>by
 refine(ρ,S,Y,R,sl,(Av.seq q).mono ?_);rintro o u ⟨e,t,i,s,r,d,a,b⟩;simp[Dg] at b;by_cases c:i.length<=big
 .rw[di c] at b;refine(K1 (by rw[<-a.length];omega),λp hp=>b _ _ _ (bL ..) Bj[hp] (d.alloc hp (_,Aq,a.mono[bL ..][Bj hp])) .ref[?_])
  exact d.len ▸ La
 .rw[dm c] at b;trivial)
def Ds(s:lg W->M W)(g:De->M lg[W]):De->M W:=λY=>do let ws<-g Y;s ws
def Bjg{n:Nat}(D:Ng X.K X.mg x U ps z fd)(F:Hw X.prog X.w X.K X.mg X.base CX n z fd ps (spF d s) B)(r:Fx n X.A B)(o:Ed CX X E)(v:WA X (a::b) (tFs d E y))(t:Gl X x)(g:(x==("__debug__":t6))=t7)(u:starEach (a::b) X.env=(u6 t7 (eval a X.env))::starEach b X.env)(f:(backTo e (starEach b X.env)).any (·.1)=t7):
  WE X (.Call (.Name x p) (a::b) [] e) tF[d][E][Ds s y]:=(WE.weak[⟨Amj F r t D.gl D.fn.kp D.bd .nil o v.un g u f⟩] λN H Q ⟨ρ,S,Y,R,sl,q⟩=>by
 refine(ρ,S,Y,R,sl,(Av.seq (Rel:=RVs d) q).mono ?_);rintro O Z ⟨c,G,j,T,P,I,l,m⟩;exact(c,G,j,I,by simp_all,m))
end
def Aut(K:aB)(H:Hp)(x y:V):Prop:=L2.Ga y=t8\/x=.non/\∃a ys,y=.ref a/\SqT K H a ys
def Bjh(K:aB)(neg:Bool):R2:=λx y H Q=>∃p xs,y=.ref p/\(SqL K H p xs\/SqT K H p xs)/\L2.Ga x=t8/\(∀y∈xs,Aut K H x y)/\Q (.bl (if neg then !inV x xs else inV x xs)) H
section
def Ad2(I:L2.Inv X E q H s)(hu:A.units < cLine)(i:RelV x v)(o:L2.Ga x=t8){c:lg V}{d:lg aF}(h:Vals c d):(∀y∈c,Aut X.K H x y)->(∀u∈d,aAb A s u v (eqU x u))/\d.any eqU[x]=inV x c:=by
 induction h with
 |nil=>exact λz=>(λu hu=>(nomatch hu),rfl)
 |@cons y u c d r t n=>
  intro f;let(e,p):=jV.mp f;let(l,g):=n p;let k:aAb A s u v (eqU x u)/\eqU x u=L2.eqV y x:=by
   rcases e with e|⟨rfl,a,w,rfl,h⟩
   .rw[Bir r e];exact(Biq r i e o,rfl)
   .cases r;cases i;let(m,B,pl,C):=I.tuple h;exact(aCh pl hu,rfl)
  refine(jV.mpr (k.1,l),?_);unfold inV at g ⊢
  rw[pM,pM,k.2,g]
def Bji(hu:X.A.in1.units < cLine):OpR X compareOp[.In] (Bjh X.K t7):=by
 rintro i s g H x y v u Q I b d ⟨p,h,rfl,hq,c,fs,q⟩;cases d;rcases hq with hq|hq
 .let(a,r,pl,e):=I.list hq;let z:=Ad2 I hu b c r fs;refine SeqAt.in_listAt _ pl.isList (λw f=>z.1 w (by simp_all)) (.bl _,H,I,rfl,?_)
  rwa [show a.toArray.any _=a.any eqU[x] by simp,z.2]
 .let(a,r,pl,e):=I.tuple hq;let z:=Ad2 I hu b c r fs;refine SeqAt.in_tupleAt _ pl (λw f=>z.1 w (by simp_all)) (.bl _,H,I,rfl,?_)
  rwa [show a.toArray.any _=a.any eqU[x] by simp,z.2]
def Auu(hu:X.A.in1.units < cLine):OpR X compareOp[.NotIn] (Bjh X.K t8):=by
 rintro i s g H x y v u Q I b d ⟨p,h,rfl,hq,c,fs,q⟩;cases d;rcases hq with hq|hq
 .let(a,r,pl,e):=I.list hq;let z:=Ad2 I hu b c r fs;refine SeqAt.notIn_listAt _ pl.isList (λw f=>z.1 w (by simp_all)) (.bl _,H,I,rfl,?_)
  rwa [show a.toArray.any _=a.any eqU[x] by simp,z.2]
 .let(a,r,pl,e):=I.tuple hq;let z:=Ad2 I hu b c r fs;refine SeqAt.notIn_tupleAt _ pl (λw f=>z.1 w (by simp_all)) (.bl _,H,I,rfl,?_)
  rwa [show a.toArray.any _=a.any eqU[x] by simp,z.2]
end
def Dq{α β:Type}(f:α->o9 β):lg α->o9 lg[β]
 |[]=>sr []
 |a::as=>(f a).bind λb=>(Dq f as).map (b::·)
def Fg(S:Store):Nat->W->o9 lD
 |0,.non=>sr .none
 |0,.bl b=>sr .bool[b]
 |0,.int i=>sr .int[i]
 |0,.str x=>sr .str[x]
 |0,_=>sy
 |_+1,.non=>sr .none
 |_+1,.bl b=>sr .bool[b]
 |_+1,.int i=>sr .int[i]
 |_+1,.str x=>sr .str[x]
 |n+1,.tup ws=>(Dq (Fg S n) ws).map PyData.tuple
 |n+1,.ref k=>match S[k]? with
  |some (.lst ws)=>(Dq (Fg S n) ws).map PyData.list
  |some (.dct [])=>sr .dict[[]]
  |_=>sy
 |_+1,.scr _=>sy
 |_+1,.ty _=>sy
 |_+1,.cls _=>sy
 |_+1,.exn _ _=>sy
section
def Qa{c d:Type}{f:c->o9 d}{x:c}{h:lg c}{g:lg d}(e:Dq f (x::h)=sr g):∃y b,f x=sr y/\Dq f h=sr b/\g=y::b:=by
 let(y,l,k):=lE.mp e;let(b,j,i):=bI.mp k;exact(y,b,l,j,i.symm)
def Ars(hf:∀w v d,RV j i H w v->f w=sr d->DV H v d){c:lg W}{g:lg V}{b:lg lD}(h:RVs j i H c g):Dq f c=sr b->DVs H g b:=(
 RVs.ind (p:=λc g=>∀b,Dq f c=sr b->DVs H g b) (λm e=>by cases e;exact .nil) (λh _ t b e=>by
  let(d,n,l,k,rfl):=Qa e;exact .cons[hf _ _ _ h l][t _ k]) h b)
theorem Xn(R:Rep u t S H):∀(n:Nat)(w:W)(v:V)(d:lD),RV u t H w v->Fg S n w=sr d->DV H v d
 |0,w,v,d,h,e=>by
  cases h <;> simp only[Fg,gM,reduceCtorEq] at e <;> subst e
  .exact .non
  .exact .bl _
  .exact .int _
  .exact .str _
 |n+1,w,v,d,h,e=>by
  cases h with
  |non=>cases e;exact .non
  |bl b=>cases e;exact .bl _
  |int i=>cases e;exact .int _
  |str x=>cases e;exact .str _
  |scr _=>cases e
  |ty _=>cases e
  |cls _=>cases e
  |exn _ _ _=>cases e
  |exf _ _ _ _ _ _=>cases e
  |@tup a o s m g=>
   rw[Fg] at e;cases f:Dq (Fg S n) o with
   |none=>rw[f] at e;cases e
   |some z=>
    rw[f] at e;cases e;exact .tup m Ars[Xn R n][g][f]
  |@ref k a y=>
   rw[Fg] at e;cases r:S[k]? with
   |none=>rw[r] at e;cases e
   |some c=>
    rw[r] at e;let(B,l,q):=R.get r;rw[y] at l;cases l;cases c with
    |lst o=>
     let(s,m,g):=q;cases f:Dq (Fg S n) o with
     |none=>simp_all
     |some z=>
      simp only[f] at e;cases e;exact .lst m Ars[Xn R n][g][f]
    |dct j=>
     cases j with
     |nil=>
      cases e;let(s,m,g):=q;cases g;exact .dct m
     |cons p j=>cases e
    |ins c fs=>cases e
    |dead=>cases e
    |clo k o=>cases e
    |tab q=>cases e
end
def eqD(neg:Bool)(x y:W):M W:=λS=>match Fg S 16 x,Fg S 16 y with
 |some d,sr e=>if lQ d&&lQ e then .ok (.bl (if neg then !wB d e else wB d e)) S else .bad
 |_,_=>.bad
def eqW(neg:Bool)(x y:W):M W:=match x,y with
 |.str a,.str b=>pure (.bl (if neg then !(a==b) else a==b))
 |x,y=>eqD neg x y
def Amu:W->Bool
 |.non=>t8
 |_=>t7
def Bjj:Cell->Bool
 |.dct _=>t7
 |.dead=>t7
 |.clo _ _=>t7
 |.tab _=>t7
 |_=>t8
def isW(neg:Bool):W->W->M W
 |x,.non=>pure (.bl (if neg then !Amu x else Amu x))
 |.ref n,.ref m=>λS=>match S[n]?,S[m]? with
  |some c,sr d=>if Bjj c&&Bjj d then .ok (.bl (if neg then !decide (n=m) else decide[n=m])) S else .bad
  |_,_=>.bad
 |.bl a,.bl b=>pure (.bl (if neg then a != b else a==b))
 |_,_=>bad
def Aig:W->Bool
 |.non=>t8
 |.bl _=>t8
 |.int _=>t8
 |.str _=>t8
 |_=>t7
def eqF:W->W->Bool
 |.non,.non=>t8
 |.bl a,.bl b=>a==b
 |.bl a,.int b=>(if a then 1 else 0)==b
 |.int a,.bl b=>a==(if b then 1 else 0)
 |.int a,.int b=>a==b
 |.str a,.str b=>a==b
 |_,_=>t7
def kW:Key->W
 |.inl i=>.int i
 |.inr x=>.str x
def Abi:W->o9 Key
 |.int i=>sr .inl[i]
 |.str x=>sr .inr[x]
 |_=>sy
def Akp(kvs:lg[Key×W])(k:Key):o9 W:=(kvs.find? λp=>decide[p.1=k]).map (·.2)
def Bn5:W->Bool
 |.tup _=>t8
 |_=>t7
def Auv(x u:W):Bool:=Aig u||Amu x&&Bn5 u
def Bjk(neg:Bool)(x:W)(ws:lg W):M W:=if Aig x&&ws.all Auv[x] then pure (.bl (if neg then !ws.any (eqF · x) else ws.any (eqF · x))) else bad
def inW(neg:Bool)(x y:W):M W:=match y with
 |.str j=>match x with
  |.str i=>pure (.bl (if neg then !(!(dM j i 0 j.length 1).isEmpty) else !(dM j i 0 j.length 1).isEmpty))
  |_=>bad
 |.tup ws=>Bjk neg x ws
 |.ref n=>λS=>match S[n]? with
  |some (.lst ws)=>Bjk neg x ws S
  |some (.dct kvs)=>match Abi x with
   |some k=>.ok (.bl (if neg then !(Akp kvs k).isSome else (Akp kvs k).isSome)) S
   |none=>.bad
  |_=>.bad
 |_=>bad
section
def Bn6:RV b a H kW[k] kV[k]:=by
 cases k
 .exact .int _
 .exact .str _
def Axu(r:RKV c b H a d):RVs c b H (a.map λp=>kW p.1) (d.map λp=>kV p.1):=by
 unfold RKV at r;induction r with
 |nil=>exact .nil
 |cons h t e=>rw[cJ,cJ,h.1];exact .cons Bn6 e
def Ad3(b:RV d c H x a)(h:Abi x=sr k):a=kV k:=by
 cases b <;> simp only[Abi,gM,reduceCtorEq] at h <;> subst h <;> rfl
def Art(r:RKV d c H a b)(k:Key):(∃w v,Akp a k=sr w/\Wz b k=sr v/\RV d c H w v)\/(Akp a k=sy/\Wz b k=sy):=by
 induction r with
 |nil=>exact .inr (rfl,rfl)
 |@cons p q _ _ h r f=>
  unfold Akp Wz at f ⊢
  rw[zK,zK];by_cases e:p.1=k
  .let e':=h.1.symm.trans e;rw[dj e,dj e'];exact .inl (_,_,rfl,rfl,h.2)
  .let e':=λz=>e h.1.trans[z];rw[dq e,dq e'];omega
def Jx{c b:Type}{Rel:lg aH->Hp->c->b->Prop}{w:c}{v:b}{Q:b->Hp->Prop}(h:Av e Rel a H (.ok w S) Q E)(r:Rep e a S H)(q:Rel a H w v):Q v H:=(
 h a H v aP[a] (Cd.refl a H) r q)
nonrec def Bn7(R:Rep b c S H)(l:RV b c H x g)(k:RV b c H y f)(h:Av b RV[b] c H (eqW a x y S) Q E):
  (∃i j,g=.str i/\f=.str j/\Q (.bl (if a then !(i==j) else i==j)) H)\/∃d e,DV H g d/\DV H f e/\lQ d=t8/\lQ e=t8/\Q (.bl (if a then !wB d e else wB d e)) H:=by
 unfold eqW at h;split at h
 .cases l;cases k;exact .inl (_,_,rfl,rfl,Jx h R .bl[_])
 .exact .inr (by
   simp only[eqD] at h;split at h
   .rename_i d e q p;split at h
    .rename_i o;let(n,m):=bU.mp o;exact(d,e,Xn R 16 _ _ _ l q,Xn R 16 _ _ _ k p,n,m,Jx h R .bl[_])
    .ac_rfl
   .ac_rfl)
def Axv(b:RV d c H x a):Amu x=decide[a=.non]:=by
 cases b <;> simp[Amu]
def Aru(h:Ig f e H a c)(g:Bjj c=t8):∃o,H a=sr o/\isObj o=t8:=by
 cases c with
 |lst b=>let(d,h,_):=h;exact(_,h,rfl)
 |dct b=>trivial
 |dead=>trivial
 |clo k b=>trivial
 |tab q=>trivial
 |ins c b=>let(i,d,h,_):=h;exact(_,h,rfl)
def Rep.inj(R:Rep k d S H){n m:Nat}(i:d[n]?=sr a)(h:d[m]?=sr b):decide[n=m]=decide[a=b]:=by
 let(o,g):=aK.mp i;let(l,f):=aK.mp h;refine decide_eq_decide.mpr (λe=>?_,λe=>(kZ R.nd).mp g.trans[e.trans[f.symm]])
 .subst e;exact g.symm.trans f
nonrec def Bn8(R:Rep f j S H)(l:RV f j H x g)(B:RV f j H y k)(h:Av f RV[f] j H (isW e x y S) Q E):
  (k=.non/\Q (.bl (if e then !decide (g=.non) else decide[g=.non])) H)\/(∃a b i ob,g=.ref a/\k=.ref b/\H a=sr i/\isObj i=t8/\H b=sr ob/\isObj ob=t8/\Q (.bl (if e then !decide (a=b) else decide[a=b])) H)\/(∃a b,g=.bl a/\k=.bl b/\Q (.bl (if e then a != b else a==b)) H):=by
 cases B with
 |non=>
  rw[<-Axv l];refine .inl (rfl,?_);exact h.now R .bl[_]
 |@ref m b p=>
  cases l <;> try ac_rfl
  rename_i n a o;simp only[isW] at h;split at h
  .rename_i c d F C;split at h
   .rename_i A;let(r,q):=bU.mp A;let t:=R.at_ _ _ _ o F;let s:=R.at_ _ _ _ p C;let(i,z,w):=Aru t r;let(ob,v,u):=Aru s q;rw[R.inj o p] at h;exact .inr[.inl (a,b,i,ob,rfl,rfl,z,w,v,u,Jx h R .bl[_])]
   .ac_rfl
  .ac_rfl
 |bl b=>
  cases l <;> try ac_rfl
  exact .inr (.inr (_,_,rfl,rfl,h.now R .bl[_]))
 |_=>trivial
def Axw(b:RV d c H x a)(h:Aig x=t8):L2.Ga a=t8:=by
 cases b <;> first|rfl|trivial
def Bjl(hu:RV b a H u d)(e:RV b a H x c)(f:Auv x u=t8)(g:Aig x=t8):eqF u x=L2.eqV d c:=by
 cases x <;> first|(cases g;done)|(cases e;cases hu <;> rfl)
def Bc6(hu:RV a b H u d)(e:RV a b H x c)(f:Auv x u=t8):Aut a.K H c d:=by
 cases hu with
 |tup g h=>
  cases e <;> first|exact .inr (rfl,_,_,rfl,SqT.of g)|trivial
 |_=>first|exact .inl rfl|(simp[Auv,Aig,Bn5] at f)
def Axx(i:RV f j H x d)(g:Aig x=t8){a:lg W}{b:lg V}(h:RVs f j H a b):a.all Auv[x]=t8->(∀y∈b,Aut f.K H d y)/\a.any (eqF · x)=inV d b:=(
 RVs.ind (p:=λa b=>a.all Auv[x]=t8->(∀y∈b,Aut f.K H d y)/\a.any (eqF · x)=inV d b) (λk=>(λk h=>(nomatch h),rfl)) (λh _ t e=>by
  rw[eN,aL] at e;let z:=t e.2;refine(jV.mpr (Bc6 h i e.1,z.1),?_);let z:=z.2;unfold inV at z ⊢
  rw[pM,pM,Bjl h i e.1 g,z]) h)
def Arv(R:Rep a c S H)(g:RV a c H x b)(r:RVs a c H j d)(h:Av a RV[a] c H (Bjk e x j S) Q E):
  L2.Ga b=t8/\(∀y∈d,Aut a.K H b y)/\Q (.bl (if e then !inV b d else inV b d)) H:=by
 let(k,h):=Hi h;let(f,i):=bU.mp k;let z:=Axx g f r i;rw[z.2] at h;exact(Axw g f,z.1,h.now R .bl[_])
nonrec def Bn9(R:Rep d l S H)(g:RV d l H x p)(F:RV d l H y n)(h:Av d RV[d] l H (inW c x y S) Q E):
  (∃i j,p=.str i/\n=.str j/\Q (.bl (if c then !(!(dM j i 0 j.length 1).isEmpty) else !(dM j i 0 j.length 1).isEmpty)) H)\/Bjh d.K c p n H Q\/∃a o,n=.ref a/\Ae0 H a p o/\Q (.bl (if c then !o.isSome else o.isSome)) H:=by
 cases F with
 |str j=>
  cases g <;> try ac_rfl
  exact .inl (_,_,rfl,rfl,h.now R .bl[_])
 |tup f e=>
  let(s,r,q):=Arv R g e h;exact .inr (.inl (_,_,rfl,.inr SqT.of[f],s,r,q))
 |@ref m b z=>
  simp only[inW] at h;split at h
  .rename_i I t;let(u,f,e):=R.at_ _ _ _ z t;let(s,r,q):=Arv R g e h;exact .inr[.inl (_,_,rfl,.inl .inl[.inl[f]],s,r,q)]
  .rename_i C t;let(u,f,e):=R.at_ _ _ _ z t;split at h
   .rename_i k G;rw[Ad3 g G];refine .inr[.inr (b,Wz u k,rfl,Ae0.k f,?_)];rcases Art e k with ⟨w,v,B,A,_⟩|⟨B,A⟩ <;> rw[B] at h <;> rw[A] <;> exact Jx h R .bl[_]
   .ac_rfl
  .ac_rfl
 |_=>ac_rfl
end
section
def Apv(hu:X.A.units+1 < cLine):OpR X compareOp[.In] (λx y H Q=>∃a o,y=.ref a/\Ae0 H a x o/\Q .bl[o.isSome] H):=by
 rintro h s e H x y v u Q I c b ⟨a,o,rfl,g,q⟩;obtain rfl:_:=b;exact L2.Bp4 hu I g c λf d=>(.bl o.isSome,H,d,rfl,q)
def Ahk(hu:X.A.units+1 < cLine):OpR X compareOp[.NotIn] (λx y H Q=>∃a o,y=.ref a/\Ae0 H a x o/\Q .bl[!o.isSome] H):=by
 rintro h s e H x y v u Q I c b ⟨a,o,rfl,g,q⟩;obtain rfl:_:=b;exact L2.Bca hu I g c λf d=>(.bl _,H,d,rfl,q)
def Bjm:OpR X compareOp[.Eq] (λx y H Q=>∃i j,x=.str i/\y=.str j/\Q .bl[i==j] H):=by
 rintro e s c H x y v u Q I b a ⟨i,j,rfl,rfl,q⟩;let(t,rfl):=b;let(d,rfl):=a;exact eq_str[Jb I q rfl]
def Bjn:OpR X compareOp[.NotEq] (λx y H Q=>∃i j,x=.str i/\y=.str j/\Q .bl[!(i==j)] H):=by
 rintro e s c H x y v u Q I b a ⟨i,j,rfl,rfl,q⟩;let(t,rfl):=b;let(d,rfl):=a;exact ne_str[Jb I q rfl]
end
def Fo:vQ->W->W->M W
 |.Lt=>Cop.fn .lt
 |.LtE=>Cop.fn .le
 |.Gt=>Cop.fn .gt
 |.GtE=>Cop.fn .ge
 |.Eq=>eqW t7
 |.NotEq=>eqW t8
 |.In=>inW t7
 |.NotIn=>inW t8
 |.Is=>isW t7
 |.IsNot=>isW t8
def Ec(op:vQ)(f g:De->M W):De->M W:=λY=>do let x<-f Y;let y<-g Y;Fo op x y
structure Bjo(Θ:Th)(X:Cx)(op:vQ):Type where
 r:R2
 ok:OpR X (compareOp op) r
 by_:∀ρ S H x y vx vy Q E,Rep Θ ρ S H->RV Θ ρ H x vx->RV Θ ρ H y vy->Av Θ (RV Θ) ρ H (Fo op x y S) Q E->r vx vy H Q
theorem Auw(U:Th)(X:Cx)(hK:X.K=U.K)(hu:X.A.units+64 < cLine):∀Y:vQ,Nonempty (Bjo U X Y)
 |.Lt=>⟨(_,Bms.or (by
   intro p s l H x y v u Q I f c h;let(i,j,rfl,rfl,q):=h;let(t,rfl):=f;let(r,rfl):=c;exact lt_str[Jb I q rfl]),λm S H x y o n Q E R k g h=>Bc5 R k g h)⟩
 |.LtE=>⟨(_,Bmt.or (by
   intro p s l H x y v u Q I f c h;let(i,j,rfl,rfl,q):=h;let(t,rfl):=f;let(r,rfl):=c;exact PySem.P.le_str[Jb I q rfl]),λm S H x y o n Q E R k g h=>Bc5 R k g h)⟩
 |.Gt=>⟨(_,Bmu.or (by
   intro p s l H x y v u Q I f c h;let(i,j,rfl,rfl,q):=h;let(t,rfl):=f;let(r,rfl):=c;exact PySem.P.gt_str[Jb I q rfl]),λm S H x y o n Q E R k g h=>Bc5 R k g h)⟩
 |.GtE=>⟨(_,Bmv.or (by
   intro p s l H x y v u Q I f c h;let(i,j,rfl,rfl,q):=h;let(t,rfl):=f;let(r,rfl):=c;exact PySem.P.ge_str[Jb I q rfl]),λm S H x y o n Q E R k g h=>Bc5 R k g h)⟩
 |.Eq=>⟨(_,Bjm.or (by
   intro p s l H x y v u Q I f c h;let(d,e,hd,J,sd,w,q):=h;let(as,C):=hd.reads I f;let(bs,B):=J.reads I c;exact eq_dataH C B sd w hu (.bl _,H,I,rfl,q)),λm S H x y o n Q E R k g h=>Bn7 R k g h)⟩
 |.NotEq=>⟨(_,Bjn.or (by
   intro p s l H x y v u Q I f c h;let(d,e,hd,J,sd,w,q):=h;let(as,C):=hd.reads I f;let(bs,B):=J.reads I c;exact ne_dataH C B sd w hu (.bl _,H,I,rfl,q)),λm S H x y o n Q E R k g h=>Bn7 R k g h)⟩
 |.In=>⟨(_,Atz.or[(Bji (show X.A.units+1 < cLine by omega)).or (Apv ())],λm S H x y o n Q E R k g h=>by rw[hK];exact Bn9 R k g h)⟩
 |.NotIn=>⟨(_,Aj4.or[(Auu (show X.A.units+1 < cLine by omega)).or (Ahk ())],λm S H x y o n Q E R k g h=>by rw[hK];exact Bn9 R k g h)⟩
 |.Is=>⟨(_,Bil.or (OpR.or (by
   intro p s l H x y v u Q I f c h;let(a,b,Z,ob,rfl,rfl,N,pa,L,F,q):=h;cases f;cases c;let(o1,T,G):=Vp I N pa;let(o2,O,_):=Vp I L F;by_cases z:a=b
   .subst z;exact wpAny_is_ref_self[Jb I q ()]
   .exact wpAny_is_ref_other z T O G Jb[I][q][by simp[z]]) (by
   intro p s l H x y v u Q I f c h;let(a,b,rfl,rfl,q):=h;cases f;cases c;exact aCs[Jb I q ()])),λm S H x y o n Q E R k g h=>Bn8 R k g h)⟩
 |.IsNot=>⟨(_,Bb2.or (OpR.or (by
   intro p s l H x y v u Q I f c h;let(a,b,Z,ob,rfl,rfl,N,pa,L,F,q):=h;cases f;cases c;let(o1,T,G):=Vp I N pa;let(o2,O,_):=Vp I L F;by_cases z:a=b
   .subst z;exact wpAny_isNot_ref_self[Jb I q ()]
   .exact wpAny_isNot_ref_other z T O G Jb[I][q][by simp[z]]) (by
   intro p s l H x y v u Q I f c h;let(a,b,rfl,rfl,q):=h;cases f;cases c;exact aBp[Jb I q ()])),λm S H x y o n Q E R k g h=>Bn8 R k g h)⟩
end D
namespace L2
open PySem PySem.Spec PyProof.Rows
def Lh(a:aH)(C:aH->o9 tu)(H:Hp):Hp:=λb=>match C b with
 |some o=>sr (.frz o .own[a])
 |none=>H b
def Ph(C:aH->o9 tu)(H:Hp):Hp:=λb=>match C b with
 |some _=>sy
 |none=>H b
section
variable{C:aH->o9 tu}{a:aH}
def Vq(h:C b=sr o):Lh a C H b=sr[.frz o .own[a]]:=by unfold Lh;rw[h]
def Fp(h:C b=sy):Lh a C H b=H b:=by unfold Lh;rw[h]
def Ja(h:C b=sr o):Ph C H b=sy:=by unfold Ph;rw[h]
def Ff(h:C b=sy):Ph C H b=H b:=by unfold Ph;rw[h]
def Ei(c:∀b o,C b=sr o->H b=sy)(h:H b=sr u):Lh a C H b=sr u:=by
 cases e:C b with
 |none=>rw[Fp e];omega
 |some o=>simp_all
def Gj(c:∀b o,C b=sr o->H b=sr[.frz o .own[a]])(h:H b=sr u)(hu:∀o,u≠.frz o .own[a]):Ph C H b=sr u:=by
 cases e:C b with
 |none=>rw[Ff e];omega
 |some o=>rw[c b o e] at h;grind
def Amv(h:Ph C H b=sr u):H b=sr u/\C b=sy:=by
 cases e:C b with
 |none=>rw[Ff e] at h;trivial
 |some o=>rw[Ja e] at h;cases h
theorem Un.drop{fs ex:lg aH}(u:Un fs ex (Lh a C H) H' h h')(k:∀b o,C b=sr o->H b=sy/\h.get? b=sr o/\H' b=sr[.frz o .own[a]]/\h'.get? b=sr o):Un fs ex H (Ph C H') h h' where
 keep:=λb o q n hf c=>by
  cases e:C b with
  |none=>exact u.keep b o q (by rw[Fp e];exact n) hf c
  |some d=>
   let(_,z,_,y):=k b d e;rw[q] at z;cases z;exact y
 slot:=λb o q n hf c=>by
  cases e:C b with
  |none=>exact u.slot b o q (by rw[Fp e];exact n) hf c
  |some d=>
   let(_,z,_,y):=k b d e;rw[q] at z;cases z;exact(o.slots,y)
 free:=λb o q n c=>by
  cases e:C b with
  |none=>rw[Ff e];exact u.free b o q (by rw[Fp e];exact n) c
  |some d=>exact Ja e
 there:=u.there
 tups:=λb f q=>Gj (λb o e=>(k b o e).2.2.1) (u.tups b f Ei[λb o e=>(k b o e).1][q]) (λg z=>by cases z)
 frzs:=λb o f q=>Gj (λb o e=>(k b o e).2.2.1) (u.frzs b o f Ei[λb o e=>(k b o e).1][q]) (λg z=>by cases z)
 tbls:=λb ps q=>by
  let(m,z):=u.tbls b ps Ei[λb o e=>(k b o e).1][q]
  exact(m,Gj[λb o e=>(k b o e).2.2.1][z][λg z=>by cases z])
theorem Un.addd{fs ex:lg aH}(u:Un fs ex (Ph C H) H' h h')(k:∀b o,C b=sr o->H b=sr[.frz o .own[a]]/\H' b=sy):Un fs ex H (Lh a C H') h h' where
 keep:=λb o q n hf d=>by
  cases e:C b with
  |none=>exact u.keep b o q (by rw[Ff e];exact n) hf d
  |some c=>rw[(k b c e).1] at n;cases n
 slot:=λb o q n hf d=>by
  cases e:C b with
  |none=>exact u.slot b o q (by rw[Ff e];exact n) hf d
  |some c=>rw[(k b c e).1] at n;cases n
 free:=λb o q n d=>by
  cases e:C b with
  |none=>rw[Fp e];exact u.free b o q (by rw[Ff e];exact n) d
  |some c=>rw[(k b c e).1] at n;cases n
 there:=u.there
 tups:=λb f q=>Ei (λb o e=>(k b o e).2) (u.tups b f Gj[λb o e=>(k b o e).1][q][λg z=>by cases z])
 frzs:=λb o f q=>Ei (λb o e=>(k b o e).2) (u.frzs b o f Gj[λb o e=>(k b o e).1][q][λg z=>by cases z])
 tbls:=λb ps q=>by
  let(m,z):=u.tbls b ps Gj[λb o e=>(k b o e).1][q][λg z=>by cases z]
  exact(m,Ei (λb o e=>(k b o e).2) z)
def HOk.drop(x:HOk P w H h)(k:∀b o,C b=sr o->H b=sr[.frz o .own[a]]):HOk P w (Ph C H) h:=(λb o e=>
 (x b o (Amv e).1).stay (λd d d q=>q) (λc q=>Gj k q (λd z=>by cases z)) λc f q=>Gj k q (λd z=>by cases z))
def HOk.addd(x:HOk P w H h)(k:∀b o,C b=sr o->H b=sy/\h.get? b=sr o):HOk P w (Lh a C H) h:=(λb o e=>by
 cases q:C b with
 |some f=>
  rw[Vq q] at e;cases e;exact((k b f q).2,(_,(k b f q).2))
 |none=>
  rw[Fp q] at e;exact(x b o e).stay (λd d d q=>q) (λc q=>Ei (λb o e=>(k b o e).1) q) λc g q=>Ei (λb o e=>(k b o e).1) q)
def Fly.drop(F:Fly P w outer (Lh a C H) s H' e cls d)(k:∀b o,C b=sr o->H b=sy/\s.heap.get? b=sr o/\H' b=sr[.frz o .own[a]]):Fly P w outer H s (Ph C H') e cls d:=by
 let i:=λb o e=>(F.hok b _ (k b o e).2.2).1;let(B,m,l,h,g,f):=F.fly;refine(F.os,F.bare,F.un.drop λb o e=>((k b o e).1,(k b o e).2.1,(k b o e).2.2,i b o e),F.hok.drop λb o e=>(k b o e).2.2,F.new,?_,B,m,l,λb o q n j=>?_,g,λb u o q z=>f b u o (Amv q).1 z)
 .cases z:C e with
  |none=>rw[Ff z];exact F.fre
  |some o=>exact Ja z
 .cases z:C b with
  |none=>exact h b o q (by rw[Fp z];omega) j
  |some p=>
   simp_all
def Fly.addd(F:Fly P w outer (Ph C H) s H' e cls f)(k:∀b o,C b=sr o->H b=sr[.frz o .own[a]]/\s.heap.get? b=sr o/\b∉frs outer):Fly P w outer H s (Lh a C H') e cls f:=by
 let k0:=λb o e=>F.un.free b o (k b o e).2.1 Ja[e] ()
 let i:=λb o e=>F.un.keep b o (k b o e).2.1 Ja[e] (k b o e).2.2 ()
 let(B,m,l,d,h,g):=F.fly;refine(F.os,F.bare,F.un.addd λb o e=>((k b o e).1,k0 b o e),F.hok.addd λb o e=>(k0 b o e,i b o e),F.new,?_,B,m,l,λb o q n j=>?_,h,λb u o q z=>?_)
 .cases z:C e with
  |none=>rw[Fp z];exact F.fre
  |some o=>have:=(k e o z).2.1;rw[F.new] at this;cases this
 .cases z:C b with
  |none=>exact d b o q ((Ff z) ▸ n) j
  |some c=>simp_all
 .cases y:C b with
  |none=>rw[Fp y] at q;exact g b u o q z
  |some c=>
   let r:=d b c (k b c y).2.1 Ja[y] (k b c y).2.2;simp_all
end
end L2
namespace D
open PySem PySem.Spec PyProof.Rows L2
structure Qc(l:Lm):Prop where
 kind:l.scope.kind=.function
 co:l.scope.isCoroutine=t7
 gen:l.scope.isGenerator=t7
 nocell:∀x∈l.scope.names,x.2≠.cell
 free:∀x,l.scope.names.lookup x=sr .free->x∈l.cap
 nolocal:∀x∈l.cap,l.scope.names.lookup x≠sr .local
 nd:l.cap.Nodup
 bd:∀cl pm cd ct,bindArgs (PySem.W.kla_fn "<lambda>" l.qual l.params l.body l.scope cl pm cd ct) ([],[])=pure []
def cxL(P:cD)(w:dW)(K:aB)(mg:t6->o9 aF)(base:dI)(l:Lm)(cl:lg[t6×aH])(f:aH)(cd:aF)(A:eQ)(outer:lg Env)(s:aO)(H:Hp)(E:XK)(cm:Bool:=true):Cx where
 prog:=P
 w:=w
 K:=K
 mg:=mg
 base:=base
 A:=A.deeper (lR l.qual l.scope s.heap.objs.size f cd cl)
 N:=l.cap
 s₀:=s
 H₀:=H
 env:=lR l.qual l.scope s.heap.objs.size f cd cl
 outer:=outer
 stack:=lR l.qual l.scope s.heap.objs.size f cd cl::outer
 ex:=[]
 calm:=cm
 fn:=λuw=>t7
 pn:=[]
 xe:=λe s'=>wpAny (model P w) A.deeper[lR l.qual l.scope s.heap.objs.size f cd cl] leaving[lR l.qual l.scope s.heap.objs.size f cd cl][e] (λuw s''=>CXo P w outer H s E e s'') (λe' s''=>CXo P w outer H s E e' s'') s'
def Arw(h:dI)(H:Hp)(cl:lg[t6×aH]):lg t6->lg V->Prop:=mG λx v=>∃c u,cl.lookup x=sr c/\h.IsCell c sr[u]/\RelV v u/\H c=sy
def Paired.at_{d g:Type}{F:d->g->Prop}{c:lg d}{b:lg g}{i:Nat}{x:d}(h:mG F c b):c[i]?=sr x->∃y,b[i]?=sr y/\F x y:=(
 aDf (motive:=λc b _=>∀i,c[i]?=sr x->∃y,b[i]?=sr y/\F x y) (λ_ e=>by cases e) (λr _ t i=>Nat.casesOn i (λe=>(_,rfl,bY e ▸ r)) λi=>t i) h i)
def Paired.mem_{b c:Type}{F:b->c->Prop}{d:lg b}{f:lg c}{x:b}(r:mG F d f)(h:x∈d):∃y,F x y:=by
 let(i,hi,e):=kO h;let(y,_,z):=Paired.at_ r (aK.mpr (hi,e));exact(y,z)
section
variable{P:cD}{w:dW}{K:aB}{mg:t6->o9 aF}{base:dI}{l:Lm}{cl:lg (t6×aH)}{f:aH}{cd:aF}{A:eQ}{outer:lg Env}{s:aO}{H:Hp}{E:XK}{cm:Bool}
def Bc7{h':dI}(S:Qc l)(hd:cm=t8->A.handled=sy)(a:Adp P w K mg base A outer s H)(sub:∀x c,cl.lookup x=sr c->x∈l.cap)(inj:∀x y c,cl.lookup x=sr c->cl.lookup y=sr c->x=y)(cap:Arw s.heap H cl l.cap F)(G:h'.Ns s.heap.objs.size λq=>sy)(m:∀b o,s.heap.get? b=sr o->h'.get? b=sr o):Inv (cxL P w K mg base l cl f cd A outer s H E cm) [] F.map[sr] H { s with heap:=h' }:=by
 let d:∀b:aH,b∉(cxL P w K mg base l cl f cd A outer s H E cm).ex:=λb z=>absurd (show b∈([]:lg aH) from z) ()
 let j:∀x c,cl.lookup x=sr c->∃u,s.heap.IsCell c sr[u]/\H c=sy:=λx c e=>by
  let(v,O,u,g,n,_,C):=Paired.mem_ cap (sub x c e);rw[e] at g;cases g;exact(u,n,C)
 refine((a.mod,S.kind,rfl,rfl,aN _,inj,λy hy=>?_,λy c z q=>(nomatch z),hd,uL a.frames,.inr (rfl,rfl),λb z=>absurd z d[b],a.bs,a.bsz,λb q q=>d b,λb z=>absurd z d[b],a.funs,a.frf),
  rfl,a.bare,Un.kept m,(_,G,λi y v g n I=>?_),λy c h=>?_,a.hok.fresh aN[_],λy c h=>?_,λp hp=>absurd (show p∈([]:lg[aH×tu]) from hp) (),a.hok.kept m,?_)
 .rcases hy with hy|hy
  .exact absurd rfl (S.nocell _ gJ[hy])
  .let(_,c,_,e,_):=Paired.mem_ cap (S.free y hy);exact(c,e)
 .let(N,J,c,u,C,(o,B,t),r,_):=Paired.at_ cap g;rw[bK,J] at n;cases n;refine(u,r,.inr (?_,c,C,o,m _ _ B,t));rcases I with z|z|z
  .exfalso;exact absurd z (S.nolocal y dX[g])
  .exact .inl z
  .exact .inr z
 .let(u,(o,B,r),_):=j y c h;exact(_,o,m _ _ B,r)
 .exact(j y c h).choose_spec.2
 .show (F.map sr).length=l.cap.length;rw[aJ,sG cap]
end
section
variable{P:cD}{w:dW}{K:aB}{mg:t6->o9 aF}{base:dI}{l:Lm}{cl:lg (t6×aH)}{f c':aH}{pm ct:aF}{A:eQ}{outer:lg Env}{s:aO}{H:Hp}{Q:VK}{E:XK}{cm:Bool}{k:Nat}
def Bc8(S:Qc l)(hf:s.heap.get? f=sr[jO "<lambda>" l.qual l.params l.body l.scope cl pm c' ct])(h:s.heap.CodeRec .ref[c'] l.qual)(d:Fx (k+1) A cm)(i:Adp P w K mg base A outer s H)(sub:∀x c,cl.lookup x=sr c->x∈l.cap)(inj:∀x y c,cl.lookup x=sr c->cl.lookup y=sr c->x=y)(cap:Arw s.heap H cl l.cap j)(z:Fx k A.deeper[lR l.qual l.scope s.heap.objs.size f .ref[c'] cl] cm->∃t,PE (cxL P w K mg base l cl f .ref[c'] A outer s H E cm) l.body t/\t j.map[sr] H Q):codeAny[model P w][A][.call .ref[f] ([],[])][CR (CXo P w) outer P w H s Q E][s]:=by
 apply PySem.W.kla_callFunE d.depth hf rfl S.co S.gen rfl h;rw[S.bd];refine aG uN[S.nocell][λx p=>nomatch p][λC g a=>((i.mod.nolimit.keeps λb o e=>(i.bs b o e).1).fresh _ a,?_)][S.kind];let(t,r,q):=z d.deeper[_];refine PySem.W.kla_codeExpr[cX[r [] _ j.map[sr] H Q (Bc7 S d.hd i sub inj cap g λb o e=>a.extBut b o bR[aZ[e]] (aC _ e)) q][λu m hs=>?_] λe m hs=>hs];let(v,B,J,n,q):=hs;exact(v,B,J.os,J.bare,J.base,J.hok,n,q)
end
def lamF(n:Nat)(b:De->M W):lg W->M W:=λws=>if ws.length=n then b ws.map[sr] else bad
structure Xo(Θ:Th)(P:cD)(w:dW)(K:aB)(mg:t6->Option aF)(base:dI)(k:Nat)(l:Lm)(g:List W->M W):Prop where
 sc:Qc l
 run:∀(cl:List (t6×aH))(f c':aH)(pm ct:aF)(A:eQ)(outer:List Env)(s:aO)(H:Hp)(vs:List V)(Q:VK)(E:XK),s.heap.get? f=sr (jO "<lambda>" l.qual l.params l.body l.scope cl pm c' ct)->s.heap.CodeRec (.ref c') l.qual->Fx k A t8->Adp P w K mg base A outer s H->
  (∀x c,cl.lookup x=sr c->x∈l.cap)->(∀x y c,cl.lookup x=sr c->cl.lookup y=sr c->x=y)->Arw s.heap H cl l.cap vs->spF Θ g vs H Q E->codeAny (model P w) A (.call (.ref f) ([],[])) (CR (CXo P w) outer P w H s Q E) s
def Bjp{P:cD}{w:dW}{K:aB}{mg:t6->o9 aF}{base:dI}{k:Nat}{l:Lm}{b:De->M W}(S:Qc l)(n:∀cl f a A outer s H E,Fx k A.deeper[lR l.qual l.scope s.heap.objs.size f .ref[a] cl] t8->WE (cxL P w K mg base l cl f .ref[a] A outer s H E t8) l.body tF[g][λN=>E][b]):Xo g P w K mg base (k+1) l (lamF l.cap.length b):=(
 (S,λcl f a T ct A outer s H L Q E C B z y x t p o=>by
  refine Bc8 S C B z y x t p λm=>(_,(n cl f a A outer s H E m).un,?_);let(d,S,h,R,r,q):=o;unfold lamF at q;by_cases c:h.length=l.cap.length
  .rw[di c] at q;refine(d,S,_,R,λi u e=>?_,q);rw[bK] at e;let(O,G,F):=bI.mp e;cases F;let(v,ev,j):=r.get G;exact(v,by simp_all,j)
  .rw[dm c] at q;exact q.elim))
def Amw{H a:Hp}(t:∀b o,H b=sr o->Axr o=t8->a b=sr o):RVm d c c H a:=(
 (λh=>h,λh=>t _ _ h rfl,λh=>by
  rcases h with ⟨o,h⟩|h
  .exact .inl (o,t _ _ h rfl)
  .exact .inr h,λh m=>(m,t _ _ h rfl),λh m=>(m,t _ _ h rfl)))
def RV.dropC{H H':Hp}(t:∀b o,H b=sr o->Axr o=t8->H' b=sr o):RV Θ ρ H w v->RV Θ ρ H' w v:=RV.map Amw[t]
def RVs.dropC{H H':Hp}(t:∀b o,H b=sr o->Axr o=t8->H' b=sr o):RVs Θ ρ H ws vs->RVs Θ ρ H' ws vs:=RVs.map Amw[t]
section
variable{C:aH->o9 tu}{a:aH}
def Afc{H:Hp}(c:∀b o,C b=sr o->H b=sr[fc a o]):∀b o,H b=sr o->Axr o=t8->Ph C H b=sr o:=(λb o q n=>Gj c q (by rintro d rfl;cases n))
def Ig.drop(p:∀b o,C b=sr o->H b=sr[fc a o])(J:C m=sy)(ne:m≠a)(h:Ig w s H m c):Ig w s (Ph C H) m c:=by
 let t:=Afc p;let k:_=H m:=Ff J;cases c with
 |lst g=>let(f,h,r):=h;exact(f,k.trans h,r.dropC t)
 |dct g=>let(f,h,r):=h;exact(f,k.trans h,Paired.imp2 (λi i z=>(z.1,z.2.dropC t)) r)
 |ins c g=>let(N,f,h,r):=h;exact(N,f,k.trans h,Paired.imp2 (λi i z=>(z.1,z.2.dropC t)) r)
 |dead=>let(o,u,h,z):=h;exact(o,u,k.trans h,z)
 |clo j g=>
  let(f,(cl,F,ct,O,G,fs,l,h,L,d,q,x,I,cap),r):=h;refine(f,(cl,F,ct,O,G,fs,l,k.trans h,t _ _ L rfl,d,q,x,I,L2.Paired.mapP cap λ_ _ ⟨c,o,u,q1,q2,q3⟩=>(c,o,u,q1,Gj p q2 ?_,q3)),r.dropC t)
  grind
 |tab q=>
  let(ps,h,z,y):=h;refine(ps,k.trans h,z,λn v e=>?_);let(c,o,fs,l,r,z,y):=y n v e;exact(c,o,fs,l,r,t _ _ z rfl,y)
def Ig.noC(h:Ig g f H b c):H b≠sr[fc a o]:=by
 intro z;cases c with
 |lst d=>let(e,h,r):=h;simp_all
 |dct d=>let(e,h,r):=h;simp_all
 |ins c d=>let(m,e,h,r):=h;simp_all
 |dead=>let(o,u,h,y):=h;rw[z] at h;cases h;cases y
 |clo j d=>let(e,(cl,k,ct,n,l,fs,i,h,_),r):=h;simp_all
 |tab q=>let(ps,h,_):=h;simp_all
def Rep.noC(R:Rep f d S H)(h:H b=sr[fc a o]):b∉d:=(λm=>by
 let(n,e,rfl):=kO m;let hs:n < S.length:=by rw[<-R.len];omega
 exact(R.at_ n _ _ aV[e] aV[hs]).noC h)
theorem Rep.drop{n:Nat}(R:Rep q h S H)(i:h[n]?=sr a)(u:H a=sr fz[w])(p:∀b o,C b=sr o->H b=sr[fc a o]/\b∉h):Rep q h (S.set n .dead) (Ph C H) where
 len:=by rw[fB];exact R.len
 nd:=R.nd
 tb:=R.tb
 at_:=λm b d f g=>by
  let k:=λb o e=>(p b o e).1;let l:C b=sy:=by
   cases z:C b with
   |none=>rfl
   |some o=>exact absurd dX[f] (p b o z).2
  by_cases j:m=n
  .subst j;rw[i] at f;cases f;let t:m < S.length:=by rw[<-R.len];exact(aK.mp i).1
   rw[dH t] at g;cases g;exact(_,_,(Ff l).trans u,rfl)
  .rw[cW bN[j]] at g;refine(R.at_ m b d f g).drop k l ?_;rintro rfl;let(y,s):=aK.mp i;let(x,r):=aK.mp f;exact j[(kZ R.nd).mp r.trans[s.symm]]
theorem Rep.addd(R:Rep f e S H)(d:∀b o,C b=sr o->H b=sy):Rep f e S (Lh a C H) where
 len:=R.len
 nd:=R.nd
 tb:=R.tb
 at_:=λn b c h g=>by
  let q:=R.at_ n b c h g;let(u,hu):=q.there;exact q.keep[(Ei d hu).trans hu.symm] λb o q i=>Ei d q
theorem Cd.addd{i H:Hp}(R:Rep r d S' H)(t:Cd l d (Ph C i) H)(h:∀b o,C b=sr o->i b=sr[fc a o])(j:∀b o,C b=sr o->H b=sy):Cd l d i (Lh a C H) where
 t:=λb p q=>Ei j (t.t b p Gj[h][q][λs z=>by cases z])
 f:=λb o u q=>by
  cases e:C b with
  |none=>rw[Fp e];exact t.f b o u ((Ff e).trans q)
  |some g=>rw[h b g e] at q;cases q;exact Vq e
 k:=λb o q m=>by
  cases e:C b with
  |none=>rw[Fp e];exact t.k b o ((Ff e).trans q) m
  |some g=>rw[h b g e] at q;cases q;exact Vq e
 n:=λb m=>by
  rcases t.n b m with z|z
  .exact .inl z
  .cases e:C b with
   |none=>exact .inr ((Ff e).symm.trans z)
   |some o=>
    let(u,hu):=R.tracked m;rw[j b o e] at hu;cases hu
end
open Classical in
noncomputable def R8(h:dI)(cl:lg[t6×aH]):aH->o9 tu:=λb=>if ∃x,cl.lookup x=sr b then h.get? b else sy
def Akq(e:R8 h cl b=sr o):(∃x,cl.lookup x=sr b)/\h.get? b=sr o:=by
 unfold R8 at e;simp_all
def Arx{cl:lg[t6×aH]}(e:cl.lookup x=sr b)(h':h.get? b=sr o):R8 h cl b=sr o:=by
 unfold R8;rw[di (x,e)];omega
def noArgs(p:qU):Bool:=p.posonlyargs.isEmpty&&p.args.isEmpty&&p.vararg.isNone&&p.kwonlyargs.isEmpty&&p.kw_defaults.isEmpty&&p.kwarg.isNone&&p.defaults.isEmpty
def Xp(l:Lm):Bool:=decide[l.scope.kind=.function]&&!l.scope.isCoroutine&&!l.scope.isGenerator&&l.scope.names.all[λx=>!(x.2==.cell)]&&l.scope.names.all[λx=>!(x.2==.free)||l.cap.contains x.1]&&
 l.cap.all[λx=>!decide (l.scope.names.lookup x=sr .local)]&&decide l.cap.Nodup&&noArgs l.params
def Aih{p:qU}(h:noArgs p=t8):p=([],[],sy,[],[],sy,[]):=by
 let(a,b,c,d,e,f,g):=p;unfold noArgs at h;simp_all
def Bc9{l:Lm}(h:Xp l=t8):Qc l:=by
 unfold Xp at h;simp only[aL,dh,iC,bB] at h;let(((((((k,j),i),g),f),d),c),b):=h;refine(k,j,i,λx a e=>?_,λx a=>?_,λx a e=>?_,c,λcl m n ct=>?_)
 .have:=g x a;simp_all
 .have:=f _ gJ[a];simp_all
 .have:=d x a;rw[decide_eq_false_iff_not] at this;trivial
 .rw[Aih b];rfl
def Ad4(L:Lm->lg W->M W)(x:W):M W:=match x with
 |.ref n=>λS=>match S[n]? with
  |some (.clo l ws)=>if Xp l then L l ws (S.set n .dead) else .bad
  |_=>.bad
 |_=>bad
def Afd(L:Lm->lg W->M W)(f:De->M W):De->M W:=λY=>do let x<-f Y;Ad4 L x
def QA(a:aH)(C:aH->o9 tu)(Q:VK):VK:=λv H=>(∀b o,C b=sr o->H b=sy)->Q v (Lh a C H)
def EA(a:aH)(C:aH->o9 tu)(E:XK):XK:=λcls o H=>(∀b o,C b=sr o->H b=sy)->E cls o (Lh a C H)
def Av.addd{C:aH->o9 tu}{r:R W}(h:Av i RV[i] l H r Q E)(k:∀b o,C b=sr o->H b=sr[fc a o]):Av i RV[i] l (Ph C H) r (QA a C Q) (EA a C E):=by
 cases r with
 |ok w u=>exact λg y v p t R j f=>h g _ v p (t.addd R k f) R.addd[f] (j.keep λb o q m=>Ei f q)
 |exc c u=>
  intro g y p t R;unfold XP;cases e:i.xf c.1 with
  |none=>
   intro f;let z:=h g _ p (t.addd R k f) R.addd[f];unfold XP at z;simp_all
  |some n=>
   intro d v hd s j f;let z:=h g _ p (t.addd R k f) R.addd[f];unfold XP at z;rw[e] at z;exact z d v hd (Ei f s) (j.keep λb o q m=>Ei f q)
 |bad=>exact h
nonrec def Axy{L:Lm->lg W->M W}(hL:∀l,Qc l->∃n,Xo Z X.prog X.w X.K X.mg X.base n l L[l]/\Fx n X.A t8)(hx:Ed (CXo X.prog X.w) X E)(N:WE[X][.Name x p][tF Z E f]):
  WE X (.Call (.Name x p) [] [] pos) tF[Z][E][Afd L f]:=(⟨λaa s U H Q I ⟨ρ,S,Y,R,sl,q⟩=>by
 refine eU (thn (N.un aa s U H _ I (ρ,S,Y,R,sl,(Av.seq (Rel:=RV Z) q))) λu g ⟨v,H1,I1,r1,⟨ρ1,S1,w,p1,t1,R1,rv,h⟩⟩=>?_);unfold Ad4 at h;cases rv <;> try ac_rfl
 rename_i n a N;dsimp only at h;cases ec:S1[n]? with
 |none=>rw[ec] at h;ac_rfl
 |some c=>
 rw[ec] at h;cases c <;> try ac_rfl
 rename_i l ws;dsimp only at h;split at h
 case isFalse=>exact h.elim
 rename_i hlb;let(m,hL,hr):=hL l Bc9[hlb];let(vs,(cl,pm,ct,T,oC,fs,tk,ha,hc,d,t,sb,ij,cap),rvs):=R1.at_ _ _ _ N ec;cases (show u=bJ a from r1);let C:g.heap.get? a=sr _:=(show _/\_ from I1.hok a _ ha).1;let hfc:g.heap.get? T=sr oC:=(show _/\_ from I1.hok T _ hc).1;let j:∀b o,R8 g.heap cl b=sr o->H1 b=sr[fc a o]:=λb o z=>by
  let((x,P),e2):=Akq z;let(v,c,o',u',h,J,_):=Paired.mem_ cap (sb x b P);rw[P] at h;cases h;have:=(show _/\_ from I1.hok b _ J).1;rw[e2] at this;cases this;exact J
 let hρ:∀b o,R8 g.heap cl b=sr o->H1 b=sr[fc a o]/\b∉ρ1:=λb o z=>(j b o z,R1.noC[j b o z]);let O:∀b o,R8 g.heap cl b=sr o->g.heap.get? b=sr o:=λb o z=>(Akq z).2;let hs:∀b o,R8 g.heap cl b=sr o->b∉frs X.stack:=λb o z m=>by
  have:=I1.stkFree b m;rw[j b o z] at this;cases this
 let i:=I1.env0;let P:Adp X.prog X.w X.K X.mg X.base X.A X.stack g Ph[R8 g.heap cl][H1]:=(i.frames,i.mod,λb o z=>((i.bs b o z).1,by
  cases y:R8 g.heap cl b with
  |none=>rw[Ff y];exact(i.bs b o z).2
  |some o=>exact Ja y),i.bsz,i.funs,λb z=>by
  cases y:R8 g.heap cl b with
  |none=>rw[Ff y];exact i.frf b z
  |some o=>exact Ja y,i.hok.drop j,i.bare)
 let ci:Arw g.heap Ph[R8 g.heap cl][H1] cl l.cap vs:=L2.Paired.mapP cap λx v ⟨c,o,u,h,J,q3,q4⟩=>by
  let z:=(show _/\_ from I1.hok c _ J).1;exact(c,u,h,(o,z,q3),q4,Ja[Arx h z])
 refine PySem.W.callWith_F0 (_,_,_,_,C) (jX (gQ (hL.run cl a T pm ct X.A X.stack g _ vs QA[a][R8 g.heap cl][Q] EA[a][R8 g.heap cl][E[U]] C (T,oC,fs,tk,rfl,hfc,d,t) hr P sb ij ci
  (ρ1,S1.set n .dead,ws,R1.drop N ha hρ,rvs.dropC Afc[j],h.addd j)) λr s' t=>?_))
 cases r with
 |error e=>
  let(ea,cls,H',o,rfl,F,ox,hE):=t;exact hx aa U H1 g _ s' I1 (ea,cls,_,o,rfl,F.addd λb o z=>(j b o z,O b o z,hs b o z),ox,hE λb o z=>F.un.free b o (O b o z) Ja[z] ())
 |ok fl=>
  cases fl with
  |ret u=>
   let(v,H',os,bare,un,hok,r,hQ):=t;let k0:∀b o,R8 g.heap cl b=sr o->H' b=sy:=λb o z=>un.free b o (O b o z) Ja[z] ()
   exact I1.after (v,_,os,bare,un.addd λb o z=>(j b o z,k0 b o z),hok.addd λb o z=>(k0 b o z,un.keep b o (O b o z) Ja[z] (hs b o z) ()),r,hQ k0)
  |next=>exact t.elim
  |brk=>exact t.elim
  |cont=>exact t.elim⟩)
def Bhj(n:Nat):R W->R W
 |.ok w S=>.ok w (S.set n .dead)
 |.exc c S=>.exc c (S.set n .dead)
 |.bad=>.bad
def Dl(j:Nat)(l:Lm)(cap:lg Nat)(g:lg W->M W):De->M W:=λY S=>match Dq (λi=>Y.getD i sy) cap with
 |some ws=>match S[j]? with
  |some (.tab q')=>if q'=l.qual then Bhj S.length g[[.ref S.length]][S ++ [.clo l ws]] else .bad
  |_=>.bad
 |none=>.bad
def QD(a:aH)(C:aH->o9 tu)(Q:VK):VK:=λv H=>(∀b o,C b=sr o->H b=sr[fc a o])/\Q v (Ph C H)
def ED(a:aH)(C:aH->o9 tu)(E:XK):XK:=λcls o H=>(∀b o,C b=sr o->H b=sr[fc a o])/\E cls o (Ph C H)
section
variable{C:aH->o9 tu}{a:aH}
def Cd.dropd(t:Cd h d H H')(l:∀b o,C b=sr o->H b=sy)(j:∀b o,C b=sr o->H' b=sr[fc a o]):Cd h d H (Ph C H'):=by
 let z:∀b u,H b=sr u->C b=sy:=λb u q=>by
  cases e:C b with
  |none=>rfl
  |some o=>simp_all
 exact(λb i q=>(Ff[z b _ q]).trans (t.t b i q),λb o u q=>(Ff[z b _ q]).trans (t.f b o u q),λb o q m=>(Ff[z b _ q]).trans (t.k b o q m),t.n)
def Av.shut{r:R W}{n:Nat}{G:tu}(h:Av l RV[l] s H (Bhj n r) Q E)(u:Cd s j H H1)(x:s <+: j)(J:j[n]?=sr a)(y:H1 a=sr fz[G])(B:∀b o,C b=sr o->H b=sy)(A:∀b o,C b=sr o->H1 b=sr[fc a o]):
  Av l RV[l] j H1 r (QD a C Q) (ED a C E):=by
 let k:∀{g:lg aH},j <+: g->g[n]?=sr a:=λp=>by
  let(r,rfl):=p
  rwa [bD (aK.mp J).1]
 cases r with
 |ok w L=>
  intro g P v p t R m;let i:=λb o z=>t.f _ _ _ (A b o z);exact(i,h g _ v x.trans[p] ((u.trans t).dropd B i) (R.drop[k p][t.f _ _ _ y] λb o z=>(i b o z,R.noC[i b o z])) m.dropC[Afc[i]])
 |exc c L=>
  intro g P p t R;let i:=λb o z=>t.f _ _ _ (A b o z);let z:=h g _ x.trans[p] ((u.trans t).dropd B i) (R.drop[k p][t.f _ _ _ y] λb o z=>(i b o z,R.noC[i b o z]));unfold XP at z ⊢
  cases e:l.xf c.1 with
  |none=>rw[e] at z;trivial
  |some n=>rw[e] at z;exact λd v hd I m=>(i,z d v hd (Afc i d _ I rfl) m.dropC[Afc[i]])
 |bad=>exact h
def Axz{H:Hp}(h:C a=sy):Lh a C (upd H a u)=upd (Lh a C H) a u:=by
 funext b;by_cases e:b=a
 .subst e;rw[Fp h,Aq,Aq]
 .rw[Aj e];cases z:C b with
  |none=>rw[Fp z,Fp z,Aj e]
  |some o=>rw[Vq z,Vq z]
end
structure Maker(Θ:Th)(X:Cx)(j:Nat):Prop where
 code:∃c P,X.env.code=.ref c/\Θ.tb[j]?=sr P/\gG X.K c P=t8
 own:∀x,X.fn x=t8
 blt:∃bm o,X.mg "__builtins__"=sr (.ref bm)/\bm≠builtinsNs/\bm≠mainGlobals/\X.base.get? bm=sr o/\o.cls=.type "module"/\o.dict=sr builtinsNs/\o.data=.plain
theorem Aii:∀{ps:lg aF} {m:lg aF},tH ps->codeAmong d (ps ++ m)=(codeAmong d ps).or (codeAmong d m)
 |[],m,_=>by rfl
 |.int a t::.int b u::c::r,m,h=>by
  show (if _ then _ else codeAmong d (r ++ m))=_
  rw[Aii (ps:=r) h,show codeAmong d (_::_)=if _ then _ else _ from rfl]
  split <;> rfl
structure Made(Θ:Th)(X:Cx)(l:Lm)(aa:List (aH×tu))(σ:L2.St)(ρ:List aH)(S:Store)(H:Hp)(s:aO)(cl:List (t6×aH))(a:aH)(s1:aO)(H0:Hp)(c':aH)(oC:tu)(fs:Array aF)(tk:Tok)(pm ct:aF):Prop where
 inv:Inv X aa σ (upd H0 a (fz (jO "<lambda>" l.qual l.params l.body l.scope cl pm c' ct))) s1
 rep:Rep Θ ρ S H0
 tup:Cd ρ ρ H H0
 new:H0 a=sy
 nws:s.heap.get? a=sy
 code:H0 c'=sr (fz oC)
 dat:oC.data=.fields fs
 qn:fs[1]?=sr (.str l.qual tk)
 kp:∀b o,s.heap.get? b=sr o->H b=sy->s1.heap.get? b=sr o
def made{l:Lm}{j:Nat}{cl:lg[t6×aH]}{E':aF->aO->Prop}(M:Maker Θ X j)(I:Inv X aa σ H s)(R:Rep Θ L S H)(hj:S[j]?=sr .tab[l.qual])(hdef:defaultsOf l.params X.env=(u6 [] []))(hq:X.env.qual ++ "<lambda>"=l.qual)(hcl:closureFor l.scope X.env=pure cl)(h:∀a s1 H0 f m fs tk pm ct,Made Θ X l aa σ L S H s cl a s1 H0 f m fs tk pm ct->Q .ref[a] s1):
  wpAny (model X.prog X.w) X.A eval[.Lambda l.params l.body l.scope d][X.env] Q E' s:=by
 let(c,P,hc,hP,hhd):=M.code;let G:L[j]?=sr P:=by
  let(r,e):=R.tb;rw[<-e,bD (aK.mp hP).1];exact hP
 let(ps,p,ht,hco):=R.at_ j P _ G hj;let C:s.heap.get? P=sr mU[ps]:=I.hok P _ p;let hg:s.heap.Ns mainGlobals X.mg:=I.mod.glob.keeps I.bk;let(bm,ob,b1,b2,b3,b4,b5,b6,b7):=M.blt;let nb:∀b o,X.base.get? b=sr o->b≠P:=λb o e z=>by
  have:=(I.bs b o e).2;rw[z,p] at this;cases this
 let hgP:mainGlobals≠P:=by
  let(o,es,ep,e,_):=I.mod.glob;exact nb _ _ e
 let hb:s.heap.BuiltinsAt X.mg P:=(bm,ob,b1,b2,b3,nb _ _ b4,I.bk _ _ b4,b5,b6,b7);let hC:=vI I.kIn hhd;refine PySem.W.kla_eval hdef ?_;rw[hq];cases hf:codeAmong d ps.toList with
 |some v=>
  let(f,m,fs,tk,rfl,z1,z2,z3):=hco d v hf;refine PySem.W.kla_makeFunctionHit (mg:=X.mg) hcl I.ok.glob hg hc hC C ht hf hb λB h' tk' hk J=>h _ _ H f m fs tk ((X.mg "__name__").getD .none) B (?_,R,Cd.refl L H,I.hok.fresh J,gU J,z1,z2,z3,λb o e g=>aC _ (hk b o e));exact I.laid (a:=h'.objs.size) (λb u e=>aC _ (hk b u e)) J (aU _ rfl,trivial,(_,aU _ rfl),λg g g g=>trivial)
 |none=>
  refine PySem.W.kla_makeFunction (mg:=X.mg) hcl I.ok.glob hg hc hC C ht hf hgP hb λf B h' tk hx i y Z Y=>?_;let(c2,m,fs,tq,e2,hoc,hd,hv):=Z;cases e2;let ne:∀b u,H b=sr u->b≠f:=λb u e=>bR[aQ I.hok.lt[e] i];let E:H f=sy:=I.hok.fresh i;let hH':upd H f fz[m] P=sr .tbl[ps]:=by rw[Aj[ne P _ p]];exact p
  let U:Cd L L (upd H f fz[m]) upd[upd H f fz[m]][P][.tbl[ps ++ #[rawInt d.line,rawInt d.col,.ref f]]]:=Mv G hH' (λg e=>by cases e) (λg g e=>by cases e)
  let hts:tH (ps ++ #[rawInt d.line,rawInt d.col,.ref f]).toList:=by
   rw[kY];let all:∀l:lg aF,tH l->tH[l ++ [rawInt d.line,rawInt d.col,.ref f]]:=λl=>by
    fun_induction tH l with
    |case1=>intro _;exact trivial
    |case2 a t b u c r ih=>intro z;exact ih z
    |case3=>intro z;exact z.elim
   exact all _ ht
  let cell:∀H2:Hp,(∀b u,H b=sr u->clK u=t8->H2 b=sr u)->H2 f=sr fz[m]->Xm H2 l.qual (ps ++ #[rawInt d.line,rawInt d.col,.ref f]):=λH2 k2 kc k v e=>by
   rw[kY,Aii ht] at e;cases e1:codeAmong k ps.toList with
   |some v'=>
    rw[e1] at e;cases e;let(c3,o3,f3,t3,q1,q2,q3):=hco k _ e1;exact(c3,o3,f3,t3,q1,k2 _ _ q2 rfl,q3)
   |none=>
    rw[e1] at e;let e:(if (u6 rawInt[d.line] rawInt[d.col]).1=rawInt d.line/\((d.line:Int)==k.line&&(d.col:Int)==k.col)=t8 then sr bJ[f] else sy)=sr v:=by
     simp only[Option.none_or] at e;simp only[true_and];exact e
    split at e
    .cases e;exact(f,m,fs,tq,rfl,kc,hd,hv)
    .cases e
  let nca:h'.objs.size≠f:=jQ y;let O:h'.objs.size≠P:=jQ aQ[aZ C][aD i gP[y]];let N:f≠P:=jQ[aQ aZ[C] i];let han:H h'.objs.size=sy:=I.hok.fresh[aD i gP[y]];let T:∀b o,b≠P->s.heap.get? b=sr o->(h'.push[jO "<lambda>" l.qual l.params l.body l.scope cl ((X.mg "__name__").getD .none) f B]).get? b=sr o:=λb o z e=>aC _ (hx b o z e);let x:∀b u,b≠P->H b=sr u->upd upd[upd H f fz[m]][P][.tbl[ps ++ #[rawInt d.line,rawInt d.col,.ref f]]] h'.objs.size fz[jO "<lambda>" l.qual l.params l.body l.scope cl ((X.mg "__name__").getD .none) f B] b=sr u:=λb u z e=>by
   rw[Aj[Bm e han],Aj z,Aj[Bm e E]];exact e
  refine h h'.objs.size _ upd[upd H f fz[m]][P][.tbl[ps ++ #[rawInt d.line,rawInt d.col,.ref f]]] f m fs tq ((X.mg "__name__").getD .none) B (?_,?_,(Bj E).trans U,?_,gU[aD i gP[y]],by rw[Aj N];exact Aq,hd,hv,λb o e n=>T b o (λz=>by rw[z,p] at n;cases n) e)
  .refine I.un (λb o e n g g=>T b o (λz=>by rw[z,p] at n;cases n) e,λb o e n g g=>(o.slots,T b o (λz=>by rw[z,p] at n;cases n) e),λb o e n g=>?_,λb o e g=>?_,λb xs e=>x b _ (λz=>by rw[z,p] at e;cases e) e,λb o u e=>x b _ (λz=>by rw[z,p] at e;cases e) e,λb qs e=>?_) λb o e=>?_
   .have:=aZ e;rw[Aj bR[aQ[this][aD i gP[y]]],Aj (λz=>by rw[z,p] at n;cases n),Aj bR[aQ this i]]
    exact n
   .by_cases z:b=P
    .subst z;exact(_,aC _ Y)
    .exact(o,T b o z e)
   .by_cases z:b=P
    .subst z;rw[p] at e;cases e;exact(_,by rw[Aj bN[O],Aq])
    .exact(#[],by rw[x b _ z e];simp)
   .by_cases za:b=h'.objs.size
    .subst za;rw[Aq] at e;cases e;exact(aU _ rfl,trivial,(_,aU _ rfl),λg g g g=>trivial)
    .rw[Aj za] at e;by_cases zP:b=P
     .subst zP;rw[Aq] at e;cases e;exact aC _ Y
     .rw[Aj zP] at e;by_cases zc:b=f
      .subst zc;rw[Aq] at e;cases e;exact(aC _ hoc,trivial,(_,aC _ hoc),λg g g g=>trivial)
      .rw[Aj zc] at e;exact(I.hok b o e).stay (λc v z q=>T c v (by
        rcases z with z|z
        .rw[z];exact zP
        .rintro rfl;rw[p] at z;cases z) q) (λc q=>x c _ (by grind) q) λc xs q=>x c _ (by grind) q
  .let r:=(R.beside (o:=fz m) E).write G U (c:=.tab l.qual) (_,Aq,hts,cell _ (λb u e z=>by rw[Aj (by rintro rfl;rw[p] at e;cases e;cases z),Aj[Bm e E]];exact e) (by rw[Aj N];exact Aq))
   let(hl,e):=aK.mp hj
   rwa [<-e,List.set_getElem_self] at r
  .rw[Aj O,Aj nca];exact han
theorem W6:∀(l:lg[t6×lZ])(a:lg[t6×aH])(x:t6)(c:aH),(Gx cells l a).lookup x=sr c->a.lookup x=sr c\/(u6 x .free)∈l
 |[],a,x,c,h=>.inl h
 |(n,k)::r,a,x,c,h=>by
  unfold Gx at h;by_cases f:(k==cN)=t8
  .rw[di f] at h;rcases W6 r _ x c h with q|q
   .rw[dF] at q;cases e:x==n with
    |true=>rw[eq_of_beq e,<-beq_iff_eq.mp f];exact .inr aX
    |false=>rw[e] at q;exact .inl q
   .exact .inr[aR _ q]
  .rw[dm f] at h;rcases W6 r _ x c h with q|q
   .exact .inl q
   .exact .inr[aR _ q]
structure Bqm(X:Cx)(l:Lm)(cap:List Nat):Prop where
 fr:∀y,(u6 y cN)∈l.scope.names->(X.env.kindOf y=sr .cell\/X.env.kindOf y=sr .free)/\y∈l.cap
 ix:mG (λy i=>X.N[i]?=sr y/\(u6 y cN)∈l.scope.names) l.cap cap
def Bda{l:Lm}{cl:lg[t6×aH]}{a:aH}{H1:Hp}(I:Inv X aa q H s)(B:RSl x t H Y q)(fr:∀y,(u6 y cN)∈l.scope.names->X.env.kindOf y=sr .cell\/X.env.kindOf y=sr .free)(hcl:∀y,(u6 y cN)∈l.scope.names->cl.lookup y=X.env.cells.lookup y)(T:∀b o,R8 s.heap cl b=sr o->H1 b=sr[fc a o]):
  ∀{cap:lg Nat} {ns:lg t6} {g:lg W},mG (λy i=>X.N[i]?=sr y/\(u6 y cN)∈l.scope.names) ns cap->Dq (λi=>Y.getD i sy) cap=sr g->∃j,Amt H1 a cl ns j/\RVs x t H g j:=by
 intro cap ns g h;induction h generalizing g with
 |nil=>intro e;cases e;exact([],.nil,.nil)
 |@cons y i ns cap S r L=>
    intro e;let(U,k):=S;let(w,A,f,e2,rfl):=Qa e;let(j,G,F):=L e2;let Z:Y[i]?=sr sr[w]:=by
     rw[cA] at f;cases z:Y[i]? with
     |none=>rw[z] at f;cases f
     |some o=>rw[z] at f;rw[<-f];rfl
    let(v,O,C):=B i w Z;let(m,_,Q):=I.loc;let kd:=fr y k;let(u,E,J):=Q i y v U O (by rcases kd with z|z;exact .inr .inl[z];exact .inr .inr[z])
    rcases J with ⟨z,_⟩|⟨_,c,p,o,P,hd⟩
    .simp_all
    .refine(v::j,.cons (c,o,u,(hcl y k).trans p,T c o Arx[(hcl y k).trans p][P],hd,E) G,.cons C F)
def Ax0{C:aH->o9 tu}{a:aH}(hC:∀b o,C b=sr o->H b=sy):Cd ρ ρ H (Lh a C H):=(λuw uw q=>Ei hC q,λuw uw uw q=>Ei hC q,λuw uw q uw=>Ei hC q,λuw q=>.inl q)
def Aux{n j:Nat}{cm:Bool}{l:Lm}{cap:lg Nat}{g:lg W->M W}(D:Ng X.K X.mg x df ps fa fd)(F:Hw X.prog X.w X.K X.mg X.base (CXo X.prog X.w) n fa fd ps (spF Θ g) cm)(hr:Fx n X.A cm)(hx:Ed (CXo X.prog X.w) X E)(hg:Gl X x)(hdb:(x==("__debug__":t6))=t7)(M:Maker Θ X j)(hdef:defaultsOf l.params X.env=(u6 [] []))(B:X.env.qual ++ "<lambda>"=l.qual)(hc:Bqm X l cap):
  WE X (.Call (.Name x p) [.Lambda l.params l.body l.scope P] [] pos) tF[Θ][E][Dl j l cap g]:=(⟨λaa s σ H Q I ⟨ρ,S,Y,R,sl,q⟩=>by
 unfold Dl at q;cases e1:Dq (λi=>Y.getD i sy) cap with
 |none=>rw[e1] at q;exact q.elim
 |some ws=>
 rw[e1] at q;dsimp only at q;split at q
 case h_2=>exact q.elim
 rename_i q' hj;split at q
 case isFalse=>exact q.elim
 rename_i eq;subst eq;let has:∀y,(u6 y cN)∈l.scope.names->∃c,X.env.cells.lookup y=sr c:=λy t=>I.ok.has y (hc.fr y t).1;let hcl:=Ae3 (env:=X.env) (scope:=l.scope) λy t e=>has y.1 (by rw[<-e];exact t)
 let T:∀y c,(Gx X.env.cells l.scope.names []).lookup y=sr c->X.env.cells.lookup y=sr c:=λy c e=>by
  rcases Xj l.scope.names [] y c (λz hz e=>has z.1 (by rw[<-e];exact hz)) e with z|z
  .cases z
  .exact z
 let lf:∀y c,(Gx X.env.cells l.scope.names []).lookup y=sr c->(u6 y cN)∈l.scope.names:=λy c e=>by
  rcases W6 l.scope.names [] y c e with z|z
  .cases z
  .exact z
 refine eU[K9 I hg D.gl ?_ hdb];refine jG I.ok.mod.kin D.fn.kp (?_:wpAny _ _ (spliced ((u6 t7 eval[.Lambda l.params l.body l.scope P][X.env])::backTo pos [])) _ _ s) rfl rfl;refine vX[made M I R hj hdef B hcl λa O f c' oC fs tk pm ct Z=>?_];refine wL (Z.inv.kIn,?_);generalize hC:R8 s.heap (Gx X.env.cells l.scope.names [])=C;generalize U:jO "<lambda>" l.qual l.params l.body l.scope (Gx X.env.cells l.scope.names []) pm c' ct=oF;let ZI:=Z.inv;rw[U] at ZI;let J:∀b o,C b=sr o->(∃y,X.env.cells.lookup y=sr b)/\s.heap.get? b=sr o/\H b=sy:=λb o e=>by
  rw[<-hC] at e;let((y,z),h):=Akq e;exact((y,T y b z),h,I.freeC y b (T y b z))
 let G:C a=sy:=by
  cases e:C a with
  |none=>rfl
  |some o=>have:=(J a o e).2.1;rw[Z.nws] at this;cases this
 let L:∀b o,C b=sr o->f b=sy:=λb o e=>by
  let(y,z):=(J b o e).1;have:=ZI.freeC y b z
  rwa [Aj (by rintro rfl;rw[G] at e;cases e)] at this
 let c1:∀b o,C b=sr o->O.heap.get? b=sr o:=λb o e=>Z.kp b o (J b o e).2.1 (J b o e).2.2;let hnw:Lh a C f a=sy:=by rw[Fp G];exact Z.new
 let t0:Cd ρ (ρ ++ [a]) H upd[Lh a C f][a][fz[oF]]:=Z.tup.trans[(Ax0 L).trans Bj[hnw]];let cH:∀b o,C b=sr o->upd (Lh a C f) a fz[oF] b=sr[fc a o]:=λb o e=>by
  rw[Aj (by rintro rfl;rw[G] at e;cases e)];exact Vq e
 let(vs,q1,q2):=Bda (a:=a) (H1:=upd (Lh a C f) a fz[oF]) I sl (λy t=>(hc.fr y t).1) (cl:=Gx X.env.cells l.scope.names []) (λy t=>by
  let(c,e):=P0 (cells:=X.env.cells) l.scope.names [] y t;rw[e,T y c e]) (by rw[hC];exact cH) hc.ix e1
 let nca:c'≠a:=λz=>by have:=Z.code;rw[z,Z.new] at this;cases this
 let RR:Rep[Θ][ρ ++ [a]][S ++ [.clo l ws]][upd (Lh a C f) a fz[oF]]:=(Z.rep.addd L).alloc hnw (vs,(Gx X.env.cells l.scope.names [],pm,ct,c',oC,fs,tk,by rw[U];exact Aq,by rw[Aj nca];exact Ei L Z.code,Z.dat,Z.qn,λy c e=>(hc.fr y (lf y c e)).2,λy z c e1 e2=>I.ok.inj y z c (T y c e1) (T z c e2),q1),q2.mono (bL _ _) t0)
 let hn:(ρ ++ [a])[S.length]?=sr a:=by rw[<-R.len];exact La
 let sp:spF Θ g [.ref a] upd[Lh a C f][a][fz[oF]] (QD a C Q) (ED a C E[σ]):=(ρ ++ [a],S ++ [.clo l ws],[.ref S.length],RR,.cons .ref[hn] .nil,q.shut t0 (bL _ _) hn Aq (λb o e=>(J b o e).2.2) cH);let eH:Lh a C (upd f a fz[oF])=upd (Lh a C f) a fz[oF]:=Axz G;let k:=ZI.env0;let big:∀b o,C b=sr o->X.s₀.heap.objs.size<=b:=λb o e=>by
  let(y,z):=(J b o e).1;exact I.ok.cab y b M.own[y] z
 let en:Adp X.prog X.w X.K X.mg X.base X.A X.stack O upd[Lh a C f][a][fz[oF]]:=by
  rw[<-eH];refine(k.frames,k.mod,λb o z=>((k.bs b o z).1,?_),k.bsz,k.funs,λb z=>?_,k.hok.addd λb o e=>(?_,c1 b o e),k.bare)
  .cases y:C b with
   |none=>rw[Fp y];exact(k.bs b o z).2
   |some o'=>exact absurd[aQ aZ[z] aD[I.ok.bsz][big b o' y]][eF _]
  .cases y:C b with
   |none=>rw[Fp y];exact k.frf b z
   |some o'=>
    exfalso;let(nm,hc'):=(J b o' y).1;rcases aW.mp[I.stkSub b z] with w|w
    .exact I.cne nm b hc' w
    .let(_,o2,ho2,_):=I.ok.funs.mem w;exact absurd aQ[aZ ho2][big b o' y] eF[_]
  .rw[Aj (by rintro rfl;rw[G] at e;cases e)];exact L b o e
 refine jX[gQ[F.run X.A X.stack O _ _ _ [V.ref a] (QD a C Q) (ED a C E[σ]) hr en (D.bd O [.ref a] Z.inv.kIn (F.len _ _ _ _ sp)) (.cons rfl .nil) sp] λr s' B=>?_];cases r with
 |error e=>
  let(ea,cls,H',o,rfl,Fl,ox,d,hE):=B;rw[<-eH] at Fl;exact hx aa σ _ O _ s' ZI (ea,cls,_,o,rfl,Fl.drop λb o e=>(by rw[Aj (by rintro rfl;rw[G] at e;cases e)];exact L b o e,c1 b o e,d b o e),ox,hE)
 |ok fl=>
  cases fl with
  |ret u=>
   let(v,H',os,bare,un,hok,r,d,hQ):=B;rw[<-eH] at un;exact ZI.after (v,_,os,bare,un.drop λb o e=>(by rw[Aj (by rintro rfl;rw[G] at e;cases e)];exact L b o e,c1 b o e,d b o e,(show _/\_ from hok b _ (d b o e)).1),hok.drop d,r,hQ)
  |next=>exact B.elim
  |brk=>exact B.elim
  |cont=>exact B.elim⟩)
def Ahl{α:Type}:o9 α->M α
 |some a=>pure a
 |none=>bad
def ixW(x y:W):M W:=match x with
 |.str z=>match y with
  |.int i=>if z.length<=big then Ahl[(atI z.cps.toList i).map λc=>W.str ⟨#[c]⟩] else bad
  |_=>bad
 |.tup ws=>match y with
  |.int i=>Ahl (atI ws i)
  |_=>bad
 |.scr ns=>match y with
  |.int i=>Ahl ((atI ns i).map W.int)
  |_=>bad
 |.ref n=>λS=>match S[n]? with
  |some (.lst ws)=>match y with
   |.int i=>Ahl (atI ws i) S
   |_=>.bad
  |some (.dct kvs)=>match Abi y with
   |some k=>Ahl (Akp kvs k) S
   |none=>.bad
  |_=>.bad
 |_=>bad
def ixF(f g:De->M W):De->M W:=λY=>do let x<-f Y;let y<-g Y;ixW x y
section
def Bdb(hu:X.A.units+1 < cLine):IxR X (λx y H Q=>∃a v,x=.ref a/\Ae0 H a y sr[v]/\Q v H):=by
 intro value slice t s m H x y v u Q I j i h hs;let(a,w,rfl,g,q):=h;obtain rfl:v=bJ a:=j;exact zZ (by
   rcases g with ⟨d,k,e,_,_⟩|⟨d,k,b,e,_,_,_⟩
   .let(_,_,p,_,f):=Ah7 I.hok e;exact f.typeIs
   .let(_,_,n,_,f):=Amg I.hok e;exact f.typeIs) rM.lookup (At4 hu I g i λo r l c=>(w,H,l,c,q)) hs
end
section
def Vr{b c:Type}{a:lg aH->Hp->b->c->Prop}{Q:c->Hp->Prop}{o:o9 b}(h:Av f a e H (Ahl o S) Q E):∃w,o=sr w/\Av f a e H ((pure w:M b) S) Q E:=by
 cases o with
 |none=>trivial
 |some w=>exact(w,rfl,h)
def RVs.at{i:Int}(r:RVs c b H a vs)(h:atI a i=sr w):∃v,atI vs i=sr v/\RV c b H w v:=by
 unfold atI at h ⊢
 rw[<-r.length];cases e:ixN a.length i with
 |none=>simp_all
 |some j=>
  rw[e] at h;exact r.get h
def Bdc{b d:Type}(f:b->d)(a:lg b)(i:Int):atI a.map[f] i=(atI a i).map f:=by
 unfold atI;rw[aJ];cases ixN a.length i with
 |none=>rfl
 |some j=>exact bK
end
section
def Bqn(hK:X.K=p.K)(hu:X.A.units+64 < cLine)(G:WE X a (tF p E f))(F:WE X b (tF p E g))(hs:Ad1 b):WE X (.Subscript a b t) tF[p][E][ixF f g]:=(
 WE.weak (kix Bip.or[Bdb ()] G F hs) (Rh λJ S H x y P O Q E R C l h=>by exact hK ▸ (by
   cases C with
   |str z=>
    simp only[ixW] at h;split at h <;> try cases h
    cases l;let(B,h):=Hi h;let(w,e,h):=Vr h;let(c,d,rfl):=bI.mp e;exact .inl .inr[.inr (_,_,c,rfl,rfl,K1 B,d,h.now R .str[_])]
   |tup m j=>
    simp only[ixW] at h;split at h <;> try cases h
    cases l;let(w,e,h):=Vr h;let(v,d,i):=j.at e;exact .inl .inr[.inl (_,_,_,v,rfl,rfl,SqT.of m,d,h.now R i)]
   |scr hs=>
    simp only[ixW] at h;split at h <;> try cases h
    cases l;let(w,e,h):=Vr h;let(c,d,rfl):=bI.mp e;exact .inl (.inl (_,_,_,.int c,rfl,rfl,hs.sq,by rw[Bdc,d];rfl,h.now R .int[_]))
   |@ref n a q=>
    simp only[ixW] at h;split at h
    .rename_i L d;let(s,m,j):=R.at_ _ _ _ q d;split at h <;> try cases h
     cases l;let(w,e,h):=Vr h;let(v,d,i):=j.at e;exact .inl[.inl (_,_,_,v,rfl,rfl,.inl .inl[m],d,h.now R i)]
    .rename_i u d;let(s,m,j):=R.at_ _ _ _ q d;split at h
     .rename_i k I;rw[Ad3 l I];let(w,e,h):=Vr h;rcases Art j k with ⟨N,v,o,r,i⟩|⟨o,r⟩
      .rw[e] at o;cases o;exact .inr (a,v,rfl,r ▸ Ae0.k m,h.now R i)
      .rw[e] at o;cases o
     .cases h
    .cases h
   |_=>exact bZ h)))
end
section
open HT in
def Auy{lo hi:o9 Int}(b:wG s.heap t a)(hs:s.heap.IsSliceOf g k j .none)(pl:tU k lo)(pu:tU j hi)(i:sIx a.size 0 lo=0/\sIx a.size a.size hi=a.size)(h:Q .ref[t] s):wpAny (model prog w) A (getItem .ref[t] .ref[g]) Q E s:=by
 let(os,d,e,l):=id hs;let f:s.TypeIs .ref[g] "slice":=(os,d,e);unfold getItem
 try with_reducible refine eV ?_
 first|refine aA aG[?_]|skip
 refine aA[rR b.typeIs () ?_]
 refine aA (dD (name:=mY "__getitem__") b.typeIs eX
  (dY eX b.typeIs vC ?_ (vY _ _)))
 show wpAny _ _ (qY .ref[t] >>= _) _ _ s;refine aA[tupleItemsOf_ b ?_];refine aA[oV f ?_];rw[di ()]
 refine aA[Px hs pl pu ?_];show wpAny _ _ (if (((sIx a.size 0 lo:Nat):Int)==0&&(1:Int)==1&&(sIx a.size a.size hi - sIx a.size 0 lo)==a.size)=t8 then _ else _) _ _ s
 rw[di (by rw[i.1,i.2];simp)]
 unfold aAn;refine aA aA[oV b.typeIs aG[?_]];rw[di ()]
 first
  |exact aA oH[aG (_,rfl,aG h)]
  |exact aA aG[aG (_,rfl,aG h)]
  |exact aG (_,rfl,aG h)
def Bhk(K:aB):V->o9 Int->o9 Int->Hp->VK->Prop:=λx lo hi H Q=>∃a xs,x=.ref a/\SqT K H a xs/\HT.sIx xs.length 0 lo=0/\HT.sIx xs.length xs.length hi=xs.length/\Q .ref[a] H
def Bdd:SlR X Bhk[X.K]:=by
 rintro o s h H x v j i lo hi k Q I f hs pl pu ⟨a,e,rfl,g,n,m,q⟩;cases f;let(c,r,d,l):=I.tuple g;let b:c.toArray.size=e.length:=r.length.symm;refine("tuple",_,eX.lookup,d.typeIs,Auy d hs pl pu (by rw[b];trivial) (.ref a,H,I,rfl,q))
end
def R9(ws:lg W)(lo hi:o9 Int):lg W:=(ws.drop[HT.sIx ws.length 0 lo]).take (HT.sIx ws.length ws.length hi - HT.sIx ws.length 0 lo)
def slW(x:W)(lo hi:o9 Int):M W:=match x with
 |.str z=>if z.length<=big then pure .str[fH z lo hi] else bad
 |.tup ws=>pure .tup[R9 ws lo hi]
 |.scr ns=>Dg (R9 ns.map[W.int] lo hi)
 |.ref n=>λS=>match S[n]? with
  |some (.lst ws)=>Dg (R9 ws lo hi) S
  |_=>.bad
 |_=>bad
def Dh(f:De->M W):De->M o9[Int]:=λY=>do let x<-f Y;match x with
 |.int i=>pure sr[i]
 |_=>bad
def By:De->M o9[Int]:=λuw=>pure sy
def slF(f:De->M W)(l h:De->M o9[Int]):De->M W:=λY=>do let x<-f Y;let lo<-l Y;let hi<-h Y;slW x lo hi
def tFo(Θ:Th)(E:L2.St->XK)(f:De->M o9[Int]):TO:=λσ H Q=>TF Θ (λuw uw a b=>a=b) f σ H Q E[σ]
section
theorem RVs.drop(r:RVs b a H c d):∀n,RVs b a H c.drop[n] d.drop[n]
 |0=>r
 |n+1=>by
  cases r with
  |nil=>exact .nil
  |cons h r=>exact r.drop n
theorem RVs.take(r:RVs b a H c d):∀n,RVs b a H c.take[n] d.take[n]
 |0=>.nil
 |n+1=>by
  cases r with
  |nil=>exact .nil
  |cons h r=>exact .cons h r.take[n]
def RVs.cut(r:RVs b a H c d)(lo hi:o9 Int):RVs b a H (R9 c lo hi) (Aph d lo hi):=by
 unfold R9;exact r.length ▸ (r.drop _).take _
theorem Xq:∀ns:lg Int,RVs d c H ns.map[W.int] ns.map[V.int]
 |[]=>.nil
 |n::ns=>.cons .int[n] Xq[ns]
def Jj(R:Rep a b S H)(r:RVs a b H c d)(h:Av a RV[a] b H (Dg c S) Q E):d.length<=big/\∀p,H p=sy->Q[.ref p][upd H p .lst[d]]:=by
 simp[Dg] at h;by_cases e:c.length<=big
 .rw[di e] at h;refine(by rw[<-r.length];omega,λp hp=>h _ _ _ (bL ..) Bj[hp] (R.alloc hp (_,Aq,r.mono[bL ..][Bj hp])) .ref[?_])
  exact R.len ▸ La
 .rw[dm e] at h;trivial
def Abj(R:Rep b a S H)(r:RVs b a H c d)(h:Av b RV[b] a H ((pure .tup[c]:M W) S) Q E):∀p,H p=sy->Q[.ref p][upd H p .tup[d]]:=(λp hp=>
 h a _ _ aP[_] Bj[hp] R.beside[hp] .tup[Aq][r.mono aP[_] Bj[hp]])
def Bde{lo hi:o9 Int}(e:HT.sIx a.length 0 lo=0)(d:HT.sIx a.length a.length hi=a.length):Aph a lo hi=a:=by
 unfold Aph;simp_all
nonrec def Bqo{lo hi:o9 Int}(R:Rep c i S H)(o:RV c i H x f)(h:Av c RV[c] i H (slW x lo hi S) Q E):
  (Bm0 c.K f lo hi H Q\/Bhk c.K f lo hi H Q)\/(Bm4 c.K f lo hi H Q\/∃z,f=.str z/\z.length<=sizeLine/\Q .str[fH z lo hi] H):=by
 cases o with
 |str z=>
  let(m,h):=Hi h;exact .inr (.inr (z,rfl,K1 m,h.now R .str[_]))
 |@tup a l b d g=>
  let k:=g.cut lo hi;by_cases e:HT.sIx b.length 0 lo=0/\HT.sIx b.length b.length hi=b.length
  .refine .inl[.inr (a,b,rfl,SqT.of d,e.1,e.2,h.now R (.tup d ?_))];let j:=k;rw[Bde e.1 e.2] at j;exact j
  .exact .inl (.inl (a,b,rfl,SqT.of d,e,Abj R k h))
 |scr hs=>exact .inr (.inl (_,_,rfl,hs.sq,(Jj R ((Xq _).cut lo hi) h).2))
 |@ref n a p=>
  simp only[slW] at h;split at h
  .rename_i l q;let(b,d,g):=R.at_ _ _ _ p q;exact .inr (.inl (_,_,rfl,.inl .inl[d],(Jj R (g.cut lo hi) h).2))
  trivial
 |_=>ac_rfl
end
section
def WO.weak(h:WO X o t)(k:∀σ H Q,t' σ H Q->t σ H Q):WO X o t':=⟨λaa s σ H Q I q=>h.un aa s σ H Q I (k σ H Q q)⟩
def Ax1:WO X sy (tFo c E By):=(WO.weak ⟨by
  intro e s a H Q I h;rw[aBb];exact aG (sy,H,I,.none,h)⟩ λa H Q ⟨ρ,S,Y,R,sl,q⟩=>q.now R rfl)
def Bjq(i:WE X a (tF b E f)):WO X sr[a] (tFo b E Dh[f]):=(WO.weak Bcn[i] λk H Q ⟨ρ,S,Y,R,sl,q⟩=>by
 refine(ρ,S,Y,R,sl,(Av.seq (Rel:=RV b) q).mono ?_);rintro v o ⟨d,n,w,m,l,j,h,c⟩;cases h <;> first|exact bZ c|skip
 exact(_,rfl,Av.now c j rfl))
def Bdf{lo hi:o9 bO}{l u:De->M o9[Int]}{c:o8}(hK:X.K=b.K)(B:WE X a (tF b E f))(z:WO X lo (tFo b E l))(hu:WO X hi (tFo b E u)):WE X .Subscript[a][.Slice lo hi sy c][t] tF[b][E][slF f l u]:=(
 WE.weak[Bi5 ((Bio.or Bdd).or Bb8.or[Bi4]) B z hu] λN H Q ⟨ρ,S,Y,R,sl,q⟩=>by
  refine(ρ,S,Y,R,sl,(Av.seq q).mono ?_);rintro v U ⟨e,F,w,j,i,I,o,s⟩;refine(e,F,Y,I,sl.mono j i,(Av.seq s).mono ?_);rintro y T ⟨d,C,_,c,h,R2,rfl,r⟩;refine(d,C,Y,R2,(sl.mono j i).mono c h,(Av.seq r).mono ?_);rintro A P ⟨k,O,_,x,n,G,rfl,p⟩;exact hK ▸ Bqo G ((o.mono c h).mono x n) p)
end
def Ex:lg W->M W
 |[.str z]=>if z.length<=big then pure .int[z.length] else bad
 |[.tup ws]=>pure .int[ws.length]
 |[.scr ns]=>pure .int[ns.length]
 |[.ref n]=>λS=>match S[n]? with
  |some (.lst ws)=>.ok .int[ws.length] S
  |some (.dct kvs)=>.ok .int[kvs.length] S
  |_=>.bad
 |_=>bad
def Auz:lg W->M W
 |[.str x]=>if x.length=1 then pure[.int (x.cps.getD 0 0:Nat)] else bad
 |_=>bad
def Bqp:lg W->M W
 |[.int i,.int j]=>pure (.int (if j > i then j else i))
 |_=>bad
def asInt:W->o9 Int
 |.int i=>sr i
 |_=>sy
def Bjr:W->o9 Bool
 |.bl i=>sr i
 |_=>sy
def Amx:W->o9 t6
 |.str i=>sr i
 |_=>sy
def Au0:lg W->M W
 |[.ref n]=>λS=>match S[n]? with
  |some (.lst ws)=>match Dq asInt ws with
   |some is=>.ok .int[is.sum] S
   |none=>.bad
  |_=>.bad
 |_=>bad
def Afe:lg W->M W
 |[.ref n]=>λS=>match S[n]? with
  |some (.lst ws)=>match Dq Bjr ws with
   |some is=>.ok .bl[is.all[id]] S
   |none=>.bad
  |_=>.bad
 |_=>bad
def Sg:lg W->M W
 |[.tup ws]=>pure .tup[ws]
 |[.scr ns]=>pure .tup[ns.map[W.int]]
 |[.ref n]=>λS=>match S[n]? with
  |some (.lst ws)=>.ok .tup[ws] S
  |_=>.bad
 |_=>bad
def chars(z:t6):lg W:=z.cps.toList.map λc=>W.str ⟨#[c]⟩
def Xr:lg W->M W
 |[.tup ws]=>Dg ws
 |[.str z]=>if z.length<=big then Dg chars[z] else bad
 |[.scr ns]=>Dg ns.map[W.int]
 |[.ref n]=>λS=>match S[n]? with
  |some (.lst ws)=>Dg ws S
  |some (.dct kvs)=>Dg (kvs.map λp=>kW p.1) S
  |_=>.bad
 |_=>bad
section
def Xu{i:Type}{f:W->o9 i}{k:i->V}(hf:∀w v a,RV l j H w v->f w=sr a->v=k a){c:lg W}{g:lg V}{is:lg i}(h:RVs l j H c g):Dq f c=sr is->g=is.map k:=(
 RVs.ind (p:=λc g=>∀is,Dq f c=sr is->g=is.map k) (λo e=>by cases e;rfl) (λh _ t r e=>by
  let(d,q,n,m,rfl):=Qa e;rw[hf _ _ _ h n,t _ m];rfl) h is)
def Ax2(w:W)(v:V)(i:Int)(h:RV c b H w v)(e:asInt w=sr i):v=.int i:=by
 cases h <;> simp only[asInt,gM,reduceCtorEq] at e
 subst e;rfl
def Amy(w:W)(v:V)(i:t6)(h:RV c b H w v)(e:Amx w=sr i):v=.str i:=by
 cases h <;> simp only[Amx,gM,reduceCtorEq] at e
 subst e;rfl
def paired_len{c b:Type}{F:c->b->Prop}{l:lg c}{m:lg b}(r:mG F l m):l.length=m.length:=by
 induction r with
 |nil=>rfl
 |cons _ _ d=>simp_all
def rv1(r:RVs b a H [w] c):∃v,c=[v]/\RV b a H w v:=by
 cases r with|cons h r=>
 cases r;exact(_,rfl,h)
def Bqq(R:Rep a b S H)(r:RVs a b H c d)(h:Av a RV[a] b H (Auz c S) Q E):∃x,d=[.str x]/\x.length=1/\Q (.int (x.cps.getD 0 0:Nat)) H:=by
 unfold Auz at h;split at h
 .let(v,rfl,f):=rv1 r;cases f;let(e,h):=Hi h;exact(_,rfl,e,h.now R .int[_])
 .exact bZ h
nonrec def Bqr(R:Rep b c S H)(r:RVs b c H f g)(h:Av b RV[b] c H (Au0 f S) Q E):∃p,∃ns:lg Int,g=[.ref p]/\H p=sr .lst[ns.map[V.int]]/\Q .int[ns.sum] H:=by
 unfold Au0 at h;split at h
 .rename_i n;let(v,rfl,k):=rv1 r;let(a,rfl,j):=k.rI;split at h
  .rename_i s m;split at h
   .rename_i is l;let(q,d,i):=R.at_ _ _ _ j m;rw[Xu Ax2 i l] at d;exact(_,is,rfl,d,Jx h R .int[_])
   trivial
  trivial
 .ac_rfl
nonrec def Bqs(R:Rep b c S H)(r:RVs b c H j k)(h:Av b RV[b] c H (Afe j S) Q E):∃p,∃bs:lg Bool,k=[.ref p]/\H p=sr .lst[bs.map[V.bl]]/\Q .bl[bs.all[id]] H:=by
 unfold Afe at h;split at h
 .rename_i n;let(v,rfl,o):=rv1 r;let(a,rfl,m):=o.rI;split at h
  .rename_i u s;split at h
   .rename_i is q;let(t,d,l):=R.at_ _ _ _ m s;rw[Xu (by
      intro w v i h e;cases h <;> simp only[Bjr,gM,reduceCtorEq] at e
      subst e;rfl) l q] at d
    exact(_,is,rfl,d,Jx h R .bl[_])
   .ac_rfl
  .ac_rfl
 .ac_rfl
theorem Afg:∀a:lg t6,RVs Θ ρ H a.map[W.str] a.map[V.str]
 |[]=>.nil
 |s::a=>.cons .str[s] Afg[a]
def Ax3{c b:Type}{f:c->o9 b}{l:lg c}:∀{m:lg b},Dq f l=sr m->m.length=l.length:=by
 induction l with
 |nil=>intro m h;cases h;rfl
 |cons x l e=>
  intro m h;let(d,i,j,g,rfl):=Qa h;exact congrArg aAm e[g]
end
def Apw(d:X.calm=t8):Jv X .type["list"] (λb H Q=>∃z:t6,b=[.str z]/\z.length<=sizeLine/\∀l,H l=sy->Q[.ref l][upd H l .lst[z.cps.toList.map λc=>V.str ⟨#[c]⟩]]):=by
 rintro x s m H b n Q I r ⟨z,rfl,h,q⟩;let(u,rfl,f):=vals1 r;let(t,rfl):=f;refine call_list_str I.ok.hd[d] z t (hn:=h) λh' o a i kp e hi=>?_;let g:Vals (z.cps.toList.map λc=>V.str ⟨#[c]⟩) a.toList:=by
  refine Ae9[by rw[aJ,bC,bC,hi.1]] λj v p=>?_
  let(c,u,d,rfl):=hi.2 j v (by simp_all)
  exact(.str _,by simp_all,u,rfl)
 exact(.ref s.heap.objs.size,_,I.laid kp aN[_] (show Ek X.prog X.w _ h' _ .lst[_] from (by rwa [aJ,bC],a.toList,i,g,())),rfl,q _ I.hok.fresh[aN[_]])
def Bdg(x:t6):o9[lg W->M W]:=
 if x="len" then sr Ex else if x="ord" then sr Auz
 else if x="sum" then sr Au0 else if x="all" then sr Afe else sy
def Bdh(x:t6):o9[lg W->M W]:=if x="tuple" then sr Sg else if x="list" then sr Xr else sy
structure Ax4(Θ:Th)(X:Cx)(v:aF)(g:List W->M W) where
 r:List V->Hp->VK->Prop
 ok:Jv X v r
 by_:∀ρ S H ws vs Q E,Rep Θ ρ S H->RVs Θ ρ H ws vs->Av Θ (RV Θ) ρ H (g ws S) Q E->r vs H Q
nonrec def Bdi(hK:X.K=Θ.K)(hc:X.calm=t8)(h:Bdg x=sr g):∃id,bootBuiltins x=sr .builtin[id]/\Nonempty[Ax4 Θ X .builtin[id] g]:=by
 unfold Bdg at h;split at h
 .rename_i e;subst e;cases h;exact("len",by rfl',⟨(_,Aws.or At9,λL S H N O Q E R r h=>by rw[hK];exact(by
    unfold Ex at h;split at h
    .let(v,rfl,d):=rv1 r;cases d;let(Z,h):=Hi h;exact .inl (_,_,rfl,(K1 Z,rfl),h.now R .int[_])
    .let(v,rfl,d):=rv1 r;let(_,_,rfl,d,r1):=d.tI;refine .inl (_,_,rfl,.inr (_,SqT.of d,rfl),?_);rw[<-r1.length];exact h.now R .int[_]
    .let(v,rfl,d):=rv1 r;let(_,rfl,hs):=d.cI;refine .inl (_,_,rfl,.inl (_,hs.sq,rfl),?_);rw[aJ];exact h.now R .int[_]
    .let(v,rfl,d):=rv1 r;let(a,rfl,hn):=d.rI;split at h
     .rename_i P B;let(j,h2,U):=R.at_ _ _ _ hn B;refine .inl (_,_,rfl,.inl (_,.inl .inl[h2],rfl),?_);rw[<-U.length];exact Jx h R .int[_]
     .rename_i Y B;let(j,h2,U):=R.at_ _ _ _ hn B;refine .inr (_,_,rfl,h2,?_);let e:Y.length=j.length:=paired_len U;rw[<-e];exact Jx h R .int[_]
     .ac_rfl
    .ac_rfl))⟩)
 split at h
 .rename_i e;subst e;cases h;exact("ord",by rfl',⟨(_,by
    intro aa s σ H xs P Q I r h;let(x,rfl,Z,q):=h;let(u,rfl,t,rfl):=vals1 r;exact ord_of_one Z (.int _,H,I.tok _,(_,rfl),q),λL S H N O Q E R r h=>Bqq R r h)⟩)
 split at h
 .rename_i e;subst e;cases h;exact("sum",by rfl',⟨(_,by
    intro aa s σ H xs P Q I r h;let(p,ns,rfl,hp,q):=h;let(u,rfl,l):=vals1 r;cases l;let(_,c,n,C,e):=(show Ek X.prog X.w H s.heap p .lst[ns.map[V.int]] from I.hok p _ hp);let hi:uY c ns:=intsAre_of C;let(j,F):=hi.allInts.items;let hl:s.heap.IsList p intItems[j]:=F ▸ ((_,e,rfl,_,rfl):s.heap.IsList p c.toArray);refine sum_intListG I.ok.hd[hc] hl λh' T t' hk=>(.int ns.sum,H,I.kept (t':=T) hk,(t',?_),q);let B:ns=j.toList.map (·.1):=by
     rw[<-nums_intItems,<-F];exact(show numsOf c.toArray.toList=ns from hi.numsOf).symm
    rw[preSum_eq,jF (),B],λL S H N O Q E R r h=>Bqr R r h)⟩)
 split at h
 .rename_i e;subst e;cases h;exact("all",by rfl',⟨(_,by
    intro aa s σ H xs P Q I r h;let(p,bs,rfl,hp,q):=h;let(u,rfl,l):=vals1 r;cases l;let(_,c,n,C,e):=(show Ek X.prog X.w H s.heap p .lst[bs.map[V.bl]] from I.hok p _ hp);let hl:s.heap.IsList p c.toArray:=(_,e,rfl,_,rfl);let y:c.length=bs.length:=by rw[<-C.length,aJ]
    refine call_all_walk[oO hl ?_];let hne:p≠s.heap.objs.size:=bR aZ[e];let f:∀o b u,s.heap.get? b=sr u->(s.heap.push o).get? b=sr u:=λo b u z=>aC _ z;refine(s.heap.objs.size,[s.heap.objs.size,p],[s.heap.objs.size],c.toArray.size,_,_,λi=>bs.getD i t7,rfl,aDp (A:=X.A.in1) (show X.A.in1.handled=sy from I.ok.hd hc) _ p hne c.toArray,((_,aU _ rfl,rfl,rfl),?_),λi v s' Q' E' G J=>?_,λh' T k=>?_)
    .exact(_,f _ _ _ e,rfl,_,rfl)
    .let G:c[i]?=sr v:=by simpa using G
     cases eb:bs[i]? with
     |none=>
      have:=iR.mp eb;have:=(aK.mp G).1;omega
     |some b=>
      let(u,hu,l):=C.get (i:=i) (x:=.bl b) (by rw[bK,eb];rfl)
      rw[G] at hu;cases hu;cases l;let z:bs.getD i t7=b:=by rw[cA,eb];rfl
      let J:Q' (bs.getD i t7) s':=J;rw[z] at J;exact gK J
    .refine(.bl _,H,I.kept (t':=T) λb u z=>k b u (λm=>?_) (f _ _ _ z),rfl,?_)
     .have:b=s.heap.objs.size:=by simpa using m
      subst this;exact absurd aZ[z] eF[_]
     .let z:(fO c.toArray.size).all (λi=>bs.getD i t7)=bs.all id:=by
       rw[cZ,y];rw[Bool.eq_iff_iff,bB,bB];constructor
       .intro h x F;let(i,hi,rfl):=kO F;have:=h i iW.mpr[hi];rw[cA,aV hi] at this;exact this
       .intro h i hi;let hi:=iW.mp hi;rw[cA,aV hi];exact h _ lH[hi]
      rw[z];exact q,λL S H N O Q E R r h=>Bqs R r h)⟩)
 .cases h
nonrec def Bdj(hK:X.K=Θ.K)(n:X.calm=t8)(h:Bdh x=sr g):∃T,bootBuiltins x=sr .type[T]/\Nonempty[Ax4 Θ X .type[T] g]:=by
 unfold Bdh at h;split at h
 .rename_i e;subst e;cases h;exact("tuple",by rfl',⟨(_,Ahg,λρ S H o p Q E R r h=>by rw[hK];exact(by
    unfold Sg at h;split at h
    .let(v,rfl,b):=rv1 r;let(_,_,rfl,b,k):=b.tI;exact(_,_,rfl,.inr (SqT.of b,h.now R (.tup b k)))
    .let(v,rfl,b):=rv1 r;let(_,rfl,hs):=b.cI;exact(_,_,rfl,.inl (hs.sq,Abj R Xq[_] h))
    .let(v,rfl,b):=rv1 r;let(a,rfl,j):=b.rI;split at h
     .rename_i m i;let(l,f,d):=R.at_ _ _ _ j i;exact(_,_,rfl,.inl (.inl .inl[f],Abj R d h))
     .ac_rfl
    .ac_rfl))⟩)
 split at h
 .rename_i e;subst e;cases h;exact("list",by rfl',⟨(_,(Aj5.or Apw[n]).or Apt[n],λρ S H o p Q E R r h=>by rw[hK];exact(by
    unfold Xr at h;split at h
    .let(v,rfl,b):=rv1 r;let(_,_,rfl,b,k):=b.tI;exact .inl[.inl (_,_,rfl,.inr SqT.of[b],(Jj R k h).2)]
    .rename_i z;let(v,rfl,b):=rv1 r;cases b;let(q,h):=Hi h;exact .inl (.inr (z,rfl,K1 q,(Jj R (by
      let h:=Afg (Θ:=Θ) (ρ:=ρ) (H:=H) (z.cps.toList.map λc=>(⟨#[c]⟩:t6));rw[dO,dO] at h;exact h) h).2))
    .let(v,rfl,b):=rv1 r;let(_,rfl,hs):=b.cI;exact .inl[.inl (_,_,rfl,.inl hs.sq,(Jj R Xq[_] h).2)]
    .let(v,rfl,b):=rv1 r;let(a,rfl,j):=b.rI;split at h
     .rename_i m i;let(l,f,d):=R.at_ _ _ _ j i;exact .inl[.inl (_,_,rfl,.inl .inl[.inl[f]],(Jj R d h).2)]
     .rename_i m i;let(l,f,d):=R.at_ _ _ _ j i;exact .inr (_,_,rfl,f,(Jj R Axu[d] h).2)
     .ac_rfl
    .ac_rfl))⟩)
 .cases h
section
def Bqt(hK:X.K=i.K)(z:X.calm=t8)(s:Bdg x=sr fn)(v:X.mg x=sy)(A:WA X (e::a) (tFs i E B))(w:Gl X x)(u:decide[x=("__name__":t6)]=t7)(g:(x==("__debug__":t6))=t7)(y:starEach (e::a) X.env=(u6 t7 (eval e X.env))::starEach a X.env)(f:(backTo d (starEach a X.env)).any (·.1)=t7):WE X (.Call (.Name x p) (e::a) [] d) tF[i][E][Ds fn B]:=by
 obtain⟨id,t,⟨o⟩⟩:=Bdi hK z s;refine WE.weak[kbi o.ok v t A w u g y f] λI H Q ⟨ρ,S,Y,R,sl,q⟩=>?_;refine(ρ,S,Y,R,sl,(Av.seq q).mono ?_);rintro m G ⟨b,C,l,L,J,F,c,r⟩;exact o.by_ b C G l m Q _ F c r
def Bqu(hK:X.K=i.K)(z:X.calm=t8)(s:Bdh x=sr fn)(v:X.mg x=sy)(A:WA X (e::a) (tFs i E B))(w:Gl X x)(u:decide[x=("__name__":t6)]=t7)(g:(x==("__debug__":t6))=t7)(y:starEach (e::a) X.env=(u6 t7 (eval e X.env))::starEach a X.env)(f:(backTo d (starEach a X.env)).any (·.1)=t7):WE X (.Call (.Name x p) (e::a) [] d) tF[i][E][Ds fn B]:=by
 obtain⟨T,t,⟨o⟩⟩:=Bdj hK z s;refine WE.weak ⟨Aa9 o.ok w v t A.un of_decide_eq_false[u] g y f⟩ λI H Q ⟨ρ,S,Y,R,sl,q⟩=>?_;refine(ρ,S,Y,R,sl,(Av.seq q).mono ?_);rintro m G ⟨b,C,l,L,J,F,c,r⟩;exact o.by_ b C G l m Q _ F c r
end
def Abk:lg W->M W
 |[.bl b]=>pure (.int (if b then 1 else 0))
 |_=>bad
def Au1:Jv X .type["int"] (λa H Q=>∃b,a=[V.bl b]/\Q (.int (if b then 1 else 0)) H):=by
 intro e s c H a d Q I r h;let(b,rfl,q):=h;cases r with
 |cons r t=>
 cases t;cases (r);exact PySem.call_int_bool (.int _,H,I.tok _,(_,rfl),q)
def Boa(m:X.mg "int"=sy)(s:WA X (e::a) (tFs k E u))(n:X.env.kindOf "int"=sr .globalImplicit)(o:starEach (e::a) X.env=(u6 t7 (eval e X.env))::starEach a X.env)(g:(backTo f (starEach a X.env)).any (·.1)=t7):WE X (.Call (.Name "int" p) (e::a) [] f) tF[k][E][Ds Abk u]:=by
 refine WE.weak ⟨Aa9 Au1 n m (by rfl) s.un () () o g⟩ λw H Q ⟨ρ,S,Y,R,sl,q⟩=>?_
 refine(ρ,S,Y,R,sl,(Av.seq q).mono ?_);rintro y C ⟨i,B,x,A,z,v,c,d⟩;unfold Abk at d;split at d
 .cases c with
  |cons r t=>
  cases t;cases r;exact(b,rfl,d.now v .int[_])
 trivial
inductive RS where
 |nx (Y:De) (S:Store)
 |rt (w:W) (S:Store)
 |bk (Y:De) (S:Store)
 |ct (Y:De) (S:Store)
 |ex (c:Nat×W) (Y:De) (S:Store)
 |bad
abbrev MS:=De->Store->RS
def Gb{α:Type}(m:M α)(k:α->MS):MS:=λY S=>match m S with
 |.ok a S1=>k a Y S1
 |.exc c S1=>.ex c Y S1
 |.bad=>.bad
def An:MS:=.nx
def Ai(a b:MS):MS:=λY S=>match a Y S with
 |.nx Y1 S1=>b Y1 S1
 |r=>r
def Bx(i:Nat)(f:De->M W):MS:=λY=>Gb f[Y] (λw Y S=>.nx (Y.set i sr[w]) S) Y
def retS(f:De->M W):MS:=λY=>Gb f[Y] (λw uw S=>.rt w S) Y
def G9(f:De->M W):MS:=λY=>Gb f[Y] (λuw Y S=>.nx Y S) Y
def ifS(c:De->M Bool)(a b:MS):MS:=λY=>Gb c[Y] (λt=>if t then a else b) Y
section
variable(Θ:Th)
def RSs(ρ:lg aH)(H:Hp)(Y:De)(σ:L2.St):Prop:=Y.length=σ.length/\RSl Θ ρ H Y σ
def Ea(ρ:lg aH)(H:Hp)(r:RS)(D:Ends)(E:L2.St->XK):Prop:=match r with
 |.nx Y S=>∀ρ' H' σ',ρ <+: ρ'->Cd ρ ρ' H H'->Rep Θ ρ' S H'->RSs Θ ρ' H' Y σ'->D.nx σ' H'
 |.bk Y S=>∀ρ' H' σ',ρ <+: ρ'->Cd ρ ρ' H H'->Rep Θ ρ' S H'->RSs Θ ρ' H' Y σ'->D.bk σ' H'
 |.ct Y S=>∀ρ' H' σ',ρ <+: ρ'->Cd ρ ρ' H H'->Rep Θ ρ' S H'->RSs Θ ρ' H' Y σ'->D.ct σ' H'
 |.rt w S=>∀ρ' H' v,ρ <+: ρ'->Cd ρ ρ' H H'->Rep Θ ρ' S H'->RV Θ ρ' H' w v->D.rt v H'
 |.ex c Y S=>∀ρ' H' σ',ρ <+: ρ'->Cd ρ ρ' H H'->Rep Θ ρ' S H'->RSs Θ ρ' H' Y σ'->XP Θ ρ' H' c E[σ']
 |.bad=>False
inductive TSx(E:L2.St->XK)(f:MS)(D:Ends)(σ:L2.St)(H:Hp):Prop
 |mk (ρ:List aH) (S:Store) (Y:De) (R:Rep Θ ρ S H) (sl:RSs Θ ρ H Y σ) (q:Ea Θ ρ H (f Y S) D E):TSx E f D σ H
inductive LfS{α β:Type}(Rel:List aH->Hp->α->β->Prop)(ρ:List aH)(H:Hp)(k:α->MS)(Y:De)(σ:L2.St)(D:Ends)(E:L2.St->XK)(v:β)(H1:Hp):Prop
 |mk (ρ1:List aH) (S1:Store) (w:α) (p:ρ <+: ρ1) (t:Cd ρ ρ1 H H1) (R:Rep Θ ρ1 S1 H1) (sl:RSs Θ ρ1 H1 Y σ) (r:Rel ρ1 H1 w v) (q:Ea Θ ρ1 H1 (k w Y S1) D E):LfS Rel ρ H k Y σ D E v H1
def tS(E:L2.St->XK)(f:MS):TS:=λD σ H=>TSx Θ E f D σ H
end
section
variable{Θ:Th}{X:Cx}{st:cO}{sts:lg cO}{e c:bO}{pos pos':o8}{E:L2.St->XK}{f:De->M W}{cf:De->M Bool}{a b:MS}{x:t6}
def RSs.mono(p:ρ <+: ρ')(t:Cd ρ ρ' H H')(h:RSs Θ ρ H Y σ):RSs Θ ρ' H' Y σ:=(h.1,h.2.mono p t)
def RSs.set{i:Nat}(h:RSs Θ g H Y l)(r:RV Θ g H w v):RSs Θ g H (Y.set i sr[w]) (l.set i sr[v]):=by
 refine(by rw[fB,fB];exact h.1,λj u e=>?_)
 by_cases d:j=i
 .subst d;let k:=by
   let z:=(aK.mp e).1
   rwa [fB] at z
  rw[dH k] at e;cases e;exact(v,dH[h.1 ▸ k],r)
 .rw[cW bN[d]] at e;let(z,o,m):=h.2 j u e;exact(z,by rwa [cW bN[d]],m)
def Ea.shift(h:Ea Θ i H r D E)(p:i <+: d)(t:Cd i d H H1):Ea Θ d H1 r D E:=by
 cases r with
 |bad=>exact h
 |_=>exact λg n v m j k l=>h g n v p.trans[m] t.trans[j] k l
def Ea.nxt(h:Ea Θ ρ H (.nx Y S) D E)(R:Rep Θ ρ S H)(sl:RSs Θ ρ H Y σ):D.nx σ H:=h ρ H σ aP[ρ] (Cd.refl ρ H) R sl
def Ea.ret(h:Ea Θ ρ H (.rt w S) D E)(R:Rep Θ ρ S H)(rv:RV Θ ρ H w v):D.rt v H:=h ρ H v aP[ρ] (Cd.refl ρ H) R rv
def Ea.lift{j u:Type}{Rel:lg aH->Hp->j->u->Prop}{m:M j}{k:j->MS}(n:RSs Θ i H Y g)(h:Ea Θ i H (Gb m k Y S) D E):
  Av Θ Rel i H m[S] (LfS Θ Rel i H k Y g D E) E[g]:=by
 unfold Gb at h;cases e:m S with
 |bad=>rw[e] at h;exact h
 |exc c o=>rw[e] at h;exact λd s p t r=>h d s g p t r (n.mono p t)
 |ok w o=>
  rw[e] at h;exact λd s v p t r l=>(d,o,w,p,t,r,n.mono p t,l,Ea.shift h p t)
def WS.weak(h:WS X st t)(k:∀D σ H,t' D σ H->t D σ H):WS X st t':=⟨λaa s σ H D I q=>h.un aa s σ H D I (k D σ H q)⟩
def WSs.weak(h:WSs X sts t)(k:∀D σ H,t' D σ H->t D σ H):WSs X sts t':=⟨λaa s σ H D I q=>h.un aa s σ H D I (k D σ H q)⟩
def Bjs:WSs X [] (tS Θ E An):=WSs.weak ⟨λuw uw σ H uw I h=>lX (σ,H,I,h)⟩ λD σ H ⟨ρ,S,Y,R,sl,q⟩=>q.nxt R sl
def Bdk(n:WS X st (tS Θ E a))(m:WSs X sts (tS Θ E b)):WSs X (st::sts) tS[Θ][E][Ai a b]:=(WSs.weak[⟨Amd n.un m.un⟩] λD s H ⟨ρ,S,Y,R,sl,q⟩=>by
 refine(ρ,S,Y,R,sl,?_);unfold Ai at q;cases e:a Y S with
 |nx o p=>
  rw[e] at q;exact λd t h l j r g=>(d,p,o,r,g,Ea.shift q l j)
 |_=>rw[e] at q;exact q)
def Ax5{i:Nat}(n:WE X e (tF Θ E f))(nd:decide X.N.Nodup=t8)(hi:X.N[i]?=sr x)(m:Apo X.env.scope x=t8)(hs:swapsWith e sr[.Name x pos'] pos.line X.env=pure t7)(hf:X.fn x=t8):
  WS X (.Assign [.Name x pos'] e pos) tS[Θ][E][Bx i f]:=(WS.weak[Bqc n nd hi m hs hf] λD r H ⟨ρ,S,Y,R,sl,q⟩=>by
 refine(ρ,S,Y,R,sl.2,(Ea.lift sl q).mono ?_);rintro v y ⟨h,u,w,t,s,o,d,k,l⟩;exact l.nxt o d.set[k])
def Bjt(l:WE X e (tF Θ E f)):WS[X][.Return sr[e] pos][tS Θ E retS[f]]:=(WS.weak[⟨Bib l.un⟩] λD n H ⟨ρ,S,Y,R,sl,q⟩=>by
 refine(ρ,S,Y,R,sl.2,(Ea.lift (Rel:=RV Θ) sl q).mono ?_);rintro v s ⟨g,r,w,p,o,m,i,j,k⟩;exact k.ret m j)
def Bdl(k:WE X e (tF Θ E f))(hs:swapsWith e sy pos.line X.env=pure t7):WS[X][.Expr e pos][tS Θ E G9[f]]:=(WS.weak[⟨Arb k.un hs⟩] λD m H ⟨ρ,S,Y,R,sl,q⟩=>by
 refine(ρ,S,Y,R,sl.2,(Ea.lift (Rel:=RV Θ) sl q).mono ?_);rintro v s ⟨h,r,w,p,n,l,d,o,j⟩;exact j.nxt l d)
def Bob(m:WT X c (tFb Θ E cf))(o:WSs X A (tS Θ E a))(n:WSs X B (tS Θ E b)):WS X (.If c A B pos) tS[Θ][E][ifS cf a b]:=(WS.weak[sif m o n] λD r H ⟨ρ,S,Y,R,sl,q⟩=>by
 refine(ρ,S,Y,R,sl.2,(Ea.lift sl q).mono ?_);rintro v u ⟨d,j,w,t,s,k,g,rfl,i⟩;cases w with
 |true=>exact L2.Ami (d,j,Y,k,g,i)
 |false=>exact L2.Api (d,j,Y,k,g,i))
end
abbrev Tg:=W->De->o9 De
def El(i:Nat):Tg:=λw Y=>sr[Y.set i sr[w]]
def Ads(is:lg Nat):Tg:=λw Y=>match w with
 |.tup ws=>if ws.length=is.length then sr[(is.zip ws).foldl (λY p=>Y.set p.1 sr[p.2]) Y] else sy
 |_=>sy
def GOk(Θ:Th)(s:Tg)(g:TG):Prop:=∀ρ S H w v Y Y' σ Q,Rep Θ ρ S H->RSs Θ ρ H Y σ->RV Θ ρ H w v->s w Y=sr Y'->(∀σ',RSs Θ ρ H Y' σ'->Q σ' H)->g v σ H Q
def Amz(i:Nat):GOk g El[i] Xg[i]:=(λf S H w v Y h d Q R a b e k=>by
 cases e;exact k _ a.set[b])
def Afh:lg Nat->TGs
 |[]=>Bpv
 |i::is=>Bg8 Xg[i] Afh[is]
theorem Aij:∀(is:lg Nat) {c:lg W} {l:lg V} {Y:De} {f:L2.St} {Q:L2.St->Hp->Prop},RVs j g H c l->RSs j g H Y f->c.length=is.length->
  (∀b,RSs j g H ((is.zip c).foldl (λY p=>Y.set p.1 sr[p.2]) Y) b->Q b H)->Afh is l f H Q
 |[],_,_,_,_,_,.nil,d,_,k=>(rfl,k _ d)
 |[],_,_,_,_,_,.cons ..,_,e,_=>by trivial
 |i::is,_,_,_,_,_,.nil,_,e,_=>by trivial
 |i::is,_,_,_,_,_,.cons h r,d,e,k=>(_,_,rfl,Aij is r d.set[h] (by simpa using e) k)
nonrec def Ary{g:Th}{K:aB}(is:lg Nat){n:Nat}(j:n=is.length):GOk g Ads[is] (Bmp K n Afh[is]):=(λo S H w v Y r m Q R h i e k=>by
 cases i <;> try trivial
 rename_i a p q l c;simp only[Ads] at e;split at e
 .rename_i d;cases e;exact(_,_,rfl,SqT.of l,by rw[<-c.length,d,j],Aij is c h d k)
 trivial)
def Sh(s:Tg)(b:MS):lg W->MS
 |[]=>.nx
 |w::ws=>λY S=>match s w Y with
  |none=>.bad
  |some Y1=>match b Y1 S with
   |.nx Y2 S2=>Sh s b ws Y2 S2
   |.ct Y2 S2=>Sh s b ws Y2 S2
   |.bk Y2 S2=>.nx Y2 S2
   |r=>r
def liG(n:Nat):Store->Nat->o9 o9[W]:=λS i=>match S[n]? with
 |some (.lst ws)=>sr ws[i]?
 |_=>sy
def elG(n:Nat):Store->Nat->o9 o9[W]:=λS i=>(liG n S i).map λo=>o.map λw=>W.tup [.int (i:Int),w]
def zlG(n m:Nat):Store->Nat->o9 o9[W]:=λS i=>match S[n]? with
 |some (.lst ws)=>match S[m]? with
  |some (.lst us)=>match ws[i]? with
   |some w=>match us[i]? with
    |some u=>sr sr[.tup[[w,u]]]
    |none=>sr sy
   |none=>sr sy
  |_=>sy
 |_=>sy
def Akr(s:Tg)(b:MS)(gt:Store->Nat->o9 o9[W]):Nat->Nat->MS
 |0,_=>λuw uw=>.bad
 |m+1,i=>λY S=>match gt S i with
  |none=>.bad
  |some sy=>.nx Y S
  |some (sr w)=>match s w Y with
   |none=>.bad
   |some Y1=>match b Y1 S with
    |.nx Y2 S2=>Akr s b gt m (i+1) Y2 S2
    |.ct Y2 S2=>Akr s b gt m (i+1) Y2 S2
    |.bk Y2 S2=>.nx Y2 S2
    |r=>r
structure JOk(Θ:Th)(J:It)(all:List W)(ρ0:List aH)(H0:Hp):Prop where
 go:∀ρ H i,ρ0 <+: ρ->Cd ρ0 ρ H0 H->i < all.length->J.go i H/\∀x H',J.yld i H x H'->Cd ρ ρ H H'/\(∀S,Rep Θ ρ S H->Rep Θ ρ S H')/\∃w,all[i]?=sr w/\RV Θ ρ H' w x
 stop:∀ρ H i,Cd ρ0 ρ H0 H->i=all.length->J.stop i H
section
def Bdm(gk:GOk j s g)(jk:JOk j J all n H)(R:Rep j n S H)(sl:RSs j n H Y t)(q:Ea j n H (Sh s b all Y S) D E):
  ∃W:Nat->Nat->L2.St->Hp->Prop,(∃m,W 0 m t H)/\∀i m t H,W i m t H->(J.stop i H/\D.nx t H)\/(J.go i H/\∃N:L2.St->Hp->Prop,(∀F p,N F p->∃m',m' < m/\W (i+1) m' F p)/\∀x p,J.yld i H x p->g x t p λf z=>tS j E b { D with nx:=N,ct:=N,bk:=D.nx } f z):=by
 refine(λi m t A=>∃a C G,i<=all.length/\n <+: a/\Cd n a H A/\Rep j a C A/\RSs j a A G t/\m=(all.drop i).length/\Ea j a A (Sh s b all.drop[i] G C) D E,(_,n,S,Y,cP _,aP _,Cd.refl ..,R,sl,rfl,q),?_);rintro i m T A ⟨a,C,G,li,U,B,L,l,rfl,c⟩;by_cases hi:i < all.length
 .let(go,yl):=jk.go a A i U B hi;refine .inr (go,λf z=>∃d Q o,n <+: d/\Cd n d H z/\Rep j d Q z/\RSs j d z o f/\Ea j d z (Sh s b all.drop[i+1] o Q) D E,?_,λx p hy=>?_)
  .rintro f z ⟨d,Q,o,p2,t2,R2,v,q2⟩;exact((all.drop[i+1]).length,by rw[gD,gD];omega,d,Q,o,hi,p2,t2,R2,v,rfl,q2)
  .let(ty,Ry,w,ew,rv):=yl x p hy;let L:=Ry _ L;let l:=l.mono aP[_] ty;let B:=B.trans ty;let c:=Ea.shift c aP[_] ty;let ed:all.drop i=w::all.drop[i+1]:=by
    let(hl,e):=aK.mp ew;exact e ▸ gH hl
   rw[ed] at c;unfold Sh at c;cases X:s w G with
   |none=>simp only[X] at c;exact c.elim
   |some o=>
    simp only[X] at c;refine gk a C p w x G o T _ L l rv X λf v=>(a,C,o,L,v,?_);cases e:b o C with
    |nx O P=>
     rw[e] at c;exact λh H3 r y u I k=>(h,P,O,U.trans y,B.trans u,I,k,Ea.shift c y u)
    |ct O P=>
     rw[e] at c;exact λh H3 r y u I k=>(h,P,O,U.trans y,B.trans u,I,k,Ea.shift c y u)
    |bk O P=>
     rw[e] at c;exact λh H3 r y u I k=>c h H3 r y u I k
    |_=>rw[e] at c;exact c
 .rw[iH ()] at c
  exact .inl (jk.stop a A i B (),c.nxt L l)
structure JLv(Θ:Th)(J:It)(gt:Store->Nat->Option (Option W))(ρ0:List aH):Prop where
 stop:∀ρ S H i,ρ0 <+: ρ->Rep Θ ρ S H->gt S i=sr sy->J.stop i H
 go:∀ρ S H i w,ρ0 <+: ρ->Rep Θ ρ S H->gt S i=sr (sr w)->J.go i H/\∀x H',J.yld i H x H'->Cd ρ ρ H H'/\(∀S,Rep Θ ρ S H->Rep Θ ρ S H')/\RV Θ ρ H' w x
def Bju{a b:lg aH}{k:Nat}{c:aH}(p:a <+: b)(h:a[k]?=sr c):b[k]?=sr c:=by
 let(r,rfl):=p
 rwa [bD (aK.mp h).1]
nonrec def Arz{n:Nat}(p:f <+: g)(k:f[n]?=sr a)(R:Rep h g S H)(e:liG n S i=sr o):∃c d,H a=sr .lst[d]/\RVs h g H c d/\c[i]?=o:=by
 unfold liG at e;split at e
 .rename_i c m;let(r,b,d,l,j):=R.get m;rw[Bju p k] at b;cases b;exact(c,d,l,j,bY e)
 .cases e
theorem Ax6{n:Nat}(g:d[n]?=sr a):JLv k (Itl k.K a) liG[n] d:=(λj S H i p R e=>by
  let(l,b,c,f,z):=Arz p g R e;exact(b,.inl .inl[c],f.length ▸ iR.mp z),λj S H i w p R e=>by
  let(l,b,c,f,z):=Arz p g R e;let(v,ev,m):=f.get z;refine((b,v,.inl .inl[c],ev),?_);rintro x t ⟨rfl,o⟩;let h:=o b .inl[.inl[c]];rw[ev] at h;cases h;exact(Cd.refl ..,λs r=>r,m))
theorem Bjv{n:Nat}(k:f[n]?=sr a):JLv m (Bne m.K a) elG[n] f:=(λl S H i p R e=>by
  let(o,j,b):=bI.mp e;let(q,c,d,g,z):=Arz p k R j;rw[Option.map_eq_none_iff.mp b] at z;exact(c,.inl .inl[d],g.length ▸ iR.mp z),λl S H i w p R e=>by
  let(o,j,b):=bI.mp e;let(q,c,d,g,z):=Arz p k R j;let(u,rfl,rfl):=bI.mp b;let(v,ev,s):=g.get z;refine((c,v,.inl .inl[d],ev),?_);rintro x B ⟨y,T,t,h,rfl,rfl⟩;let b:=t c .inl[.inl[d]];rw[ev] at b;cases b;exact(Bj h,λS r=>r.beside h,.tup Aq (.cons .int[_] .cons[s.mono aP[_] Bj[h]][.nil])))
nonrec def Ax7{n m:Nat}(hn:d[n]?=sr a)(hm:d[m]?=sr b):JLv J (Itz J.K t7 a b) (zlG n m) d:=by
 let up:∀{f:lg aH} {k:Nat} {c:aH},d <+: f->d[k]?=sr c->f[k]?=sr c:=λ{f k c} p h=>by
  let(r,rfl):=p;rw[bD (aK.mp h).1];exact h
 let open_:∀{f:lg aH} {S:Store} {H:Hp} {i:Nat} {o:o9 W},d <+: f->Rep J f S H->zlG n m S i=sr o->∃j q l g,S[n]?=sr .lst[j]/\S[m]?=sr .lst[q]/\H a=sr .lst[l]/\H b=sr .lst[g]/\RVs J f H j l/\RVs J f H q g/\
   (match j[i]? with|some w=>(match q[i]? with|some u=>sr sr[W.tup[[w,u]]]|none=>sr sy)|none=>sr sy)=sr o:=λ{f S H i o} p R e=>by
  unfold zlG at e;cases N:S[n]? with
  |none=>rw[N] at e;cases e
  |some c1=>
   rw[N] at e;cases c1 <;> first|(cases e;done)|skip
   rename_i j;dsimp only at e;cases L:S[m]? with
   |none=>rw[L] at e;cases e
   |some c2=>
    rw[L] at e;cases c2 <;> first|(cases e;done)|skip
    rename_i q;let(a',F,l,A,C):=R.get N;let(b',E,g,z,B):=R.get L;rw[up p hn] at F;cases F;rw[up p hm] at E;cases E;exact(j,q,l,g,rfl,rfl,A,z,C,B,e)
 refine(λf S H i p R e=>?_,λf S H i w p R e=>?_)
 .let(j,q,l,g,_,_,A,z,C,B,e):=open_ p R e;refine(l,g,.inl .inl[A],.inl .inl[z],?_);rw[<-C.length,<-B.length];cases s:j[i]? with
  |none=>exact .inl iR.mp[s]
  |some x=>
   cases t:q[i]? with
   |none=>exact .inr iR.mp[t]
   |some y=>rw[s,t] at e;cases e
 .let(j,q,l,g,_,_,A,z,C,B,e):=open_ p R e;cases s:j[i]? with
  |none=>rw[s] at e;cases e
  |some x=>
   cases t:q[i]? with
   |none=>rw[s,t] at e;cases e
   |some y=>
    rw[s,t] at e;cases e;let(X,T,Z):=C.get s;let(U,Q,Y):=B.get t;refine((l,g,X,U,.inl .inl[A],.inl .inl[z],T,Q),?_);rintro v H' ⟨pp,x',y',f1,f2,hp,rfl,rfl⟩;let P:=f1 l .inl[.inl[A]];let O:=f2 g .inl[.inl[z]];rw[T] at P;cases P;rw[Q] at O;cases O;exact(Bj hp,λS r=>r.beside hp,.tup Aq .cons[Z.mono aP[_] Bj[hp]][.cons[Y.mono aP[_] Bj[hp]][.nil]])
def Bdn{gt:Store->Nat->o9 o9[W]}{f:Nat}{A:lg aH}{S:Store}{H:Hp}{Y:De}{n:L2.St}(gk:GOk p s g)(jk:JLv p J gt A)(R:Rep p A S H)(sl:RSs p A H Y n)(q:Ea p A H (Akr s b gt f 0 Y S) D E):
  ∃W:Nat->Nat->L2.St->Hp->Prop,(∃m,W 0 m n H)/\∀i m n H,W i m n H->(J.stop i H/\D.nx n H)\/(J.go i H/\∃N:L2.St->Hp->Prop,(∀C r,N C r->∃m',m' < m/\W (i+1) m' C r)/\∀x r,J.yld i H x r->g x n r λu H2=>tS p E b { D with nx:=N,ct:=N,bk:=D.nx } u H2):=by
 refine(λi m n B=>∃c l I,A <+: c/\Rep p c l B/\RSs p c B I n/\Ea p c B (Akr s b gt m i I l) D E,(f,A,S,Y,aP _,R,sl,q),?_);rintro i m T B ⟨c,l,I,O,y,k,a⟩;cases m with
 |zero=>exact a.elim
 |succ m=>
  unfold Akr at a;cases G:gt l i with
  |none=>simp only[G] at a;exact a.elim
  |some o=>
   cases o with
   |none=>simp only[G] at a;exact .inl (jk.stop c l B i O y G,a.nxt y k)
   |some w=>
    simp only[G] at a;let(go,yl):=jk.go c l B i w O y G;refine .inr (go,_,λu H2 h=>(m,gV m,h),λx r hy=>?_);let(ty,Ry,rv):=yl x r hy;let y:=Ry _ y;let k:=k.mono aP[_] ty;let a:=Ea.shift a aP[_] ty;cases X:s w I with
    |none=>simp only[X] at a;exact a.elim
    |some Z=>
     simp only[X] at a;refine gk c l r w x I Z T _ y k rv X λu U=>(c,l,Z,y,U,?_);cases e:b Z l with
     |nx P Q=>
      rw[e] at a;exact λd H3 t v F L j=>(d,Q,P,O.trans v,L,j,Ea.shift a v F)
     |ct P Q=>
      rw[e] at a;exact λd H3 t v F L j=>(d,Q,P,O.trans v,L,j,Ea.shift a v F)
     |bk P Q=>
      rw[e] at a;exact λd H3 t v F L j=>a d H3 t v F L j
     |_=>rw[e] at a;exact a
end
inductive Src where
 |fix (ws:List W)
 |liv (n:Nat)
 |zl (n m:Nat)
 |el (n:Nat)
def Ax8(x:W):M Src:=match x with
 |.tup ws=>pure .fix[ws]
 |.scr ns=>pure .fix[ns.map[W.int]]
 |.str z=>if z.length<=big then pure .fix[chars[z]] else bad
 |.ref n=>λS=>match S[n]? with
  |some (.lst _)=>.ok .liv[n] S
  |_=>.bad
 |_=>bad
def Hc(f:De->M W):De->M Src:=λY=>do let x<-f Y;Ax8 x
def Kh:lg W->M Src
 |[.int j]=>if -(2 ^ 62)<=j/\j < 2 ^ 62 then pure .fix[(fO j.toNat).map λ(k:Nat)=>W.int[(0:Int)+(k:Int)]] else bad
 |_=>bad
def Rr(r:lg W->M Src)(f:De->M lg[W]):De->M Src:=λY=>do let x<-f Y;r x
def Ax9(s:Tg)(b:MS)(gt:Store->Nat->o9 o9[W])(n:Nat):MS:=λY S=>match S[n]? with
 |some (.lst ws)=>Akr s b gt (ws.length+1) 0 Y S
 |_=>.bad
def Sq(src:De->M Src)(s:Tg)(b:MS):MS:=λY=>Gb src[Y] (λz=>match z with
 |.fix ws=>Sh s b ws
 |.liv n=>Ax9 s b liG[n] n
 |.zl n m=>Ax9 s b (zlG n m) n
 |.el n=>Ax9 s b elG[n] n) Y
def Adt(Θ:Th)(ρ:lg aH)(H:Hp)(z:Src)(J:It):Prop:=match z with
 |.fix ws=>JOk Θ J ws ρ H
 |.liv n=>∃a,ρ[n]?=sr a/\J=Itl Θ.K a
 |.zl n m=>∃a b,ρ[n]?=sr a/\ρ[m]?=sr b/\J=Itz Θ.K t7 a b
 |.el n=>∃a,ρ[n]?=sr a/\J=Bne Θ.K a
def tFi(Θ:Th)(E:L2.St->XK)(f:De->M Src):TI:=λσ H Q=>TF Θ Adt[Θ] f σ H Q E[σ]
section
theorem Bdo(h:H a=sr .tup[b])(r:RVs d g H j b):JOk d (Itt d.K a) j g H where
 go:=λc f i p t hi=>by
  let(v,e,k):=r.get aV[hi];let sq:SqT d.K f a b:=SqT.of[t.t _ _ h];refine((b,v,sq,e),?_);rintro x n ⟨rfl,l⟩;let z:=l b sq;rw[e] at z;cases z;exact(Cd.refl _ _,λm r=>r,_,aV hi,k.mono p t)
 stop:=λc f i t hi=>(b,SqT.of[t.t _ _ h],by rw[<-r.length,hi];exact aN _)
theorem Bdp{ns:lg Int}(h:Scr b H l ns):JOk b (Itl b.K l) ns.map[W.int] j H where
 go:=λa g i p t hi=>by
  let sq:=(h.mono t).sq;rw[aJ] at hi;let e:(ns.map V.int)[i]?=sr .int[getElem[ns][i][by get_elem_tactic]]:=by rw[bK,aV hi];rfl
  refine((_,_,sq,e),?_);rintro x m ⟨rfl,d⟩;let z:=d _ sq;rw[e] at z;cases z;exact(Cd.refl _ _,λk r=>r,.int getElem[ns][i][by get_elem_tactic],by rw[bK,aV hi];rfl,.int _)
 stop:=λa g i t hi=>(_,(h.mono t).sq,by rw[aJ] at hi ⊢;omega)
theorem Bdq(lo:Int)(n:Nat):JOk f (Itr lo n) ((fO n).map λ(k:Nat)=>W.int[lo+(k:Int)]) e H where
 go:=λa d i p t hi=>by
  rw[aJ,cG] at hi;refine(hi,?_);rintro x h ⟨rfl,rfl⟩;exact(Cd.refl _ _,λg r=>r,.int[lo+i],by rw[bK,nJ hi];rfl,.int _)
 stop:=λa d i t hi=>by rw[aJ,cG] at hi;exact oR hi.symm
theorem Bdr(z:t6):JOk g Its[z] chars[z] f H where
 go:=λa e i p t hi=>by
  unfold chars at hi ⊢
  rw[aJ,bC] at hi;refine(hi,?_);rintro x j ⟨rfl,c,b,rfl⟩;exact(Cd.refl _ _,λh r=>r,.str ⟨#[c]⟩,by rw[bK,iT,b];rfl,.str _)
 stop:=λa e i t hi=>by
  unfold chars at hi;rw[aJ,bC] at hi;exact hi
end
section
def WI.weak(h:WI X tg e t)(k:∀σ H Q,t' σ H Q->t σ H Q):WI X tg e t':=⟨λaa s σ H Q I q=>h.un aa s σ H Q I (k σ H Q q)⟩
def WI.or(h:WI X b e t)(h':WI X b e d):WI X b e (λa H Q=>t a H Q\/d a H Q):=(⟨λc s a H Q I q=>by
 rcases q with q|q
 .exact h.un c s a H Q I q
 .exact h'.un c s a H Q I q⟩)
def Am0(hK:X.K=j.K)(h:WE X e (tF j E f)):WI X P e (tFi j E Hc[f]):=(
 WI.weak WI.or[WI.or[⟨Bie h.un⟩][⟨Bbz h.un⟩]][⟨Bi1 h.un⟩] λs H Q ⟨ρ,S,Y,R,sl,q⟩=>by
  rw[hK];let go:∀(t:V->Hp->Prop),(∀v m b i w,Rep j b i m->RV j b m w v->Av j Adt[j] b m (Ax8 w i) Q E[s]->f Y S=.ok w i->t v m)->tF j E f s H t:=λt k=>by
   refine(ρ,S,Y,R,sl,?_);let r:=Av.seq (Rel:=RV j) q;cases p:f Y S with
   |bad=>rw[p] at r;exact r
   |exc c i=>rw[p] at r;exact r
   |ok w i=>
    rw[p] at r;intro b m v I C l o;let q:Av j Adt[j] ρ H (M.bind f[Y] Ax8 S) Q E[s]:=q;unfold M.bind at q;rw[p] at q;exact k v m b i w l o (Av.shift q I C) p
  cases p:f Y S with
  |bad=>exact .inl .inl[go _ λv m b i w l o d g=>by simp_all]
  |exc c i=>exact .inl .inl[go _ λv m b i w l o d g=>by simp_all]
  |ok A Z=>
   cases A with
   |str z=>
    refine .inr[go _ λv m b i w l o d g=>?_];rw[p] at g;cases g;cases o;let(U,d):=Hi d;exact(_,rfl,Av.now d l Bdr[_])
   |tup N=>
    refine .inl .inl[go _ λv m b i w l o d g=>?_];rw[p] at g;cases g;cases o with
    |tup y G=>exact(_,rfl,(_,SqT.of y),Av.now (Rel:=Adt j) d l (Bdo y G))
   |scr ns=>
    refine .inl .inr[go _ λv m b i w l o d g=>?_];rw[p] at g;cases g;cases o with
    |scr hs=>exact(_,rfl,(_,hs.sq),Av.now (Rel:=Adt j) d l Bdp[hs])
   |ref n=>
    refine .inl .inr[go _ λv m b i w l o d g=>?_];rw[p] at g;cases g;cases o with
    |@ref _ a x=>
     simp only[Ax8] at d;split at d
     .rename_i O L;let(B,J,T):=l.at_ _ _ _ x L;exact(_,rfl,(B,.inl .inl[J]),Jx (Rel:=Adt j) d l (a,x,rfl))
     .exact bZ d
   |_=>
    refine .inl .inl[go _ λv m b i w l o d g=>?_];rw[p] at g;cases g;exact bZ d)
def Bjw(hp:xX (model X.prog X.w) X.A X.env X.xe)(hK:X.K=d.K)(C:X.calm=t8)(hi:WI X l c (tFi d E src))(B:WG X l g)(p:GOk d s g)(F:WSs X body (tS d E bd))(hs:∀x,foldedSetIterable c X.env x=pure x):
  WS X (.For l c body [] u) tS[d][E][Sq src s bd]:=(WS.weak ⟨Bif hp C hi.un B.un F.un hs⟩ λD L H ⟨ρ,S,Y,R,sl,q⟩=>by
 refine(ρ,S,Y,R,sl.2,(Ea.lift sl q).mono ?_);rintro J I ⟨e,G,z,P,O,r,f,i,j⟩;let k:∀{gt n},JLv d J gt e->Ea d e I (Ax9 s bd gt n Y G) D E->_:=λ{gt n} jk q=>by
  unfold Ax9 at q;split at q
  .exact Bdn p jk r f q
  .exact q.elim
 cases z with
 |fix N=>exact Bdm p i r f j
 |liv n=>let(a,h,rfl):=i;exact k Ax6[h] j
 |el n=>let(a,h,rfl):=i;exact k Bjv[h] j
 |zl n m=>let(a,b,h,y,rfl):=i;exact k (Ax7 h y) j)
end
section
def Bjx(l:X.mg "range"=sy)(n:WA X [a] (tFs c E o))(m:X.env.kindOf "range"=sr .globalImplicit)(hs:starEach [a] X.env=[(t7,eval a X.env)]):WI X w (.Call (.Name "range" p) [a] [] k) tFi[c][E][Rr Kh o]:=(
 WI.weak[Bcp l n m hs] λt H Q ⟨ρ,S,Y,R,sl,q⟩=>by
  refine(ρ,S,Y,R,sl,(Av.seq (Rel:=RVs c) q).mono ?_);rintro v A ⟨h,z,u,y,x,s,d,b⟩;cases d with
  |nil=>trivial
  |cons f r=>
   cases r with
   |cons _ _=>cases f <;> exact bZ b
   |nil=>
    cases f <;> try exact bZ b
    let(e,b):=Hi b;exact(_,rfl,e.1,e.2,Av.now (Rel:=Adt c) b s (Bdq 0 _)))
end
inductive Ty where
 |lst|str|dct
def Ty.is:Ty->W->Store->Bool
 |.lst,.ref n,S=>match S[n]? with
  |some (.lst _)=>t8
  |_=>t7
 |.str,.str _,_=>t8
 |.dct,.ref n,S=>match S[n]? with
  |some (.dct _)=>t8
  |_=>t7
 |_,_,_=>t7
def Ty.name:Ty->String
 |.lst=>"list"
 |.str=>"str"
 |.dct=>"dict"
def Jc(T:Ty)(op:W->lg W->M W)(f:De->M W)(gs:De->M lg[W]):De->M W:=λY=>do
 let x<-f Y;let _<-(λS=>if T.is x S then .ok u9 S else .bad:M Unit)
 let ws<-gs Y
 op x ws
def Ar0(x:W)(k:Nat->lg W->M W):M W:=match x with
 |.ref n=>λS=>match S[n]? with
  |some (.lst ws)=>k n ws S
  |_=>.bad
 |_=>bad
def putL(n:Nat)(ws:lg W)(r:W):M W:=λS=>if ws.length<=big then .ok r (S.set n .lst[ws]) else .bad
def Gg(x:W)(us:lg W):M W:=Ar0 x λn ws=>match us with
 |[u]=>putL n (ws ++ [u]) .non
 |_=>bad
def Ss(x:W)(us:lg W):M W:=match x,us with
 |.str z,[.ref n]=>λS=>match S[n]? with
  |some (.lst ws)=>match Dq Amx ws with
   |some ys=>if (ys.map (·.length)).sum+ys.length * z.length<=big then .ok .str[aAo z ys] S else .bad
   |none=>.bad
  |_=>.bad
 |_,_=>bad
def Su(x:W)(us:lg W):M W:=match x,us with
 |.str z,[.str y]=>match dM z y 0 z.length 1 with
  |i::_=>pure (.int (i:Nat))
  |[]=>bad
 |_,_=>bad
def Aks(x:W)(us:lg W):M W:=match x,us with
 |.str z,[.int i,.str f]=>if PadOk i&&decide[f.length=1] then pure .str[tZ[z][i][f.cps.getD 0 0]] else bad
 |_,_=>bad
def Akt(x:W)(us:lg W):M W:=match x,us with
 |.str z,[.str y]=>if z.length<=big then pure .str[jN z y] else bad
 |_,_=>bad
section
nonrec def Bds(R:Rep a b S H)(l:RV a b H x d)(r:RVs a b H g e)(h:Av a RV[a] b H (Aks x g S) Q E):∃z i f,d=.str z/\e=[.int i,.str f]/\PadOk i=t8/\f.length=1/\Q .str[tZ[z][i][f.cps.getD 0 0]] H:=by
 unfold Aks at h;split at h
 .rename_i z i f;cases l;cases r with|cons k r=>
  cases r with|cons j r=>
  cases r;cases k;cases j;let(c,h):=Hi h;rw[aL] at c;exact(_,_,_,rfl,rfl,c.1,dg c.2,h.now R .str[_])
 trivial
nonrec def Bdt(R:Rep a b S H)(j:RV a b H x c)(r:RVs a b H f d)(h:Av a RV[a] b H (Su x f S) Q E):∃z y i rest,c=.str z/\d=[.str y]/\dM z y 0 z.length 1=i::rest/\Q (.int (i:Nat)) H:=by
 unfold Su at h;split at h
 .rename_i z y;cases j;cases r with|cons g r=>
  cases r;cases g;cases e:dM z y 0 z.length 1 with
  |nil=>rw[e] at h;trivial
  |cons i rest=>
   rw[e] at h;exact(_,_,i,rest,rfl,rfl,e,h.now R .int[_])
 trivial
nonrec def Aya{k:Nat->lg W->M W}(R:Rep b c S H)(m:RV b c H x j)(h:Av b RV[b] c H (Ar0 x k S) Q E):
  ∃n a d e,x=.ref n/\j=.ref a/\c[n]?=sr a/\S[n]?=sr .lst[d]/\H a=sr .lst[e]/\RVs b c H d e/\Av b RV[b] c H (k n d S) Q E:=by
 cases m <;> try exact(h).elim
 rename_i n a f;simp[Ar0] at h;split at h
 .rename_i d g;let(e,o,l):=R.at_ _ _ _ f g;exact(n,a,d,e,rfl,rfl,f,g,o,l,h)
 trivial
def Bdu{n:Nat}(R:Rep c b S H)(j:b[n]?=sr a)(o:H a=sr .lst[k])(i:RVs c b H l d)(m:RV c b H r f)(h:Av c RV[c] b H (putL n l r S) Q E):
  d.length<=big/\Q f (upd H a .lst[d]):=by
 simp[putL] at h;split at h
 .rename_i q;let t:Cd b b H (upd H a .lst[d]):=Mv j o (λg e=>by cases e) (λg g e=>by cases e)
  refine(by rw[<-i.length];omega,h b _ f aP[_] t (R.write j t (d,Aq,i.mono aP[_] t)) (m.mono aP[_] t))
 trivial
def Bdv(R:Rep a b S H)(g:RV a b H x c)(r:RVs a b H e d)(h:Av a RV[a] b H (Akt x e S) Q E):∃z y,c=.str z/\d=[.str y]/\z.length<=sizeLine/\Q .str[jN z y] H:=by
 unfold Akt at h;split at h
 .cases g;let(v,rfl,i):=rv1 r;cases i;let(f,h):=Hi h;exact(_,_,rfl,rfl,K1 f,h.now R .str[_])
 .exact bZ h
nonrec def Bjy(R:Rep c d S H)(l:RV c d H x f)(r:RVs c d H i g)(h:Av c RV[c] d H (Ss x i S) Q E):∃z p b,f=.str z/\g=[.ref p]/\H p=sr .lst[b.map[V.str]]/\(b.map (·.length)).sum+b.length * z.length<=16777216/\Q .str[aAo z b] H:=by
 unfold Ss at h;split at h
 .rename_i z n;cases l;let(v,rfl,o):=rv1 r;let(a,rfl,m):=o.rI;split at h
  .rename_i u s;split at h
   .rename_i b q;split at h
    .rename_i k;let(t,e,j):=R.at_ _ _ _ m s;rw[Xu Amy j q] at e;exact(z,a,b,rfl,rfl,e,aD k (),Jx h R .str[_])
    .ac_rfl
   .ac_rfl
  .ac_rfl
 .ac_rfl
end
def Bdw(b:Bool)(x:t6):o9[Ty×(W->lg W->M W)]:=
 if x="append" then sr[u6 .lst Gg]
 else if x="join" then sr[u6 .str Ss]
 else if x="ljust" then sr[u6 .str Aks] else if x="index" then sr[u6 .str Su] else if x="strip" then sr[u6 .str Akt] else sy
structure Bqv(Θ:Th)(X:Cx)(T:Ty)(name:t6)(op:W->List W->M W) where
 id:String
 pa:PlainAttrs T.name
 slot:Slot T.name name id
 ty:typeOf (.builtin id)=pure (.type "method_descriptor")
 r:V->List V->Hp->VK->Prop
 ok:MtR X id r
 by_:∀ρ S H x vx us vs Q E,Rep Θ ρ S H->RV Θ ρ H x vx->RVs Θ ρ H us vs->Av Θ (RV Θ) ρ H (op x us S) Q E->r vx vs H Q
def Bdx(h:Bdw b name=sr[u6 T Y]):Nonempty[Bqv Θ X T name Y]:=by
 unfold Bdw at h;split at h
 .rename_i e;subst e;cases h;exact⟨(_,PySem.F.plainAttrs_list,PySem.F.slot_list_append,PySem.F.type_list_append,_,Ah4,λA S H x B g d Q E R c r h=>by
    let(n,a,ws,N,rfl,rfl,hn,e1,L,U,h):=Aya R c h;cases r with
    |nil=>ac_rfl
    |cons hu r=>
     cases r with
     |cons _ _=>ac_rfl
     |nil=>
      let(m,q):=Bdu R hn L U.append[.cons hu .nil] .non h;rw[bH,eZ] at m;exact(a,N,_,rfl,rfl,L,K1 m,q))⟩
 split at h
 .rename_i e;subst e;cases h;exact⟨(_,lU,PySem.F.slot_str_join,PySem.F.type_str_join,_,by
    intro J s C H x d v g Q I j l h;let(z,p,O,rfl,rfl,hp,m,q):=h;let(t,rfl):=j;let(u,rfl,P):=l.one;cases P;let(_,G,n,r,e):=(show Ek X.prog X.w H s.heap p .lst[O.map[V.str]] from I.hok p _ hp);exact join_list (D:=p) (items:=G.toArray) (_,e,rfl,_,rfl) (by simpa using Akg r) m λo k=>(.str _,H,I.tok _,(_,rfl),q),λA S H x B g d Q E R c r h=>Bjy R c r h)⟩
 split at h
 .rename_i e;subst e;cases h;exact⟨(_,lU,PySem.F.slot_str_ljust,PySem.F.type_str_ljust,_,by
    intro J s C H x d v g Q I j l h;let(z,i,f,rfl,rfl,hp,hf,q):=h;let(t,rfl):=j;let(u,w,rfl,(t1,rfl),t2,rfl):=l.two;exact ljust_fill hp hf λo k=>(.str _,H,I.tok _,(_,rfl),q),λA S H x B g d Q E R c r h=>Bds R c r h)⟩
 split at h
 .rename_i e;subst e;cases h;exact⟨(_,lU,PySem.F.slot_str_index,PySem.F.type_str_index,_,by
    intro J s C H x d v g Q I j l h;let(z,y,i,rest,rfl,rfl,Z,q):=h;let(t,rfl):=j;let(u,rfl,o,rfl):=l.one;exact SC.index Z (.int i,H,I.tok _,(_,rfl),q),λA S H x B g d Q E R c r h=>Bdt R c r h)⟩
 split at h
 .rename_i e;subst e;cases h;exact⟨(_,lU,PySem.F.slot_str_strip,PySem.F.type_str_strip,_,by
    intro J s C H x d v g Q I j l h;let(z,y,rfl,rfl,m,q):=h;let(t,rfl):=j;let(u,rfl,o,rfl):=l.one;exact SC.stripChars (λo k=>(.str _,H,I.tok k,(o,rfl),q)) m,λA S H x B g d Q E R c r h=>Bdv R c r h)⟩
 .cases h
section
variable{Θ:Th}{X:Cx}{o e a b c:bO}{es:lg bO}{name:t6}{aj cpos:o8}{E:L2.St->XK}{f:De->M W}{gs:De->M (lg W)}{T:Ty}{op:W->lg W->M W}
nonrec def Ty.is_ok{l:lg aH}{S:Store}{H:Hp}{x:W}{v:V}{K:aB}(R:Rep Θ l S H)(g:RV Θ l H x v)(h:T.is x S=t8):tyV K T.name v H:=by
 cases T with
 |str=>cases g <;> first|rfl|trivial
 |lst=>
  cases g <;> try trivial
  rename_i n a i;simp[Ty.is] at h;split at h
  .rename_i p k;let(d,j,q):=R.at_ _ _ _ i k;exact .inl (rfl,d,.inl .inl[j])
  trivial
 |dct=>
  cases g <;> try trivial
  rename_i n a i;simp[Ty.is] at h;split at h
  .rename_i p k;let(d,j,q):=R.at_ _ _ _ i k;exact .inr .inr[.inl (rfl,.inl (d,j))]
  trivial
def Bqw(L:Bdw pb name=sr[u6 T op])(N:WE X o (tF Θ E f))(P:WA X (e::es) (tFs Θ E gs))(U:attributeBase o name X.env (eval o X.env)=eval o X.env)(i:((backTo cpos (starEach (e::es) X.env)).all (λx=>!x.1)&&(backToKw cpos (keywordEach [] X.env)).all (λx=>x.1.isSome)&&decide[(e::es).length+([]:lg iB).length+(if ([]:lg iB).isEmpty then 0 else 1) < 30])=t8)(Z:(aj.endLine==cpos.line)=t8)(O:starEach (e::es) X.env=(u6 t7 (eval e X.env))::starEach es X.env)(p:(backTo cpos (starEach es X.env)).any (·.1)=t7):
  WE X (.Call (.Attribute o name aj) (e::es) [] cpos) tF[Θ][E][Jc T op f gs]:=by
 obtain⟨m⟩:=Bdx (Θ:=Θ) (X:=X) L;refine WE.weak[kbm m.pa m.slot m.ty m.ok N P U i Z O p] λs H Q ⟨ρ,S,Y,R,sl,q⟩=>?_;refine(ρ,S,Y,R,sl,(Av.seq q).mono ?_);rintro v H1 ⟨h,r,w,J,F,y,u,g⟩;let g:Av Θ RV[Θ] h H1 (M.bind _ _ r) Q E[s]:=g;unfold M.bind at g;by_cases n:T.is w r=t8
 .simp only[n,if_true] at g;refine(Ty.is_ok y u n,h,r,Y,y,sl.mono J F,(Av.seq g).mono ?_);rintro B H2 ⟨k,S2,A,I,C,R2,l,G⟩;exact m.by_ k S2 H2 w v A B Q E[s] R2 (u.mono I C) l G
 .simp only[n,if_false] at g;exact g.elim
end
def FOk(Θ:Th)(ok:Bool->Nat->t6->Bool):Prop:=(∀c f,ok t7 c f=t8->Cls Θ.K Θ.cl[c]/\Qs Θ.K Θ.cl[c] f)/\∀c f,ok t8 c f=t8->Θ.xf c=sr f/\XfK Θ.K Θ.cl[c] f
def Sv(ok:Bool->Nat->t6->Bool)(f:t6)(x:W):M W:=match x with
 |.ref n=>λS=>match S[n]? with
  |some (.ins c fs)=>if ok t7 c f then Ahl fs.lookup[f] S else .bad
  |_=>.bad
 |.exn c w=>if ok t8 c f then pure w else bad
 |_=>bad
def Wi(f:t6)(v:W):lg[t6×W]->lg (t6×W)
 |[]=>[(f,v)]
 |(g,x)::r=>if g=f then (u6 g v)::r else (u6 g x)::Wi f v r
def Ab7(ok:Bool->Nat->t6->Bool)(f:t6)(x y:W):M Unit:=match x with
 |.ref n=>λS=>match S[n]? with
  |some (.ins c fs)=>if ok t7 c f&&decide[fs.length < 1000] then .ok u9 (S.set n .ins[c][Wi f y fs]) else .bad
  |_=>.bad
 |_=>bad
def Gv(ok:Bool->Nat->t6->Bool)(f:t6)(g:De->M W):De->M W:=λY=>do let x<-g Y;Sv ok f x
def Jy(ok:Bool->Nat->t6->Bool)(f:t6)(g h:De->M W):MS:=λY=>Gb (do let y<-h Y;let x<-g Y;Ab7 ok f x y) (λuw=>.nx) Y
section
variable{ok:Bool->Nat->t6->Bool}
def RFs.look(r:RFs c b H fs d)(f:t6)(h:fs.lookup f=sr w):∃v,d.lookup f=sr v/\RV c b H w v:=by
 induction r with
 |nil=>cases h
 |@cons p q _ _ j r i=>
  let(g,o):=p;let(n,m):=q;let(e,l):=j;cases (e);rw[dF] at h ⊢
  by_cases a:(f==g)=t8
  .simp_all
  .rw[tK] at a;rw[a] at h ⊢;exact i h
def RFs.put(r:RFs c b H fs d)(f:t6)(h:RV c b H w v):RFs c b H (Wi f w fs) (Wd f v d):=by
 induction r with
 |nil=>exact .cons (rfl,h) .nil
 |@cons p q _ _ k r j=>
  let(i,o):=p;let(n,m):=q;let(e,g):=k;cases (e);unfold Wi Wd;by_cases a:i=f
  .rw[di a,di a];exact .cons (rfl,h) r
  .rw[dm a,dm a];exact .cons (rfl,g) j
def RFs.len(r:RFs Θ ρ H fs vs):fs.length=vs.length:=paired_len r
def RFs.mono'(p:ρ <+: ρ')(t:Cd ρ ρ' H H')(r:RFs Θ ρ H fs vs):RFs Θ ρ' H' fs vs:=Paired.imp2 (λuw uw z=>(z.1,z.2.mono p t)) r
nonrec def Ayb(hf:FOk b ok)(R:Rep b i S H)(q:RV b i H x m)(h:Av b RV[b] i H (Sv ok f x S) Q E):
  (∃a C l fs v,m=.ref a/\H a=sr[.ins C l fs]/\Cls b.K C/\Qs b.K C f/\fs.lookup f=sr v/\Q v H)\/∃a C n d v,m=.ref a/\H a=sr[Kz a .ref[C] sr[u6 n sr[d]]]/\H d=sr .xd[[(f,v)]]/\XfK b.K C f/\Q v H:=by
 let ex:∀{c:Nat} {w:W},Av b RV[b] i H (Sv ok f (.exn c w) S) Q E->b.xf c=sr f/\XfK b.K b.cl[c] f/\Av b RV[b] i H ((pure w:M W) S) Q E:=λ{c w} h=>by
  simp only[Sv] at h;by_cases e:ok t8 c f=t8
  .rw[di e] at h;exact((hf.2 c f e).1,(hf.2 c f e).2,h)
  .rw[dm e] at h;ac_rfl
 cases q <;> try ac_rfl
 .rename_i n a r;simp only[Sv] at h;split at h
  .rename_i c fs g;let(l,o,t,p):=R.at_ _ _ _ r g;split at h
   .rename_i e;let(w,u,h):=Vr h;let(v,ev,k):=p.look f u;exact .inl (a,_,l,o,v,rfl,t,(hf.1 c f e).1,(hf.1 c f e).2,ev,h.now R k)
   .ac_rfl
  .ac_rfl
 .rename_i j _ _;let(g,_,_):=ex h;rw[j] at g;cases g
 .rename_i n j _ _ s hd k;let(g,y,h):=ex h;rw[j] at g;cases g;exact .inr (_,_,1,_,_,rfl,s,hd,y,h.now R k)
nonrec def Ayc{Q:Unit->Hp->Prop}(hf:FOk d ok)(R:Rep d g S H)(v:RV d g H x s)(u:RV d g H y m)(h:Av d (λj j a b=>a=b) g H (Ab7 ok f x y S) Q E):
  ∃a C i fs,s=.ref a/\H a=sr[.ins C i fs]/\Cls d.K C/\Qs d.K C f/\fs.length < 1000/\Q u9 (upd H a .ins[C][i][Wd f m fs]):=by
 cases v <;> try ac_rfl
 rename_i n a l;simp only[Ab7] at h;split at h
 .rename_i c fs z;let(i,o,q,p):=R.at_ _ _ _ l z;split at h
  .rename_i k;let(k,w):=bU.mp k;let t:Cd g g H (upd H a .ins[d.cl[c]][i][Wd f m o]):=Mv l q (λj e=>by cases e) (λj j e=>by cases e)
   refine(a,_,i,o,rfl,q,(hf.1 c f k).1,(hf.1 c f k).2,by rw[<-p.len];exact dg w,?_)
   exact h g _ u9 aP[_] t (R.write l t (i,_,Aq,(p.put f u).mono' aP[_] t)) ()
  .ac_rfl
 trivial
end
section
variable{ok:Bool->Nat->t6->Bool}
def Boc(hK:X.K=b.K)(hf:FOk b ok)(k:WE X o (tF b E g))(l:attributeBase o f X.env (eval o X.env)=eval o X.env):WE X (.Attribute o f j) tF[b][E][Gv ok f g]:=(
 WE.weak ⟨Bcz k.un l⟩ λn H Q ⟨ρ,S,Y,R,sl,q⟩=>by
  rw[hK];refine(ρ,S,Y,R,sl,(Av.seq q).mono ?_);rintro v t ⟨c,s,w,r,p,m,h,i⟩;exact Ayb hf m h i)
def Bjz(hK:X.K=d.K)(hf:FOk d ok)(G:WE X o (tF d E g))(F:WE X value (tF d E h))(hs:swapsWith value sr[.Attribute o f c] k.line X.env=pure t7):
  WS X (.Assign [.Attribute o f c] value k) tS[d][E][Jy ok f g h]:=(WS.weak ⟨Bim G.un F.un hs⟩ λD Z H ⟨ρ,S,Y,R,sl,q⟩=>by
 rw[hK];refine(ρ,S,Y,R,sl.2,(Av.seq (Ea.lift (Rel:=λp p a b=>a=b) sl q)).mono ?_);rintro vy H1 ⟨e,Q,y,B,s,U,t,z⟩;refine(e,Q,Y,U,sl.2.mono B s,(Av.seq z).mono ?_);rintro vx H2 ⟨m,S2,x,A,r,R2,u,w⟩;let(a,C,P,fs,O,N,L,J,I,l,S3,_,p3,t3,T,i,_,v):=Ayc hf R2 u (t.mono A r) w;exact(a,C,P,fs,O,N,L,J,I,v.nxt T i))
end
def Au2{d:CXT}{P:cD}{w:dW}{K:aB}{mg:t6->o9 aF}{base:dI}{N:lg t6}{qual:t6}{scope:gR}{f:aH}{i:aF}{A:eQ}{outer:lg Env}{s:aO}{H:Hp}{E:XK}{g:Bool}:
  xX (model P w) (Aa8 d P w K mg base N qual scope f i A outer s H E g).A (Aa8 d P w K mg base N qual scope f i A outer s H E g).env (Aa8 d P w K mg base N qual scope f i A outer s H E g).xe:=(
 λe k h=>aDy (Q₁:=λe a=>d outer H s E e a) (E₁:=λe' a=>d outer H s E e' a) e k h)
def Aku(c d:De->M Bool):De->M Bool:=λY=>do let x<-c Y;if x then d Y else pure t7
def orT(c d:De->M Bool):De->M Bool:=λY=>do let x<-c Y;if x then pure t8 else d Y
def Jd(c:De->M Bool):De->M Bool:=λY=>do let x<-c Y;pure[!x]
section
def WW.weak(h:WW X e t)(k:∀σ H Q,t' σ H Q->t σ H Q):WW X e t':=⟨λwh aa s σ H Q I q=>h.un wh aa s σ H Q I (k σ H Q q)⟩
def Ayd(h:WE X e (tF c E f))(k:∀whole,isTrue e X.env whole=(do let v<-whole;standAt e.pos;holding [v] truthy[v])):WT X e (tFb c E Do[f]):=(Apu (λa a a q=>q) (⟨by
  intro l s b H Q I j;refine isTrue_plain[thn[h.un l s b H _ I j] λv o ⟨x,H1,I1,r1,q1⟩=>?_][k _];let(d,rfl,q):=q1;cases r1;exact gK (H1,I1,q)⟩))
end
def Hr(c:Nat)(gs:De->M lg[W]):MS:=λY=>Gb gs[Y] (λws Y S=>if ws.length<=big then .ex (u6 c .non) Y S else .bad) Y
section
def Aye{c:Nat}(k:b.xf c=sy)(v:We X.K b.cl[c])(w:X.mg x=sr .ref[b.cl[c]])(B:X.calm=t8)(F:Raises X E)(C:WA X (e::d) tFs[b][λt=>E][G])(y:Gl X x)(hd:(x==("__debug__":t6))=t7)(A:starEach (e::d) X.env=(u6 t7 (eval e X.env))::starEach d X.env)(l:(backTo a (starEach d X.env)).any (·.1)=t7):
  WS X (.Raise sr[.Call (.Name x p) (e::d) [] a] sy u) tS[b][λt=>E][Hr c G]:=(WS.weak[Bi7 v w B F C y hd A l] λD o H ⟨ρ,S,Y,R,sl,q⟩=>by
 refine(ρ,S,Y,R,sl.2,(Ea.lift sl q).mono ?_);rintro O N ⟨f,T,s,Q,P,J,g,h,i⟩;by_cases j:s.length<=big
 .rw[di j] at i;let z:=i f N o aP[_] (Cd.refl ..) J g;unfold XP at z;rw[k] at z;exact(K1[h.length ▸ j],_,z)
 .rw[dm j] at i;trivial)
end
def Ab8(kvs:lg[Key×W])(k:Key)(w:W):lg[Key×W]:=if kvs.any[λp=>decide[p.1=k]] then kvs.map[λp=>if p.1=k then (u6 p.1 w) else p] else kvs ++ [(k,w)]
def Ab9(x y v:W):M Unit:=match x with
 |.ref n=>λS=>match S[n]? with
  |some (.dct kvs)=>match Abi y with
   |some k=>if kvs.length < big then .ok u9 (S.set n .dct[Ab8 kvs k v]) else .bad
   |none=>.bad
  |some (.lst ws)=>match y with
   |.int i=>if decide[0<=i]&&decide[i < ws.length] then .ok u9 (S.set n .lst[ws.set i.toNat v]) else .bad
   |_=>.bad
  |_=>.bad
 |_=>bad
def Im(f g h:De->M W):MS:=λY=>Gb (do let v<-h Y;let x<-f Y;let y<-g Y;Ab9 x y v) (λuw=>.nx) Y
section
def RKV.app(r:RKV c b H a d)(t:RKV c b H f e):RKV c b H (a ++ f) (d ++ e):=by
 induction r with
 |nil=>exact t
 |cons h r g=>exact .cons h g
def RKV.put(r:RKV f d H a g)(k:Key)(h:RV f d H w v):RKV f d H (Ab8 a k w) (putK g k v):=by
 let j:a.any[λp=>decide[p.1=k]]=g.any[λp=>decide[p.1=k]]:=by
  induction r with
  |nil=>rfl
  |cons c r i=>simp_all
 unfold Ab8 putK;rw[j];split
 .rename_i b;clear j b;induction r with
  |nil=>exact .nil
  |@cons p q _ _ c r i=>
   rw[cJ,cJ];refine .cons ?_ i;by_cases e:p.1=k
   .rw[di e,di c.1.symm.trans[e]];exact(c.1,h)
   .rwa [dm e,dm[λz=>e c.1.trans[z]]]
 .exact r.app[.cons (rfl,h) .nil]
def RKV.mono'(p:ρ <+: ρ')(t:Cd ρ ρ' H H')(r:RKV Θ ρ H fs vs):RKV Θ ρ' H' fs vs:=Paired.imp2 (λuw uw z=>(z.1,z.2.mono p t)) r
theorem RVs.set(h:RV c b H w v):∀{d:lg W} {e:lg V} (i:Nat),RVs c b H d e->RVs c b H (d.set i w) (e.set i v)
 |_,_,_,.nil=>.nil
 |_,_,0,.cons _ r=>.cons h r
 |_,_,i+1,.cons q r=>.cons q (RVs.set h i r)
nonrec def Ayf(R:Rep m c S H)(B:RV m c H x A)(u:RV m c H y w)(s:RV m c H z o)(h:Av m (λd d a b=>a=b) c H (Ab9 x y z S) Q E):
  ∃a v,A=.ref a/\At3 H a w o v/\Q u9 v:=by
 cases B <;> try ac_rfl
 rename_i n a f;simp only[Ab9] at h;split at h
 .rename_i p r;let(g,l,j):=R.at_ _ _ _ f r;split at h
  .rename_i k F;rw[Ad3 u F];split at h
   .rename_i C;let el:p.length=g.length:=paired_len j;let t:Cd c c H (upd H a .dK[putK g k o]):=Mv f l (λd e=>by cases e) (λd d e=>by cases e)
    refine(a,_,rfl,At3.k l (by rw[<-el];exact aQ C ()),?_)
    exact h c _ u9 aP[_] t (R.write f t (_,Aq,(j.put k s).mono' aP[_] t)) ()
   .ac_rfl
  .ac_rfl
 .rename_i G r;let(g,l,j):=R.at_ _ _ _ f r;split at h
  .split at h
   .rename_i i q;rw[aL] at q;obtain rfl:=u.iI;let t:Cd c c H (upd H a .lst[g.set i.toNat o]):=Mv f l (λd e=>by cases e) (λd d e=>by cases e)
    refine(a,_,rfl,.inr[.inr (g,i,l,rfl,dg q.1,by rw[<-j.length];exact dg q.2,rfl)],?_)
    exact h c _ u9 aP[_] t (R.write f t (_,Aq,(j.set s _).mono aP[_] t)) ()
   .ac_rfl
  .ac_rfl
 trivial
end
section
def Bdy(hu:X.A.units+64 < cLine)(T:WE X o (tF c E f))(hi:WE X b (tF c E g))(Q:WE X v (tF c E h))(hs:swapsWith v sr[.Subscript o b d] l.line X.env=pure t7):
  WS X (.Assign [.Subscript o b d] v l) tS[c][E][Im f g h]:=(WS.weak[⟨Bcb () T.un hi.un Q.un hs⟩] λD σ H ⟨ρ,S,Y,R,sl,q⟩=>by
 let P:=Ea.lift (Rel:=λC C a b=>a=b) sl q;refine(ρ,S,Y,R,sl.2,(Av.seq (Rel:=RV c) P).mono ?_);rintro vz H1 ⟨j,S1,z,t,p,R1,F,O⟩;refine(j,S1,Y,R1,sl.2.mono t p,(Av.seq (Rel:=RV c) O).mono ?_);rintro vx H2 ⟨i,S2,x,s,n,R2,I,N⟩;refine(i,S2,Y,R2,(sl.2.mono t p).mono s n,(Av.seq (Rel:=RV c) N).mono ?_);rintro vy H3 ⟨w,S3,y,r,m,R3,G,L⟩;let(a,H',Z,U,u,S4,_,p4,t4,R4,k,_,J):=Ayf R3 (I.mono r m) G ((F.mono s n).mono r m) L;exact(a,H',Z,U,J.nxt R4 k))
end
def Eb(n:Nat)(ws:lg W):De:=ws.map sr ++ cL (n - ws.length) sy
def Cg(k n:Nat)(b:MS):lg W->M W:=λws S=>if ws.length=k then match b (Eb n ws) S with
 |.nx _ S1=>.ok .non S1
 |.rt w S1=>.ok w S1
 |.ex c _ S1=>.exc c S1
 |_=>.bad else .bad
section
def Bqx{P:cD}{w:dW}{K:aB}{mg:t6->o9 aF}{base:dI}{i:Bool}{x qual:t6}{st:cO}{f:aH}{fd:dN}{N ps:lg t6}{k:Nat}{e:Sp}(F:Fun K x qual st f fd)(S:Hn N ps Am[st])(len:∀c H Q E,e c H Q E->c.length=ps.length)(hbody:∀(a:aF)(A:eQ)(outer:lg Env)(s:aO)(H:Hp)(c:lg V)(Q:VK)(E:XK),fd.code=a->Fx k A.deeper[envOfC qual Am[st] s.heap.objs.size f a] i->e c H Q E->
   ∃t,WSs (Aa8 (CXo P w) P w K mg base N qual Am[st] f a A outer s H E i) Bc[st] t/\t { nx:=λy u=>Q .non u,rt:=Q } (start N c) H):Hw P w K mg base (CXo P w) (k+1) f fd ps e i:=by
 let(C,B,G,kV,p,z,I,a,ct,l,rfl,m,h):=F.ex;exact Bg9 m h S len λA outer s H c Q E o g=>by
  let(t,n,q):=hbody a A outer s H c Q E rfl o g;exact(t,n.un,q)
def Bhl{G:Th}{P:cD}{w:dW}{K:aB}{mg:t6->o9 aF}{base:dI}{y:Bool}{x qual:t6}{st:cO}{f:aH}{fd:dN}{N ps:lg t6}{k:Nat}{b:MS}(F:Fun K x qual st f fd)(Sc:Hn N ps Am[st])(hbody:∀(a:aF)(A:eQ)(outer:lg Env)(s:aO)(H:Hp)(E:XK),fd.code=a->Fx k A.deeper[envOfC qual Am[st] s.heap.objs.size f a] y->
   WSs[Aa8 (CXo P w) P w K mg base N qual Am[st] f a A outer s H E y][Bc st][tS G (λI=>E) b]):Hw P w K mg base (CXo P w) (k+1) f fd ps spF[G][Cg ps.length N.length b] y:=by
 refine Bqx F Sc (λO H Q E h=>?_) λa A outer s H O Q E X U h=>(_,hbody a A outer s H E X U,?_)
 .let(C,S,g,R,r,q):=h;unfold Cg at q;by_cases j:g.length=ps.length
  .exact r.length.symm.trans j
  .rw[dm j] at q;exact q.elim
 .let(C,S,g,R,r,q):=h;unfold Cg at q;by_cases j:g.length=ps.length
  .rw[di j] at q;refine(C,S,Eb N.length g,R,by
     let J:=r.length;refine(by simp only[Eb,L2.start,bH,aJ,eY,J],λi u e=>?_)
     let hi:i < g.length:=by
      by_cases hi:i < g.length
      .exact hi
      .unfold Eb at e;rw[bG (by rw[aJ];omega),lC] at e
       split at e <;> cases e
     unfold Eb at e;rw[bD[by rwa [aJ]],bK] at e
     let(u',e1,Z):=bI.mp e;cases Z;let(v,ev,T):=r.get e1;refine(v,?_,T);unfold L2.start;rw[bD[by rwa [aJ,<-J]],bK,ev]
     rfl,?_)
   cases e:b (Eb N.length g) S with
   |nx Y n=>rw[e] at q;exact λd B o t p z I=>q d B .non t p z .non
   |rt u n=>rw[e] at q;trivial
   |ex c Y n=>rw[e] at q;exact λd B o t p z I=>q d B t p z
   |bk Y n=>rw[e] at q;exact q.elim
   |ct Y n=>rw[e] at q;exact q.elim
   |bad=>rw[e] at q;exact q.elim
  .rw[dm j] at q;exact q.elim
end
def Qv(op op':vQ)(f g h:De->M W):De->M W:=λY=>do
 let x<-f Y;let y<-g Y;let z<-Fo op x y
 asB z λb=>if b then do let u<-h Y;Fo op' y u else pure .bl[t7]
def Bod(s:Tg)(f:De->M W):MS:=λY=>Gb f[Y] (λw Y S=>match s w Y with
 |some Y1=>.nx Y1 S
 |none=>.bad) Y
section
def Aik(o:Bjo a X op)(C:Bjo a X l):∀b H Q,tF a E (Qv op l f g h) b H Q->Ao9 o.r C.r (tF a E f) (tF a E g) (tF a E h) b H Q:=by
 rintro b H Q ⟨G,S,Y,R,j,q⟩;refine(G,S,Y,R,j,(Av.seq (Rel:=RV a) q).mono ?_);rintro I H1 ⟨i,S1,x,B,s,R1,O,q1⟩;refine(i,S1,Y,R1,j.mono B s,(Av.seq (Rel:=RV a) q1).mono ?_);rintro m H2 ⟨e,S2,y,A,p,R2,t,q2⟩;let Z:=Av.seq (Rel:=RV a) q2;refine o.by_ e S2 H2 x y I m _ E[b] R2 (O.mono A p) t Z.mono[?_];rintro vz H3 ⟨d,S3,z,w,n,F,N,U⟩;let(k,rfl,v):=Afb N U;refine(k,rfl,?_);cases k with
 |false=>exact L2.Api (v.now F .bl[_])
 |true=>
  refine L2.Ami (d,S3,Y,F,((j.mono B s).mono A p).mono w n,(Av.seq (Rel:=RV a) v).mono ?_);rintro J H4 ⟨c,S4,u,p4,L,R4,P,T⟩;exact C.by_ c S4 H4 y u m J Q E[b] R4 ((t.mono w n).mono p4 L) P T
def Bj0(x:WE X e (tF d E f))(u:WG X a t)(z:GOk d s t)(hs:swapsWithSole [a] e i.line X.env=pure t7)(r:swappedStores [a] e X.env=pure sy)(y:(assignEach [a] X.env).map (·.2)=[assign a X.env]):
  WS X (.Assign [a] e i) tS[d][E][Bod s f]:=(WS.weak ⟨Bid x.un u.un hs r y⟩ λD n H ⟨ρ,S,Y,R,sl,q⟩=>by
 refine(ρ,S,Y,R,sl.2,(Ea.lift (Rel:=RV d) sl q).mono ?_);rintro v C ⟨c,B,w,G,F,l,g,p,b⟩;cases j:s w Y with
 |none=>simp only[j] at b;exact b.elim
 |some A=>
  simp only[j] at b;exact z c B C w v Y A n _ l g p j λm h=>b.nxt l h)
end
end D
namespace L2
open PySem PySem.Spec PyProof.Rows
def Ayg{i j:Nat}(S:PE X e J)(T:X.calm=t8)(hN:X.N.Nodup)(hi:X.N[i]?=sr x)(Q:X.N[j]?=sr y)(F:X.env.scope.names.lookup x=sr .local)(E:X.env.scope.names.lookup y=sr .local)(hs:swapsWithSole [B] e t.line X.env=pure t7)(O:X.env.scope.kind=.function->swappedStores [B] e X.env=pure sr[[x,y]]):
  PS X (.Assign [B] e t) (λD d H=>J d H λv k=>∃a m l,v=.ref a/\k a=sr .tup[[m,l]]/\D.nx ((d.set j sr[l]).set i sr[m]) k):=by
 intro G s d H D I h;rw[exec_Assign_arm];refine aA gZ[?_];rw[hs];refine aA aG[?_];rw[dm ()]
 refine aA[thn[S G s d H _ I h] λu C ⟨v,k,I1,r1,a,m,l,ev,ha,q⟩=>?_];subst ev;cases (show u=bJ a from r1);rw[O I1.ok.kind];refine aA aG[?_];unfold assignStores;dsimp only;refine aA oH[?_];let(z,w,rs,P):=(show _/\_ from I1.hok a _ ha);obtain⟨g,f,rfl,r,p⟩:∃g f,w=[g,f]/\RelV m g/\RelV l f:=by
  cases rs with
  |cons r rs=>
  cases rs with
  |cons p rs=>
  cases rs;exact(_,_,rfl,r,p)
 rw[show ([x,y]:lg t6).length=([g,f]:lg aF).toArray.size from rfl];refine aA (wpAny_unpackItems_tuple (items:=([g,f]:lg aF).toArray) I1.ok.hd[T] P λh' A=>?_);let I2:Inv X G d k { C with heap:=h' }:=I1.kept (t':=C.toks) λb o e=>A b o bR[aZ[e]] e
 apply aA;refine aA eV[aAp[R0 I2 hN Q .inl[E] p (λs3 I3=>?_) .inr[E]]];refine aA eV[aAp[R0 I3 hN hi .inl[F] r (λs4 I4=>?_) .inr[F]]];exact aG[aG (_,k,I4,q)]
end L2
namespace D
open PySem PySem.Spec PyProof.Rows L2
def Ad5:bO->Bool
 |.Starred _ _=>t7
 |_=>t8
def Apx{env:Env}{x y:t6}{px f p g:o8}{j k:Nat}{a b:bO}(q:env.scope.kind=.function)(m:env.scope.names.lookup x=sr .local)(l:env.scope.names.lookup y=sr .local)(o:f.line=px.line)(n:x≠y)(A:Ad5 a=t8)(w:Ad5 b=t8)(hf:(foldedForSure 8 a&&foldedForSure 8 b)=t7)(r:(constantsAlone 8 a&&constantsAlone 8 b)=t7):swappedStores [.Tuple [.Name x px,.Name y f] j p] (.Tuple [a,b] k g) env=pure sr[[x,y]]:=by
 let d:env.blockKind=.function:=by unfold aBi;rw[q];rfl
 let i:env.kindOf x=_:=m;let h:env.kindOf y=_:=l;unfold swappedStores;simp[d,i,h,o,Expr.pos,hf,r,List.eraseDups,List.eraseDupsBy];rw[dm (by
  rintro(z|z)
  .cases a <;> first|trivial|rfl
  .cases b <;> first|trivial|cases z)]
 let e:=beq_eq_false_iff_ne.mpr bN[n];simp[aCi,e]
def Bdz(i j:Nat)(f:De->M W):MS:=λY=>Gb f[Y] (λw Y S=>match w with
 |.tup [a,b]=>.nx ((Y.set j sr[b]).set i sr[a]) S
 |_=>.bad) Y
def Bd0{i j:Nat}(A:WE X e (tF m E f))(B:X.calm=t8)(hN:X.N.Nodup)(hi:X.N[i]?=sr x)(z:X.N[j]?=sr y)(t:X.env.scope.names.lookup x=sr .local)(s:X.env.scope.names.lookup y=sr .local)(hs:swapsWithSole [d] e c.line X.env=pure t7)(u:X.env.scope.kind=.function->swappedStores [d] e X.env=pure sr[[x,y]]):WS X (.Assign [d] e c) tS[m][E][Bdz i j f]:=(WS.weak ⟨Ayg A.un B hN hi z t s hs u⟩ λD I H ⟨ρ,S,Y,R,sl,q⟩=>by
 refine(ρ,S,Y,R,sl.2,(Ea.lift sl q).mono ?_);rintro v Q ⟨k,P,w,O,L,F,b,n,h⟩;split at h
 .let(a,J,rfl,C,r):=n.tI;cases r with
  |cons p r=>
  cases r with
  |cons o r=>
  cases r;exact(a,_,_,rfl,C,h.nxt F ((b.set o).set p))
 trivial)
def noX{α:Type}(m:M α):M α:=λS=>match m S with
 |.ok a S1=>.ok a S1
 |_=>.bad
abbrev E0s:L2.St->XK:=λuw uw uw uw=>False
def W7(k:Nat)(cap:lg Nat)(Y:De):De:=cL k sy ++ cap.map λj=>Y.getD j sy
def K3(s:Tg)(t:De->M Bool)(e:De->M W):lg W->De->lg W->M lg[W]
 |[],_,acc=>pure acc
 |w::ws,Y,acc=>match s w Y with
  |none=>bad
  |some Y1=>do
   let b<-noX t[Y1]
   if b then do
    let y<-e Y1
    if acc.length < big then K3 s t e ws Y1 (acc ++ [y]) else bad
   else K3 s t e ws Y1 acc
def nxF(e:De->M W):De->M W:=λY=>noX e[Y]
def Wj(s:Tg)(t:De->M Bool)(e:De->M W):lg W->De->lg W->M lg[W]:=K3 s t nxF[e]
section
def Ad6{c b d:Type}(m:M c)(f:c->M b)(k:b->M d)(S:Store):((m >>= f) >>= k) S=(m >>= λa=>f a >>= k) S:=by
 show M.bind (M.bind m f) k S=M.bind m _ S;unfold M.bind;cases m S <;> rfl
def Av.seqB{i s n o:Type}{Rel:lg aH->Hp->i->s->Prop}{a:lg aH->Hp->n->o->Prop}{m:M i}{f:i->M n}{Q:o->Hp->Prop}(h:Av j a b l ((noX m >>= f) S) Q E)(F:XK):
  Av j Rel ρ H m[S] (SqQ j Rel a ρ H b l f Q E) F:=by
 let h:Av j a b l (M.bind _ f S) Q E:=h;unfold M.bind noX at h;cases e:m S with
 |bad=>rw[e] at h;exact h
 |exc c q=>rw[e] at h;trivial
 |ok w q=>
  rw[e] at h;exact λg l v p t r k=>(g,q,w,p,t,r,k,h)
end
def Av.seqX{i:Th}{ρ a:lg aH}{S:Store}{H g:Hp}{E:XK}{l u o q:Type}{Rel:lg aH->Hp->l->u->Prop}{b:lg aH->Hp->o->q->Prop}{m:M l}{f:l->M o}{Q:q->Hp->Prop}(h:Av i b a g ((m >>= f) S) Q E)(y:a <+: ρ)(x:Cd a ρ g H):
  Av i Rel ρ H m[S] (SqQ i Rel b ρ H a g f Q E) E:=by
 let h:Av i b a g (M.bind m f S) Q E:=h;unfold M.bind at h;cases e:m S with
 |bad=>rw[e] at h;exact h
 |exc c s=>rw[e] at h;exact λk z p t r=>h k z y.trans[p] x.trans[t] r
 |ok w s=>
  rw[e] at h;exact λj g v p t r n=>(j,s,w,p,t,r,n,h)
def Apy:HO->Bool
 |.lst _=>t8
 |.dK _=>t8
 |_=>t7
def Ar1{H:Hp}(p:c <+: a)(n:∀b,b∈a->b∈c\/∃o,H b=sr o/\Apy o=t8):RVm e c a H H:=(
 have k {b:aH} {o:HO} (h:H b=sr o) (z:Apy o=t7) (m:b∉c):b∉a:=λy=>(n b y).elim m λ⟨u,q,d⟩=>by rw[h] at q;cases q;rw[z] at d;cases d
 (Axq p,λh=>h,λh=>h,λh m=>(k h rfl m,h),λh m=>(k h rfl m,h)))
def RV.grow{H:Hp}(p:ρ <+: ρ')(n:∀b,b∈ρ'->b∈ρ\/∃o,H b=sr o/\Apy o=t8):RV Θ ρ H w v->RV Θ ρ' H w v:=RV.map[Ar1 p n]
def RVs.grow{H:Hp}(p:ρ <+: ρ')(n:∀b,b∈ρ'->b∈ρ\/∃o,H b=sr o/\Apy o=t8):RVs Θ ρ H ws vs->RVs Θ ρ' H ws vs:=RVs.map[Ar1 p n]
section
def Ig.grow(p:i <+: e)(n:∀b,b∈e->b∈i\/∃o,H b=sr o/\Apy o=t8)(h:Ig j i H a c):Ig j e H a c:=by
 cases c with
 |lst f=>let(d,h,r):=h;exact(d,h,r.grow p n)
 |dct f=>let(d,h,r):=h;exact(d,h,Paired.imp2 (λg g z=>(z.1,z.2.grow p n)) r)
 |ins c f=>let(l,d,h,r):=h;exact(l,d,h,Paired.imp2 (λg g z=>(z.1,z.2.grow p n)) r)
 |dead=>exact h
 |clo k f=>let(d,h,r):=h;exact(d,h,r.grow p n)
 |tab q=>exact h
theorem Rep.take(R:Rep k e S H)(q:D∉e)(h:H D=sr .lst[l])(r:RVs k e H i l):Rep k (e ++ [D]) (S ++ [.lst i]) H where
 len:=by rw[bH,bH,R.len];rfl
 nd:=by
  rw[iG];refine(R.nd,(),λa p b f=>?_)
  obtain rfl:b=D:=by simpa using f
  rintro rfl;exact q p
 tb:=R.tb.trans (bL _ _)
 at_:=λn a d g j=>by
  by_cases m:n < e.length
  .rw[bD m] at g;rw[bD (by rw[<-R.len];exact m)] at j
   exact(R.at_ n a d g j).grow (bL _ _) (λb f=>by
    rcases bF.mp f with z|z
    .exact .inl z
    .obtain rfl:=aM.mp z;exact .inr (_,h,rfl))
  .let o:=(aK.mp g).1;rw[bH,eZ] at o;obtain rfl:n=e.length:=by omega
   rw[bG aN[_],gF] at g;rw[R.len,bG aN[_],gF] at j;obtain rfl:D=a:=by simpa using g
   obtain rfl:Cell.lst i=d:=by simpa using j
   exact(l,h,r.grow (bL _ _) (λb f=>by
    rcases bF.mp f with z|z
    .exact .inl z
    .obtain rfl:=aM.mp z;exact .inr (_,h,rfl)))
def Ar2(own:lg t6)(cap:lg Nat)(h:RSl g f H Y d):RSs g f H (W7 own.length cap Y) (Aua own cap d):=by
 refine(by simp[W7,Aua],λi w e=>?_)
 unfold W7 at e;unfold Aua;by_cases hi:i < own.length
 .rw[bD[eY ▸ hi],lC] at e;simp_all
 .rw[bG (by rw[eY];omega),eY,bK] at e
  rw[bG (by rw[eY];omega),eY,bK]
  let(j,l,a):=bI.mp e;rw[l];rw[cA] at a;cases c:Y[j]? with
  |none=>rw[c] at a;cases a
  |some o=>
   rw[c] at a;subst a;let(v,p,k):=h j w c;exact(v,by simp_all,k)
end
section
def Ri(H:Hp)(D:aH):Prop:=H D=sy\/∃o,H D=sr o/\Apy o=t8
def Ri.t(h:Ri H D):∀b a,H b=sr .tup[a]->upd H D o b=sr .tup[a]:=(λb a q=>by
 rw[Aj (by rintro rfl;rcases h with h|⟨o,h,m⟩ <;> rw[h] at q <;> cases q;cases m)];omega)
def Ri.f(h:Ri H D):∀b ob u,H b=sr[.frz ob u]->upd H D o b=sr[.frz ob u]:=(λb ob u q=>by
 rw[Aj (by rintro rfl;rcases h with h|⟨o,h,m⟩ <;> rw[h] at q <;> cases q;cases m)];omega)
def Ri.g(h:Ri H D):∀b o,H b=sr o->Aif o=t8->upd H D a b=sr o:=(λb o q n=>by
 rw[Aj (by
  rintro rfl;rcases h with h|⟨u,h,m⟩ <;> rw[h] at q <;> cases q
  cases o <;> first|(cases m;done)|(cases n;done))];exact q)
theorem Rep.off(R:Rep e b S H)(f:D∉b)(h:Ri H D):Rep e b S (upd H D o) where
 len:=R.len
 nd:=R.nd
 tb:=R.tb
 at_:=λn a c d i=>by
  let ne:a≠D:=by
   rintro rfl;exact f dX[d]
  exact(R.at_ n a c d i).keep Aj[ne] h.g
theorem RSs.off(r:RSs c b H Y a)(h:Ri H D):RSs c b (upd H D o) Y a:=(r.1,λi w e=>by
 let(v,f,d):=r.2 i w e;exact(v,f,d.keep h.g))
theorem Cd.off(t:Cd a g H1 H)(i:H1 D=sy)(h:Ri H D):Cd a g H1 (upd H D o) where
 t:=λb d q=>h.t b d (t.t b d q)
 f:=λb ob u q=>h.f b ob u (t.f b ob u q)
 k:=λb ob q m=>by rw[Aj (by rintro rfl;rw[i] at q;cases q)];exact t.k b ob q m
 n:=t.n
def Ail(k:∀σ H Q,tF d (λuw=>E) ef σ H Q->te σ H Q)(gk:GOk d s g)(jk:JOk d J all c H1)(R:Rep d c S H1)(sl:RSs d c H1 Y σ)(O:H1 D=sy)(q:Av d RV[d] c H1 ((K3 s tf ef all Y [] >>= Dg) S) Q E):
  Ah9 J g (tFb d E0s tf) te D σ H1 Q:=by
 let nD:D∉c:=λz=>by
  let(o,ho):=R.tracked z;rw[O] at ho;cases ho
 refine(λi m u C B=>∃ρ S Y' L,i<=all.length/\c <+: ρ/\Cd c ρ H1 B/\D∉ρ/\Rep d ρ S B/\RSs d ρ B Y' C/\RVs d ρ B L u/\m=(all.drop i).length/\Av d RV[d] c H1 ((K3 s tf ef all.drop[i] Y' L >>= Dg) S) Q E,
  (_,c,S,Y,[],cP _,aP _,(Cd.refl ..).off O .inl[O],nD,R.off nD .inl[O],sl.off .inl[O],.nil,rfl,q),?_)
 rintro i m u C B ⟨ρ,S,Y',L,li,p,t,mD,U,N,T,rfl,r⟩ h;by_cases hi:i < all.length
 .let(go,yl):=jk.go ρ B i p t hi;refine .inr (go,λx P hy=>?_);let(ty,Ry,w,ew,rv):=yl x P hy;let U:=Ry _ U;let N:=N.mono aP[_] ty;let t:=t.trans ty;let T:=T.mono aP[_] ty;let h:=ty.k D _ h mD;let ed:all.drop i=w::all.drop[i+1]:=by
   let(hl,e):=aK.mp ew;exact e ▸ gH hl
  let hm:(all.drop[i+1]).length < (all.drop i).length:=by simp_all
  rw[ed] at r;unfold K3 at r;cases es:s w Y' with
  |none=>simp only[es] at r;exact bZ r
  |some Y2=>
   simp only[es] at r;refine gk ρ S P w x Y' Y2 C _ U N rv es λσ2 l=>(ρ,S,Y2,U,l.2,?_);rw[Ad6] at r;apply (Av.seqB (Rel:=λuw uw a b=>a=b) (ρ:=ρ) (H:=P) r _).mono;rintro b H3 ⟨I,S3,b',v,j,R3,e3,X⟩;let e3:b'=b:=e3;subst e3;let out:∀{G F:lg aH} {Ha Hb:Hp},D∉G->Ha D=sr .lst[u]->Cd G F Ha Hb->D∉F/\Hb D=sr .lst[u]:=λ{G F Ha Hb} m1 m2 m3=>by
    refine(λz=>?_,m3.k D _ m2 m1);rcases m3.n D z with z|z
    .exact m1 z
    .rw[m2] at z;cases z
   let(mD3,hD3):=out mD h j;cases b' with
   |false=>
    rw[dm cV] at X ⊢
    exact(hD3,_,hm,I,S3,Y2,L,hi,p.trans v,t.trans j,mD3,R3,l.mono v j,T.mono v j,rfl,X)
   |true=>
    rw[di rfl] at X ⊢
    rw[Ad6] at X;refine k _ _ _ (I,S3,Y2,R3,(l.mono v j).2,(Av.seqX (Rel:=RV d) (ρ:=I) (H:=H3) X p.trans[v] t.trans[j]).mono ?_);rintro y H4 ⟨ρ4,S4,yw,p4,t4,R4,ry,q4⟩;let(Z,hD4):=out mD3 hD3 t4;by_cases hz:L.length < big
    .rw[di hz] at q4;let fl:Ri H4 D:=.inr (_,hD4,rfl);let ra4:=(T.mono v j).mono p4 t4;refine(hD4,T.length ▸ aQ hz (),_,hm,ρ4,S4,Y2,L ++ [yw],hi,(p.trans v).trans p4,((t.trans j).trans t4).off O fl,Z,R4.off Z fl,((l.mono v j).mono p4 t4).off fl,?_,rfl,q4)
     exact(ra4.append[.cons ry .nil]).keep fl.g
    .rw[dm hz] at q4;cases q4
 .rw[iH ()] at r
  refine .inl (jk.stop ρ B i t (),?_)
  let q2:Av d RV[d] c H1 (Dg L S) Q E:=r;simp only[Dg] at q2;split at q2
  .refine q2 (ρ ++ [D]) B .ref[D] p.trans[bL ..] (t.t,t.f,t.k,λb hb=>?_) (U.take mD h T) .ref[?_]
   .rcases bF.mp hb with z|z
    .exact t.n b z
    .obtain rfl:b=D:=by simpa using z
     exact .inr O
   .exact U.len ▸ La
  .exact bZ q2
end
def Jk(s:Tg)(t:De->M Bool)(e:De->M W)(gt:Store->Nat->o9 o9[W]):Nat->Nat->De->lg W->M lg[W]
 |0,_,_,_=>bad
 |m+1,i,Y,acc=>λS=>match gt S i with
  |none=>.bad
  |some sy=>.ok acc S
  |some (sr w)=>match s w Y with
   |none=>.bad
   |some Y1=>(noX t[Y1] >>= λb=>if b=t8 then noX e[Y1] >>= λy=>if acc.length < big then Jk s t e gt m (i+1) Y1 (acc ++ [y]) else bad else Jk s t e gt m (i+1) Y1 acc) S
def Gd(k:Nat)(cap:lg Nat)(src:De->M Src)(s:Tg)(t:De->M Bool)(e:De->M W):De->M W:=λY=>do
 let z<-src Y
 match z with
 |.fix ws=>Wj s t e ws (W7 k cap Y) [] >>= Dg
 |.liv n=>λS=>match S[n]? with
  |some (.lst ws)=>(Jk s t e liG[n] (ws.length+1) 0 (W7 k cap Y) [] >>= Dg) S
  |_=>.bad
 |.zl n m=>λS=>match S[n]? with
  |some (.lst ws)=>(Jk s t e (zlG n m) (ws.length+1) 0 (W7 k cap Y) [] >>= Dg) S
  |_=>.bad
 |.el _=>bad
section
def after{α β:Type}(f:α->M β):R α->R β
 |.ok a S1=>f a S1
 |.exc c S1=>.exc c S1
 |.bad=>.bad
def Xv{a b:Type}{m:M a}{f:a->M b}{r:R a}(e:m S=r):(m >>= f) S=after f r:=by
 show M.bind m f S=_;unfold M.bind;rw[e];rfl
end
section
def Am1{gt:Store->Nat->o9 o9[W]}{f:Nat}(gk:GOk d s g)(jk:JLv d J gt c)(R:Rep d c S H1)(sl:RSs d c H1 Y σ)(X:H1 D=sy)(q:Av d RV[d] c H1 ((Jk s u A gt f 0 Y [] >>= Dg) S) Q E):
  Ah9 J g (tFb d E0s u) (tF d E0s A) D σ H1 Q:=by
 let nD:D∉c:=λz=>by
  let(o,ho):=R.tracked z;rw[X] at ho;cases ho
 refine(λi m B L I=>∃ρ S Y' e,c <+: ρ/\Cd c ρ H1 I/\D∉ρ/\Rep d ρ S I/\RSs d ρ I Y' L/\RVs d ρ I e B/\Av d RV[d] c H1 ((Jk s u A gt m i Y' e >>= Dg) S) Q E,
  (f,c,S,Y,[],aP _,(Cd.refl ..).off X .inl[X],nD,R.off nD .inl[X],sl.off .inl[X],.nil,q),?_)
 rintro i m B L I ⟨ρ,S,Y',e,p,t,mD,F,T,ra,l⟩ h;cases m with
 |zero=>exact bZ l
 |succ m=>
  cases eg:gt S i with
  |none=>rw[Xv (r:=.bad) (by unfold Jk;simp only[eg])] at l;exact bZ l
  |some o=>
   cases o with
   |none=>
    rw[Xv (r:=.ok e S) (by unfold Jk;simp only[eg])] at l
    refine .inl (jk.stop ρ S I i p F eg,?_);let q2:Av d RV[d] c H1 (Dg e S) Q E:=l;simp only[Dg] at q2;split at q2
    .refine q2 (ρ ++ [D]) I .ref[D] p.trans[bL ..] (t.t,t.f,t.k,λb hb=>?_) (F.take mD h ra) .ref[?_]
     .rcases bF.mp hb with z|z
      .exact t.n b z
      .obtain rfl:b=D:=by simpa using z
       exact .inr X
     .exact F.len ▸ La
    .exact bZ q2
   |some w=>
    let(go,yl):=jk.go ρ S I i w p F eg;refine .inr (go,λx Z hy=>?_);let(ty,Ry,rv):=yl x Z hy;let F:=Ry _ F;let T:=T.mono aP[_] ty;let t:=t.trans ty;let ra:=ra.mono aP[_] ty;let h:=ty.k D _ h mD;cases es:s w Y' with
    |none=>rw[Xv (r:=.bad) (by unfold Jk;simp only[eg,es])] at l;exact bZ l
    |some j=>
     let l:Av d RV[d] c H1 (((noX u[j] >>= λb=>if b=t8 then noX A[j] >>= λy=>if e.length < big then Jk s u A gt m (i+1) j (e ++ [y]) else bad else Jk s u A gt m (i+1) j e) >>= Dg) S) Q E:=by
      let e3:Jk s u A gt (m+1) i Y' e S=(noX u[j] >>= λb=>if b=t8 then noX A[j] >>= λy=>if e.length < big then Jk s u A gt m (i+1) j (e ++ [y]) else bad else Jk s u A gt m (i+1) j e) S:=by
       conv=>lhs;unfold Jk
       simp only[eg,es]
      rw[Xv e3] at l
      rwa [Xv rfl]
     refine gk ρ S Z w x Y' j L _ F T rv es λσ2 v=>(ρ,S,j,F,v.2,?_);rw[Ad6] at l;apply (Av.seqB (Rel:=λuw uw a b=>a=b) (ρ:=ρ) (H:=Z) l _).mono;rintro b H3 ⟨P,S3,b',U,C,R3,e3,q3⟩;let e3:b'=b:=e3;subst e3;let out:∀{O N:lg aH} {Ha Hb:Hp},D∉O->Ha D=sr .lst[B]->Cd O N Ha Hb->D∉N/\Hb D=sr .lst[B]:=λ{O N Ha Hb} m1 m2 m3=>(m3.out m2 m1,m3.k D _ m2 m1);let(mD3,hD3):=out mD h C;cases b' with
     |false=>
      rw[dm cV] at q3 ⊢
      exact(hD3,m,gV m,P,S3,j,e,p.trans U,t.trans C,mD3,R3,v.mono U C,ra.mono U C,q3)
     |true=>
      rw[di rfl] at q3 ⊢
      rw[Ad6] at q3;refine(P,S3,j,R3,(v.mono U C).2,(Av.seqB (Rel:=RV d) (ρ:=P) (H:=H3) q3 _).mono ?_);rintro y H4 ⟨ρ4,S4,yw,p4,t4,R4,ry,q4⟩;let(mD4,hD4):=out mD3 hD3 t4;by_cases hz:e.length < big
      .rw[di hz] at q4;let fl:Ri H4 D:=.inr (_,hD4,rfl);let ra4:=(ra.mono U C).mono p4 t4;refine(hD4,ra.length ▸ (aQ hz ()),m,gV m,ρ4,S4,j,e ++ [yw],(p.trans U).trans p4,((t.trans C).trans t4).off X fl,mD4,R4.off mD4 fl,((v.mono U C).mono p4 t4).off fl,?_,q4)
       exact(ra4.append[.cons ry .nil]).keep fl.g
      .rw[dm hz] at q4;cases q4
end
section
variable{cap:lg Nat}
def compX(k:Nat)(cap:lg Nat)(src:De->M Src)(s:Tg)(t:De->M Bool)(e:De->M W):De->M W:=λY=>do
 let z<-src Y
 match z with
 |.fix ws=>K3 s t e ws (W7 k cap Y) [] >>= Dg
 |_=>bad
def Bd1(I:Stk X/\Frm X/\X.ex=[]/\Xi X E)(G:X.calm=t8)(L:X.env.scope=sc)(hi:WI X j a (tFi b E src))(B:∀C s H ex,WG (X.comp scope own cap C s H ex) j g)(O:GOk b s g)(A:∀C s H ex,WTs[X.comp scope own cap C s H ex][f][tFb b E0s p])(F:∀C s H ex xe l,Ed[CXo X.prog X.w][X.compX scope own cap C s H ex xe][l]->WE[X.compX scope own cap C s H ex xe][h][tF b l P])(c:CcA X cap scope)(U:scope.kind=.function)(ak:scope.names.all[λy=>decide[y.2≠.cell]]=t8)(Z:CcN scope)(T:CcF scope sc)(hs:∀x,foldedSetIterable a X.env x=pure x):
  WE X (.ListComp h [(j,a,f,0)] scope u) tF[b][E][compX own.length cap src s p P]:=(
 WE.weak (Bi6 I G L hi B A F c U ak Z T hs) (λσ H Q ⟨ρ,S,Y,R,sl,q⟩=>by
  refine(ρ,S,Y,R,sl,(Av.seq (Rel:=Adt b) q).mono ?_);rintro J H1 ⟨m,S1,z,v,r,R1,t,e⟩ D hD;let d:=Ar2 own cap (sl.mono v r);cases z with
  |fix ws=>exact Ail (λi i i z=>z) O t R1 d hD e
  |liv n=>exact bZ e
  |_=>exact bZ e))
def Am2(r:GOk h s g):∀j H Q,tF h E (Gd own.length cap src s A u) j H Q->Aia (tFi h E src) g (tFb h E0s A) (tF h E0s u) own cap j H Ams[Q]:=(λj H Q ⟨ρ,S,Y,R,sl,q⟩=>by
  replace q:=q.mono (Q':=Ams Q) λy y=>.inl
  refine(ρ,S,Y,R,sl,(Av.seq (Rel:=Adt h) q).mono ?_);rintro J I ⟨x,v,z,C,B,i,l,d⟩ D hD;let f:=Ar2 own cap (sl.mono C B);cases z with
  |fix G=>exact Ail (λj H Q ⟨ρ,S,Y,i,f,d⟩=>(ρ,S,Y,i,f,by
 unfold nxF noX at d;cases e:u Y S with
 |ok w v=>rw[e] at d;exact d
 |exc c v=>rw[e] at d;exact bZ d
 |bad=>rw[e] at d;exact d)) r l i f hD d
  |liv n=>
   let(a,o,rfl):=l;simp only at d;split at d
   .exact Am1 r Ax6[o] i f hD d
   .exact bZ d
  |zl n m=>
   let(a,b,o,F,rfl):=l;simp only at d;split at d
   .exact Am1 r (Ax7 o F) i f hD d
   .exact bZ d
  |el n=>cases d)
def Bj1(w:X.calm=t8)(A:X.env.scope=sc)(hi:WI X m a n)(u:∀C s H ex,WG (X.comp scope own cap C s H ex) m g)(f:∀l H Q,tF b E F l H Q->Aia n g (tFb b E0s o) (tF b E0s B) own cap l H Ams[Q])(r:∀C s H ex,WTs[X.comp scope own cap C s H ex][h][tFb b E0s o])(v:∀C s H ex,WE[X.comp scope own cap C s H ex][k][tF b E0s B])(d:CcA X cap scope)(I:scope.kind=.function)(L:scope.names.all[λy=>decide[y.2≠.cell]]=t8)(J:CcN scope)(G:CcF scope sc)(hs:∀x,foldedSetIterable a X.env x=pure x):
  WE[X][.ListComp k [(m,a,h,0)] scope p][tF b E F]:=(
 WE.weak (by
   refine⟨PE.thaw <| Bch w A hi.un (λC s H ex=>(u C s H ex).un) (λC s H ex=>(r C s H ex).un) (λC s H ex=>(v C s H ex).un) (λj t=>?_) I (λy c=>?_) (λy c i=>?_) (λy c i=>?_) hs⟩
   .let q:=bB.mp d j t;cases e:X.N[j]? with
    |none=>rw[e] at q;cases q
    |some x=>rw[e] at q;exact(x,rfl,dg q)
   .exact dg[bB.mp L y c]
   .let q:=bB.mp J y c;rw[dj i] at q;exact dg q
   .let q:=bB.mp G y c;rw[dj i] at q;rcases qJ.mp q with z|z
    .cases z
    rcases qJ.mp z with z|z
    .exact .inl dg[z]
    .exact .inr dg[z]) f)
end
def Afi(kvs:lg[Key×W]):M W:=λS=>.ok[.ref S.length][S ++ [.dct kvs]]
def Sw(kvs more:lg[Key×W]):lg[Key×W]:=more.foldl (λacc kv=>Ab8 acc kv.1 kv.2) kvs
def Jz:lg[(De->M W)×(De->M W)]->De->M lg[Key×W]
 |[]=>λuw=>pure []
 |(f,g)::r=>λY=>do
  let k<-f Y;let v<-g Y;let kvs<-Jz r Y
  match Abi k with
  |some k=>pure ((u6 k v)::kvs)
  |none=>bad
def Sx(l:lg[(De->M W)×(De->M W)]):De->M W:=λY=>do let kvs<-Jz l Y;Afi[Sw [] kvs]
section
theorem Cd.more(t:Cd d a H H')(h:H p=sy):Cd d (a ++ [p]) H H' where
 t:=t.t
 f:=t.f
 k:=t.k
 n:=λb m=>by
  rcases bF.mp m with z|z
  .exact t.n b z
  .obtain rfl:=aM.mp z;exact .inr h
theorem Rep.takeC(R:Rep j e S H)(r:D∉e)(h:H D=sr o)(l:Apy o=t8)(q:Ig j (e ++ [D]) H D c):Rep j (e ++ [D]) (S ++ [c]) H where
 len:=by rw[bH,bH,R.len];rfl
 nd:=by
  rw[iG];refine(R.nd,(),λa p b i=>?_)
  obtain rfl:b=D:=by simpa using i
  rintro rfl;exact r p
 tb:=R.tb.trans (bL _ _)
 at_:=λn a d f g=>by
  by_cases k:n < e.length
  .rw[bD k] at f;rw[bD (by rw[<-R.len];exact k)] at g
   refine(R.at_ n a d f g).grow (bL _ _) (λb i=>?_);rcases bF.mp i with z|z
   .exact .inl z
   .obtain rfl:=aM.mp z;exact .inr (_,h,l)
  .let m:=(aK.mp f).1;rw[bH,eZ] at m;obtain rfl:n=e.length:=by omega
   rw[bG aN[_],gF] at f;rw[R.len,bG aN[_],gF] at g;obtain rfl:D=a:=by simpa using f
   obtain rfl:c=d:=by simpa using g
   exact q
def RKV.merge(r:RKV c b H more rs):∀{kvs:lg[Key×W]} {vs:lg[Key×V]},RKV c b H kvs vs->RKV c b H (Sw kvs more) (Qt vs rs):=by
 induction r with
 |nil=>intro kvs vs q;exact q
 |@cons p q ps qs h t f=>
  intro kvs vs d;let e:RKV c b H (Ab8 kvs p.1 p.2) (putK vs q.1 q.2):=h.1 ▸ d.put p.1 h.2;exact f e
def Bqy(Θ:Th)(ρ:lg aH)(H:Hp)(kws:lg[Key×W])(ps:lg[V×V]):Prop:=∃kvs:lg[Key×V],ps=kvs.map[λkv=>(u6 kV[kv.1] kv.2)]/\RKV Θ ρ H kws kvs
theorem Afj:∀(l:lg[(De->M W)×(De->M W)]) {b:lg aH} {S:Store} {H:Hp} {Q:lg[V×V]->Hp->Prop},Rep c b S H->RSl c b H Y n->Av c Bqy[c] b H (Jz l Y S) Q E[n]->Aj7 (l.map λp=>(u6[tF c E p.1][tF c E p.2])) n H Q
 |[],b,S,H,Q,R,d,q=>Av.now q R ([],rfl,.nil)
 |(f,g)::r,b,S,H,Q,R,d,q=>by
  refine(b,S,Y,R,d,(Av.seq q).mono ?_);rintro T H1 ⟨h,N,k,s,o,P,A,C⟩;refine(h,N,Y,P,d.mono s o,(Av.seq (Rel:=RV c) C).mono ?_);rintro w H2 ⟨u,X,v,G,y,R2,z,B⟩;refine Afj r R2 ((d.mono s o).mono G y) ((Av.seq B).mono ?_);rintro ps Z ⟨t,U,I,F,x,O,⟨m,rfl,i⟩,j⟩;cases e:Abi k with
  |none=>rw[e] at j;trivial
  |some J=>
   rw[e] at j;let L:=Ad3 A e;subst L;exact Av.now j O ((u6 J w)::m,rfl,.cons (rfl,z.mono F x) i)
theorem pairs_len:∀(l:lg[(De->M W)×(De->M W)]) (Y:De) (S m:Store) (a:lg[Key×W]),Jz l Y S=.ok a m->a.length=l.length
 |[],Y,S,m,a,e=>by cases e;rfl
 |(f,g)::r,Y,S,m,a,e=>by
  let e:M.bind f[Y] (λk=>M.bind g[Y] λv=>M.bind (Jz r Y) _) S=_:=e;unfold M.bind at e;cases i:f Y S with
  |ok k q=>
   rw[i] at e;simp only at e;cases h:g Y q with
   |ok v p=>
    rw[h] at e;simp only at e;cases d:Jz r Y p with
    |ok o j=>
     rw[d] at e;simp only at e;cases n:Abi k with
     |none=>rw[n] at e;cases e
     |some s=>rw[n] at e;cases e;rw[fD,fD,pairs_len r Y _ _ _ d]
    |exc c j=>simp_all
    |bad=>rw[d] at e;cases e
   |exc c j=>rw[h] at e;cases e
   |bad=>rw[h] at e;cases e
  |exc c j=>rw[i] at e;cases e
  |bad=>rw[i] at e;cases e
def Bj2:WE[X][.Dict [] [] a][tF d E Sx[[]]]:=(WE.weak ⟨Awz⟩ λb H Q ⟨ρ,S,Y,R,sl,q⟩=>λp hp=>by
 refine q _ _ _ (bL ..) Bj[hp] (R.alloc hp (_,Aq,.nil)) .ref[?_];exact R.len ▸ La)
def Bj3(h:WPs X A a values (l.map λp=>(u6[tF d E p.1][tF d E p.2])))(t:a.all (·.isSome)=t8)(P:a.length=values.length)(Z:a≠[])(B:a.length<=15)(T:l.length=a.length):
  WE[X][.Dict a values A][tF d E Sx[l]]:=(WE.weak ⟨Bcc h.un t P Z B⟩ λu H Q ⟨ρ,S,Y,R,sl,q⟩=>λp hp=>by
 let pn:p∉ρ:=λz=>by
  let(o,I):=R.tracked z;rw[hp] at I;cases I
 let v:Cd ρ ρ H (upd H p .dK[[]]):=Bj hp;let n:Av d RV[d] ρ (upd H p .dK[[]]) (Sx l Y S) Q E[u]:=Av.shift q aP[_] v;cases e:Jz l Y S with
 |bad=>
  let q:Av d RV[d] ρ H M.bind[Jz l Y][λkvs=>Afi[Sw [] kvs]][S] Q E[u]:=q;unfold M.bind at q;rw[e] at q;exact q.elim
 |exc c J=>
  apply Afj l R.beside[hp] (sl.mono aP[_] v);let n:Av d RV[d] ρ (upd H p .dK[[]]) M.bind[Jz l Y][λkvs=>Afi[Sw [] kvs]][S] Q E[u]:=n;unfold M.bind at n;rw[e] at n ⊢
  exact n
 |ok f J=>
  apply Afj l R.beside[hp] (sl.mono aP[_] v);rw[e];rintro i F ps N x R2 ⟨kvs,rfl,m⟩;let s:F p=sr .dK[[]]:=x.k p _ Aq pn;let r:p∉i:=x.out Aq pn;let C:Ri F p:=.inr (_,s,rfl);let y:Av d RV[d] ρ H M.bind[Jz l Y][λkvs=>Afi[Sw [] kvs]][S] Q E[u]:=q;unfold M.bind at y;rw[e] at y;let O:=pairs_len l Y S J f e;refine(s,kvs,rfl,?_,?_)
  .rwa [<-(paired_len m:f.length=kvs.length),O,T]
  .let L:RKV[d][i][upd F p .dK[Qt [] kvs]][Sw [] f][Qt [] kvs]:=Paired.imp2 (λw w z=>(z.1,z.2.keep C.g)) (RKV.merge m (kvs:=[]) (vs:=[]) .nil);let R3:=R2.off (o:=.dK[Qt [] kvs]) r C;let R4:=R3.takeC (c:=.dct[Sw [] f]) r Aq rfl (_,Aq,Paired.imp2 (λw w z=>(z.1,z.2.grow (bL ..) (λb U=>by
    rcases bF.mp U with z|z
    .exact .inl z
    .obtain rfl:=aM.mp z;exact .inr (_,Aq,rfl)))) L)
   refine y (i ++ [p]) _ _ N.trans[bL ..] (((v.trans x).off hp C).more hp) R4 .ref[?_];exact R2.len ▸ La)
end
end D
namespace L2
open PySem PySem.Spec PyProof.Rows
theorem Am3:∀{h:lg V} {c b:lg aF},Vals h c->h.mapM Abd=sr b->c=b
 |[],_,_,.nil,a=>by simp at a;exact a.symm
 |y::r,_,b,.cons j i,a=>by
  rw[aAq] at a;cases f:Abd y with
  |none=>simp_all
  |some k=>
   rw[f] at a;cases e:r.mapM Abd with
   |none=>simp_all
   |some g=>
    rw[e] at a;rw[<-bY a,Amm f j,Am3 i e]
def Au3:Jv X .builtin["isinstance"] (λj H Q=>∃x p i d t b,j=[x,.ref p]/\H p=sr .tup[i]/\TyX X.K H x t/\i.mapM Abd=sr d/\mV X.K t d=sr b/\(∃a C o,x=.ref a/\t=.ref C/\H a=sr[Kz a .ref[C] o]/\W3 X.K C)/\Q .bl[b] H):=by
 intro T s L H j N Q I r h;let(x,p,i,d,t,b,rfl,hp,ty,F,B,(a,C,P,rfl,rfl,E,G),q):=h;let(u,v,rfl,m,l):=vals2 r;cases m;cases l;let(S,g,ri,o,e,c,n,J):=(I.hok p _ hp);let f:g=d:=Am3 ri F;subst f;let(A,O,y,w):=o;let c:A=.type "tuple":=c;subst c J;exact PySem.W.kia_tup Aml[G] I.kIn (Arj I E) e B (λz=>nomatch z) λk=>(.bl b,H,I.tok k,rfl,q)
end L2
namespace D
open PySem PySem.Spec PyProof.Rows L2
def tyW(S:Store):W->o9 String
 |.non=>sr "NoneType"
 |.bl _=>sr "bool"
 |.int _=>sr "int"
 |.str _=>sr "str"
 |.tup _=>sr "tuple"
 |.ref n=>match S[n]? with
  |some (.lst _)=>sr "list"
  |some (.dct _)=>sr "dict"
  |_=>sy
 |_=>sy
def Ad7:lg String:=["int","bool","str","tuple","list","dict"]
def Ayh:lg String:=["NoneType","int","bool","str","tuple","list","dict"]
def Boe(T n:String):Bool:=T==n||(T=="bool"&&n=="int")
def Bj4(Θ:Th):W->o9 aF
 |.ty n=>sr .type[n]
 |.cls c=>sr .ref[Θ.cl[c]]
 |_=>sy
structure Am4(Θ:Th)(isa:Nat->W->Option Bool):Prop where
 ok:∀c k b,isa c k=sr b->W3 Θ.K (Θ.cl c)/\∃cv,Bj4 Θ k=sr cv/\lB Θ.K (.ref (Θ.cl c)) cv=sr b
def asX:W->o9 Nat
 |.exn c _=>sr c
 |_=>sy
def Au4:W->o9 String
 |.ty n=>sr n
 |_=>sy
def Bj5:W->o9 (W×lg W)
 |.tup ws=>unL ws
 |_=>sy
def Bj6{w:W}{c:Nat}(h:asX w=sr c):∃x,w=.exn c x:=by
 cases w <;> cases h
 exact(_,rfl)
def Bd2{w:W}{n:String}(h:Au4 w=sr n):w=.ty n:=by
 cases w <;> cases h
 rfl
def Bd3{w:W}{q:W×lg W}(h:Bj5 w=sr q):w=.tup (q.1::q.2):=by
 cases w <;> first|(rw[Pb h];done)|cases h
def Ar3{b:Th}{c:lg aH}{H:Hp}{d:Type}{S:Store}{o:o9 d}{f:d->M W}{Q:V->Hp->Prop}{E:XK}(h:Av b RV[b] c H (tkG o bad f S) Q E):∃a,o=sr a/\Av b RV[b] c H (f a S) Q E:=by
 cases o with
 |none=>ac_rfl
 |some a=>exact(a,rfl,h)
def RV.xI{c:Nat}{w:W}{v:V}(h:RV e g H (.exn c w) v):∃a o,v=.ref a/\H a=sr[Kz a .ref[e.cl[c]] o]:=by
 cases h with
 |exn z m d=>exact(_,_,rfl,d)
 |exf z m j d=>exact(_,_,rfl,d)
def Hd(isa:Nat->W->o9 Bool):lg W->M W
 |[x,k]=>match asX x with
  |none=>tkG Au4[k] bad λn S=>tkG (tyW S x) bad (λT=>if Ad7.contains n then pure .bl[Boe T n] else bad) S
  |some c=>match Bj5 k with
   |none=>tkG (isa c k) bad λb=>pure .bl[b]
   |some q=>tkG (Dq isa[c] (q.1::q.2)) bad λbs=>pure .bl[bs.any[id]]
 |_=>bad
def Bj7(K:aB)(b:T∈Ayh)(a:n∈Ad7):lB K .type[T] .type[n]=sr[Boe T n]:=by
 simp[Ayh,Ad7] at b a;rcases b with rfl|rfl|rfl|rfl|rfl|rfl|rfl <;> rcases a with rfl|rfl|rfl|rfl|rfl|rfl <;> rfl'
section
nonrec def Bj8(R:Rep d f S H)(k:RV d f H x j)(h:tyW S x=sr T):TyX d.K H j .type[T]/\T∈Ayh:=by
 cases k <;> simp only[tyW,gM,reduceCtorEq] at h <;> try subst h
 .exact(.of .non,())
 .exact(.of .bl[_],())
 .exact(.of .int[_],())
 .exact(.of .str[_],())
 .rename_i m o;exact(.of .tup[m],())
 .rename_i n a e;split at h
  .rename_i i c;cases h;let(g,b,l):=R.at_ _ _ _ e c;exact(.of .lst[b],())
  .rename_i i c;cases h;let(g,b,l):=R.at_ _ _ _ e c;exact(.of .dK[b],())
  .cases h
def Ar4{a:aF}(d:RV b e H k c)(h:Bj4 b k=sr a):Abd c=sr a:=by
 cases d <;> simp only[Bj4,gM,reduceCtorEq] at h <;> subst h <;> rfl
def Apz{X:Cx}(d:aB)(hK:X.K=d):Jv X .builtin["isinstance"] (λf H Q=>∃x p e c t b,f=[x,.ref p]/\H p=sr .tup[e]/\TyX d H x t/\e.mapM Abd=sr c/\mV d t c=sr b/\(∃a C o,x=.ref a/\t=.ref C/\H a=sr[Kz a .ref[C] o]/\W3 d C)/\Q .bl[b] H):=by
 subst hK;exact Au3
def Bd4{isa:Nat->W->o9 Bool}(O:Am4 f isa){c:Nat}{i:lg W}{j:lg V}{bs:lg Bool}(h:RVs f u H i j):Dq isa[c] i=sr bs->∃a,j.mapM Abd=sr a/\mV f.K .ref[f.cl[c]] a=sr bs.any[id]:=(
 RVs.ind (p:=λi j=>∀bs,Dq isa[c] i=sr bs->∃a,j.mapM Abd=sr a/\mV f.K .ref[f.cl[c]] a=sr bs.any[id]) (λv e=>by cases e;exact([],rfl,rfl)) (λh _ t bs e=>by
  let(b,w,r,q,rfl):=Qa e;let(a,o,n):=t _ q;let(_,s,m,l):=O.ok c _ b r;refine(s::a,by rw[aAq,Ar4 h m,o];rfl,?_)
  rw[mV,l];cases b
  .exact n
  .rfl) h bs)
nonrec def Bqz{isa:Nat->W->o9 Bool}(O:Am4 d isa)(R:Rep d F S H)(r:RVs d F H L G)(h:Av d RV[d] F H (Hd isa L S) Q E):
  (∃x c l t b,G=[x,c]/\TyX d.K H x t/\Abd c=sr l/\lB d.K t l=sr b/\Q .bl[b] H)\/∃x p m e t b,G=[x,.ref p]/\H p=sr .tup[m]/\TyX d.K H x t/\m.mapM Abd=sr e/\mV d.K t e=sr b/\(∃a C o,x=.ref a/\t=.ref C/\H a=sr[Kz a .ref[C] o]/\W3 d.K C)/\Q .bl[b] H:=by
 rcases r with _|⟨I,_|⟨s,_|_⟩⟩
 .ac_rfl
 .ac_rfl
 rotate_left
 .ac_rfl
 rename_i x Z k Y;unfold Hd at h;dsimp only at h;cases u:asX x with
 |none=>
  rw[u] at h;let(n,B,g):=Ar3 h;let(T,U,k):=Ar3 g;clear g h;cases Bd2 B;by_cases v:Ad7.contains n=t8
  .rw[di v] at k;let(A,z):=Bj8 R I U;cases s;exact .inl (_,_,_,_,_,rfl,A,rfl,Bj7 d.K z (by simpa using v),k.now R .bl[_])
  .rw[dm v] at k;exact(show False from k).elim
 |some c=>
  rw[u] at h;let(w,rfl):=Bj6 u;let(a,o,rfl,y):=I.xI;cases f:Bj5 k with
  |none=>
   rw[f] at h;let(b,j,g):=Ar3 h;let(i,l,P,f):=O.ok c k b j;exact .inl (_,_,l,_,b,rfl,.exc y i,Ar4 s P,f,g.now R .bl[_])
  |some q=>
   rw[f] at h;let(bs,j,g):=Ar3 h;clear h;cases Bd3 f;let(p,m,rfl,hp,N):=s.tI;let(e,A,z):=Bd4 O N j;let(b,es,B,e2,e3):=Qa j;let i:=(O.ok c _ b B).1;exact .inr (_,p,m,e,_,_,rfl,hp,.exc y i,A,z,(a,_,o,rfl,rfl,y,i),g.now R .bl[_])
end
section
def Ayi(c:∀a H,RV b a H w v)(h:WE X e tC[v]):WE X e (tF b E kF[w]):=(WE.weak h λd H Q q=>by
 let(a,S,Y,R,f,q):=q;exact q.now R (c a H))
end
def J0(c:Nat)(dv:lg W)(gs:De->M lg[W]):MS:=λY=>Gb gs[Y] (λws Y S=>match ws with|[]=>.bad|w::us=>if us.length+dv.length=1 then .ex (u6 c w) Y S else .bad) Y
structure Bj9(X:Cx)(C:aH)(f:t6)(n:Nat):Prop where
 ex:∃(fI:aH)(fd:dN)(ps:List t6)(k:Nat)(dvs:List V)(ds:List aF),Ahh X.K C fI=t8/\cM X.K (.ref C)=t8/\iY X.K (.ref fI)=sr (.type "function")/\
  (∀cm,Hw X.prog X.w X.K X.mg X.base (CXo X.prog X.w) k fI fd ps (Aki C f) cm)/\Fx (k+1) X.A t8/\Binds X.K fd ps ds/\Vals dvs ds/\dvs.length=n
section
def Au5{c:Nat}(t:i.xf c=sr f)(A:X.ex=[])(Z:Bj9 X i.cl[c] f dv.length)(hm:X.mg x=sr .ref[i.cl[c]])(hc:X.calm=t8)(hR:Akj X E)(ha:WA X (e::n) tFs[i][λP=>E][gs])(hg:Gl X x)(hd:(x==("__debug__":t6))=t7)(he:starEach (e::n) X.env=(u6 t7 (eval e X.env))::starEach n X.env)(y:(backTo j (starEach n X.env)).any (·.1)=t7):
  WS X (.Raise sr[.Call (.Name x p) (e::n) [] j] sy U) tS[i][λP=>E][J0 c dv gs]:=by
 let(fI,fd,ps,k,g,ds,h1,h2,h3,F,hr,hb,hv,hl):=Z.ex;refine WS.weak ⟨Auj h1 h2 h3 A hg hm hc hR F[t8] hr hb hv ha.un hd he y⟩ λD N H ⟨ρ,S,Y,R,sl,q⟩=>?_;refine(ρ,S,Y,R,sl.2,(Ea.lift (Rel:=RVs i) sl q).mono ?_);rintro vs L ⟨a,S1,ws,p1,t1,J,s,b,h⟩;cases b with
 |nil=>exact h.elim
 |@cons w v Q m T b=>
  dsimp only at h;by_cases C:Q.length+dv.length=1
  .rw[di C] at h;let l:=b.length;obtain⟨u,hu⟩:∃u,m ++ g=[u]:=by
    let z:(m ++ g).length=1:=by grind
    match m ++ g,z with
    |[u],_=>exact(u,rfl)
   refine(aD (by grind:(v::m).length<=2) (),v,u,by simp_all,λd hd=>?_)
   let r:Cd a a L (upd L d .xd[[(f,v)]]):=Bj hd;let z:=h a _ N aP[_] r J.beside[hd] (s.mono aP[_] r);unfold XP at z;dsimp only at z;rw[t] at z;exact z d v (λz=>by
    let(o,G):=J.tracked z;rw[hd] at G;cases G) Aq (T.mono aP[_] r)
  .rw[dm C] at h;exact h.elim
end
section
def RSs.unset{i:Nat}(h:RSs d c H Y b):RSs d c H (Y.set i sy) (b.set i sy):=by
 refine(by rw[fB,fB];exact h.1,λj u e=>?_)
 by_cases a:j=i
 .subst a;let k:=by
   let z:=(aK.mp e).1
   rwa [fB] at z
  simp_all
 .rw[cW bN[a]] at e;let(z,l,f):=h.2 j u e;exact(z,by rwa [cW bN[a]],f)
variable{i k:Nat}{exm:Nat->Bool}
def W8(b:MS):MS:=λY S=>match b Y S with
 |.ex _ _ _=>.bad
 |r=>r
abbrev HB(Θ:Th)(X:Cx)(body:lg cO)(b:MS):Prop:=∀(pn:lg[aH×tu])(xe:aF->aO->Prop)(E':L2.St->XK),Ed[CXo X.prog X.w][X.tryB pn xe][E']->WSs[X.tryB pn xe][body][tS Θ E' b]
def Bd5{p:nR}{hs:lg nR}(o:HB g X body b):
  WS[X][.Try body (p::hs) [] [] m][tS g E W8[b]]:=by
 refine WS.weak ⟨Bc4 (tb:=λf=>tS g f b) λpn xe f n=>(o pn xe f n).un⟩ λD r H ⟨ρ,S,Y,R,sl,q⟩=>?_;refine(ρ,S,Y,R,sl,?_);unfold W8 at q;cases a:b Y S with
 |nx e d=>rw[a] at q;exact q
 |rt w d=>rw[a] at q;exact q
 |bk e d=>rw[a] at q;exact q
 |ct e d=>rw[a] at q;exact q
 |bad=>rw[a] at q;exact q
 |ex c e d=>rw[a] at q;exact q.elim
def Am5(exm:Nat->Bool)(c2:Nat)(gs:De->M lg[W])(b:MS):MS:=λY S=>match b Y S with
 |.ex c Y1 S1=>if exm c.1 then (match gs Y1 S1 with
   |.ok [w,_] S2=>.ex (u6 c2 w) Y1 S2
   |_=>.bad) else .bad
 |r=>r
def Bd6{C:Nat}{j:Nat}(hK:X.K=a.K)(bf:Stk X)(hfr:Frm X)(hex:X.ex=[])(hP:Xi X E)(hm:X.mg x=sr .ref[a.cl[k]])(Q:∀c,exm c=t8->cU a.K .ref[a.cl[c]] .ref[a.cl[k]]=sr t8/\a.xf c=sy/\a.pl c=t8)(hb:HB a X body b)(hg:Gl X x)(hd:(x==("__debug__":t6))=t7)(P:a.xf C=sr f)(O:Bj9 X a.cl[C] f 0)(U:X.mg y=sr .ref[a.cl[C]])(Z:X.env.kindOf y=sr .globalImplicit)(hd2:(y==("__debug__":t6))=t7)(ha:∀e',WA X.suite[e'] (e::A) (tFs a E0s gs))(he:starEach (e::A) X.env=(u6 t7 (eval e X.env))::starEach A X.env)(T:(backTo t (starEach A X.env)).any (·.1)=t7):
  WS X (.Try body [.ExceptHandler sr[.Name x np] sy [.Raise sr[.Call (.Name y yp) (e::A) [] t] sr[.Constant .none j kpos] rpos] hpos] [] [] pos) tS[a][E][Am5 exm C gs b]:=by
 let(fI,fd,ps,k',dvs,ds,h1,h2,h3,F,hr,hbi,hv,hl):=O.ex;obtain rfl:dvs=[]:=jA hl;refine WS.weak ⟨Bc1 (tb:=λE'=>tS a E' b) bf hfr hex hP hg hm hd (λpn xe E' Q=>(hb pn xe E' Q).un) h1 h2 h3 Z U F[t7] (λz=>absurd z (),hr.dp,hr.un) hbi hv (λe'=>(ha e').un) hd2 he T⟩ λD σ H ⟨ρ,S,Y,R,sl,q⟩=>?_
 refine(ρ,S,Y,R,sl,?_);unfold Am5 at q;cases n:b Y S with
 |nx u p=>rw[n] at q;exact q
 |rt w p=>rw[n] at q;exact q
 |bk u p=>rw[n] at q;exact q
 |ct u p=>rw[n] at q;exact q
 |bad=>rw[n] at q;exact q
 |ex c u p=>
  rw[n] at q;dsimp only at q;by_cases hc:exm c.1=t8
  .rw[di hc] at q;let(ex1,ex2,ex3):=Q c.1 hc;intro h H1 G p1 t1 R1 L;unfold XP;rw[ex2];dsimp only;rw[di ex3];refine(hK ▸ ex1,λB m=>?_);let N:B∉h:=λz=>by
    let(o,s):=R1.tracked z;rw[m] at s;cases s
   let t2:Cd h h H1 upd[H1][B][Kz B .ref[a.cl[c.1]] sr[u6 0 sy]]:=Bj m;let r:=L.mono aP[_] t2;refine(h,p,u,R1.beside m,r.2,?_);cases eg:gs u p with
   |bad=>rw[eg] at q;exact q.elim
   |exc c' S2=>rw[eg] at q;exact q.elim
   |ok ws S2=>
    rw[eg] at q;intro l H3 vs p3 J R3 g;cases g with
    |nil=>exact q.elim
    |@cons w v _ _ rv g=>
     cases g with
     |nil=>exact q.elim
     |cons ru g=>
      cases g with
      |cons _ _=>exact q.elim
      |nil=>
       refine(by show 2<=sizeLine;decide,(_,_,J.k B _ Aq N),_,_,rfl,λd hd=>?_)
       let nd:d∉l:=λz=>by
        let(o,s):=R3.tracked z;rw[hd] at s;cases s
       let I:=Bj (ρ:=l) (o:=.xd [(f,v)]) hd;let z:=q l _ G p1.trans[p3] (((t1.trans t2).trans J).trans I) R3.beside[hd] ((r.mono p3 J).mono aP[_] I);unfold XP at z;dsimp only at z;rw[P] at z;exact z d v nd Aq (rv.mono aP[_] I)
  .rw[dm hc] at q;exact q.elim
end
def Afk(i:Nat):RS->RS
 |.nx Y S=>.nx (Y.set i sy) S
 |.bk Y S=>.bk (Y.set i sy) S
 |.ct Y S=>.ct (Y.set i sy) S
 |.rt w S=>.rt w S
 |_=>.bad
def Aim(a1 n1 a2:Nat->Bool)(i:Nat)(b s1 s2:MS):MS:=λY S=>match b Y S with
 |.ex c Y1 S1=>if a1 c.1 then Afk i s1[Y1.set i sr[.exn c.1 c.2]][S1] else if n1 c.1&&a2 c.1 then Afk i s2[Y1.set i sr[.exn c.1 c.2]][S1] else .bad
 |r=>r
def Bq0:RS->RS
 |.ex _ _ _=>.bad
 |r=>r
def Am6(exm:Nat->Bool)(b su:MS):MS:=λY S=>match b Y S with
 |.ex c Y1 S1=>if exm c.1 then Bq0[su Y1 S1] else .bad
 |r=>r
section
variable{i:Nat}
def Bhm{c:Nat×W}{su:MS}{D:Ends}{G:XK}(q:Ea j I H (Afk i su[Y1.set i sr[.exn c.1 c.2]][S1]) D E)(Z:I <+: a)(Y:Cd I a H H1)(X:Rep j a S1 H1)(J:RSs j a H1 Y1 F)(hG:∀o,(∀f,H1 f=sy->tS j E0s su { nx:=λg A=>D.nx (g.set i sy) A,rt:=D.rt,bk:=λg A=>D.bk (g.set i sy) A,ct:=λg A=>D.ct (g.set i sy) A } (F.set i sr[.ref[f]]) upd[H1][f][Kz f .ref[j.cl[c.1]] o])->G .ref[j.cl[c.1]] o H1):XP j a H1 c G:=by
 let go:∀(o:o9[Nat×o9 aH]),(∀f,H1 f=sy->f∉a->_)->G .ref[j.cl[c.1]] o H1:=λo N=>by
  refine hG o λf e=>?_;let T:Cd a a H1 upd[H1][f][Kz f .ref[j.cl[c.1]] o]:=Bj e;refine(a,S1,Y1.set i sr[.exn c.1 c.2],X.beside e,(J.mono aP[_] T).set (N f e λz=>by
   let(o,U):=X.tracked z;rw[e] at U;cases U),?_)
  let B:∀r,Ea j I H r D E->_:=λr z=>Ea.shift z Z Y.trans[T];cases u:su (Y1.set i sr[.exn c.1 c.2]) S1 with
  |nx O C=>rw[u] at q;exact λb t x m l s h=>B _ q b t _ m l s h.unset
  |bk O C=>rw[u] at q;exact λb t x m l s h=>B _ q b t _ m l s h.unset
  |ct O C=>rw[u] at q;exact λb t x m l s h=>B _ q b t _ m l s h.unset
  |rt w C=>rw[u] at q;exact λb t v m l s L=>B _ q b t _ m l s L
  |ex c2 O C=>rw[u] at q;exact q.elim
  |bad=>rw[u] at q;exact q.elim
 unfold XP;cases y:j.xf c.1 with
 |none=>exact go _ λf e p=>.exn y p Aq
 |some n=>
  intro d v nd hd L;refine go _ λf e p=>?_;let de:d≠f:=λz=>by simp_all
  exact .exf y p nd Aq ((Aj de) ▸ hd) (L.mono aP[_] Bj[e])
def Bd7{a1 B a2:Nat->Bool}{p C:Nat}(hK:X.K=f.K)(bf:Stk X)(P:Frm X)(nd:X.N.Nodup)(r:X.mg x=sr .ref[f.cl[p]])(L:X.mg y=sr .ref[f.cl[C]])(h1:∀c,a1 c=t8->cU f.K .ref[f.cl[c]] .ref[f.cl[p]]=sr t8)(h2:∀c,B c=t8->cU f.K .ref[f.cl[c]] .ref[f.cl[p]]=sr t7)(h3:∀c,a2 c=t8->cU f.K .ref[f.cl[c]] .ref[f.cl[C]]=sr t8)(hb:HB f X body b)(J:∀e,WSs X.suite[e] (b1::r1) (tS f E0s s1))(I:∀e,WSs X.suite[e] (b2::r2) (tS f E0s s2))(hi:X.N[i]?=sr n)(hn:X.env.scope.names.lookup n=sr .local)(s:Gl X x)(t:(x==("__debug__":t6))=t7)(O:X.env.kindOf y=sr .globalImplicit)(Q:(y==("__debug__":t6))=t7):
  WS X (.Try body [.ExceptHandler sr[.Name x np] sr[n] (b1::r1) hp1,.ExceptHandler sr[.Name y mp] sr[n] (b2::r2) hp2] [] [] pos) tS[f][E][Aim a1 B a2 i b s1 s2]:=by
 refine WS.weak (⟨Ari (tb:=λE'=>tS f E' b) (G:=λD A cls o v=>
   (cU X.K cls .ref[f.cl[p]]=sr t8/\∀k,v k=sy->tS f E0s s1 { nx:=λd j=>D.nx (d.set i sy) j,rt:=D.rt,bk:=λd j=>D.bk (d.set i sy) j,ct:=λd j=>D.ct (d.set i sy) j } (A.set i sr[.ref[k]]) upd[v][k][Kz k cls o])\/
   (cU X.K cls .ref[f.cl[p]]=sr t7/\cU X.K cls .ref[f.cl[C]]=sr t8/\∀k,v k=sy->tS f E0s s2 { nx:=λd j=>D.nx (d.set i sy) j,rt:=D.rt,bk:=λd j=>D.bk (d.set i sy) j,ct:=λd j=>D.ct (d.set i sy) j } (A.set i sr[.ref[k]]) upd[v][k][Kz k cls o]))
  bf P (λpn xe E hx=>(hb pn xe E hx).un) λa g=>?_⟩) λD A H ⟨ρ,S,Y,R,sl,q⟩=>?_
 .rcases g with ⟨Z,U⟩|⟨Z,U,g3⟩
  .exact a.take nd hi hn s r t Z (λe=>(J e).un) (U _ a.F.fre)
  .exact a.skip s r t Z (a.take nd hi hn O L Q U (λe=>(I e).un) (g3 _ a.F.fre))
 refine(ρ,S,Y,R,sl,?_);unfold Aim at q;cases l:b Y S with
 |nx Y1 u=>rw[l] at q;exact q
 |rt w u=>rw[l] at q;exact q
 |bk Y1 u=>rw[l] at q;exact q
 |ct Y1 u=>rw[l] at q;exact q
 |bad=>rw[l] at q;exact q
 |ex c Y1 u=>
  rw[l] at q;dsimp only at q;intro ρ1 H1 σ1 p1 t1 R1 m;by_cases T:a1 c.1=t8
  .rw[di T] at q;exact Bhm q p1 t1 R1 m λo z=>.inl (hK ▸ h1 _ T,z)
  .rw[dm T] at q;by_cases h:(B c.1&&a2 c.1)=t8
   .rw[di h] at q;rw[aL] at h;exact Bhm q p1 t1 R1 m λo z=>.inr (hK ▸ h2 _ h.1,hK ▸ h3 _ h.2,z)
   .rw[dm h] at q;exact q.elim
def Bd8{exm:Nat->Bool}{k:Nat}(hK:X.K=f.K)(bf:Stk X)(J:Frm X)(hm:X.mg x=sr .ref[f.cl[k]])(I:∀c,exm c=t8->cU f.K .ref[f.cl[c]] .ref[f.cl[k]]=sr t8)(hb:HB f X body b)(hs:∀e,WSs X.suite[e] (b0::suite) (tS f E0s su))(hg:Gl X x)(hd:(x==("__debug__":t6))=t7):
  WS X (.Try body [.ExceptHandler sr[.Name x np] sy (b0::suite) T] [] [] pos) tS[f][E][Am6 exm b su]:=by
 refine WS.weak (⟨Ari (tb:=λE'=>tS f E' b) (G:=λD Z cls o H'=>cU X.K cls .ref[f.cl[k]]=sr t8/\∀h,H' h=sy->_)
  bf J (λpn xe E I=>(hb pn xe E I).un) λa g=>a.takeU hg hm hd g.1 (λe=>(hs e).un) (g.2 _ a.F.fre)⟩) λD Z H ⟨ρ,S,Y,R,sl,q⟩=>?_
 refine(ρ,S,Y,R,sl,?_);unfold Am6 at q;cases m:b Y S with
 |nx t p=>rw[m] at q;exact q
 |rt w p=>rw[m] at q;exact q
 |bk t p=>rw[m] at q;exact q
 |ct t p=>rw[m] at q;exact q
 |bad=>rw[m] at q;exact q
 |ex c t p=>
  rw[m] at q;dsimp only at q;by_cases L:exm c.1=t8
  .rw[di L] at q;intro j A B p1 t1 R1 C;let go:∀o,cU X.K .ref[f.cl[c.1]] .ref[f.cl[k]]=sr t8/\∀h,A h=sy->tS f E0s su D B upd[A][h][Kz h .ref[f.cl[c.1]] o]:=λo=>(hK ▸ I _ L,λh s=>by
    let Q:Cd j j A upd[A][h][Kz h .ref[f.cl[c.1]] o]:=Bj s;refine(j,p,t,R1.beside s,C.mono aP[_] Q,?_);let u:∀r,Ea f ρ H r D E->_:=λr z=>Ea.shift z p1 t1.trans[Q];cases l:su t p with
    |nx N y=>rw[l] at q;exact u _ q
    |bk N y=>rw[l] at q;exact u _ q
    |ct N y=>rw[l] at q;exact u _ q
    |rt w y=>rw[l] at q;exact u _ q
    |ex c2 N y=>rw[l] at q;exact q.elim
    |bad=>rw[l] at q;exact q.elim)
   unfold XP;cases hxf:f.xf c.1 with
   |none=>exact go _
   |some n=>exact λd v nd hd rv=>go _
  .rw[dm L] at q;exact q.elim
end
def Ar5(z:t6):lg W:=(fO z.cps.size).map λ(i:Nat)=>W.tup [.int[(i:Int)+1],.str ⟨#[z.cps.getD i 0]⟩]
def Ayj(f:De->M W):De->M Src:=λY=>do let x<-f Y;match x with
 |.str z=>pure .fix[Ar5[z]]
 |_=>bad
theorem Ayk(z:t6):JOk j Ite[z] Ar5[z] h H where
 go:=λa g i p t hi=>by
  unfold Ar5 at hi ⊢
  rw[aJ,cG] at hi;refine(hi,?_);rintro x k ⟨c,T,d,b,rfl,rfl⟩;refine(Bj b,λS r=>r.beside b,_,by rw[bK,nJ hi];rfl,.tup Aq .cons[.int _][.cons ?_ .nil])
  let e:z.cps.getD i 0=c:=by rw[Array.getD_eq_getD_getElem?,d];rfl
  rw[e];exact .str _
 stop:=λa g i t hi=>by
  unfold Ar5 at hi;rw[aJ,cG] at hi;exact hi
def Au6(ws us:lg W):lg W:=List.zipWith (λx y=>W.tup [x,y]) ws us
def Bd9:lg W->M Src
 |[.tup ws,.tup us]=>pure .fix[Au6 ws us]
 |[.ref n,.ref m]=>λS=>match S[n]?,S[m]? with
  |some (.lst _),sr (.lst _)=>.ok (.zl n m) S
  |_,_=>.bad
 |_=>bad
def Au7(gs:De->M lg[W]):De->M Src:=λY=>do let ws<-gs Y;Bd9 ws
section
theorem Bea(y:H a=sr .tup[e])(s:RVs c k H g e)(x:H b=sr .tup[d])(q:RVs c k H h d):JOk c (Itz c.K t8 a b) (Au6 g h) k H where
 go:=λf j i p t hi=>by
  unfold Au6 at hi ⊢
  rw[vJ] at hi;let w:i < g.length:=aQ hi (Nat.min_le_left ..);let u:i < h.length:=aQ hi (pJ ..);let(C,A,F):=s.get aV[w];let(B,z,E):=q.get aV[u];let o:SqT c.K j a e:=SqT.of[t.t _ _ y];let n:SqT c.K j b d:=SqT.of[t.t _ _ x];refine((e,d,C,B,o,n,A,z),?_);rintro v N ⟨L,x',y',I,G,hp,rfl,rfl⟩;let m:=I e o;let l:=G d n;rw[A] at m;cases m;rw[z] at l;cases l;refine(Bj hp,λS r=>r.beside hp,.tup [(getElem[g][i][by get_elem_tactic]),(getElem[h][i][by get_elem_tactic])],?_,.tup Aq .cons[(F.mono p t).mono aP[_] Bj[hp]][.cons[(E.mono p t).mono aP[_] Bj[hp]][.nil]]);rw[uI,aV w,aV u]
 stop:=λf j i t hi=>by
  unfold Au6 at hi;rw[vJ] at hi;refine(e,d,SqT.of[t.t _ _ y],SqT.of[t.t _ _ x],?_);rw[<-s.length,<-q.length];omega
variable{kt:Nat}
nonrec def Bof(hK:X.K=c.K)(G:X.mg "zip"=sy)(J:WA X (e::f) (tFs c E L))(I:X.env.kindOf "zip"=sr .globalImplicit)(hs:starEach (e::f) X.env=(u6 t7 (eval e X.env))::starEach f X.env)(k:(backTo j (starEach f X.env)).any (·.1)=t7):
  WI[X][.Tuple v kt o][.Call (.Name "zip" p) (e::f) [] j][tFi c E Au7[L]]:=by
 refine WI.weak ⟨Bi8 I G J.un hs k⟩ λU H Q ⟨ρ,S,Y,R,sl,q⟩=>?_;refine(ρ,S,Y,R,sl,(Av.seq (Rel:=RVs c) q).mono ?_);rintro l H1 ⟨w,S1,Z,p1,t1,g,a,b⟩;unfold Bd9 at b;rw[hK];split at b
 .rename_i A z;cases a with|cons i a=>
  cases a with|cons h a=>
  cases a;let(_,_,rfl,t,F):=i.tI;let(_,_,rfl,s,C):=h.tI;exact(t8,_,_,_,_,rfl,SqT.of t,SqT.of s,Av.now (Rel:=Adt c) b g (Bea t F s C))
 .rename_i n m;cases a with|cons i a=>
  cases a with|cons h a=>
  cases a;let(_,rfl,r):=i.rI;let(_,rfl,d):=h.rI;split at b
  .rename_i A z T P;let(l,O,_):=g.at_ _ _ _ r T;let(y,N,_):=g.at_ _ _ _ d P;exact(t7,_,_,l,y,rfl,.inl .inl[O],.inl .inl[N],Jx (Rel:=Adt c) b g (_,_,r,d,rfl))
  .exact(show False from b).elim
 .exact(show False from b).elim
end
def Au8(K:aB)(a:aH)(D:lg[t6×t6]):Prop:=∀h,K.In h->KTD.TextTab h a (D.map λp=>(u6 p.1 qQ[.str[p.2]]))
def mdW(D:lg[t6×t6]):W->M W
 |.str k=>match D.lookup k with
  |some z=>pure .str[z]
  |none=>bad
 |_=>bad
def mdF(D:lg[t6×t6])(g:De->M W):De->M W:=λY=>do let y<-g Y;mdW D y
theorem Afl(k:t6):∀D:lg[t6×t6],aCt k (D.map λp=>(u6 p.1 qQ[.str[p.2]]))=(D.lookup k).map λz=>qQ .str[z]
 |[]=>rfl
 |(x,z)::D=>by
  rw[cJ,dF,aCt];by_cases h:k=x
  .simp_all
  .let h':(k==x)=t7:=by simpa using h
   rw[dm[by simpa using h],h',Afl k D]
section
def Bka(m:Au8 X.K A D):IxR X (λx y H Q=>x=.ref A/\∃k z,y=.str k/\D.lookup k=sr z/\Q .str[z] H):=by
 intro value slice p s n H x y v u Q I i g h hs;let(rfl,k,z,rfl,l,q):=h;obtain rfl:v=bJ A:=i;let(t,rfl):=g;let T:KTD.Here s.heap s.heap A _:=(m _ I.kIn,λf f o=>o);refine zZ T.typeIs rM.lookup ?_ hs;unfold getItem
 try with_reducible apply eV
 refine aA (rR T.typeIs () (aA (dD (name:=mY "__getitem__") T.typeIs xM (dY xM T.typeIs entry_dict_getitem ?_ (args_dict_getitem ..)))))
 show wpAny _ _ (dictGet A (.str k t) >>= _) _ _ s;refine aA[KTD.dictGet_text T (λd v e j=>aG (v,rfl,aG ?_)) λc=>?_]
 .rw[Afl,l] at e;cases e;let a:Reads s.heap v .str[z] []:=j s.heap;cases a;exact(.str z,H,I.tok _,(_,rfl),q)
 .rw[Afl,l] at c;cases c
nonrec def Bq1(o:Au8 X.K A D)(l:X.mg x=sr .ref[A])(m:Gl X x)(hd:(x==("__debug__":t6))=t7)(n:WE X b (tF c E g))(hs:Ad1 b):WE X .Subscript[.Name x p][b][j] tF[c][E][mdF D g]:=(
 WE.weak[kix Bka[o] (Bhc l (show RelV .ref[A] .ref[A] from rfl) m hd) n hs] λt H Q ⟨ρ,S,Y,R,sl,q⟩=>by
  refine(ρ,S,Y,R,sl,(Av.seq (Rel:=RV c) q).mono ?_);rintro v C ⟨e,B,w,y,u,s,i,a⟩;refine(rfl,?_);cases i <;> try exact(show False from a).elim
  rename_i k;cases d:D.lookup k with
  |none=>simp only[mdW,d] at a;exact(show False from a).elim
  |some z=>
   simp only[mdW,d] at a;exact(k,z,rfl,d,Av.now (Rel:=RV c) a s .str[z]))
end
section
variable{i:Nat}{cap:lg Nat}
def Beb(Z:X.calm=t8)(hE:X.env.scope=sc)(hi:WI X m a G)(T:∀C s H ex,WG (X.comp scope own cap C s H ex) m g)(p:∀l H Q,tF c E F l H Q->Aia G g (tFb c E0s I) (tF c E0s ef) own cap l H Ams[Q])(O:∀C s H ex,WTs[X.comp scope own cap C s H ex][f][tFb c E0s I])(U:∀C s H ex,WE[X.comp scope own cap C s H ex][k][tF c E0s ef])(h:CcA X cap scope)(au:scope.kind=.function)(ak:scope.names.all[λy=>decide[y.2≠.cell]]=t8)(aq:CcN scope)(az:CcF scope sc)(hs:∀x,foldedSetIterable a X.env x=pure x)(b:WG X (.Name y z) Xg[i])(r:swapsWith (.ListComp k [(m,a,f,0)] scope o) sr[.Name y z] d.line X.env=pure t8):
  WS X .Assign[[.Name y z]][.ListComp k [(m,a,f,0)] scope o][d] tS[c][E][Bx i F]:=(
 WS.weak (by
   refine⟨PS.thaw <| Bci Z hE hi.un (λC s H ex=>(T C s H ex).un) (λC s H ex=>(O C s H ex).un) (λC s H ex=>(U C s H ex).un) (λj P=>?_) au (λy b=>?_) (λy b t=>?_) (λy b t=>?_) hs b.un r⟩
   .let q:=bB.mp h j P;cases e:X.N[j]? with
    |none=>rw[e] at q;cases q
    |some x=>rw[e] at q;exact(x,rfl,dg q)
   .exact dg[bB.mp ak y b]
   .let q:=bB.mp aq y b;rw[dj t] at q;exact dg q
   .let q:=bB.mp az y b;rw[dj t,pO,aBc,fC] at q;exact q.imp dg dg) λD l H ⟨ρ,S,Y,R,sl,q⟩=>by
  refine p _ _ _ (ρ,S,Y,R,sl.2,(Ea.lift (Rel:=RV c) sl q).mono ?_);rintro v H1 ⟨A,S1,w,p1,t1,R1,n,J,L⟩;exact L.nxt R1 n.set[J])
end
def ddS:lg t6->lg t6
 |[]=>[]
 |x::xs=>if x∈xs then ddS xs else x::ddS xs
theorem Xw:∀{a:lg t6},x∈ddS a ↔ x∈a
 |[]=>Iff.rfl
 |y::c=>by
  unfold ddS;by_cases h:y∈c
  .rw[di h,Xw];simp_all
  .rw[dm h,aW,aW,Xw]
theorem Vs:∀{c:lg t6},(ddS c).Nodup
 |[]=>uT
 |y::b=>by
  unfold ddS;by_cases h:y∈b
  .rw[di h];exact Vs
  .rw[dm h];exact dU.mpr (λz=>h Xw.mp[z],Vs)
def Bkb(h:InS c c.length d):Adr d=Adr ddS[c]:=(Abe Ae6 ((Ji d).trans ((List.perm_iff_count.mpr λa=>by
  rw[h.1.count,Vs.count];simp[propext[((h.2.1 a).trans (by rfl)).trans Xw.symm]]).trans (Ji _).symm)) Nh[_] Nh[_])
def K4:lg W->M W
 |[.ref n]=>λS=>match S[n]? with
  |some (.lst ws)=>if ws.length < 64 then match Dq Amx ws with
    |some ss=>Dg ((Adr ddS[ss]).map W.str) S
    |none=>.bad
   else .bad
  |_=>.bad
 |_=>bad
nonrec def Bec(o:X.calm=t8)(i:X.mg "sorted"=sy)(h:X.mg "set"=sy)(k:X.env.kindOf "sorted"=sr .globalImplicit)(j:X.env.kindOf "set"=sr .globalImplicit)(I:WA X (e::d) (tFs l E L))(G:starEach (e::d) X.env=(u6 t7 (eval e X.env))::starEach d X.env)(g:(backTo cpos2 (starEach d X.env)).any (·.1)=t7):
  WE X (.Call (.Name "sorted" p) [.Call (.Name "set" p2) (e::d) [] cpos2] [] v) tF[l][E][Ds K4 L]:=by
 refine WE.weak[kbi Akn[o] i (by rfl':bootBuiltins "sorted"=sr .builtin["sorted"]) ⟨Xh (Aa9 Axo[o] j h (by rfl':bootBuiltins "set"=sr .type["set"]) I.un () () G g) Aj1 rfl⟩ k () () rfl rfl] λO H Q ⟨ρ,S,Y,R,sl,q⟩=>?_
 refine(ρ,S,Y,R,sl,(Av.seq (Rel:=RVs l) q).mono ?_);rintro U H1 ⟨x,S1,T,p1,Z,w,f,a⟩;unfold K4 at a;split at a
 .cases f with|cons J r=>
  cases r;let(_,rfl,F):=J.rI;split at a
  .rename_i z N;let(P,s,B):=w.at_ _ _ _ F N;split at a
   .rename_i hl;split at a
    .rename_i m u;rw[Xu Amy B u] at s;let ls:m.length=z.length:=Ax3 u;refine(_,m,rfl,s,(),λq C n c=>(q,C,rfl,Aq,by have:=c.2.2;omega,?_))
     rw[Bkb c];exact(Jj[w.beside n][Afg _][Av.shift a aP[_] Bj[n]]).2
    .exact(show False from a).elim
   .exact(show False from a).elim
  .exact(show False from a).elim
 .exact(show False from a).elim
def orM(f g:De->M W):De->M W:=λY S=>match f Y S with
 |.bad=>g Y S
 |r=>r
def Bkc(c:Nat):M W:=λS=>.ok[.ref S.length][S ++ [.ins c []]]
def Ayl(x v:W):M W:=match v with
 |.non=>pure x
 |_=>bad
def Ni(c:Nat)(g:lg W->M W)(ws:lg W):M W:=Bkc c >>= λx=>g (x::ws) >>= λv=>Ayl x v
structure Fi where
 g:List W->M W
 np:Nat
 dv:List W
def Xx(mt:Nat->t6->o9 Fi)(m:t6)(x:W):M Fi:=match x with
 |.ref n=>λS=>match S[n]? with
  |some (.ins c fs)=>match fs.lookup m,mt c m with
   |none,sr i=>.ok i S
   |_,_=>.bad
  |_=>.bad
 |_=>bad
def Ahm(i:Fi)(x:W)(ws:lg W):M W:=if ws.length+1=i.np then i.g (x::ws) else if ws.length+1+i.dv.length=i.np then i.g (x::(ws ++ i.dv)) else bad
def Bv(mt:Nat->t6->o9 Fi)(m:t6)(f:De->M W)(gs:De->M lg[W]):De->M W:=λY=>f Y >>= λx=>Xx mt m x >>= λi=>gs Y >>= λws=>Ahm i x ws
structure Ap0(Θ:Th)(X:Cx)(c:Nat)(m:t6)(i:Fi):Prop where
 ex:∃(n:Nat)(fa:aH)(fd:dN)(ps:List t6)(cm:Bool),Cls X.K (Θ.cl c)/\Meth X.K (Θ.cl c) m fa/\Hw X.prog X.w X.K X.mg X.base (CXo X.prog X.w) n fa fd ps (spF Θ i.g) cm/\Fx n X.A cm/\Binds X.K fd ps []/\
  ∃dvs ds,Dq D.Ga i.dv=sr dvs/\Vals dvs ds/\Binds X.K fd ps ds
structure Ap1(Θ:Th)(X:Cx)(c:Nat)(i:Fi):Prop where
 ex:∃(n:Nat)(fa:aH)(fd:dN)(ps:List t6)(cm:Bool),Mk X.K (Θ.cl c) fa/\Hw X.prog X.w X.K X.mg X.base (CXo X.prog X.w) n fa fd ps (spF Θ i.g) cm/\Fx (n+1) X.A cm/\Binds X.K fd ps []/\
  ∃dvs ds,Dq D.Ga i.dv=sr dvs/\Vals dvs ds/\Binds X.K fd ps ds
section
def Bog(l:WE X e (tF c E f))(k:WE X e (tF c E g))(j:∀Y S,h Y S=f Y S\/h Y S=g Y S):WE X e (tF c E h):=(⟨λi s a H Q I ⟨ρ,S,Y,R,sl,q⟩=>by
 rcases j Y S with z|z
 .rw[z] at q;exact l.un i s a H Q I (ρ,S,Y,R,sl,q)
 .rw[z] at q;exact k.un i s a H Q I (ρ,S,Y,R,sl,q)⟩)
def Bkd(c:WE X e (tF a E f))(b:WE X e (tF a E g)):WE X e tF[a][E][orM f g]:=(Bog c b λY S=>by
 unfold orM;cases f Y S
 .exact .inl rfl
 .exact .inl rfl
 .exact .inr rfl)
def Xy{l:CXT}{k:Nat}{f:aH}{fd:dN}{ps:lg t6}{h:Sp}{dvs vs:lg V}{d us:lg aF}{E:L2.St->XK}{j:Bool}{g:lg[aH×tu]}{c:L2.St}{H:Hp}{s:aO}{Q:VK}(F:Hw X.prog X.w X.K X.mg X.base l k f fd ps h j)(p:Fx k X.A j)(v:Binds X.K fd ps d)(hd:Vals dvs d)(o:Ed l X E)(I:Inv X g c H s)(r:Vals vs us)(q:h (vs ++ dvs) H Q E[c]):
  wpAny (model X.prog X.w) X.A (call .ref[f] us) (EP X g c Q) X.xe s:=by
 let i:=r.append hd;let t:(us ++ d).length=ps.length:=i.length ▸ F.len _ _ _ _ q;refine jX[gQ[F.run X.A X.stack s H _ _ _ Q _ p I.env0 (v s us I.kIn t) i q] λr n b=>?_]
 match r,b with
 |.error e,b=>exact o g c H s e n I b
 |.ok (.ret u),b=>exact I.after b
theorem Mw:∀{dv:lg W} {a:lg V},Dq D.Ga dv=sr a->RVs g f H dv a
 |[],_,h=>by cases h;exact .nil
 |w::e,a,h=>by
  unfold Dq at h;cases d:D.Ga w with
  |none=>simp_all
  |some v=>
   cases c:Dq D.Ga e with
   |none=>simp_all
   |some i=>rw[d,c] at h;cases h;exact .cons Arq[d] Mw[c]
def Vt{y:CXT}{k:Nat}{C f:aH}{fd:dN}{ps:lg t6}{o:Sp}{d m:lg V}{j c:lg aF}{E:L2.St->XK}{t:Bool}{n:lg[aH×tu]}{g:L2.St}{H:Hp}{s:aO}{Q:VK}(M:Mk X.K C f)(F:Hw X.prog X.w X.K X.mg X.base y k f fd ps o t)(N:Fx (k+1) X.A t)(P:Binds X.K fd ps j)(hd:Vals d j)(L:Ed y X E)(I:Inv X n g H s)(r:Vals m c)(h:∀x i,H x=sy->H i=sy->i≠x->o (.ref x::(m ++ d)) upd[upd H i .own[x]][x][.ins C i []] (λv H2=>v=.non/\Q .ref[x] H2) E[g]):
  wpAny (model X.prog X.w) X.A (call .ref[C] c) (EP X n g Q) X.xe s:=by
 let q:=h (s.heap.objs.size+1) s.heap.objs.size I.hok.fresh[fM[_]] I.hok.fresh[aN[_]] bR[gV[_]];let l:=Inv.made (C:=C) I;let p:Vals (V.ref[s.heap.objs.size+1]::(m ++ d)) (bJ[s.heap.objs.size+1]::(c ++ j)):=.cons rfl r.append[hd];let O:=by
  let e:=p.length;rw[F.len _ _ _ _ q] at e;exact e.symm
 refine jX (Awu (f:=f) I.kIn M.makes M.init beq_iff_eq.mp[M.fn] (gQ (F.run _ X.stack _ _ (bJ[s.heap.objs.size+1]::c,[]) (bJ[s.heap.objs.size+1]::(c ++ j)) _ _ E[g] (N.make C c [])
  (l.env0.make C c []) (P _ (bJ[s.heap.objs.size+1]::c) l.kIn O) p q) λr B a=>?_))
 match r,a with
 |.error e,a=>exact L n g _ _ e B l a
 |.ok (.ret u),a=>
  let(v,H',Z,G,ev,J):=l.after a;subst ev;exact(G,(V.ref[s.heap.objs.size+1],H',Z,rfl,J))
def Ad8{c:Nat}{g:lg W->M W}{a:lg aH}{S:Store}{H:Hp}{h:lg W}{y:lg V}{Q:VK}{F:XK}(R:Rep e a S H)(n:RVs e a H h y)(q:Av e RV[e] a H (Ni c g h S) Q F):
  ∀x d,H x=sy->H d=sy->d≠x->spF e g (.ref x::y) upd[upd H d .own[x]][x][.ins e.cl[c] d []] (λv G=>v=.non/\Q .ref[x] G) F:=by
 intro x d B j ne;let i:upd H d .own[x] x=sy:=(Aj bN[ne]) ▸ B;let z:Cd a (a ++ [x]) (upd H d .own[x]) upd[upd H d .own[x]][x][.ins e.cl[c] d []]:=Bj i;let R2:Rep e (a ++ [x]) (S ++ [.ins c []]) _:=(R.beside j).alloc i (d,[],Aq,.nil);let l:=(Bj j).trans z;let o:a <+: a ++ [x]:=bL ..
 let p:(a ++ [x])[S.length]?=sr x:=R.len ▸ La;refine(a ++ [x],S ++ [.ins c []],.ref S.length::h,R2,.cons[.ref p][n.mono o l],?_);let q:Av e RV[e] a H M.bind[g (.ref S.length::h)][λv=>Ayl .ref[S.length] v][S ++ [.ins c []]] Q F:=q;unfold M.bind at q;cases s:g (.ref S.length::h) (S ++ [.ins c []]) with
 |bad=>rw[s] at q;exact q.elim
 |exc I C=>
  rw[s] at q;intro f u k m t;exact q f u o.trans[k] l.trans[m] t
 |ok w C=>
  rw[s] at q;intro f u v k m t A;cases w with
  |non=>
   cases A;refine(rfl,q f u .ref[x] o.trans[k] l.trans[m] t .ref[?_]);let(r,rfl):=k
   rwa [bD[by grind]]
  |_=>exact bZ q
def Aym{c:Nat}(Z:Ap1 f X c i)(v:Ed (CXo X.prog X.w) X E)(N:X.mg x=sr .ref[f.cl[c]])(U:WA X (e::d) (tFs f E gs))(O:Gl X x)(k:(x==("__debug__":t6))=t7)(P:starEach (e::d) X.env=(u6 t7 (eval e X.env))::starEach d X.env)(j:(backTo b (starEach d X.env)).any (·.1)=t7)(more:Bool):
  WE[X][.Call (.Name x p) (e::d) [] b][tF f E Ds[λh=>Ni c i.g (if more then h ++ i.dv else h)][gs]]:=(⟨λaa s C H Q I ⟨ρ,S,Y,R,sl,q⟩=>by
 let(n,fa,fd,ps,cm,M,F,y,o,dvs,ds,m,l,T):=Z.ex;refine eU[K9 I O N ?_ k];refine jG I.ok.mod.kin M.kp (thn[U.un b aa s C H _ I (ρ,S,Y,R,sl,Av.seq q)] λus s1 ⟨vs,H1,I1,r,ρ1,S1,h,p1,t1,R1,rvs,q1⟩=>(I1.kIn,?_)) P j;cases more with
 |true=>exact Vt M F y T l v I1 r (Ad8 R1 rvs.append[Mw[m]] q1)
 |false=>exact Vt M F y o .nil v I1 r (by rw[bQ];exact Ad8 R1 rvs q1)⟩)
def Ar6{c:Nat}(B:Ap1 a X c i)(l:Ed (CXo X.prog X.w) X E)(y:X.mg x=sr .ref[a.cl[c]])(z:Gl X x)(e:(x==("__debug__":t6))=t7)(more:Bool):
  WE[X][.Call (.Name x p) [] [] v][tF a E Ds[λb=>Ni c i.g (if more then b ++ i.dv else b)][nilF]]:=(⟨λaa s L H Q I ⟨ρ,S,Y,R,sl,q⟩=>by
 let(n,T,fd,ps,Z,M,F,m,j,C,U,h,f,A):=B.ex;refine eU[K9 I z y ?_ e];let(t,S1,b,P,N,o,d,k):=Av.seq (Rel:=RVs a) q ρ H [] aP[_] (Cd.refl ..) R .nil;cases d;cases more with
 |true=>exact nM I.kIn M.kp (Vt M F m A f l I .nil Ad8[o][RVs.append .nil Mw[h]][k])
 |false=>exact nM I.kIn M.kp (Vt M F m j .nil l I .nil (Ad8 o .nil k))⟩)
def call_meth{prog:cD}{w:dW}{A:eQ}{E:aF->aO->Prop}{s:aO}{env:Env}{name:t6}{b:lg bO}{Q:aF->aO->Prop}(t:attributeBase o name env (eval o env)=eval o env)(l:((backTo a (starEach b env)).all (λx=>!x.1)&&(backToKw a (keywordEach [] env)).all (λx=>x.1.isSome)&&decide[b.length+([]:lg iB).length+(if ([]:lg iB).isEmpty then 0 else 1) < 30])=t8)(u:(p.endLine==a.line)=t8)(h:wpAny (model prog w) A (eval o env) (λn f=>∀pl:Sem Bool,wpAny (model prog w) A (getMethod n name pl) (λr d=>wpAny (model prog w) A (callWith a r.1 r.2 backTo[a][starEach b env] backToKw[a][keywordEach [] env]) Q E d) E f) E s):
  wpAny (model prog w) A eval[.Call (.Attribute o name p) b [] a][env] Q E s:=by
 rw[arm_eval_Call,t];refine aA[cX h (λn f j=>?_) λm m e=>e];refine aA gZ[?_];let hform:methodCallForm ..=t8:=l;let k:methodCallPos t8 o env p a=pure a:=by unfold methodCallPos;simp[u]
 unfold methodCall;exact hform ▸ aA eV[cX[j _][λr d i=>aA[rW k i]] λm m e=>e]
def RFs.lookN(r:RFs k j H fs b)(f:t6)(h:fs.lookup f=sy):b.lookup f=sy:=by
 induction r with
 |nil=>rfl
 |@cons p q _ _ g r d=>
  let(c,o):=p;let(n,m):=q;let(e,l):=g;cases (e);rw[dF] at h ⊢
  by_cases a:(f==c)=t8
  .simp_all
  .rw[tK] at a;rw[a] at h ⊢;exact d h
nonrec def Am7{mt:Nat->t6->o9 Fi}{l:Type}{b:lg aH->Hp->W->l->Prop}{Q:l->Hp->Prop}(R:Rep d e S H)(r:RV d e H x v)(q:Av d b e H ((Xx mt m x >>= k) S) Q F):
  ∃a c j fs i,v=.ref a/\H a=sr[.ins d.cl[c] j fs]/\fs.lookup m=sy/\mt c m=sr i/\Av d b e H (k i S) Q F:=by
 let q:Av d b e H M.bind[Xx mt m x][k][S] Q F:=q;unfold M.bind at q;cases r <;> try exact(show False from q).elim
 rename_i n a t _;simp only[Xx] at q;cases h:S[n]? with
 |none=>rw[h] at q;exact(show False from q).elim
 |some cell=>
  rw[h] at q;cases cell with
  |lst _=>exact(show False from q).elim
  |dct _=>exact(show False from q).elim
  |dead=>exact(show False from q).elim
  |clo _ _=>exact(show False from q).elim
  |tab _=>exact(show False from q).elim
  |ins c fs=>
   let(j,p,u,s):=R.at_ _ _ _ t h;dsimp only at q;cases f:fs.lookup m with
   |some _=>rw[f] at q;exact(show False from q).elim
   |none=>
    cases g:mt c m with
    |none=>rw[f,g] at q;exact(show False from q).elim
    |some i=>
     rw[f,g] at q;refine(a,c,j,p,i,rfl,u,?_,g,q);exact s.lookN m f
def Bke{mt:Nat->t6->o9 Fi}{m:t6}(B:∀c i,mt c m=sr i->Ap0 j X c m i)(hx:Ed (CXo X.prog X.w) X E)(ho:WE X o (tF j E f))(ha:WA X (e::g) (tFs j E gs))(bc:attributeBase o m X.env (eval o X.env)=eval o X.env)(t:((backTo b (starEach (e::g) X.env)).all (λx=>!x.1)&&(backToKw b (keywordEach [] X.env)).all (λx=>x.1.isSome)&&decide[(e::g).length+([]:lg iB).length+(if ([]:lg iB).isEmpty then 0 else 1) < 30])=t8)(ao:(aj.endLine==b.line)=t8)(he:starEach (e::g) X.env=(u6 t7 (eval e X.env))::starEach g X.env)(A:(backTo b (starEach g X.env)).any (·.1)=t7):
  WE X (.Call (.Attribute o m aj) (e::g) [] b) tF[j][E][Bv mt m f gs]:=(⟨λaa s P H Q I ⟨ρ,S,Y,R,sl,q⟩=>by
 refine call_meth bc t ao (thn (ho.un aa s P H _ I (ρ,S,Y,R,sl,Av.seq (Rel:=RV j) q)) λu s1 ⟨x,H1,I1,rx,ρ1,S1,w,p1,t1,R1,rv,q1⟩ pl=>?_);let(a,c,dx,fs,i,rfl,ea,l,hi,q2):=Am7 R1 rv q1;obtain rfl:u=bJ a:=rx;let(n,fa,fd,ps,cm,C,hm,F,hr,L,dvs,ds,J,G,hb):=(B c i hi).ex;apply Aeu I1 ea C hm l;refine jG (first:=[.ref a]) (h₀:=X.base) I.ok.mod.kin hm.kp (thn (ha.un b aa s1 P H1 _ I1 (ρ1,S1,Y,R1,sl.mono p1 t1,Av.seq (Rel:=RVs j) q2)) λus s2 ⟨vs,H2,I2,r,ρ2,S2,ws,p2,t2,R2,rvs,q3⟩=>(I2.kIn,?_)) he A
 unfold Ahm at q3;split at q3
 .exact Xy (us:=.ref a::us) (vs:=.ref a::vs) (dvs:=[]) F hr L .nil hx I2 (.cons rfl r) (ρ2,S2,w::ws,R2,by rw[bQ];exact .cons (rv.mono p2 t2) rvs,q3)
 .split at q3
  .exact Xy (us:=.ref a::us) (vs:=.ref a::vs) F hr hb G hx I2 (.cons rfl r) (ρ2,S2,w::(ws ++ i.dv),R2,.cons[rv.mono p2 t2][rvs.append Mw[J]],q3)
  trivial⟩)
def Bed{mt:Nat->t6->o9 Fi}{m:t6}(t:∀c i,mt c m=sr i->Ap0 h X c m i)(J:Ed (CXo X.prog X.w) X E)(ho:WE X o (tF h E f))(bc:attributeBase o m X.env (eval o X.env)=eval o X.env)(ao:(aj.endLine==g.line)=t8):
  WE X (.Call (.Attribute o m aj) [] [] g) tF[h][E][Bv mt m f nilF]:=(⟨λaa s T H Q I ⟨ρ,S,Y,R,sl,q⟩=>by
 refine call_meth bc (by rfl) ao (thn (ho.un aa s T H _ I (ρ,S,Y,R,sl,Av.seq (Rel:=RV h) q)) λu s1 ⟨x,H1,I1,rx,ρ1,S1,w,p1,t1,R1,rv,q1⟩ pl=>?_)
 let(a,c,dx,fs,i,rfl,ea,l,hi,q2):=Am7 R1 rv q1;obtain rfl:u=bJ a:=rx;let(n,fa,fd,ps,cm,C,N,F,L,z,dvs,ds,y,v,hb):=(t c i hi).ex;apply Aeu I1 ea C N l;let(b,O,ws,G,B,R2,p,d):=Av.seq (Rel:=RVs h) q2 ρ1 H1 [] aP[_] (Cd.refl ..) R1 .nil;cases p;apply nM I1.kIn N.kp;unfold Ahm at d;split at d
 .exact Xy (us:=[.ref a]) (vs:=[.ref a]) (dvs:=[]) F L z .nil J I1 (.cons rfl .nil) (b,O,[w],R2,.cons (rv.mono G B) .nil,d)
 .split at d
  .exact Xy (us:=[.ref a]) (vs:=[.ref a]) F L hb v J I1 (.cons rfl .nil) (b,O,w::i.dv,R2,.cons[rv.mono G B][Mw y],d)
  trivial⟩)
end
def noStar:bO->Bool
 |.Starred _ _=>t7
 |_=>t8
def Ain:bO->Bool
 |.Set _ _ _=>t7
 |_=>t8
def Akv:bO->Bool
 |.ListComp _ _ _ _=>t7
 |.SetComp _ _ _ _=>t7
 |.DictComp _ _ _ _ _=>t7
 |_=>t8
def Ap2:bO->Bool
 |.Call (.Name id _) [] [] _=>id != "super"
 |_=>t8
def isCall:bO->Bool
 |.Call _ _ _ _=>t8
 |_=>t7
def Ar7:bO->Bool
 |.Slice _ _ _ _=>t7
 |_=>t8
def plainT:bO->Bool
 |.UnaryOp .Not _ _=>t7
 |.BoolOp _ _ _=>t7
 |.IfExp _ _ _ _=>t7
 |.Compare _ _ _ _=>t7
 |_=>t8
section
def Jl(h:noStar a=t8):starEach (a::c) env=(u6 t7 (eval a env))::starEach c env:=by
 cases a <;> first|rfl|cases h
theorem G4:∀{a:lg bO},a.all noStar=t8->(backTo c (starEach a env)).any (·.1)=t7
 |[],_=>rfl
 |e::a,h=>by
  rw[eN,aL] at h;rw[Jl h.1];exact G4 h.2
theorem Am8:∀{a:lg bO},a.all noStar=t8->(backTo c (starEach a env)).all (λx=>!x.1)=t8
 |[],_=>rfl
 |e::a,h=>by
  rw[eN,aL] at h;rw[Jl h.1];exact Am8 h.2
def Ad9(h:Ain a=t8):∀x,foldedSetIterable a env x=pure x:=(λx=>by
 cases a <;> first|rfl|cases h)
def Xz(h:Ain b=t8):behindInMarks a b=t7:=by
 cases b <;> first|rfl|cases h
def Ar8{n:Nat}(h:Akv a=t8):swapsWith a t n env=pure t7:=by
 cases a <;> first|rfl|cases h
nonrec def Aea(h:Ap2 a=t8):attributeBase a x env (eval a env)=eval a env:=by
 unfold attributeBase;split
 .rename_i id p c;let e:(id != ("super":t6))=t8:=h;rw[di (by rw[e];rfl)]
 .rfl
def Bhn(h:Ar7 b=t8):Ad1 b:=by
 cases b <;> first|exact λa a=>rfl|cases h
nonrec def Ar9(h:plainT a=t8):∀whole,isTrue a env whole=(do let v<-whole;standAt a.pos;holding [v] truthy[v]):=(λw=>by
 cases a <;> first|rfl|cases h|skip
 rename_i b o p;cases b <;> first|rfl|cases h)
end
def Abl(x:t6):lg t6->o9 Nat
 |[]=>sy
 |y::ys=>if y=x then sr 0 else (Abl x ys).map (·+1)
theorem Qw:∀{l:lg t6} {i:Nat},Abl x l=sr i->l[i]?=sr x
 |[],_,h=>by cases h
 |y::f,i,h=>by
  unfold Abl at h;split at h
  .rename_i e;cases h;subst e;rfl
  .let(j,b,rfl):=bI.mp h;simpa using Qw b
structure Gm where
 N:List t6
 sc:gR
 fn:t6->Option Fi
 con:t6->Option W
 bi:t6->Bool
 exc:t6->Option Nat
 isa:Nat->W->Option Bool
 fld:Bool->Nat->t6->Bool
 calm:Bool
 fnB:Bool
 rs:Bool
 mdc:t6->Option (List (t6×t6))
 exi:t6->Option (Nat×List W)
 hcl:t6->Option Nat
 exm:Nat->Nat->Bool
 exn:Nat->Nat->Bool
 loops:Bool
 tr:Bool
 mt:Nat->t6->Option Fi
 mn:t6->Bool
 mkc:t6->Option (Nat×Fi)
 mkr:Option (Nat×t6)
 lam:Option (Lm->List W->M W)
 fnq:t6->Option Fi
structure Gm.Ok(Θ:Th)(Γ:Gm)(X:Cx)(E:L2.St->XK):Prop where
 hK:X.K=Θ.K
 hu:X.A.units+64 < cLine
 N:X.N=Γ.N
 nd:X.N.Nodup
 sc:X.env.scope=Γ.sc
 fn:∀x i,Γ.fn x=sr i->∃(n:Nat)(fa:aH)(fd:dN)(ps:List t6)(df:cO)(cm:Bool),Ng X.K X.mg x df ps fa fd/\Hw X.prog X.w X.K X.mg X.base (CXo X.prog X.w) n fa fd ps (spF Θ i.g) cm/\Fx n X.A cm/\
  ∃dvs ds,Dq D.Ga i.dv=sr dvs/\Vals dvs ds/\Binds X.K fd ps ds
 ps:Ed (CXo X.prog X.w) X E
 px:Γ.loops=t8->X.stack=X.env::X.outer/\X.env.frame=sr X.env.locals/\X.ex=[]/\Xi X E
 con:∀x w,Γ.con x=sr w->∃v u,(∀ρ H,RV Θ ρ H w v)/\RelV v u/\(X.mg x=sr u\/(X.mg x=sy/\bootBuiltins x=sr u))
 bi:∀x,Γ.bi x=t8->X.mg x=sy
 fld:FOk Θ Γ.fld
 isa:Am4 Θ Γ.isa
 calm:Γ.calm=t8->X.calm=t8
 fnB:Γ.fnB=t8->∀x,X.fn x=t8
 mdc:∀x D,Γ.mdc x=sr D->∃a,Au8 X.K a D/\X.mg x=sr (.ref a)
 mt:∀c m i,Γ.mt c m=sr i->Ap0 Θ X c m i
 mkc:∀x c i,Γ.mkc x=sr (u6 c i)->X.mg x=sr (.ref (Θ.cl c))/\Ap1 Θ X c i
 mkr:∀j q,Γ.mkr=sr (u6 j q)->Maker Θ X j/\X.env.qual ++ "<lambda>"=q
 lam:∀L,Γ.lam=sr L->∀l,Qc l->∃n,Xo Θ X.prog X.w X.K X.mg X.base n l (L l)/\Fx n X.A t8
 fnq:∀x i,Γ.fnq x=sr i->∃(n:Nat)(fa:aH)(fd:dN)(ps:List t6)(df:cO),Ng X.K X.mg x df ps fa fd/\Hw X.prog X.w X.K X.mg X.base (CXo X.prog X.w) n fa fd ps (spF Θ i.g) t7/\Fx n X.A t7/\
  ∃dvs ds,Dq D.Ga i.dv=sr dvs/\Vals dvs ds/\Binds X.K fd ps ds
structure Rd where
 val:De->M W
 tst:De->M Bool
 base:De->M W
 lo:De->M (Option Int)
 hi:De->M (Option Int)
 src:De->M Src
 srcT:De->M Src
 sv:De->M (List W)
def Dz{α:Type}:De->M α:=λuw=>bad
def Rd.no:Rd:=(Dz,Dz,Dz,Dz,Dz,Dz,Dz,Dz)
def Rd.of(f:De->M W):Rd:=(f,Do f,Dz,Dz,Dz,Hc f,Hc f,Dz)
structure Ma(Θ:Th)(X:Cx)(E:L2.St->XK)(e:bO)(r:Rd):Prop where
 val:WE X e (tF Θ E r.val)
 tst:WT X e (tFb Θ E r.tst)
 base:∀o n p,e=.Attribute o n p->WE X o (tF Θ E r.base)
 lo:∀lo hi p,e=.Slice lo hi sy p->WO X lo (tFo Θ E r.lo)
 hi:∀lo hi p,e=.Slice lo hi sy p->WO X hi (tFo Θ E r.hi)
 src:∀tg,WI X tg e (tFi Θ E r.src)
 srcT:∀es k p,WI X (.Tuple es k p) e (tFi Θ E r.srcT)
 sv:∀f es kws p,e=.Call f es kws p->WA X es (tFs Θ E r.sv)
def Adu:bO->o9 t6
 |.Name x _=>sr x
 |_=>sy
def J1{e:bO}{x:t6}(h:Adu e=sr x):∃p,e=.Name x p:=by
 cases e <;> cases h
 exact(_,rfl)
def Ayn:bO->o9 (bO×lg bO×lg iB)
 |.Call f as ks _=>sr u6[f][u6 as ks]
 |_=>sy
def Aeb{e:bO}{q:bO×lg bO×lg iB}(h:Ayn e=sr q):∃p,e=.Call q.1 q.2.1 q.2.2 p:=by
 cases e <;> cases h
 exact(_,rfl)
inductive Ho(Θ:Th)(X:Cx)(E:L2.St->XK):List bO->List Rd->Prop
 |nil:Ho Θ X E [] []
 |cons {e:bO} {es:List bO} {r:Rd} {rs:List Rd}:Ma Θ X E e r->Ho Θ X E es rs->Ho Θ X E (e::es) (r::rs)
section
def Ck:WE X e (tF Θ E Dz):=⟨λ_ _ _ _ _ _ ⟨_,_,_,_,_,q⟩=>bZ q⟩
def Ap3:WT X e (tFb Θ E Dz):=⟨λ_ _ _ _ _ _ ⟨_,_,_,_,_,q⟩=>bZ q⟩
def Ayo:WW X e (tFb Θ E Dz):=⟨λ_ _ _ _ _ _ _ ⟨_,_,_,_,_,q⟩=>bZ q⟩
def Sy:WO X u (tFo Θ E Dz):=⟨λ_ _ _ _ _ _ ⟨_,_,_,_,_,q⟩=>bZ q⟩
def Afm:WI X tg e (tFi Θ E Dz):=⟨λ_ _ _ _ _ _ ⟨_,_,_,_,_,q⟩=>bZ q⟩
def Afn:WA X es (tFs Θ E Dz):=⟨λ_ _ _ _ _ _ _ ⟨_,_,_,_,_,q⟩=>bZ q⟩
def Gy:Ma Θ X E e Rd.no:=(Ck,Ap3,λuw uw uw uw=>Ck,λuw uw uw uw=>Sy,λuw uw uw uw=>Sy,λuw=>Afm,λuw uw uw=>Afm,λuw uw uw uw uw=>Afn)
def Py(hK:X.K=b.K)(h:WE X e (tF b E f))(c:plainT e=t8):Ma b X E e Rd.of[f]:=by
 exact(h,Ayd h Ar9[c],λa a a a=>Ck,λa a a a=>Sy,λa a a a=>Sy,λa=>Am0 hK h,λa a a=>Am0 hK h,λa a a a a=>Afn)
def Vu(hK:X.K=b.K)(h:WE X e (tF b E f))(c:WT X e (tFb b E t)):Ma b X E e { Rd.of f with tst:=t }:=by
 exact(h,c,λa a a a=>Ck,λa a a a=>Sy,λa a a a=>Sy,λa=>Am0 hK h,λa a a=>Am0 hK h,λa a a a a=>Afn)
def vals:lg Rd->De->M lg[W]
 |[]=>nilF
 |r::rs=>Cu r.val vals[rs]
def Mf{a:lg bO}{rs:lg Rd}(g:Ho c X E a rs):a.all noStar=t8->WA X a (tFs c E vals[rs]):=(
 Ho.rec (motive:=λa rs _=>a.all noStar=t8->WA X a (tFs c E vals[rs])) (λ_=>WA.weak ⟨Aj1⟩ λd H Q ⟨ρ,S,Y,R,sl,q⟩=>q.now R .nil) (λh _ t hs=>by
  rw[eN,aL] at hs;exact Bjf h.val t[hs.2] Jl[hs.1]) g)
def Ayp:Const->De->M W
 |.int i=>kF .int[i]
 |.bool b=>kF .bl[b]
 |.none=>kF .non
 |.str x=>kF .str[x]
 |_=>Dz
def Ayq{j:Nat}:WE[X][.Constant v j b][tF d E Ayp[v]]:=by
 cases v <;> first|exact Ck|skip
 .exact Ako rfl ⟨λa a a H a I h=>aBe (.non,H,I,rfl,h)⟩
 .exact Ako rfl ⟨Bmk⟩
 .exact Ako rfl ⟨Awn⟩
 .exact Ako rfl ⟨Bia⟩
def Asa(Γ:Gm)(x:t6):De->M W:=if x==("__debug__":t6)||x==("__classdict__":t6)||decide[x=("__name__":t6)] then Dz else
 match Γ.sc.names.lookup x with
 |some .globalImplicit=>match Γ.con x with
  |some w=>kF w
  |none=>Dz
 |_=>match Abl x Γ.N with
  |some i=>if Apn Γ.sc x then Aa i else Dz
  |none=>Dz
nonrec def Asb(G:k.Ok j X E):WE X (.Name x l) tF[j][E][Asa k x]:=by
 unfold Asa;split
 .exact Ck
 rename_i g;rw[fC,fC,not_or,not_or] at g;let((c,f),o):=g;let c:=jC.mpr c;let f:=jC.mpr f;split
 .rename_i p;split
  .rename_i w m;let(v,u,d,r,a):=G.con x w m;let b:X.env.kindOf x=sr .globalImplicit:=by show X.env.scope.names.lookup x=_;rwa [G.sc]
   rcases a with a|⟨a,n⟩
   .exact Ayi d (Bhc a r b c)
   .exact Ayi d (⟨λe e e H e I h=>Aa5 I b a n (v,H,I,r,h) of_decide_eq_false[jC.mpr[o]] c⟩)
  .exact Ck
 .split
  .rename_i i hi;split
   .rename_i d;exact Bn2 kv[i][G.N ▸ Qw hi][G.sc ▸ d][c][f]
   .exact Ck
  .exact Ck
def Bkf(op:aCr)(a b:Rd):De->M W:=match Bop.of op with
 |some o=>Ax o a.val b.val
 |none=>Dz
nonrec def Bkg{e:Gm}{d:aCr}{r s:Rd}(G:e.Ok c X E)(i:Ma c X E a r)(h:Ma c X E b s):WE X (.BinOp a d b f) tF[c][E][Bkf d r s]:=by
 unfold Bkf;split
 .rename_i o g;exact Bn1 G.hK g i.val h.val
 .exact Ck
def Afo(f:De->M W):De->M W:=λY=>do let x<-f Y;match x with
 |.int i=>pure .int[-i]
 |_=>bad
def unR(op:UnaryOp)(r:Rd):Rd:=match op with
 |.Not=>{ Rd.of Bje[r.val] with tst:=Jd r.tst }
 |.USub=>Rd.of Afo[r.val]
 |_=>Rd.no
def Boh{A:Gm}{p:UnaryOp}{r:Rd}(G:A.Ok m X E)(t:Ma m X E a r):Ma m X E (.UnaryOp p a J) (unR p r):=by
 cases p
 .exact Gy
 .exact Vu G.hK (WE.weak knot[t.val] λf H Q ⟨ρ,S,Y,R,sl,q⟩=>by
 refine(ρ,S,Y,R,sl,(Av.seq (Rel:=RV m) q).mono ?_);rintro v g ⟨i,z,w,y,u,l,o,e⟩;let(b,rfl,F):=Afb o e;exact(b,rfl,F.now l .bl[_])) (WT.weak[⟨λn s f H Q I h=>isTrue_not[thn[t.tst.un n s f H (λc g=>Q (!c) g) I h] λ_ _ ⟨a,b,c⟩=>(a,b,c)]⟩] λf H Q ⟨ρ,S,Y,R,sl,q⟩=>by
 refine(ρ,S,Y,R,sl,(Av.seq (Rel:=λd d a b=>a=b) q).mono ?_);rintro v g ⟨i,z,w,y,u,l,rfl,e⟩;exact Av.now (Rel:=λd d a b=>a=b) e l rfl)
 .exact Gy
 .exact Py G.hK (WE.weak[⟨λn s f H Q I h=>UnaryOp_[thn[t.val.un n s f H _ I h] λv B ⟨x,g,I1,r1,e⟩=>(unI λd d d d d q=>neg_int q) n B f g x v Q I1 r1 e]⟩] λf H Q ⟨ρ,S,Y,R,sl,q⟩=>by
 refine(ρ,S,Y,R,sl,(Av.seq (Rel:=RV m) q).mono ?_);rintro v g ⟨i,z,w,y,u,l,o,e⟩;cases o <;> first|exact bZ e|skip
 exact(_,rfl,e.now l .int[_])) rfl
def Bkh:lg Rd->De->M W
 |[]=>Dz
 |[r]=>r.val
 |r::s::rs=>Il r.val (Bkh (s::rs))
def orV:lg Rd->De->M W
 |[]=>Dz
 |[r]=>r.val
 |r::s::rs=>orF r.val (orV (s::rs))
def Ayr:lg Rd->De->M Bool
 |[]=>Dz
 |[r]=>r.tst
 |r::s::rs=>Aku r.tst (Ayr (s::rs))
def Bki:lg Rd->De->M Bool
 |[]=>Dz
 |[r]=>r.tst
 |r::s::rs=>orT r.tst (Bki (s::rs))
def Bee{d:lg bO}{rs:lg Rd}(g:Ho f X E d rs):WE[X][.BoolOp .And d p][tF f E Bkh[rs]]:=by
 induction g with
 |nil=>exact Ck
 |@cons e d r rs h g t=>
  cases g with
  |nil=>exact Bng h.val
  |cons z A=>
   exact WE.weak[Bp7 h.val t] λy H Q ⟨ρ,S,Y,R,sl,q⟩=>by
    refine(ρ,S,Y,R,sl,(Av.seq (Rel:=RV f) q).mono ?_);rintro v B ⟨c,u,w,s,m,k,n,o⟩;let(b,rfl,j):=Afb n o;refine(b,rfl,?_);cases b with
    |true=>exact L2.Ami (c,u,Y,k,sl.mono s m,j)
    |false=>exact L2.Api[j.now k .bl[_]]
theorem Bkj:∀{g:lg bO} {rs:lg Rd},Ho d X E g rs->WE X (.BoolOp .Or g n) (tF d E orV[rs])
 |_,_,.nil=>Ck
 |_,_,.cons h .nil=>Bng h.val
 |_,_,.cons h (.cons p r)=>(WE.weak[kor h.val Bkj[.cons p r]] λu H Q ⟨j,S,Y,R,e,q⟩=>by
 refine(j,S,Y,R,e,(Av.seq (Rel:=RV d) q).mono ?_);rintro v x ⟨c,s,w,o,k,i,l,m⟩;let(b,rfl,f):=Afb l m;refine(b,rfl,?_);cases b with
 |true=>exact L2.Ami (f.now i .bl[_])
 |false=>exact L2.Api (c,s,Y,i,e.mono o k,f))
theorem Am9:∀{i:lg bO} {rs:lg Rd},Ho l X E i rs->WW X (.BoolOp .And i n) (tFb l E Ayr[rs])
 |_,_,.nil=>Ayo
 |_,_,.cons h .nil=>Bnh h.tst
 |_,_,.cons h (.cons p r)=>(WW.weak[Bqa h.tst Am9[.cons p r]] λu H Q ⟨k,S,Y,R,f,q⟩=>by
 refine(k,S,Y,R,f,(Av.seq (Rel:=λe e a b=>a=b) q).mono ?_);rintro v x ⟨d,s,w,o,m,j,rfl,g⟩;cases w with
 |true=>exact L2.Ami (d,s,Y,j,f.mono o m,g)
 |false=>exact L2.Api (Av.now (Rel:=λe e a b=>a=b) g j rfl))
theorem Asc:∀{i:lg bO} {rs:lg Rd},Ho l X E i rs->WW X (.BoolOp .Or i n) (tFb l E Bki[rs])
 |_,_,.nil=>Ayo
 |_,_,.cons h .nil=>Bqb h.tst
 |_,_,.cons h (.cons p r)=>(WW.weak[tor h.tst Asc[.cons p r]] λu H Q ⟨k,S,Y,R,f,q⟩=>by
 refine(k,S,Y,R,f,(Av.seq (Rel:=λe e a b=>a=b) q).mono ?_);rintro v x ⟨d,s,w,o,m,j,rfl,g⟩;cases w with
 |true=>exact L2.Ami (Av.now (Rel:=λe e a b=>a=b) g j rfl)
 |false=>exact L2.Api (d,s,Y,j,f.mono o m,g))
def Bho(op:BoolOp)(rs:lg Rd):Rd:=match op with
 |.And=>{ Rd.of Bkh[rs] with tst:=Ayr rs }
 |.Or=>{ Rd.of Dz with tst:=Bki rs }
def Bef{d:Gm}{a:BoolOp}{rs:lg Rd}(G:d.Ok b X E)(h:Ho b X E f rs):Ma b X E (.BoolOp a f e) (Bho a rs):=by
 cases a
 .exact Vu G.hK Bee[h] tw[Am9[h]]
 .exact Vu G.hK Ck tw[Asc[h]]
def Boi(ops:lg vQ)(bs:lg bO)(r:Rd)(rs:lg Rd):Rd:=match ops,bs,rs with
 |[op],[b],[s]=>if Ain b then { Rd.of[Ec op r.val s.val] with tst:=Do[Ec op r.val s.val] } else Rd.no
 |[op,op'],[_,c],[s,t]=>if Ain c then { Rd.of[Qv op op' r.val s.val t.val] with tst:=Do[Qv op op' r.val s.val t.val] } else Rd.no
 |_,_,_=>Rd.no
nonrec def Bkk{L:Gm}{d:lg vQ}{r:Rd}{rs:lg Rd}(G:L.Ok b X E)(t:Ma b X E a r)(h:Ho b X E J rs):Ma b X E (.Compare a d J pos) (Boi d J r rs):=by
 rcases d with _|⟨p,_|⟨g,_|_⟩⟩
 .exact Gy
 .rcases h with _|⟨l,_|_⟩
  .exact Gy
  rotate_left
  .exact Gy
  show Ma _ _ _ _ (ite _ _ _);split
  .rename_i j;exact Vu G.hK (by
     obtain⟨o⟩:=Auw b X G.hK G.hu p;exact WE.weak (⟨by
      intro m s f H Q I h;exact wpAny_Compare1[Big t.val.un l.val.un I h λv u w x y C B P O q=>o.ok m w f C x y v u Q B P O q][Xz j]⟩) Rh[o.by_]) (by
        obtain⟨o⟩:=Auw b X G.hK G.hu p;exact Apu Rh[o.by_] (⟨by
         intro m s f H Q I h;refine wpAny_isTrue_Compare1 (thn[t.val.un m s f H _ I h] λv N ⟨x,H1,I1,r1,q1⟩=>thn[l.val.un m N f H1 _ I1 q1] λu w ⟨y,C,B,r2,q2⟩=>
          thn[o.ok m w f C x y v u _ B r1 r2 q2] λc s3 ⟨z,H3,I3,r3,k,e,q3⟩=>?_) Xz[j]
         subst e;cases r3;exact gK (H3,I3,q3)⟩))
  .exact Gy
 .rcases h with _|⟨l,_|⟨F,_|_⟩⟩
  .exact Gy
  .exact Gy
  rotate_left
  .exact Gy
  show Ma _ _ _ _ (ite _ _ _);split
  .rename_i j;exact Vu G.hK (by
     obtain⟨o⟩:=Auw b X G.hK G.hu p;obtain⟨i⟩:=Auw b X G.hK G.hu g;exact WE.weak[⟨Awq o.ok i.ok t.val.un l.val.un F.val.un Xz[j]⟩][Aik o i]) (by
       obtain⟨o⟩:=Auw b X G.hK G.hu p;obtain⟨i⟩:=Auw b X G.hK G.hu g;exact Apu[Aik o i][⟨Awr o.ok i.ok t.val.un l.val.un F.val.un Xz[j]⟩])
  .exact Gy
 .exact Gy
def Bkl(es:lg bO)(rs:lg Rd):De->M W:=if es.all noStar then Gu vals[rs] else Dz
def Bkm(es:lg bO)(rs:lg Rd):De->M W:=if es.all noStar then Dr vals[rs] else Dz
def Bkn{j:Nat}(h:Ho b X E a rs):WE X (.Tuple a j c) tF[b][E][Bkl a rs]:=by
 unfold Bkl;split
 .rename_i hs;exact Bn3[Mf h hs]
 .exact Ck
def Bko(h:Ho b X E a rs):WE X (.List a c) tF[b][E][Bkm a rs]:=by
 unfold Bkm;split
 .rename_i hs;exact Bn4[Mf h hs]
 .exact Ck
def Asd:lg o9[Rd]->lg Rd->o9 lg[(De->M W)×(De->M W)]
 |[],[]=>sr []
 |some k::ks,v::vs=>(Asd ks vs).map ((u6 k.val v.val)::·)
 |_,_=>sy
def Ays(ks:lg o9[Rd])(vs:lg Rd):De->M W:=match Asd ks vs with
 |some l=>if decide[l.length<=15] then Sx l else Dz
 |none=>Dz
inductive Tc(Θ:Th)(X:Cx)(E:L2.St->XK):List (Option bO)->List (Option Rd)->Prop
 |nil:Tc Θ X E [] []
 |none {es:List (Option bO)} {rs:List (Option Rd)}:Tc Θ X E es rs->Tc Θ X E (sy::es) (sy::rs)
 |some {e:bO} {r:Rd} {es:List (Option bO)} {rs:List (Option Rd)}:Ma Θ X E e r->Tc Θ X E es rs->Tc Θ X E (sr e::es) (sr r::rs)
def Ayt{c:lg o9[bO]}{d:lg bO}{i:lg o9[Rd]}{b:lg Rd}{l:lg[(De->M W)×(De->M W)]}(h:Tc f X E c i)(g:Ho f X E d b)(e:Asd i b=Option.some l):
  WPs X pos c d (l.map λp=>(u6[tF f E p.1][tF f E p.2]))/\c.all (·.isSome)=t8/\c.length=d.length/\l.length=c.length:=by
 induction h generalizing d b l with
 |nil=>
  cases g with
  |nil=>cases e;exact(⟨λv s u H Q I h=>pairTrees_nil_walk ([],H,I,.nil,h)⟩,rfl,rfl,rfl)
  |cons=>cases e
 |none _=>cases e
 |some r _ o=>
  cases g with
  |nil=>cases e
  |cons q b=>
   unfold Asd at e;let(l',t,rfl):=bI.mp e;let(n,m,k,j):=o b t;exact(Bco r.val q.val n,m,congrArg aAm k,congrArg aAm j)
nonrec def Beg(q:Tc d X E a h)(n:Ho d X E c g):WE X (.Dict a c pos) tF[d][E][Ays h g]:=by
 unfold Ays;split
 .rename_i l o;let(m,j,i,f):=Ayt (pos:=pos) q n o;split
  .rename_i b;cases a with
   |nil=>
    cases c with
    |nil=>
     cases l with
     |nil=>exact Bj2
     |cons p l=>trivial
    |cons e c=>trivial
   |cons k a=>exact Bj3 m j i () (by rw[<-f];exact dg b) f
  .exact Ck
 .exact Ck
def Boj(Γ:Gm):bO->o9 lg[t6×t6]
 |.Name x _=>if !(x==("__debug__":t6))&&decide[Γ.sc.names.lookup x=sr .globalImplicit] then Γ.mdc x else sy
 |_=>sy
def subV(Γ:Gm)(a i:bO)(o r:Rd):De->M W:=match Boj Γ a with
 |some D=>if Ar7 i then mdF D r.val else Dz
 |none=>match i with
  |.Slice _ _ sy _=>slF o.val r.lo r.hi
  |.Slice _ _ (sr _) _=>Dz
  |_=>ixF o.val r.val
nonrec def Bkp(G:h.Ok e X E)(g:Ma e X E a r)(d:Ma e X E b s):WE X (.Subscript a b i) tF[e][E][subV h a b r s]:=by
 unfold subV;split
 .rename_i D c;split
  .rename_i l;unfold Boj at c;split at c
   .split at c
    .rename_i f;rw[aL] at f;let(A,n,m):=G.mdc _ D c;exact Bq1 n m (by show X.env.scope.names.lookup _=_;rw[G.sc];exact dg f.2) (by simpa using f.1) d.val Bhn[l]
    .cases c
   .cases c
  .exact Ck
 split
 .exact Bdf G.hK g.val (d.lo _ _ _ rfl) (d.hi _ _ _ rfl)
 .exact Ck
 .rename_i k j;refine Bqn G.hK G.hu g.val d.val Bhn[?_];cases b <;> first|rfl|skip
  rename_i lo hi st p;cases st
  .exact(k _ _ _ rfl).elim
  .exact(j _ _ _ _ rfl).elim
def Ayu:o9 Rd->De->M o9[Int]
 |none=>By
 |some r=>Dh r.val
def Bkq(Γ:Gm)(o:bO)(f:t6)(r:Rd):De->M W:=if Ap2 o then Gv Γ.fld f r.val else Dz
def Bkr(G:b.Ok a X E)(d:Ma a X E o r):WE X (.Attribute o f c) tF[a][E][Bkq b o f r]:=by
 unfold Bkq;split
 .rename_i h;exact Boc G.hK G.fld d.val Aea[h]
 .exact Ck
end
section
def Beh{n:Nat}(D:Ng X.K X.mg x df ps G fd)(F:Hw X.prog X.w X.K X.mg X.base CX n G fd ps (spF i s) J)(u:Fx n X.A J)(r:Ed CX X E)(t:Dq _root_.D.Ga dv=sr h)(hd:Vals h I)(z:Binds X.K fd ps I)(B:WA X (a::b) (tFs i E C))(v:Gl X x)(g:(x==("__debug__":t6))=t7)(y:starEach (a::b) X.env=(u6 t7 (eval a X.env))::starEach b X.env)(f:(backTo e (starEach b X.env)).any (·.1)=t7):
  WE[X][.Call (.Name x p) (a::b) [] e][tF i E Ds[λj=>s[j ++ dv]][C]]:=(WE.weak ⟨Amj F u v D.gl D.fn.kp z hd r B.un g y f⟩ λU H Q ⟨ρ,S,Y,R,sl,q⟩=>by
 refine(ρ,S,Y,R,sl,(Av.seq q).mono ?_);rintro Z H1 ⟨c,N,j,p1,t1,O,d,o⟩;exact(c,N,_,O,d.append Mw[t],o))
def Ana{n:Nat}(D:Ng X.K X.mg x P ps r fd)(F:Hw X.prog X.w X.K X.mg X.base CX n r fd ps (spF e s) u)(l:Fx n X.A u)(j:Ed CX X E)(k:Dq _root_.D.Ga dv=sr d)(hd:Vals d t)(o:Binds X.K fd ps t)(m:Gl X x)(c:(x==("__debug__":t6))=t7):
  WE[X][.Call (.Name x p) [] [] i][tF e E Ds[λf=>s[f ++ dv]][nilF]]:=(⟨λT N G H Q I ⟨ρ,S,Y,R,sl,q⟩=>by
 refine eU[K9 I m D.gl ?_ c];refine nM I.kIn D.fn.kp (Xy F l o hd j I .nil ?_);let(a,y,f,O,J,z,b,h):=Av.seq (Rel:=RVs e) q ρ H [] aP[_] (Cd.refl ..) R .nil;cases b;exact(a,y,dv,z,Mw k,h)⟩)
def Bei(Γ:Gm)(name:t6)(old:o9[De->M W])(f:De->M W)(gs:De->M lg[W]):De->M W:=match Γ.mn name,old with
 |true,sr g=>orM g (Bv Γ.mt name f gs)
 |true,sy=>Bv Γ.mt name f gs
 |false,sr g=>g
 |false,sy=>Dz
def Ase(c:∀g,a=sr g->WE X e (tF b E g))(f:WE X e tF[b][E][Bv d.mt name i h]):WE X e tF[b][E][Bei d name a i h]:=by
 unfold Bei;split
 .exact Bkd (c _ rfl) f
 .omega
 .exact c _ rfl
 .exact Ck
def Bhp(i:Fi)(c:Nat)(k:Nat)(gs:De->M lg[W]):De->M W:=if k+1=i.np then Ds (λws=>Ni c i.g ws) gs else if k+1+i.dv.length=i.np then Ds (λws=>Ni c i.g (ws ++ i.dv)) gs else Dz
def notName:bO->Bool
 |.Name _ _=>t7
 |_=>t8
def Ayv(Γ:Gm)(f:bO)(fr:Rd)(args:lg bO)(ars:lg Rd)(kws:lg iB)(cpos:o8):De->M W:=
 match kws with
 |_::_=>Dz
 |[]=>if !args.all noStar then Dz else match f with
  |.Name x _=>if x==("__debug__":t6)||decide[x=("__name__":t6)]||!decide (Γ.sc.names.lookup x=sr .globalImplicit) then Dz else
   match Γ.fn x with
   |some i=>if args.length=i.np then Ds i.g vals[ars] else if args.length+i.dv.length=i.np then Ds[λws=>i.g[ws ++ i.dv]][vals ars] else Dz
   |none=>match Γ.mkc x with
   |some (c,i)=>Bhp i c args.length vals[ars]
   |none=>if Γ.bi x&&!args.isEmpty then if x="isinstance" then Ds Hd[Γ.isa] vals[ars] else match Bdg x with
     |some g=>if Γ.calm then Ds g vals[ars] else Dz
     |none=>match Bdh x with
      |some g=>if Γ.calm then Ds g vals[ars] else Dz
      |none=>Dz
    else Dz
  |.Attribute o name aj=>if Ap2 o&&(aj.endLine==cpos.line) then
    match args with
    |[]=>Bei Γ name sy fr.base nilF
    |_::_=>if decide[args.length < 30] then Bei Γ name ((Bdw notName[o] name).map λp=>Jc p.1 p.2 fr.base vals[ars]) fr.base vals[ars]
     else Dz
   else Dz
  |_=>Dz
def Ayw(h:(a::d).all noStar=t8)(e:(a::d).length < 30):((backTo b (starEach (a::d) env)).all (λx=>!x.1)&&(backToKw b (keywordEach [] env)).all (λx=>x.1.isSome)&&decide[(a::d).length+([]:lg iB).length+(if ([]:lg iB).isEmpty then 0 else 1) < 30])=t8:=by
 rw[Am8 h,aL];exact(rfl,dj[by trivial])
nonrec def Ayx(G:Γ.Ok r X E)(hf:Ma r X E f fr)(B:Ho r X E J ars):WE X (.Call f J kws cpos) tF[r][E][Ayv Γ f fr J ars kws cpos]:=by
 unfold Ayv;split
 .exact Ck
 split
 .exact Ck
 rename_i s;let hs:J.all noStar=t8:=by
  cases h:J.all noStar
  .rw[h] at s;exact(s rfl).elim
  .rfl
 let m:=Mf B hs;split
 .rename_i x np;split
  .exact Ck
  rename_i l;rw[fC,fC,not_or,not_or] at l;let((d,I),h3):=l;let d:=jC.mpr d;let I:=jC.mpr I;let b:X.env.kindOf x=sr .globalImplicit:=by
   show X.env.scope.names.lookup x=_;rw[G.sc];by_cases z:Γ.sc.names.lookup x=sr .globalImplicit
   .exact z
   .rw[dq z] at h3;exact(h3 rfl).elim
  split
  .rename_i i U;let(n,fa,fd,ps,df,cm,D,F,A,dvs,ds,v,u,t):=G.fn x i U;cases B with
   |nil=>
    split
    .exact WE.weak (Ana D F A G.ps (dv:=[]) rfl .nil D.bd b d) λσ H Q q=>by
      let e:(λL=>i.g[L ++ []])=i.g:=funext λL=>by rw[bQ]
      rw[e];exact q
    .split
     .exact Ana D F A G.ps v u t b d
     .exact Ck
   |cons y w=>
    rw[eN,aL] at hs;split
    .exact Bjg D F A G.ps m b d Jl[hs.1] G4[hs.2]
    .split
     .exact Beh D F A G.ps v u t m b d Jl[hs.1] G4[hs.2]
     .exact Ck
  .split
   .rename_i c i P;let(k,C):=G.mkc x c i P;unfold Bhp;cases B with
    |nil=>
     split
     .exact Ar6 (more:=false) C G.ps k b d
     .split
      .exact Ar6 (more:=true) C G.ps k b d
      .exact Ck
    |cons y w=>
     rw[eN,aL] at hs;split
     .exact Aym (more:=false) C G.ps k m b d Jl[hs.1] G4[hs.2]
     .split
      .exact Aym (more:=true) C G.ps k m b d Jl[hs.1] G4[hs.2]
      .exact Ck
   split
   .rename_i p;rw[aL] at p;let k:=G.bi x p.1;cases B with
    |nil=>cases p.2
    |cons y w=>
    rw[eN,aL] at hs;split
    .rename_i hx;subst hx;refine WE.weak[kbi ((Aud r.K G.hK).or (Apz r.K G.hK)) k (by rfl':bootBuiltins "isinstance"=sr .builtin["isinstance"]) m b () () Jl[hs.1] G4[hs.2]] λσ H Q ⟨ρ,S,Y,R,sl,q⟩=>?_
     refine(ρ,S,Y,R,sl,(Av.seq (Rel:=RVs r) q).mono ?_);rintro vs H1 ⟨ρ1,S1,L,p1,t1,R1,N,q1⟩;exact Bqz G.isa R1 N q1
    split
    .rename_i g hbi;split
     .rename_i Z;exact Bqt G.hK G.calm[Z] hbi k m b I d Jl[hs.1] G4[hs.2]
     .exact Ck
    .split
     .rename_i g O;split
      .rename_i Z;exact Bqu G.hK G.calm[Z] O k m b I d Jl[hs.1] G4[hs.2]
      .exact Ck
     .exact Ck
   .exact Ck
 .rename_i o name aj;split
  .rename_i l;rw[aL] at l;let p:=hf.base _ _ _ rfl;split
   .exact Ase[λuw b=>nomatch b][Bed (λc i z=>G.mt c _ i z) G.ps p Aea[l.1] l.2]
   .rename_i a as;split
    .rename_i hl;let j:=hs;rw[eN,aL] at j;refine Ase[λg b=>?_][Bke (λc i z=>G.mt c _ i z) G.ps p m Aea[l.1] (Ayw hs dg[hl]) l.2 Jl[j.1] G4[j.2]];let((T,op),k,rfl):=bI.mp b;exact Bqw k p m Aea[l.1] (Ayw hs dg[hl]) l.2 Jl[j.1] G4[j.2]
    .exact Ck
  .exact Ck
 .exact Ck
def Aec(Γ:Gm)(f:bO)(args:lg bO)(ars:lg Rd)(kws:lg iB)(d:De->M Src):De->M Src:=match f,kws with
 |.Name x _,[]=>if x="range"/\Γ.bi "range"=t8/\Γ.sc.names.lookup ("range":t6)=sr .globalImplicit/\args.all noStar=t8 then match args with
   |[_]=>Rr Kh vals[ars]
   |_=>Dz
  else d
 |_,_=>d
def asI:bO->o9 Int
 |.Constant (.int i) _ _=>sr i
 |_=>sy
def Bks{e:bO}{i:Int}(h:asI e=sr i):∃j p,e=.Constant .int[i] j p:=by
 cases e with
 |Constant c j p=>cases c <;> cases h;exact(_,_,rfl)
 |_=>cases h
def Anb(Γ:Gm)(f:bO)(args:lg bO)(ars:lg Rd)(kws:lg iB)(d:De->M Src):De->M Src:=tkG Adu[f] d λx=>match args,kws with
 |[a,b],[]=>if x="zip"/\Γ.bi "zip"=t8/\Γ.sc.names.lookup ("zip":t6)=sr .globalImplicit/\noStar a=t8/\noStar b=t8 then Au7 vals[ars] else d
 |[a],[k]=>tkG unL[ars] d λr=>tkG asI[k.value] d λi=>if i=1/\x="enumerate"/\k.arg=sr "start"/\Γ.bi "enumerate"=t8/\Γ.sc.names.lookup ("enumerate":t6)=sr .globalImplicit/\noStar a=t8 then Ayj r.1.val else d
 |_,_=>d
nonrec def Anc{C:Nat}(G:u.Ok a X E)(ha:Ho a X E s t)(hd:WI[X][.Tuple g C c][.Call f s b l][tFi a E d]):WI[X][.Tuple g C c][.Call f s b l][tFi a E (Anb u f s t b d)]:=by
 refine Mt (p:=λd=>WI X _ _ (tFi a E d)) hd λx T=>?_;let(_,rfl):=J1 T;let F:∀y:t6,u.sc.names.lookup y=sr .globalImplicit->X.env.kindOf y=sr .globalImplicit:=λy z=>by show X.env.scope.names.lookup _=_;rw[G.sc];exact z
 rcases ha with _|⟨I,_|⟨h2,_|_⟩⟩
 .exact hd
 .rcases b with _|⟨k,_|_⟩
  .exact hd
  rotate_left
  .exact hd
  refine Mt (p:=λd=>WI X _ _ (tFi a E d)) hd λr U=>Mt (p:=λd=>WI X _ _ (tFi a E d)) hd λi hi=>?_;cases U;split
  .rename_i h;let(rfl,rfl,Z,o,n,m):=h;let(j,cp,e):=Bks hi;let(_,_,kp):=k;cases e;cases Z;refine WI.weak[⟨Bcm[F _ n][G.bi _ o][I.val.un][Jl m]⟩] λσ H Q ⟨ρ,S,Y,R,sl,q⟩=>?_;refine(ρ,S,Y,R,sl,(Av.seq (Rel:=RV a) q).mono ?_);rintro v H1 ⟨J,S1,w,p1,t1,R1,O,B⟩;cases O <;> first|exact(show False from B).elim|skip
   rename_i z;exact(z,rfl,Av.now (Rel:=Adt a) B R1 Ayk[z])
  .exact hd
 .cases b with
  |cons=>exact hd
  |nil=>
   show WI X _ _ tFi[a][E][ite _ _ _];split
   .rename_i h;let(rfl,o,n,m,A):=h;exact Bof[G.hK][G.bi _ o][Mf .cons[I][.cons h2 .nil] (by rw[eN,m,eN,A];rfl)][F _ n][Jl m][G4 (by rw[eN,A];rfl)]
   .exact hd
 .exact hd
def Afp(G:j.Ok c X E)(o:Ho c X E e g)(hd:WI X k (.Call f e a b) (tFi c E d)):WI X k (.Call f e a b) tFi[c][E][Aec j f e g a d]:=by
 unfold Aec;split
 .split
  .rename_i h;let(rfl,n,i,hs):=h;let m:=G.bi _ n;let i:X.env.kindOf "range"=sr .globalImplicit:=by show X.env.scope.names.lookup _=_;rwa [G.sc]
   let l:=Mf o hs;split
   .rw[eN,aL] at hs;exact Bjx m l i Jl[hs.1]
   .exact Afm
  omega
 omega
def Bhq(Γ:Gm)(f:bO)(args:lg bO)(ars:lg Rd)(kws:lg iB)(d:De->M W):De->M W:=tkG Adu[f] d λx=>tkG unL[args] d λa=>tkG unL[ars] d λr=>tkG Ayn[a.1] d λc=>tkG Adu[c.1] d λy=>tkG unL[c.2.1] d λe=>
 if (a.2.isEmpty/\kws.isEmpty/\c.2.2.isEmpty)/\x="sorted"/\y="set"/\Γ.bi x=t8/\Γ.bi "set"=t8/\Γ.sc.names.lookup x=sr .globalImplicit/\Γ.sc.names.lookup ("set":t6)=sr .globalImplicit/\Γ.calm=t8/\(e.1::e.2).all noStar=t8 then Ds K4 r.1.sv else d
def Ayy(G:s.Ok j X E)(O:Ho j X E m n)(hd:WE[X][.Call f m g i][tF j E d]):WE X (.Call f m g i) tF[j][E][Bhq s f m n g d]:=by
 have tk {q:Type} {o:o9 q} {f:q->De->M W}:=Mt (o:=o) (f:=f) (p:=λd=>WE X _ (tF j E d)) hd;refine tk λx I=>tk λa k=>tk λr J=>tk λc N=>tk λy H=>tk λe L=>?_;split
 .rename_i h;let((C,T,B),rfl,rfl,b1,b2,S,Q,l,hs):=h;let(_,rfl):=J1 I;let(a1,a2):=a;let(Z,Y,U):=c;let(_,w):=Aeb N;let(_,v):=J1 H;let u:=Pb L;let t:=Pb k;let F:=Pb J;dsimp only at w v u t C B;subst v u w t F;cases lJ.mp C;cases lJ.mp T;cases lJ.mp B;cases O with|cons P _=>
  rw[eN,aL] at hs;let A:∀x,s.sc.names.lookup x=sr .globalImplicit->X.env.kindOf x=sr .globalImplicit:=λx z=>by rw[<-z,<-G.sc];rfl
  exact Bec[G.calm l][G.bi _ b1][G.bi _ b2][A _ S][A _ Q][P.sv _ _ _ _ rfl][Jl hs.1][G4 hs.2]
 .exact hd
def Ap4(sc:gR):lg t6:=sc.names.filterMap λx=>if x.2==.free then sr x.1 else sy
def Bq2(Γ:Gm)(sc:gR):Bool:=(Ap4 sc).all λy=>decide[Γ.sc.names.lookup y=sr .cell]||decide[Γ.sc.names.lookup y=sr .free]
def Bok:bO->o9 (qU×bO×gR)
 |.Lambda ps b sc _=>sr u6[ps][u6 b sc]
 |_=>sy
def Bej{e:bO}{l:qU×bO×gR}(h:Bok e=sr l):∃p,e=.Lambda l.1 l.2.1 l.2.2 p:=by
 cases e <;> cases h
 exact(_,rfl)
def Bhr(Γ:Gm)(f:bO)(args:lg bO)(kws:lg iB)(d:De->M W):De->M W:=tkG Adu[f] d λx=>match kws with
 |[]=>match args with
  |[]=>tkG Γ.lam d λL=>if decide[Γ.sc.names.lookup x=sr .globalImplicit] then d else Afd L (Asa Γ x)
  |[a]=>tkG Bok[a] d λl=>tkG Γ.mkr Dz λq=>tkG Γ.fn[x] Dz λi=>tkG Dq[λy=>Abl y Γ.N][Ap4 l.2.2] Dz λis=>if noArgs l.1&&Bq2 Γ l.2.2&&!(x==("__debug__":t6))&&decide[Γ.sc.names.lookup x=sr .globalImplicit]&&Γ.calm then Dl q.1 (q.2,l.1,l.2.1,l.2.2,Ap4 l.2.2) is i.g else Dz
  |_=>d
 |_=>d
theorem Asf{N:lg t6}{sc:gR}:∀{l:lg t6} {is:lg Nat},(∀y∈l,(u6 y cN)∈sc.names)->Dq (λy=>Abl y N) l=sr is->mG (λy i=>N[i]?=sr y/\(u6 y cN)∈sc.names) l is
 |[],_,_,e=>by cases e;exact .nil
 |y::l,is,h,e=>by
  unfold Dq at e;cases c:Abl y N with
  |none=>rw[c] at e;cases e
  |some i=>
   rw[c] at e;cases b:Dq (λy=>Abl y N) l with
   |none=>rw[b] at e;cases e
   |some j=>
    rw[b] at e;cases e;exact .cons (Qw c,h y aX) Asf[λz f=>h z (aR _ f)][b]
def Afq{sc:gR}:y∈Ap4 sc ↔ (u6 y cN)∈sc.names:=by
 unfold Ap4;rw[gA];constructor
 .rintro⟨⟨a,b⟩,h,e⟩;dsimp only at e;split at e
  .rename_i z;cases e;rwa [<-beq_iff_eq.mp z]
  .cases e
 .intro h;exact(_,h,())
nonrec def Ayz(G:s.Ok c X E)(hd:WE[X][.Call f o g h][tF c E d]):WE X (.Call f o g h) tF[c][E][Bhr s f o g d]:=by
 refine Mt (p:=λd=>WE X _ (tF c E d)) hd λx t=>?_;let(_,rfl):=J1 t;cases g with
 |cons=>exact hd
 |nil=>
 rcases o with _|⟨a,_|_⟩
 .refine Mt (p:=λd=>WE X _ (tF c E d)) hd λL B=>?_;split
  .exact hd
  .exact Axy (G.lam L B) G.ps Asb[G]
 .let m:∀{e},WE X e (tF c E Dz):=Ck;refine Mt (p:=λd=>WE X _ (tF c E d)) hd λl A=>Mt (p:=λd=>WE X _ (tF c E d)) m λq w=>Mt (p:=λd=>WE X _ (tF c E d)) m λi hf=>Mt (p:=λd=>WE X _ (tF c E d)) m λis hi=>?_;let(j,q):=q;let(ps,b,sc):=l;let(_,rfl):=Bej A;split
  .rename_i r;simp only[aL,iC,dh] at r;let((((J,I),H),C),P):=r;let(M,v):=G.mkr j q w;let(n,Q,fd,O,S,T,D,F,u,_):=G.fn x i hf;refine Aux D F u G.ps (by show X.env.scope.names.lookup x=_;rw[G.sc];exact C) H M (l:=(q,ps,b,sc,Ap4 sc)) (by show defaultsOf ps X.env=_;rw[Aih J];rfl) v (λy k=>(?_,Afq.mpr k),?_)
   .let z:=bB.mp I y Afq.mpr[k];rw[fC,dh,dh] at z;show X.env.scope.names.lookup y=_\/X.env.scope.names.lookup y=_;rw[G.sc];exact z
   .rw[G.N];exact Asf (λy k=>Afq.mp k) hi
  .exact Ck
 .exact hd
def Bhs(Γ:Gm)(f:bO)(args:lg bO)(ars:lg Rd)(kws:lg iB)(d:De->M W):De->M W:=tkG Adu[f] d λx=>match kws,args with
 |[],[a]=>if x="int"/\Γ.bi "int"=t8/\Γ.sc.names.lookup ("int":t6)=sr .globalImplicit/\noStar a=t8 then Ds Abk vals[ars] else d
 |_,_=>d
def Ay0(G:k.Ok c X E)(n:Ho c X E g i)(hd:WE[X][.Call f g b e][tF c E d]):WE X (.Call f g b e) tF[c][E][Bhs k f g i b d]:=by
 refine Mt (p:=λd=>WE X _ (tF c E d)) hd λx m=>?_;let(_,rfl):=J1 m;cases b with
 |cons=>exact hd
 |nil=>
 rcases g with _|⟨a,_|_⟩
 .exact hd
 rotate_left
 .exact hd
 show WE X _ tF[c][E][ite _ _ _];split
 .rename_i h;let(rfl,o,q,j):=h;exact Boa (G.bi _ o) (Mf n (by rw[eN,j];rfl)) (by show X.env.scope.names.lookup _=_;rwa [G.sc]) Jl[j] rfl
 .exact hd
def Ay1(Γ:Gm)(f:bO)(fr:Rd)(args:lg bO)(ars:lg Rd)(kws:lg iB)(cpos:o8):Rd:=
 let v:=Bhs Γ f args ars kws <| Bhr Γ f args kws (Bhq Γ f args ars kws (Ayv Γ f fr args ars kws cpos))
 (v,Do v,Dz,Dz,Dz,Aec Γ f args ars kws Hc[v],Anb Γ f args ars kws (Aec Γ f args ars kws Hc[v]),if args.all noStar then vals ars else Dz)
def Bek(G:k.Ok d X E)(hf:Ma d X E f fr)(c:Ho d X E j i):Ma d X E (.Call f j kws cpos) (Ay1 k f fr j i kws cpos):=by
 let h:=Ay0 G c <| Ayz G (Ayy G c (Ayx (kws:=kws) (cpos:=cpos) G hf c));let b:∀g,WI X g _ (tFi d E (Hc _)):=λg=>by exact Am0 G.hK h
 exact(h,Ayd h Ar9[rfl],λa a a a=>Ck,λa a a a=>Sy,λa a a a=>Sy,λg=>Afp G c b[g],λa a a=>Anc G c (Afp G c b[_]),λa a a a e=>by
  cases e;dsimp only[Ay1];split
  .rename_i z;exact Mf c z
  .exact Afn)
def Td(Γ:Gm)(x:t6):o9 Nat:=if Apo Γ.sc x&&(Γ.fnB||decide[Γ.sc.names.lookup x=sr .local]) then Abl x Γ.N else sy
def Aed{i:Nat}(G:b.Ok d X E)(h:Td b x=sr i):X.N[i]?=sr x/\Apo X.env.scope x=t8/\(X.fn x||decide[X.env.scope.names.lookup x=sr .local])=t8:=by
 unfold Td at h;split at h
 .rename_i a;rw[aL,fC] at a;refine(G.N ▸ Qw h,G.sc ▸ a.1,?_);rw[fC];rcases a.2 with z|z
  .exact .inl[G.fnB z x]
  .exact .inr (by rw[G.sc];omega)
 trivial
def slotsOf(Γ:Gm):lg bO->o9 lg[Nat]
 |[]=>sr []
 |.Name x _::es=>match Td Γ x,slotsOf Γ es with
  |some i,sr is=>sr (i::is)
  |_,_=>sy
 |_::_=>sy
nonrec def Ay2(G:g.Ok w X E){a:lg bO}:∀{is:lg Nat},slotsOf g a=sr is->PGs X a Afh[is]/\(assignEach a X.env).length=is.length/\(assignEach a X.env).findIdx? (·.1)=sy:=by
 induction a with
 |nil=>intro is h;cases h;exact(by
   intro A s f H y z Q I r h;let(e,h):=h;subst e;cases r;exact assignInOrder_nil (f,H,I,h),rfl,rfl)
 |cons e a p=>
  intro is h;unfold slotsOf at h;split at h
  .rename_i d;cases d
  .rename_i x np u d;cases d;split at h
   .rename_i i c t q;cases h;let(o,n,m):=p q;let(l,k,j):=Aed G t;refine(Awo (Axa dj[G.nd] l k j).un o,?_,?_)
    .show (assignEach a X.env).length+1=c.length+1;rw[n]
    .show aBf (·.1) ((u6 t7 assign[.Name x np][X.env])::assignEach a X.env)=sy;rw[List.findIdx?_cons];simp only[jK,if_false,m,Option.map_none]
   .cases h
  .cases h
def tgt(Γ:Gm):bO->o9 Tg
 |.Name x _=>(Td Γ x).map El
 |.Tuple es _ _=>if Γ.calm then (slotsOf Γ es).map Ads else sy
 |_=>sy
def tgG(K:aB)(Γ:Gm):bO->TG
 |.Name x _=>Xg ((Td Γ x).getD 0)
 |.Tuple es _ _=>Bmp K ((slotsOf Γ es).getD []).length Afh[(slotsOf Γ es).getD []]
 |_=>Xg 0
def Afr(G:f.Ok d X E)(h:tgt f g=sr s):WG X g (tgG d.K f g)/\GOk d s (tgG d.K f g):=by
 unfold tgt at h;split at h
 .let(i,c,rfl):=bI.mp h;let(q,p,n):=Aed G c;simp only[tgG,c,yM];exact(Axa dj[G.nd] q p n,Amz i)
 .split at h
  .rename_i J;let(is,c,rfl):=bI.mp h;let(x,w,t):=Ay2 G c;simp only[tgG,c,yM];exact G.hK ▸ (⟨by
     rintro l s j H v u Q I r ⟨a,m,L,C,F,A⟩;subst L;cases r;let(y,k,B,O):=I.tuple C;refine assign_Tuple_tuple I.ok.hd[G.calm[J]] B (by simp[w,<-F,k.length]) t λh' z=>?_
     let N:Inv X l j H { s with heap:=h' }:=I.kept (t':=s.toks) λb o e=>z b o bR[aZ[e]] e
     exact x l _ j H m _ Q N (k) A⟩,Ary is rfl)
  .cases h
 .cases h
def Ane(out sc:gR):gR:=
 { sc with names:=sc.names.map λ(n,k)=>if (k==.free&&out.kind==.function&&out.names.lookup n==sr .cell) then (u6 n .cell) else (u6 n k) }
def ownOf:bO->lg t6
 |.Name x _=>[x]
 |.Tuple es _ _=>es.filterMap λe=>match e with
  |.Name x _=>sr x
  |_=>sy
 |_=>[]
def Aca(N:lg t6)(sc:gR):lg Nat:=sc.names.filterMap λ(n,k)=>if k==.free then Abl n N else sy
def Gm.inner(Γ:Gm)(tg:bO)(sc:gR):Gm:={ Γ with N:=ownOf tg ++ (Aca Γ.N sc).map (λj=>Γ.N.getD j ""),sc:=Ane Γ.sc sc,fnB:=false,rs:=false,loops:=false,tr:=false,mkr:=sy,lam:=sy,fnq:=λuw=>sy }
theorem Gm.Ok.inner{a:Gm}{scope:gR}(G:a.Ok f X E)(nd:(a.inner d scope).N.Nodup)(C:aH)(s:aO)(H:Hp)(ex:lg aH):(a.inner d scope).Ok f (X.comp scope ownOf[d] (Aca a.N scope) C s H ex) E0s where
 hK:=G.hK
 hu:=G.hu
 N:=by
  show ownOf d ++ (Aca a.N scope).map (λj=>X.N.getD j "")=_;rw[G.N];rfl
 nd:=by
  show (ownOf d ++ (Aca a.N scope).map (λj=>X.N.getD j "")).Nodup;rw[G.N];exact nd
 sc:=by
  show relabel scope X.env=Ane a.sc scope;rw[<-G.sc];rfl
 fn:=λx g h=>G.fn x g h
 ps:=Ark
 px:=λz=>nomatch z
 con:=G.con
 bi:=G.bi
 fld:=G.fld
 isa:=G.isa
 calm:=G.calm
 fnB:=λz=>by cases z
 mdc:=G.mdc
 mt:=λc m i h=>⟨(G.mt c m i h).ex⟩
 mkc:=λx c i h=>((G.mkc x c i h).1,⟨(G.mkc x c i h).2.ex⟩)
 mkr:=λb b z=>nomatch z
 lam:=λb z=>nomatch z
 fnq:=λb b z=>nomatch z
def Gm.Ok.innerX{a:Gm}{scope:gR}{xe:aF->aO->Prop}{f:L2.St->XK}(G:a.Ok g X E)(nd:(a.inner d scope).N.Nodup)(C:aH)(s:aO)(H:Hp)(ex:lg aH)(ps:Ed[CXo X.prog X.w][X.compX scope ownOf[d] (Aca a.N scope) C s H ex xe][f]):(a.inner d scope).Ok g (X.compX scope ownOf[d] (Aca a.N scope) C s H ex xe) f:=(
 let I:=G.inner nd C s H ex
 (I.hK,I.hu,I.N,I.nd,I.sc,I.fn,ps,λz=>(nomatch z),I.con,I.bi,I.fld,I.isa,I.calm,I.fnB,I.mdc,λc m i h=>⟨(I.mt c m i h).ex⟩,λx c i h=>((I.mkc x c i h).1,⟨(I.mkc x c i h).2.ex⟩),λb b z=>(nomatch z),λb z=>(nomatch z),λb b z=>(nomatch z)))
def Asg:bO->Bool
 |.Call (.Attribute _ _ _) _ _ _=>t8
 |_=>t7
def Bht:lg Rd->De->M Bool
 |[]=>λuw=>pure t8
 |[r]=>r.tst
 |_=>Dz
def Afs{f:lg bO}{rs:lg Rd}(g:Ho i X E f rs):WTs X f (tFb i E Bht[rs]):=by
 cases g with
 |nil=>exact⟨λe s d H Q I ⟨ρ,S,Y,R,sl,q⟩=>Bcq.un e s d H Q I (Av.now (Rel:=λj j a b=>a=b) q R rfl)⟩
 |cons h g=>
  cases g with
  |nil=>exact⟨λe s d H Q I q=>wpAny_tests_one[h.tst.un e s d H Q I q]⟩
  |cons=>exact⟨λ_ _ _ _ _ _ ⟨_,_,_,_,_,q⟩=>bZ q⟩
def Ay3(Γ:Gm)(tg iter:bO)(isa:Int)(sc:gR):Bool:=
 decide[isa=0]&&Γ.calm&&Ain iter&&decide (Γ.inner tg sc).N.Nodup&&decide[sc.kind=.function]&&sc.names.all[λy=>decide[y.2≠.cell]]&&
 (Aca Γ.N sc).all (λj=>match Γ.N[j]? with|some x=>decide[sc.names.lookup x=sr .free]|none=>t7)&&
 sc.names.all[λy=>!decide (y.2=.local)||decide[sc.names.lookup y.1=sr .local]]&&
 sc.names.all[λy=>!decide (y.2=.free)||(decide[Γ.sc.names.lookup y.1=sr .cell]||decide[Γ.sc.names.lookup y.1=sr .free])]
def Akw(tg:bO)(r:Rd):De->M Src:=match tg with
 |.Tuple _ _ _=>r.srcT
 |_=>r.src
def Vv(h:Ma a X E e r):WI X b e tFi[a][E][Akw b r]:=by
 unfold Akw;split
 .exact h.srcT ..
 .exact h.src _
def Anf(Γ:Gm)(elt tg iter:bO)(isa:Int)(sc:gR)(ri re:Rd)(rt:lg Rd):De->M W:=
 if Ay3 Γ tg iter isa sc then match tgt (Γ.inner tg sc) tg with
  |some s=>(if Γ.loops&&Asg elt&&isCall iter then compX else Gd) (ownOf tg).length (Aca Γ.N sc) (Akw tg ri) s Bht[rt] re.val
  |none=>Dz
 else Dz
def Akx{K:aB}{b:Gm}{s:Tg}(h:tgt b c=sr s):GOk d s (tgG K b c):=by
 unfold tgt at h;split at h
 .let(i,a,rfl):=bI.mp h;simp[tgG,a];exact Amz i
 .split at h
  .let(is,a,rfl):=bI.mp h;simp[tgG,a];exact Ary is rfl
  trivial
 trivial
nonrec def Ay4{h:Gm}{a b:bO}{e:lg bO}{isa:Int}{scope:gR}{ri l:Rd}{rt:lg Rd}(G:h.Ok c X E)(hi:Ma c X E a ri)(o:∀f d,(h.inner i scope).Ok c f d->Ma c f d b l)(m:∀f d,(h.inner i scope).Ok c f d->Ho c f d e rt):
  WE X (.ListComp b [(i,a,e,isa)] scope x) tF[c][E][Anf h b i a isa scope ri l rt]:=by
 unfold Anf;split
 .rename_i k;unfold Ay3 at k;simp only[aL] at k;let((((((((b1,b2),w),y),v),u),t),r),q):=k;obtain rfl:=dg b1;let nd:=dg y;split
  .rename_i s hs;split
   .rename_i n;rw[aL,aL] at n;exact Bd1 G.px[n.1.1] G.calm[b2] G.sc Vv[hi] (λC j H ex=>(Afr (G.inner nd C j H ex) hs).1) Akx[hs] (λC s H ex=>Afs m[_][_][G.inner nd C s H ex]) (λC s H ex xe d p=>(o _ _ (G.innerX nd C s H ex p)).val) (by unfold CcA;rw[G.N];exact t) dg[v] u r q Ad9[w]
   refine Bj1 G.calm[b2] G.sc Vv[hi] (λC j H ex=>(Afr (G.inner nd C j H ex) hs).1) Am2[Akx[hs]] (λC s H ex=>Afs m[_][_][G.inner nd C s H ex]) (λC s H ex=>(o _ _ (G.inner nd C s H ex)).val) (by unfold CcA;rw[G.N];exact t) dg[v] u r q Ad9[w]
  .exact Ck
 .exact Ck
end
def ifR(c a b:Rd):Rd:={ Rd.of[Afa c.tst a.val b.val] with tst:=Dz }
def atR(Γ:Gm)(o:bO)(f:t6)(r:Rd):Rd:={ Rd.of[Bkq Γ o f r] with base:=r.val }
def Bkt(lo hi:o9 Rd)(st:o9 bO):Rd:=match st with
 |none=>{ Rd.no with lo:=Ayu lo,hi:=Ayu hi }
 |some _=>Rd.no
mutual
def ev:bO->Gm->Rd
 |.Constant c _ _,Γ=>Rd.of Ayp[c]
 |.Name x _,Γ=>Rd.of (Asa Γ x)
 |.BinOp a op b _,Γ=>Rd.of Bkf[op][ev a Γ][ev b Γ]
 |.UnaryOp op a _,Γ=>unR op (ev a Γ)
 |.BoolOp op vs _,Γ=>Bho op (evs vs Γ)
 |.Compare a ops bs _,Γ=>Boi ops bs (ev a Γ) (evs bs Γ)
 |.IfExp c a b _,Γ=>ifR (ev c Γ) (ev a Γ) (ev b Γ)
 |.Tuple es _ _,Γ=>Rd.of Bkl[es][evs es Γ]
 |.List es _,Γ=>Rd.of Bkm[es][evs es Γ]
 |.Dict ks vs _,Γ=>Rd.of Ays[Bku ks Γ][evs vs Γ]
 |.Call f args kws pos,Γ=>Ay1 Γ f (ev f Γ) args (evs args Γ) kws pos
 |.Attribute o f _,Γ=>atR Γ o f (ev o Γ)
 |.Subscript o i _,Γ=>Rd.of subV[Γ][o][i][ev o Γ][ev i Γ]
 |.Slice lo hi st _,Γ=>Bkt (evo lo Γ) (evo hi Γ) st
 |.ListComp elt [⟨tg,iter,ifs,isa⟩] sc _,Γ=>Rd.of (Anf Γ elt tg iter isa sc (ev iter Γ) ev[elt][Γ.inner tg sc] evs[ifs][Γ.inner tg sc])
 |_,_=>Rd.no
def evs:lg bO->Gm->lg Rd
 |[],_=>[]
 |e::es,Γ=>ev e Γ::evs es Γ
def evo:o9 bO->Gm->o9 Rd
 |none,_=>sy
 |some e,Γ=>sr[ev e Γ]
def Bku:lg o9[bO]->Gm->lg o9[Rd]
 |[],_=>[]
 |e::es,Γ=>evo e Γ::Bku es Γ
end
section
mutual
theorem Ge:∀(e:bO)(d:Gm)(X:Cx)(E:L2.St->XK),d.Ok Θ X E->Ma Θ X E e (ev e d)
 |.Constant c _ _,d,X,E,G=>Py G.hK Ayq rfl
 |.Name x _,d,X,E,G=>Py G.hK Asb[G] rfl
 |.BinOp a u b _,d,X,E,G=>Py G.hK Bkg[G][Ge a d X E G][Ge b d X E G] rfl
 |.UnaryOp u a _,d,X,E,G=>Boh G (Ge a d X E G)
 |.BoolOp u l _,d,X,E,G=>Bef G (Mx l d X E G)
 |.Compare a w bs _,d,X,E,G=>Bkk G (Ge a d X E G) (Mx bs d X E G)
 |.IfExp c a b _,d,X,E,G=>Vu G.hK (Bql (Ge c d X E G).tst (Ge a d X E G).val (Ge b d X E G).val) Ap3
 |.Tuple n _ _,d,X,E,G=>Py G.hK Bkn[Mx n d X E G] rfl
 |.List n _,d,X,E,G=>Py G.hK Bko[Mx n d X E G] rfl
 |.Dict z l _,d,X,E,G=>Py G.hK Beg[Aky z d X E G][Mx l d X E G] rfl
 |.Call f k y v,d,X,E,G=>Bek G (Ge f d X E G) (Mx k d X E G)
 |.Attribute o f _,d,X,E,G=>
  let h:=Ge o d X E G;let r:=Py G.hK (Bkr (f:=f) G h) rfl
  (r.val,r.tst,λg g g e=>by cases e;exact h.val,r.lo,r.hi,r.src,r.srcT,r.sv)
 |.Subscript o i _,d,X,E,G=>Py G.hK Bkp[G][Ge o d X E G][Ge i d X E G] rfl
 |.Slice lo hi sy _,d,X,E,G=>(Ck,Ap3,λg g g g=>Ck,λg g g e=>by cases e;exact Ay5 lo d X E G,λg g g e=>by cases e;exact Ay5 hi d X E G,λg=>Afm,λg g g=>Afm,λg g g g g=>Afn)
 |.Slice _ _ (sr _) _,_,_,_,_=>Gy
 |.ListComp elt [⟨tg,iter,ifs,isa⟩] sc _,d,X,E,G=>Py G.hK Ay4[G][Ge iter d X E G][λq t s=>Ge elt _ q t s][λq t s=>Mx ifs _ q t s] rfl
 |.ListComp _ [] _ _,_,_,_,_=>Gy
 |.ListComp _ (⟨_,_,_,_⟩::_::_) _ _,_,_,_,_=>Gy
 |.NamedExpr _ _ _,_,_,_,_=>Gy
 |.Lambda _ _ _ _,_,_,_,_=>Gy
 |.Set _ _ _,_,_,_,_=>Gy
 |.SetComp _ _ _ _,_,_,_,_=>Gy
 |.DictComp _ _ _ _ _,_,_,_,_=>Gy
 |.GeneratorExp _ _ _ _,_,_,_,_=>Gy
 |.Await _ _,_,_,_,_=>Gy
 |.Yield _ _,_,_,_,_=>Gy
 |.YieldFrom _ _,_,_,_,_=>Gy
 |.FormattedValue _ _ _ _,_,_,_,_=>Gy
 |.JoinedStr _ _,_,_,_,_=>Gy
 |.Starred _ _,_,_,_,_=>Gy
theorem Mx:∀(b:lg bO)(a:Gm)(X:Cx)(E:L2.St->XK),a.Ok d X E->Ho d X E b (evs b a)
 |[],_,_,_,_=>.nil
 |e::b,a,X,E,G=>.cons[Ge e a X E G][Mx b a X E G]
theorem Ay5:∀(e:o9 bO)(a:Gm)(X:Cx)(E:L2.St->XK),a.Ok b X E->WO X e (tFo b E Ayu[evo e a])
 |none,_,_,_,_=>Ax1
 |some e,a,X,E,G=>Bjq (Ge e a X E G).val
theorem Aky:∀(b:lg o9[bO])(a:Gm)(X:Cx)(E:L2.St->XK),a.Ok d X E->Tc d X E b (Bku b a)
 |[],_,_,_,_=>.nil
 |none::b,a,X,E,G=>.none (Aky b a X E G)
 |some e::b,a,X,E,G=>.some[Ge e a X E G][Aky b a X E G]
end
end
structure Gm.SOk(Θ:Th)(Γ:Gm)(X:Cx)(E:L2.St->XK):Prop where
 g:Γ.Ok Θ X E
 hp:Γ.loops=t8->xX (model X.prog X.w) X.A X.env X.xe
 hf:∀x,X.fn x=t8
 rs:Γ.rs=t8->∃E1,E=(λuw=>E1)/\Raises X E1/\Akj X E1/\X.ex=[]
 exi:Γ.rs=t8->∀x c dv,Γ.exi x=sr (u6 c dv)->∃f,Θ.xf c=sr f/\Bj9 X (Θ.cl c) f dv.length/\X.mg x=sr (.ref (Θ.cl c))
 hcl:∀x k,Γ.hcl x=sr k->X.mg x=sr (.ref (Θ.cl k))
 exm:∀k c,Γ.exm k c=t8->cU Θ.K (.ref (Θ.cl c)) (.ref (Θ.cl k))=sr t8
 exn:∀k c,Γ.exn k c=t8->cU Θ.K (.ref (Θ.cl c)) (.ref (Θ.cl k))=sr t7
 tr:Γ.tr=t8->X.stack=X.env::X.outer/\X.env.frame=sr X.env.locals
 exc:∀x c,Γ.exc x=sr c->Θ.xf c=sy/\We X.K (Θ.cl c)/\X.mg x=sr (.ref (Θ.cl c))
 pl:∀c,Θ.pl c=t8
def Io:MS:=λuw uw=>.bad
section
def Be{Θ:Th}{X:Cx}{E:L2.St->XK}{st:cO}:WS X st (tS Θ E Io):=⟨λ_ _ _ _ _ _ ⟨_,_,_,_,_,q⟩=>bZ q⟩
def Bel:WS X .Pass[pos] (tS Θ E An):=WS.weak ⟨λuw uw σ H uw I h=>wpAny_Pass (σ,H,I,h)⟩ λD σ H ⟨ρ,S,Y,R,sl,q⟩=>q.nxt R sl
def Bhu(Γ:Gm)(sc:gR)(vp:o8)(x:t6)(p:o8):Bool:=((if Γ.sc.kind.isAnnotationScope then .function else Γ.sc.kind)==.function)&&(Γ.sc.names.lookup x==sr .local)&&p.line==vp.line&&!(sc.names.any λ(n,k)=>n==x&&(k==.local||k==.cell))
def Ay6{n:Nat}(G:a.Ok d X E):swapsWith (.ListComp elt gs sc vp) sr[.Name x p] n X.env=pure[Bhu a sc vp x p]:=by
 show pure _=_;unfold aBi Env.kindOf;rw[G.sc];rfl
def tkO{α:Type}(o:o9 α)(d:MS)(f:α->MS):MS:=match o with
 |some a=>f a
 |none=>d
def Dt{c:Type}{b:Th}{X:Cx}{E:L2.St->XK}{st:cO}{o:o9 c}{d:MS}{f:c->MS}(hd:WS X st (tS b E d))(h:∀a,o=sr a->WS X st (tS b E f[a])):WS X st tS[b][E][tkO o d f]:=by
 cases o with
 |none=>exact hd
 |some a=>exact h a rfl
def Bkv:bO->o9 lg[bO]
 |.Tuple es _ _=>sr es
 |_=>sy
def Ash{e:bO}{a:lg bO}(h:Bkv e=sr a):∃k p,e=.Tuple a k p:=by
 cases e <;> cases h
 exact(_,_,rfl)
def Bkw:bO->o9 (t6×o8)
 |.Name x p=>sr (u6 x p)
 |_=>sy
def Asi{e:bO}{x:t6×o8}(h:Bkw e=sr x):e=.Name x.1 x.2:=by
 cases e <;> cases h
 rfl
def two{α:Type}:lg α->o9 (α×α)
 |[a,b]=>sr (u6 a b)
 |_=>sy
def Ay7{c:Type}{l:lg c}{p:c×c}(h:two l=sr p):l=[p.1,p.2]:=by
 rcases l with _|⟨a,_|⟨b,_|_⟩⟩ <;> cases h
 rfl
def Akz:bO->Bool
 |.ListComp e [_] _ _=>!Asg e
 |_=>t7
def Ang(h:Akz v=t8):∃b e a c isa sc d,v=.ListComp b [(e,a,c,isa)] sc d/\Asg b=t7:=by
 cases v with
 |ListComp b f sc d=>
  rcases f with _|⟨⟨e,a,c,isa⟩,_|_⟩
  .cases h
  .exact(b,e,a,c,isa,sc,d,rfl,by simpa [Akz] using h)
  .cases h
 |_=>cases h
def Bq3(Γ:Gm)(v:bO)(rv:Rd):bO->MS
 |.Name x _=>if Akv v||Akz v then match Td Γ x with
   |some i=>Bx i rv.val
   |none=>Io
  else Io
 |.Tuple es j p=>tkO Ayn[v] Io λ_=>tkO tgt[Γ][.Tuple es j p] Io λt=>Bod t rv.val
 |.Subscript o i _=>Im (ev o Γ).val (ev i Γ).val rv.val
 |.Attribute o f _=>Jy Γ.fld f (ev o Γ).val rv.val
 |_=>Io
def Bol(Γ:Gm)(ts:lg bO)(v:bO)(rv:Rd):MS:=match ts with
 |[t]=>Bq3 Γ v rv t
 |_=>Io
def Anh{Θ:Th}{X:Cx}{E:L2.St->XK}{st:cO}{i:Nat}:WS X st tS[Θ][E][Bx i Dz]:=⟨λ_ _ _ _ _ _ ⟨_,_,_,_,_,q⟩=>bZ q⟩
nonrec def Bem{i:Nat}{isa:Int}(G:d.SOk k X E)(q:Asg b=t7)(hi:Td d x=sr i)(h:swapsWith (.ListComp b [(e,a,c,isa)] scope l) sr[.Name x np] f.line X.env=pure t8):
  WS X .Assign[[.Name x np]][.ListComp b [(e,a,c,isa)] scope l][f] (tS k E Bx[i][Anf d b e a isa scope (ev a d) ev[b][d.inner e scope] evs[c][d.inner e scope]]):=by
 let(o,n,m):=Aed G.g hi;unfold Anf;simp[q];split
 .rename_i j;unfold Ay3 at j;simp only[aL] at j;let((((((((b1,b2),z),y),w),v),u),t),r):=j;obtain rfl:=dg b1;let nd:=dg y;split
  .rename_i s hs;let hi:=Ge a d X E G.g;exact Beb G.g.calm[b2] G.g.sc Vv[hi] (λC p H ex=>(Afr (G.g.inner nd C p H ex) hs).1) Am2[Akx[hs]] (λC s H ex=>Afs[Mx c _ _ _ (G.g.inner nd C s H ex)]) (λC s H ex=>(Ge b _ _ _ (G.g.inner nd C s H ex)).val) (by unfold CcA;rw[G.g.N];exact u) dg[w] v t r Ad9[z]
    (Axa dj[G.g.nd] o n m) h
  .exact Anh
 .exact Anh
nonrec def Ben(G:a.SOk l X E):WS X (.Assign m v h) tS[l][E][Bol a m v (ev v a)]:=by
 let c:=Ge v a X E G.g;rcases m with _|⟨t,_|_⟩
 .exact Be
 rotate_left
 .exact Be
 cases t with
 |Name x np=>
  show WS X _ tS[l][E][ite _ _ _];split
  .rename_i u;cases hi:Td a x with
   |none=>exact Be
   |some i=>
    let(s,r,H):=Aed G.g hi;by_cases e:Akv v=t8
    .exact Ax5 c.val dj[G.g.nd] s r Ar8[e] G.hf[_]
    .rw[fC] at u;let(elt,y,b,k,isa,sc,vp,rfl,C):=Ang u.resolve_left[e];let d:=Ay6 (elt:=elt) (gs:=[(y,b,k,isa)]) (sc:=sc) (vp:=vp) (p:=np) (x:=x) (n:=h.line) G.g;cases w:Bhu a sc vp x np with
     |false=>rw[w] at d;exact Ax5 c.val dj[G.g.nd] s r d G.hf[_]
     |true=>rw[w] at d;exact Bem G C hi d
  .exact Be
 |Tuple I j p=>
  refine Dt Be λq B=>Dt Be λt A=>?_;let(_,rfl):=Aeb B;let(e,F):=Afr G.g A;exact Bj0 c.val e F rfl rfl rfl
 |Subscript o i p=>exact Bdy G.g.hu (Ge _ a X E G.g).val (Ge _ a X E G.g).val c.val (by cases v <;> rfl)
 |Attribute o f p=>exact Bjz G.g.hK G.g.fld (Ge _ a X E G.g).val c.val (by cases v <;> rfl)
 |_=>exact Be
def Bkx(Γ:Gm)(tg iter:bO)(b:MS):MS:=if Γ.calm&&Ain iter&&Γ.loops then match tgt Γ tg with
  |some s=>Sq Akw[tg][ev iter Γ] s b
  |none=>Io
 else Io
nonrec def Beo(G:e.SOk d X E)(i:WSs X body (tS d E b)):WS X (.For f a body [] h) tS[d][E][Bkx e f a b]:=by
 unfold Bkx;split
 .rename_i c;rw[aL,aL] at c;split
  .rename_i s hs;let(w,j):=Afr G.g hs;exact Bjw G.hp[c.2] G.g.hK G.g.calm[c.1.1] Vv[Ge _ e X E G.g] w j i Ad9[c.1.2]
  .exact Be
 .exact Be
def Ap5(Γ:Gm)(x:t6)(args:lg bO):MS:=if Γ.rs&&Γ.calm&&!(x==("__debug__":t6))&&decide[Γ.sc.names.lookup x=sr .globalImplicit]&&args.all noStar then match Γ.exc x with
  |some c=>Hr c vals[evs args Γ]
  |none=>match Γ.exi x with
   |some (c,dv)=>J0 c dv vals[evs args Γ]
   |none=>Io
 else Io
nonrec def Au9(G:l.SOk t X E):WS X (.Raise sr[.Call (.Name x np) (a::w) [] p] sy u) tS[t][E][Ap5 l x (a::w)]:=by
 unfold Ap5;split
 .rename_i o;simp only[aL] at o;let((((s,r),q),y),b):=o;let(z,rfl,v,k,j):=G.rs s;let m:=Mf (Mx _ l X _ G.g) b;rw[eN,aL] at b;let n:X.env.kindOf x=sr .globalImplicit:=by show X.env.scope.names.lookup x=_;rw[G.g.sc];exact dg y
  split
  .rename_i c i;let(h,e,d):=G.exc x c i;exact Aye h e d G.g.calm[r] v m n (by simpa using q) Jl[b.1] G4[b.2]
  .split
   .rename_i c dv i;let(f,h,e,d):=G.exi s x c dv i;exact Au5 h j e d G.g.calm[r] k m n (by simpa using q) Jl[b.1] G4[b.2]
   .exact Be
 .exact Be
end
def Ay8(Γ:Gm)(exc cause:o9 bO):MS:=tkO exc Io λe=>tkO Ayn[e] Io λq=>tkO Adu[q.1] Io λx=>tkO unL[q.2.1] Io λa=>if cause.isNone&&q.2.2.isEmpty then Ap5 Γ x (a.1::a.2) else Io
def Ava(G:d.SOk c X E):WS X (.Raise exc cause f) tS[c][E][Ay8 d exc cause]:=by
 refine Dt Be λe j=>Dt Be λq i=>Dt Be λx g=>Dt Be λa k=>?_;split
 .rename_i h;rw[aL,Option.isNone_iff_eq_none,lJ] at h;let(_,b):=Aeb i;let(_,l):=J1 g;rw[l,Pb k,h.2] at b;rw[j,b,h.1];exact Au9 G
 .exact Be
def Bq4(Γ:Gm):o9 bO->MS
 |some e=>retS (ev e Γ).val
 |none=>Io
def Bky(m:MS):lg cO->MS
 |[]=>m
 |_::_=>Io
def Gm.inTry(Γ:Gm):Gm:={ Γ with rs:=false,loops:=false,tr:=false }
def Gm.inSuite(Γ:Gm):Gm:={ Γ with rs:=false,loops:=false,tr:=false,calm:=false,fn:=Γ.fnq,mt:=λuw uw=>sy,mkc:=λuw=>sy,mkr:=sy,lam:=sy }
theorem Gm.SOk.inTry{a:Th}{X:Cx}{E e:L2.St->XK}{b:Gm}{pn:lg[aH×tu]}{xe:aF->aO->Prop}(G:b.SOk a X E)(hp:Ed[CXo X.prog X.w][X.tryB pn xe][e]):b.inTry.SOk a (X.tryB pn xe) e where
 g:={ hK:=G.g.hK,hu:=G.g.hu,N:=G.g.N,nd:=G.g.nd,sc:=G.g.sc,fn:=G.g.fn,ps:=hp,px:=λz=>(nomatch z),con:=G.g.con,bi:=G.g.bi,fld:=G.g.fld,isa:=G.g.isa,calm:=G.g.calm,fnB:=G.g.fnB,mdc:=G.g.mdc,mt:=λc m i h=>⟨(G.g.mt c m i h).ex⟩,mkc:=λx c i h=>((G.g.mkc x c i h).1,⟨(G.g.mkc x c i h).2.ex⟩),mkr:=λj q h=>(((G.g.mkr j q h).1.code,(G.g.mkr j q h).1.own,(G.g.mkr j q h).1.blt),(G.g.mkr j q h).2),lam:=G.g.lam,fnq:=G.g.fnq }
 hp:=λz=>by cases z
 hf:=G.hf
 rs:=λz=>by cases z
 exi:=λz=>by cases z
 hcl:=G.hcl
 exm:=G.exm
 exn:=G.exn
 tr:=λz=>by cases z
 exc:=G.exc
 pl:=G.pl
theorem Gm.SOk.inSuite{d:Th}{X:Cx}{E:L2.St->XK}{f:Gm}(G:f.SOk d X E)(e:aH):f.inSuite.SOk d X.suite[e] E0s where
 g:={ hK:=G.g.hK,hu:=G.g.hu,N:=G.g.N,nd:=G.g.nd,sc:=G.g.sc,fn:=λx i h=>(by let(n,b,fd,ps,c,D,F,r,z):=G.g.fnq x i h;exact(n,b,fd,ps,c,t7,D,F,r.mark,z)),ps:=Ark,px:=λz=>(nomatch z),con:=G.g.con,bi:=G.g.bi,fld:=G.g.fld,isa:=G.g.isa,calm:=λz=>(nomatch z),fnB:=G.g.fnB,mdc:=G.g.mdc,mt:=λa a a z=>(nomatch z),mkc:=λa a a z=>(nomatch z),mkr:=λa a z=>(nomatch z),lam:=λa z=>(nomatch z),fnq:=λx i h=>(by let(n,b,fd,ps,c,D,F,r,z):=G.g.fnq x i h;exact(n,b,fd,ps,c,D,F,r.mark,z)) }
 hp:=λz=>by cases z
 hf:=G.hf
 rs:=λz=>by cases z
 exi:=λz=>by cases z
 hcl:=G.hcl
 exm:=G.exm
 exn:=G.exn
 tr:=λz=>by cases z
 exc:=G.exc
 pl:=G.pl
def Bom:cO->o9 (o9 bO×o9 bO)
 |.Raise a c _=>sr (u6 a c)
 |_=>sy
def Bep{e:cO}{q:o9 bO×o9 bO}(h:Bom e=sr q):∃p,e=.Raise q.1 q.2 p:=by
 cases e <;> cases h
 exact(_,rfl)
def Bkz:bO->Bool
 |.Constant .none _ _=>t8
 |_=>t7
def Beq{e:bO}(h:Bkz e=t8):∃p q,e=.Constant .none p q:=by
 unfold Bkz at h;split at h
 .exact(_,_,rfl)
 .cases h
def Bk0(Γ:Gm)(t:bO)(ss:lg cO)(b:MS):MS:=tkO Adu[t] W8[b] λx=>tkO unL[ss] W8[b] λu=>tkO Bom[u.1] W8[b] λr=>tkO r.1 W8[b] λc=>tkO r.2 W8[b] λn=>tkO Ayn[c] W8[b] λq=>tkO Adu[q.1] W8[b] λy=>tkO unL[q.2.1] W8[b] λv=>
  if (u.2.isEmpty&&Bkz n&&q.2.2.isEmpty)&&(Γ.tr&&Γ.loops&&Γ.rs&&!(x==("__debug__":t6))&&!(y==("__debug__":t6))&&decide[Γ.sc.names.lookup x=sr .globalImplicit]&&decide[Γ.sc.names.lookup y=sr .globalImplicit]&&(v.1::v.2).all noStar) then
   tkO Γ.exc[x] W8[b] λk=>tkO Γ.exi[y] W8[b] λz=>if z.2.isEmpty then Am5 (λc=>c==k&&Γ.exm k c) z.1 vals[evs (v.1::v.2) Γ.inSuite] b else W8 b
  else W8 b
def Ber{j:Th}{X:Cx}{E:L2.St->XK}{o:Gm}{t:bO}{b:MS}{body l:lg cO}{d i:o8}(G:o.SOk j X E)(s:HB j X body b):
  WS X (.Try body [.ExceptHandler sr[t] sy l d] [] [] i) tS[j][E][Bk0 o t l b]:=by
 unfold Bk0;let a:∀{t l},WS[X][.Try body [.ExceptHandler sr[t] sy l d] [] [] i][tS j E W8[b]]:=Bd5 s;refine Dt a λx Z=>Dt a λu hu=>Dt a λr hr=>Dt a λc hc=>Dt a λn hn=>Dt a λq hq=>Dt a λy Y=>Dt a λv p=>?_;split
 .rename_i h;rw[aL] at h;let(w,h):=h;simp only[aL,lJ] at w h;let((d1,d2),d3):=w;let(((((((c1,c2),c3),c4),c5),c6),c7),m):=h;refine Dt a λk hk=>Dt a λz U=>?_;split
  .rename_i e;let(_,rfl):=J1 Z;let C:=Pb hu;let(_,B):=Bep hr;let(_,A):=Aeb hq;let(_,e4):=J1 Y;let e5:=Pb p;let(_,_,e6):=Beq d2;rw[e5,d3,e4] at A;rw[hc,hn,A,e6] at B;rw[d1,B] at C;rw[C];let(O,x2,N):=G.exc _ k hk;let(z1,H):=z;let e:H=[]:=by simpa using e
   subst e;let(f,L,J,I):=G.exi c3 _ _ _ U;let(T,S,Q,P):=G.g.px c2;let p:=λe'=>Mf (Mx _ o.inSuite X.suite[e'] E0s (G.inSuite e').g) m;rw[eN,aL] at m;refine Bd6 G.g.hK T S Q P N (λc z=>?_) s (by show X.env.scope.names.lookup _=_;rw[G.g.sc];exact dg c6) (by simpa using c4) L J I (by show X.env.scope.names.lookup _=_;rw[G.g.sc];exact dg c7) (by simpa using c5) p Jl[m.1] G4[m.2]
   rw[aL] at z;obtain rfl:c=k:=by simpa using z.1
   exact(G.exm _ _ z.2,O,G.pl _)
  .exact a
 .exact a
def Bq5:lg cO->Bool
 |[.Raise _ _ _]=>t8
 |_=>t7
def Ay9(Γ:Gm)(t:bO)(ss:lg cO)(b su:MS):MS:=if Bq5 ss then Bk0 Γ t ss b else tkO Adu[t] Io λx=>if Γ.tr&&!(x==("__debug__":t6))&&decide[Γ.sc.names.lookup x=sr .globalImplicit]&&!ss.isEmpty then tkO Γ.hcl[x] Io λk=>Am6 Γ.exm[k] b su else Io
nonrec def Aza{f:Th}{X:Cx}{E:L2.St->XK}{i:Gm}{t:bO}{b su:MS}{body a:lg cO}{d h:o8}(G:i.SOk f X E)(l:HB f X body b)(hs:∀e,WSs X.suite[e] a (tS f E0s su)):
  WS X (.Try body [.ExceptHandler sr[t] sy a d] [] [] h) tS[f][E][Ay9 i t a b su]:=by
 unfold Ay9;split
 .exact Ber G l
 refine Dt Be λx p=>?_;let(_,rfl):=J1 p;split
 .rename_i j;simp only[aL] at j;let(((u,s),r),w):=j;let(o,n):=G.tr u;refine Dt Be λk q=>?_;cases a with
  |nil=>trivial
  |cons y a=>exact Bd8 G.g.hK o n (G.hcl _ k q) (λc z=>G.exm k c z) l hs (by show X.env.scope.names.lookup _=_;rw[G.g.sc];exact dg r) (by simpa using s)
 .exact Be
def Bon(Γ:Gm)(t:bO)(n:t6)(u:bO)(m:t6)(b s1 s2:MS)(ss rs:lg cO):MS:=tkO Adu[t] Io λx=>tkO Adu[u] Io λy=>if Γ.tr&&!(x==("__debug__":t6))&&!(y==("__debug__":t6))&&decide[Γ.sc.names.lookup x=sr .globalImplicit]&&decide[Γ.sc.names.lookup y=sr .globalImplicit]&&decide[Γ.sc.names.lookup n=sr .local]&&decide[m=n]&&!ss.isEmpty&&!rs.isEmpty then
   tkO Γ.hcl[x] Io λk1=>tkO Γ.hcl[y] Io λk2=>tkO (Abl n Γ.N) Io λi=>Aim Γ.exm[k1] Γ.exn[k1] Γ.exm[k2] i b s1 s2
  else Io
nonrec def Bes{a:Th}{X:Cx}{E:L2.St->XK}{o:Gm}{t u:bO}{n m:t6}{b q p:MS}{body d rs:lg cO}{k j f:o8}(G:o.SOk a X E)(H:HB a X body b)(hs:∀e,WSs X.suite[e] d (tS a E0s q))(F:∀e,WSs X.suite[e] rs (tS a E0s p)):
  WS X (.Try body [.ExceptHandler sr[t] sr[n] d k,.ExceptHandler sr[u] sr[m] rs j] [] [] f) tS[a][E][Bon o t n u m b q p d rs]:=by
 refine Dt Be λx C=>Dt Be λy B=>?_;let(_,rfl):=J1 C;let(_,rfl):=J1 B;split
 .rename_i s;simp only[aL] at s;let((((((((T,S),Q),P),O),L),l),c8),Z):=s;let(A,w):=G.tr T;let l:=dg l;subst l;refine Dt Be λh J=>Dt Be λr I=>Dt Be λi hi=>?_;cases d with
  |nil=>trivial
  |cons b0 d=>
   cases rs with
   |nil=>trivial
   |cons b1 rs=>exact Bd7 G.g.hK A w G.g.nd (G.hcl _ h J) (G.hcl _ r I) (λc z=>G.exm h c z) (λc z=>G.exn h c z) (λc z=>G.exm r c z) H hs F (by rw[G.g.N];exact Qw hi) (by rw[G.g.sc];exact dg L) (by show X.env.scope.names.lookup _=_;rw[G.g.sc];exact dg P) (by simpa using S) (by show X.env.scope.names.lookup _=_;rw[G.g.sc];exact dg O) (by simpa using Q)
 .exact Be
def Boo(Γ:Gm)(ts:lg bO)(v:bO)(d:MS):MS:=tkO unL[ts] d λt=>tkO Bkv[t.1] d λes=>tkO two[es] d λe=>tkO Bkw[e.1] d λx=>tkO Bkw[e.2] d λy=>tkO Bkv[v] d λvs=>tkO two[vs] d λa=>tkO (Abl x.1 Γ.N) Io λi=>tkO (Abl y.1 Γ.N) Io λj=>
 if t.2.isEmpty&&(Γ.calm&&decide[Γ.sc.names.lookup x.1=sr .local]&&decide[Γ.sc.names.lookup y.1=sr .local]&&decide[y.2.line=x.2.line]&&!decide (x.1=y.1)&&Ad5 a.1&&Ad5 a.2&&!(foldedForSure 8 a.1&&foldedForSure 8 a.2)&&!(constantsAlone 8 a.1&&constantsAlone 8 a.2)) then Bdz i j (ev v Γ).val else Io
def Bet{c:Th}{X:Cx}{E:L2.St->XK}{f:Gm}{h:lg bO}{v:bO}{b:o8}{d:MS}(G:f.SOk c X E)(hd:WS[X][.Assign h v b][tS c E d]):WS X (.Assign h v b) tS[c][E][Boo f h v d]:=by
 refine Dt hd λt B=>Dt hd λU A=>Dt hd λe z=>Dt hd λx w=>Dt hd λy u=>Dt hd λT s=>Dt hd λa r=>Dt Be λi hi=>Dt Be λj q=>?_;split
 .rename_i m;simp only[aL,iC,dh,decide_eq_false_iff_not,lJ] at m;let(Q,(((((((P,l),k),O),L),J),I),H),F):=m;rw[<-G.g.sc] at l k;let(_,_,C):=Ash A;let(_,_,n):=Ash s;rw[Ay7 r] at n;subst n;rw[Pb B,Q,C,Ay7 z,Asi w,Asi u];exact Bd0 (Ge _ f X E G.g).val G.g.calm[P] G.g.nd (by rw[G.g.N];exact Qw hi) (by rw[G.g.N];exact Qw q) l k rfl λp=>Apx p l k O L J I H F
 .exact Be
def Azb(Γ:Gm)(e:bO):MS:=if Akv e then G9 (ev e Γ).val else Io
mutual
def evS:cO->Gm->MS
 |.Return e _,Γ=>Bq4 Γ e
 |.Assign ts v _,Γ=>Boo Γ ts v (Bol Γ ts v (ev v Γ))
 |.If c A B _,Γ=>ifS (ev c Γ).tst (K6 A Γ) (K6 B Γ)
 |.Try body [.ExceptHandler (sr t) sy ss _] [] [] _,Γ=>Ay9 Γ t ss (K6 body Γ.inTry) (K6 ss Γ.inSuite)
 |.Try body [.ExceptHandler (sr t) (sr n) ss _,.ExceptHandler (sr u) (sr m) rs _] [] [] _,Γ=>Bon Γ t n u m (K6 body Γ.inTry) (K6 ss Γ.inSuite) (K6 rs Γ.inSuite) ss rs
 |.For tg it b els _,Γ=>Bky (Bkx Γ tg it (K6 b Γ)) els
 |.Expr e _,Γ=>Azb Γ e
 |.Raise exc cause _,Γ=>Ay8 Γ exc cause
 |.Pass _,_=>An
 |_,_=>Io
def K6:lg cO->Gm->MS
 |[],_=>An
 |s::ss,Γ=>Ai[evS s Γ][K6 ss Γ]
end
section
mutual
theorem Bk1:∀(st:cO)(a:Gm)(X:Cx)(E:L2.St->XK),a.SOk f X E->WS X st tS[f][E][evS st a]
 |.Return (sr e) _,a,X,E,G=>Bjt (Ge e a X E G.g).val
 |.Return sy _,_,_,_,_=>Be
 |.Assign j v _,a,X,E,G=>Bet G Ben[G]
 |.If c A B _,a,X,E,G=>Bob (Ge c a X E G.g).tst (J2 A a X E G) (J2 B a X E G)
 |.While _ _ _ _,_,_,_,_=>Be
 |.For k l b [] _,a,X,E,G=>Beo G (J2 b a X E G)
 |.For _ _ _ (_::_) _,_,_,_,_=>Be
 |.Expr e _,a,X,E,G=>by
  show WS X _ tS[f][E][Azb a e];unfold Azb;split
  .rename_i h;exact Bdl (Ge e a X E G.g).val Ar8[h]
  .exact Be
 |.Raise exc cause _,a,X,E,G=>Ava G
 |.Pass _,_,_,_,_=>Bel
 |.Break _,_,_,_,_=>Be
 |.Continue _,_,_,_,_=>Be
 |.FunctionDef _ _ _ _ _ _ _ _ _ _,_,_,_,_=>Be
 |.AsyncFunctionDef _ _ _ _ _ _ _ _ _ _,_,_,_,_=>Be
 |.ClassDef _ _ _ _ _ _ _ _ _ _ _,_,_,_,_=>Be
 |.Delete _ _,_,_,_,_=>Be
 |.TypeAlias _ _ _ _ _ _ _,_,_,_,_=>Be
 |.AugAssign _ _ _ _,_,_,_,_=>Be
 |.AnnAssign _ _ _ _ _,_,_,_,_=>Be
 |.AsyncFor _ _ _ _ _,_,_,_,_=>Be
 |.With _ _ _,_,_,_,_=>Be
 |.AsyncWith _ _ _,_,_,_,_=>Be
 |.Match _ _ _,_,_,_,_=>Be
 |.Try _ [] _ _ _,_,_,_,_=>Be
 |.Try _ (.ExceptHandler sy _ _ _::_::_) _ _ _,_,_,_,_=>Be
 |.Try _ (.ExceptHandler (sr _) sy _ _::_::_) _ _ _,_,_,_,_=>Be
 |.Try body [.ExceptHandler (sr _) (sr _) d _,.ExceptHandler (sr _) (sr _) rs _] [] [] _,a,X,E,G=>Bes[G][λpn xe i hp=>J2 body _ _ _ G.inTry[hp]][λe=>J2 d _ _ _ G.inSuite[e]] λe=>J2 rs _ _ _ G.inSuite[e]
 |.Try _ [.ExceptHandler (sr _) (sr _) _ _,.ExceptHandler (sr _) (sr _) _ _] (_::_) _ _,_,_,_,_=>Be
 |.Try _ [.ExceptHandler (sr _) (sr _) _ _,.ExceptHandler (sr _) (sr _) _ _] [] (_::_) _,_,_,_,_=>Be
 |.Try _ (.ExceptHandler (sr _) (sr _) _ _::.ExceptHandler (sr _) (sr _) _ _::_::_) _ _ _,_,_,_,_=>Be
 |.Try _ (.ExceptHandler (sr _) (sr _) _ _::.ExceptHandler sy _ _ _::_) _ _ _,_,_,_,_=>Be
 |.Try _ (.ExceptHandler (sr _) (sr _) _ _::.ExceptHandler (sr _) sy _ _::_) _ _ _,_,_,_,_=>Be
 |.Try _ [.ExceptHandler sy _ _ _] _ _ _,_,_,_,_=>Be
 |.Try body [.ExceptHandler (sr _) sy d _] [] [] _,a,X,E,G=>Aza G (λpn xe i hp=>J2 body _ _ _ G.inTry[hp]) λe=>J2 d _ _ _ G.inSuite[e]
 |.Try _ [.ExceptHandler (sr _) sy _ _] (_::_) _ _,_,_,_,_=>Be
 |.Try _ [.ExceptHandler (sr _) sy _ _] [] (_::_) _,_,_,_,_=>Be
 |.Try _ [.ExceptHandler (sr _) (sr _) _ _] _ _ _,_,_,_,_=>Be
 |.TryStar _ _ _ _ _,_,_,_,_=>Be
 |.Assert _ _ _,_,_,_,_=>Be
 |.Import _ _,_,_,_,_=>Be
 |.ImportFrom _ _ _ _,_,_,_,_=>Be
 |.Global _ _,_,_,_,_=>Be
 |.Nonlocal _ _,_,_,_,_=>Be
theorem J2:∀(b:lg cO)(a:Gm)(X:Cx)(E:L2.St->XK),a.SOk d X E->WSs X b tS[d][E][K6 b a]
 |[],_,_,_,_=>Bjs
 |s::e,a,X,E,G=>Bdk[Bk1 s a X E G][J2 e a X E G]
end
end
structure Md where
 con:t6->Option W
 bi:t6->Bool
 exc:t6->Option Nat
 isa:Nat->W->Option Bool
 fld:Bool->Nat->t6->Bool
 mdc:t6->Option (List (t6×t6))
 exi:t6->Option (Nat×List W)
 hcl:t6->Option Nat
 exm:Nat->Nat->Bool
 exn:Nat->Nat->Bool:=λuw uw=>t7
 mn:t6->Bool:=λuw=>t7
 mkl:t6->Option Nat:=λuw=>sy
def Md.gm(m:Md)(T:lg[t6×Fi])(N:lg t6)(sc:gR)(U:lg[(Nat×t6)×Fi]:=[])(Tq:lg[t6×Fi]:=[])(mk:o9[Nat×t6]:=sy)(lam:o9[Lm->lg W->M W]:=sy):Gm:=
 { N:=N,sc:=sc,fn:=λx=>T.lookup x,con:=m.con,bi:=m.bi,exc:=m.exc,isa:=m.isa,fld:=m.fld,calm:=true,fnB:=true,rs:=true,mdc:=m.mdc,exi:=m.exi,hcl:=m.hcl,exm:=m.exm,exn:=m.exn,mkr:=mk,lam:=lam,fnq:=λx=>Tq.lookup x,loops:=true,tr:=true,mt:=λc n=>U.lookup[u6 c n],mn:=m.mn,mkc:=λx=>(m.mkl x).bind λc=>(U.lookup[u6 c ("__init__":t6)]).map λi=>(u6 c i) }
def Md.gq(m:Md)(Tq:lg[t6×Fi])(N:lg t6)(sc:gR):Gm:={ m.gm [] N sc [] Tq with calm:=false,fn:=λx=>Tq.lookup x,loops:=false,rs:=false,tr:=false,mkc:=λuw=>sy }
def Md.gl(m:Md)(T:lg[t6×Fi])(U:lg[(Nat×t6)×Fi])(Tq:lg[t6×Fi])(l:Lm):Gm:={ m.gm T l.cap l.scope U Tq with fnB:=false,loops:=false,rs:=false,tr:=false }
def Md.lams(m:Md)(T:lg[t6×Fi])(U:lg[(Nat×t6)×Fi])(Tq:lg[t6×Fi])(l:Lm):lg W->M W:=lamF l.cap.length (ev l.body (m.gl T U Tq l)).val
structure Md.Ok(Θ:Th)(m:Md)(K:aB)(mg:t6->Option aF):Prop where
 hK:K=Θ.K
 con:∀x w,m.con x=sr w->∃v u,(∀ρ H,RV Θ ρ H w v)/\RelV v u/\(mg x=sr u\/(mg x=sy/\bootBuiltins x=sr u))
 bi:∀x,m.bi x=t8->mg x=sy
 fld:FOk Θ m.fld
 isa:Am4 Θ m.isa
 exc:∀x c,m.exc x=sr c->Θ.xf c=sy/\We K (Θ.cl c)/\mg x=sr (.ref (Θ.cl c))
 mdc:∀x D,m.mdc x=sr D->∃a,Au8 K a D/\mg x=sr (.ref a)
 hcl:∀x k,m.hcl x=sr k->mg x=sr (.ref (Θ.cl k))
 exm:∀k c,m.exm k c=t8->cU Θ.K (.ref (Θ.cl c)) (.ref (Θ.cl k))=sr t8
 exn:∀k c,m.exn k c=t8->cU Θ.K (.ref (Θ.cl c)) (.ref (Θ.cl k))=sr t7:=by exact λuw uw z=>nomatch z
 pl:∀c,Θ.pl c=t8:=by exact λuw=>rfl
 mkl:∀x c,m.mkl x=sr c->mg x=sr (.ref (Θ.cl c))/\lY K (Θ.cl c)=t8/\cM K (.ref (Θ.cl c))=t8
def XiT(Θ:Th)(m:Md)(P:cD)(w:dW)(K:aB)(mg:t6->o9 aF)(base:dI)(k:Nat):Prop:=
 ∀x c dv,m.exi x=sr[u6 c dv]->∃f,Θ.xf c=sr f/\mg x=sr .ref[Θ.cl[c]]/\∃(fI:aH)(fd:dN)(ps:lg t6)(dvs:lg V)(ds:lg aF),Ahh K Θ.cl[c] fI=t8/\cM K .ref[Θ.cl[c]]=t8/\iY K .ref[fI]=sr .type["function"]/\
  (∀cm,Hw P w K mg base (CXo P w) k fI fd ps (Aki Θ.cl[c] f) cm)/\Binds K fd ps ds/\Vals dvs ds/\dvs.length=dv.length
def Tbl(Θ:Th)(P:cD)(w:dW)(K:aB)(mg:t6->o9 aF)(base:dI)(k:Nat)(T:lg[t6×Fi]):Prop:=
 ∀x i,T.lookup x=sr i->∃(fa:aH)(fd:dN)(ps:lg t6)(df:cO),Ng K mg x df ps fa fd/\Hw P w K mg base (CXo P w) k fa fd ps (spF Θ i.g) t8/\∃dvs ds,Dq D.Ga i.dv=sr dvs/\Vals dvs ds/\Binds K fd ps ds
def QTb(Θ:Th)(P:cD)(w:dW)(K:aB)(mg:t6->o9 aF)(base:dI)(k:Nat)(T:lg[t6×Fi]):Prop:=
 ∀x i,T.lookup x=sr i->∃(fa:aH)(fd:dN)(ps:lg t6)(df:cO),Ng K mg x df ps fa fd/\Hw P w K mg base (CXo P w) k fa fd ps (spF Θ i.g) t7/\∃dvs ds,Dq D.Ga i.dv=sr dvs/\Vals dvs ds/\Binds K fd ps ds
def Bmo(mg:t6->o9 aF)(base:dI):Prop:=∃bm o,mg "__builtins__"=sr .ref[bm]/\bm≠builtinsNs/\bm≠mainGlobals/\base.get? bm=sr o/\o.cls=.type "module"/\o.dict=sr builtinsNs/\o.data=.plain
structure Azc(Θ:Th)(K:aB)(mg:t6->Option aF)(base:dI)(cdv:aF)(qual:t6)(j:Nat)(q:t6):Prop where
 code:∃c P,cdv=.ref c/\Θ.tb[j]?=sr P/\gG K c P=t8
 blt:Bmo mg base
 qn:qual ++ ".<locals>." ++ "<lambda>"=q
def MTb(Θ:Th)(P:cD)(w:dW)(K:aB)(mg:t6->o9 aF)(base:dI)(k:Nat)(U:lg[(Nat×t6)×Fi]):Prop:=
 ∀c n i,U.lookup[u6 c n]=sr i->∃(fa:aH)(fd:dN)(ps:lg t6),Cls K Θ.cl[c]/\Meth K Θ.cl[c] n fa/\Hw P w K mg base (CXo P w) k fa fd ps (spF Θ i.g) t8/\Binds K fd ps []/\∃dvs ds,Dq D.Ga i.dv=sr dvs/\Vals dvs ds/\Binds K fd ps ds
section
variable{Θ:Th}{P:cD}{w:dW}{K:aB}{mg:t6->o9 aF}{base:dI}{m:Md}{T Tq:lg (t6×Fi)}{U:lg ((Nat×t6)×Fi)}{k j:Nat}{mk:o9 (Nat×t6)}{lam:o9 (Lm->lg W->M W)}
def QTb.nil:QTb Θ P w K mg base k []:=(λx i h=>by cases h)
def QTb.up(a:QTb Θ P w K mg base k Tq)(h:k<=j):QTb Θ P w K mg base j Tq:=(λx i e=>by
 let(b,fd,ps,c,D,F,z):=a x i e;exact(b,fd,ps,c,D,F.mono h,z))
def Tbl.nil:Tbl Θ P w K mg base k []:=(λx i h=>by cases h)
def MTb.nil:MTb Θ P w K mg base k []:=(λc n i h=>by cases h)
theorem Tbl.body(hT:Tbl Θ P w K mg base k T)(hU:MTb Θ P w K mg base k U)(hI:XiT Θ m P w K mg base j)(hj:j < k)(M:m.Ok Θ K mg)(nd:N.Nodup)(d:Fx (k+1) A.deeper[envOfC qual sc s.heap.objs.size f r] t8)(hQ:QTb Θ P w K mg base k Tq)(O:∀j q,mk=sr[u6 j q]->Azc Θ K mg base r qual j q)(t:∀L,lam=sr L->∀l,Qc l->Xo Θ P w K mg base k l L[l]):
  (m.gm T N sc U Tq mk lam).SOk Θ (Aa8 (CXo P w) P w K mg base N qual sc f r A outer s H E t8) (λa=>E) where
 g:={
  hK:=M.hK
  hu:=by have:=d.un;show (A.deeper[envOfC qual sc s.heap.objs.size f r]).units+64 < cLine;omega
  N:=rfl
  nd:=nd
  sc:=rfl
  fn:=λx i h=>by
   let(p,fd,ps,Z,D,F,z):=hT x i h;exact(k,p,fd,ps,Z,t8,D,F,d.mono fM[k],z)
  ps:=by
    intro aa σ H s e s' I h;let(ea,cls,H',o,rfl,F,ox,q):=h;exact I.fly_on rfl rfl rfl F ox λu F' J=>(ea,cls,H',o,rfl,F',J,q)
  px:=λa=>(rfl,rfl,rfl,Aw4)
  con:=M.con
  bi:=M.bi
  fld:=M.fld
  isa:=M.isa
  calm:=λa=>rfl
  fnB:=λa a=>rfl
  mdc:=M.mdc
  mt:=λc n i h=>by
   let(p,fd,ps,C,v,F,z):=hU c n i h;exact(k,p,fd,ps,t8,C,v,F,d.mono fM[k],z)
  mkc:=λx c i h=>by
   let(c',X,Q):=lE.mp h;let(i',h3,h4):=bI.mp Q;cases h4;let(G,B,y):=M.mkl x c X;let(p,fd,ps,C,v,F,z):=hU c _ i h3;exact(G,k,p,fd,ps,t8,(B,v.at_,v.fn,y),F,d,z)
  mkr:=λj q h=>by
   let(z1,z2,z3):=O j q h;exact((z1,λa=>rfl,z2),z3)
  lam:=λL h l S=>(k,t L h l S,d.mono fM[k])
  fnq:=λx i h=>by
   let(p,fd,ps,Z,D,F,z):=hQ x i h;exact(k,p,fd,ps,Z,D,F,((λz=>nomatch z),(d.mono fM[k]).dp,(d.mono fM[k]).un),z) }
 hp:=λa=>Au2
 hf:=λa=>rfl
 rs:=λa=>(E,rfl,λaa σ H s e cls args h' n I hx q=>I.fly_made rfl rfl rfl hx λu F cx=>(e,cls,H,_,rfl,F,cx.ok,q),λaa σ H s e C od I h0 he q=>I.fly_held rfl rfl rfl h0 he λu F cx=>(e,.ref C,Xl H e,_,rfl,F,cx.ok,q _ (λb hb=>Fb hb) Mu),rfl)
 exi:=λa x c dv h=>by
  let(f,X,Q,fI,fd,ps,Y,ds,G,B,y,F,q5,q6,q7):=hI x c dv h;exact(f,X,(fI,fd,ps,j,Y,ds,G,B,y,F,d.mono (),q5,q6,q7),Q)
 hcl:=M.hcl
 exm:=M.exm
 exn:=M.exn
 tr:=λa=>(rfl,rfl)
 exc:=M.exc
 pl:=M.pl
def Tbl.up(a:Tbl Θ P w K mg base k T):Tbl Θ P w K mg base (k+2) T:=(λx i h=>by
 let(b,fd,ps,c,D,F,z):=a x i h;exact(b,fd,ps,c,D,F.mono (),z))
def MTb.up(b:MTb Θ P w K mg base k U):MTb Θ P w K mg base (k+2) U:=(λc n i h=>by
 let(d,fd,ps,C,a,F,z):=b c n i h;exact(d,fd,ps,C,a,F.mono (),z))
def Tbl.fnM{i qn:t6}{st:cO}{N ps:lg t6}{f:aH}{fd:dN}{b:MS}(t:Tbl Θ P w K mg base k T)(r:MTb Θ P w K mg base k U)(v:XiT Θ m P w K mg base j)(o:j < k)(M:m.Ok Θ K mg)(F:Fun K i qn st f fd)(g:Hn N ps Am[st])(u:QTb Θ P w K mg base k Tq)(c:∀j q,mk=sr[u6 j q]->Azc Θ K mg base fd.code qn j q)(a:∀L,lam=sr L->∀l,Qc l->Xo Θ P w K mg base k l L[l])(e:K6[Bc st][m.gm T N Am[st] U Tq mk lam]=b):Hw P w K mg base (CXo P w) (k+2) f fd ps spF[Θ][Cg ps.length N.length b] t8:=by
 refine Bhl F g λx A outer s H E p n=>?_;rw[<-e];subst p;exact J2 _ _ _ _ (t.body r v o M g.nd n u c a)
def Tbl.fn{x:t6}{st:cO}{N ps:lg t6}{f:aH}{fd:dN}{b:MS}(hT:Tbl Θ P w K mg base k T)(hU:MTb Θ P w K mg base k U)(hI:XiT Θ m P w K mg base j)(hj:j < k)(M:m.Ok Θ K mg)(D:Ng K mg x st ps f fd)(Sc:Hn N ps Am[st])(hQ:QTb Θ P w K mg base k Tq)(hmk:∀j q,mk=sr[u6 j q]->Azc Θ K mg base fd.code x j q)(hlam:∀L,lam=sr L->∀l,Qc l->Xo Θ P w K mg base k l L[l])(e:K6[Bc st][m.gm T N Am[st] U Tq mk lam]=b):Hw P w K mg base (CXo P w) (k+2) f fd ps spF[Θ][Cg ps.length N.length b] t8:=hT.fnM hU hI hj M D.fn Sc hQ hmk hlam e
def Tbl.cons{x:t6}{st:cO}{N ps:lg t6}{f:aH}{fd:dN}{b:MS}{dv:lg W}{c:lg V}{o:lg aF}(r:Tbl Θ P w K mg base k T)(v:MTb Θ P w K mg base k U)(A:XiT Θ m P w K mg base j)(t:j < k)(M:m.Ok Θ K mg)(D:Ng K mg x st ps f fd)(B:Hn N ps Am[st])(s:Dq _root_.D.Ga dv=sr c)(hd:Vals c o)(u:Binds K fd ps o)(z:QTb Θ P w K mg base k Tq)(g:∀j q,mk=sr[u6 j q]->Azc Θ K mg base fd.code x j q)(d:∀L,lam=sr L->∀l,Qc l->Xo Θ P w K mg base k l L[l])(e:K6[Bc st][m.gm T N Am[st] U Tq mk lam]=b):Tbl Θ P w K mg base (k+2) ((u6 x (Cg ps.length N.length b,ps.length,dv))::T):=(λy i h=>by
 rw[dF] at h;split at h
 .rename_i n;let n:=by simpa using n
  subst n;cases h;exact(f,fd,ps,st,D,r.fn v A t M D B z g d e,c,o,s,hd,u)
 .exact r.up y i h)
def MTb.cons{c:Nat}{n x qn:t6}{st:cO}{N ps:lg t6}{f:aH}{fd:dN}{b:MS}{dv:lg W}{d:lg V}{s:lg aF}(u:MTb Θ P w K mg base k U)(E:Tbl Θ P w K mg base k T)(H:XiT Θ m P w K mg base j)(A:j < k)(M:m.Ok Θ K mg)(C:Cls K Θ.cl[c])(z:Meth K Θ.cl[c] n f)(F:Fun K x qn st f fd)(I:Hn N ps Am[st])(p:Binds K fd ps [])(y:Dq _root_.D.Ga dv=sr d)(hd:Vals d s)(B:Binds K fd ps s)(G:QTb Θ P w K mg base k Tq)(o:∀j q,mk=sr[u6 j q]->Azc Θ K mg base fd.code qn j q)(g:∀L,lam=sr L->∀l,Qc l->Xo Θ P w K mg base k l L[l])(e:K6[Bc st][m.gm T N Am[st] U Tq mk lam]=b):MTb Θ P w K mg base (k+2) ((u6 (u6 c n) (Cg ps.length N.length b,ps.length,dv))::U):=(λv n' i h=>by
 rw[dF] at h;split at h
 .rename_i r;let r:(u6 v n')=(u6 c n):=by simpa using r
  cases r;cases h;exact(f,fd,ps,C,z,E.fnM u H A M F I G o g e,p,d,s,y,hd,B)
 .exact u.up v n' i h)
def QTb.cons{x:t6}{st:cO}{N ps:lg t6}{f:aH}{fd:dN}{b:MS}{dv:lg W}{d:lg V}{u:lg aF}(p:QTb Θ P w K mg base k Tq)(M:m.Ok Θ K mg)(D:Ng K mg x st ps f fd)(G:Hn N ps Am[st])(L:Dq _root_.D.Ga dv=sr d)(hd:Vals d u)(O:Binds K fd ps u)(e:K6[Bc st][m.gq Tq N Am[st]]=b):QTb Θ P w K mg base (k+2) ((u6 x (Cg ps.length N.length b,ps.length,dv))::Tq):=(λy i h=>by
 rw[dF] at h;split at h
 .rename_i t;let t:=by simpa using t
  subst t;cases h;refine(f,fd,ps,st,D,?_,d,u,L,hd,O);refine Bhl D.fn G λB A outer s H E hc n=>?_;rw[<-e];refine J2 _ _ _ _ { hp:=λz=>(nomatch z),hf:=λa=>rfl,rs:=λz=>(nomatch z),exi:=λz=>(nomatch z),hcl:=M.hcl,exm:=M.exm,exn:=M.exn,tr:=λz=>(nomatch z),exc:=M.exc,pl:=M.pl,g:={
   hK:=M.hK
   hu:=by have:=n.un;show (A.deeper[envOfC _ _ _ _ B]).units+64 < cLine;omega
   N:=rfl
   nd:=G.nd
   sc:=rfl
   fn:=λx i h=>by
    let(r,fd,ps,v,D,F,z):=p x i h;exact(k,r,fd,ps,v,t7,D,F,n.mono fM[k],z)
   ps:=by
    rintro aa Z H s e s' I ⟨S,cls,X,o,rfl,F,J,q⟩;exact I.fly_on rfl rfl rfl F J λQ Y l=>(S,cls,X,o,rfl,Y,l,q)
   px:=λz=>nomatch z
   con:=M.con
   bi:=M.bi
   fld:=M.fld
   isa:=M.isa
   calm:=λz=>nomatch z
   fnB:=λa a=>rfl
   mdc:=M.mdc
   mt:=λa a a z=>nomatch z
   mkc:=λa a a z=>nomatch z
   mkr:=λa a z=>nomatch z
   lam:=λa z=>nomatch z
   fnq:=λx i h=>by
    let(r,fd,ps,v,D,F,z):=p x i h;exact(k,r,fd,ps,v,D,F,n.mono fM[k],z) } }
 .exact p.up () y i h)
def Tbl.lams(J:Tbl Θ P w K mg base k T)(u:MTb Θ P w K mg base k U)(M:m.Ok Θ K mg)(L:QTb Θ P w K mg base k Tq)(S:Qc l):Xo Θ P w K mg base (k+2) l (m.lams T U Tq l):=by
 refine Bjp S λcl f t A outer s H E b=>?_;exact(Ge (Θ:=Θ) l.body (m.gl T U Tq l) (cxL P w K mg base l cl f .ref[t] A outer s H E t8) (λd=>E) {
  hK:=M.hK
  hu:=by have:=b.un;show (A.deeper[lR l.qual l.scope s.heap.objs.size f .ref[t] cl]).units+64 < cLine;omega
  N:=rfl
  nd:=S.nd
  sc:=rfl
  fn:=λx i h=>by
   let(a,fd,ps,r,D,F,z):=J x i h;exact(k,a,fd,ps,r,t8,D,F,b.mono fM[k],z)
  ps:=by
    rintro aa σ H s e s' I ⟨ea,cls,H',o,rfl,F,G,q⟩;exact I.fly_on rfl rfl rfl F G λZ F' p=>(ea,cls,H',o,rfl,F',p,q)
  px:=λz=>nomatch z
  con:=M.con
  bi:=M.bi
  fld:=M.fld
  isa:=M.isa
  calm:=λd=>rfl
  fnB:=λz=>nomatch z
  mdc:=M.mdc
  mt:=λc n i h=>by
   let(a,fd,ps,C,g,F,z):=u c n i h;exact(k,a,fd,ps,t8,C,g,F,b.mono fM[k],z)
  mkc:=λx c i h=>by
   let(t,Y,X):=lE.mp h;let(i',Q,O):=bI.mp X;cases O;let(B,y,v):=M.mkl x c Y;let(a,fd,ps,C,g,F,z):=u c _ i Q;exact(B,k,a,fd,ps,t8,(y,g.at_,g.fn,v),F,b,z)
  mkr:=λd d z=>nomatch z
  lam:=λd z=>nomatch z
  fnq:=λx i h=>by
   let(a,fd,ps,r,D,F,z):=L x i h;exact(k,a,fd,ps,r,D,F,((λz=>nomatch z),(b.mono fM[k]).dp,(b.mono fM[k]).un),z) }).val
end
def Azd(K:aB)(cl:Nat->aH)(xf:Nat->o9 t6)(tb:lg aH:=[]):Th:=(K,cl,xf,λuw=>t8,tb)
def AllP{α:Type}(P:t6->α->Prop):lg[t6×α]->Prop
 |[]=>True
 |p::l=>P p.1 p.2/\AllP P l
theorem AllP.at{d:Type}{P:t6->d->Prop}:∀{L:lg[t6×d]},AllP P L->∀x a,L.lookup x=sr a->P x a
 |[],_,x,a,h=>by cases h
 |(y,b)::l,hp,x,a,h=>by
  rw[dF] at h;split at h
  .rename_i e;let e:=by simpa using e
   subst e;cases h;exact hp.1
  .exact AllP.at hp.2 x a h
def AllB(P:t6->Prop):lg t6->Prop
 |[]=>True
 |p::l=>P p/\AllB P l
theorem AllB.at:∀{L:lg t6},AllB P L->∀x,L.contains x=t8->P x
 |[],_,x,h=>by trivial
 |y::l,hp,x,h=>by
  rw[rB,fC] at h;rcases h with e|h
  .let e:=by simpa using e
   subst e;exact hp.1
  .exact AllB.at hp.2 x h
def Aze(Θ:Th)(mg:t6->o9 aF)(x:t6)(w:W):Prop:=∃v u,(∀ρ H,RV Θ ρ H w v)/\RelV v u/\(mg x=sr u\/(mg x=sy/\bootBuiltins x=sr u))
section
def Gh{i:Int}{t:Tok}(h:mg x=sr[.int i t]):Aze Θ mg x .int[i]:=(_,_,λuw uw=>.int i,(t,rfl),.inl h)
def Asj{t:Tok}(h:mg x=sr[.str z t]):Aze Θ mg x .str[z]:=(_,_,λuw uw=>.str z,(t,rfl),.inl h)
def Abm(h:mg x=sy)(hb:bootBuiltins x=sr .type[n]):Aze Θ mg x .ty[n]:=(_,_,λuw uw=>.ty n,rfl,.inr (h,hb))
def G5{c:Nat}(h:mg x=sr .ref[Θ.cl[c]]):Aze Θ mg x .cls[c]:=(_,_,λuw uw=>.cls c,rfl,.inl h)
end
def addrs(cs:lg aH)(c:Nat):aH:=cs.getD c 0
def isB(o:o9 o9[aF])(n:String):Bool:=match o with
 |some (sr (.builtin m))=>m==n
 |_=>t7
def Aft(h:isB o n=t8):o=sr sr[.builtin[n]]:=by
 unfold isB at h;split at h
 .rw[eq_of_beq h]
 trivial
def isN(o:o9 o9[aF]):Bool:=match o with
 |some sy=>t8
 |_=>t7
def Ak0(h:isN o=t8):o=sr sy:=by
 unfold isN at h;split at h
 .rfl
 trivial
def Asl(K:aB)(C:aH):Bool:=(sJ K C).isSome&&isB (cF K .ref[C] "__getattribute__") "BaseException.__getattribute__"&&isN[cF K .ref[C] "__getattr__"]&&
 isB (cF K .ref[C] "__class__") "object.__class__"&&decide[mF K C .type["BaseException"]=sr t8]&&decide[mF K C .type["object"]=sr t8]
def Asm{K:aB}{C:aH}(h:Asl K C=t8):W3 K C:=by
 unfold Asl at h;simp[dh] at h;let(((((a,b),c),d),e),f):=h;exact(a,Aft b,Ak0 c,Aft d,e,f)
def Ap6(v:aF)(n:String):Bool:=match v with
 |.type m=>m==n
 |_=>t7
def X3(h:Ap6 v n=t8):v=.type n:=by
 unfold Ap6 at h;split at h
 .rw[eq_of_beq h]
 trivial
def refs(l:lg aF):Bool:=l.all λa=>match a with|.ref _=>t8|_=>t7
def Bk2(n:Nat)(l:lg aF):Bool:=refs l.take[n]&&(match l.drop n with
 |[a,b,c,d]=>Ap6 a "ValueError"&&Ap6 b "Exception"&&Ap6 c "BaseException"&&Ap6 d "object"
 |_=>t7)
nonrec def Beu{n:Nat}(h:Bk2 n l=t8):∃own,l=own ++ Ah8/\refs own=t8:=by
 unfold Bk2 at h;rw[aL] at h;refine(_,?_,h.1);let f:=h.2;split at f
 .rename_i a b c d e;simp[aL] at f;let(((k,j),i),g):=f;rw[X3 k,X3 j,X3 i,X3 g] at e;exact(pD n l).symm.trans (by rw[e])
 trivial
def xsB(K:aB)(C:aH)(f:t6):Bool:=(match sJ K C with
 |some cd=>Bk2 (cd.mro.length - 4) cd.mro&&cd.hasDict
 |none=>t7)&&isB (cF K .ref[C] "__setattr__") "object.__setattr__"&&isN[cF K .ref[C] f]&&decide[mF K C .type["object"]=sr t8]
nonrec def Bhv{K:aB}{C:aH}{f:t6}(h:xsB K C f=t8):XsK K C f:=by
 unfold xsB at h;simp[dh] at h;let(((a,b),c),d):=h;refine(?_,Aft b,Ak0 c,d);split at a
 .rename_i j e;rw[aL] at a;let(own,i,g):=Beu a.1;exact(j,own,e,i,g,a.2)
 trivial
def xbB(K:aB)(B:aH):Bool:=isB (rP K .ref[B] "__getattribute__") "type.__getattribute__"&&zF K B .type["type"]&&(match zG K .ref[B] .type["type"] "__init__" with
 |some (.val (.builtin m))=>m=="ValueError.__init__"
 |_=>t7)
nonrec def Bhw{K:aB}{B:aH}(h:xbB K B=t8):XbK K B:=by
 unfold xbB at h;simp[aL] at h;let((a,b),c):=h;refine(Aft a,b,?_);split at c
 .rename_i m e;rw[e,eq_of_beq c]
 .cases c
def Bev(K:aB)(f:aH):Bool:=match iY K .ref[f] with
 |some v=>Ap6 v "function"
 |none=>t7
nonrec def Asn{K:aB}{f:aH}(h:Bev K f=t8):iY K .ref[f]=sr .type["function"]:=by
 unfold Bev at h;split at h
 .rename_i v e;rw[e,X3 h]
 trivial
def Aso(K:aB)(cs:lg aH)(L:lg[Nat×Nat×Bool]):Bool:=L.all λt=>decide[lB K .ref[addrs cs t.1] .ref[addrs cs t.2.1]=sr t.2.2]
def Azf(K:aB)(cs:lg aH)(L:lg Nat):Bool:=L.all λc=>Asl K (addrs cs c)&&decide[lB K .ref[addrs cs c] .type["ValueError"]=sr t8]
def Azg(N:lg[Nat×Nat×Bool])(L:lg Nat)(c:Nat):W->o9 Bool
 |.cls k=>if L.contains c then (N.find? λt=>t.1==c&&t.2.1==k).map (·.2.2) else sy
 |.ty n=>if n=="ValueError"&&L.contains c then sr t8 else sy
 |_=>sy
nonrec def Bk3{tb:lg aH}{xf:Nat->o9 t6}{K:aB}{g:lg aH}{N:lg[Nat×Nat×Bool]}{L:lg Nat}(p:Aso K g N=t8)(o:Azf K g L=t8):Am4[Azd K addrs[g] xf tb][Azg N L]:=(⟨λc k b h=>by
 let i:∀c,L.contains c=t8->W3 K (addrs g c)/\_:=λc d=>by
  let z:=bB.mp o c (by simpa using d)
  rw[aL] at z;exact(Asm z.1,dg z.2)
 unfold Azg at h;split at h
 .rename_i k;split at h
  .rename_i d;let(t,j,rfl):=bI.mp h;let m:=List.mem_of_find?_eq_some j;let hp:=List.find?_some j;rw[aL] at hp;let r:t.1=c:=by simpa using hp.1
   let q:t.2.1=k:=by simpa using hp.2
   let z:=dg[bB.mp p t m];rw[r,q] at z;exact((i c d).1,_,rfl,z)
  .cases h
 .split at h
  .rename_i n d;rw[aL] at d;let e:n="ValueError":=by simpa using d.1
   subst e;cases h;exact((i c d.2).1,_,rfl,(i c d.2).2)
  .cases h
 .cases h⟩)
def Avb(K:aB)(C:aH):Bool:=pI K C aEa&&mJ K C&&rO K C&&isB (cF K .ref[C] "__setattr__") "object.__setattr__"
def Azh{K:aB}{C:aH}(h:Avb K C=t8):Cls K C:=by
 unfold Avb at h;simp[aL] at h;let(((a,b),c),d):=h;exact(a,b,c,Aft d)
def Asp(K:aB)(cs:lg aH)(L:lg[Nat×t6]):Bool:=L.all λp=>Avb K (addrs cs p.1)&&isN[cF K .ref[addrs cs p.1] p.2]
def Azi(K:aB)(cs:lg aH)(L:lg[Nat×t6]):Bool:=L.all λp=>Asl K (addrs cs p.1)&&mJ K (addrs cs p.1)&&isN[cF K .ref[addrs cs p.1] p.2]
theorem mem_lookup{b:Type}{c:Nat}{f:b}:∀{L:lg[Nat×b]},L.lookup c=sr f->(u6 c f)∈L
 |[],h=>by cases h
 |(d,g)::L,h=>by
  rw[dF] at h;split at h
  .simp_all
  .exact aR _ mem_lookup[h]
theorem Bk4{tb:lg aH}{K:aB}{g:lg aH}{L X:lg[Nat×t6]}(h:Asp K g L=t8)(i:Azi K g X=t8):FOk[Azd K addrs[g] (λc=>X.lookup c) tb][λb c f=>if b then X.lookup c==sr f else L.contains[u6 c f]]:=(λc f d=>by
 let d:L.contains[u6 c f]=t8:=d;let z:=bB.mp[h][u6 c f][by simpa using d]
 rw[aL] at z;exact(Azh z.1,Ak0 z.2),λc f d=>by
 let e:=eq_of_beq d;let z:=bB.mp i (u6 c f) mem_lookup[e];rw[aL,aL] at z;exact(e,Asm z.1.1,z.1.2,Ak0 z.2))
def Asq(K:aB)(cs:lg aH)(L:lg[Nat×Nat]):Bool:=L.all λt=>decide[cU K .ref[addrs cs t.2] .ref[addrs cs t.1]=sr t8]
def Bk5{K:aB}{d:lg aH}{L:lg[Nat×Nat]}(h:Asq K d L=t8)(k c:Nat)(e:L.contains[u6 k c]=t8):cU K .ref[addrs d c] .ref[addrs d k]=sr t8:=(
 dg bB.mp[h][u6 k c][by simp_all])
def Bew{K:aB}{a:aH}{D:lg[t6×t6]}(h:aCu[aCa λb=>K.lookup b][λb=>K.lookup b][a][D.map λp=>(u6 p.1 qQ[.str[p.2]])]=t8):Au8 K a D:=λhp x=>KTD.text_of_look (λb o q=>x b o q) h
def Avc{P:cD}{w:dW}{K:aB}{mg mb:t6->o9 aF}{k:Nat}{fa a:aH}{fd:dN}{x:t6}{sp:Sp}{c:aO}{E:lg aF}{ns:lg Int}{tabs:lg aH}(KX:K.In c.heap)(I:c.heap.Ns mainGlobals mg)(f:c.heap.Ns builtinsNs mb)(hbb:∀x:t6,x≠"__name__"->mb x=bootBuiltins x)(T:c.heap.NoLimit)(hg:c.gens=#[])(ha:c.heap.get? a=sr { cls:=.type "list",data:=.seq E.toArray })(hi:uY E ns)(hl:ns.length<=sizeLine)(hr:Fx k callerA)(hK0:aAr K=t8)(U:∀P∈tabs,isCodeTable c.heap P/\c.heap.get? P=sr mU[#[]])(hbm:∃L ob,mg "__builtins__"=sr .ref[L]/\L≠builtinsNs/\c.heap.get? L=sr ob/\ob.cls=.type "module"/\ob.dict=sr builtinsNs/\ob.data=.plain)(F:∀base:dI,K.In base->base.Ns mainGlobals mg->Bmo mg base->Hw P w K mg base (CXo P w) k fa fd [x] sp)(hbind:∀(s:aO)(u:aF),zR s fd ([u],[]) [(x,u)])(S:∀H:Hp,(∀P∈tabs,H P=sr .tbl[#[]])->((∃o,H a=sr[.frz o .lst[ns.map[V.int]]])\/∃(o:tu)(G:Array aF)(n:Nat),K.lookup a=sr o/\o.cls=.type "list"/\o.dict=sy/\o.data=.seq G n/\G.size<=sizeLine/\Vals ns.map[V.int] G.toList)->sp [.ref a] H (λv A=>v=.bl t8) λA A A=>False):
  codeAny[model P w][callerA][.call .ref[fa] ([.ref a],[])][λr l=>r=.ok .ret[.bool[t8]]/\OldK c.heap l.heap/\l.os=c.os/\qL l.gens][c]:=by
 let rv:=At8 hi;let Q:=hi.length;let nta:a∉tabs:=λz=>by simp_all
 let C:∀H:Hp,(∀b,H b=sy\/(b∈tabs/\H b=sr .tbl[#[]])\/(b=a/\K.lookup a=sy/\∃o xs,H b=sr[.frz o .lst[xs]]))->(∀P∈tabs,H P=sr .tbl[#[]])->HOk P w H c.heap->sp [.ref a] H (λv A=>v=.bl t8) (λA A A=>False)->
   codeAny[model P w][callerA][.call .ref[fa] ([.ref a],[])][λr l=>r=.ok .ret[.bool[t8]]/\OldK c.heap l.heap/\l.os=c.os/\qL l.gens][c]:=by
  intro H hO hTt hok hS;let g:∀{b:aH} {o:tu},c.heap.get? b=sr o->H b=sy->(Aj0 c.heap H).get? b=sr o:=λe n=>Awm e n;let no:∀{b:aH} {o:tu},c.heap.get? b=sr o->o≠mU #[]->(b=a->K.lookup a=sy->False)->H b=sy:=λ{b o} e d d'=>by
   rcases hO b with z|⟨z,_⟩|⟨z,y,_⟩
   .exact z
   .have:=(U b z).2;rw[e] at this;cases this;exact absurd rfl d
   .exact(d' z y).elim
  let noD:∀{b:aH} {o:tu} {Z:Array DictEntry} {ep:Nat},c.heap.get? b=sr o->o.data=.dict Z ep->H b=sy:=λ{b o Z ep} e d=>no e (λz=>by rw[z] at d;cases d) λz A=>by grind
  let t:∀{b:aH} {m:t6->o9 aF},c.heap.Ns b m->(Aj0 c.heap H).Ns b m:=λ{b m} ⟨o,Z,ep,e,d,r⟩=>(o,Z,ep,g e (noD e d),d,r);let X:K.In[Aj0 c.heap H]:=λb o e=>g (KX b o e) (no (KX b o e) (λz=>by
   let h2:=bB.mp hK0 (u6 b o) PySem.W.mem_of_lookupK[e];subst z;exact absurd (show t7=t8 from h2) cV) λz y=>by grind)
  let(L,ob,m1,m2,m3,m4,m5,m6):=hbm;let hM:Mod K mg (Aj0 c.heap H):=(X,t I,(mb,t f,hbb),let ⟨mc,h1,h2⟩:=T;(mc,t h1,h2));let nbm:L≠mainGlobals:=by
   intro z;let(o,Z,ep,e,d,_):=I;rw[z,e] at m3;cases m3;rw[d] at m6;cases m6
  let hbH:H L=sy:=no m3 (by intro z;rw[z] at m4;cases m4) (by grind)
  let hB:Bmo mg (Aj0 c.heap H):=(L,ob,m1,m2,nbm,g m3 hbH,m4,m5,m6);let e0:Adp P w K mg (Aj0 c.heap H) callerA [] c H:=(rfl,hM,λb o e=>Bbx e,oR[PySem.W.hideAll_size _ _],trivial,λb f=>absurd (show b∈([]:lg aH) from f) (),hok,.of_eq hg)
  refine gQ[(F _ X t[I] hB).run callerA [] c H ([.ref a],[]) [.ref a] [.ref a] _ _ hr e0 (hbind c .ref[a]) (.cons rfl .nil) hS] λr l h=>?_;cases r with
  |error e=>
   let(_,_,_,_,_,_,_,z):=h;exact z.elim
  |ok fl=>
   cases fl with
   |next=>exact bZ h
   |brk=>exact bZ h
   |cont=>exact bZ h
   |ret u=>
    let(v,H',os,bare,un,B,r',q):=h;let q':v=.bl t8:=q;subst q';obtain rfl:u=tM t8:=r';let p:∀b o,c.heap.get? b=sr o->(b∉tabs->l.heap.get? b=sr o)/\(b∈tabs->o=mU #[]/\∃ps,l.heap.get? b=sr mU[ps]):=λb o e=>by
     refine(λf=>?_,λf=>?_)
     .rcases hO b with z|⟨z,_⟩|⟨z,y,ob,xs,w'⟩
      .exact un.keep b o e z (by intro z;exact absurd (show b∈([]:lg aH) from z) ()) ()
      .exact absurd z f
      .let z2:=un.frzs b ob _ w';let(e1,_):=hok b _ w';let(e2,_):=B b _ z2;rw[e] at e1;cases e1;exact e2
     .let e2:=(U b f).2;rw[e] at e2;let(more,z):=un.tbls b _ (hTt b f);exact(bY e2,_,B b _ z)
    refine(rfl,(λb o e=>?_,λb o e=>?_),os,bare)
    .by_cases f:b∈tabs
     .let(rfl,ps,J):=(p b o e).2 f;exact .inr[.inl ((U b f).1,rfl,#[],ps,rfl,Array.empty_append ▸ J)]
     .exact .inl[(p b o e).1 f]
    .by_cases f:b∈tabs
     .let(rfl,ps,J):=(p b o e).2 f;exact(_,J)
     .exact(o,(p b o e).1 f)
 cases hk:K.lookup a with
 |some o=>
  let e:=KX a o hk;rw[ha] at e;cases e;let Y:∀P∈tabs,(λb=>if b∈tabs then sr HO.tbl[#[]] else sy:Hp) P=sr .tbl[#[]]:=λP J=>di J
  refine C[λb=>if b∈tabs then sr .tbl[#[]] else sy][λb=>?_][Y][λb u z=>?_][S _ Y (.inr (_,E.toArray,_,hk,rfl,rfl,rfl,by rw[cZ,Q];exact hl,rv))]
  .by_cases f:b∈tabs
   .exact .inr[.inl (f,di f)]
   .exact .inl dm[f]
  .by_cases f:b∈tabs
   .let z':=(di f).symm.trans z;cases z';exact(U b f).2
   .let z':=(dm f).symm.trans z;cases z'
 |none=>
  let Y:∀P∈tabs,(λb=>if b∈tabs then sr HO.tbl[#[]] else if b=a then sr (HO.frz { cls:=.type "list",data:=.seq E.toArray } (.lst ns.map[V.int])) else sy:Hp) P=sr .tbl[#[]]:=λP J=>di J
  refine C (λb=>if b∈tabs then sr .tbl[#[]] else if b=a then sr (.frz { cls:=.type "list",data:=.seq E.toArray } (.lst ns.map[V.int])) else sy) (λb=>?_) Y (λb u z=>?_) (S _ Y (.inl ({ cls:=.type "list",data:=.seq E.toArray },(dm nta).trans di[rfl])))
  .by_cases f:b∈tabs
   .exact .inr[.inl (f,di f)]
   .by_cases i:b=a
    .exact .inr[.inr (i,hk,_,_,(dm f).trans di[i])]
    .exact .inl[(dm f).trans dm[i]]
  .by_cases f:b∈tabs
   .let z':=(di f).symm.trans z;cases z';exact(U b f).2
   .by_cases i:b=a
    .let z':=((dm f).trans di[i]).symm.trans z;cases z';subst i;exact(ha,by rw[aJ];exact hl,E,_,rv,ha)
    .let z':=((dm f).trans dm[i]).symm.trans z;cases z'
def Aio(qs:lg t6):Store:=qs.map Cell.tab
def Avd{l:zL}{k:Nat}{q:cD}{loose:lg t6}{XP:(t6->o9 aF)->dI->Prop}{Y:dW->dI->Prop}{d:DefRec}{K:Params->aB}{x:t6}{tabs:lg aH}{qs:lg t6}{xf:Nat->o9 t6}{g:lg W->M W}(y:∀ns:lg Int,ns.length<=63->∃Z,g [.scr ns] Aio[qs]=.ok .bl[t8] Z)(hn:l.most=sr 63)(B:d.params.defaults=[])(hr:Fx k callerA)(hq:qs.length=tabs.length)(nd:tabs.Nodup)(hY:∀(w:dW)(h:dI),Y w h->(K w.params).In h/\∀P∈tabs,h.get? P=sr mU[#[]])(I:∀p,aAr K[p]=t8)(F:∀(w:dW)(mg:t6->o9 aF)(t:aH)(h:dI),(K w.params).In h->h.Ns mainGlobals mg->mg d.name=sr .ref[t]->
   ∃X:lg aH,∃fd:dN,(∀(s:aO)(u:aF),zR s fd ([u],[]) [(x,u)])/\(∀P∈tabs,∃c,gG K[w.params] c P=t8)/\∀base:dI,(K w.params).In base->base.Ns mainGlobals mg->Bmo mg base->Hw l.prog w K[w.params] mg base (CXo l.prog w) k t fd [x] spF[Azd K[w.params] addrs[X] xf tabs][g]):
  PySem.W.WalkO q loose XP Y l.row.toRowW d [] (λf O=>aDk f O):=by
 refine Att.attach_call hn B λw s₀ Q mg mb t o pm cd doc a O ns G yY ho hd S A r hints m hg=>?_;let(N,U):=hY w _ yY;let(X,fd,hb,C,hF):=F w mg t _ N G.T.g A;refine Avc (tabs:=tabs) N G.T.g G.T.b G.T.builtins G.T.nolimit hg r hints (aD m ()) hr I[_] (λP E=>(?_,U P E)) G.T.bmain hF hb λH hH hS=>?_
 .let(c,hc):=C P E;exact((vI N hc).tab (U P E)).isCodeTable
 .let(Z,e):=y ns m;refine(tabs,Aio qs,[.scr ns],(?_,nd,aP _,λn a c h1 J=>?_),.cons .scr[hS] .nil,?_)
  .unfold Aio;rw[aJ,hq]
  .unfold Aio at J;rw[bK] at J;let(q',_,rfl):=bI.mp J;exact(#[],hH a dX[h1],trivial,λpos v z=>by cases z)
  .rw[e];intro ρ1 H1 v p1 t1 R1 rv;cases rv;rfl
def Ey(K:aB)(mg:t6->o9 aF)(x:t6)(st:cO)(_:lg t6):Prop:=∃(f:aH)(kV dc pm:aF)(an:o9 aH)(cd ct:aF),Fun K x x st f (cQ x x Dy[st] Bc[st] Am[st] .none kV dc pm an cd ct)/\mg x=sr .ref[f]
def Pj(K:aB)(c:aH)(x q:t6)(st:cO)(_:lg t6):Prop:=∃(f:aH)(kV dc pm:aF)(an:o9 aH)(cd ct:aF),Fun K x q st f (cQ x q Dy[st] Bc[st] Am[st] .none kV dc pm an cd ct)/\Meth K c x f
section
variable{K:aB}{mg:t6->o9 aF}{h:dI}{x q:t6}{st:cO}{ps:lg t6}{f c:aH}{oc kV dc pm cd ct:aF}{od an:o9 aH}{sl:Array (o9 aF)}
def Boq(X:K.In h)(G:h.Ns mainGlobals mg)(a:bA K mainGlobals x=sr sr[.ref[f]])(b:K.lookup f=sr (oc,od,.func[cQ x x Dy[st] Bc[st] Am[st] .none kV dc pm an cd ct],sl))(d:iZ K cd x=t8)(e:cM K .ref[f]=t8):Ey K mg x st ps:=(
 (f,kV,dc,pm,an,cd,ct,Aba b d e,aY X G a))
def Bor(a:cF K .ref[c] x=sr sr[.ref[f]])(b:K.lookup f=sr (oc,od,.func[cQ x q Dy[st] Bc[st] Am[st] .none kV dc pm an cd ct],sl))(d:iZ K cd q=t8)(e:cM K .ref[f]=t8)(g:tO K .ref[f]=t8):Pj K c x q st ps:=(
 (f,kV,dc,pm,an,cd,ct,Aba b d e,a,g,e))
end
def Asr(K:aB)(mg:t6->o9 aF)(x:t6)(st:cO)(_:lg t6)(A:aH):Prop:=∃(f:aH)(kV dc pm:aF)(an:o9 aH)(c:aH)(ct:aF),Fun K x x st f (cQ x x Dy[st] Bc[st] Am[st] .none kV dc pm an .ref[c] ct)/\mg x=sr .ref[f]/\gG K c A=t8
def Bos{K:aB}{mg:t6->o9 aF}{h:dI}{x:t6}{st:cO}{ps:lg t6}{f c A:aH}{p kV k j ct:aF}{o l:o9 aH}{n:Array o9[aF]}(X:K.In h)(G:h.Ns mainGlobals mg)(a:bA K mainGlobals x=sr sr[.ref[f]])(b:K.lookup f=sr (p,o,.func[cQ x x Dy[st] Bc[st] Am[st] .none kV k j l .ref[c] ct],n))(d:iZ K .ref[c] x=t8)(e:cM K .ref[f]=t8)(g:gG K c A=t8):Asr K mg x st ps A:=(
 (f,kV,k,j,l,c,ct,Aba b d e,aY X G a,g))
def scB(N ps:lg t6)(sc:gR):Bool:=(((match sc.kind with|.function=>t8|_=>t7)&&(!sc.isCoroutine&&!sc.isGenerator))&&(decide N.Nodup&&decide[N.take ps.length=ps]))&&(ps.all[λx=>decide[sc.names.lookup x=sr .local]||decide[sc.names.lookup x=sr .cell]]&&sc.names.all λy=>decide[y.2≠.free])
def Abn{N ps:lg t6}{sc:gR}(h:scB N ps sc=t8):Hn N ps sc:=by
 unfold scB at h;simp only[aL,iC,dh,bB,fC] at h;let(((a,i,g),f,e),d,c):=h;refine(?_,i,g,f,e,d,c);revert a;cases sc.kind <;> intro a <;> first|rfl|cases a
def BA(fd:dN)(ps:lg t6):Nat->lg aF->Prop
 |0,us=>bindArgs fd (us,[])=pure ps.zip[us]
 |n+1,us=>∀x,BA fd ps n (us ++ [x])
def BA.un'{fd:dN}{ps:lg t6}:∀{n:Nat} {c:lg aF},BA fd ps n c->∀a:lg aF,a.length=n->bindArgs fd (c ++ a,[])=pure ps.zip[c ++ a]:=by
 intro n;induction n with
 |zero=>
  intro c h a e;rw[jA e,bQ];exact h
 |succ n d=>
  intro c h a e;cases a with
  |nil=>cases e
  |cons v a=>
   have:=d h[v] a xK[e]
   rwa [cR] at this
def BA.un{fd:dN}{ps:lg t6}{n:Nat}(h:BA fd ps n [])(us:lg aF)(e:us.length=n):bindArgs fd (us,[])=pure ps.zip[us]:=BA.un' h us e
structure TU(Θ:Th)(m:Md)(P:cD)(w:dW)(K:aB)(mg:t6->Option aF)(base:dI)(k:Nat)(T:List (t6×Fi))(U:List ((Nat×t6)×Fi))(Tq:List (t6×Fi)):Prop where
 q:QTb Θ P w K mg base k Tq
 t:Tbl Θ P w K mg base k T
 u:MTb Θ P w K mg base k U
 i:XiT Θ m P w K mg base 1
 j:1 < k
 m:m.Ok Θ K mg
section
variable{Θ:Th}{m:Md}{P:cD}{w:dW}{K:aB}{mg:t6->o9 aF}{base:dI}{k:Nat}{T Tq:lg (t6×Fi)}{U:lg ((Nat×t6)×Fi)}{x q:t6}{st:cO}{N ps:lg t6}{b:MS}{f:aH}{fd:dN}{c:Nat}
def Bot(e:K6[Bc st][m.gm T N Am[st] U Tq]=b)(h:TU Θ m P w K mg base k T U Tq)(d:Ng K mg x st ps f fd)(g:Dq _root_.D.Ga dv=sr a)(hd:Vals a n)(l:Binds K fd ps n)(o:scB N ps Am[st]=t8:=by rfl'):TU Θ m P w K mg base (k+2) ((u6 x (Cg ps.length N.length b,ps.length,dv))::T) U Tq:=(
 (h.q.up (),h.t.cons h.u h.i h.j h.m d Abn[o] g hd l h.q () () e,h.u.up,h.i,lK 2 h.j,h.m))
def al0{p:lg aF->Prop}(f:p [])(d:lg aF)(h:d.length=0):p d:=by simp_all
def alS{p:lg aF->Prop}{n:Nat}(f:∀x a,a.length=n->p (x::a))(a:lg aF)(h:a.length=n+1):p a:=by
 cases a;cases h;exact f _ _ xK[h]
def Gf(e:K6[Bc st][m.gm T N Am[st] U Tq]=b)(h:TU Θ m P w K mg base k T U Tq)(d:Ey K mg x st ps)(o:scB N ps Am[st]=t8:=by rfl')(n:∀(kV g a:aF)(j:o9 aH)(i ct:aF),BA (cQ x x Dy[st] Bc[st] Am[st] .none kV g a j i ct) ps ps.length []:=by (repeat intro _);exact rfl):
  TU Θ m P w K mg base (k+2) ((u6 x (Cg ps.length N.length b,ps.length,[]))::T) U Tq:=by
 let(f,kV,g,a,j,i,ct,F,l):=d;let B:Binds K _ ps []:=Pz BA.un[n kV g a j i ct];exact Bot e h (F,l,B) rfl .nil B o
def Qx(e:K6[Bc st][m.gm T N Am[st] U Tq]=b)(h:TU Θ m P w K mg base k T U Tq)(C:Avb K Θ.cl[c]=t8)(d:Pj K Θ.cl[c] x q st ps)(s:scB N ps Am[st]=t8:=by rfl')(r:∀(kV g a:aF)(n:o9 aH)(l ct:aF),BA (cQ x q Dy[st] Bc[st] Am[st] .none kV g a n l ct) ps ps.length []:=by (repeat intro _);exact rfl):
  TU Θ m P w K mg base (k+2) T ((u6 (u6 c x) (Cg ps.length N.length b,ps.length,[]))::U) Tq:=by
 let(f,kV,g,a,n,l,ct,F,p):=d;let B:Binds K _ ps []:=Pz BA.un[r kV g a n l ct];exact(h.q.up (),h.t.up,h.u.cons h.t h.i h.j h.m Azh[C] p F Abn[s] B rfl .nil B h.q (by exact λo o z=>nomatch z) (by exact λo z=>nomatch z) e,h.i,lK 2 h.j,h.m)
theorem TU.up(h:TU Θ m P w K mg base k T U Tq):TU Θ m P w K mg base (k+2) T U Tq:=(h.q.up (),h.t.up,h.u.up,h.i,lK 2 h.j,h.m)
def Bq6(e:K6[Bc st][m.gq Tq N Am[st]]=b)(h:TU Θ m P w K mg base k T U Tq)(d:Ey K mg x st ps)(r:scB N ps Am[st]=t8:=by rfl')(p:∀(kV g a:aF)(n:o9 aH)(l ct:aF),BA (cQ x x Dy[st] Bc[st] Am[st] .none kV g a n l ct) ps ps.length []:=by (repeat intro _);exact rfl):
  TU Θ m P w K mg base (k+2) T U ((u6 x (Cg ps.length N.length b,ps.length,[]))::Tq):=by
 let(f,kV,g,a,n,l,ct,F,o):=d;let B:Binds K _ ps []:=Pz BA.un[p kV g a n l ct];exact(h.q.cons h.m (F,o,B) Abn[r] rfl .nil B e,h.t.up,h.u.up,h.i,lK 2 h.j,h.m)
def Bq7(e:K6[Bc st][m.gm T N Am[st] U Tq sy sr[m.lams T U Tq]]=b)(h:TU Θ m P w K mg base k T U Tq)(d:Ey K mg x st ps)(y:scB N ps Am[st]=t8:=by rfl')(v:∀(kV n g:aF)(p:o9 aH)(o ct:aF),BA (cQ x x Dy[st] Bc[st] Am[st] .none kV n g p o ct) ps ps.length []:=by (repeat intro _);exact rfl):
  TU Θ m P w K mg base (k+4) ((u6 x (Cg ps.length N.length b,ps.length,[]))::T) U Tq:=by
 let(f,kV,n,g,p,o,ct,F,s):=d;let B:Binds K _ ps []:=Pz BA.un[v kV n g p o ct];let a:=h.up;exact(a.q.up (),a.t.cons a.u a.i a.j a.m (F,s,B) Abn[y] rfl .nil B a.q (by exact λr r z=>nomatch z) (by intro L z l S;cases z;exact h.t.lams h.u h.m h.q S) e,a.u.up,a.i,lK 2 a.j,a.m)
def Bq8{A:aH}{j:Nat}(v:Bmo mg base)(o:Θ.tb[j]?=sr A)(e:K6[Bc st][m.gm T N Am[st] U Tq sr[u6[j][x ++ ".<locals>." ++ "<lambda>"]]]=b)(h:TU Θ m P w K mg base k T U Tq)(d:Asr K mg x st ps A)(y:scB N ps Am[st]=t8:=by rfl')(r:∀(kV g a:aF)(l:o9 aH)(s ct:aF),BA (cQ x x Dy[st] Bc[st] Am[st] .none kV g a l s ct) ps ps.length []:=by (repeat intro _);exact rfl):
  TU Θ m P w K mg base (k+2) ((u6 x (Cg ps.length N.length b,ps.length,[]))::T) U Tq:=by
 let(f,kV,g,a,l,c,ct,F,n,p):=d;let B:Binds K _ ps []:=Pz BA.un[r kV g a l .ref[c] ct];exact(h.q.up (),h.t.cons h.u h.i h.j h.m (F,n,B) Abn[y] rfl .nil B h.q (by intro i q z;cases z;exact((c,A,rfl,o,p),v,rfl)) (by exact λE z=>nomatch z) e,h.u.up,h.i,lK 2 h.j,h.m)
def Bq9{A:aH}{j:Nat}{fd:dN}{f:aH}(o:Bmo mg base)(a:Θ.tb[j]?=sr A)(e:K6[Bc st][m.gm T N Am[st] U Tq sr[u6[j][x ++ ".<locals>." ++ "<lambda>"]]]=b)(h:TU Θ m P w K mg base k T U Tq)(d:Ng K mg x st ps f fd)(g:∃c,fd.code=.ref c/\gG K c A=t8)(p:scB N ps Am[st]=t8:=by rfl'):Hw P w K mg base (CXo P w) (k+2) f fd ps spF[Θ][Cg ps.length N.length b] t8:=by
 let(c,n,l):=g;exact h.t.fn h.u h.i h.j h.m d Abn[p] h.q (by intro i q z;cases z;exact((c,A,n,a,l),o,rfl)) (by exact λs z=>nomatch z) e
end
def pIf(s:cO)(i:Nat):cO:=match s with
 |.If _ b _ _=>b.getD i default
 |.For _ _ b _ _=>b.getD i default
 |.Try b _ _ _ _=>b.getD i default
 |_=>default
def xSt:cO->bO
 |.Return (sr e) _=>e
 |.If c _ _ _=>c
 |.Expr e _=>e
 |.Assign _ v _=>v
 |_=>default
def xL:bO->bO
 |.Compare a _ _ _=>a
 |.UnaryOp _ a _=>a
 |_=>default
def xA(i:Nat):bO->bO
 |.Call _ as _ _=>as.getD i default
 |_=>default
def Ap7(q:t6):bO->Lm
 |.Lambda ps b sc _=>(q,ps,b,sc,Ap4 sc)
 |e=>(q,([],[],sy,[],[],sy,[]),e,{ kind:=.function,names:=[],isGenerator:=false,isCoroutine:=false },[])
def Ass(K:aB)(cs:lg aH)(L:lg[Nat×Nat]):Bool:=L.all λt=>decide[cU K .ref[addrs cs t.2] .ref[addrs cs t.1]=sr t7]
def Bk6{K:aB}{d:lg aH}{L:lg[Nat×Nat]}(h:Ass K d L=t8)(k c:Nat)(z:L.contains[u6 k c]=t8):cU K .ref[addrs d c] .ref[addrs d k]=sr t7:=by
 have:=bB.mp[h][u6 k c][by simpa using z]
 exact dg this
structure SP where
 p:Store->Prop
 st:∀S G:Store,p S->p (S ++ G)
def SP.any:SP:=(λuw=>True,λuw uw h=>h)
def AtL(n:Nat)(ws:lg W)(S:Store):Prop:=S[n]?=sr .lst[ws]
def AtL.app{n:Nat}(h:AtL n a S)(G:Store):AtL n a (S ++ G):=by
 unfold AtL at h ⊢
 rw[bD (aK.mp h).1];omega
def SP.at(P:SP)(n:Nat)(ws:lg W):SP:=(λS=>P.p S/\AtL n ws S,λS G h=>(P.st S G h.1,h.2.app G))
def Pu{α:Type}(P:SP)(m:M α)(a:α):Prop:=∀S:Store,P.p S->∃G:Store,m S=.ok a (S ++ G)
def PuX{α:Type}(P:SP)(m:M α)(c:Nat×W):Prop:=∀S:Store,P.p S->∃G:Store,m S=.exc c (S ++ G)
def PuL(P:SP)(m:M W)(ws:lg W):Prop:=∀S:Store,P.p S->∃(G:Store)(n:Nat),m S=.ok[.ref n][S ++ G]/\(S ++ G)[n]?=sr .lst[ws]/\S.length<=n
def PuN(P:SP)(b:MS)(Y Y':De):Prop:=∀S:Store,P.p S->∃G:Store,b Y S=.nx Y' (S ++ G)
def PuR(P:SP)(b:MS)(Y:De)(w:W):Prop:=∀S:Store,P.p S->∃G:Store,b Y S=.rt w (S ++ G)
def PuE(P:SP)(b:MS)(Y:De)(c:Nat×W):Prop:=∀S:Store,P.p S->∃(G:Store)(Y':De),b Y S=.ex c Y' (S ++ G)
section
variable{P:SP}{α β:Type}{m:M α}{f:α->M β}{a:α}{b:β}{c:Nat×W}{Y Y' Y1:De}{w x y z:W}{ws us:lg W}
def Cw(S:Store):(m >>= f) S=match m S with|.ok a S1=>f a S1|.exc c S1=>.exc c S1|.bad=>.bad:=rfl
def Pu.pure:Pu P (pure a:M α) a:=(λS d=>([],by rw[bQ];rfl))
def Pu.bind(h:Pu P m a)(k:Pu P f[a] b):Pu P (m >>= f) b:=(λS d=>by
 let(G,e):=h S d;let(g,e'):=k[S ++ G][P.st _ _ d];exact(G ++ g,by rw[Cw];simp_all))
def Pu.bindX(h:Pu P m a)(k:PuX P f[a] c):PuX P (m >>= f) c:=(λS d=>by
 let(G,e):=h S d;let(g,e'):=k[S ++ G][P.st _ _ d];exact(G ++ g,by rw[Cw];simp_all))
def Pu.cast{a':α}(h:Pu P m a)(e:a=a'):Pu P m a':=e ▸ h
variable{P:SP}{f g h:De->M W}{gs:De->M (lg W)}{t u:De->M Bool}{s:lg W->M W}{i:Nat}
def Ak:Pu P (kF w Y) w:=Pu.pure
def Ag(e:Y[i]?=sr sr[w]):Pu P (Aa i Y) w:=(λS d=>([],by unfold Aa;rw[e,bQ];rfl))
def Ae:Pu P nilF[Y] []:=Pu.pure
def Ab(h1:Pu P f[Y] w)(h2:Pu P gs[Y] ws):Pu P (Cu f gs Y) (w::ws):=h1.bind h2.bind[Pu.pure]
def Ad(h1:Pu P gs[Y] ws)(h2:Pu P s[ws] w):Pu P (Ds s gs Y) w:=h1.bind h2
def X4(h1:Pu P gs[Y] ws)(h2:PuX P s[ws] c):PuX P (Ds s gs Y) c:=h1.bindX h2
def Cq(h1:Pu P f[Y] x)(h2:Pu P g[Y] y)(h3:Pu P (o.fn x y) z):Pu P (Ax o f g Y) z:=h1.bind h2.bind[h3]
def Ar(h1:Pu P f[Y] x)(h2:Pu P g[Y] y)(h3:Pu P (Fo op x y) z):Pu P (Ec op f g Y) z:=h1.bind h2.bind[h3]
def Eh(h1:Pu P f[Y] .bl[t8])(h2:Pu P g[Y] w):Pu P (Il f g Y) w:=h1.bind h2
def Ak1(d:Pu P f[Y] .bl[p])(e:p=t8->Pu P g[Y] .bl[q]):Pu P (Il f g Y) .bl[p&&q]:=by
 cases p
 .exact d.bind Pu.pure
 .exact Eh d e[rfl]
def Ah(h1:Pu P f[Y] .bl[p]):Pu P (Do f Y) p:=h1.bind Pu.pure
end
section
variable{P:SP}{b b':MS}{Y Y' Y1:De}{w:W}{c:Nat×W}{f:De->M W}{t:De->M Bool}{i k n:Nat}{gs:De->M (lg W)}{ws:lg W}
def Aw:PuN P An Y Y:=(λS a=>([],by rw[bQ];rfl))
def Ak2(g:PuN P b Y Y1)(d:PuN P b' Y1 Y'):PuN P (Ai b b') Y Y':=(λS a=>by
 let(G,e):=g S a;let(h,e'):=d[S ++ G][P.st _ _ a];exact(G ++ h,by unfold Ai;simp_all))
def Dd(g:PuN P b Y Y1)(d:PuR P b' Y1 w):PuR P (Ai b b') Y w:=(λS a=>by
 let(G,e):=g S a;let(h,e'):=d[S ++ G][P.st _ _ a];exact(G ++ h,by unfold Ai;simp_all))
def Ave(g:PuN P b Y Y1)(d:PuE P b' Y1 c):PuE P (Ai b b') Y c:=(λS a=>by
 let(G,e):=g S a;let(j,h,e'):=d[S ++ G][P.st _ _ a];exact(G ++ j,h,by unfold Ai;simp_all))
def Bo(d:PuR P b Y w):PuR P (Ai b b') Y w:=(λS a=>by
 let(G,e):=d S a;exact(G,by unfold Ai;rw[e]))
def Li(d:PuE P b Y c):PuE P (Ai b b') Y c:=(λS a=>by
 let(G,g,e):=d S a;exact(G,g,by unfold Ai;rw[e]))
def Dm(h:Pu P f[Y] w):PuN P (Bx i f) Y (Y.set i sr[w]):=(λS a=>by
 let(G,e):=h S a;exact(G,by unfold Bx Gb;rw[e]))
def Bb(h:Pu P f[Y] w):PuR P retS[f] Y w:=(λS a=>by
 let(G,e):=h S a;exact(G,by unfold retS Gb;rw[e]))
def Bex(h:PuX P f[Y] c):PuE P retS[f] Y c:=(λS a=>by
 let(G,e):=h S a;exact(G,Y,by unfold retS Gb;rw[e]))
def Bey(h:PuX P f[Y] c):PuE P (Bx i f) Y c:=(λS a=>by
 let(G,e):=h S a;exact(G,Y,by unfold Bx Gb;rw[e]))
def Bou(e:t Y S=.ok t8 S1)(h:b Y S1=r):ifS t b b' Y S=r:=by unfold ifS Gb;rwa [e]
def Bra(e:t Y S=.ok t7 S1)(h:b' Y S1=r):ifS t b b' Y S=r:=by unfold ifS Gb;rwa [e]
def Avf(h:Pu P gs[Y] ws)(a:ws.length<=big):PuE P (Hr k gs) Y (u6 k .non):=(λS d=>by
 let(G,e):=h S d;exact(G,Y,by unfold Hr Gb;exact e ▸ di a))
def My(h:Pu P gs[Y] (w::a))(d:a.length+dv.length=1):PuE P (J0 k dv gs) Y (u6 k w):=(λS g=>by
 let(G,e):=h S g;exact(G,Y,by unfold J0 Gb;exact e ▸ di d))
def Bu(a:ws.length=k)(h:PuR P b (Eb n ws) w):Pu P (Cg k n b ws) w:=(λS d=>by
 let(G,e):=h S d;exact(G,by unfold Cg;rw[di a,e]))
def Nj(a:ws.length=k)(h:PuE P b (Eb n ws) c):PuX P (Cg k n b ws) c:=(λS d=>by
 let(G,g,e):=h S d;exact(G,by unfold Cg;rw[di a,e]))
def Ak3:PuN P (Sh s b []) Y Y:=(λS a=>([],by rw[bQ];rfl))
def X5(hs:s w Y=sr Y1)(g:PuN P b Y1 Y2)(d:PuN P (Sh s b ws) Y2 Y'):PuN P (Sh s b (w::ws)) Y Y':=(λS a=>by
 let(G,e):=g S a;let(j,e'):=d[S ++ G][P.st _ _ a];exact(G ++ j,by unfold Sh;simp_all))
def Ak4(g:Pu P src[Y] .fix[ws])(d:PuN P (Sh s b ws) Y Y'):PuN P (Sq src s b) Y Y':=(λS a=>by
 let(G,e):=g S a;let(h,e'):=d[S ++ G][P.st _ _ a];exact(G ++ h,by unfold Sq Gb;simp_all))
end
section
variable{P:SP}{Y:De}{cs:De}{t:De->M Bool}{e:De->M W}{f:W->W}{ws:lg W}
def Abo{b:Type}{m:M b}{a:b}(h:Pu P m a):Pu P noX[m] a:=(λS c=>by
 let(G,e):=h S c;exact(G,by unfold noX;rw[e]))
def Amp{j:Type}{c:lg j}{g i:j->W}(k:∀x,x∈c->Pu P (t (sr g[x]::cs)) t8/\Pu P (e (sr g[x]::cs)) i[x]):∀(d:o9 W)(a:lg W),a.length+c.length<=big->Pu[P][Wj El[0] t e c.map[g] (d::cs) a][a ++ c.map i]:=by
 induction c with
 |nil=>intro d a _ S _;exact([],by simp[Wj];rfl)
 |cons x c m=>
  intro d a o;rw[fD] at o;let l:=(k x aX);let q:=m (λx' n=>k x' (aR _ n)) sr[g[x]] (a ++ [i x]) (by rw[bH,eZ];omega)
  rw[cR] at q;intro S p;have:=(Abo l.1).bind (f:=λb=>if b=t8 then _ >>= λy=>if a.length < big then Wj _ t e _ _ (a ++ [y]) else bad else Wj El[0] t e c.map[g] (sr g[x]::cs) a) (b:=a ++ _) (by
   apply (Abo l.2).bind;rw[di ()]
   omega)
  exact this S p
end
section
variable{P:SP}{Y:De}{t u:De->M Bool}{f g h:De->M W}{p q:Bool}{i j:Int}{x y z:t6}{w v o:W}{ws:lg W}{k:Nat}
def Br(h1:Pu P t[Y] p):Pu[P][Jd t Y][!p]:=h1.bind Pu.pure
def Es(a:Pu P t[Y] p)(b:Pu P u[Y] q):Pu[P][orT t u Y][p||q]:=(a.bind (by
 cases p
 .trivial
 .exact Pu.pure))
def Ast(a:Pu P t[Y] p)(b:Pu P u[Y] q):Pu[P][Aku t u Y][p&&q]:=(a.bind (by
 cases p
 .exact Pu.pure
 trivial))
def X6(h1:Pu P f[Y] .bl[p])(h2:Pu P g[Y] .bl[q]):Pu P (Il f g Y) .bl[p&&q]:=Ak1 h1 λuw=>h2
def X7:Pu P (Fo .Lt .int[i] .int[j]) .bl[decide[i < j]]:=Pu.pure
def Te:Pu P (Fo .LtE .int[i] .int[j]) .bl[decide[i<=j]]:=Pu.pure
def Rj:Pu P (Fo .Gt .int[i] .int[j]) .bl[decide[j < i]]:=Pu.pure
def Mg:Pu P (Bop.fn .add .int[i] .int[j]) .int[i+j]:=Pu.pure
def Aee:Pu P (Bop.fn .sub .int[i] .int[j]) .int[i - j]:=Pu.pure
def Lj{b:Type}[Decidable c]{m n:M b}{a:b}(d:c)(h:Pu P m a):Pu P (if c then m else n) a:=by simp_all
def Gi(hl:x.length+y.length<=big):Pu P (Bop.fn .add .str[x] .str[y]) .str[x ++ y]:=Lj hl Pu.pure
def Aef(hs:(small i||small j)=t8):Pu P (Bop.fn .mul .int[i] .int[j]) .int[i * j]:=Lj hs Pu.pure
def Ap8(hj:0<=j):Pu P (Bop.fn .shr .int[i] .int[j]) .int[i / 2 ^ j.toNat]:=Lj hj Pu.pure
def Azj(hj:0 < j):Pu P (Bop.fn .mod .int[i] .int[j]) .int[i % j]:=Lj hj Pu.pure
def Azk(b:k<=big):Kh [.int (k:Int)]=pure .fix[(fO k).map λ(k:Nat)=>W.int[(0:Int)+(k:Int)]]:=by
 unfold Kh;dsimp only;rw[di (by
   let h:(k:Int)<=1000000:=Int.ofNat_le.mpr b;let d:(0:Int)<=k:=wA k;let e:(2:Int) ^ 62=4611686018427387904:=rfl;rw[e];omega),fX]
def Qy(c:Pu P gs[Y] [.int (k:Int)])(b:k<=big):Pu P (Rr Kh gs Y) .fix[(fO k).map λ(k:Nat)=>W.int[(0:Int)+(k:Int)]]:=by
 apply Pu.bind c;exact(Azk b) ▸ Pu.pure
def Pn:Pu P (Fo .Eq .int[i] .int[j]) .bl[i==j]:=(λS a=>([],by rw[bQ];rfl))
def Du(hx:uA x=t8)(hy:uA y=t8):Pu P (Fo .Eq .str[x] .str[y]) .bl[x==y]:=Pu.pure
def Fy:Pu P (Fo .Eq .str[x] .str[y]) .bl[x==y]:=Pu.pure
def Ap9:Pu P (Fo .NotEq .str[x] .str[y]) .bl[!(x==y)]:=Pu.pure
def Azl:Pu P (Fo .Lt .str[x] .str[y]) .bl[Kg x y]:=Pu.pure
def Tf{b a:vQ}{x y u:W}(m:Pu P f[Y] x)(l:Pu P g[Y] y)(e:Pu P (Fo b x y) .bl[p])(d:Pu P h[Y] u)(c:Pu P (Fo a y u) .bl[q]):Pu P (Qv b a f g h Y) .bl[p&&q]:=by
 refine m.bind l.bind[e.bind[?_]];cases p
 .exact Pu.pure
 .exact d.bind c
def Dj(h1:Pu P f[Y] o)(h2:Pu P g[Y] v)(h3:Pu P (ixW o v) w):Pu P (ixF f g Y) w:=h1.bind h2.bind[h3]
end
section
variable{P:SP}{b b':MS}{Y Y':De}{w:W}{c:Nat×W}{t:De->M Bool}{p:Bool}
def Et(f:Pu P t[Y] p)(hp:p=t7)(d:PuN P b' Y Y'):PuN P (ifS t b b') Y Y':=by
  intro S a;let(G,e):=(hp ▸ f) S a;let(g,e'):=d[S ++ G][P.st _ _ a];exact(G ++ g,Bra e (by simp_all))
def Wf(f:Pu P t[Y] p)(hp:p=t8)(d:PuR P b Y w):PuR P (ifS t b b') Y w:=by
  intro S a;let(G,e):=(hp ▸ f) S a;let(g,e'):=d[S ++ G][P.st _ _ a];exact(G ++ g,Bou e (by simp_all))
def Avg(f:Pu P t[Y] p)(hp:p=t8)(d:PuE P b Y c):PuE P (ifS t b b') Y c:=by
  intro S a;let(G,e):=(hp ▸ f) S a;let(h,g,e'):=d[S ++ G][P.st _ _ a];exact(G ++ h,g,Bou e (by simp_all))
end
section
variable{P:SP}{Y cs:De}{f:De->M W}{ws:lg W}{w:W}{op:lg W->M W}{mop:W->lg W->M W}{z:t6}
def Asu(h:Pu P m ws)(a:ws.length<=big):PuL P (m >>= Dg) ws:=(λS b=>by
 let(G,e):=h S b;refine(G ++ [.lst ws],(S ++ G).length,?_,?_,())
 .rw[Cw,e];dsimp only;unfold Dg;rw[di a,cR]
 .rw[<-cR,bG aN[_],gF];rfl)
def Ani{b:Type}{m:M b}{a:b}{g:b->M W}(h:Pu P m a)(k:PuL P g[a] ws):PuL P (m >>= g) ws:=(λS c=>by
 let(G,e):=h S c;let(d,n,e',i,hf):=k[S ++ G][P.st _ _ c];exact(G ++ d,n,by rw[Cw];simp_all,by rw[<-cR];omega,by rw[bH] at hf;omega))
def Hf{b:Type}{xs:lg b}{φ ψ:b->W}{cap:lg Nat}(g:Pu P src[Y] .fix[xs.map[φ]])(d:W7 1 cap Y=sy::cs)(i:xs.length<=big)(c:∀x,x∈xs->Pu P (t (sr φ[x]::cs)) t8/\Pu P (e (sr φ[x]::cs)) ψ[x]):PuL P (Gd 1 cap src El[0] t e Y) xs.map[ψ]:=by
 apply Ani g;rw[d];refine Asu ?_ (by simp_all)
 have:=Amp c sy [] (by simp_all)
 trivial
def Ak5(h:PuL P f[Y] ws)(a:∀(n:Nat)(S:Store),S[n]?=sr .lst[ws]->∃G,op [.ref n] S=.ok w (S ++ G)):Pu P Ds[op][Cu f nilF][Y] w:=(λS c=>by
 let(G,n,e,b,_):=h S c;let(g,e'):=a n _ b;refine(G ++ g,?_);unfold Ds Cu;rw[Cw,Cw,e];show op ..=_;simp_all)
theorem Asv:∀bs:lg Bool,Dq Bjr bs.map[W.bl]=sr bs
 |[]=>rfl
 |b::bs=>by rw[cJ,Dq,Asv bs];rfl
theorem Anj:∀bs:lg Int,Dq asInt bs.map[W.int]=sr bs
 |[]=>rfl
 |b::bs=>by rw[cJ,Dq,Anj bs];rfl
theorem Afu:∀bs:lg t6,Dq Amx bs.map[W.str]=sr bs
 |[]=>rfl
 |b::bs=>by rw[cJ,Dq,Afu bs];rfl
def Ti{bs:lg Bool}(h:PuL P f[Y] bs.map[W.bl]):Pu P Ds[Afe][Cu f nilF][Y] .bl[bs.all[id]]:=(Ak5 h λn S e=>([],by
 simp[Afe,e,Asv]))
def Bk7{is:lg Int}(h:PuL P f[Y] is.map[W.int]):Pu P Ds[Au0][Cu f nilF][Y] .int[is.sum]:=(Ak5 h λn S e=>([],by
 simp[Au0,e,Anj]))
def Bez(h:PuL P f[Y] a.map[W.str])(c:(a.map (·.length)).sum+a.length * z.length<=big):Pu P (Jc .str Ss kF[.str[z]] (Cu f nilF) Y) .str[aAo z a]:=(λS d=>by
 let(G,n,e,b,_):=h S d;refine(G,?_);let i:Cu f nilF Y S=.ok [.ref n] (S ++ G):=by unfold Cu;rw[Cw,e];rfl
 let g:Jc .str Ss kF[.str[z]] _ Y S=(Cu f nilF Y >>= _) S:=rfl;rw[g,Cw,i];simp only[Ss,b,Afu];exact di c)
def Ak6(hz:z.length<=big)(h:Pu P f[Y] .str[z]):Pu P (Hc f Y) .fix[chars[z]]:=h.bind[Lj hz Pu.pure]
def Nk(h:Pu P f[Y] .tup[ws]):Pu P (Hc f Y) .fix[ws]:=h.bind Pu.pure
end
structure Ahn{β:Type}(s:Tg)(xs:List β)(φ:β->W)(Kd:De->Prop)(dx:β->De):Prop where
 set:∀x,x∈xs->∀Y,Kd Y->s (φ x) Y=sr (dx x)
 kd:∀x,x∈xs->Kd (dx x)
def Azm(P:SP){β:Type}(t:De->M Bool)(e:De->M W)(xs:lg β)(dx:β->De)(τ:β->Bool)(ψ:β->W):Prop:=∀x,x∈xs->Pu P t[dx[x]] τ[x]/\(τ x=t8->Pu P e[dx[x]] ψ[x])
section
variable{β:Type}{xs:lg β}{φ ψ:β->W}{dx:β->De}{τ:β->Bool}
theorem Be0:Ahn El[0] xs φ (λY=>∃d,Y=d::a) (λx=>sr φ[x]::a):=(λx _ Y ⟨d,h⟩=>by subst h;rfl,λx b=>(_,rfl))
theorem Aqa{a b:β->W}:Ahn Ads[[0,1]] xs (λx=>.tup [a x,b x]) (λY=>∃d c,Y=d::c::e) (λx=>sr a[x]::sr b[x]::e):=(λx _ Y ⟨d,c,h⟩=>by subst h;rfl,λx f=>(_,_,rfl))
def Ahn.tail{x:β}(h:Ahn s (x::xs) φ Kd dx):Ahn s xs φ Kd dx:=(λy hy=>h.set y (aR _ hy),λy hy=>h.kd y (aR _ hy))
def Avh{x:β}:a ++ ([x].filter τ).map ψ ++ (xs.filter τ).map ψ=a ++ ((x::xs).filter τ).map ψ:=by
 cases b:τ x <;> simp[b]
def Azn{x:β}:(acc ++ ([x].filter τ).map ψ).length<=acc.length+1:=by
 cases a:τ x <;> simp[a]
def Ak7(hs:Ahn s xs φ Kd dx)(d:Azm P t e xs dx τ ψ):∀(Y:De)(acc:lg W),Kd Y->acc.length+xs.length<=big->Pu[P][Wj s t e xs.map[φ] Y acc][acc ++ (xs.filter τ).map ψ]:=by
 induction xs with
 |nil=>intro Y acc _ _;simpa [Wj,K3] using (Pu.pure (a:=acc))
 |cons x xs g=>
  intro Y acc hd j;rw[fD] at j;let c:=d x aX;let b:=g hs.tail (λy h=>d y (aR _ h)) dx[x] (acc ++ ([x].filter τ).map ψ) (hs.kd x aX) (by have:=Azn (τ:=τ) (ψ:=ψ) (x:=x) (acc:=acc);omega)
  rw[Avh] at b;rw[cJ];unfold Wj K3;rw[hs.set x aX Y hd];apply (Abo c.1).bind;cases i:τ x with
  |false=>
   rw[dm cV];have:acc ++ ([x].filter τ).map ψ=acc:=by simp_all
   rw[this] at b;exact b
  |true=>
   rw[di rfl];apply (Abo c.2[i]).bind;rw[di ()]
   have:acc ++ ([x].filter τ).map ψ=acc ++ [ψ x]:=by simp_all
   rw[this] at b;exact b
def Afv{gt:Store->Nat->o9 o9[W]}(hs:Ahn s xs φ Kd dx)(r:Azm P t e xs dx τ ψ):∀(m i:Nat)(Y:De)(a:lg W)(S:Store),(∀(G:Store)(j:Nat),gt (S ++ G) j=sr[xs[j]?.map φ])->P.p S->xs.length+1<=i+m->i<=xs.length->Kd Y->a.length+(xs.length - i)<=big->
  ∃G,Jk s t e gt m i Y a S=.ok[a ++ ((xs.drop i).filter τ).map ψ][S ++ G]:=by
 intro m;induction m with
 |zero=>intro i Y a S l d hi y hd w;omega
 |succ m q=>
  intro i Y a S l d hi y hd w;unfold Jk;let b:=l [] i;rw[bQ] at b;by_cases h:i < xs.length
  .let n:gt S i=sr sr[φ[getElem[xs][i][by get_elem_tactic]]]:=by rw[b,aV h];rfl
   simp only[n];let c:(getElem[xs][i][by get_elem_tactic])∈xs:=lH h;rw[hs.set _ c Y hd];dsimp only;let x:a.length < big:=by omega
   let(g,A):=Abo (r _ c).1 S d;rw[Cw,A];dsimp only;let dr:xs.drop i=(getElem[xs][i][by get_elem_tactic])::xs.drop[i+1]:=(gH h);cases k:τ getElem[xs][i][by get_elem_tactic] with
   |false=>
    rw[dm cV];let(G,o):=q (i+1) dx[getElem[xs][i][by get_elem_tactic]] a (S ++ g) (λG j=>by rw[cR];exact l _ j) (P.st _ _ d) () () (hs.kd _ c) ()
    refine(g ++ G,?_);rw[o,dr,yN,k,cR];rfl
   |true=>
    rw[di rfl];let(v,o):=Abo[(r _ c).2 k][S ++ g][P.st _ _ d];rw[Cw,o];dsimp only;rw[di x];let(G,z):=q (i+1) dx[getElem[xs][i][by get_elem_tactic]] (a ++ [ψ getElem[xs][i][by get_elem_tactic]]) (S ++ g ++ v) (λG j=>by simp_all) P.st[_][_][P.st _ _ d] () () (hs.kd _ c) (by grind)
    refine(g ++ (v ++ G),?_);rw[z,dr,yN,k];simp[cR]
  .let n:gt S i=sr sy:=by rw[b,gO ()];rfl
   simp only[n];refine([],?_);rw[iH ()]
   simp
end
section
variable{β:Type}{xs:lg β}{φ ψ:β->W}{dx:β->De}{τ:β->Bool}{k:Nat}{cap:lg Nat}{n:Nat}
def Azo(h:m S=.ok a (S ++ G))(c:a.length<=big):∃(b:Store)(n:Nat),(m >>= Dg) S=.ok[.ref n][S ++ b]/\AtL n a (S ++ b)/\S.length<=n:=by
 refine(G ++ [.lst a],(S ++ G).length,?_,?_,())
 .rw[Cw,h];dsimp only;unfold Dg;rw[di c,cR]
 .unfold AtL;rw[<-cR,bG aN[_],gF];rfl
def Asw(d:Pu P src[Y] .fix[xs.map[φ]])(hs:Ahn s xs φ Kd dx)(c:Azm P t e xs dx τ ψ)(b:Kd[W7 k cap Y])(a:xs.length<=big):PuL[P][Gd k cap src s t e Y][(xs.filter τ).map ψ]:=by
 apply Ani d;refine Asu ?_ (by rw[aJ];exact aD (pF ..) a)
 have:=Ak7 hs c _ [] b (by simp_all)
 trivial
def Be1(l:∀S,P.p S->AtL n xs.map[φ] S)(i:Pu P src[Y] .liv[n])(hs:Ahn s xs φ Kd dx)(h:Azm P t e xs dx τ ψ)(g:Kd[W7 k cap Y])(f:xs.length<=big):PuL[P][Gd k cap src s t e Y][(xs.filter τ).map ψ]:=(λS b=>by
 let(G,o):=i S b;let a:=(l S b).app G;let(v,d):=Afv (gt:=liG n) hs h (xs.length+1) 0 _ [] _ (λc j=>by
  let z:(S ++ G ++ c)[n]?=_:=a.app c;unfold liG;rw[z];exact congrArg sr bK) (P.st _ _ b) () () g (by simp_all)
 rw[nZ,uU] at d;let(c,n',m,u,r):=Azo d (by rw[aJ];exact aD (pF ..) f)
 refine(_,n',?_,by rwa [<-cR],by grind)
 unfold Gd;rw[Cw,o];dsimp only;rw[a];dsimp only;rw[aJ,m,cR])
def Be2(r:∀S,P.p S->∃G n m,src Y S=.ok[.zl n m][S ++ G]/\AtL n us (S ++ G)/\AtL m vs (S ++ G))(i:∀j:Nat,xs[j]?.map φ=match us[j]?,vs[j]? with|some a,sr b=>sr .tup[[a,b]]|_,_=>sy)(hu:xs.length<=us.length)(hs:Ahn s xs φ Kd dx)(o:Azm P t e xs dx τ ψ)(l:Kd[W7 k cap Y])(d:xs.length<=big):PuL[P][Gd k cap src s t e Y][(xs.filter τ).map ψ]:=(λS f=>by
 let(G,n,m,v,h,w):=r S f;let(A,g):=Afv (gt:=zlG n m) hs o (us.length+1) 0 (W7 k cap Y) [] (S ++ G) (λc j=>by
  let b1:=h.app c;let b2:=w.app c;unfold zlG;rw[b1,b2];dsimp only;rw[i j];cases us[j]? <;> cases vs[j]? <;> rfl) (P.st _ _ f) () () l (by simpa using d)
 rw[nZ,uU] at g;let(c,n',u,z,q):=Azo g (by rw[aJ];exact aD (pF ..) d)
 refine(G ++ c,n',?_,by rwa [<-cR],by rw[bH] at q;omega)
 unfold Gd;rw[Cw,v];dsimp only;rw[h];dsimp only;rw[u,cR])
end
section
variable{i k n:Nat}
def Be3(c:∀S,P.p S->AtL n d S)(h:Pu P f[Y] .ref[n]):Pu P (Hc f Y) .liv[n]:=(λS b=>by
 let(G,e):=h S b;refine(G,?_);let a:=(c S b).app G;unfold AtL at a;unfold Hc;rw[Cw,e];show (match (S ++ G)[n]? with|some (.lst _)=>R.ok[Src.liv n][S ++ G]|_=>.bad)=_
 rw[a])
end
def Wm{α:Type}(m:M α)(S:Store)(Q:α->Store->Prop):Prop:=∃(a:α)(S':Store),m S=.ok a S'/\Q a S'
structure Wb(b:MS)(Y:De)(S:Store)(K:RS->Prop):Prop where
 un:K (b Y S)
structure Fr(L:List Nat)(S S':Store):Prop where
 len:S.length<=S'.length
 get:∀i,i < S.length->i∉L->S'[i]?=S[i]?
section
variable{L L':lg Nat}{S S1 S2 G:Store}{i n:Nat}{c:Cell}
theorem Fr.app:Fr [] S (S ++ G):=((),λi hi a=>bD hi)
theorem Fr.set:Fr [n] S (S.set n c):=((),λi a hi=>cW[λe=>hi[by exact e ▸ aM.mpr rfl]])
theorem Fr.trans(a:Fr L S S1)(d:Fr L' S1 S2)(f:∀i∈L',i∈L\/S.length<=i):Fr L S S2:=(aD a.len d.len,λi hi b=>by
 rw[d.get[i][aQ hi a.len][λe=>(f i e).elim b (λz=>absurd hi aDr.mpr[z])],a.get i hi b])
def Fr.then0(b:Fr L S S1)(a:Fr [] S1 S2):Fr L S S2:=(b.trans a λd h=>(nomatch h))
def Fr.same(h1:Fr L S S1)(h2:Fr L S1 S2):Fr L S S2:=h1.trans h2 λuw h=>.inl h
def Fr.mono(h:Fr L S S1)(hL:∀i∈L,i∈L'):Fr L' S S1:=(h.len,λi hi hn=>h.get i hi (λz=>hn[hL i z]))
def Fr.of0(h:Fr [] S S1):Fr L S S1:=(h.mono λa h=>(nomatch h))
def Fr.at(h:Fr L S S1)(e:S[i]?=sr c)(hi:i∉L):S1[i]?=sr c:=(h.get i (aK.mp e).1 hi).trans e
def Fr.at0(h:Fr [] S S1)(e:S[i]?=sr c):S1[i]?=sr c:=(h.at e (λz=>nomatch z))
def Fr.at1(h:Fr [n] S S1)(e:S[i]?=sr c)(hi:i≠n):S1[i]?=sr c:=h.at e (λz=>hi aM.mp[z])
def Bk(e:S[i]?=sr c):i < S.length:=(aK.mp e).1
def Ak8(h:i < S.length):(S.set i c)[i]?=sr c:=dH h
end
section
variable{α β:Type}{m:M α}{f:α->M β}{a:α}{S:Store}{Q Q2:α->Store->Prop}{Q':β->Store->Prop}{P:SP}{Y:De}{ws us:lg W}
def Az(h:Wm m S λa d=>Wm f[a] d Q'):Wm (m >>= f) S Q':=by
 let(a,i,e,b,c,g,q):=h;exact(b,c,by rw[Cw,e];omega,q)
def Df(q:Q a S):Wm pure[a] S Q:=(a,S,rfl,q)
def Tj(h:Pu P m a)(c:P.p S)(k:∀b,Fr [] S b->Q a b):Wm m S Q:=by
 let(G,e):=h S c;exact(a,_,e,k _ .app)
def Ce(h:Pu SP.any m a)(k:∀S',Fr [] S S'->Q a S'):Wm m S Q:=Tj h trivial k
def Bd(h:Wm m S Q)(k:∀a b,Q a b->Q2 a b):Wm m S Q2:=by
 let(a,b,e,q):=h;exact(a,b,e,k a b q)
def Azp{m:M W}{Q:W->Store->Prop}(h:PuL P m ws)(d:P.p S)(k:∀n b,Fr [] S b->b[n]?=sr .lst[ws]->S.length<=n->Q .ref[n] b):Wm m S Q:=by
 let(G,n,e,c,hf):=h S d;exact(_,_,e,k n _ .app c hf)
def Ak9(h:Wm m S Q):Wm noX[m] S Q:=by
 let(a,b,e,q):=h;exact(a,b,by unfold noX;rw[e],q)
def Fd{s:lg W->M W}{gs:De->M lg[W]}{Q:W->Store->Prop}(h:Wm gs[Y] S λws S'=>Wm s[ws] S' Q):Wm (Ds s gs Y) S Q:=Az h
def Bh{g:De->M W}{d:De->M lg[W]}{Q:lg W->Store->Prop}(h:Wm g[Y] S λw i=>Wm d[Y] i λws e=>Q (w::ws) e):Wm (Cu g d Y) S Q:=(
 Az[Bd h λc c h=>Az[Bd h λc c q=>Df q]])
def Cm{Q:lg W->Store->Prop}(q:Q [] S):Wm nilF[Y] S Q:=Df q
theorem Cv{i:Nat}{w:W}{Q:W->Store->Prop}(e:Y[i]?=sr sr[w])(q:Q w S):Wm (Aa i Y) S Q:=(w,S,by unfold Aa;rw[e];rfl,q)
def Nb{w:W}{Q:W->Store->Prop}(q:Q w S):Wm (kF w Y) S Q:=Df q
def Afw{o:Bop}{f g:De->M W}{Q:W->Store->Prop}(h:Wm f[Y] S λx S1=>Wm g[Y] S1 λy S2=>Wm (o.fn x y) S2 Q):Wm (Ax o f g Y) S Q:=Az[Bd h λuw uw h=>Az h]
def Qz{o:vQ}{f g:De->M W}{Q:W->Store->Prop}(h:Wm f[Y] S λx S1=>Wm g[Y] S1 λy S2=>Wm (Fo o x y) S2 Q):Wm (Ec o f g Y) S Q:=Az[Bd h λuw uw h=>Az h]
def Bhx{f g:De->M W}{Q:W->Store->Prop}(h:Wm f[Y] S λx S1=>Wm g[Y] S1 λy S2=>Wm (ixW x y) S2 Q):Wm (ixF f g Y) S Q:=Az[Bd h λuw uw h=>Az h]
def Asx{f:De->M W}{Q:Bool->Store->Prop}{p:Bool}(h:Wm f[Y] S λx c=>x=.bl p/\Q p c):Wm (Do f Y) S Q:=(Az (Bd h λ_ _ ⟨e,q⟩=>by subst e;exact Df q))
def Eg{b:De->M lg[W]}{Q:W->Store->Prop}(h:Wm b[Y] S λws c=>ws.length<=big/\Q .tup[ws] c):Wm (Gu b Y) S Q:=(Az[Bd h λws c ⟨hl,q⟩=>(_,_,by unfold Axs;rw[di hl];rfl,q)])
theorem Vw{Q:W->Store->Prop}(b:ws.length<=big)(q:Q[.ref S.length][S ++ [.lst ws]]):Wm Dg[ws] S Q:=(_,_,by unfold Dg;simp_all,q)
def Je:(S ++ [c])[S.length]?=sr c:=by rw[bG aN[_],gF];rfl
theorem Fe{n:Nat}{i:Int}{w:W}{Q:W->Store->Prop}(b:S[n]?=sr .lst[ws])(hi:atI ws i=sr w)(q:Q w S):Wm (ixW .ref[n] .int[i]) S Q:=(w,S,by
 unfold ixW;dsimp only;rw[b];dsimp only;rw[hi];rfl,q)
theorem Asy{n:Nat}{Q:W->Store->Prop}(c:S[n]?=sr .lst[ws])(q:Q .int[ws.length] S):Wm Ex[[.ref n]] S Q:=(_,S,by
 unfold Ex;simp_all,q)
theorem Avi{n:Nat}{Q:W->Store->Prop}(c:S[n]?=sr .lst[ws])(q:Q .tup[ws] S):Wm Sg[[.ref n]] S Q:=(_,S,by
 unfold Sg;simp_all,q)
theorem Avj{n:Nat}{w:W}{Q:W->Store->Prop}(b:S[n]?=sr .lst[ws])(d:ws.length < big)(q:Q .non (S.set n .lst[ws ++ [w]])):Wm (Gg .ref[n] [w]) S Q:=(_,_,by
 unfold Gg Ar0 putL;dsimp only;rw[b];dsimp only;rw[di (by rw[bH,eZ];omega)],q)
theorem Be4{a b:Nat}{ws us:lg W}{Q:W->Store->Prop}(h:S[a]?=sr .lst[ws])(g:S[b]?=sr .lst[us])(e:ws.length+us.length<=big)(q:Q[.ref S.length][S ++ [.lst[ws ++ us]]]):Wm (Bop.fn .add .ref[a] .ref[b]) S Q:=(_,_,by
 show addW .ref[a] .ref[b] S=_;unfold addW;simp_all,q)
end
section
variable{b b' b2:MS}{Y Y':De}{S:Store}{K:RS->Prop}{f:De->M W}{t:De->M Bool}{i k n:Nat}{P:SP}{ws:lg W}{p:Bool}
def Qd(b':MS)(K:RS->Prop):RS->Prop
 |.nx Y1 S1=>Wb b' Y1 S1 K
 |r=>K r
def Jf(h:Wb b Y S (Qd b' K)):Wb (Ai b b') Y S K:=(⟨by
 let h:=h.un;unfold Ai;revert h;cases b Y S with
 |nx a c=>exact λh=>h.un
 |_=>exact λh=>h⟩)
def Hy{c:Type}{m:M c}{k:c->MS}(h:Wm m S λa d=>K[k a Y d]):K[Gb m k Y S]:=by
 let(a,d,e,q):=h;unfold Gb;simp_all
def Ef(h:Wm f[Y] S λw S'=>Wb b' (Y.set i sr[w]) S' K):Wb Ai[Bx i f][b'] Y S K:=Jf ⟨Hy h⟩
def X8(h:Wm f[Y] S λuw S'=>Wb b' Y S' K):Wb (Ai G9[f] b') Y S K:=Jf ⟨Hy h⟩
def Dv(h:Wm f[Y] S λw S'=>K[.rt w S']):Wb (Ai retS[f] b') Y S K:=Jf ⟨Hy h⟩
def Lb(h:K[.nx Y S]):Wb An Y S K:=⟨h⟩
def Hs(h:Wm t[Y] S λp a=>Wb (if p then b else b2) Y a (Qd b' K)):Wb Ai[ifS t b b2][b'] Y S K:=(Jf ⟨Hy (Bd h λp a q=>by cases p <;> exact q.un)⟩)
def Tn(h:Wm t[Y] S λp a=>p=t8/\Wb b Y a (Qd b' K)):Wb Ai[ifS t b b2][b'] Y S K:=(Hs (Bd h λp a ⟨e,q⟩=>by subst e;exact q))
def K8(h:Wm t[Y] S λp a=>p=t7/\Wb b' Y a K):Wb Ai[ifS t b An][b'] Y S K:=(Hs (Bd h λp a ⟨e,q⟩=>by subst e;exact⟨q⟩))
def Adv(Q:W->Store->Prop):RS->Prop
 |.rt w S'=>Q w S'
 |.nx _ S'=>Q .non S'
 |_=>False
def Dw(a:ws.length=k)(h:Wb b (Eb n ws) S Adv[Q]):Wm (Cg k n b ws) S Q:=by
 let h:=h.un;unfold Wm Cg;rw[di a];revert h;cases b _ S with
 |nx Y c=>exact λh=>(_,_,rfl,h)
 |rt w c=>exact λh=>(_,_,rfl,h)
 |bk _ _=>exact λh=>h.elim
 |ct _ _=>exact λh=>h.elim
 |ex _ _ _=>exact λh=>h.elim
 |bad=>exact λh=>h.elim
def Bhy(J:De->Store->Prop)(K:RS->Prop):RS->Prop
 |.nx Y S=>J Y S
 |.ct Y S=>J Y S
 |.bk Y S=>K (.nx Y S)
 |r=>K r
def Ala{J:Nat->De->Store->Prop}(step:∀(i:Nat)(w:W)(Y:De)(S:Store),ws[i]?=sr w->J i Y S->∃l,s w Y=sr l/\Wb b l S (Bhy J[i+1] K))(r:∀Y S,J ws.length Y S->K[.nx Y S])(y:J 0 Y S):Wb (Sh s b ws) Y S K:=by
 let o:∀(d:lg W)(i:Nat)(Y:De)(S:Store),ws.drop i=d->J i Y S->i<=ws.length->Wb (Sh s b d) Y S K:=by
  intro d;induction d with
  |nil=>
   intro i Y S hd q hi;have:i=ws.length:=by
    have:=uV.mp hd;omega
   subst this;exact⟨r Y S q⟩
  |cons w d u=>
   intro i Y S hd q hi;let c:i < ws.length:=by
    rcases xG i ws.length with h|h
    .exact h
    .rw[iH h] at hd;cases hd
   let g:=gH c;rw[hd] at g;let x:ws[i]?=sr w:=by rw[aV c,(nW g).1]
   let(l,z,a):=step i w Y S x q;let a:=a.un;refine⟨?_⟩;unfold Sh;rw[z];dsimp only;revert a;cases b l S with
   |nx j m=>exact λa=>(u (i+1) j m (nW g).2.symm a c).un
   |ct j m=>exact λa=>(u (i+1) j m (nW g).2.symm a c).un
   |bk j m=>exact λa=>a
   |rt _ _=>exact λa=>a
   |ex _ _ _=>exact λa=>a
   |bad=>exact λa=>a
 exact o ws 0 Y S rfl y cP[_]
def Aip{J:Nat->De->lg W->Store->Prop}(step:∀(i:Nat)(w:W)(Y:De)(a:lg W)(S:Store),ws[i]?=sr w->J i Y a S->∃g,s w Y=sr g/\Wm t[g] S λp o=>if p=t8 then Wm e[g] o λy x=>a.length < big/\J (i+1) g (a ++ [y]) x else J (i+1) g a o)(v:∀Y a S,J ws.length Y a S->Q a S)(E:J 0 Y a S):Wm (K3 s t e ws Y a) S Q:=by
 let q:∀(j:lg W)(i:Nat)(Y:De)(a:lg W)(S:Store),ws.drop i=j->J i Y a S->i<=ws.length->Wm (K3 s t e j Y a) S Q:=by
  intro j;induction j with
  |nil=>
   intro i Y a S hd u hi;have:i=ws.length:=by
    have:=uV.mp hd;omega
   subst this;exact Df (v Y a S u)
  |cons w j z=>
   intro i Y a S hd u hi;let d:i < ws.length:=by
    rcases xG i ws.length with h|h
    .exact h
    .rw[iH h] at hd;cases hd
   let m:=gH d;rw[hd] at m;let A:ws[i]?=sr w:=by rw[aV d,(nW m).1]
   let(g,F,C):=step i w Y a S A u;unfold K3;rw[F];dsimp only;refine Az Ak9[Bd C λp o h=>?_];cases p with
   |false=>exact z (i+1) g a o (nW m).2.symm h d
   |true=>
    refine Az[Bd h λy x ⟨hl,hJ2⟩=>?_];exact(di hl) ▸ z (i+1) g (a ++ [y]) x (nW m).2.symm hJ2 d
 exact q ws 0 Y a S rfl E cP[_]
def Azq{J:Nat->De->lg W->Store->Prop}(step:∀(i:Nat)(w:W)(Y:De)(a:lg W)(S:Store),ws[i]?=sr w->J i Y a S->∃c,s w Y=sr c/\Wm t[c] S λp j=>if p=t8 then Wm e[c] j λy u=>a.length < big/\J (i+1) c (a ++ [y]) u else J (i+1) c a j)(g:∀Y a S,J ws.length Y a S->Q a S)(q:J 0 Y a S):Wm (Wj s t e ws Y a) S Q:=(
 Aip (λi w Y a S m o=>by
  let(c,r,h):=step i w Y a S m o;refine(c,r,Bd h λp j h=>?_);cases p with
  |false=>exact h
  |true=>exact Ak9 h) g q)
theorem Abp{J:Nat->De->lg W->Store->Prop}{gt:Store->Nat->o9 o9[W]}(there:∀i Y c S,J i Y c S->gt S i=sr ws[i]?)(step:∀(i:Nat)(w:W)(Y:De)(c:lg W)(S:Store),ws[i]?=sr w->J i Y c S->∃d,s w Y=sr d/\Wm t[d] S λp m=>if p=t8 then Wm e[d] m λy u=>c.length < big/\J (i+1) d (c ++ [y]) u else J (i+1) d c m)(j:∀Y c S,J ws.length Y c S->Q c S):∀(fuel i:Nat)(Y:De)(c:lg W)(S:Store),J i Y c S->i<=ws.length->ws.length < i+fuel->Wm (Jk s t e gt fuel i Y c) S Q
 |0,i,_,_,_,_,_,_=>by omega
 |fuel+1,i,Y,c,S,r,hi,hf=>by
  show ∃a B,_;unfold Jk;rw[there i Y c S r];by_cases o:i < ws.length
  .let v:=aV o;rw[v];dsimp only;let(d,A,z):=step i getElem[ws][i][by get_elem_tactic] Y c S v r;rw[A];dsimp only;refine Az Ak9[Bd z λp m h=>?_];cases p with
   |false=>exact Abp there step j fuel (i+1) d c m h o ()
   |true=>
    refine Az Ak9[Bd h λy u ⟨hl,hJ2⟩=>?_];rw[di hl];exact Abp there step j fuel (i+1) d (c ++ [y]) u hJ2 o ()
  .have:i=ws.length:=by omega
   subst this;exact(gO aN[_]) ▸ (_,_,rfl,j Y c S r)
def Be5{k:Nat}{cap:lg Nat}(o:Pu P src[Y] .fix[ws])(l:P.p S)(m:∀c,Fr [] S c->Wm (Wj s t e ws (W7 k cap Y) []) c λa g=>a.length<=big/\Q[.ref g.length][g ++ [.lst a]]):Wm (Gd k cap src s t e Y) S Q:=(
 Az[Tj o l λc f=>Az[Bd[m c f] λ_ _ ⟨hl,q⟩=>Vw hl q]])
def Azr{k:Nat}{cap:lg Nat}(o:Pu P src[Y] .fix[ws])(l:P.p S)(m:∀c,Fr [] S c->Wm (K3 s t e ws (W7 k cap Y) []) c λa g=>a.length<=big/\Q[.ref g.length][g ++ [.lst a]]):Wm (compX k cap src s t e Y) S Q:=(
 Az[Tj o l λc f=>Az[Bd[m c f] λ_ _ ⟨hl,q⟩=>Vw hl q]])
def Azs{k d:Nat}{cap:lg Nat}(u:Pu P src[Y] .liv[d])(o:P.p S)(hd:S[d]?=sr .lst[ws])(r:∀g,Fr [] S g->Wm (Jk s t e liG[d] (ws.length+1) 0 (W7 k cap Y) []) g λc j=>c.length<=big/\Q[.ref j.length][j ++ [.lst c]]):Wm (Gd k cap src s t e Y) S Q:=by
 refine Az[Tj u o λg f=>?_];let(a,v,w,q):=Az[Bd[r g f] λ_ _ ⟨m,q⟩=>Vw m q]
 refine(a,v,?_,q);show (match g[d]? with|some (.lst ws)=>_|_=>R.bad)=_
 rw[f.at0 hd];omega
end
end D
namespace M1
open PySem PySem.Builtin.Str
def sgs:t6:="0123456789abcdefghijklmnopqrstuvwxyzABCDEFGHIJKLMNOPQRSTUVWXYZ+-"
def Azt:sgs.cps.toList=[48,49,50,51,52,53,54,55,56,57,97,98,99,100,101,102,103,104,105,106,107,108,109,110,111,112,113,114,115,116,117,118,119,120,121,122,65,66,67,68,69,70,71,72,73,74,75,76,77,78,79,80,81,82,83,84,85,86,87,88,89,90,43,45]:=by rfl
def Afx:sgs.cps.size=64:=by trivial
def Aqb:sgs.length=64:=Afx
def sg(v:Nat):Nat:=sgs.cps.getD v 0
def one(c:Nat):t6:=⟨#[c]⟩
def Afy(c:Nat):(one c).length=1:=rfl
def Aqc{v:Nat}(h:v < 64):sgs.cps.toList[v]?=sr sg[v]:=by
 let h':v < sgs.cps.size:=by rw[Afx];omega
 unfold sg;simp_all
def subAt_one{c i:Nat}(hi:i < x.cps.size)(h:subAt x one[c] i=t8):x.cps[i]?=sr c:=by
 let b:=congrArg[λa=>a[0]?][eq_of_beq h];rw[Array.getElem?_extract_of_lt (by rw[Afy];omega)] at b
 rw[rJ hi];trivial
def idx(c:Nat):Nat:=(occurrences sgs one[c] 0 sgs.length 1).headD 0
def inS(c:Nat):Bool:=!(occurrences sgs one[c] 0 sgs.length 1).isEmpty
def Ank{c:Nat}(h:inS c=t8):∃rest,occurrences sgs one[c] 0 sgs.length 1=idx c::rest:=by
 unfold inS at h;unfold idx;cases e:occurrences sgs _ 0 sgs.length 1 with
 |nil=>simp_all
 |cons i r=>exact(r,rfl)
def Anl{c:Nat}(h:inS c=t8):idx c < 64/\sgs.cps[idx c]?=sr c:=by
 let(r,e):=Ank h;let q:=yO sgs _ 0 sgs.length 1 _ (e ▸ aX);rw[Afy,Aqb] at q;exact((),subAt_one (by rw[Afx];omega) q.2)
def Bk8{c:Nat}(h:inS c=t8):idx c < 64:=(Anl h).1
def Azu{v:Nat}(h:v < 64):inS sg[v]=t8:=by
 unfold inS one;rw[xN];exact dj dX[Aqc[h]]
def Bk9{v:Nat}(h:v < 64):idx sg[v]=v:=by
 let(j,c):=Anl Azu[h];let a:sgs.cps.toList[idx sg[v]]?=sr sg[v]:=iT ▸ c;let b:=Aqc h;let(i,e):=aK.mp a;let(g,d):=aK.mp b;exact(kZ (by
   rw[Azt];decide)).mp e.trans[d.symm]
def Ej:Nat->Int->t6
 |0,_=>⟨#[]⟩
 |k+1,n=>one sg[(n / 64 ^ k % 64).toNat] ++ Ej k n
def Avk(k:Nat)(n:Int):(Ej k n).cps.size=k:=by
 induction k with
 |zero=>rfl
 |succ k a=>
  show ((one _).cps ++ _).size=k+1;rw[xO,a];show 1+k=k+1;omega
def Azv:lg Nat->Int->Int
 |[],n=>n
 |c::r,n=>Azv r (n * 64+(idx c:Int))
def Aiq(k:Nat)(n:Int):(Ej (k+1) n).cps.toList=sg (n / 64 ^ k % 64).toNat::(Ej k n).cps.toList:=by
 show ((one _).cps ++ _).toList=_;rw[kY];rfl
def toNat_lt(n:Int):(n % 64).toNat < 64:=by omega
def Azw(n:Int){p q:Int}(hp:0 < p)(b:0 < q):n % (p * q)=(n / p % q) * p+n % p:=by
 let j:=uJ n p;let i:=uJ (n / p) q;let d:=jP[n / p][aCb b];let h:=lV (n / p) b;let c:=jP n aCb[hp];let g:=lV n hp;generalize n / p % q=r at *
 generalize n % p=t at *
 generalize n / p / q=m at *
 let f:n=(r * p+t)+(p * q) * m:=by grind
 rw[f,Int.add_mul_emod_self_left];apply xP Int.add_nonneg[aAs d aCc[hp]][c];let e:(r+1) * p<=q * p:=Int.mul_le_mul_of_nonneg_right () aCc[hp]
 rw[yS,Int.one_mul] at e;rw[aCd p q];omega
def Azx(k:Nat)(n a:Int)(_hn:0<=n):Azv (Ej k n).cps.toList a=a * 64 ^ k+n % 64 ^ k:=by
 induction k generalizing a with
 |zero=>show a=_;omega
 |succ k c=>
  rw[Aiq];show Azv (Ej k n).cps.toList _=_;rw[c,Bk9 toNat_lt[_]];let e:_=n / 64 ^ k % 64:=nO[jP _ ()]
  rw[e];let d:n % 64 ^ (k+1)=(n / 64 ^ k % 64) * 64 ^ k+n % 64 ^ k:=by
   rw[xQ];exact Azw n (Int.pow_pos ()) ()
  rw[d,xQ,yS,Int.mul_assoc,aCd 64 _];omega
def Alb{k:Nat}{n:Int}(b:0<=n)(c:n < 64 ^ k):Azv (Ej k n).cps.toList 0=n:=by
 rw[Azx k n 0 b,Int.zero_mul,uB];exact xP b c
end M1
namespace M2
open PySem PySem.Builtin.Str M1
def okC(c:Nat):Bool:=decide[32<=c]&&decide[c<=126]&&decide[c≠37]
def Dp(x:t6):Bool:=x.cps.toList.all okC
def Anm(l:lg Nat)(k:Nat):Int:=((fO k).map λ(i:Nat)=>((l.getD i 0:Nat) - 32+1:Int) * ((i:Int)+1)).sum
def chk(l:lg Nat):Int:=Anm l l.length
def Air(l:lg Nat)(k:Nat):Anm l (k+1)=Anm l k+((l.getD k 0:Nat) - 32+1:Int) * ((k:Int)+1):=by
 unfold Anm;rw[List.range_succ,dG,List.sum_append,cJ,qN,pQ,List.sum_nil];omega
def check(x:t6):t6:=Ej 2 (chk x.cps.toList % 4093)
def Asz{c:Nat}:okC c=t8 ↔ 32<=c/\c<=126/\c≠37:=by
 unfold okC;simp[and_assoc]
def As0{l:lg Nat}{a:Nat}(h:l.all okC=t8)(c:a < l.length):okC[l.getD a 0]=t8:=by
 rw[cA,aV c];exact bB.mp h _ lH[c]
def Ann{b:Type}{p:b->Bool}{a:b}{l:lg b}(f:p a=t8)(h:∃c∈a::l,p c=t7):∃c∈l,p c=t7:=by grind
theorem Abq{b:Type}(p:b->Bool):∀l:lg b,(∃c∈l,p c=t7)->(l.takeWhile p).length < l.length
 |[],h=>by simp_all
 |a::l,h=>by
  rw[qK];cases f:p a with
  |false=>simp
  |true=>
   have:=Abq p l (Ann f h);simp_all
theorem Ais{b:Type}(p:b->Bool):∀l:lg b,(∀c∈l,p c=t8)->l.takeWhile p=l
 |[],_=>rfl
 |a::l,h=>by
  rw[qK,h a .head[_],di rfl,Ais p l (λc f=>h c (.tail _ f))]
theorem Ait{b:Type}(p:b->Bool):∀l:lg b,(∃c∈l,p c=t7)->∃c∈l.drop (l.takeWhile p).length,p c=t7
 |[],h=>by trivial
 |a::l,h=>by
  rw[qK];cases f:p a with
  |false=>trivial
  |true=>
   exact Ait p l (Ann f h)
def Avl(h:∀c∈x.cps.toList,y.cps.contains c=t8):jN x y=⟨#[]⟩:=by
 let lo:stripLo y.cps.contains t8 x=x.cps.size:=by
  unfold stripLo;rw[di rfl,Ais _ _ h,bC]
 unfold jN aCv;split
 .rename_i hs;unfold stripSame at hs;rw[lo,aL] at hs;have:x.cps.size=0:=by simpa using hs.1
  cases x with|mk a=>
  exact congrArg aEh pL[this]
 .unfold stripped;exact lo ▸ congrArg aEh (pL ())
def Avm(h:∃c∈x.cps.toList,y.cps.contains c=t7):jN x y≠⟨#[]⟩:=by
 let i:x.cps.toList.length=x.cps.size:=bC;let a:stripLo y.cps.contains t8 x=(x.cps.toList.takeWhile y.cps.contains).length:=rfl;let k:=Abq _ _ h;let j:=Ait _ _ h;let f:∃c∈(x.cps.toList.drop (x.cps.toList.takeWhile y.cps.contains).length).reverse,y.cps.contains c=t7:=by simp_all
 let d:=Abq _ _ f;rw[List.length_reverse,gD] at d;intro e;let e:=congrArg (λz:t6=>z.cps.size) e;unfold jN aCv at e;split at e
 .let e:x.cps.size=0:=e;omega
 .unfold stripped at e;rw[a] at e;unfold stripHi at e;let e:(x.cps.extract (x.cps.toList.takeWhile y.cps.contains).length (x.cps.size - _)).size=0:=e;rw[Array.size_extract] at e;omega
def tsg:t6:=" !\"#$&'()*+,-./0123456789:;<=>?@ABCDEFGHIJKLMNOPQRSTUVWXYZ[\\]^_`abcdefghijklmnopqrstuvwxyz{|}~"
def Be6:∀c,c < 127->tsg.cps.contains c=okC c:=by decide +kernel
def Be7:tsg.cps.toList.all[λc=>decide[c < 127]]=t8:=by decide +kernel
def Azy(c:Nat):tsg.cps.contains c=okC c:=by
 by_cases h:c < 127
 .exact Be6 c h
 .let e:okC c=t7:=by
   unfold okC;rw[dq (p:=c<=126) (),Bool.and_false,zV]
  rw[e];cases f:tsg.cps.contains c with
  |false=>rfl
  |true=>
   let b:c∈tsg.cps.toList:=by simp_all
   exact absurd dg[bB.mp Be7 c b] h
def Aqd(z:t6):(jN z tsg==⟨#[]⟩)=Dp z:=by
 cases h:Dp z with
 |true=>
  exact(Avl (λc a=>by rw[Azy];exact bB.mp h c a)) ▸ beq_self_eq_true _
 |false=>
  rw[beq_eq_false_iff_ne];apply Avm;let(c,a,hp):=List.all_eq_false.mp h;exact(c,a,by rw[Azy];exact tK _ ▸ hp)
end M2
namespace M1
open PySem PySem.Builtin.Str
end M1
namespace M2
open PySem PySem.Builtin.Str M1
def Avn(l:lg Nat):Anm l 0=0:=rfl
theorem Ano(l:lg Nat)(a c:Nat)(h:a < l.length):∀k,Anm (l.set a c) k=Anm l k+(if a < k then ((c:Int) - (l.getD a 0:Nat)) * ((a:Int)+1) else 0)
 |0=>by simp[Avn]
 |k+1=>by
  rw[Air,Air,Ano l a c h k];by_cases e:k=a
  .subst e;let g:(l.set k c).getD k 0=c:=by simp[cA,h]
   rw[g,dm eF[k],di gV[k]];rw[show ((c:Int) - 32+1)=((l.getD k 0:Nat) - 32+1:Int)+((c:Int) - (l.getD k 0:Nat)) by omega,yS]
   omega
  .let g:(l.set a c).getD k 0=l.getD k 0:=by simp[cA,cW bN[e]]
   rw[g];by_cases f:a < k
   .rw[di f,di xF[f]];omega
   .rw[dm f,dm ()];omega
def Be8(l:lg Nat)(a c:Nat)(h:a < l.length):chk[l.set a c]=chk l+((c:Int) - (l.getD a 0:Nat)) * ((a:Int)+1):=by
 unfold chk;rw[fB,Ano l a c h,di h]
def Aho:∀p,p < 300->0 < p->Nat.Coprime 4093 p:=by decide +kernel
def Brb{d p:Nat}(hd:0 < d)(c:d < 4093)(hp:0 < p)(a:p < 300):¬ 4093 ∣ d * p:=by
 intro h;have:=xR (Aho p a hp) h;have:=Nat.le_of_dvd hd this;omega
def Be9{x y:Int}(h:¬ (4093:Int) ∣ (x - y)):x % 4093≠y % 4093:=by
 intro e;exact h[Int.dvd_of_emod_eq_zero ()]
def Aqe(l:lg Nat)(a c:Nat)(h:a < l.length)(m:a < 299)(j:l.getD a 0<=126)(k:c<=126)(ne:c≠l.getD a 0):chk (l.set a c) % 4093≠chk l % 4093:=by
 refine Be9 ?_;rw[Be8 l a c h];generalize l.getD a 0=b at *
 rw[show chk l+((c:Int) - (b:Nat)) * ((a:Int)+1) - chk l=((c:Int) - (b:Nat)) * ((a:Int)+1) by omega]
 intro hd;let g:=Int.natAbs_dvd_natAbs.mpr hd;rw[Int.natAbs_mul] at g;refine Brb (d:=((c:Int) - (b:Nat)).natAbs) (p:=((a:Int)+1).natAbs) ?_ ?_ ?_ ?_ g <;> omega
def Azz{m n:Int}(g:0<=m)(f:m < 4096)(d:0<=n)(c:n < 4096)(e:Ej 2 m=Ej 2 n):m=n:=by
 let a:=Alb (k:=2) g (by simpa using f)
 let b:=Alb (k:=2) d (by simpa using c)
 rw[<-a,<-b,e]
def Az0{x y:t6}(e:check x=check y):chk x.cps.toList % 4093=chk y.cps.toList % 4093:=by
 refine Azz ?_ ?_ ?_ ?_ e <;> omega
def Bla{l:lg Nat}{a c:Nat}(h:l.all okC=t8)(f:okC c=t8):(l.set a c).all okC=t8:=by
 rw[bB] at h ⊢
 intro x e;rcases List.mem_or_eq_of_mem_set e with q|q
 .exact h x q
 .rw[q];exact f
def set_list(l:lg Nat)(a c:Nat)(h:a < l.length):l.take a ++ [c] ++ l.drop[a+1]=l.set a c:=by
 rw[oN,di h,cR];rfl
def Blb(S:t6)(c:Nat)(h:c∈S.cps.toList):∃i rest,occurrences S ⟨#[c]⟩ 0 S.length 1=i::rest/\i < S.cps.size/\S.cps[i]?=sr c:=by
 let q:=xN S c;rw[dj h] at q;cases e:occurrences S ⟨#[c]⟩ 0 S.length 1 with
 |nil=>rw[e] at q;cases q
 |cons i r=>
  let z:=yO S ⟨#[c]⟩ 0 S.length 1 i (by rw[e];exact aX)
  let a:i+1<=S.cps.size:=z.1;exact(i,r,rfl,a,subAt_one a z.2)
end M2
namespace D
open PySem PySem.Spec PyProof.Rows L2
section
variable{α β:Type}{Y:De}{S S':Store}{n:Nat}{c:Nat}{f g e:De->M W}{gs:De->M (lg W)}{t u:De->M Bool}{Q:W->Store->Prop}{K:RS->Prop}{b b':MS}{x y v w z:W}{ws us:lg W}{k:Key}{kvs:lg (Key×W)}{fs fs':lg (t6×W)}{m nm:t6}{ok:Bool->Nat->t6->Bool}
def Jg{m:M α}{a:α}{Q:α->Store->Prop}(e:m S=.ok a S')(q:Q a S'):Wm m S Q:=(a,S',e,q)
def Alc(h:Wm f[Y] S λx S1=>Wm (Sv ok nm x) S1 Q):Wm (Gv ok nm f Y) S Q:=Az h
theorem As1(h:S[n]?=sr[.ins c fs])(d:ok t7 c nm=t8)(a:fs.lookup nm=sr w)(q:Q w S):Wm (Sv ok nm .ref[n]) S Q:=(w,S,by
 unfold Sv;dsimp only;rw[h];dsimp only;rw[di d,a];rfl,q)
def Ald{c0 c1:Cell}{P:Store->Prop}(hn:S[n]?=sr c0)(q:∀S',Fr [n] S S'->S'[n]?=sr c1->P S'):P[S.set n c1]:=q _ .set Ak8[Bk[hn]]
theorem Mh{Q:Unit->Store->Prop}(a:S[n]?=sr[.ins c fs])(h:(ok t7 c nm&&decide[fs.length < 1000])=t8)(e:Wi nm v fs=fs')(q:∀S',Fr [n] S S'->S'[n]?=sr[.ins c fs']->Q u9 S'):Wm (Ab7 ok nm .ref[n] v) S Q:=(u9,_,by
 unfold Ab7;dsimp only;rw[a];dsimp only;rw[di h,e],Ald a q)
def As2(h:Wm e[Y] S λy S1=>Wm g[Y] S1 λx S2=>Wm (Ab7 ok nm x y) S2 λuw S3=>Wb b' Y S3 K):Wb Ai[Jy ok nm g e][b'] Y S K:=Jf ⟨Hy Az[Bd h λuw uw h=>Az h]⟩
def Aqf(h:Wm e[Y] S λv S1=>Wm f[Y] S1 λx S2=>Wm g[Y] S2 λy S3=>Wm (Ab9 x y v) S3 λuw S4=>Wb b' Y S4 K):Wb Ai[Im f g e][b'] Y S K:=Jf ⟨Hy Az[Bd h λuw uw h=>Az[Bd h λuw uw h=>Az h]]⟩
theorem Nm{Q:Unit->Store->Prop}(d:S[n]?=sr .dct[kvs])(i:Abi y=sr k)(h:kvs.length < big)(q:∀S',Fr [n] S S'->S'[n]?=sr .dct[Ab8 kvs k v]->Q u9 S'):Wm (Ab9 .ref[n] y v) S Q:=(u9,_,by
 unfold Ab9;simp_all,Ald d q)
theorem Bfa{Q:Unit->Store->Prop}{i:Int}(d:S[n]?=sr .lst[ws])(j:0<=i)(hi:i < ws.length)(q:∀S',Fr [n] S S'->S'[n]?=sr .lst[ws.set i.toNat v]->Q u9 S'):Wm (Ab9 .ref[n] .int[i] v) S Q:=(u9,_,by
 unfold Ab9;simp_all,Ald d q)
def Vx(hn:S[n]?=sr .lst[ws])(hl:ws.length < big)(q:∀S',Fr [n] S S'->S'[n]?=sr .lst[ws ++ [w]]->Q .non S'):Wm (Gg .ref[n] [w]) S Q:=Avj hn hl (Ald hn q)
theorem Az1(d:S[n]?=sr .dct[kvs])(h:Abi y=sr k)(a:Akp kvs k=sr w)(q:Q w S):Wm (ixW .ref[n] y) S Q:=(w,S,by
 unfold ixW;dsimp only;rw[d,h];dsimp only;rw[a];rfl,q)
def Afz{mt:Nat->t6->o9 Fi}(h:Wm f[Y] S λx S1=>Wm (Xx mt m x) S1 λi S2=>Wm gs[Y] S2 λws S3=>Wm (Ahm i x ws) S3 Q):Wm (Bv mt m f gs Y) S Q:=Az[Bd h λuw uw h=>Az[Bd h λuw uw h=>Az h]]
theorem Lk{mt:Nat->t6->o9 Fi}{i:Fi}{Q:Fi->Store->Prop}(a:S[n]?=sr[.ins c fs])(h:fs.lookup m=sy)(d:mt c m=sr i)(q:Q i S):Wm (Xx mt m .ref[n]) S Q:=(i,S,by
 unfold Xx;dsimp only;rw[a];dsimp only;rw[h,d],q)
def Af0{g:lg W->M W}{np:Nat}{dv:lg W}(h:ws.length+1=np)(q:Wm (g (x::ws)) S Q):Wm (Ahm (g,np,dv) x ws) S Q:=by
 unfold Ahm;rw[di h];omega
def Aqg{T:Ty}{op:W->lg W->M W}(h:Wm f[Y] S λx S1=>T.is x S1=t8/\Wm gs[Y] S1 λws S2=>Wm (op x ws) S2 Q):Wm (Jc T op f gs Y) S Q:=Az[Bd h λ_ _ ⟨e,h⟩=>Az (u9,_,di e,Az h)]
def Blc(a:S[n]?=sr .dct[kvs]):Ty.is .dct .ref[n] S=t8:=by
 unfold Ty.is;dsimp only;rw[a]
def Bld(a:S[n]?=sr .lst[ws]):Ty.is .lst .ref[n] S=t8:=by
 unfold Ty.is;simp_all
def Bt(hl:ws.length<=big)(q:∀n S',Fr [] S S'->S'[n]?=sr .lst[ws]->S.length<=n->Q .ref[n] S'):Wm Dg[ws] S Q:=Vw hl (q _ _ .app Je aN[_])
def Q0(h:Wm gs[Y] S λws S1=>Wm Dg[ws] S1 Q):Wm (Dr gs Y) S Q:=Az h
def TB(Q:Bool->Store->Prop)(x:W)(S:Store):Prop:=∃p,x=.bl p/\Q p S
def tb{Q:Bool->Store->Prop}{p:Bool}(q:Q p S):TB Q .bl[p] S:=(p,rfl,q)
def Ln{Q:Bool->Store->Prop}(h:Wm f[Y] S TB[Q]):Wm (Do f Y) S Q:=(Az (Bd h λ_ _ ⟨p,e,q⟩=>by subst e;exact Df q))
def Bhz{o:Bop}{a:W}(e:o.fn x y S=.ok a S')(q:Q a S'):Wm (o.fn x y) S Q:=(a,S',e,q)
def Bh0{o:vQ}{a:W}(e:Fo o x y S=.ok a S')(q:Q a S'):Wm (Fo o x y) S Q:=(a,S',e,q)
def Az2{a:W}(e:ixW x y S=.ok a S')(q:Q a S'):Wm (ixW x y) S Q:=(a,S',e,q)
def As3{a:W}(e:Ex ws S=.ok a S')(q:Q a S'):Wm Ex[ws] S Q:=(a,S',e,q)
def Acb{c:Prop}[Decidable c]{m n:M α}{Q:α->Store->Prop}(a:c)(h:Wm m S Q):Wm (if c then m else n) S Q:=by simp_all
def Aeg{i j:Int}(h:(small i||small j)=t8)(q:Q .int[i * j] S):Wm (Bop.fn .mul .int[i] .int[j]) S Q:=Acb h Df[q]
def As4{i j:Int}(h:0 < j)(q:Q .int[i % j] S):Wm (Bop.fn .mod .int[i] .int[j]) S Q:=Acb h Df[q]
def Anp{i j:Int}(h:0 < j)(a:j < 1073741824)(q:Q .int[i / j] S):Wm (Bop.fn .fdiv .int[i] .int[j]) S Q:=(Acb (by rw[dj h,dj a];rfl) Df[q])
def Vy{x y:t6}(h:x.length+y.length<=big)(q:Q .str[x ++ y] S):Wm (Bop.fn .add .str[x] .str[y]) S Q:=Acb h Df[q]
def Ale{x:t6}(h:x.length<=big)(q:Q .int[x.length] S):Wm Ex[[.str x]] S Q:=Acb h Df[q]
def Az3{i j:Int}(q:Q .bl[decide[i < j]] S):Wm (Fo .Lt .int[i] .int[j]) S Q:=(_,S,rfl,q)
def Az4{i j:Int}(q:Q .bl[decide[i<=j]] S):Wm (Fo .LtE .int[i] .int[j]) S Q:=(_,S,rfl,q)
def Az5{i j:Int}(q:Q .bl[decide[j < i]] S):Wm (Fo .Gt .int[i] .int[j]) S Q:=(_,S,rfl,q)
def Az6{i j:Int}(q:Q .bl[decide[j<=i]] S):Wm (Fo .GtE .int[i] .int[j]) S Q:=(_,S,rfl,q)
def Aqh{i j:Int}(q:Q .bl[decide[i=j]] S):Wm (Fo .Eq .int[i] .int[j]) S Q:=(_,S,rfl,q)
def Az7{i j:Int}(q:Q .bl[!decide (i=j)] S):Wm (Fo .NotEq .int[i] .int[j]) S Q:=(_,S,rfl,q)
def Cj(h:Wb b' Y S K):Wb An Y S (Qd b' K):=⟨h⟩
def Ht{c:Prop}[Decidable c]{b2:MS}(d:c->Wb b Y S K)(a:¬ c->Wb b2 Y S K):Wb (if decide c=t8 then b else b2) Y S K:=by
 by_cases h:c
 .rw[dj h];exact d h
 .rw[dq h];exact a h
def Vz{Q:Bool->Store->Prop}(h:Wm t[Y] S λp S1=>Q (!p) S1):Wm (Jd t Y) S Q:=Az[Bd h λuw uw q=>Df q]
def Bfb{Q:Bool->Store->Prop}(h:Wm t[Y] S λp d=>p=t7/\Wm u[Y] d Q):Wm (orT t u Y) S Q:=(Az (Bd h λ_ _ ⟨e,q⟩=>by subst e;exact q))
def As5{Q:Bool->Store->Prop}(h:Wm t[Y] S λp d=>p=t8/\Q t8 d):Wm (orT t u Y) S Q:=(Az (Bd h λ_ _ ⟨e,q⟩=>by subst e;exact Df q))
theorem As6(a:S[n]?=sr .dct[kvs])(q:Q .int[kvs.length] S):Wm Ex[[.ref n]] S Q:=(_,S,by
 unfold Ex;simp_all,q)
def Alf(i:S[n]?=sr .lst[ws])(d:ws.length<=big)(q:∀n S',Fr [] S S'->S'[n]?=sr .lst[ws]->S.length<=n->Q .ref[n] S'):Wm Xr[[.ref n]] S Q:=by
 let(a,h,e,z):=Bt d q;refine(a,h,?_,z);unfold Xr;simp_all
def Alh{xs ys:lg W}(h:xs.length+ys.length<=big)(q:Q .tup[xs ++ ys] S):Wm (Bop.fn .add .tup[xs] .tup[ys]) S Q:=Acb h Df[q]
theorem Aaa{s:Tg}{gt:Store->Nat->o9 o9[W]}{J:Nat->De->Store->Prop}(there:∀i Y S,J i Y S->gt S i=sr ws[i]?)(step:∀(i:Nat)(w:W)(Y:De)(S:Store),ws[i]?=sr w->J i Y S->∃l,s w Y=sr l/\Wb b l S (Bhy J[i+1] K))(d:∀Y S,J ws.length Y S->K[.nx Y S]):∀(fuel i:Nat)(Y:De)(S:Store),J i Y S->i<=ws.length->ws.length < i+fuel->Wb (Akr s b gt fuel i) Y S K
 |0,i,_,_,_,_,_=>by omega
 |fuel+1,i,Y,S,q,hi,hf=>by
  refine⟨?_⟩;unfold Akr;rw[there i Y S q];by_cases p:i < ws.length
  .let r:=aV p;let(l,A,a):=step i getElem[ws][i][by get_elem_tactic] Y S r q;rw[r];dsimp only;rw[A];dsimp only;let a:=a.un;revert a;cases b l S with
   |nx j o=>exact λa=>(Aaa there step d fuel (i+1) j o a p ()).un
   |ct j o=>exact λa=>(Aaa there step d fuel (i+1) j o a p ()).un
   |bk j o=>exact λa=>a
   |rt _ _=>exact λa=>a
   |ex _ _ _=>exact λa=>a
   |bad=>exact λa=>a
  .obtain rfl:i=ws.length:=by omega
   exact(gO aN[_]) ▸ d Y S q
def As7{s:Tg}(h:Wm f[Y] S λx a=>∃n ws,x=.ref n/\a[n]?=sr .lst[ws]/\Wb (Akr s b liG[n] (ws.length+1) 0) Y a (Qd b' K)):Wb Ai[Sq Hc[f] s b][b'] Y S K:=by
 refine Jf ⟨Hy Az[Bd h λx a ⟨n,ws,e,hn,hb⟩=>?_]⟩;refine(.liv n,a,?_,?_)
 .unfold Ax8;simp_all
 .show Qd b' K (match a[n]? with|some (.lst ws)=>_|_=>_)
  exact hn ▸ hb.un
def Tr{b2:MS}(h:Wb b2 Y S K):Wb (if t7=t8 then b else b2) Y S K:=h
def Aiu{b2:MS}(h:Wb b Y S K):Wb (if t8=t8 then b else b2) Y S K:=h
def Ble{f g:De->M W}(h:Wm t[Y] S λp S1=>Wm (if p=t8 then f Y else g Y) S1 Q):Wm (Afa t f g Y) S Q:=Az h
def Bov{f g:De->M W}(h:Wm g[Y] S Q):Wm (if t7=t8 then f Y else g Y) S Q:=h
def Bow{f g:De->M W}(h:Wm f[Y] S Q):Wm (if t8=t8 then f Y else g Y) S Q:=h
def Tt{c:Prop}[Decidable c]{d a:M α}{Q:α->Store->Prop}(j:c->Wm d S Q)(i:¬ c->Wm a S Q):Wm (if decide c=t8 then d else a) S Q:=by
 by_cases h:c
 .rw[dj h];exact j h
 .rw[dq h];exact i h
end
section
variable{α β:Type}{Y:De}{S S':Store}{n:Nat}{c:Nat}{f g e:De->M W}{gs:De->M (lg W)}{t u:De->M Bool}{Q:W->Store->Prop}{K:RS->Prop}{b b':MS}{x y v w z:W}{ws us:lg W}{k:Key}{kvs:lg (Key×W)}
def Box{l h:De->M o9[Int]}(q:Wm f[Y] S λx S1=>Wm l[Y] S1 λlo S2=>Wm h[Y] S2 λhi S3=>Wm (slW x lo hi) S3 Q):Wm (slF f l h Y) S Q:=Az[Bd q λuw uw q=>Az[Bd q λuw uw q=>Az q]]
def PI(Q:o9 Int->Store->Prop)(x:W)(S:Store):Prop:=∃i,x=.int i/\Q sr[i] S
def pi_{Q:o9 Int->Store->Prop}{i:Int}(q:Q sr[i] S):PI Q .int[i] S:=(i,rfl,q)
def Bfc{Q:o9 Int->Store->Prop}(h:Wm f[Y] S PI[Q]):Wm (Dh f Y) S Q:=(Az (Bd h λ_ _ ⟨i,e,q⟩=>by subst e;exact Df q))
def Blf{Q:o9 Int->Store->Prop}(q:Q sy S):Wm By[Y] S Q:=Df q
def Tu{z:t6}{lo hi:o9 Int}(hz:z.length<=big)(q:Q .str[fH z lo hi] S):Wm (slW .str[z] lo hi) S Q:=Acb hz Df[q]
def Az8{lo hi:o9 Int}(j:S[n]?=sr .lst[ws])(d:(R9 ws lo hi).length<=big)(q:∀n S',Fr [] S S'->S'[n]?=sr .lst[R9 ws lo hi]->S.length<=n->Q .ref[n] S'):Wm (slW .ref[n] lo hi) S Q:=by
 let(a,h,e,z):=Bt d q;refine(a,h,?_,z);unfold slW;simp_all
theorem Blg(a:S[n]?=sr .dct[kvs])(d:Abi x=sr k)(q:Q .bl[(Akp kvs k).isSome] S):Wm (Fo .In x .ref[n]) S Q:=(_,S,by
 show inW t7 x .ref[n] S=_;unfold inW;dsimp only;rw[a];dsimp only;rw[d];rfl,q)
theorem Bfd(a:S[n]?=sr .dct[kvs])(d:Abi x=sr k)(q:Q .bl[!(Akp kvs k).isSome] S):Wm (Fo .NotIn x .ref[n]) S Q:=(_,S,by
 show inW t8 x .ref[n] S=_;unfold inW;dsimp only;rw[a];dsimp only;rw[d];rfl,q)
def As8{z:t6}{n:Int}(h:(decide[z.length<=16]&&decide[-1048576<=n]&&decide[n<=1048576])=t8)(q:Q .str[uZ z n] S):Wm (Bop.fn .mul .str[z] .int[n]) S Q:=Acb h Df[q]
def Bfe{i j:Int}(q:Q (.int (if j > i then j else i)) S):Wm Bqp[[.int i,.int j]] S Q:=(_,S,rfl,q)
def Az9(q:∀m S',Fr [] S S'->S'[m]?=sr .dct[[]]->S.length<=m->Q .ref[m] S'):Wm (Sx [] Y) S Q:=(_,_,rfl,q _ _ .app Je aN[_])
def Bff{a:W->lg W->M W}(h:Wm f[Y] S λx d=>∃n kvs,x=.ref n/\d[n]?=sr .dct[kvs]/\Wm gs[Y] d λws l=>Wm (a x ws) l Q):Wm (Jc .dct a f gs Y) S Q:=(Aqg (Bd h λ_ _ ⟨n,kvs,e,hn,h⟩=>by subst e;exact(Blc hn,h)))
def Bfg{a:W->lg W->M W}(h:Wm f[Y] S λx d=>∃n ws,x=.ref n/\d[n]?=sr .lst[ws]/\Wm gs[Y] d λws l=>Wm (a x ws) l Q):Wm (Jc .lst a f gs Y) S Q:=(Aqg (Bd h λ_ _ ⟨n,kvs,e,hn,h⟩=>by subst e;exact(Bld hn,h)))
end
section
variable{α β:Type}{Y:De}{S S':Store}{n k i:Nat}{c:Nat}{f g e:De->M W}{gs:De->M (lg W)}{Q:W->Store->Prop}{X:Nat×W->Store->Prop}{K:RS->Prop}{b b' s1 s2:MS}{w:W}{ws us dv:lg W}{a1 n1 a2:Nat->Bool}{L:Lm->lg W->M W}
def WmX{α:Type}(m:M α)(S:Store)(X:Nat×W->Store->Prop):Prop:=∃c S',m S=.exc c S'/\X c S'
def Boy(X:Nat×W->Store->Prop):RS->Prop
 |.ex c _ S'=>X c S'
 |_=>False
def Aeh(a:ws.length=k)(h:Wb b (Eb n ws) S Boy[X]):WmX (Cg k n b ws) S X:=by
 let h:=h.un;unfold WmX Cg;rw[di a];revert h;cases b _ S with
 |ex c Y S'=>exact λh=>(_,_,rfl,h)
 |_=>exact λh=>h.elim
def Af1(h:Wm gs[Y] S λws S1=>ws.length<=big/\K .ex[u6 c .non][Y][S1]):Wb Ai[Hr c gs][b'] Y S K:=Jf ⟨Hy[Bd h λws S1 ⟨l,q⟩=>(di l) ▸ q]⟩
def Avo(h:Wm gs[Y] S λws a=>∃w us,ws=w::us/\us.length+dv.length=1/\K .ex[u6 c w][Y][a]):Wb Ai[J0 c dv gs][b'] Y S K:=(Jf ⟨Hy (Bd h λws a ⟨w,us,e,l,q⟩=>by subst e;dsimp only;rwa [di l])⟩)
def Qe{m:M α}{k:α->M β}(h:Wm m S λa d=>WmX k[a] d X):WmX (m >>= k) S X:=by
 let(a,d,e,c,j,l,q):=h;exact(c,j,by rw[Cw,e];omega,q)
def Abr{m:M α}{k:α->M β}(h:WmX m S X):WmX (m >>= k) S X:=by
 let(c,a,e,q):=h;exact(c,a,by rw[Cw,e],q)
def Ali{mt:Nat->t6->o9 Fi}{m:t6}(h:Wm f[Y] S λx S1=>Wm (Xx mt m x) S1 λi S2=>Wm gs[Y] S2 λws S3=>WmX (Ahm i x ws) S3 X):WmX (Bv mt m f gs Y) S X:=Qe[Bd h λuw uw h=>Qe[Bd h λuw uw h=>Qe h]]
def Alj{x:W}{g:lg W->M W}{np:Nat}{dv:lg W}(h:ws.length+1=np)(q:WmX (g (x::ws)) S X):WmX (Ahm (g,np,dv) x ws) S X:=by
 unfold Ahm;rw[di h];omega
def Bfh(h:WmX f[Y] S λc a=>K[.ex c Y a]):Wb (Ai retS[f] b') Y S K:=(Jf ⟨by
 let(c,a,e,q):=h;unfold retS Gb
 rwa [e]⟩)
def Bfi(h:WmX f[Y] S X):WmX Dr[Cu f nilF][Y] S X:=Abr Abr[h]
def Anq(a1 n1 a2:Nat->Bool)(i:Nat)(s1 s2:MS)(K:RS->Prop):RS->Prop
 |.ex c Y1 S1=>K (if a1 c.1 then Afk i s1[Y1.set i sr[.exn c.1 c.2]][S1] else if n1 c.1&&a2 c.1 then Afk i s2[Y1.set i sr[.exn c.1 c.2]][S1] else .bad)
 |r=>K r
def As9(h:Wb b Y S (Anq a1 n1 a2 i s1 s2 (Qd b' K))):Wb Ai[Aim a1 n1 a2 i b s1 s2][b'] Y S K:=by
 refine Jf ⟨?_⟩;let h:=h.un;unfold Aim;revert h;cases b Y S with
 |_=>exact λz=>z
def Avp(h:Wm f[Y] S λx d=>∃n l ws,x=.ref n/\d[n]?=sr[.clo l ws]/\Xp l=t8/\Wm[L l ws][d.set n .dead][Q]):Wm (Afd L f Y) S Q:=(Az (Bd h λx d ⟨n,l,ws,e,hn,hb,a,S2,e2,q⟩=>(a,S2,by
 subst e;unfold Ad4;dsimp only;rw[hn];dsimp only;rw[di hb,e2],q)))
def Aqi(h:Wm f[Y] S λx d=>∃n l ws,x=.ref n/\d[n]?=sr[.clo l ws]/\Xp l=t8/\WmX[L l ws][d.set n .dead][X]):WmX (Afd L f Y) S X:=(Qe (Bd h λx d ⟨n,l,ws,e,hn,hb,a,S2,e2,q⟩=>(a,S2,by
 subst e;unfold Ad4;dsimp only;rw[hn];dsimp only;rw[di hb,e2],q)))
def Ata{j:Nat}{l:Lm}{cap:lg Nat}{g:lg W->M W}(p:Dq (λi=>Y.getD i sy) cap=sr ws)(o:S[j]?=sr .tab[l.qual])(h:Wm[g [.ref S.length]][S ++ [.clo l ws]] λv m=>Q v (m.set S.length .dead)):Wm (Dl j l cap g Y) S Q:=by
 let(v,m,e,q):=h;refine(v,_,?_,q);unfold Dl;rw[p,o];dsimp only;rw[di rfl,e];rfl
end
end D
namespace K7
open PySem PySem.Spec PyProof.Rows L2 D
abbrev kI(i:Int):=kF .int[i]
abbrev kS(z:t6):=kF .str[z]
abbrev kB(b:Bool):=kF .bl[b]
abbrev yA(f:De->M W):=Cu f nilF
abbrev yB(f g:De->M W):=Cu f yA[g]
abbrev yC(f g h:De->M W):=Cu f (yB g h)
abbrev yD(f g h i:De->M W):=Cu f (yC g h i)
abbrev zA(s:lg W->M W)(f:De->M W):=Ds s yA[f]
abbrev zB(s:lg W->M W)(f g:De->M W):=Ds s (yB f g)
abbrev zC(s:lg W->M W)(f g h:De->M W):=Ds s (yC f g h)
abbrev tQ(o:vQ)(f g:De->M W):=Do[Ec o f g]
abbrev rQ(f:De->M W):=Ai retS[f] An
def top(i:Nat):cO:=PySem.Challenge.pw_leafhouse_k07_writes_of_a_disk.main.body.getD i (.Pass (0,0,0,0))
def Bfj:lg Nat:=[0,1,2,3,4,5,6,7,8,9,10,11,12]
def Boz:lg[Nat×Nat×Bool]:=Bfj.flatMap λc=>Bfj.map λk=>(u6 c u6[k][k==0||c==k])
def isa:Nat->W->o9 Bool:=Azg Boz Bfj
def Bo0:lg[Nat×t6]:=[(14,"begun"),(14,"turns_left"),(14,"off"),(13,"body"),(13,"place"),(14,"row_texts"),(14,"size"),(14,"page_texts"),(14,"signs_done")]
def xfL:lg[Nat×t6]:=[(6,"number"),(7,"key")]
def fld(b:Bool)(c:Nat)(f:t6):Bool:=if b then xfL.lookup c==sr f else Bo0.contains[u6 c f]
def mnL:lg t6:=["__init__","add","begin_write","clear","end_write","fall","is_off","next_cell","next_key","next_keys","next_number","next_numbers","next_row","next_rows","next_signs","pages","rows","up","write","writes"]
def mkL:lg[t6×Nat]:=[("BodyReader",13),("Disk",14)]
def Bo1:lg[t6×W]:=(u6 "SIGNS" .str["0123456789abcdefghijklmnopqrstuvwxyzABCDEFGHIJKLMNOPQRSTUVWXYZ+-"])::(u6 "BITS" .int[6])::(u6 "LOWEST_BITS" .int[63])::(u6 "MOST_SIGNS" .int[3])::(u6 "TEXT_SIGNS" .str[" !\"#$&'()*+,-./0123456789:;<=>?@ABCDEFGHIJKLMNOPQRSTUVWXYZ[\\]^_`abcdefghijklmnopqrstuvwxyz{|}~"])::(u6 "CODES_AHEAD" .int[31])::(u6 "CHECK_DIVISOR" .int[4093])::(u6 "CHECK_SIGNS" .int[2])::(u6 "MOST_KEY_SIGNS" .int[12])::(u6 "MOST_VALUE_SIGNS" .int[400])::(u6 "LEAST_SIZE" .int[64])::(u6 "MOST_SIZE" .int[200])::(u6 "MOST_NUMBER" .int[4095])::(u6 "MOST_ROWS" .int[63])::(u6 "MOST_CELL_SIGNS" .int[63])::(u6 "NUMBER_SIGNS" .int[2])::(u6 "SIGNS_BESIDE_BODY" .int[5])::(u6 "BODY_START" .int[3])::(u6 "int" .ty["int"])::(u6 "bool" .ty["bool"])::(u6 "str" .ty["str"])::(u6 "tuple" .ty["tuple"])::(u6 "list" .ty["list"])::(u6 "ValueError" .ty["ValueError"])::(u6 "TableError" .cls[0])::(u6 "BadNumber" .cls[1])::(u6 "BadText" .cls[2])::(u6 "BadSize" .cls[3])::(u6 "BadKey" .cls[4])::(u6 "BadValue" .cls[5])::(u6 "BadPage" .cls[6])::(u6 "NoKey" .cls[7])::(u6 "InBundle" .cls[8])::(u6 "NoBundle" .cls[9])::(u6 "PowerGone" .cls[10])::(u6 "Closed" .cls[11])::(u6 "BadLine" .cls[12])::(u6 "BodyReader" .cls[13])::(u6 "Disk" .cls[14])::[]
def biL:lg t6:=["isinstance","len","ord","sum","all","tuple","list","sorted","range","zip","enumerate","set","int"]
def Bo2:lg[t6×Nat]:=[("TableError",0),("BadNumber",1),("BadText",2),("BadSize",3),("BadKey",4),("BadValue",5),("InBundle",8),("NoBundle",9),("PowerGone",10),("Closed",11),("BadLine",12)]
def Bo3:lg[t6×(Nat×lg W)]:=[("BadPage",(u6 6 [])),("NoKey",(u6 7 []))]
def Bo4:lg[t6×Nat]:=[("TableError",0),("BadText",2),("BadPage",6)]
def Bo5:lg[Nat×Nat]:=[(0,0),(0,1),(0,2),(0,3),(0,4),(0,5),(0,6),(0,7),(0,8),(0,9),(0,10),(0,11),(0,12),(2,2),(6,6)]
def exm(k c:Nat):Bool:=Bo5.contains[u6 k c]
def Bo6:lg[Nat×Nat]:=[(2,0),(2,1),(2,3),(2,4),(2,5),(2,6),(2,7),(2,8),(2,9),(2,10),(2,11),(2,12),(6,0),(6,1),(6,2),(6,3),(6,4),(6,5),(6,7),(6,8),(6,9),(6,10),(6,11),(6,12)]
def exn(k c:Nat):Bool:=Bo6.contains[u6 k c]
def Qf:lg[t6×t6]:=[("head","h"),("leaf","l"),("fork","f"),("rest","r"),("free","e")]
def Bo7:lg[t6×lg[t6×t6]]:=[("LETTERS",Qf)]
def md:Md:={ con:=λx=>Bo1.lookup x,bi:=λx=>biL.contains x,exc:=λx=>Bo2.lookup x,isa:=isa,fld:=fld,mdc:=λx=>Bo7.lookup x,exi:=λx=>Bo3.lookup x,hcl:=λx=>Bo4.lookup x,exm:=exm,exn:=exn,mn:=λx=>mnL.contains x,mkl:=λx=>mkL.lookup x }
abbrev tE(x:t6)(g:lg W->M W)(n:Nat)(T:lg[t6×Fi]):lg[t6×Fi]:=(u6 x (g,n,[]))::T
abbrev uE(c:Nat)(x:t6)(g:lg W->M W)(n:Nat)(T:lg[(Nat×t6)×Fi]):lg[(Nat×t6)×Fi]:=(u6 (u6 c x) (g,n,[]))::T
abbrev eE(s:cO)(T:lg[t6×Fi])(N:lg t6)(U:lg[(Nat×t6)×Fi])(Q:lg[t6×Fi])(b:MS):Prop:=K6[Bc s][md.gm T N Am[s] U Q]=b
def T_0:lg[t6×Fi]:=[]
def U_0:lg[(Nat×t6)×Fi]:=[]
def Q_0:lg[t6×Fi]:=[]
abbrev Acd:cO:=top 74
def Tv:lg t6:=["_law_script"]
def Ace:MS:=rQ Sx[[((kS "script"),(Aa 0)),((kS "at"),(kI 0)),((kS "seed"),(kI 7))]]
def Tw:=Cg 1 1 Ace
def Anr:eE Acd T_0 Tv U_0 Q_0 Ace:=by rfl'
def Acf:=tE "_law_tape" Tw 1 T_0
abbrev Acg:cO:=top 73
def Ans:lg t6:=["_law_tape_here","_law_many","_law_cell"]
def Ach:MS:=Ai (Bx 2 kI[0])
 (Ai (ifS tQ[.Lt][ixF Aa[0] kS["at"]][zA[Ex][ixF Aa[0] kS["script"]]] (Ai (Bx 2 ixF[ixF Aa[0] kS["script"]][ixF Aa[0] kS["at"]])
  An) An)
 (Ai (Im Aa[0] kS["at"] Ax[.add][ixF Aa[0] kS["at"]][kI[1]])
 (Ai Im[Aa 0][kS "seed"][Ax .mod Ax[.add][Ax .mul Ax[.add][ixF Aa[0] kS["seed"]][Aa[2]] kI[48271]][kI[11]] kI[2147483647]]
 (rQ[Ax .mod Ax[.fdiv][ixF Aa[0] kS["seed"]][kI[11]] Aa[1]]))))
def Al:=Cg 2 3 Ach
def Ant:eE Acg Acf Ans U_0 Q_0 Ach:=by rfl'
def Np:=tE "_law_draw" Al 2 Acf
abbrev Tz:cO:=top 81
def Anu:lg t6:=["_law_error","_law_words"]
def Aci:MS:=Ai (Bx 1 Ax[.add][Ax .mul kS["number "] zA[Abk][zB Hd[isa] Aa[0] kF[.cls[1]]]][Ax .mul kS["text "] zA[Abk][zB Hd[isa] Aa[0] kF[.cls[2]]]])
 (Ai (Bx 1 Ax[.add][Ax[.add][Aa[1]][Ax .mul kS["size "] zA[Abk][zB Hd[isa] Aa[0] kF[.cls[3]]]]][Ax .mul kS["page "] zA[Abk][zB Hd[isa] Aa[0] kF[.cls[6]]]])
 (Ai (Bx 1 Ax[.add][Aa[1]][Ax .mul kS["key "] zA[Abk][zB Hd[isa] Aa[0] Gu[yC kF[.cls[4]] kF[.cls[5]] kF[.cls[7]]]]])
 (Ai (Bx 1 Ax[.add][Ax[.add][Aa[1]][Ax .mul kS["in "] zA[Abk][zB Hd[isa] Aa[0] kF[.cls[8]]]]][Ax .mul kS["no "] zA[Abk][zB Hd[isa] Aa[0] kF[.cls[9]]]])
 (Ai (Bx 1 Ax[.add][Ax[.add][Aa[1]][Ax .mul kS["gone "] zA[Abk][zB Hd[isa] Aa[0] kF[.cls[10]]]]][Ax .mul kS["else "] zA[Abk][zB Hd[isa] Aa[0] Gu[yB kF[.cls[11]] kF[.cls[12]]]]])
 (rQ[Ax .add Aa[1] Ax[.mul][kS["value "]][zA Abk Bje[zB Hd[isa] Aa[0] kF[.ty["ValueError"]]]]])))))
def Ew:=Cg 1 2 Aci
def Anv:K6[Bc Tz][md.gq Q_0 Anu Am[Tz]]=Aci:=by rfl'
def Af:=tE "_law_word" Ew 1 Q_0
abbrev Mz:cO:=inClass top[71] 8
def M3:lg t6:=["self","text"]
def M4:MS:=Ai (ifS Do[Gv fld "off" Aa[0]] (Ai (Hr 10 yA[kS["the power is off"]])
  An) An)
 (Ai (Jy fld "begun" Aa[0] Ax[.add][Gv fld "begun" Aa[0]][kI[1]])
 (Ai (ifS tQ[.Gt][Gv fld "turns_left" Aa[0]][kI[0]] (Ai (Jy fld "turns_left" Aa[0] Ax[.sub][Gv fld "turns_left" Aa[0]][kI[1]])
  (Ai (Jy fld "off" Aa[0] Ec[.Eq][Gv fld "turns_left" Aa[0]][kI[0]])
  An)) An)
 (rQ Afa[Do[Gv fld "off" Aa[0]]][Gv fld "signs_done" Aa[0]][zA Ex Aa[1]])))
def M5:=Cg 2 2 M4
def W9:eE Mz Np M3 U_0 Af M4:=by rfl'
def M6:=uE 14 "begin_write" M5 2 U_0
abbrev Qg:cO:=inClass top[71] 9
def Bg:lg t6:=["self"]
def Qh:MS:=Ai (ifS Do[Gv fld "off" Aa[0]] (Ai (Hr 10 yA[kS["the power goes at this write"]])
  An) An)
 An
def Qi:=Cg 1 1 Qh
def Abs:eE Qg Np Bg M6 Af Qh:=by rfl'
def Hz:=uE 14 "end_write" Qi 1 M6
abbrev Lx:cO:=top 27
def Ay:lg t6:=["thing"]
abbrev aA1:=kS "0123456789abcdefghijklmnopqrstuvwxyzABCDEFGHIJKLMNOPQRSTUVWXYZ+-"
def Ly:MS:=Ai (ifS orT[Jd Do[zB Hd[isa] Aa[0] kF[.ty["str"]]]][orT tQ[.Lt][zA Ex Aa[0]][kI[1]] tQ[.Gt][zA Ex Aa[0]][kI[3]]] rQ[kB[t7]] An)
 (rQ zA[Afe][Gd 1 [] Hc[Aa[0]] El[0] (λuw=>pure t8) (Ec .In Aa[0] aA1)])
def Ik:=Cg 1 1 Ly
def Wg:eE Lx Np Ay Hz Af Ly:=by rfl'
def Lz:=tE "is_written_number" Ik 1 Np
abbrev Acj:cO:=top 28
def Anw:lg t6:=["text","number","sign"]
abbrev aB1:=Ai (Bx 1 Ax[.add][Ax .shl Aa[1] kI[6]][Jc .str Su aA1 yA[Aa[2]]]) An
def Ack:MS:=Ai (ifS Jd[Do[zA Ik Aa[0]]] (Ai (Hr 2 yA[kS["no number of one to three signs"]])
  An) An)
 (Ai (Bx 1 kI[0])
 (Ai (Sq Hc[Aa[0]] El[2] aB1)
 (rQ Aa[1])))
def Nq:=Cg 1 3 Ack
def Anx:eE Acj Lz Anw Hz Af Ack:=by rfl'
def En:=tE "number_of" Nq 1 Lz
abbrev Kl:cO:=inClass top[64] 0
def Km:lg t6:=["self","body"]
def Ko:MS:=Ai (Jy fld "body" Aa[0] Aa[1])
 (Ai (Jy fld "place" Aa[0] kI[0])
 An)
def Hj:=Cg 2 2 Ko
def Rt:eE Kl En Km Hz Af Ko:=by rfl'
def Kp:=uE 13 "__init__" Hj 2 Hz
abbrev Jm:cO:=inClass top[64] 1
def Qj:lg t6:=["self","many","start"]
def Jo:MS:=Ai Bx[2][Gv fld "place" Aa[0]]
 (Ai (Jy fld "place" Aa[0] (Ax .add Aa[2] Aa[1]))
 (rQ slF[Gv fld "body" Aa[0]][Dh[Aa[2]]][Dh[Gv fld "place" Aa[0]]]))
def Jp:=Cg 2 3 Jo
def Qk:eE Jm En Qj Kp Af Jo:=by rfl'
def Gk:=uE 13 "next_signs" Jp 2 Kp
abbrev Ip:cO:=inClass top[64] 2
def Bl:lg t6:=["self","many"]
def Ir:MS:=rQ zA[Nq][Bv (λc n=>Gk.lookup[u6 c n]) "next_signs" Aa[0] yA[Aa[1]]]
def Iu:=Cg 2 2 Ir
def Pq:eE Ip En Bl Gk Af Ir:=by rfl'
def Em:=uE 13 "next_number" Iu 2 Gk
abbrev Kq:cO:=inClass top[64] 4
def Kr:MS:=rQ[Bv (λc n=>Em.lookup[u6 c n]) "next_signs" Aa[0] yA[Bv (λc n=>Em.lookup[u6 c n]) "next_number" Aa[0] yA[kI[1]]]]
def Ku:=Cg 1 1 Kr
def Ru:eE Kq En Bg Em Af Kr:=by rfl'
def Hk:=uE 13 "next_key" Ku 1 Em
abbrev J3:cO:=inClass top[64] 5
def J4:MS:=rQ[zA Sg compX[1][[0]][Rr Kh yA[Aa[1]]][El 0][λuw=>pure t8][Bv (λc n=>Hk.lookup[u6 c n]) "next_key" Aa[1] nilF]]
def J5:=Cg 2 2 J4
def Q3:eE J3 En Bl Hk Af J4:=by rfl'
def G6:=uE 13 "next_keys" J5 2 Hk
abbrev Ih:cO:=inClass top[64] 3
def Ii:MS:=rQ[zA Sg compX[1][[0]][Rr Kh yA[Aa[1]]][El 0][λuw=>pure t8][Bv (λc n=>G6.lookup[u6 c n]) "next_number" Aa[1] yA[kI[2]]]]
def Ij:=Cg 2 2 Ii
def Nf:eE Ih En Bl G6 Af Ii:=by rfl'
def Bf:=uE 13 "next_numbers" Ij 2 G6
abbrev J6:cO:=inClass top[64] 6
def J7:MS:=Ai (ifS tQ[.Eq][Bv (λc n=>Bf.lookup[u6 c n]) "next_signs" Aa[0] yA[kI[1]]][kS["i"]] rQ[Gu[yB[kS "in"][Bv (λc n=>Bf.lookup[u6 c n]) "next_signs" Aa[0] yA[Bv (λc n=>Bf.lookup[u6 c n]) "next_number" Aa[0] yA[kI[1]]]]]] An)
 (rQ Ax[.add][Gu[yA[kS["out"]]]][Bv (λc n=>Bf.lookup[u6 c n]) "next_numbers" Aa[0] yA[kI[2]]])
def J8:=Cg 1 1 J7
def Q4:eE J6 En Bg Bf Af J7:=by rfl'
def Dn:=uE 13 "next_cell" J8 1 Bf
abbrev Kv:cO:=inClass top[64] 7
def Rv:lg t6:=["self","key"]
def Kw:MS:=Ai Bx[1][Bv (λc n=>Dn.lookup[u6 c n]) "next_key" Aa[0] nilF]
 (rQ Gu[yB[Aa 1][Bv (λc n=>Dn.lookup[u6 c n]) "next_cell" Aa[0] nilF]])
def Ky:=Cg 1 2 Kw
def Rw:eE Kv En Rv Dn Af Kw:=by rfl'
def Hl:=uE 13 "next_row" Ky 1 Dn
abbrev J9:cO:=inClass top[64] 8
def Ka:MS:=rQ[zA Sg compX[1][[0]][Rr Kh yA[Aa[1]]][El 0][λuw=>pure t8][Bv (λc n=>Hl.lookup[u6 c n]) "next_row" Aa[1] nilF]]
def Kc:=Cg 2 2 Ka
def Q5:eE J9 En Bl Hl Af Ka:=by rfl'
def Ac:=uE 13 "next_rows" Kc 2 Hl
abbrev Acl:cO:=top 65
def Any:lg t6:=["letter","body","reader","keys","after"]
def Acm:MS:=Ai (Bx 2 zA[λws=>Ni 13 Hj ws][Aa 1])
 (Ai ifS[tQ .Eq Aa[0] kS["h"]][rQ[Ax[.add][Gu[yA[kS["head"]]]][Bv (λc n=>Ac.lookup[u6 c n]) "next_numbers" Aa[2] yA[kI[4]]]]][An]
 (Ai ifS[tQ .Eq Aa[0] kS["l"]][rQ[Gu[yB[kS "leaf"][Bv (λc n=>Ac.lookup[u6 c n]) "next_rows" Aa[2] yA[Bv (λc n=>Ac.lookup[u6 c n]) "next_number" Aa[2] yA[kI[1]]]]]]][An]
 (Ai (ifS (tQ .Eq Aa[0] kS["f"]) (Ai Bx[3][Bv (λc n=>Ac.lookup[u6 c n]) "next_keys" Aa[2] yA[Bv (λc n=>Ac.lookup[u6 c n]) "next_number" Aa[2] yA[kI[1]]]]
  (rQ Gu[yC[kS "fork"][Aa 3][Bv (λc n=>Ac.lookup[u6 c n]) "next_numbers" Aa[2] yA[Ax[.add][zA Ex Aa[3]][kI[1]]]]])) An)
 (Ai (ifS (tQ .Eq Aa[0] kS["r"]) (Ai Bx[4][Bv (λc n=>Ac.lookup[u6 c n]) "next_number" Aa[2] yA[kI[2]]]
  (rQ Gu[yC[kS "rest"][Bv (λc n=>Ac.lookup[u6 c n]) "next_signs" Aa[2] yA[Ax[.sub][zA Ex Aa[1]][kI[2]]]][Aa 4]])) An)
 (Ai ifS[tQ .Eq Aa[0] kS["e"]][rQ[Ax[.add][Gu[yA[kS["free"]]]][Bv (λc n=>Ac.lookup[u6 c n]) "next_numbers" Aa[2] yA[kI[1]]]]][An]
 (rQ kF[.non]))))))
def T4:=Cg 2 5 Acm
def Anz:eE Acl En Any Ac Af Acm:=by rfl'
def Acn:=tE "told_page" T4 2 En
abbrev Af2:cO:=top 24
def Af3:MS:=rQ Il[zB Hd[isa] Aa[0] kF[.ty["int"]]][Bje[zB Hd[isa] Aa[0] kF[.ty["bool"]]]]
def Fz:=Cg 1 1 Af3
def Aqj:eE Af2 Acn Ay Ac Af Af3:=by rfl'
def Af4:=tE "is_whole" Fz 1 Acn
abbrev An0:cO:=top 26
def Baa:lg t6:=["number","many","text","left","place"]
abbrev aB6:=Ai Bx[2][Ax .add ixF[aA1][Ax .and Aa[3] kI[63]] Aa[2]] (Ai Bx[3][Ax .shr Aa[3] kI[6]] An)
def An1:MS:=Ai (ifS orT[Jd Do[zA Fz Aa[0]]][tQ .Lt Aa[0] kI[0]] (Ai (Hr 1 yA[kS["no whole number from nought on"]])
  An) An)
 (Ai (ifS (orT Jd[Do[zA Fz Aa[1]]] orT[tQ .Lt Aa[1] kI[1]][tQ .Gt Aa[1] kI[3]]) (Ai (Hr 1 yA[kS["a number is written by one to three signs"]])
  An) An)
 (Ai (ifS (tQ .Gt Ax[.shr][Aa[0]][Ax .mul kI[6] Aa[1]] kI[0]) (Ai (Hr 1 yA[kS["a number greater than so many signs write"]])
  An) An)
 (Ai (Bx 2 kS[""])
 (Ai (Bx 3 Aa[0])
 (Ai Sq[Rr Kh yA[Aa[1]]][El[4]][aB6]
 (rQ Aa[2]))))))
def Hu:=Cg 2 5 An1
def Bab:eE An0 Af4 Baa Ac Af An1:=by rfl'
def An2:=tE "digits" Hu 2 Af4
abbrev Aiv:cO:=top 25
def Aiw:MS:=rQ Il[zB Hd[isa] Aa[0] kF[.ty["str"]]][Ec .Eq (Jc .str Akt Aa[0] yA[kS[" !\"#$&'()*+,-./0123456789:;<=>?@ABCDEFGHIJKLMNOPQRSTUVWXYZ[\\]^_`abcdefghijklmnopqrstuvwxyz{|}~"]]) kS[""]]
def Jq:=Cg 1 1 Aiw
def Avq:eE Aiv An2 Ay Ac Af Aiw:=by rfl'
def Aix:=tE "is_text" Jq 1 An2
abbrev Af5:cO:=top 29
def Aqk:lg t6:=["text","total"]
def Af6:MS:=Ai (ifS Jd[Do[zA Jq Aa[0]]] (Ai (Hr 2 yA[kS["no text"]])
  An) An)
 (Ai (Bx 1 zA[Au0][Gd 2 [] Ayj[Aa[0]] Ads[[0,1]] (λuw=>pure t8) (Ax .mul Ax[.sub][zA Auz Aa[1]][kI[31]] Aa[0])])
 (rQ zB[Hu][Ax .mod Aa[1] kI[4093]][kI[2]]))
def M7:=Cg 1 2 Af6
def Aql:eE Af5 Aix Aqk Ac Af Af6:=by rfl'
def Af7:=tE "check_of" M7 1 Aix
abbrev Nr:cO:=top 66
def Ep:lg t6:=["text"]
def Nt:MS:=rQ Ec[.Eq][zA[M7][slF Aa[0] By Dh[Afo[kI[2]]]]][slF Aa[0] Dh[Afo[kI[2]]] By]
def Hq:=Cg 1 1 Nt
def Aab:eE Nr Af7 Ep Ac Af Nt:=by rfl'
def Nu:=tE "has_right_check" Hq 1 Af7
abbrev T5:cO:=top 67
def Af8:lg t6:=["text","long"]
def T6:MS:=Ai (ifS Jd[Do[zA Hq Aa[0]]] rQ[kF[.non]] An)
 (Ai (Bx 1 zA[Nq][slF Aa[0] Dh[kI[1]] Dh[kI[3]]])
 (rQ zB[T4][ixF Aa[0] kI[0]][slF Aa[0] Dh[kI[3]] Dh[Ax .add kI[3] Aa[1]]]))
def Gn:=Cg 1 2 T6
def Af9:eE T5 Nu Af8 Ac Af T6:=by rfl'
def T7:=tE "told_by_text" Gn 1 Nu
abbrev Aiy:cO:=top 49
def Aiz:MS:=Ai (ifS Aku[Do[zB Hd[isa] Aa[0] kF[.ty["tuple"]]]][Aku tQ[.Gt][zA Ex Aa[0]][kI[0]] Do[zB[Hd isa][ixF Aa[0] kI[0]][kF .ty["str"]]]] rQ[ixF Aa[0] kI[0]] An)
 (rQ kF[.non])
def V0:=Cg 1 1 Aiz
def Avr:eE Aiy T7 Ay Ac Af Aiz:=by rfl'
def Ai0:=tE "word_of" V0 1 T7
abbrev An3:cO:=top 33
def An4:MS:=rQ Il[zA Jq Aa[0]][Qv .LtE .LtE kI[1] (zA Ex Aa[0]) kI[12]]
def T8:=Cg 1 1 An4
def Bac:eE An3 Ai0 Ay Ac Af An4:=by rfl'
def An5:=tE "is_key" T8 1 Ai0
abbrev Nv:cO:=top 50
def Ny:lg t6:=["keys"]
def Nz:MS:=Ai (ifS Jd[Do[zA[Afe][Gd 1 [] Hc[Aa[0]] El[0] (λuw=>pure t8) (zA T8 Aa[0])]]] rQ[kB[t7]] An)
 (rQ zA[Afe][Gd 2 [] Au7[yB[Aa 0][slF Aa[0] Dh[kI[1]] By]] Ads[[0,1]] (λuw=>pure t8) (Ec .Lt Aa[0] Aa[1])])
def Er:=Cg 1 1 Nz
def Aac:eE Nv An5 Ny Ac Af Nz:=by rfl'
def N5:=tE "are_rising_keys" Er 1 An5
abbrev Wk:cO:=top 48
def Ld:lg t6:=["thing","many"]
def Wl:MS:=rQ Il[zB Hd[isa] Aa[0] kF[.ty["tuple"]]][Ec .Eq (zA Ex Aa[0]) Aa[1]]
def Iv:=Cg 2 2 Wl
def Ahp:eE Wk N5 Ld Ac Af Wl:=by rfl'
def Wn:=tE "is_tuple_of" Iv 2 N5
abbrev Aad:cO:=top 47
def Aae:lg t6:=["thing","least","most"]
def Aaf:MS:=rQ Il[zA Jq Aa[0]][Qv .LtE .LtE Aa[1] (zA Ex Aa[0]) Aa[2]]
def Mi:=Cg 3 3 Aaf
def Alk:eE Aad Wn Aae Ac Af Aaf:=by rfl'
def Aag:=tE "is_text_of" Mi 3 Wn
abbrev Di:cO:=top 46
def An6:lg t6:=["thing","least"]
def Aco:MS:=rQ Il[zA Fz Aa[0]][Qv .LtE .LtE Aa[1] Aa[0] kI[4095]]
def Fq:=Cg 2 2 Aco
def An7:eE Di Aag An6 Ac Af Aco:=by rfl'
def Acp:lg[t6×Fi]:=(u6 "is_number" (Fq,2,[(.int 0)]))::Aag
abbrev Ai1:cO:=top 51
def Ai2:lg t6:=["thing","word"]
def Ai3:MS:=Ai Bx[1][zA V0 Aa[0]]
 (Ai ifS[tQ .Eq Aa[1] kS["in"]][rQ[Il[Ec .Eq (zA Ex Aa[0]) kI[2]][zC Mi (ixF Aa[0] kI[1]) kI[0] kI[63]]]][An]
 (Ai ifS[tQ .Eq Aa[1] kS["out"]][rQ[Il[Ec .Eq (zA Ex Aa[0]) kI[3]][Il zA[Fz][ixF Aa[0] kI[1]] Il[Qv .LtE .LtE kI[1] (ixF Aa[0] kI[1]) kI[400]][zB Fq (ixF Aa[0] kI[2]) kI[1]]]]][An]
 (rQ kB[t7])))
def V4:=Cg 1 2 Ai3
def Avs:eE Ai1 Acp Ai2 Ac Af Ai3:=by rfl'
def Ai4:=tE "is_cell" V4 1 Acp
abbrev Aga:cO:=top 52
def Agb:MS:=Ai ifS[orT Jd[Do[zB Hd[isa] Aa[0] kF[.ty["tuple"]]]] tQ[.Gt][zA Ex Aa[0]][kI[63]]][rQ[kB[t7]]][An]
 (Ai (ifS Jd[Do[zA[Afe][Gd 1 [] Hc[Aa[0]] El[0] (λuw=>pure t8) Il[zB Iv Aa[0] kI[2]][zA[V4][ixF Aa[0] kI[1]]]]]] rQ[kB[t7]] An)
 (rQ zA[Er][Gd 1 [] Hc[Aa[0]] El[0] (λuw=>pure t8) (ixF Aa[0] kI[0])]))
def Xa:=Cg 1 1 Agb
def Aqm:eE Aga Ai4 Ay Ac Af Agb:=by rfl'
def Agc:=tE "are_rows" Xa 1 Ai4
abbrev Agd:cO:=top 53
def Age:MS:=rQ Il[zB Hd[isa] Aa[0] kF[.ty["tuple"]]][Il[Ec .LtE (zA Ex Aa[0]) kI[63]][zA Er Aa[0]]]
def Xb:=Cg 1 1 Age
def Aqn:eE Agd Agc Ay Ac Af Age:=by rfl'
def Agf:=tE "are_keys" Xb 1 Agc
abbrev Agg:cO:=top 54
def Agh:MS:=rQ Il[zB Iv Aa[0] Aa[1]][zA[Afe][Gd 1 [] Hc[Aa[0]] El[0] (λuw=>pure t8) (zB Fq Aa[0] kI[1])]]
def Xc:=Cg 2 2 Agh
def Aqo:eE Agg Agf Ld Ac Af Agh:=by rfl'
def Agi:=tE "are_kids" Xc 2 Agf
abbrev Ai5:cO:=top 55
def Ai6:MS:=Ai Bx[1][zA V0 Aa[0]]
 (Ai ifS[tQ .Eq Aa[1] kS["head"]][rQ[Il Ec[.Eq][zA Ex Aa[0]][kI[5]] zA[Afe][Gd 1 [] Hc[slF Aa[0] Dh[kI[1]] By] El[0] (λuw=>pure t8) zA[λws=>Fq[ws ++ [(.int 0)]]][Aa 0]]]][An]
 (Ai ifS[tQ .Eq Aa[1] kS["leaf"]][rQ[Il Ec[.Eq][zA Ex Aa[0]][kI[2]] zA[Xa][ixF Aa[0] kI[1]]]][An]
 (Ai ifS[tQ .Eq Aa[1] kS["fork"]][rQ[Il[Ec .Eq (zA Ex Aa[0]) kI[3]][Il zA[Xb][ixF Aa[0] kI[1]] zB[Xc][ixF Aa[0] kI[2]][Ax .add zA[Ex][ixF Aa[0] kI[1]] kI[1]]]]][An]
 (Ai ifS[tQ .Eq Aa[1] kS["rest"]][rQ[Il Ec[.Eq][zA Ex Aa[0]][kI[3]] Il[zC Mi (ixF Aa[0] kI[1]) kI[1] kI[400]][zA[λws=>Fq[ws ++ [(.int 0)]]][ixF Aa[0] kI[2]]]]][An]
 (Ai ifS[tQ .Eq Aa[1] kS["free"]][rQ[Il Ec[.Eq][zA Ex Aa[0]][kI[2]] zA[λws=>Fq[ws ++ [(.int 0)]]][ixF Aa[0] kI[1]]]][An]
 (rQ kB[t7]))))))
def Mr:=Cg 1 2 Ai6
def Avt:eE Ai5 Agi Ai2 Ac Af Ai6:=by rfl'
def Ai7:=tE "is_page" Mr 1 Agi
abbrev Ql:cO:=top 62
def Abt:lg t6:=["page","body","size","start"]
def Qm:MS:=Ai (Bx 3 Ax[.add][Ax .add mdF[Qf][ixF Aa[0] kI[0]] zB[Hu][zA Ex Aa[1]][kI[2]]][Aa[1]])
 (rQ[Jc .str Aks Aa[3] yB[Ax .sub Aa[2] kI[2]][kS "0"]])
def Ia:=Cg 3 4 Qm
def Abu:eE Ql Ai7 Abt Ac Af Qm:=by rfl'
def Qn:=tE "unchecked_text" Ia 3 Ai7
abbrev Ai8:cO:=top 44
def Ai9:MS:=rQ Il[zA Fz Aa[0]][Qv .LtE .LtE kI[64] Aa[0] kI[200]]
def Ib:=Cg 1 1 Ai9
def Avu:eE Ai8 Qn Ay Ac Af Ai9:=by rfl'
def Aja:=tE "is_size" Ib 1 Qn
abbrev T9:cO:=top 56
def Va:lg t6:=["numbers"]
def Vb:MS:=rQ[Jc .str Ss kS[""] yA[Gd 1 [] Hc[Aa[0]] El[0] (λuw=>pure t8) (zB Hu Aa[0] kI[2])]]
def Gp:=Cg 1 1 Vb
def Agj:eE T9 Aja Va Ac Af Vb:=by rfl'
def Vc:=tE "numbers_text" Gp 1 Aja
abbrev Agk:cO:=top 57
def Agl:lg t6:=["key"]
def Agm:MS:=rQ[Ax .add zB[Hu][zA Ex Aa[0]][kI[1]] Aa[0]]
def M8:=Cg 1 1 Agm
def Aqp:eE Agk Vc Agl Ac Af Agm:=by rfl'
def Agn:=tE "key_text" M8 1 Vc
abbrev Acq:cO:=top 58
def Acr:lg t6:=["cell"]
def Acs:MS:=Ai (ifS tQ[.Eq][ixF Aa[0] kI[0]][kS["in"]] rQ[Ax[.add][Ax[.add][kS["i"]][zB Hu zA[Ex][ixF Aa[0] kI[1]] kI[1]]][ixF Aa[0] kI[1]]] An)
 (rQ[Ax .add kS["o"] zA[Gp][slF Aa[0] Dh[kI[1]] By]])
def Vd:=Cg 1 1 Acs
def An8:eE Acq Agn Acr Ac Af Acs:=by rfl'
def Acu:=tE "cell_text" Vd 1 Agn
abbrev Ago:cO:=top 59
def Agp:lg t6:=["row"]
def Agq:MS:=rQ[Ax .add zA[M8][ixF Aa[0] kI[0]] zA[Vd][ixF Aa[0] kI[1]]]
def Q6:=Cg 1 1 Agq
def Aqq:eE Ago Acu Agp Ac Af Agq:=by rfl'
def Agr:=tE "row_text" Q6 1 Acu
abbrev Acv:cO:=top 60
def An9:lg t6:=["page","keys"]
def Acw:MS:=Ai (ifS tQ[.Eq][ixF Aa[0] kI[0]][kS["leaf"]] rQ[Ax[.add][zB Hu zA[Ex][ixF Aa[0] kI[1]] kI[1]][Jc .str Ss kS[""] yA[Gd 1 [] Hc[ixF Aa[0] kI[1]] El[0] (λuw=>pure t8) (zA Q6 Aa[0])]]] An)
 (Ai (ifS tQ[.Eq][ixF Aa[0] kI[0]][kS["fork"]] (Ai Bx[1][Jc .str Ss kS[""] yA[Gd 1 [] Hc[ixF Aa[0] kI[1]] El[0] (λuw=>pure t8) (zA M8 Aa[0])]]
  (rQ[Ax .add Ax[.add][zB Hu zA[Ex][ixF Aa[0] kI[1]] kI[1]][Aa[1]] zA[Gp][ixF Aa[0] kI[2]]])) An)
 (Ai (ifS tQ[.Eq][ixF Aa[0] kI[0]][kS["rest"]] rQ[Ax[.add][zA[Gp][slF Aa[0] Dh[kI[2]] By]][ixF Aa[0] kI[1]]] An)
 (rQ zA[Gp][slF Aa[0] Dh[kI[1]] By])))
def N6:=Cg 1 2 Acw
def Aoa:eE Acv Agr An9 Ac Af Acw:=by rfl'
def Acx:=tE "body_text" N6 1 Agr
abbrev Ajb:cO:=top 68
def Avv:lg t6:=["text","page"]
def Ajc:MS:=Ai (ifS (orT Jd[Do[zB Hd[isa] Aa[0] kF[.ty["str"]]]] Jd[Do[zA[Ib][zA Ex Aa[0]]]]) (Ai J0[6][[]][yB kF[.non] kS["no text of a size from 64 to 200"]]
  An) An)
 (Ai (Am5 (λc=>c==2&&exm 2 c) 6 (yB kF[.non] kS["a text with other signs than a page's"]) (Ai Bx[1][zA Gn Aa[0]]
  An))
 (Ai (ifS Jd[Do[zA Mr Aa[1]]] (Ai J0[6][[]][yB kF[.non] kS["a text that tells no page"]]
  An) An)
 (Ai (ifS tQ[.NotEq][zC[Ia][Aa 1][zA N6 Aa[1]][zA Ex Aa[0]]][slF Aa[0] By Dh[Afo[kI[2]]]] (Ai J0[6][[]][yB kF[.non] kS["a text that isn't as its page's"]]
  An) An)
 (rQ Aa[1]))))
def Ez:=Cg 1 2 Ajc
def Avw:eE Ajb Acx Avv Ac Af Ajc:=by rfl'
def Ajd:=tE "page_of" Ez 1 Acx
abbrev Ve:cO:=top 70
def Vf:lg t6:=["thing","size"]
def Vg:MS:=Ai (Am6 exm[6] (Ai G9[zA Ez Aa[0]]
  An) rQ[kB[t7]])
 (rQ Ec[.Eq][zA Ex Aa[0]][Aa[1]])
def Cp:=Cg 2 2 Vg
def Ags:eE Ve Ajd Vf Ac Af Vg:=by rfl'
def Bp:=tE "is_page_text" Cp 2 Ajd
abbrev Aah:cO:=inClass top[71] 5
def Alm:lg t6:=["self","number","text","there","done"]
abbrev aB2:=Im (Gv fld "page_texts" Aa[0]) Aa[1] Ax[.add][slF Aa[2] By Dh[Aa[4]]][slF ixF[Gv fld "page_texts" Aa[0]][Aa 1] Dh[Aa[4]] By]
abbrev aB9:=Ai (Hr 1 yA[kS["neither the number of a page that is there nor the next one"]]) An
def Aai:MS:=Ai (Bx 3 zA[Ex][Gv fld "page_texts" Aa[0]])
 (Ai ifS[orT Jd[Do[zA Fz Aa[1]]] orT[tQ .Lt Aa[1] kI[0]][tQ .Gt Aa[1] Aa[3]]][aB9][An]
 (Ai (ifS Jd[Do[zB[Cp][Aa[2]][Gv fld "size" Aa[0]]]] (Ai J0[6][[]][yB Aa[1] kS["no page's text of the disk's size"]]
  An) An)
 (Ai Bx[4][Bv (λc n=>Ac.lookup[u6 c n]) "begin_write" Aa[0] yA[Aa[2]]]
 (Ai (ifS (tQ .Eq Aa[1] Aa[3]) (Ai G9[Jc .lst Gg (Gv fld "page_texts" Aa[0]) yA[Ax[.mul][kS[" "]][Gv fld "size" Aa[0]]]]
  An) An)
 (Ai aB2
 (Ai G9[Bv (λc n=>Ac.lookup[u6 c n]) "end_write" Aa[0] nilF]
 An))))))
def Mj:=Cg 3 5 Aai
def Aln:eE Aah Bp Alm Ac Af Aai:=by rfl'
def Ml:=uE 14 "write" Mj 3 Ac
abbrev Agt:cO:=inClass top[71] 6
def Aqr:lg t6:=["self","row","done"]
def Agu:MS:=Ai (ifS Jd[Do[zA Jq Aa[1]]] (Ai (Hr 2 yA[kS["no text"]])
  An) An)
 (Ai Bx[2][Bv (λc n=>Ml.lookup[u6 c n]) "begin_write" Aa[0] yA[Aa[1]]]
 (Ai G9[Jc .lst Gg (Gv fld "row_texts" Aa[0]) yA[slF Aa[1] By Dh[Aa[2]]]]
 (Ai G9[Bv (λc n=>Ml.lookup[u6 c n]) "end_write" Aa[0] nilF]
 An)))
def Xd:=Cg 2 3 Agu
def Aqs:eE Agt Bp Aqr Ml Af Agu:=by rfl'
def Q7:=uE 14 "add" Xd 2 Ml
abbrev Aaj:cO:=inClass top[71] 7
def Aak:MS:=Ai G9[Bv (λc n=>Q7.lookup[u6 c n]) "begin_write" Aa[0] yA[kS[""]]]
 (Ai (ifS Jd[Do[Gv fld "off" Aa[0]]] (Ai (Jy fld "row_texts" Aa[0] Dr[nilF])
  An) An)
 (Ai G9[Bv (λc n=>Q7.lookup[u6 c n]) "end_write" Aa[0] nilF]
 An))
def Aal:=Cg 1 1 Aak
def Alo:eE Aaj Bp Bg Q7 Af Aak:=by rfl'
def Aam:=uE 14 "clear" Aal 1 Q7
abbrev Rk:cO:=inClass top[71] 0
def Rm:lg t6:=["self","size"]
abbrev aC0:=ifS Jd[Do[zA Ib Aa[1]]] Ai[Hr 3 yA[kS["no size from 64 to 200"]]][An] An
def Rn:MS:=Ai aC0
 (Ai (Jy fld "size" Aa[0] Aa[1])
 (Ai (Jy fld "page_texts" Aa[0] Dr[nilF])
 (Ai (Jy fld "row_texts" Aa[0] Dr[nilF])
 (Ai (Jy fld "begun" Aa[0] kI[0])
 (Ai (Jy fld "off" Aa[0] kB[t7])
 (Ai (Jy fld "turns_left" Aa[0] kI[0])
 (Ai (Jy fld "signs_done" Aa[0] kI[0])
 An)))))))
def Fj:=Cg 2 2 Rn
def Adw:eE Rk Bp Rm Aam Af Rn:=by rfl'
def Ao:=uE 14 "__init__" Fj 2 Aam
abbrev Vh:cO:=top 83
def Aob:lg t6:=["_law_deed","e"]
abbrev aB4:=rQ Dr[yC[zA Ew Aa[1]][Gv fld "number" Aa[1]][zB[Hd isa][Gv fld "number" Aa[1]][kF .ty["bool"]]]]
def Acy:MS:=Ai (Aim exm[6] exn[6] exm[0] 1 rQ[Dr[yA[Afd[md.lams Bp Ao Af][Aa 0]]]] aB4 rQ[Dr[yA[zA Ew Aa[1]]]])
 An
def Bq:=Cg 1 2 Acy
def Aoc:K6[Bc Vh][md.gm Bp Aob Am[Vh] Ao Af sy sr[md.lams Bp Ao Af]]=Acy:=by rfl'
def Acz:=tE "_law_told" Bq 1 Bp
abbrev Aje:cO:=top 61
def Abv:lg t6:=["page"]
def Ajf:MS:=Ai (ifS Jd[Do[zA Mr Aa[0]]] (Ai J0[6][[]][yB kF[.non] kS["no page"]]
  An) An)
 (rQ[zA N6 Aa[0]])
def Qo:=Cg 1 1 Ajf
def Avx:eE Aje Acz Abv Ao Af Ajf:=by rfl'
def Ajg:=tE "body_of" Qo 1 Acz
abbrev Ajh:cO:=top 45
def Aji:lg t6:=["size"]
def Ajj:MS:=rQ[Ax .sub Aa[0] kI[5]]
def Abw:=Cg 1 1 Ajj
def Avy:eE Ajh Ajg Aji Ao Af Ajj:=by rfl'
def Ajk:=tE "room_of" Abw 1 Ajg
abbrev Ac0:cO:=top 63
def Aod:lg t6:=["page","size","body","text"]
def Ac1:MS:=Ai Bx[2][zA Qo Aa[0]]
 (Ai aC0
 (Ai (ifS tQ[.Gt][zA Ex Aa[2]][zA Abw Aa[1]] (Ai J0[6][[]][yB kF[.non] kS["a page that is too long for its size"]]
  An) An)
 (Ai Bx[3][zC Ia Aa[0] Aa[2] Aa[1]]
 (rQ Ax[.add][Aa[3]][zA M7 Aa[3]]))))
def Gz:=Cg 2 4 Ac1
def Aoe:eE Ac0 Ajk Aod Ao Af Ac1:=by rfl'
def Ac2:=tE "page_text" Gz 2 Ajk
abbrev Aan:cO:=top 75
def Alp:lg t6:=["_law_signs_here"]
def Aao:MS:=Ai (Bx 0 kS[" !\"#$&'()*+,-./0123456789:;<=>?@ABCDEFGHIJKLMNOPQRSTUVWXYZ[\\]^_`"])
 (rQ[Ax .add Aa[0] kS["abcdefghijklmnopqrstuvwxyz{|}~"]])
def Ke:=Cg 0 1 Aao
def Alq:eE Aan Ac2 Alp Ao Af Aao:=by rfl'
def Aap:=tE "_law_signs" Ke 0 Ac2
abbrev Ac3:cO:=top 76
def Aof:lg t6:=["_law_tape_here","_law_size_here","_law_first","_law_step"]
def Ac4:MS:=Ai Bx[2][zB Al Aa[0] kI[94]]
 (Ai (Bx 3 Ax[.add][kI[1]][zB Al Aa[0] kI[93]])
 (rQ[Jc .str Ss kS[""] yA[Gd 1 [2,3] (Rr Kh yA[Aa[1]]) El[0] (λuw=>pure t8) ixF[Ds Ke nilF][Ax .mod Ax[.add][Aa[1]][Ax .mul Aa[0] Aa[2]] kI[94]]]]))
def G3:=Cg 2 4 Ac4
def Aog:eE Ac3 Aap Aof Ao Af Ac4:=by rfl'
def Ac5:=tE "_law_text" G3 2 Aap
abbrev Ac6:cO:=top 77
def Aoh:lg t6:=["_law_tape_here","_law_many","_law_base","_law_at","_law_size_here","_law_signs_here"]
def Ac7:MS:=Ai Bx[2][zB G3 Aa[0] kI[12]]
 (Ai (ifS tQ[.Eq][zB Al Aa[0] kI[3]][kI[0]] rQ[Gd[1][[2]][Rr Kh yA[Aa[1]]][El 0][λuw=>pure t8][slF Aa[1] By Dh[Ax .add Aa[0] kI[1]]]] An)
 (Ai Bx[3][zB Al Aa[0] kI[12]]
 (Ai Bx[4][Ax .add Aa[3] zB[Al][Aa[0]][Ax .sub kI[13] Aa[3]]]
 (Ai (Bx 5 slF[zB G3 Aa[0] kI[94]][By][Dh[Aa[1]]])
 (rQ zA[K4][Gd 1 [3,2,4] Hc[Aa[5]] El[0] (λuw=>pure t8) Ax[.add][Ax[.add][slF Aa[2] By Dh[Aa[1]]][Aa[0]]][slF Aa[2] Dh[Ax .add Aa[1] kI[1]] Dh[Aa[3]]]])))))
def N7:=Cg 2 6 Ac7
def Aoi:eE Ac6 Ac5 Aoh Ao Af Ac7:=by rfl'
def Ac8:=tE "_law_keys" N7 2 Ac5
abbrev Wo:cO:=top 78
def Ahq:lg t6:=["_law_tape_here","_law_page_here","_law_key","_law_size_here","_law_most","_law_cell"]
abbrev aB8:=rQ Gu[yB kS["leaf"] Ax[.add][ixF Aa[1] kI[1]][Gu[yA[Gu[yB Aa[2] Aa[5]]]]]]
def Wq:MS:=Ai (ifS tQ[.Eq][ixF Aa[1] kI[0]][kS["fork"]] rQ[Gu[yC kS["fork"] Ax[.add][ixF Aa[1] kI[1]][Gu[yA[Aa[2]]]] Ax[.add][ixF Aa[1] kI[2]][Gu[yA[Ax[.add][kI[1]][zB Al Aa[0] Aa[4]]]]]]] An)
 (Ai (Bx 5 Gu[yC kS["out"] Ax[.add][kI[1]][zB Al Aa[0] kI[400]] Ax[.add][kI[1]][zB Al Aa[0] Aa[4]]])
 (Ai (ifS tQ[.Gt][zB Al Aa[0] kI[3]][kI[0]] (Ai (Bx 5 Gu[yB kS["in"] zB[G3][Aa[0]][zB Al Aa[0] Ax[.add][Ax .fdiv Aa[3] kI[8]][kI[1]]]])
  An) An)
 aB8))
def Le:=Cg 5 6 Wq
def Ahr:eE Wo Ac8 Ahq Ao Af Wq:=by rfl'
def Wr:=tE "_law_longer" Le 5 Ac8
abbrev Ac9:cO:=top 79
def Aoj:lg t6:=["_law_tape_here","_law_size_here","_law_most","_law_way","_law_some","_law_long","_law_page_here","_law_key","_law_more"]
abbrev aA7:=Ai Sq[Hc zB[N7][Aa[0]][zB Al Aa[0] kI[10]]][El 7][Ai Bx[8][Ds Le Cu[Aa 0][yD Aa[6] Aa[7] Aa[1] Aa[2]]] Ai[ifS tQ[.LtE][zA[Ex][zA Qo Aa[8]]][Ax .sub Aa[1] kI[5]] Ai[Bx 6 Aa[8]][An] An][An]] rQ[Aa[6]]
def Ada:MS:=Ai Bx[3][zB Al Aa[0] kI[6]]
 (Ai (ifS (tQ .Eq Aa[3] kI[0]) (Ai Bx[4][Gd 1 [2,0] (Rr Kh yA[kI[4]]) El[0] (λuw=>pure t8) zB[Al][Aa[2]][Ax .add Aa[1] kI[1]]]
  (rQ Gu[Cu kS["head"] yD[ixF Aa[4] kI[0]][ixF Aa[4] kI[1]][ixF Aa[4] kI[2]][ixF Aa[4] kI[3]]])) An)
 (Ai ifS[tQ .Eq Aa[3] kI[1]][rQ[Gu[yB kS["free"] zB[Al][Aa[0]][Ax .add Aa[2] kI[1]]]]][An]
 (Ai (ifS (tQ .Eq Aa[3] kI[2]) (Ai (Bx 5 ixF[Dr yC[Ax .add kI[1] zB[Al][Aa[0]][Ax .sub Aa[1] kI[7]]][Ax .sub Aa[1] kI[7]][kI 1]][zB Al Aa[0] kI[3]])
  (rQ Gu[yC[kS "rest"][zB G3 Aa[0] Aa[5]][zB Al Aa[0] (Ax .add Aa[2] kI[1])]])) An)
 (Ai (Bx 6 Gu[yB kS["leaf"] Gu[nilF]])
 (Ai (ifS (tQ .Eq Aa[3] kI[3]) (Ai (Bx 6 Gu[yC kS["fork"] Gu[nilF] Gu[yA[Ax[.add][kI[1]][zB Al Aa[0] Aa[2]]]]])
  An) An)
 aA7)))))
def Lp:=Cg 3 9 Ada
def Aok:eE Ac9 Wr Aoj Ao Af Ada:=by rfl'
def Adb:=tE "_law_page" Lp 3 Wr
abbrev Ro:cO:=top 82
def Adx:lg t6:=["_law_tape_here","_law_size_here","_law_text_here","_law_at","_law_other","_law_some","_law_other_size"]
def Rp:MS:=Ai (Bx 2 zB[Gz][zC Lp Aa[0] Aa[1] kI[60]][Aa[1]])
 (Ai Bx[3][zB Al Aa[0] Aa[1]]
 (Ai (Bx 4 ixF[Ds Ke nilF][Ax .mod Ax[.add][Ax[.add][Jc .str Su (Ds Ke nilF) yA[ixF Aa[2] Aa[3]]][kI[1]]][zB Al Aa[0] kI[93]] kI[94]])
 (Ai (Bx 5 Dr[Cu[kF .non][Cu kI[5] Cu[kB t8][Cu Dr[yA[Aa[2]]] Cu[Ax .add Aa[2] kS["0"]][Cu[slF Aa[2] By Dh[Afo[kI[1]]]][yD[kS ""][Ax .mul kS[" "] Aa[1]][Ax .add Ax[.add][slF Aa[2] By Dh[Aa[3]]][Aa[4]] (slF Aa[2] Dh[Ax .add Aa[3] kI[1]] By)][Sx []]]]]]])
 (Ai Bx[6][Ax .add kI[64] Ax[.mod][Ax .sub Ax[.add][Ax .add Aa[1] kI[1]][zB Al Aa[0] kI[136]] kI[64]][kI[137]]]
 (rQ ixF[Ax .add Aa[5] Dr[yB[zB Gz Gu[yB kS["free"] kI[3]] Aa[6]][Ax .add Ax[.add][slF Aa[2] By Dh[Aa[3]]][kS["\n"]] (slF Aa[2] Dh[Ax .add Aa[3] kI[1]] By)]]][zB Al Aa[0] kI[12]])))))
def Ls:=Cg 2 7 Rp
def Ady:eE Ro Adb Adx Ao Af Rp:=by rfl'
def Rq:=tE "_law_odd_text" Ls 2 Adb
abbrev Ft:cO:=top 86
def Aol:lg t6:=["_law_tape_here","_law_disk","_law_world","_law_size_here","_law_texts","_law_rows","_law_way","_law_number","_law_text_here","_law_row","_law_odd","_law_good"]
def l_0:Lm:=Ap7 ("_law_done" ++ ".<locals>." ++ "<lambda>":t6) (xA 0 xL[xSt[(Bc Ft).getD 11 default]])
def l_1:Lm:=Ap7 ("_law_done" ++ ".<locals>." ++ "<lambda>":t6) (xA 0 xL[xSt[pIf[(Bc Ft).getD 4 default][3]]])
def l_2:Lm:=Ap7 ("_law_done" ++ ".<locals>." ++ "<lambda>":t6) (xA 0 xL[xSt[pIf[(Bc Ft).getD 5 default][3]]])
def l_3:Lm:=Ap7 ("_law_done" ++ ".<locals>." ++ "<lambda>":t6) (xA 0 xL[xSt[pIf[(Bc Ft).getD 6 default][2]]])
def l_4:Lm:=Ap7 ("_law_done" ++ ".<locals>." ++ "<lambda>":t6) (xA 0 xL[xSt[pIf[(Bc Ft).getD 8 default][0]]])
def l_5:Lm:=Ap7 ("_law_done" ++ ".<locals>." ++ "<lambda>":t6) (xA 0 xL[xSt[pIf[(Bc Ft).getD 8 default][1]]])
abbrev aA2:=Ai (Bx 10 ixF[Dr Cu[Afo kI[1]][Cu Ax[.add][zA Ex Aa[4]][kI[1]] Cu[kB t8][Cu kF[.non] yD[kS "0"][Dr yA[kI[0]]][Ax .pow kI[10] kI[20]][kB t7]]]][zB Al Aa[0] kI[8]]) Ai[Bx 11 ixF[Dr yB[Aa 8][zB Gz Gu[yB kS["free"] kI[0]] Aa[3]]][zB Al Aa[0] kI[2]]][rQ Ec[.Eq][Dl 0 l_0 [1,11,10] Bq][Dr[yA[kS["number "]]]]]
abbrev aA9:=Im Aa[2] kS["begun"] Ax[.add][ixF Aa[2] kS["begun"]][kI[1]]
abbrev aA4:=Ai (Bx 8 zB[Gz][zC Lp Aa[0] Aa[3] kI[60]][Aa[3]]) Ai[Im Aa[2] kS["texts"] Ax[.add][Ax[.add][slF Aa[4] By Dh[Aa[7]]][Dr[yA[Aa[8]]]]][slF Aa[4] Dh[Ax .add Aa[7] kI[1]] By]][Ai aA9 rQ[Ec[.Eq][Dl 0 l_1 [1,7,8] Bq][Dr[yA[kF[.non]]]]]]
abbrev aA5:=Ai Bx[9][zB G3 Aa[0] Ax[.mul][zB Al Aa[0] kI[3]][zB Al Aa[0] kI[120]]] Ai[Im[Aa 2][kS "rows"][Ax .add Aa[5] Dr[yA[Aa[9]]]]][Ai aA9 rQ[Ec[.Eq][Dl 0 l_2 [1,9] Bq][Dr[yA[kF[.non]]]]]]
abbrev aB0:=Ai[ifS tQ[.NotEq][Dl 0 l_4 [1,7] Bq][Dr[yA[kS["text "]]]] rQ[kB[t7]] An][rQ Ec[.Eq][Dl 0 l_5 [1,7,8] Bq][Dr[yC kS["page "] Aa[7] kB[t7]]]]
abbrev aB5:=Ai[Im Aa[2] kS["rows"] Dr[nilF]][Ai aA9 rQ[Ec[.Eq][Dl 0 l_3 [1] Bq][Dr[yA[kF[.non]]]]]]
def Adc:MS:=Ai Bx[3][ixF Aa[2] kS["size"]]
 (Ai (Bdz 4 5 Gu[yB[ixF Aa[2] kS["texts"]][ixF Aa[2] kS["rows"]]])
 (Ai Bx[6][zB Al Aa[0] kI[12]]
 (Ai (Bx 7 ixF[Dr yB[zA Ex Aa[4]][zB Al Aa[0] Ax[.add][zA Ex Aa[4]][kI[1]]]][zB Al Aa[0] kI[2]])
 (Ai ifS[tQ .Lt Aa[6] kI[6]][aA4][An]
 (Ai ifS[tQ .Lt Aa[6] kI[9]][aA5][An]
 (Ai ifS[tQ .Eq Aa[6] kI[9]][aB5][An]
 (Ai Bx[8][zB Ls Aa[0] Aa[3]]
 (Ai ifS[tQ .Eq Aa[6] kI[10]][aB0][An]
 aA2))))))))
def Jr:=Cg 3 12 Adc
def Aom:K6[Bc Ft][md.gm Rq Aol Am[Ft] Ao Af sr[u6[0]["_law_done" ++ ".<locals>." ++ "<lambda>"]]]=Adc:=by rfl'
def Brc:De->M W:=Bv[λc n=>Ao.lookup[u6 c n]]["write"][Aa 0][yB Aa[2] Aa[1]]
def Brd:md.lams Bp Ao Af l_0=lamF 3 Brc:=by rfl'
def Bre:Xp l_0=t8:=by rfl'
def Brf:De->M W:=Bv[λc n=>Ao.lookup[u6 c n]]["write"][Aa 0][yB Aa[1] Aa[2]]
def Brg:md.lams Bp Ao Af l_1=lamF 3 Brf:=by rfl'
def Brh:Xp l_1=t8:=by rfl'
def Bri:De->M W:=Bv (λc n=>Ao.lookup[u6 c n]) "add" Aa[0] yA[Aa[1]]
def Brj:md.lams Bp Ao Af l_2=lamF 2 Bri:=by rfl'
def Brk:Xp l_2=t8:=by rfl'
def Brl:De->M W:=Bv (λc n=>Ao.lookup[u6 c n]) "clear" Aa[0] nilF
def Brm:md.lams Bp Ao Af l_3=lamF 1 Brl:=by rfl'
def Brn:Xp l_3=t8:=by rfl'
def Bro:De->M W:=Bv (λc n=>Ao.lookup[u6 c n]) "add" Aa[0] yA[ixF[Dr[Cu kF[.non] Cu[kI 5][yD Dr[yA[kS["a"]]] kB[t8] kS["a\tb"] Gu[yA[kS["a"]]]]]][Ax .mod Aa[1] kI[6]]]
def Brp:md.lams Bp Ao Af l_4=lamF 2 Bro:=by rfl'
def Brq:Xp l_4=t8:=by rfl'
def Brr:De->M W:=Bv[λc n=>Ao.lookup[u6 c n]]["write"][Aa 0][yB Aa[1] Aa[2]]
def Brs:md.lams Bp Ao Af l_5=lamF 3 Brr:=by rfl'
def Brt:Xp l_5=t8:=by rfl'
def Ade:=tE "_law_done" Jr 3 Rq
abbrev Adf:cO:=top 80
def Adg:lg t6:=["_law_tape_here"]
def Adh:MS:=rQ ixF[Dr[yD kI[64] kI[200] Ax[.add][kI[64]][zB Al Aa[0] kI[137]] Ax[.add][kI[64]][zB Al Aa[0] kI[20]]]][zB Al Aa[0] kI[4]]
def Lq:=Cg 1 1 Adh
def Aon:eE Adf Ade Adg Ao Af Adh:=by rfl'
def Js:=tE "_law_size" Lq 1 Ade
abbrev Ws:cO:=inClass top[71] 4
def Wt:MS:=rQ[Gv fld "off" Aa[0]]
def Wu:=Cg 1 1 Wt
def Ahs:eE Ws Js Bg Ao Af Wt:=by rfl'
def Wv:=uE 14 "is_off" Wu 1 Ao
abbrev Aaq:cO:=inClass top[71] 1
def Aar:MS:=rQ zA[Xr][Gv fld "page_texts" Aa[0]]
def Aas:=Cg 1 1 Aar
def Alr:eE Aaq Js Bg Wv Af Aar:=by rfl'
def Aat:=uE 14 "pages" Aas 1 Wv
abbrev Adi:cO:=inClass top[71] 2
def Adj:MS:=rQ zA[Xr][Gv fld "row_texts" Aa[0]]
def Adk:=Cg 1 1 Adj
def Aoo:eE Adi Js Bg Aat Af Adj:=by rfl'
def Adl:=uE 14 "rows" Adk 1 Aat
abbrev Ww:cO:=inClass top[71] 3
def Wx:MS:=rQ[Gv fld "begun" Aa[0]]
def Wy:=Cg 1 1 Wx
def Aht:eE Ww Js Bg Adl Af Wx:=by rfl'
def Cz:=uE 14 "writes" Wy 1 Adl
abbrev Ajl:cO:=top 84
def Ajm:lg t6:=["_law_found","_law_due"]
def Ajn:MS:=rQ Il[zB Hd[isa] Aa[0] kF[.ty["list"]]][Ec .Eq Aa[0] Aa[1]]
def V5:=Cg 2 2 Ajn
def Avz:eE Ajl Js Ajm Cz Af Ajn:=by rfl'
def Ajo:=tE "_law_is" V5 2 Js
abbrev Adm:cO:=top 85
def Aop:lg t6:=["_law_disk","_law_texts","_law_rows","_law_begun","_law_turn","_law_held","_law_k","_law_way","_law_found"]
abbrev aA6:=Ai G9[Jc .lst Gg Aa[8] yA[kS["more"]]] (Ai G9[Jc .lst Gg Aa[5] yA[Gu[yB[Aa 8][zA Xr Aa[8]]]]] An)
abbrev aB7:=Ai (ifS Jd[Do[zB[V5][Aa[8]][ixF Dr[yB Aa[1] Aa[2]] Aa[7]]]] rQ[kB[t7]] An) aA6
def Adn:MS:=Ai (Sq (Rr Kh yA[kI[3]]) El[6] (Ai (Bx 7 Ax[.mod][Ax .add Aa[4] Aa[6]][kI[3]])
  (Ai (ifS Aku[tQ .Eq Aa[7] kI[2]][orT tQ[.NotEq][Bv (λc n=>Cz.lookup[u6 c n]) "writes" Aa[0] nilF][Aa[3]] Do[zB[Hd isa][Bv (λc n=>Cz.lookup[u6 c n]) "writes" Aa[0] nilF][kF .ty["bool"]]]] rQ[kB[t7]] An)
  (Ai (ifS Aku[tQ .Eq Aa[7] kI[2]][tQ .IsNot (Bv (λc n=>Cz.lookup[u6 c n]) "is_off" Aa[0] nilF) kB[t7]] rQ[kB[t7]] An)
  (Ai (ifS (tQ .Lt Aa[7] kI[2]) (Ai (Bx 8 Afa[tQ .Eq Aa[7] kI[0]][Bv (λc n=>Cz.lookup[u6 c n]) "pages" Aa[0] nilF][Bv (λc n=>Cz.lookup[u6 c n]) "rows" Aa[0] nilF])
   aB7) An)
  An)))))
 (rQ Afa[tQ .NotEq Aa[1] Dr[nilF]][Ec .Eq (Gv fld "size" Aa[0]) zA[Ex][ixF Aa[1] kI[0]]][kB t8])
def Jt:=Cg 6 9 Adn
def Aoq:eE Adm Ajo Aop Cz Af Adn:=by rfl'
def Aor:=tE "_law_seen" Jt 6 Ajo
abbrev Agv:cO:=top 87
def Bo8:lg t6:=["_law_script","_law_tape_here","_law_odd","_law_worlds","_law_disks","_law_held","_law_k","_law_turn","_law_j","_law_world"]
def l_6:Lm:=Ap7 ("law" ++ ".<locals>." ++ "<lambda>":t6) (xA 0 xL[xSt[(Bc Agv).getD 2 default]])
abbrev aA8:=Ai Bx[9][ixF Aa[3] Aa[8]] Ai[ifS Jd[Do[Ds Jt Cu[ixF Aa[4] Aa[8]][Cu[ixF Aa[9] kS["texts"]][yD[ixF Aa[9] kS["rows"]][ixF Aa[9] kS["begun"]][zB Al Aa[1] kI[3]][Aa 5]]]]] rQ[kB[t7]] An][An]
abbrev aA0:=Ai (Bx 6 Ax[.fdiv][zB Al Aa[1] kI[3]][kI[2]]) Ai[ifS Jd[Do[zC[Jr][Aa 1][ixF Aa[4] Aa[6]][ixF Aa[3] Aa[6]]]] rQ[kB[t7]] An][Ai[Sq Hc[Dr[yB[Aa 6][Ax .sub kI[1] Aa[6]]]] El[8] aA8][An]]
abbrev aA3:=rQ Il[Ec .Eq (Gd 2 [] Hc[Aa[5]] Ads[[0,1]] (tQ .NotEq Aa[0] Aa[1]) kI[1]) Dr[nilF]][Ec .Eq Gv[fld]["size"][ixF Aa[4] kI[0]] ixF[ixF Aa[3] kI[0]][kS "size"]]
abbrev aB3:=G9[Jc .lst Gg Aa[3] yA[Sx[[((kS "size"),(zA Lq Aa[1])),((kS "texts"),(Dr nilF)),((kS "rows"),(Dr nilF)),((kS "begun"),(kI 0))]]]]
abbrev aC1:=Ai Sq[Rr Kh yA[Ax[.add][kI[4]][zB Al Aa[1] kI[27]]]][El[7]][aA0] aA3
def Bh1:MS:=Ai Bx[1][zA Tw Aa[0]]
 (Ai (Bx 2 ixF[Dr[Cu kI[63] Cu[kI 201][Cu kB[t8] Cu[kF .non][Cu kS["64"] yD[Dr yA[kI[64]]][kI 0][Ax .pow kI[10] kI[20]][Afo kI[64]]]]]][zB Al Aa[1] kI[9]])
 (Ai (ifS tQ[.NotEq][Dl 1 l_6 [2] Bq][Dr[yA[kS["size "]]]] rQ[kB[t7]] An)
 (Ai (Bx 3 Dr[nilF])
 (Ai (Bx 4 Dr[nilF])
 (Ai (Bx 5 Dr[nilF])
 (Ai (Sq (Rr Kh yA[kI[2]]) El[6] (Ai aB3
  (Ai G9[Jc .lst Gg Aa[4] yA[zA[λws=>Ni 14 Fj ws][ixF[ixF Aa[3] Aa[6]][kS "size"]]]]
  An)))
 aC1))))))
def Bae:=Cg 1 10 Bh1
def Bo9:K6[Bc Agv][md.gm Aor Bo8 Am[Agv] Cz Af sr[u6[1]["law" ++ ".<locals>." ++ "<lambda>"]]]=Bh1:=by rfl'
def Bru:De->M W:=zA[λws=>Ni 14 Fj ws][Aa 0]
def Brv:md.lams Bp Ao Af l_6=lamF 1 Bru:=by rfl'
def Brw:Xp l_6=t8:=by rfl'
def qs:lg t6:=["_law_done" ++ ".<locals>." ++ "<lambda>","law" ++ ".<locals>." ++ "<lambda>"]
abbrev Eo:cO:=inClass top[8] 0
theorem Adz:Hn ["self","number","words"] ["self","number","words"] Am[Eo]:=(rfl,rfl,rfl,(),rfl,(),())
abbrev Fv:cO:=inClass top[9] 0
theorem Ahu:Hn ["self","key","words"] ["self","key","words"] Am[Fv]:=(rfl,rfl,rfl,(),rfl,(),())
def all_mk{l:zL}{w:dW}{K:aB}{h:dI}{mg:t6->o9 aF}{fa:aH}{U c1 c2 c3 c4 c5 T S c8 c9 u r q g d:aH}{f28 Q O:aH}{od28 J od66 an66 od67 an67:o9 aH}{sl28 sl66 sl67:Array o9[aF]}{oc28 E H C y I oc66 kV66 dc66 pm66 cd66 ct66 oc67 kV67 dc67 pm67 cd67 ct67:aF}{j:lg aH}{A0 A1:aH}{Z:aH}{do28:aF}{dd28:o9 aH}{dn28:Nat}{dz28:Array o9[aF]}{F:Tok}{t66:aH}{do66:aF}{dd66:o9 aH}{dn66:Nat}{dz66:Array o9[aF]}{dk66_1:Tok}{t67:aH}{do67:aF}{dd67:o9 aH}{dn67:Nat}{dz67:Array o9[aF]}{dk67_1:Tok}{tk0 tk1 tk2 tk3 tk4 tk5 tk6 tk7 tk8 tk9 tk10 tk11 tk12 tk13 tk14 tk15 tk16 tk17:Tok}{m0:aH}(X:K.In h)(G:h.Ns mainGlobals mg)(hfa:mg "law"=sr .ref[fa])(C0:bA K mainGlobals "TableError"=sr sr[.ref[U]])(C1:bA K mainGlobals "BadNumber"=sr sr[.ref[c1]])(C2:bA K mainGlobals "BadText"=sr sr[.ref[c2]])(C3:bA K mainGlobals "BadSize"=sr sr[.ref[c3]])(C4:bA K mainGlobals "BadKey"=sr sr[.ref[c4]])(C5:bA K mainGlobals "BadValue"=sr sr[.ref[c5]])(C6:bA K mainGlobals "BadPage"=sr sr[.ref[T]])(C7:bA K mainGlobals "NoKey"=sr sr[.ref[S]])(C8:bA K mainGlobals "InBundle"=sr sr[.ref[c8]])(C9:bA K mainGlobals "NoBundle"=sr sr[.ref[c9]])(C10:bA K mainGlobals "PowerGone"=sr sr[.ref[u]])(C11:bA K mainGlobals "Closed"=sr sr[.ref[r]])(C12:bA K mainGlobals "BadLine"=sr sr[.ref[q]])(C13:bA K mainGlobals "BodyReader"=sr sr[.ref[g]])(C14:bA K mainGlobals "Disk"=sr sr[.ref[d]])(D0:Ey K mg "_law_tape" Acd Tv)(D1:Ey K mg "_law_draw" Acg ["_law_tape_here","_law_many"])(D2:Ey K mg "_law_word" Tz ["_law_error"])(D3:Pj K d "begin_write" "Disk.begin_write" Mz M3)(D4:Pj K d "end_write" "Disk.end_write" Qg Bg)(D5:Ey K mg "is_written_number" Lx Ay)(D6:Ey K mg "number_of" Acj Ep)(D7:Pj K g "__init__" "BodyReader.__init__" Kl Km)(D8:Pj K g "next_signs" "BodyReader.next_signs" Jm Bl)(D9:Pj K g "next_number" "BodyReader.next_number" Ip Bl)(D10:Pj K g "next_key" "BodyReader.next_key" Kq Bg)(D11:Pj K g "next_keys" "BodyReader.next_keys" J3 Bl)(D12:Pj K g "next_numbers" "BodyReader.next_numbers" Ih Bl)(D13:Pj K g "next_cell" "BodyReader.next_cell" J6 Bg)(D14:Pj K g "next_row" "BodyReader.next_row" Kv Bg)(D15:Pj K g "next_rows" "BodyReader.next_rows" J9 Bl)(D16:Ey K mg "told_page" Acl ["letter","body"])(D17:Ey K mg "is_whole" Af2 Ay)(D18:Ey K mg "digits" An0 ["number","many"])(D19:Ey K mg "is_text" Aiv Ay)(D20:Ey K mg "check_of" Af5 Ep)(D21:Ey K mg "has_right_check" Nr Ep)(D22:Ey K mg "told_by_text" T5 Ep)(D23:Ey K mg "word_of" Aiy Ay)(D24:Ey K mg "is_key" An3 Ay)(D25:Ey K mg "are_rising_keys" Nv Ny)(D26:Ey K mg "is_tuple_of" Wk Ld)(D27:Ey K mg "is_text_of" Aad Aae)(ca28:bA K mainGlobals "is_number"=sr sr[.ref[f28]])(cl28:K.lookup f28=sr (oc28,od28,.func[cQ "is_number" "is_number" Dy[Di] Bc[Di] Am[Di] .ref[Z] E H C J y I],sl28))(cc28:iZ K y "is_number"=t8)(ck28:cM K .ref[f28]=t8)(dl28:K.lookup Z=sr (do28,dd28,.seq #[(.int 0 F)] dn28,dz28))(D29:Ey K mg "is_cell" Ai1 Ay)(D30:Ey K mg "are_rows" Aga Ay)(D31:Ey K mg "are_keys" Agd Ay)(D32:Ey K mg "are_kids" Agg Ld)(D33:Ey K mg "is_page" Ai5 Ay)(D34:Ey K mg "unchecked_text" Ql ["page","body","size"])(D35:Ey K mg "is_size" Ai8 Ay)(D36:Ey K mg "numbers_text" T9 Va)(D37:Ey K mg "key_text" Agk Agl)(D38:Ey K mg "cell_text" Acq Acr)(D39:Ey K mg "row_text" Ago Agp)(D40:Ey K mg "body_text" Acv Abv)(D41:Ey K mg "page_of" Ajb Ep)(D42:Ey K mg "is_page_text" Ve Vf)(D43:Pj K d "write" "Disk.write" Aah ["self","number","text"])(D44:Pj K d "add" "Disk.add" Agt ["self","row"])(D45:Pj K d "clear" "Disk.clear" Aaj Bg)(D46:Pj K d "__init__" "Disk.__init__" Rk Rm)(D47:Ey K mg "_law_told" Vh ["_law_deed"])(D48:Ey K mg "body_of" Aje Abv)(D49:Ey K mg "room_of" Ajh Aji)(D50:Ey K mg "page_text" Ac0 ["page","size"])(D51:Ey K mg "_law_signs" Aan [])(D52:Ey K mg "_law_text" Ac3 ["_law_tape_here","_law_size_here"])(D53:Ey K mg "_law_keys" Ac6 ["_law_tape_here","_law_many"])(D54:Ey K mg "_law_longer" Wo ["_law_tape_here","_law_page_here","_law_key","_law_size_here","_law_most"])(D55:Ey K mg "_law_page" Ac9 ["_law_tape_here","_law_size_here","_law_most"])(D56:Ey K mg "_law_odd_text" Ro ["_law_tape_here","_law_size_here"])(D57:Asr K mg "_law_done" Ft ["_law_tape_here","_law_disk","_law_world"] A0)(D58:Ey K mg "_law_size" Adf Adg)(D59:Pj K d "is_off" "Disk.is_off" Ws Bg)(D60:Pj K d "pages" "Disk.pages" Aaq Bg)(D61:Pj K d "rows" "Disk.rows" Adi Bg)(D62:Pj K d "writes" "Disk.writes" Ww Bg)(D63:Ey K mg "_law_is" Ajl Ajm)(D64:Ey K mg "_law_seen" Adm ["_law_disk","_law_texts","_law_rows","_law_begun","_law_turn","_law_held"])(D65:Asr K mg "law" Agv Tv A1)(ca66:cF K .ref[T] "__init__"=sr sr[.ref[Q]])(cl66:K.lookup Q=sr (oc66,od66,.func[cQ "__init__" "BadPage.__init__" Dy[Eo] Bc[Eo] Am[Eo] .ref[t66] kV66 dc66 pm66 an66 cd66 ct66],sl66))(cc66:iZ K cd66 "BadPage.__init__"=t8)(ck66:cM K .ref[Q]=t8)(dl66:K.lookup t66=sr (do66,dd66,.seq #[.none,(.str "no page as it is wanted" dk66_1)] dn66,dz66))(ca67:cF K .ref[S] "__init__"=sr sr[.ref[O]])(cl67:K.lookup O=sr (oc67,od67,.func[cQ "__init__" "NoKey.__init__" Dy[Fv] Bc[Fv] Am[Fv] .ref[t67] kV67 dc67 pm67 an67 cd67 ct67],sl67))(cc67:iZ K cd67 "NoKey.__init__"=t8)(ck67:cM K .ref[O]=t8)(dl67:K.lookup t67=sr (do67,dd67,.seq #[.none,(.str "no such key" dk67_1)] dn67,dz67))(g0:bA K mainGlobals "SIGNS"=sr sr[.str "0123456789abcdefghijklmnopqrstuvwxyzABCDEFGHIJKLMNOPQRSTUVWXYZ+-" tk0])(g1:bA K mainGlobals "BITS"=sr sr[.int 6 tk1])(g2:bA K mainGlobals "LOWEST_BITS"=sr sr[.int 63 tk2])(g3:bA K mainGlobals "MOST_SIGNS"=sr sr[.int 3 tk3])(g4:bA K mainGlobals "TEXT_SIGNS"=sr sr[.str " !\"#$&'()*+,-./0123456789:;<=>?@ABCDEFGHIJKLMNOPQRSTUVWXYZ[\\]^_`abcdefghijklmnopqrstuvwxyz{|}~" tk4])(g5:bA K mainGlobals "CODES_AHEAD"=sr sr[.int 31 tk5])(g6:bA K mainGlobals "CHECK_DIVISOR"=sr sr[.int 4093 tk6])(g7:bA K mainGlobals "CHECK_SIGNS"=sr sr[.int 2 tk7])(g8:bA K mainGlobals "MOST_KEY_SIGNS"=sr sr[.int 12 tk8])(g9:bA K mainGlobals "MOST_VALUE_SIGNS"=sr sr[.int 400 tk9])(g10:bA K mainGlobals "LEAST_SIZE"=sr sr[.int 64 tk10])(g11:bA K mainGlobals "MOST_SIZE"=sr sr[.int 200 tk11])(g12:bA K mainGlobals "MOST_NUMBER"=sr sr[.int 4095 tk12])(g13:bA K mainGlobals "MOST_ROWS"=sr sr[.int 63 tk13])(g14:bA K mainGlobals "MOST_CELL_SIGNS"=sr sr[.int 63 tk14])(g15:bA K mainGlobals "NUMBER_SIGNS"=sr sr[.int 2 tk15])(g16:bA K mainGlobals "SIGNS_BESIDE_BODY"=sr sr[.int 5 tk16])(g17:bA K mainGlobals "BODY_START"=sr sr[.int 3 tk17])(z0:bA K mainGlobals "isinstance"=sr sy)(z1:bA K mainGlobals "len"=sr sy)(z2:bA K mainGlobals "ord"=sr sy)(z3:bA K mainGlobals "sum"=sr sy)(z4:bA K mainGlobals "all"=sr sy)(z5:bA K mainGlobals "tuple"=sr sy)(z6:bA K mainGlobals "list"=sr sy)(z7:bA K mainGlobals "sorted"=sr sy)(z8:bA K mainGlobals "range"=sr sy)(z9:bA K mainGlobals "zip"=sr sy)(z10:bA K mainGlobals "enumerate"=sr sy)(z11:bA K mainGlobals "set"=sr sy)(z12:bA K mainGlobals "int"=sr sy)(z13:bA K mainGlobals "bool"=sr sy)(z14:bA K mainGlobals "str"=sr sy)(z15:bA K mainGlobals "ValueError"=sr sy)(x0:We K U)(x1:We K c1)(x2:We K c2)(x3:We K c3)(x4:We K c4)(x5:We K c5)(x8:We K c8)(x9:We K c9)(x10:We K u)(x11:We K r)(x12:We K q)(isL:Aso K [U,c1,c2,c3,c4,c5,T,S,c8,c9,u,r,q,g,d] Boz=t8)(veL:Azf K [U,c1,c2,c3,c4,c5,T,S,c8,c9,u,r,q,g,d] Bfj=t8)(exL:Asq K [U,c1,c2,c3,c4,c5,T,S,c8,c9,u,r,q,g,d] Bo5=t8)(exN:Ass K [U,c1,c2,c3,c4,c5,T,S,c8,c9,u,r,q,g,d] Bo6=t8)(hA0:j[0]?=sr A0)(hA1:j[1]?=sr A1)(hAn:j.length=2)(mg0:bA K mainGlobals "LETTERS"=sr sr[.ref[m0]])(mt0:aCu[aCa λb=>K.lookup b][λb=>K.lookup b][m0][Qf.map λp=>(u6 p.1 qQ[.str[p.2]])]=t8)(xa66:Ahh K T Q=t8)(xk66:cM K .ref[T]=t8)(xf66:Bev K Q=t8)(xs66:xsB K T "number"=t8)(xb66:xbB K U=t8)(xa67:Ahh K S O=t8)(xk67:cM K .ref[S]=t8)(xf67:Bev K O=t8)(xs67:xsB K S "key"=t8)(xb67:xbB K U=t8)(cm13:lY K g=t8)(cy13:cM K .ref[g]=t8)(o:Avb K g=t8)(cm14:lY K d=t8)(cy14:cM K .ref[d]=t8)(m:Avb K d=t8)(fl:Asp K [U,c1,c2,c3,c4,c5,T,S,c8,c9,u,r,q,g,d] Bo0=t8)(xl:Azi K [U,c1,c2,c3,c4,c5,T,S,c8,c9,u,r,q,g,d] xfL=t8): ∃fd:dN,(∀(s:aO)(v:aF),zR s fd ([v],[]) [("_law_script",v)])/\(∀P∈j,∃c,gG K c P=t8)/\∀base:dI,K.In base->base.Ns mainGlobals mg->Bmo mg base->Hw l.prog w K mg base (CXo l.prog w) 136 fa fd ["_law_script"] spF[Azd K addrs[[U,c1,c2,c3,c4,c5,T,S,c8,c9,u,r,q,g,d]] (λc=>xfL.lookup c) j][Bae]:=by
 let hd0:∃c,gG K c A0=t8:=by let(_,_,_,_,_,c,_,_,_,z):=D57;exact(c,z)
 let(fL,kV,dc,pm,an,cc,ct,Fl,hm,hcl):=D65;let e:fa=fL:=aBa bY[hfa.symm.trans[hm]];rw[e];let hd1:∃c,gG K c A1=t8:=(cc,hcl);let hAll:∀P∈j,∃c,gG K c P=t8:=by
  intro P hP;let(i,hi,rfl):=kO hP;rw[hAn] at hi;let go:∀i A,j[i]?=sr A->(h:i < j.length)->(getElem[j][i][by get_elem_tactic])=A:=λi A z h=>bY[(aV h).symm.trans z]
  match i,hi with
  |0,_=>rw[go 0 A0 hA0];exact hd0
  |1,_=>rw[go 1 A1 hA1];exact hd1
  |n+2,h=>exact absurd h ()
 let F28:=Aba (st:=Di) cl28 cc28 ck28;let b28:Binds K (cQ "is_number" "is_number" Dy[Di] Bc[Di] Am[Di] .ref[Z] E H C J y I) ["thing","least"] []:=λs Y KX hl=>by
  let hl':Y.length=2:=by simpa using hl
  clear hl;revert Y;exact alS λ_=>alS λ_=>al0[.of_defaults rfl (KX _ _ dl28) rfl rfl rfl]
 let v28:Binds K (cQ "is_number" "is_number" Dy[Di] Bc[Di] Am[Di] .ref[Z] E H C J y I) ["thing","least"] [(.int 0 F)]:=λs Y KX hl=>by
  let hl':Y.length=1:=by simpa using hl
  clear hl;revert Y;exact alS λ_=>al0[.of_defaults rfl (KX _ _ dl28) rfl rfl rfl]
 let D28:Ng K mg "is_number" Di ["thing","least"] f28 (cQ "is_number" "is_number" Dy[Di] Bc[Di] Am[Di] .ref[Z] E H C J y I):=(F28,aY X G ca28,b28);let F66:=Aba (st:=Eo) cl66 cc66 ck66;let b66:Binds K (cQ "__init__" "BadPage.__init__" Dy[Eo] Bc[Eo] Am[Eo] .ref[t66] kV66 dc66 pm66 an66 cd66 ct66) ["self","number","words"] []:=λs Y KX hl=>by
  let hl':Y.length=3:=by simpa using hl
  clear hl;revert Y;exact alS λ_=>alS λ_=>alS λ_=>al0[.of_defaults rfl (KX _ _ dl66) rfl rfl rfl]
 let F67:=Aba (st:=Fv) cl67 cc67 ck67;let b67:Binds K (cQ "__init__" "NoKey.__init__" Dy[Fv] Bc[Fv] Am[Fv] .ref[t67] kV67 dc67 pm67 an67 cd67 ct67) ["self","key","words"] []:=λs Y KX hl=>by
  let hl':Y.length=3:=by simpa using hl
  clear hl;revert Y;exact alS λ_=>alS λ_=>alS λ_=>al0[.of_defaults rfl (KX _ _ dl67) rfl rfl rfl]
 refine(cQ "law" "law" Dy[Agv] Bc[Agv] Am[Agv] .none kV dc pm an .ref[cc] ct,λs v=>.of_eq rfl,hAll,λbase uw uw bm=>?_);letI B:=Azd K addrs[[U,c1,c2,c3,c4,c5,T,S,c8,c9,u,r,q,g,d]] (λc=>xfL.lookup c) j;let M:md.Ok B K mg:={
  hK:=rfl
  con:=AllP.at (L:=Bo1) (P:=Aze B mg) (Asj[aY X G g0],Gh[aY X G g1],Gh[aY X G g2],Gh[aY X G g3],Asj[aY X G g4],Gh[aY X G g5],Gh[aY X G g6],Gh[aY X G g7],Gh[aY X G g8],Gh[aY X G g9],Gh[aY X G g10],Gh[aY X G g11],Gh[aY X G g12],Gh[aY X G g13],Gh[aY X G g14],Gh[aY X G g15],Gh[aY X G g16],Gh[aY X G g17],Abm[cC X G z12][by rfl'],Abm[cC X G z13][by rfl'],Abm[cC X G z14][by rfl'],Abm[cC X G z5][by rfl'],Abm[cC X G z6][by rfl'],Abm[cC X G z15][by rfl'],G5[aY X G C0],G5[aY X G C1],G5[aY X G C2],G5[aY X G C3],G5[aY X G C4],G5[aY X G C5],G5[aY X G C6],G5[aY X G C7],G5[aY X G C8],G5[aY X G C9],G5[aY X G C10],G5[aY X G C11],G5[aY X G C12],G5[aY X G C13],G5[aY X G C14],trivial)
  bi:=AllB.at (L:=biL) (P:=λx=>mg x=sy) (cC X G z0,cC X G z1,cC X G z2,cC X G z3,cC X G z4,cC X G z5,cC X G z6,cC X G z7,cC X G z8,cC X G z9,cC X G z10,cC X G z11,cC X G z12,trivial)
  fld:=Bk4 fl xl
  isa:=Bk3 isL veL
  exc:=AllP.at (L:=Bo2) (P:=λx c=>B.xf c=sy/\We K B.cl[c]/\mg x=sr .ref[B.cl[c]]) ((rfl,x0,aY X G C0),(rfl,x1,aY X G C1),(rfl,x2,aY X G C2),(rfl,x3,aY X G C3),(rfl,x4,aY X G C4),(rfl,x5,aY X G C5),(rfl,x8,aY X G C8),(rfl,x9,aY X G C9),(rfl,x10,aY X G C10),(rfl,x11,aY X G C11),(rfl,x12,aY X G C12),trivial)
  mdc:=AllP.at (L:=Bo7) (P:=λx D=>∃a,Au8 K a D/\mg x=sr .ref[a]) ((_,Bew mt0,aY X G mg0),trivial)
  hcl:=AllP.at (L:=Bo4) (P:=λx k=>mg x=sr .ref[B.cl[k]]) (aY X G C0,aY X G C2,aY X G C6,trivial)
  exm:=λk c h=>Bk5 exL k c h
  exn:=λk c h=>Bk6 exN k c h
  mkl:=AllP.at (L:=mkL) (P:=λx c=>mg x=sr .ref[B.cl[c]]/\lY K B.cl[c]=t8/\cM K .ref[B.cl[c]]=t8) ((aY X G C13,cm13,cy13),(aY X G C14,cm14,cy14),trivial) }
 let hI:XiT B md l.prog w K mg base 1:=λx c dv h=>AllP.at (L:=Bo3) (P:=λx (p:Nat×lg W)=>∃f,B.xf p.1=sr f/\mg x=sr .ref[B.cl[p.1]]/\∃(fI:aH)(fd:dN)(ps:lg t6)(dvs:lg V)(ds:lg aF),Ahh K B.cl[p.1] fI=t8/\cM K .ref[B.cl[p.1]]=t8/\iY K .ref[fI]=sr .type["function"]/\(∀cm,Hw l.prog w K mg base (CXo l.prog w) 1 fI fd ps (Aki B.cl[p.1] f) cm)/\Binds K fd ps ds/\Vals dvs ds/\dvs.length=p.2.length) ((_,rfl,aY X G C6,Q,_,_,[],[],xa66,xk66,Asn xf66,λuw=>Bhd F66 Adz rfl (aY X G C0) Bhw[xb66] Bhv[xs66] xa66 () () () () () () (),b66,.nil,rfl),(_,rfl,aY X G C7,O,_,_,[],[],xa67,xk67,Asn xf67,λuw=>Bhd F67 Ahu rfl (aY X G C0) Bhw[xb67] Bhv[xs67] xa67 () () () () () () (),b67,.nil,rfl),trivial) x (u6 c dv) h
 let t:TU B md l.prog w K mg base 2 T_0 U_0 Q_0:=(QTb.nil,Tbl.nil,MTb.nil,hI,(),M)
 let t:=Gf Anr t D0;let t:=Gf Ant t D1;let t:=Bq6 Anv t D2;let t:=Qx (c:=14) W9 t m D3;let t:=Qx (c:=14) Abs t m D4;let t:=Gf Wg t D5;let t:=Gf Anx t D6;let t:=Qx (c:=13) Rt t o D7;let t:=Qx (c:=13) Qk t o D8;let t:=Qx (c:=13) Pq t o D9;let t:=Qx (c:=13) Ru t o D10;let t:=Qx (c:=13) Q3 t o D11;let t:=Qx (c:=13) Nf t o D12;let t:=Qx (c:=13) Q4 t o D13;let t:=Qx (c:=13) Rw t o D14;let t:=Qx (c:=13) Q5 t o D15;let t:=Gf Anz t D16;let t:=Gf Aqj t D17;let t:=Gf Bab t D18;let t:=Gf Avq t D19;let t:=Gf Aql t D20;let t:=Gf Aab t D21;let t:=Gf Af9 t D22;let t:=Gf Avr t D23;let t:=Gf Bac t D24;let t:=Gf Aac t D25;let t:=Gf Ahp t D26;let t:=Gf Alk t D27;let t:=Bot (dv:=[(.int 0)]) An7 t D28 rfl ((.cons (_,rfl) .nil)) v28;let t:=Gf Avs t D29;let t:=Gf Aqm t D30;let t:=Gf Aqn t D31;let t:=Gf Aqo t D32;let t:=Gf Avt t D33;let t:=Gf Abu t D34;let t:=Gf Avu t D35;let t:=Gf Agj t D36;let t:=Gf Aqp t D37;let t:=Gf An8 t D38;let t:=Gf Aqq t D39;let t:=Gf Aoa t D40;let t:=Gf Avw t D41;let t:=Gf Ags t D42;let t:=Qx (c:=14) Aln t m D43;let t:=Qx (c:=14) Aqs t m D44;let t:=Qx (c:=14) Alo t m D45;let t:=Qx (c:=14) Adw t m D46;let t:=Bq7 Aoc t D47;let t:=Gf Avx t D48;let t:=Gf Avy t D49;let t:=Gf Aoe t D50;let t:=Gf Alq t D51;let t:=Gf Aog t D52;let t:=Gf Aoi t D53;let t:=Gf Ahr t D54;let t:=Gf Aok t D55;let t:=Gf Ady t D56;let t:=Bq8 bm hA0 Aom t D57;let t:=Gf Aon t D58;let t:=Qx (c:=14) Ahs t m D59;let t:=Qx (c:=14) Alr t m D60;let t:=Qx (c:=14) Aoo t m D61;let t:=Qx (c:=14) Aht t m D62;let t:=Gf Avz t D63;let t:=Gf Aoq t D64;exact Bq9 bm hA1 Bo9 t (Fl,hm,Pz (BA.un (n:=1) λ_=>rfl)) (cc,rfl,hcl)
section
def Gq(i:Int):Pu P Fz[[.int i]] .bl[t8]:=(λS b=>([],by rw[bQ];rfl))
def Bfk(v:Int)(b:0<=v)(h:v < 64):Pu P (ixW .str["0123456789abcdefghijklmnopqrstuvwxyzABCDEFGHIJKLMNOPQRSTUVWXYZ+-"] .int[v]) .str[M1.one[M1.sg[v.toNat]]]:=by
 let(k,rfl):=tL b;let c:k < 64:=by omega
 let e:atI M1.sgs.cps.toList k=sr M1.sg[k]:=by
  unfold atI ixN;rw[di b,di[by trivial]]
  show M1.sgs.cps.toList[_]?=_;rw[fX,M1.Aqc c]
 show Pu P (if M1.sgs.length<=big then Ahl[(atI M1.sgs.cps.toList (k:Int)).map _] else bad) _
 exact e ▸ Lj (by trivial) Pu.pure
def Agw{n:Int}(f:0<=n)(e:t.length<=10):PuN P aB6
  [a,b,sr .str[t],sr .int[n],c] [a,b,sr .str[M1.one M1.sg[(n % 64).toNat] ++ t],sr .int[n / 64],c]:=by
 refine Ak2 Dm[Cq Dj[Ak][Cq Ag[rfl] Ak Pu.pure][?_] Ag[rfl] Gi[?_]] (Ak2 Dm[Cq[Ag[rfl]][Ak][Ap8 ()]] Aw)
 .rw[bitAnd_m6 _];exact Bfk _ () ()
 .show 1+_<=big;unfold big;omega
def Bfl{n:Int}(a:0<=n)(c:n < 64):Pu P Hu[[.int n,.int 1]] .str[M1.Ej 1 n]:=by
 apply Bu rfl;apply Dd Et[Es Br[Ah[Ad[Ab Ag[rfl] Ae][Gq n]]] Ah[Ar Ag[rfl] Ak X7]][by simp_all][Aw]
 refine Dd (Et Es[Br Ah[Ad[Ab Ag[rfl] Ae][Gq 1]]][Es Ah[Ar Ag[rfl] Ak X7] Ah[Ar Ag[rfl] Ak Rj]] rfl Aw) ?_;apply Dd Et[Ah[Ar Cq[Ag rfl][Cq Ak Ag[rfl] Aef[by rfl]][Ap8 ()] Ak Rj]][by grind][Aw]
 refine Dd[Dm Ak][Dd Dm[Ag[rfl]] ?_];refine Dd Ak4[Qy (Ab Ag[rfl] Ae) ()][X5 rfl Agw[a][by trivial] Ak3] Bo[Bb[Pu.cast Ag[rfl] ?_]]
 show W.str[_ ++ ⟨#[]⟩]=W.str[_ ++ ⟨_⟩];simp
def Als{n:Int}(b:0<=n)(c:n < 4096):Pu P Hu[[.int n,.int 2]] .str[M1.Ej 2 n]:=by
 apply Bu rfl;apply Dd[Et (Es Br[Ah[Ad[Ab Ag[rfl] Ae][Gq n]]] Ah[Ar Ag[rfl] Ak X7]) (by simp;omega) Aw]
 refine Dd (Et Es[Br Ah[Ad[Ab Ag[rfl] Ae][Gq 2]]][Es Ah[Ar Ag[rfl] Ak X7] Ah[Ar Ag[rfl] Ak Rj]] rfl Aw) ?_;apply Dd (Et Ah[Ar Cq[Ag rfl][Cq Ak Ag[rfl] (Aef ())][Ap8 ()] Ak Rj] (by
  simp;show n / 4096<=0;omega) Aw)
 refine Dd[Dm Ak][Dd Dm[Ag[rfl]] ?_];refine Dd (Ak4 (Qy (k:=2) (Ab Ag[rfl] Ae) ()) X5[rfl][Agw b ()][X5[rfl][Agw () (by show 1+0<=10;decide)][Ak3]]) Bo[Bb[Pu.cast Ag[rfl] ?_]]
 show _=W.str[M1.one M1.sg[(n / 64 ^ 1 % 64).toNat] ++ (M1.one M1.sg[(n / 64 ^ 0 % 64).toNat] ++ ⟨#[]⟩)];rw[Int.pow_zero,Int.ediv_one];rfl
end
section
def Bfm{c:Nat}:Pu P Auz[[.str ⟨#[c]⟩]] (.int (c:Nat)):=Pu.pure
def Aqt(g:Pu P f[Y] .str[z])(e:Pu P h[Y] b)(d:Pu P (c .str[z] b) w):Pu P (Jc .str c f h Y) w:=by
 refine g.bind (Pu.bind (a:=u9) (λS i=>([],?_)) e.bind[d]);rw[bQ];rfl
def Av0:("":t6)=⟨#[]⟩:=rfl
def V6(z:t6)(a:z.length<=big):Pu P Jq[[.str z]] .bl[M2.Dp[z]]:=by
 apply Bu rfl;apply Bo;apply Bb;apply Pu.cast[Ar Aqt[Ag rfl][Ab Ak Ae][Lj a Pu.pure] Ak Fy];show W.bl[jN z M2.tsg==_]=_;rw[Av0,M2.Aqd]
def len_str(hz:z.length<=big):Pu P Ex[[.str z]] .int[z.length]:=Lj hz Pu.pure
def G7:Pu P Ex[[.tup ws]] .int[ws.length]:=Pu.pure
def Mm:Pu P (Hd isa [.str z,.ty "str"]) .bl[t8]:=(λS a=>([],by rw[bQ];rfl))
def Aei:Pu P (Hd isa [.tup a,.ty "tuple"]) .bl[t8]:=(λS b=>([],by rw[bQ];rfl))
def isKey(z:t6):Bool:=M2.Dp z&&(decide[1<=z.length]&&decide[z.length<=12])
def Baf(z:t6)(a:z.length<=big):Pu P T8[[.str z]] .bl[isKey[z]]:=by
 apply Bu rfl;apply Bo;apply Bb;apply Pu.cast X6[Ad[Ab Ag[rfl] Ae][V6 z a]][Tf Ak Ad[Ab Ag[rfl] Ae][len_str a] Te Ak Te]
 congr 3
 .exact decide_eq_decide.mpr ()
 .exact decide_eq_decide.mpr ()
def Gr(n k:Int):Bool:=decide[k<=n]&&decide[n<=4095]
def Aqu(n k:Int):Pu P Fq[[.int n,.int k]] .bl[Gr n k]:=Bu rfl Bo[Bb[Eh[Ad[Ab Ag[rfl] Ae][Gq n]][Tf Ag[rfl] Ag[rfl] Te Ak Te]]]
def Ajp(z:t6)(a b:Int)(hz:z.length<=big):Pu P Mi[[.str z,.int a,.int b]] .bl[M2.Dp z&&(decide[a<=z.length]&&decide[(z.length:Int)<=b])]:=Bu rfl Bo[Bb[X6[Ad[Ab Ag[rfl] Ae][V6 z hz]][Tf Ag[rfl] Ad[Ab Ag[rfl] Ae][len_str hz] Te Ag[rfl] Te]]]
def Aos(ws:lg W)(n:Int):Pu P Iv[[.tup ws,.int n]] .bl[(ws.length:Int)==n]:=Bu rfl Bo[Bb[Eh[Ad Ab[Ag rfl][Ab Ak Ae] Aei][Ar Ad[Ab Ag[rfl] Ae][G7] Ag[rfl] Pn]]]
def Ci{i:Int}(h:atI a i=sr w):Pu P (ixW .tup[a] .int[i]) w:=by
 show Pu P Ahl[_] w;exact h ▸ Pu.pure
def Q8(z:t6)(a:lg W):Pu P V0[[.tup (.str z::a)]] .str[z]:=by
 let e:atI (W.str z::a) 0=sr W.str[z]:=by
  unfold atI ixN;simp
 apply Bu rfl;apply Bo;apply Wf
 .apply Ast
  .exact Ah[Ad Ab[Ag rfl][Ab Ak Ae] Aei]
  apply Ast
  .exact Ah[Ar Ad[Ab Ag[rfl] Ae][G7] Ak Rj]
  .exact Ah[Ad Ab[Dj Ag[rfl] Ak Ci[e]][Ab Ak Ae] Mm]
 .simp
 .exact Bo Bb[Dj Ag[rfl] Ak Ci[e]]
end
inductive Cl where
 |inn (t:t6)
 |out (n p:Int)
def Cl.w:Cl->W
 |.inn t=>.tup [.str "in",.str t]
 |.out n p=>.tup [.str "out",.int n,.int p]
def Cl.ok:Cl->Bool
 |.inn t=>M2.Dp t&&decide (t.length<=63)
 |.out n p=>decide[1<=n]&&decide[n<=400]&&Gr p 1
inductive Pg where
 |head (a b c d:Int)
 |leaf (rs:List (t6×Cl))
 |fork (ks:List t6) (ps:List Int)
 |rest (t:t6) (n:Int)
 |free (n:Int)
def Abx(r:t6×Cl):W:=.tup [.str r.1,r.2.w]
def Pg.w:Pg->W
 |.head a b c d=>.tup [.str "head",.int a,.int b,.int c,.int d]
 |.leaf rs=>.tup [.str "leaf",.tup rs.map[Abx]]
 |.fork ks ps=>.tup [.str "fork",.tup ks.map[W.str],.tup ps.map[W.int]]
 |.rest t n=>.tup [.str "rest",.str t,.int n]
 |.free n=>.tup [.str "free",.int n]
section
def Cl.sm:Cl->Prop
 |.inn t=>t.length<=400
 |.out _ _=>True
def Blh(c:Cl)(h:c.sm):Pu P V4[[c.w]] .bl[c.ok]:=by
 cases c with
 |inn t=>
  apply Bu rfl;refine Dd Dm[Ad[Ab Ag[rfl] Ae][Q8 _ _]] Bo[Wf Ah[Ar[Ag[rfl]][Ak][Du () ()]] () Bo[Bb[?_]]]
  refine Pu.cast Eh[Ar Ad[Ab Ag[rfl] Ae][G7] Ak Pn][Ad[Ab[Dj Ag[rfl] Ak Ci[rfl]][Ab[Ak][Ab Ak Ae]]][Ajp t 0 63 (aD h ())]] ?_
  unfold Cl.ok;rw[dj (by omega:(0:Int)<=t.length),pR,decide_eq_decide.mpr (by omega:((t.length:Int)<=63 ↔ t.length<=63))]
 |out n p=>
  apply Bu rfl;refine Dd Dm[Ad[Ab Ag[rfl] Ae][Q8 _ _]] Dd[Et Ah[Ar[Ag[rfl]][Ak][Du () ()]] () Aw][Bo[Wf Ah[Ar[Ag[rfl]][Ak][Du () ()]] () Bo[Bb[?_]]]]
  exact Eh (Ar Ad[Ab Ag[rfl] Ae][G7] Ak Pn) Eh[Ad Ab[Dj Ag[rfl] Ak Ci[rfl]][Ae] Gq[n]][X6[Tf Ak (Dj Ag[rfl] Ak Ci[rfl]) Te Ak Te][Ad[Ab[Dj Ag[rfl] Ak Ci[rfl]][Ab Ak Ae]][Aqu p 1]]]
end
def Qp(ks:lg t6):Bool:=(ks.zip ks.drop[1]).all λp=>Kg p.1 p.2
def Bpa(a:lg W):R9 a sr[1] sy=a.drop 1:=by
 unfold R9;cases a with
 |nil=>rfl
 |cons w a=>
  show (a.drop 0).take ((w::a).length - 1)=a.drop 0;simp
def zip_get(c ls:lg t6)(j:Nat):(c.zip ls)[j]?.map (λp=>W.tup [.str p.1,.str p.2])=match (c.map W.str)[j]?,(ls.map W.str)[j]? with|some a,sr b=>sr .tup[[a,b]]|_,_=>sy:=by
 rw[bK,bK,aEi,uI];cases c[j]? <;> cases ls[j]? <;> rfl
section
def Aqv{a:Type}(f:a->Bool)(l:lg a):(l.map f).all id=l.all f:=by simp
def Bpb{n:Nat}(g:∀S,P.p S->AtL n a.map[W.str] S)(q:a.length<=big)(r:∀k∈a,k.length<=big):Pu P Er[[.ref n]] .bl[a.all isKey&&Qp a]:=by
 let h:=Be1 (P:=P) (xs:=a) (φ:=W.str) (ψ:=λk=>W.bl isKey[k]) (τ:=λb=>t8) (s:=El 0) (t:=λb=>pure t8) (e:=Ds T8 yA[Aa[0]]) (k:=1) (cap:=[]) (Y:=Eb 1 [.ref n]) (src:=Hc Aa[0]) (n:=n) g
  (λS f=>([],by
   have:=g S f;unfold AtL at this;show (match S[n]? with|some (.lst _)=>R.ok Src.liv[n] S|_=>.bad)=_
   rw[this,bQ])) Be0 (λk d=>(Pu.pure,λb=>Ad (Ab Ag[rfl] Ae) Baf[k][r k d])) (sy,rfl) q
 rw[jZ.mpr[λb b=>rfl]] at h;let c:=Br (Ah (Ti (bs:=a.map isKey) (dO ▸ h)));rw[Aqv] at c;apply Bu (ws:=[.ref n]) rfl;cases l:a.all isKey with
 |false=>exact Bo (Wf c (by rw[l];rfl) Bo[Bb[Ak]])
 |true=>
 rw[pR];apply Dd
 .exact Et c (by rw[l];rfl) Aw
 .apply Bo;apply Bb;refine Pu.cast (Ti (bs:=(a.zip a.drop[1]).map λp=>Kg p.1 p.2) ?_) ?_
  .let h:=Be2 (P:=P) (xs:=a.zip a.drop[1]) (φ:=λp=>W.tup [.str p.1,.str p.2]) (ψ:=λp=>W.bl[Kg p.1 p.2]) (τ:=λb=>t8) (s:=Ads [0,1]) (t:=λb=>pure t8) (e:=Ec .Lt Aa[0] Aa[1]) (k:=2) (cap:=[]) (Y:=Eb 1 [.ref n]) (src:=Au7 yB[Aa 0][slF Aa[0] Dh[kI[1]] By]) (us:=a.map W.str) (vs:=(a.drop 1).map W.str)
    (λS f=>by
     let i:=g S f;let o:=i;unfold AtL at o;refine([.lst[(a.drop 1).map W.str]],n,S.length,?_,i.app _,?_)
     .let w:slF Aa[0] Dh[kI[1]] By (Eb 1 [.ref n]) S=.ok[.ref S.length][S ++ [.lst[(a.drop 1).map W.str]]]:=by
       show (match S[n]? with|some (.lst ws)=>Dg (R9 ws sr[1] sy) S|_=>.bad)=_
       rw[o];dsimp only;unfold Dg;rw[Bpa,<-vR,di (by rw[aJ,gD];omega)]
      let v:(yB[Aa 0][slF Aa[0] Dh[kI[1]] By]) (Eb 1 [.ref n]) S=.ok [.ref n,.ref S.length] (S ++ [.lst[(a.drop 1).map W.str]]):=by
       let u:yA[slF Aa[0] Dh[kI[1]] By][Eb 1 [.ref n]][S]=.ok [.ref S.length] (S ++ [.lst[(a.drop 1).map W.str]]):=by
        unfold yA Cu;rw[Cw,w];rfl
       unfold yB Cu;rw[Cw,show Aa 0 (Eb 1 [.ref n]) S=.ok .ref[n] S from rfl];dsimp only;rw[Cw,u];rfl
      unfold Au7;rw[Cw,v];show Bd9 [.ref n,.ref S.length] _=_;let m:=i.app [.lst[(a.drop 1).map W.str]];unfold AtL at m;unfold Bd9;dsimp only;rw[m,bG aN[_],gF];rfl
     .unfold AtL;rw[bG aN[_],gF];rfl) (λj=>zip_get _ _ j) () Aqa (λp b=>(Pu.pure,λb=>Ar Ag[rfl] Ag[rfl] Azl)) (sy,sy,rfl) (by rw[zM];omega)
   rw[jZ.mpr[λb b=>rfl]] at h
   rwa [dO]
  .unfold Qp;rw[aCe];rfl
end
section
def Vi{l h:De->M o9[Int]}{lo hi:o9 Int}(h1:Pu P f[Y] x)(h2:Pu P l[Y] lo)(h3:Pu P h[Y] hi)(h4:Pu P (slW x lo hi) w):Pu P (slF f l h Y) w:=h1.bind h2.bind[h3.bind[h4]]
def Fw{i:Int}(h:Pu P f[Y] .int[i]):Pu P (Dh f Y) sr[i]:=h.bind Pu.pure
def Gs:Pu P By[Y] sy:=Pu.pure
def Bpc(i:a.length<=big)(j:∀k∈a,k.length<=big):Pu P Er[[.tup a.map[W.str]]] .bl[a.all isKey&&Qp a]:=by
 let h:=Hf (P:=P) (xs:=a) (φ:=W.str) (ψ:=λk=>W.bl isKey[k]) (t:=λb=>pure t8) (e:=Ds T8 yA[Aa[0]]) (cs:=[]) (cap:=[]) (Y:=Eb 1 [.tup a.map[W.str]]) (src:=Hc Aa[0]) Nk[Ag[rfl]] rfl i (λk f=>(Pu.pure,Ad (Ab Ag[rfl] Ae) Baf[k][j k f]));let d:=Br (Ah (Ti (bs:=a.map isKey) (by rw[dO];exact h)))
 rw[Aqv] at d;apply Bu (ws:=[.tup a.map[W.str]]) rfl;cases g:a.all isKey with
 |false=>exact Bo (Wf d (by rw[g];rfl) Bo[Bb[Ak]])
 |true=>
 rw[pR];apply Dd
 .exact Et d (by rw[g];rfl) Aw
 .apply Bo;apply Bb;refine Pu.cast (Ti (bs:=(a.zip a.drop[1]).map λp=>Kg p.1 p.2) ?_) ?_
  .let l:Au6[a.map W.str][(a.map W.str).drop 1]=(a.zip a.drop[1]).map λp=>W.tup [.str p.1,.str p.2]:=by
    unfold Au6 aEi;rw[<-vR,List.map_zipWith,List.zipWith_map]
   let h:=Asw (P:=P) (xs:=a.zip a.drop[1]) (φ:=λp=>W.tup [.str p.1,.str p.2]) (ψ:=λp=>W.bl[Kg p.1 p.2]) (τ:=λb=>t8) (s:=Ads [0,1]) (t:=λb=>pure t8) (e:=Ec .Lt Aa[0] Aa[1]) (k:=2) (cap:=[]) (Y:=Eb 1 [.tup a.map[W.str]]) (src:=Au7 yB[Aa 0][slF Aa[0] Dh[kI[1]] By])
    (by
     rw[<-l,<-Bpa];exact Pu.bind (Ab Ag[rfl] Ab[Vi Ag[rfl] Fw[Ak] Gs Pu.pure][Ae]) Pu.pure) Aqa (λp b=>(Pu.pure,λb=>Ar Ag[rfl] Ag[rfl] Azl)) (sy,sy,rfl) (by rw[zM];omega)
   rw[jZ.mpr[λb b=>rfl]] at h;rw[dO];exact h
  .unfold Qp;rw[aCe];rfl
end
section
def keysAt(b:a.length<=big)(c:∀k∈a,k.length<=big)(n:Nat)(S:Store)(h:S[n]?=sr .lst[a.map[W.str]]):∃G,Er [.ref n] S=.ok .bl[a.all isKey&&Qp a] (S ++ G):=(
 Bpb (P:=SP.any.at n _) (λe h=>h.2) b c S (trivial,h))
def Aot(rs:lg[t6×Cl]):Bool:=rs.all (·.2.ok)&&((rs.map (·.1)).all isKey&&Qp (rs.map (·.1)))
def Bli(i:rs.length<=63)(f:∀r∈rs,r.1.length<=400/\r.2.sm):Pu P Xa[[.tup rs.map[Abx]]] .bl[Aot[rs]]:=by
 let g:rs.length<=big:=aD i ()
 let h:=Hf (P:=P) (xs:=rs) (φ:=Abx) (ψ:=λr=>W.bl r.2.ok) (t:=λd=>pure t8) (e:=Il (zB Iv Aa[0] kI[2]) zA[V4][ixF Aa[0] kI[1]]) (cs:=[]) (cap:=[]) (Y:=Eb 1 [.tup rs.map[Abx]]) (src:=Hc Aa[0]) Nk[Ag[rfl]] rfl g
  (λr a=>(Pu.pure,Eh Ad[Ab[Ag rfl][Ab Ak Ae]][Aos [.str r.1,r.2.w] 2] Ad[Ab[Dj Ag[rfl] Ak Ci[rfl]][Ae]][Blh r.2 (f r a).2]))
 let c:=Br (Ah (Ti (bs:=rs.map (·.2.ok)) (by rwa [dO])))
 rw[Aqv] at c;apply Bu rfl;apply Dd
 .refine Et (Es Br[Ah[Ad Ab[Ag rfl][Ab Ak Ae] Aei]] Ah[Ar Ad[Ab Ag[rfl] Ae][G7] Ak Rj]) ?_ Aw;simp;omega
 unfold Aot;cases b:rs.all (·.2.ok) with
 |false=>exact Bo (Wf c (by rw[b];rfl) Bo[Bb[Ak]])
 |true=>
 rw[pR];refine Dd[Et c (by rw[b];rfl) Aw][Bo Bb[Ak5[?_][keysAt[by simp_all] λk j=>?_]]]
 .let h:=Hf (P:=P) (xs:=rs) (φ:=Abx) (ψ:=λr=>W.str r.1) (t:=λd=>pure t8) (e:=ixF Aa[0] kI[0]) (cs:=[]) (cap:=[]) (Y:=Eb 1 [.tup rs.map[Abx]]) (src:=Hc Aa[0]) Nk[Ag[rfl]] rfl g (λr d=>(Pu.pure,Dj Ag[rfl] Ak Ci[rfl]))
  rwa [dO]
 .let(r,a,rfl):=dZ.mp j;exact aD (f r a).1 ()
def Bfn(b:a.length<=63)(c:∀k∈a,k.length<=400):Pu P Xb[[.tup a.map[W.str]]] .bl[a.all isKey&&Qp a]:=(Bu rfl Bo[Bb[Eh[Ad Ab[Ag rfl][Ab Ak Ae] Aei][Eh[(Ar Ad[Ab Ag[rfl] Ae][G7] Ak Te).cast (by grind)][Ad[Ab Ag[rfl] Ae][Bpc[aD b ()] λk h=>aD (c k h) ()]]]]])
def Blj{ps:lg Int}{m:Int}(e:(ps.length:Int)=m)(c:ps.length<=big):Pu P Xc[[.tup ps.map[W.int],.int m]] .bl[ps.all λp=>Gr p 1]:=by
 apply Bu rfl;exact Bo (Bb (Eh ((Ad Ab[Ag rfl][Ab Ag[rfl] Ae] (Aos ps.map[W.int] m)).cast (by simp_all)) (Pu.cast (Ti (by exact dO ▸ (Hf (P:=P) (cs:=[]) Nk[Ag[rfl]] rfl c
  (λp d=>(Pu.pure,Ad Ab[Ag rfl][Ab Ak Ae] (Aqu p 1)))))) ())))
end
def Pg.word:Pg->t6
 |.head ..=>"head"
 |.leaf ..=>"leaf"
 |.fork ..=>"fork"
 |.rest ..=>"rest"
 |.free ..=>"free"
def Pg.okB:Pg->Bool
 |.head a b c d=>[a,b,c,d].all λn=>Gr n 0
 |.leaf rs=>Aot rs
 |.fork ks ps=>(ks.all isKey&&Qp ks)&&ps.all λp=>Gr p 1
 |.rest t n=>(M2.Dp t&&(decide[1<=t.length]&&decide[t.length<=400]))&&Gr n 0
 |.free n=>Gr n 0
def Pg.sm:Pg->Prop
 |.head ..=>True
 |.leaf rs=>rs.length<=63/\∀r∈rs,r.1.length<=400/\r.2.sm
 |.fork ks ps=>ks.length<=63/\(∀k∈ks,k.length<=400)/\ps.length=ks.length+1
 |.rest t _=>t.length<=400
 |.free _=>True
def Bll(rs:lg[t6×Cl]):Prop:=rs.length<=63/\(∀r∈rs,isKey r.1=t8/\r.2.ok=t8)/\Qp (rs.map (·.1))=t8
def Pg.ok:Pg->Prop
 |.head a b c d=>Gr a 0=t8/\Gr b 0=t8/\Gr c 0=t8/\Gr d 0=t8
 |.leaf rs=>Bll rs
 |.fork ks ps=>(ks.length<=63/\(∀k∈ks,isKey k=t8)/\Qp ks=t8)/\ps.length=ks.length+1/\∀p∈ps,Gr p 1=t8
 |.rest t n=>M2.Dp t=t8/\1<=t.length/\t.length<=400/\Gr n 0=t8
 |.free n=>Gr n 0=t8
def Agx(h:isKey k=t8):k.length<=400:=by
 unfold isKey at h;simp[dh] at h;exact aD h.2.2 ()
def Bfo(h:isKey k=t8):k.length<=big:=(aD Agx[h] ())
def Bh2{p:Pg}(h:p.ok):p.sm/\p.okB=t8:=by
 cases p with
 |head=>let(d,a,b,f):=h;exact(trivial,by simp[Pg.okB,d,a,b,f])
 |leaf rs=>
  let(d,a,b):=h;refine((d,λr c=>(Agx (a r c).1,?_)),?_)
  .have:=(a r c).2;cases e:r.2 with
   |out=>trivial
   |inn t=>
    rw[e] at this;unfold Cl.ok at this;simp only[aL,dh] at this;exact aD this.2 ()
  .show Aot rs=t8;unfold Aot;rw[b,bB.mpr λr c=>(a r c).2,bB.mpr λk g=>by let(r,c,rfl):=dZ.mp g;exact(a r c).1]
   rfl
 |fork i ps=>
  let((d,a,b),f,j):=h;refine((d,λk g=>Agx[a k g],f),?_);show ((i.all isKey&&Qp i)&&_)=t8;rw[bB.mpr a,b,bB.mpr j];rfl
 |rest t n=>
  let(d,a,b,f):=h;refine(b,?_);show (_&&Gr n 0)=t8;simp_all
 |free n=>exact(trivial,h)
section
def Blm(n:Int):Pu P ((λws=>Fq[ws ++ [.int 0]]) [.int n]) .bl[Gr n 0]:=Aqu n 0
def Bln{p:Pg}(h:p.sm):Pu P Mr[[p.w]] .bl[p.okB]:=by
 cases p with
 |head a b c d=>
  apply Bu (ws:=[Pg.w[.head a b c d]]) rfl;refine Dd Dm[Ad[Ab Ag[rfl] Ae][Q8 _ _]] Bo[Wf[Ah Ar[Ag[rfl]][Ak][Du () ()]][rfl][Bo Bb[Eh[(Ar Ad[Ab Ag[rfl] Ae][G7] Ak Pn).cast rfl][?_]]]]
  let h:=Hf (P:=P) (xs:=[a,b,c,d]) (φ:=W.int) (ψ:=λn=>W.bl[Gr n 0]) (t:=λi=>pure t8) (e:=Ds[λws=>Fq[ws ++ [(.int 0)]]][yA Aa[0]]) (cs:=[]) (cap:=[]) (Y:=(Eb 2 [Pg.w[.head a b c d]]).set 1 sr[.str["head"]]) (src:=Hc[slF Aa[0] Dh[kI[1]] By]) Nk[Vi Ag[rfl] Fw[Ak] Gs Pu.pure] rfl (show 4<=big by decide)
   (λn i=>(Pu.pure,Ad[Ab Ag[rfl] Ae][Blm n]))
  exact Pu.cast (Ti (bs:=[a,b,c,d].map λn=>Gr n 0) (dO ▸ h)) (rfl)
 |leaf rs=>
  apply Bu (ws:=[Pg.w .leaf[rs]]) rfl;refine Dd[Dm Ad[Ab Ag[rfl] Ae][Q8 _ _]][Dd Et[Ah[Ar[Ag[rfl]][Ak][Du () ()]]][rfl][Aw] Bo[Wf[Ah Ar[Ag[rfl]][Ak][Du () ()]][rfl][Bo Bb[Eh[(Ar Ad[Ab Ag[rfl] Ae][G7] Ak Pn).cast rfl][?_]]]]]
  exact Ad Ab[Dj Ag[rfl] Ak Ci[rfl]][Ae] (Bli h.1 h.2)
 |fork j ps=>
  apply Bu (ws:=[Pg.w[.fork j ps]]) rfl;refine Dd Dm[Ad[Ab Ag[rfl] Ae][Q8 _ _]] Dd[Et Ah[Ar[Ag[rfl]][Ak][Du () ()]] (rfl) Aw][Dd Et[Ah[Ar[Ag[rfl]][Ak][Du () ()]]][rfl][Aw] Bo[Wf[Ah Ar[Ag[rfl]][Ak][Du () ()]][rfl][Bo Bb[Eh[(Ar Ad[Ab Ag[rfl] Ae][G7] Ak Pn).cast rfl][?_]]]]]
  let(g,l,k):=h;exact X6 Ad[Ab[Dj Ag[rfl] Ak Ci[rfl]][Ae]][Bfn g l] (Ad Ab[Dj Ag[rfl] Ak Ci[rfl]][Ab Cq[Ad Ab[Dj Ag[rfl] Ak Ci[rfl]][Ae] G7][Ak][Mg] Ae] Blj[by simp_all][k ▸ aD gY[g] ()])
 |rest t n=>
  apply Bu (ws:=[Pg.w[.rest t n]]) rfl;refine Dd[Dm Ad[Ab Ag[rfl] Ae][Q8 _ _]][Dd Et[Ah[Ar[Ag[rfl]][Ak][Du () ()]]][rfl][Aw] Dd[Et Ah[Ar[Ag[rfl]][Ak][Du () ()]] (rfl) Aw][Dd Et[Ah[Ar[Ag[rfl]][Ak][Du () ()]]][rfl][Aw] Bo[Wf[Ah Ar[Ag[rfl]][Ak][Du () ()]][rfl][Bo Bb[Eh[(Ar Ad[Ab Ag[rfl] Ae][G7] Ak Pn).cast rfl][?_]]]]]]
  refine X6[(Ad Ab[Dj Ag[rfl] Ak Ci[rfl]][Ab[Ak][Ab Ak Ae]] (Ajp t 1 400 (aD h ()))).cast ?_][Ad Ab[Dj Ag[rfl] Ak Ci[rfl]][Ae] Blm[n]]
  rw[decide_eq_decide.mpr (by omega:((1:Int)<=t.length ↔ 1<=t.length)),decide_eq_decide.mpr (by omega:((t.length:Int)<=400 ↔ t.length<=400))]
 |free n=>
  apply Bu (ws:=[Pg.w .free[n]]) rfl;refine Dd Dm[Ad[Ab Ag[rfl] Ae][Q8 _ _]] Dd[Et Ah[Ar[Ag[rfl]][Ak][Du () ()]] (rfl) Aw][Dd Et[Ah[Ar[Ag[rfl]][Ak][Du () ()]]][rfl][Aw] Dd[Et Ah[Ar[Ag[rfl]][Ak][Du () ()]] (rfl) Aw][Dd Et[Ah[Ar[Ag[rfl]][Ak][Du () ()]]][rfl][Aw] Bo[Wf[Ah Ar[Ag[rfl]][Ak][Du () ()]][rfl][Bo Bb[Eh[(Ar Ad[Ab Ag[rfl] Ae][G7] Ak Pn).cast rfl][?_]]]]]]
  exact Ad Ab[Dj Ag[rfl] Ak Ci[rfl]][Ae] Blm[n]
end
abbrev jn(ys:lg t6):t6:=aAo "" ys
def Lr(ps:lg Int):t6:=jn ps.map[M1.Ej[2]]
def Rz(k:t6):t6:=M1.Ej 1 k.length ++ k
def Cl.t:Cl->t6
 |.inn t=>"i" ++ M1.Ej 1 t.length ++ t
 |.out n p=>"o" ++ Lr [n,p]
def Aau(r:t6×Cl):t6:=Rz r.1 ++ r.2.t
def Pg.body:Pg->t6
 |.head a b c d=>Lr [a,b,c,d]
 |.leaf rs=>M1.Ej 1 rs.length ++ jn rs.map[Aau]
 |.fork ks ps=>M1.Ej 1 ks.length ++ jn ks.map[Rz] ++ Lr ps
 |.rest t n=>Lr [n] ++ t
 |.free n=>Lr [n]
def len_app(x y:t6):(x ++ y).length=x.length+y.length:=by
 show (x.cps ++ y.cps).size=_;rw[xO];rfl
def Dc(k:Nat)(n:Int):(M1.Ej k n).length=k:=M1.Avk k n
def Bag{a:lg t6}{c:Nat}(h:∀y∈a,y.length<=c):(a.map (·.length)).sum<=a.length * c:=by
 induction a with
 |nil=>simp
 |cons y a e=>
  let j:=h y aX;let i:=e λz f=>h z (aR _ f);rw[cJ,pQ,fD,Nat.succ_mul];omega
def Bah:jn []=⟨#[]⟩:=rfl
def N8(x:t6):x ++ (⟨#[]⟩:t6)=x:=rfl
def Q9(y:t6)(a:lg t6):jn (y::a)=y ++ jn a:=by
 let e:∀l,jn l=_:=λl=>StrLaws.glued_eq_join "" l;rw[e,e];cases a with
 |nil=>rfl
 |cons z d=>
  rfl
theorem Aby:∀a:lg t6,(jn a).length=(a.map (·.length)).sum
 |[]=>rfl
 |y::a=>by rw[Q9,len_app,Aby a,cJ,pQ]
section
def Aej{Y:De}{f:De->M W}{a:lg t6}{c:Nat}(h:PuL P f[Y] a.map[W.str])(d:∀y∈a,y.length<=c)(i:a.length * c<=big):Pu P (Jc .str Ss kS[""] yA[f] Y) .str[jn[a]]:=(
 Bez h (by
  have:=Bag d;show _+a.length * 0<=big;omega))
def Aav{ps:lg Int}(hp:∀p∈ps,0<=p/\p < 4096)(b:ps.length<=1000):Pu P Gp[[.tup ps.map[W.int]]] .str[Lr[ps]]:=by
 apply Bu rfl;apply Bo;apply Bb;refine Aej ?_ (λy d=>?_) (by rw[aJ];exact aD (mW 2 b) ())
 .rw[dO];exact Hf (cs:=[]) Nk[Ag[rfl]] rfl (aD b ())
   (λp a=>(Pu.pure,Ad Ab[Ag rfl][Ab Ak Ae] (Als (hp p a).1 (hp p a).2)))
 .let(p,_,rfl):=dZ.mp d;exact oR[Dc 2 p]
def Hg{n k:Int}(h:Gr n k=t8)(b:0<=k):0<=n/\n < 4096:=by
 unfold Gr at h;simp[dh] at h;omega
def Bfp{n:Nat}(h:n<=63):Pu P Hu[[.int (n:Int),.int 1]] .str[M1.Ej 1 n]:=(Bfl () ())
def Atb(h:isKey k=t8):Pu P M8[[.str k]] .str[Rz[k]]:=by
 let a:=Bfo h;unfold isKey at h;simp[dh] at h;exact Bu rfl Bo[Bb[Cq Ad[Ab[Ad[Ab Ag[rfl] Ae][len_str a]][Ab Ak Ae]][Bfp ()] Ag[rfl] Gi[aD (jD h.2.2 1) ()]]]
def Bai{c:Cl}(h:c.ok=t8):Pu P Vd[[c.w]] .str[c.t]:=by
 cases c with
 |inn t=>
  unfold Cl.ok at h;rw[aL,dh] at h;let b:t.length<=big:=aD h.2 ()
  apply Bu (ws:=[Cl.w .inn[t]]) rfl;apply Bo;apply Wf
  .exact Ah Ar[Dj Ag[rfl] Ak Ci[rfl]][Ak][Du () ()]
  .decide +kernel
  .apply Bo;apply Bb;exact Cq Cq[Ak][Ad Ab[Ad Ab[Dj Ag[rfl] Ak Ci[rfl]][Ae] len_str[b]][Ab Ak Ae] Bfp[h.2]][Gi (by rw[Dc];decide)] (Dj Ag[rfl] Ak Ci[rfl]) (Gi (by
    rw[len_app,Dc];exact aD (jD h.2 _) ()))
 |out n p=>
  unfold Cl.ok at h;rw[aL,aL,dh,dh] at h;apply Bu (ws:=[Cl.w[.out n p]]) rfl;apply Dd
  .exact Et Ah[Ar[Dj Ag[rfl] Ak Ci[rfl]][Ak][Du () ()]] (rfl) Aw
  .apply Bo;apply Bb;exact Cq Ak (Ad Ab[Vi Ag[rfl] Fw[Ak] Gs Pu.pure][Ae] (Aav (ps:=[n,p]) (λq a=>by
    simp only[aW,bM,or_false] at a;rcases a with rfl|rfl
    .omega
    .exact Hg h.2 ()) (show 2<=1000 by decide))) (Gi (by
     unfold Lr;rw[Aby];show 1+((M1.Ej 2 n).length+((M1.Ej 2 p).length+0))<=big;rw[Dc,Dc];decide))
end
section
def Aaw(h:isKey k=t8):(Rz k).length<=13:=by
 unfold isKey at h;simp[dh] at h;unfold Rz;rw[len_app,Dc];omega
def Ajq{c:Cl}(h:c.ok=t8):c.t.length<=65:=by
 cases c with
 |inn t=>
  unfold Cl.ok at h;rw[aL,dh] at h;unfold Cl.t;rw[len_app,len_app,Dc];show 1+1+t.length<=65;omega
 |out n p=>
  unfold Cl.t Lr;rw[len_app,Aby];show 1+((M1.Ej 2 n).length+((M1.Ej 2 p).length+0))<=65;rw[Dc,Dc];decide
def Aou(b:isKey r.1=t8)(a:r.2.ok=t8):(Aau r).length<=78:=by
 unfold Aau;rw[len_app];have:=Aaw b;have:=Ajq a;omega
def Bfq{r:t6×Cl}(b:isKey r.1=t8)(a:r.2.ok=t8):Pu P Q6[[Abx r]] .str[Aau[r]]:=(Bu rfl (Bo (Bb (Cq (Ad Ab[Dj Ag[rfl] Ak Ci[rfl]][Ae] Atb[b]) (Ad Ab[Dj Ag[rfl] Ak Ci[rfl]][Ae] Bai[a]) (Gi (by
  have:=Aaw b;have:=Ajq a;exact aD (rG ‹_› ‹_›) ()))))))
def Atc{c n:Nat}(h:∀y∈ys,y.length<=c)(a:ys.length<=n):(jn ys).length<=n * c:=by
 rw[Aby];exact aD[Bag h][mW c a]
def Hh(ps:lg Int):(Lr ps).length=2 * ps.length:=by
 unfold Lr;rw[Aby,dO];induction ps with
 |nil=>rfl
 |cons p ps b=>
  rw[cJ,pQ,b,fD];show (M1.Ej 2 p).length+_=_;rw[Dc];omega
def Aek{p:Pg}(h:p.ok):Pu P N6[[p.w]] .str[p.body]:=by
 cases p with
 |head a b c d=>
  let(i,g,o,v):=h;apply Bu (ws:=[Pg.w[.head a b c d]]) rfl;apply Dd
  .exact Et Ah[Ar[Dj Ag[rfl] Ak Ci[rfl]][Ak][Du () ()]] (rfl) Aw
  apply Dd
  .exact Et Ah[Ar[Dj Ag[rfl] Ak Ci[rfl]][Ak][Du () ()]] (rfl) Aw
  apply Dd
  .exact Et Ah[Ar[Dj Ag[rfl] Ak Ci[rfl]][Ak][Du () ()]] (rfl) Aw
  apply Bo;apply Bb;exact Ad Ab[Vi Ag[rfl] Fw[Ak] Gs Pu.pure][Ae] (Aav (ps:=[a,b,c,d]) (λq f=>by
   simp only[aW,bM,or_false] at f;rcases f with rfl|rfl|rfl|rfl <;> exact Hg ‹_› ()) (show 4<=1000 by decide))
 |leaf rs=>
  let(i,g,o):=h;apply Bu (ws:=[Pg.w .leaf[rs]]) rfl;apply Bo;apply Wf
  .exact Ah Ar[Dj Ag[rfl] Ak Ci[rfl]][Ak][Du () ()]
  .decide +kernel
  .apply Bo;apply Bb;let m:∀y∈rs.map Aau,y.length<=78:=λy s=>by
    let(r,l,rfl):=dZ.mp s;exact Aou (g r l).1 (g r l).2
   refine Cq (y:=.str jn[rs.map[Aau]]) (Ad Ab[(Ad Ab[Dj Ag[rfl] Ak Ci[rfl]][Ae] G7).cast (by rw[aJ])][Ab Ak Ae] Bfp[i]) ?_ (Gi (by
    rw[Dc];exact aD (jD Atc[m][by rwa [aJ]] 1) ()))
   refine Aej (c:=78) ?_ m (by rw[aJ];exact aD (mW 78 i) ())
   let h:=Hf (P:=P) (xs:=rs) (φ:=Abx) (ψ:=λr=>W.str Aau[r]) (t:=λx=>pure t8) (e:=Ds Q6 yA[Aa[0]]) (cs:=[]) (cap:=[]) (Y:=Eb 2 [Pg.w .leaf[rs]]) (src:=Hc[ixF Aa[0] kI[1]]) Nk[Dj Ag[rfl] Ak Ci[rfl]] rfl (aD i ())
    (λr l=>(Pu.pure,Ad[Ab Ag[rfl] Ae][Bfq (g r l).1 (g r l).2]))
   rwa [dO]
 |fork j ps=>
  let((i,g,o),v,A):=h;let m:∀y∈j.map Rz,y.length<=13:=λy s=>by
   let(k,u,rfl):=dZ.mp s;exact Aaw[g k u]
  let z:(jn j.map[Rz]).length<=63 * 13:=Atc m (by simp_all)
  apply Bu (ws:=[Pg.w[.fork j ps]]) rfl;apply Dd
  .exact Et Ah[Ar[Dj Ag[rfl] Ak Ci[rfl]][Ak][Du () ()]] (rfl) Aw
  apply Bo;apply Wf
  .exact Ah Ar[Dj Ag[rfl] Ak Ci[rfl]][Ak][Du () ()]
  .decide +kernel
  .refine Dd (Dm (w:=.str jn[j.map[Rz]]) ?_) ?_
   .refine Aej (c:=13) ?_ m (by rw[aJ];exact aD (mW 13 i) ())
    let h:=Hf (P:=P) (xs:=j) (φ:=W.str) (ψ:=λk=>W.str Rz[k]) (t:=λx=>pure t8) (e:=Ds M8 yA[Aa[0]]) (cs:=[]) (cap:=[]) (Y:=Eb 2 [Pg.w[.fork j ps]]) (src:=Hc[ixF Aa[0] kI[1]]) Nk[Dj Ag[rfl] Ak Ci[rfl]] rfl (aD i ())
     (λk u=>(Pu.pure,Ad (Ab Ag[rfl] Ae) Atb[g k u]))
    rwa [dO]
   .apply Bo;apply Bb;refine Cq Cq[Ad Ab[(Ad Ab[Dj Ag[rfl] Ak Ci[rfl]][Ae] G7).cast (by rw[aJ])][Ab Ak Ae] Bfp[i]][Ag rfl][Gi ?_] Ad[Ab[Dj Ag[rfl] Ak Ci[rfl]][Ae]][Aav (λq f=>Hg (A q f) ()) ()] Gi[?_]
    .rw[Dc];exact aD (jD z 1) ()
    .rw[len_app,Dc,Hh];have:1+(jn j.map[Rz]).length+2 * ps.length<=1+63 * 13+128:=by omega
     exact aD this ()
 |rest t n=>
  let(i,g,o,v):=h;apply Bu (ws:=[Pg.w[.rest t n]]) rfl;apply Dd
  .exact Et Ah[Ar[Dj Ag[rfl] Ak Ci[rfl]][Ak][Du () ()]] (rfl) Aw
  apply Dd
  .exact Et Ah[Ar[Dj Ag[rfl] Ak Ci[rfl]][Ak][Du () ()]] (rfl) Aw
  apply Bo;apply Wf
  .exact Ah Ar[Dj Ag[rfl] Ak Ci[rfl]][Ak][Du () ()]
  .decide +kernel
  .apply Bo;apply Bb;exact Cq (Ad Ab[Vi Ag[rfl] Fw[Ak] Gs Pu.pure][Ae] (Aav (ps:=[n]) (λq f=>by
    rw[aM] at f;subst f;exact Hg v ()) (show 1<=1000 by decide))) (Dj Ag[rfl] Ak Ci[rfl]) (Gi (by
     rw[Hh];exact aD (jD o _) (show 2 * 1+400<=big by decide)))
 |free n=>
  apply Bu (ws:=[Pg.w .free[n]]) rfl;apply Dd
  .exact Et Ah[Ar[Dj Ag[rfl] Ak Ci[rfl]][Ak][Du () ()]] (rfl) Aw
  apply Dd
  .exact Et Ah[Ar[Dj Ag[rfl] Ak Ci[rfl]][Ak][Du () ()]] (rfl) Aw
  apply Dd
  .exact Et Ah[Ar[Dj Ag[rfl] Ak Ci[rfl]][Ak][Du () ()]] (rfl) Aw
  apply Bo;apply Bb;exact Ad Ab[Vi Ag[rfl] Fw[Ak] Gs Pu.pure][Ae] (Aav (ps:=[n]) (λq f=>by
   rw[aM] at f;subst f;exact Hg h ()) (show 1<=1000 by decide))
end
section
def Ajr{k:Nat}(h:k<=1000001):small (k:Int)=t8:=by
 unfold small
 grind
def Aov(d:z.length<=big)(j:M2.Dp z=t8):Pu P M7[[.str z]] .str[M2.check[z]]:=by
 let f:z.cps.toList.length=z.length:=bC;apply Bu (ws:=[.str z]) rfl;apply Dd
 .exact Et Br[Ah[Ad[Ab Ag[rfl] Ae][V6 z d]]] (by rw[j];rfl) Aw
 refine Dd (Dm (w:=.int M2.chk[z.cps.toList]) ?_) ?_
 .refine Pu.cast (Bk7 (is:=(fO z.length).map λ(i:Nat)=>(((z.cps.getD i 0:Nat):Int) - 31) * ((i:Int)+1)) ?_) ?_
  .let h:=Asw (P:=P) (xs:=fO z.length) (φ:=λ(i:Nat)=>W.tup [.int[(i:Int)+1],.str ⟨#[z.cps.getD i 0]⟩]) (ψ:=λ(i:Nat)=>W.int[(((z.cps.getD i 0:Nat):Int) - 31) * ((i:Int)+1)]) (τ:=λc=>t8) (s:=Ads [0,1]) (t:=λc=>pure t8) (e:=Ax .mul Ax[.sub][zA Auz Aa[1]][kI[31]] Aa[0]) (k:=2) (cap:=[]) (Y:=Eb 2 [.str z]) (src:=Ayj Aa[0])
    (Pu.bind Ag[rfl] Pu.pure) Aqa (λi hi=>(Pu.pure,λc=>Cq (Cq Ad[Ab Ag[rfl] Ae][Bfm] Ak Aee) Ag[rfl] (Aef (by
     have:i < z.length:=iW.mp hi;let l:small (((i+1:Nat):Nat):Int)=t8:=Ajr (by unfold big at d;omega)
     rw[fC];exact .inr l)))) (sy,sy,rfl) (cG ▸ d)
   rw[jZ.mpr[λc c=>rfl]] at h
   rwa [dO]
  .congr 1
   unfold M2.chk M2.Anm;rw[f]
   congr 1
   refine List.map_congr_left λi hi=>?_;rw[show z.cps.toList.getD i 0=z.cps.getD i 0 from by simp]
   rw[show (((z.cps.getD i 0:Nat):Int) - 32+1)=((z.cps.getD i 0:Nat):Int) - 31 by omega]
 .apply Bo;apply Bb;exact Ad Ab[Cq Ag[rfl] Ak (Azj ())][Ab Ak Ae] (Als () ())
end
def Hm(x y:t6):M2.Dp[x ++ y]=(M2.Dp x&&M2.Dp y):=by
 unfold M2.Dp;show ((x.cps ++ y.cps).toList).all _=_;rw[kY,zN]
def Bpd:∀v,v < 64->M2.okC M1.sg[v]=t8:=by decide +kernel
def Aqw(c:Nat):M2.Dp M1.one[c]=M2.okC c:=by
 unfold M2.Dp M1.one;simp
def Vj(k:Nat)(n:Int):M2.Dp[M1.Ej k n]=t8:=by
 induction k with
 |zero=>rfl
 |succ k a=>
  show M2.Dp[_ ++ _]=t8;rw[Hm,a,Aqw,Bpd _ ()]
  rfl
theorem Aow:∀{a:lg t6},(∀y∈a,M2.Dp y=t8)->M2.Dp jn[a]=t8
 |[],_=>rfl
 |y::a,h=>by
  rw[Q9,Hm,h y aX,Aow λz c=>h z (aR _ c)];rfl
def Aax(ps:lg Int):M2.Dp Lr[ps]=t8:=(Aow λy b=>by
 let(p,_,rfl):=dZ.mp b;exact Vj 2 p)
def Baj(h:isKey k=t8):M2.Dp k=t8:=by
 unfold isKey at h;rw[aL] at h;exact h.1
def Bak(h:isKey k=t8):M2.Dp Rz[k]=t8:=by
 unfold Rz;rw[Hm,Vj,Baj h];rfl
def Bfr{c:Cl}(h:c.ok=t8):M2.Dp c.t=t8:=by
 cases c with
 |inn t=>
  unfold Cl.ok at h;rw[aL] at h;unfold Cl.t;rw[Hm,Hm,Vj,h.1];decide +kernel
 |out n p=>
  unfold Cl.t;rw[Hm,Aax];decide +kernel
def Bfs{p:Pg}(h:p.ok):M2.Dp p.body=t8:=by
 cases p with
 |head a b c d=>exact Aax _
 |leaf rs=>
  unfold Pg.body;rw[Hm,Vj,Aow λy e=>by
   let(r,f,rfl):=dZ.mp e;unfold Aau;rw[Hm,Bak (h.2.1 r f).1,Bfr (h.2.1 r f).2];rfl]
  rfl
 |fork i ps=>
  unfold Pg.body;rw[Hm,Hm,Vj,Aax,Aow λy e=>by
   let(k,g,rfl):=dZ.mp e;exact Bak[h.1.2.1 k g]]
  rfl
 |rest t n=>
  unfold Pg.body;rw[Hm,Aax,h.1];rfl
 |free n=>exact Aax _
def Pg.letter:Pg->t6
 |.head ..=>"h"
 |.leaf ..=>"l"
 |.fork ..=>"f"
 |.rest ..=>"r"
 |.free ..=>"e"
def Pg.start(p:Pg):t6:=p.letter ++ M1.Ej 2 p.body.length ++ p.body
def Pg.unch(p:Pg)(size:Int):t6:=tZ p.start (size - 2) 48
def Pg.text(p:Pg)(size:Int):t6:=p.unch size ++ M2.check p.unch[size]
def G8(p:Pg):p.letter.length=1:=by cases p <;> rfl
def Av1(p:Pg):p.start.length=3+p.body.length:=by
 unfold Pg.start;rw[len_app,len_app,G8,Dc]
def Alu(p:Pg)(a:Int):∃n,(p.unch a).cps=p.start.cps ++ iQ n 48:=by
 unfold Pg.unch tZ;split
 .simp
 .refine((a - 2).toNat - p.start.length,?_);show iQ 0 48 ++ p.start.cps ++ _=_;simp
section
def Bft(p:Pg):∃a,p.w=.tup (.str p.word::a):=by cases p <;> exact(_,rfl)
def ix0:atI (w::a) 0=sr w:=by
 unfold atI ixN;simp
def Av2(p:Pg):Pu P (mdW Qf .str[p.word]) .str[p.letter]:=by
 let e:Qf.lookup p.word=sr p.letter:=by
  cases p
  .rfl
  .rfl
  .rfl
  .rfl
  rfl
 unfold mdW;simp[e];exact Pu.pure
def Bpe(h1:Pu P g[Y] k)(h2:Pu P (mdW D k) w):Pu P (mdF D g Y) w:=h1.bind h2
def Ael{p:Pg}{a:Int}(c:p.body.length < 4096)(i:64<=a)(h:a<=200):Pu P Ia[[p.w,.str p.body,.int a]] .str[p.unch[a]]:=by
 let(g,d):=Bft p;rw[d];apply Bu rfl;refine Dd (Dm (w:=.str p.start) ?_) ?_
 .refine Cq[Cq Bpe[Dj Ag[rfl] Ak Ci[ix0]][Av2 p] Ad[Ab[Ad[Ab Ag[rfl] Ae][len_str[aD gP[c] ()]]][Ab Ak Ae]][Als () ()] Gi[?_]][Ag rfl][Gi ?_]
  .rw[G8,Dc];decide
  .rw[len_app,G8,Dc];exact aD (jD gP[c] _) ()
 .apply Bo;apply Bb;refine Aqt Ag[rfl] Ab[Cq Ag[rfl] Ak Aee][Ab Ak Ae] (Lj ?_ Pu.pure);rw[aL];refine(?_,rfl);let e:∀k:Nat,k<=200->PadOk (k:Int)=t8:=by decide +kernel
  have:=e (a - 2).toNat ()
  rw[nO ()] at this
  exact this
def Av3(p:Pg):M2.Dp p.letter=t8:=by
 cases p
 .rfl
 .rfl
 .rfl
 .rfl
 rfl
def Bal{p:Pg}(h:M2.Dp p.body=t8)(a:Int):M2.Dp p.unch[a]=t8:=by
 let(n,e):=Alu p a;unfold M2.Dp;rw[e,kY,zN];let b:M2.Dp p.start=t8:=by
  unfold Pg.start;rw[Hm,Hm,Vj,h,Av3 p];rfl
 unfold M2.Dp at b;rw[b,Array.toList_replicate,pR];rw[bB];intro c d;let(_,rfl):=wC.mp d;decide
def Vk{p:Pg}{a:Int}(c:(p.body.length:Int)<=a - 5):(p.unch a).length=(a - 2).toNat:=by
 unfold Pg.unch tZ;have:=Av1 p;split
 .omega
 .show (_ ++ p.start.cps ++ _).size=_;simp;show p.start.length+_=_;omega
def Lg(i:Int):Pu P Ib[[.int i]] .bl[decide[64<=i]&&decide[i<=200]]:=Bu rfl Bo[Bb[Eh[Ad[Ab Ag[rfl] Ae][Gq i]][Tf Ak Ag[rfl] Te Ak Te]]]
def Ajs(x:t6):(M2.check x).length=2:=Dc 2 _
end
def cut(z:t6)(i j:Nat):t6:=⟨((z.cps.toList.drop i).take (j - i)).toArray⟩
def Abz{i j:Nat}(d:i<=j)(c:j<=z.length):fH[z][sr (i:Int)][sr (j:Int)]=cut z i j:=by
 rw[eq_of_beq[aAt () () ()]]
 unfold cut;simp
def Jh{j:Nat}(c:j<=z.length):fH z sy (sr (j:Int))=cut z 0 j:=by
 rw[eq_of_beq[yU () ()]]
 rfl
def Mp{i j:Nat}(d:i<=j)(c:j<=z.length):(cut z i j).length=j - i:=by
 let b:_=z.length:=bC;show ((z.cps.toList.drop i).take _).toArray.size=_;rw[cZ,gW,gD];omega
def Ra{i j:Nat}(h:M2.Dp z=t8):M2.Dp[cut z i j]=t8:=by
 unfold M2.Dp at h ⊢
 rw[bB] at h ⊢
 exact λc a=>h c uW[mX[a]]
def dk(keys:lg t6):lg[Key×W]:=keys.map λz=>(u6 .inr[z] .bl[t8])
abbrev Vl(ks:lg t6):Prop:=ks.Pairwise λa b=>Kg a b=t8
theorem Agy:∀{c:lg t6},Vl c->Qp c=t8
 |[],_=>rfl
 |[a],_=>rfl
 |a::b::c,h=>by
  let h:=oJ.mp h;let d:=Agy h.2;unfold Qp at d ⊢
  show (Kg a b&&((b::c).zip ((b::c).drop 1)).all _)=_;rw[d,h.1 b (aX),Bool.and_self]
def Av4(h:leS a b=t8)(ne:a≠b):Kg a b=t8:=by
 cases c:Kg a b with
 |true=>rfl
 |_=>
  let d:leS b a=t8:=by
   unfold leS;unfold Kg at c;rw[c];rfl
  exact absurd (Ae6 a b h d) ne
def Ahv(h:ks.Nodup):Vl Adr[ks]:=((Nh ks).and ((Ji ks).nodup_iff.mpr h)).imp λ⟨a,b⟩=>Av4 a b
def Bw(x y z:t6):x ++ y ++ z=x ++ (y ++ z):=by
 show (⟨x.cps ++ y.cps ++ z.cps⟩:t6)=⟨x.cps ++ (y.cps ++ z.cps)⟩;simp
theorem Atd:∀(a:lg t6)(y:t6),jn[a ++ [y]]=jn a ++ y
 |[],y=>by
  show y=⟨#[] ++ y.cps⟩;simp
 |x::a,y=>by rw[tD,Q9,Atd a y,Q9,Bw]
def Alv(P:SP)(n:Nat)(c:Cell):SP:=(λS=>P.p S/\S[n]?=sr c,λS G h=>(P.st S G h.1,by rw[bD (aK.mp h.2).1];exact h.2))
def Bam{i:Int}(h:Pu P f[Y] .int[i]):Pu P (Afo f Y) .int[-i]:=h.bind Pu.pure
def Aew{j:Nat}(a:z.length<=big)(f:j < z.length):Pu P (ixW .str[z] .int[0+(j:Int)]) .str[⟨#[z.cps.toList.getD j 0]⟩]:=by
 let d:z.cps.toList.length=z.length:=bC;let e:atI z.cps.toList (0+j)=sr[z.cps.toList.getD j 0]:=by
  unfold atI ixN;simp_all
 unfold ixW;dsimp only;exact e ▸ Lj a Pu.pure
def Aem{p:Pg}(h:p.ok):Pu P Mr[[p.w]] .bl[t8]:=(Bln (Bh2 h).1).cast (congrArg W.bl (Bh2 h).2)
def Aen{p:Pg}(h:p.ok)(size:Int):M2.Dp p.unch[size]=t8:=Bal Bfs[h] size
theorem Alw:∀(k:Nat)(n:Int)(c:Nat),c∈(M1.Ej k n).cps.toList->M1.inS c=t8
 |0,_,c,h=>by cases h
 |k+1,n,c,h=>by
  rw[M1.Aiq] at h;rcases aW.mp h with h|h
  .subst h;exact M1.Azu ()
  .exact Alw k n c h
section
variable{P:SP}
def Aqx{k:Nat}{n:Int}(l:1<=k)(f:k<=3):Pu P Ik[[.str[M1.Ej k n]]] .bl[t8]:=by
 let b:=Dc k n;let a:(M1.Ej k n).length<=big:=by rw[b];exact aD f ()
 apply Bu rfl;apply Dd Et[Es[Br Ah[Ad Ab[Ag rfl][Ab Ak Ae] Mm]][Es Ah[Ar Ad[Ab Ag[rfl] Ae][len_str a] Ak X7] Ah[Ar Ad[Ab Ag[rfl] Ae][len_str a] Ak Rj]]][by grind][Aw]
 let h:=Hf (P:=P) (t:=λj=>pure t8) (e:=Ec .In Aa[0] aA1) (cs:=[]) (cap:=[]) (Y:=Eb 1 [.str[M1.Ej k n]]) (src:=Hc Aa[0]) (Ak6 a Ag[rfl]) rfl (bC ▸ a)
  (λc d=>(Pu.pure,Ar Ag[rfl] Ak (Pu.cast Pu.pure congrArg[W.bl][Alw k n c d])))
 refine Bo Bb[(Ti[dO ▸ h]).cast ?_];simp
def Bfu{i:Int}(c:0<=i)(b:i < 1000000):Pu P (Bop.fn .shl .int[i] .int[6]) .int[i * 64]:=(Pu.cast Lj[by grind][Pu.pure] rfl)
def Ban{z:t6}{a:Int}{c:Nat}(d:M1.inS c=t8)(g:0<=a)(f:a < 1000000):PuN P aB1
  [sr .str[z],sr .int[a],sr .str[⟨#[c]⟩]] [sr .str[z],sr .int[a * 64+(M1.idx c:Int)],sr .str[⟨#[c]⟩]]:=by
 refine Ak2 Dm[Cq Cq[Ag[rfl]][Ak][Bfu g f] Aqt[Ak][Ab Ag[rfl] Ae][?_] Mg] Aw;let(r,e):=M1.Ank d;show Pu P (match dM M1.sgs M1.one[c] 0 M1.sgs.length 1 with|i::_=>_|[]=>bad) _
 exact e ▸ Pu.pure
def Ab0{k:Nat}{n:Int}(e:1<=k)(o:k<=3)(r:0<=n)(u:n < 64 ^ k):Pu P Nq[[.str[M1.Ej k n]]] .int[n]:=by
 let t:=Dc k n;let v:(M1.Ej k n).length<=big:=by rw[t];exact aD o ()
 apply Bu (ws:=[.str[M1.Ej k n]]) rfl;refine Dd[Et Br[Ah[Ad[Ab Ag[rfl] Ae][Aqx e o]]] rfl Aw][Dd Dm[Ak] ?_];let h:∀(l:lg Nat)(a:Int)(m:Nat)(x:o9 W),(∀c∈l,M1.inS c=t8)->0<=a->a < 64 ^ m->m+l.length<=3->∃y,PuN P Sh[El[2]][aB1][l.map λc=>W.str ⟨#[c]⟩]
   [sr .str[M1.Ej k n],sr .int[a],x] [sr .str[M1.Ej k n],sr .int[M1.Azv l a],y]:=by
  intro l;induction l with
  |nil=>exact λa m x g g g g=>(x,Ak3)
  |cons c l q=>
   intro a m x j z e s;let hi:=M1.Bk8[j c aX];rw[fD] at s;let hp:(64:Int) ^ (m+1)=64 ^ m * 64:=xQ 64 m;let(y,i):=q (a * 64+(M1.idx c:Int)) (m+1) sr[.str[⟨#[c]⟩]] (λd hd=>j d (aR _ hd)) () (by grind) ()
   let w:a < 1000000:=by
    have:m=0\/m=1\/m=2:=by omega
    rcases this with rfl|rfl|rfl
    .exact xT e ()
    .exact xT e ()
    .exact xT e ()
   exact(y,X5 rfl Ban[j c aX][z][w] i)
 let(y,i):=h (M1.Ej k n).cps.toList 0 0 sy (Alw k n) () () (by rw[bC];show 0+(M1.Ej k n).length<=3;omega)
 refine Dd Ak4[Ak6 v Ag[rfl]][i] Bo[Bb[Pu.cast Ag[rfl] ?_]];rw[M1.Alb r u]
end
def rdr(B:t6)(k:Nat):Cell:=.ins 13 [("body",.str B),("place",.int (k:Int))]
def Rx(n:Nat)(m:M W)(x:t6)(w:W):Prop:=∀(B a r:t6)(S:Store),B=a ++ (x ++ r)->B.length<=400->S[n]?=sr[rdr B a.length]->Wm m S λv S'=>v=w/\S'[n]?=sr[rdr B (a ++ x).length]/\Fr [n] S S'
def M9(x y:t6):(x ++ y).cps.toList=x.cps.toList ++ y.cps.toList:=by
 show (x.cps ++ y.cps).toList=_;simp
def Rb(a x r:t6):cut[a ++ (x ++ r)][a.length][a.length+x.length]=x:=by
 unfold cut;rw[M9,M9,show a.length=a.cps.toList.length from bC.symm,show x.length=x.cps.toList.length from bC.symm,List.drop_left,Nat.add_sub_cancel_left,List.take_left]
theorem Bao:∀b a:lg t6,jn[b ++ a]=jn b ++ jn a
 |[],a=>by
  rw[Bah];show jn a=⟨_⟩;simp
 |x::b,a=>by rw[tD,Q9,Q9,Bao b a,Bw]
section
variable{P:SP}{n k:Nat}{B x:t6}{Y:De}{S:Store}{Q:W->Store->Prop}{w:W}
def Rx.use{m:M W}{a r:t6}(h:Rx n m x w)(i:B=a ++ (x ++ r))(g:B.length<=400)(f:S[n]?=sr[rdr B a.length])(q:∀b,b[n]?=sr[rdr B (a ++ x).length]->Fr [n] S b->Q w b):Wm m S Q:=(
 Bd[h B a r S i g f] λv b ⟨e,q1,q2⟩=>by subst e;exact q b q1 q2)
def Agz{j:Nat}(h:Y[j]?=sr sr[w]):Aa j Y S=.ok w S:=by unfold Aa;rw[h];rfl
def Aox{j:Nat}(h:Y[j]?=sr sr[.ref[n]]):Pu[Alv P n (rdr B k)][Gv fld "place" Aa[j] Y][.int (k:Int)]:=(λS a=>([],by
 unfold Gv;rw[Cw,Agz h];unfold Sv;dsimp only;rw[a.2,bQ];rfl))
def Bfv{j:Nat}(h:Y[j]?=sr sr[.ref[n]]):Pu[Alv P n (rdr B k)][Gv fld "body" Aa[j] Y][.str B]:=(λS a=>([],by
 unfold Gv;rw[Cw,Agz h];unfold Sv;dsimp only;rw[a.2,bQ];rfl))
def Bap{k':Nat}{h:De->M W}{d:MS}{K:RS->Prop}(g:Pu[Alv SP.any n (rdr B k)][h Y][.int (k':Int)])(f:Y[0]?=sr sr[.ref[n]])(c:S[n]?=sr[rdr B k])(q:∀b,Fr [n] S b->b[n]?=sr[rdr B k']->Wb d Y b K):Wb Ai[Jy fld "place" Aa[0] h][d] Y S K:=by
 let(G,e):=g S (trivial,c);let a:(S ++ G)[n]?=sr[rdr B k]:=Fr.app.at0 c;refine Jf ⟨?_⟩;refine Hy (u9,_,?_,q _ ?_ Ak8[Bk[a]])
 .rw[Cw,e];dsimp only;rw[Cw,Agz f];unfold Ab7;dsimp only;rw[a];rfl
 .exact(Fr.of0 Fr.app).same Fr.set
def Alx{mt:Nat->t6->o9 Fi}{m:t6}{j:Nat}{f:De->M lg[W]}{i:Fi}(l:Y[j]?=sr sr[.ref[n]])(s:S[n]?=sr[rdr B k])(d:∀(B:t6)(k:Int),([(("body":t6),W.str B),("place",.int k)]:lg[t6×W]).lookup m=sy)(o:mt 13 m=sr i)(r:Wm f[Y] S λc h=>c.length+1=i.np/\Wm (i.g (.ref n::c)) h Q):Wm (Bv mt m Aa[j] f Y) S Q:=by
 refine Az[Cv l ?_];refine Az (i,S,?_,?_)
 .unfold Xx;dsimp only;rw[s];show (match jR m [(_,W.str B),("place",_)],mt 13 m with|none,sr i=>_|_,_=>_)=_
  rw[d,o]
 .refine Az[Bd r λc h ⟨hl,q⟩=>?_];unfold Ahm;rw[di hl];omega
def Vm{m:Nat}(g:x.length=m):Rx n Jp[[.ref n,.int (m:Int)]] x .str[x]:=(λB a r S c h d=>by
 apply Dw rfl;refine Ef (Tj (Aox (P:=SP.any) rfl) (trivial,d) λs f=>?_);refine Bap (k':=(a ++ x).length) (Pu.cast (Cq Ag[rfl] Ag[rfl] Mg) (by rw[len_app,g];simp)) rfl f.at0[d] λq i b=>?_
 refine Dv (Tj (P:=Alv SP.any n _) ?_ (trivial,b) λp e=>(rfl,e.at0 b,((f.of0).same i).then0 e));apply Vi Bfv[rfl] Fw[Ag[rfl]] Fw[Aox[rfl]];let o:B.length=a.length+(x.length+r.length):=by rw[c,len_app,len_app]
 show Pu _ (if _ then _ else bad) _
 rw[Abz (by rw[len_app];omega) (by rw[len_app];omega),len_app,c,Rb]
 exact Lj (c ▸ aD h ()) Pu.pure)
def Qq{k:Nat}{i:Int}(l:1<=k)(j:k<=3)(hi:0<=i)(g:i < 64 ^ k):Rx n Iu[[.ref n,.int (k:Int)]] (M1.Ej k i) .int[i]:=(λB a r S o h d=>by
 apply Dw rfl;exact Dv Fd[Bh[Alx rfl d (λf f=>rfl) rfl Bh[Cv[rfl][Cm (rfl,(Vm[Dc k i]).use o h d λs b m=>Cm[Ce[Ab0 l j hi g] λq e=>(rfl,e.at0 b,m.then0 e)])]]]])
def Aly{o:Type}{b:lg o}{c:o->t6}{m:o->W}{e:De->M W}(v:b.length<=100)(C:∀x∈b,∀d,Rx n e[[sr d,sr .ref[n]]] c[x] m[x]):
  Rx n (Ds Sg yA[compX 1 [0] (Rr Kh yA[Aa[1]]) El[0] (λL=>pure t8) e] [sr .ref[n],sr[.int (b.length:Int)]]) jn[b.map[c]] .tup[b.map[m]]:=(λB a r S G F E=>by
 let f:b.length<=big:=aD v ()
 refine Fd Bh[?_];refine Azr (P:=SP.any) (Qy (k:=b.length) (Ab Ag[rfl] Ae) f) trivial λO y=>?_;refine Aip (J:=λi Y j T=>i<=b.length/\j=(b.take i).map m/\(∃d,Y=[d,sr .ref[n]])/\T[n]?=sr[rdr B (a ++ jn[(b.take i).map c]).length]/\Fr [n] S T) ?_ ?_ ?_
 .rintro i w Y j T A ⟨hi,rfl,⟨d,rfl⟩,l,s⟩;let h:i < b.length:=by
   let z:=(aK.mp A).1
   rwa [aJ,cG] at z
  let u:b.take[i+1]=b.take i ++ [(getElem[b][i][by get_elem_tactic])]:=(sV h).symm;refine([sr w,sr .ref[n]],rfl,Df ?_);rw[di rfl];let t:B=(a ++ jn[(b.take i).map c]) ++ (c getElem[b][i][by get_elem_tactic] ++ (jn[(b.drop[i+1]).map c] ++ r)):=by
   let z:b.map c=(b.take i).map c ++ (c getElem[b][i][by get_elem_tactic]::(b.drop[i+1]).map c):=by
    rw[<-cJ,<-dG,List.getElem_cons_drop,pD]
   rw[G,z,Bao,Q9,Bw,Bw,Bw]
  refine(C getElem[b][i][by get_elem_tactic] lH[h] w).use t F l λN p q=>?_;refine(?_,h,?_,(_,rfl),?_,s.same q)
  .rw[aJ,gW];exact jL aD[pJ _ _][v] ()
  .rw[u,dG];rfl
  .rw[u,dG,cJ,qN,Atd,<-Bw];exact p
 .rintro Y j T ⟨_,rfl,_,l,s⟩;simp only[aJ,cG,sY] at l ⊢
  refine(f,?_);refine Cm ?_;refine Avi Je (rfl,Fr.app.at0 l,s.then0 Fr.app)
 .exact(cP _,rfl,(sy,rfl),by rw[List.take_zero,qN,Bah,N8];exact y.at0 E,y.of0))
end
section
variable{P:SP}{n:Nat}{B x x1 x2:t6}{Y:De}{S:Store}{w:W}
def Alz{f:De->M W}{b':MS}{kk nn:Nat}{ws:lg W}(hl:ws.length=kk)(h:Rx n f[Eb nn ws] x w):Rx n (Cg kk nn (Ai retS[f] b') ws) x w:=λB a r S eB hB hS=>Dw hl Dv[h B a r S eB hB hS]
def Ie{mt:Nat->t6->o9 Fi}{m:t6}{j:Nat}{o:De->M lg[W]}{g:lg W->M W}{np:Nat}{dv e:lg W}(p:Y[j]?=sr sr[.ref[n]])(i:∀(B:t6)(k:Int),([(("body":t6),W.str B),("place",.int k)]:lg[t6×W]).lookup m=sy)(q:mt 13 m=sr (g,np,dv))(t:Pu SP.any o[Y] e)(s:e.length+1=np)(h:Rx n (g (.ref n::e)) x w):Rx n (Bv mt m Aa[j] o Y) x w:=(λB a r S z u l=>
 Alx p l i q (Ce t λE f=>(s,h.use z u f.at0[l] λC v y=>(rfl,v,f.of0.same y))))
def Aay{mt:Nat->t6->o9 Fi}{m:t6}{j:Nat}{f:De->M W}{g:lg W->M W}{np:Nat}{dv:lg W}{u:W}(p:Y[j]?=sr sr[.ref[n]])(e:∀(B:t6)(k:Int),([(("body":t6),W.str B),("place",.int k)]:lg[t6×W]).lookup m=sy)(q:mt 13 m=sr (g,np,dv))(s:2=np)(y:Rx n f[Y] x1 u)(v:Rx n g[[.ref n,u]] x2 w):Rx n (Bv mt m Aa[j] yA[f] Y) (x1 ++ x2) w:=(λB a r S i o l=>by
 refine Alx p l e q Bh[?_];rw[Bw] at i;refine y.use i o l λF h A=>?_;refine Cm (s,?_);refine v.use (by rw[i,<-Bw]) o h λE t z=>(rfl,?_,A.same z)
 rw[<-Bw];omega)
def Ate{is:lg Int}(h:∀i∈is,0<=i/\i < 4096)(e:is.length<=100):Rx n Ij[[.ref n,.int (is.length:Int)]] Lr[is] .tup[is.map[W.int]]:=(
 Alz rfl (Aly e λi hi d=>Ie rfl (λc c=>rfl) rfl (Ab Ak Ae) rfl (Qq () () (h i hi).1 (h i hi).2)))
def Bpf{k:t6}(h:isKey k=t8):k.length<=12:=by
 unfold isKey at h;simp_all
def Baq{k:t6}(h:isKey k=t8):Rx n Ku[[.ref n]] Rz[k] .str[k]:=by
 let c:=Bpf h;exact Alz rfl (Aay rfl (λa a=>rfl) rfl rfl (Ie rfl (λa a=>rfl) rfl (Ab Ak Ae) rfl (Qq (k:=1) () () () ())) Vm[rfl])
def Bfw{a:lg t6}(h:∀k∈a,isKey k=t8)(e:a.length<=100):Rx n J5[[.ref n,.int (a.length:Int)]] jn[a.map[Rz]] .tup[a.map[W.str]]:=(
 Alz rfl (Aly e λk f d=>Ie rfl (λc c=>rfl) rfl Ae rfl Baq[h k f]))
def Bfx{c:Cl}(h:c.ok=t8):Rx n J8[[.ref n]] c.t c.w:=(λB a r S d o E=>by
 let g:∀z:t6,z.length=1->Rx n Bv[λc n=>Bf.lookup[u6 c n]]["next_signs"][Aa 0][yA kI[1]][Eb 1 [.ref n]] z .str[z]:=λz H=>Ie rfl (λe e=>rfl) rfl (Ab Ak Ae) rfl (Vm (m:=1) H);cases c with
 |inn t=>
  let O:t.length<=63:=by
   unfold Cl.ok at h;rw[aL,dh] at h;exact h.2
  let y:Cl.t .inn[t]=("i":t6) ++ (M1.Ej 1 t.length ++ t):=Bw _ _ _;rw[y] at d ⊢
  rw[Bw] at d;apply Dw rfl;refine Tn (Asx (p:=true) Qz[?_]);refine(g ("i":t6) (rfl)).use d o E λL f v=>?_;refine Nb[Ce Fy.cast[congrArg[W.bl][rfl]] λJ l=>(rfl,rfl,?_)];refine Dv Eg[Bh[Nb[Bh[?_]]]];let q:Rx n Bv[λc n=>Bf.lookup[u6 c n]]["next_signs"][Aa[0]][yA[Bv (λc n=>Bf.lookup[u6 c n]) "next_number" Aa[0] yA[kI[1]]]][Eb 1 [.ref n]] (M1.Ej 1 t.length ++ t) .str[t]:=
   Aay rfl (λe e=>rfl) rfl rfl (Ie rfl (λe e=>rfl) rfl (Ab Ak Ae) rfl (Qq (k:=1) (i:=(t.length:Int)) () () () ())) Vm[rfl]
  refine q.use (by rw[d,<-Bw]) o l.at0[f] λG s u=>?_
  refine Cm (show 2<=big by decide,rfl,?_,(v.then0 l).same u)
  rwa [<-Bw]
 |out i p=>
  let I:∀j∈[i,p],0<=j/\j < 4096:=by
   unfold Cl.ok Gr at h;simp only[aL,dh] at h;intro j C;simp only[aW,bM,or_false] at C;rcases C with rfl|rfl <;> omega
  let y:Cl.t[.out i p]=("o":t6) ++ Lr [i,p]:=rfl;rw[y] at d ⊢
  rw[Bw] at d;apply Dw rfl;refine K8 (Asx (p:=false) Qz[?_]);refine(g ("o":t6) (rfl)).use d o E λL f v=>?_;refine Nb[Ce Fy.cast[congrArg[W.bl][rfl]] λJ l=>(rfl,rfl,?_)];refine Dv Afw[Eg[Bh[Nb[Cm (show 1<=big by decide,?_)]]]]
  let q:Rx n Bv[λc n=>Bf.lookup[u6 c n]]["next_numbers"][Aa 0][yA kI[2]][Eb 1 [.ref n]] Lr[[i,p]] .tup[[.int i,.int p]]:=by
   let F:=Ate (n:=n) (is:=[i,p]) I pG[rfl];simp only[fD,pY,aCf,Nat.reduceAdd,cJ,qN,Int.cast_ofNat_Int] at F;exact Ie rfl (λe e=>rfl) rfl (Ab Ak Ae) rfl F
  refine q.use (by rw[d,<-Bw]) o l.at0[f] λG s u=>?_
  refine(.tup [.str "out",.int i,.int p],G,rfl,rfl,?_,(v.then0 l).same u)
  rwa [<-Bw])
def Blo{z:t6×Cl}(g:isKey z.1=t8)(h:z.2.ok=t8):Rx n Ky[[.ref n]] Aau[z] Abx[z]:=(λB a r S b f j=>by
 unfold Aau at b ⊢
 rw[Bw] at b;apply Dw rfl;let l:Rx n Bv[λc n=>Dn.lookup[u6 c n]]["next_key"][Aa[0]][nilF][Eb 2 [.ref n]] ..:=Ie rfl (λd d=>rfl) rfl Ae rfl Baq[g];refine Ef[l.use b f j λs e o=>?_];let k:Rx n Bv[λc n=>Dn.lookup[u6 c n]]["next_cell"][Aa[0]][nilF][(Eb 2 [.ref n]).set 1 sr[.str[z.1]]] z.2.t z.2.w:=Ie rfl (λd d=>rfl) rfl Ae rfl Bfx[h];refine Dv Eg[Bh[Cv rfl Bh[?_]]];refine k.use (by rw[b,<-Bw]) f e λq i m=>?_
 refine Cm (show 2<=big by decide,rfl,?_,o.same m)
 rwa [<-Bw])
def Bfy{rs:lg[t6×Cl]}(h:∀z∈rs,isKey z.1=t8/\z.2.ok=t8)(e:rs.length<=100):Rx n Kc[[.ref n,.int (rs.length:Int)]] jn[rs.map[Aau]] .tup[rs.map[Abx]]:=(
 Alz rfl (Aly e λz a d=>Ie rfl (λc c=>rfl) rfl Ae rfl (Blo (h z a).1 (h z a).2)))
end
def Al0(x:t6):(⟨#[]⟩:t6) ++ x=x:=by
 show ⟨_⟩=x;simp
def Blp{S a:Store}(h:D.Fr [] S a):∃G,a=S ++ G:=by
 refine(a.drop S.length,?_);apply xJ;intro i;by_cases hi:i < S.length
 .rw[bD hi,h.get i hi (λz=>nomatch z)]
 .rw[bG (),oK,Nat.add_sub_cancel' ()]
theorem Bar{S a:Store}{n:Nat}(h:D.Fr [n] S a)(d:S.length<=n):D.Fr [] S a:=(h.len,λi hi c=>h.get i hi λz=>by grind)
section
variable{P:SP}{n:Nat}{B x:t6}{Y:De}{S:Store}{w:W}{Q:W->Store->Prop}
def Bas{m:M W}(h:∀S,P.p S->Wm m S λv a=>v=w/\D.Fr [] S a):Pu P m w:=(λS b=>by
 let(v,a,e,rfl,f):=h S b;let(G,rfl):=Blp f;exact(G,e))
def Atf{f:t6}{c:Nat}{fs:lg[t6×W]}{v:W}{h:De->M W}{b:MS}{K:RS->Prop}(g:h Y S=.ok v S)(e:Y[0]?=sr sr[.ref[n]])(k:S[n]?=sr[.ins c fs])(hok:fld t7 c f=t8)(j:fs.length < 1000)(q:Wb b Y (S.set n .ins[c][Wi f v fs]) K):
  Wb Ai[Jy fld f Aa[0] h][b] Y S K:=by
 refine Jf ⟨?_⟩;refine Hy (u9,_,?_,q);rw[Cw,g];dsimp only;rw[Cw,Agz e];unfold Ab7;simp_all
def Bat{v:W}:Wi "body" v []=[(("body":t6),v)]:=rfl
def Av5{v u:W}:Wi "place" u [(("body":t6),v)]=[(("body":t6),v),("place",u)]:=rfl
def Bfz(q:∀a,D.Fr [] S a->a[S.length]?=sr[rdr B 0]->Q .ref[S.length] a):Wm (Ni 13 Hj [.str B]) S Q:=by
 let c:(S ++ [Cell.ins 13 []])[S.length]?=sr[.ins 13 []]:=Je;let b:=Bk c;unfold Ni;refine Az (.ref S.length,S ++ [.ins 13 []],rfl,?_);refine Az[Dw rfl ?_];refine Atf (v:=.str B) Agz[rfl] rfl c () () ?_
 rw[Bat];refine Atf (v:=.int 0) rfl rfl Ak8[b] () (show 1 < 1000 by decide) ?_
 rw[Av5];refine Lb Df[q[_][?_][Ak8 (by rw[fB];exact b)]]
 exact Bar (((Fr.app.of0 (L:=[S.length])).same Fr.set).same Fr.set) aN[_]
def read0{m:M W}{r:t6}{k:Nat}(h:Rx n m x w)(l:B=x ++ r)(e:B.length<=400)(c:k=0)(d:S[n]?=sr[rdr B k])(q:∀b,b[n]?=sr[rdr B x.length]->D.Fr [n] S b->Q w b):Wm m S Q:=by
 subst c;refine h.use (a:=⟨#[]⟩) (by rw[Al0];omega) e d λb g f=>q b ?_ f
 rw[Al0] at g;omega
abbrev mtR:Nat->t6->o9 Fi:=λc n=>Ac.lookup[u6 c n]
def Atg{i:Int}(b:Y[2]?=sr sr[.ref[n]])(d:0<=i)(c:i < 64):Rx[n][Bv mtR "next_number" Aa[2] yA[kI[1]] Y][M1.Ej 1 i][.int i]:=(Ie b (λa a=>rfl) rfl (Ab Ak Ae) rfl (Qq () () d c))
def Bf0{i:Int}(b:Y[2]?=sr sr[.ref[n]])(d:0<=i)(c:i < 4096):Rx[n][Bv mtR "next_number" Aa[2] yA[kI[2]] Y][M1.Ej 2 i][.int i]:=(Ie b (λa a=>rfl) rfl (Ab Ak Ae) rfl (Qq () () d c))
def Al1{f:De->M W}{is:lg Int}(d:Y[2]?=sr sr[.ref[n]])(hf:Pu SP.any f[Y] (.int (is.length:Int)))(h:∀i∈is,0<=i/\i < 4096)(e:is.length<=100):Rx n (Bv mtR "next_numbers" Aa[2] yA[f] Y) Lr[is] .tup[is.map[W.int]]:=(
 Ie d (λc c=>rfl) rfl (Ab hf Ae) rfl (Ate h e))
def Bau{f:De->M W}(hv:Y[2]?=sr sr[.ref[n]])(hf:Pu SP.any f[Y] (.int (x.length:Int))):Rx n (Bv mtR "next_signs" Aa[2] yA[f] Y) x .str[x]:=Ie hv (λuw uw=>rfl) rfl (Ab hf Ae) rfl Vm[rfl]
def Bf1{rs:lg[t6×Cl]}(a:Y[2]?=sr sr[.ref[n]])(h:∀z∈rs,isKey z.1=t8/\z.2.ok=t8)(e:rs.length<=63):Rx[n][Bv mtR "next_rows" Aa[2] yA[Bv mtR "next_number" Aa[2] yA[kI[1]]] Y][M1.Ej 1 rs.length ++ jn rs.map[Aau]][.tup rs.map[Abx]]:=(
 Aay a (λc c=>rfl) rfl rfl (Atg a () ()) (Bfy h ()))
def Bf2{a:lg t6}(b:Y[2]?=sr sr[.ref[n]])(h:∀k∈a,isKey k=t8)(f:a.length<=63):Rx[n][Bv mtR "next_keys" Aa[2] yA[Bv mtR "next_number" Aa[2] yA[kI[1]]] Y][M1.Ej 1 a.length ++ jn a.map[Rz]][.tup a.map[W.str]]:=(
 Aay b (λd d=>rfl) rfl rfl (Atg b () ()) (Bfw h ()))
def Ath{p:Pg}(h:p.ok)(k:p.body.length<=400):Pu P T4[[.str p.letter,.str p.body]] p.w:=(Bas λS uw=>by
 let y:∀{X q:Store},D.Fr [] S X->D.Fr [S.length] X q->D.Fr [] S q:=λm e=>Bar[(m.of0).same e][aN _];apply Dw rfl;refine Ef Fd[Bh[Cv rfl Cm[?_]]];refine Bfz λX m g=>?_;cases p with
 |head a b c d=>
  let L:∀i∈[a,b,c,d],0<=i/\i < 4096:=by
   let(I,H,T,v):=h;intro i hi;simp only[aW,bM,or_false] at hi;rcases hi with rfl|rfl|rfl|rfl
   .exact Hg I ()
   .exact Hg H ()
   .exact Hg T ()
   .exact Hg v ()
  refine Tn[Ce[(Ah[Ar Ag[rfl] Ak Fy]).cast (rfl)] λq e=>(rfl,?_)];refine Dv Afw[Eg[Bh[Nb[Cm (show 1<=big by decide,?_)]]]]
  refine read0 (r:=⟨#[]⟩) (Al1 (is:=[a,b,c,d]) rfl (Pu.cast Ak rfl) L pG[rfl]) (N8 _).symm k rfl e.at0[g] λo O f=>?_;exact(.tup [.str "head",.int a,.int b,.int c,.int d],o,rfl,rfl,y m.then0[e] f)
 |free i=>
  let L:∀j∈[i],0<=j/\j < 4096:=λj hj=>(aM.mp hj) ▸ Hg h ()
  refine K8[Ce[(Ah[Ar Ag[rfl] Ak Fy]).cast (rfl)] λq e=>(rfl,?_)];refine K8[Ce[(Ah[Ar Ag[rfl] Ak Fy]).cast (rfl)] λo f=>(rfl,?_)];refine K8[Ce[(Ah[Ar Ag[rfl] Ak Fy]).cast (rfl)] λU l=>(rfl,?_)];refine K8[Ce[(Ah[Ar Ag[rfl] Ak Fy]).cast (rfl)] λS5 C=>(rfl,?_)];refine Tn[Ce[(Ah[Ar Ag[rfl] Ak Fy]).cast (rfl)] λS6 A=>(rfl,?_)];let E:=((((e.then0 f).then0 l).then0 C).then0 A);refine Dv Afw[Eg[Bh[Nb[Cm (show 1<=big by decide,?_)]]]]
  refine read0 (r:=⟨#[]⟩) (Al1 (is:=[i]) rfl (Pu.cast Ak rfl) L pG[rfl]) (N8 _).symm k rfl E.at0[g] λo O f=>?_;exact(.tup [.str "free",.int i],o,rfl,rfl,y m.then0[E] f)
 |leaf rs=>
  refine K8[Ce[(Ah[Ar Ag[rfl] Ak Fy]).cast (rfl)] λq e=>(rfl,?_)];refine Tn[Ce[(Ah[Ar Ag[rfl] Ak Fy]).cast (rfl)] λo f=>(rfl,?_)];refine Dv Eg[Bh[Nb[Bh[?_]]]];let Z:rs.length<=63:=h.1;refine read0 (r:=⟨#[]⟩) Bf1[rfl][λz hz=>h.2.1 z hz][Z] (N8 _).symm k rfl ((e.then0 f).at0 g) λU hS4 l=>?_;exact Cm (show 2<=big by decide,rfl,y m.then0[e.then0[f]] l)
 |fork J ps=>
  let((I,H,T),v,h5):=h;refine K8[Ce[(Ah[Ar Ag[rfl] Ak Fy]).cast (rfl)] λq e=>(rfl,?_)];refine K8[Ce[(Ah[Ar Ag[rfl] Ak Fy]).cast (rfl)] λo f=>(rfl,?_)];refine Tn[Ce[(Ah[Ar Ag[rfl] Ak Fy]).cast (rfl)] λU l=>(rfl,?_)];let G:=(e.then0 f).then0 l;apply Ef;refine read0 (r:=Lr ps) (Bf2 rfl H I) rfl k rfl G.at0[g] λS5 N C=>?_;refine Dv Eg[Bh[Nb[Bh[Cv rfl Bh[?_]]]]];refine(Al1 (is:=ps) rfl ((Cq Ad[Ab Ag[rfl] Ae][G7] Ak Mg).cast (congrArg W.int (show ((J.map W.str).length:Int)+1=(ps.length:Int) by rw[aJ,v];rfl))) (λi hi=>Hg (h5 i hi) ()) ()).use (a:=M1.Ej 1 J.length ++ jn J.map[Rz]) (r:=⟨#[]⟩) (rfl) k N λS6 u A=>?_
  exact Cm (show 3<=big by decide,rfl,y m.then0[G] C.same[A])
 |rest t i=>
  let(I,H,T,v):=h;let hi:=Hg v ()
  let eb:Pg.body[.rest t i]=M1.Ej 2 i ++ t:=rfl;refine K8[Ce[(Ah[Ar Ag[rfl] Ak Fy]).cast (rfl)] λq e=>(rfl,?_)];refine K8[Ce[(Ah[Ar Ag[rfl] Ak Fy]).cast (rfl)] λo f=>(rfl,?_)];refine K8[Ce[(Ah[Ar Ag[rfl] Ak Fy]).cast (rfl)] λU l=>(rfl,?_)];refine Tn[Ce[(Ah[Ar Ag[rfl] Ak Fy]).cast (rfl)] λS5 C=>(rfl,?_)];let F:=((e.then0 f).then0 l).then0 C;apply Ef;refine read0 (r:=t) (Bf0 rfl hi.1 hi.2) eb k rfl F.at0[g] λS6 u A=>?_;refine Dv Eg[Bh[Nb[Bh[?_]]]];let Z:(Pg.body[.rest t i]).length=2+t.length:=by rw[eb,len_app,Dc]
  refine(Bau (x:=t) rfl ((Cq Ad[Ab Ag[rfl] Ae][len_str[aD k ()]] Ak Aee).cast (congrArg W.int (show ((Pg.body[.rest t i]).length:Int) - 2=((t.length:Nat):Int) by omega)))).use (a:=M1.Ej 2 i) (r:=⟨#[]⟩) (rfl) k u λS7 hS7 f7=>?_
  exact Bh Cv[rfl][Cm (show 3<=big by decide,rfl,y m.then0[F] A.same[f7])])
end
def Av6{z:t6}(h:2<=z.length):fH z sy sr[-2]=cut z 0 (z.length - 2):=by
 rw[eq_of_beq[oY () () rfl]]
 unfold cut
 grind
def Av7{z:t6}(h:2<=z.length):fH z sr[-2] sy=cut z (z.length - 2) z.length:=by
 rw[eq_of_beq[wD () () rfl rfl]]
 unfold cut
 grind
def Ag0{z:t6}{i:Nat}(h:i<=z.length):fH z (sr (i:Int)) sy=cut z i z.length:=by
 rw[eq_of_beq[pA () () rfl]]
 unfold cut;simp
def Ajt(a r:t6):cut (a ++ r) 0 a.length=a:=by
 let h:=Rb ⟨#[]⟩ a r;rw[Al0] at h;let e:(⟨#[]⟩:t6).length=0:=rfl;rw[e,aCf] at h;omega
def Ati(a r:t6):cut (a ++ r) a.length (a ++ r).length=r:=by
 rw[len_app];exact Rb a r ⟨#[]⟩
section
variable{P:SP}
def Ag1{Y:De}{f:De->M W}{z:t6}(h:Pu P f[Y] .str[z])(b:2<=z.length)(a:z.length<=big):Pu P (slF f By Dh[Afo[kI[2]]] Y) .str[cut[z][0][z.length - 2]]:=by
 apply Vi h Gs Fw[Bam[Ak]];show Pu P (if _ then _ else bad) _
 exact(Av6 b) ▸ Lj a Pu.pure
def Blq{Y:De}{f:De->M W}{z:t6}(h:Pu P f[Y] .str[z])(b:2<=z.length)(a:z.length<=big):Pu P (slF f Dh[Afo[kI[2]]] By Y) .str[cut[z][z.length - 2][z.length]]:=by
 apply Vi h Fw[Bam[Ak]] Gs;show Pu P (if _ then _ else bad) _
 exact(Av7 b) ▸ Lj a Pu.pure
def Al2{Y:De}{f g h:De->M W}{z:t6}{i j:Nat}(k:Pu P f[Y] .str[z])(hi:Pu P g[Y] (.int (i:Int)))(e:Pu P h[Y] (.int (j:Int)))(c:i<=j)(b:j<=z.length)(d:z.length<=big):Pu P (slF f Dh[g] Dh[h] Y) .str[cut z i j]:=by
 apply Vi k Fw[hi] Fw[e];show Pu P (if _ then _ else bad) _
 exact(Abz c b) ▸ Lj d Pu.pure
def Ag2{z:t6}(b:2<=z.length)(a:z.length<=big)(c:M2.Dp cut[z][0][z.length - 2]=t8):Pu P Hq[[.str z]] .bl[M2.check cut[z][0][z.length - 2]==cut z (z.length - 2) z.length]:=(Bu rfl Bo[Bb[Ar[Ad[Ab[Ag1 Ag[rfl] b a][Ae]][Aov (by rw[Mp cP[_] ()];omega) c]][Blq Ag[rfl] b a][Fy]]])
def Aaz{exm:Nat->Bool}{f:Nat}(h:PuN P b Y Y'):PuN P (Am5 exm f i b) Y Y':=(λS d=>by
 let(G,e):=h S d;exact(G,by unfold Am5;rw[e]))
def Bav:Pu P Mr[[.non]] .bl[t7]:=(λS a=>([],by rw[bQ];rfl'))
def Ag3(p:Pg):∃c,p.letter=⟨#[c]⟩:=by cases p <;> exact(_,rfl)
def Aoy{z r:t6}{c:Nat}(a:z.length<=big)(e:z=⟨#[c]⟩ ++ r):Pu P (ixW .str[z] .int[0]) .str[⟨#[c]⟩]:=by
 let b:0 < z.length:=by rw[e,len_app];exact aQ (show 0 < 1 by simp) (nA ..)
 let h:=Aew (P:=P) a b;let d:z.cps.toList.getD 0 0=c:=by rw[e,M9];rfl
 rw[d] at h;exact h
def text_len{p:Pg}{a:Int}(d:64<=a)(c:(p.body.length:Int)<=a - 5):(p.text a).length=a.toNat:=by
 unfold Pg.text;rw[len_app,Vk c,Ajs];omega
def Ag4{p:Pg}{a:Int}(h:p.ok)(g:64<=a)(o:a<=200)(m:(p.body.length:Int)<=a - 5):Pu P Ez[[.str p.text[a]]] p.w:=by
 let r:=text_len g m;let hu:=Vk m;let b:(p.text a).length<=big:=r ▸ aD (show a.toNat<=200 by omega) ()
 let el:((p.text a).length:Int)=a:=by omega
 let l:cut p.text[a] 0 ((p.text a).length - 2)=p.unch a:=by
  let e:=Ajt p.unch[a] M2.check[p.unch[a]]
  rwa [show (p.text a).length - 2=(p.unch a).length by omega]
 let x:cut p.text[a] ((p.text a).length - 2) (p.text a).length=M2.check p.unch[a]:=by
  let e:=Ati p.unch[a] M2.check[p.unch[a]];rw[show (p.text a).length - 2=(p.unch a).length by omega]
  exact e
 let(n,s):=Alu p a;let t:p.unch a=p.start ++ ⟨iQ n 48⟩:=by
  show p.unch a=⟨p.start.cps ++ iQ n 48⟩;rw[<-s]
 let k:p.text a=p.letter ++ (M1.Ej 2 p.body.length ++ (p.body ++ (⟨iQ n 48⟩ ++ M2.check p.unch[a]))):=by
  show p.unch a ++ M2.check p.unch[a]=_;rw[t];unfold Pg.start;rw[Bw,Bw,Bw]
 let(c,q):=Ag3 p;let v:cut p.text[a] 1 3=M1.Ej 2 p.body.length:=by
  let e:=Rb[p.letter][M1.Ej 2 p.body.length][p.body ++ (⟨iQ n 48⟩ ++ M2.check p.unch[a])];rw[<-k,G8,Dc] at e;exact e
 let u:cut p.text[a] 3 (3+p.body.length)=p.body:=by
  let e:=Rb[p.letter ++ M1.Ej 2 p.body.length][p.body][⟨iQ n 48⟩ ++ M2.check p.unch[a]];rw[Bw,<-k,len_app,G8,Dc] at e;exact e
 let f:Pu P Gn[[.str p.text[a]]] p.w:=by
  apply Bu (ws:=[.str p.text[a]]) rfl;apply Dd
  .refine Et Br[Ah[Ad[Ab Ag[rfl] Ae][Ag2 () b (l ▸ Aen h a)]]] ?_ Aw
   rw[l,x,beq_self_eq_true];rfl
  .refine Dd (Dm (w:=.int (p.body.length:Int)) (Ad (Ab ((Al2 (i:=1) (j:=3) Ag[rfl] Ak Ak () () b).cast (by rw[v])) Ae) (Ab0 () () () (show (p.body.length:Int) < 64 ^ 2 by omega)))) ?_
   refine Bo (Bb (Ad (Ab Dj[Ag[rfl]][Ak][(Aoy b k.trans[by rw[q]]).cast (by rw[q])] (Ab ((Al2 (i:=3) (j:=3+p.body.length) Ag[rfl] Ak ((Cq Ak Ag[rfl] Mg).cast (congrArg W.int ())) () () b).cast (by rw[u])) Ae)) (Ath h ())))
 apply Bu (ws:=[.str p.text[a]]) rfl;apply Dd
 .refine Et (Es Br[Ah[Ad Ab[Ag rfl][Ab Ak Ae] Mm]] Br[Ah[Ad[Ab Ad[Ab Ag[rfl] Ae][len_str b] Ae][Lg _]]]) ?_ Aw;rw[el,dj g,dj o];rfl
 refine Dd Aaz[Ak2 Dm[Ad[Ab Ag[rfl] Ae][f]] Aw] ?_;refine Dd (Et Br[Ah[Ad[Ab Ag[rfl] Ae][Aem h]]] rfl Aw) ?_;apply Dd
 .refine Et Ah[Ar[Ad[Ab[Ag rfl][Ab Ad[Ab Ag[rfl] Ae][Aek h] Ab[(Ad[Ab Ag[rfl] Ae][len_str b]).cast (by rw[el])][Ae]]][Ael () g o]][(Ag1 Ag[rfl] () b).cast (by rw[l])][Ap9]] ?_ Aw
  rw[beq_self_eq_true];rfl
 .exact Bo Bb[Ag[rfl]]
end
section
def Aju{p:Pg}(h:p.ok):Pu P Qo[[p.w]] .str[p.body]:=Bu rfl Dd[Et Br[Ah[Ad[Ab Ag[rfl] Ae][Aem h]]] rfl Aw][Bo Bb[Ad[Ab Ag[rfl] Ae][Aek h]]]
def Bf3(i:Int):Pu P Abw[[.int i]] .int[i - 5]:=Bu rfl Bo[Bb[Cq Ag[rfl] Ak Aee]]
def Fits(size:Int)(p:Pg):Prop:=p.ok/\(p.body.length:Int)<=size - 5
def Siz(size:Int):Prop:=64<=size/\size<=200
def Mq{p:Pg}{a:Int}(h:Fits a p)(hs:Siz a):Pu P Gz[[p.w,.int a]] .str[p.text[a]]:=by
 let(h,b):=h;let(d,c):=hs;let hu:(p.unch a).length<=big:=(Vk b) ▸ aD (show (a - 2).toNat<=200 by omega) ()
 refine Bu rfl (Dd Dm[Ad[Ab Ag[rfl] Ae][Aju h]] ?_);apply Dd[Et Br[Ah[Ad[Ab Ag[rfl] Ae][Lg a]]] (by rw[dj d,dj c];rfl) Aw]
 apply Dd Et[Ah[Ar Ad[Ab Ag[rfl] Ae][len_str[aD (show p.body.length<=195 by omega) ()]] Ad[Ab Ag[rfl] Ae][Bf3 a] Rj]][dq ()][Aw]
 apply Dd Dm[Ad[Ab Ag[rfl] Ab[Ag rfl][Ab Ag[rfl] Ae]][Ael () d c]]
 exact Bo (Bb (Cq Ag[rfl] Ad[Ab Ag[rfl] Ae][Aov[hu][Aen h a]] (Gi (by
  rw[Ajs,Vk b];exact aD (show (a - 2).toNat+2<=400 by omega) ()))))
def Ajv{p:Pg}{size:Int}(h:Fits size p)(hs:Siz size):Pu P Ez[[.str p.text[size]]] p.w:=Ag4 h.1 hs.1 hs.2 h.2
def Ju{p:Pg}{size:Int}(h:Fits size p)(hs:Siz size):(p.text size).length=size.toNat:=text_len hs.1 h.2
end
local macro_rules|`(tactic| array_mem_dec)=>`(tactic| first|assumption|(apply Fr.at0;assumption;array_mem_dec)|(apply Fr.at1;assumption;array_mem_dec;first|assumption|omega))
local macro_rules|`(tactic| array_get_dec)=>`(tactic| first|with_reducible refine Nb ?_|((with_reducible apply Cv);exact rfl)|(with_reducible first|refine Bhx ?_|refine Afw ?_|refine Qz ?_|refine Bh ?_|refine Cm ?_|refine Alc ?_|refine Ln ?_|refine Vz ?_|refine Afz ?_|refine Q0 ?_|refine Fd ?_|refine Ef ?_|refine Dv ?_|refine X8 ?_|refine As2 ?_|refine Aqf ?_|refine Cj ?_|refine Lb ?_)|((with_reducible apply As1);array_mem_dec;exact rfl;exact rfl)|((with_reducible apply Az1);array_mem_dec;exact rfl;exact rfl)|((with_reducible apply Lk);array_mem_dec;exact rfl;exact rfl)|((with_reducible refine Af0 ?_ ?_);exact rfl)|with_reducible refine tb ?_|with_reducible refine As4 (by first|assumption|omega) ?_|with_reducible refine Anp () () ?_|with_reducible refine Aeg () ?_|((with_reducible apply Asy);array_mem_dec)|((with_reducible apply As6);array_mem_dec)|(with_reducible first|refine Az3 ?_|refine Az4 ?_|refine Az5 ?_|refine Az6 ?_|refine Aqh ?_|refine Az7 ?_)|((with_reducible apply Bhz);exact rfl)|((with_reducible apply Bh0);exact rfl)|((with_reducible apply Az2);exact rfl)|((with_reducible apply As3);exact rfl))
local macro_rules|`(tactic|symm)=>`(tactic|repeat array_get_dec)
def Bpg(ns:lg Int)(k s:Int):Cell:=.dct [(.inr "script",.scr ns),(.inr "at",.int k),(.inr "seed",.int s)]
def Tp(n:Nat)(S:Store):Prop:=∃ns k s,0<=k/\0<=s/\S[n]?=sr[Bpg ns k s]
section
def Blr:Ab8 [(.inr "script",.scr ns),(.inr "at",.int k),(.inr "seed",.int s)] .inr["at"] .int[j]=[(.inr "script",.scr ns),(.inr "at",.int j),(.inr "seed",.int s)]:=rfl
def Baw:Ab8 [(.inr "script",.scr ns),(.inr "at",.int k),(.inr "seed",.int s)] .inr["seed"] .int[j]=[(.inr "script",.scr ns),(.inr "at",.int k),(.inr "seed",.int j)]:=rfl
def Bls{ns:lg Int}{k:Int}(c:0<=k)(h:k < ns.length):∃v,atI ns k=sr v:=by
 unfold atI ixN;simp_all
def Ca{m:Int}(h:Tp n S)(g:0 < m)(q:∀i S',Fr [n] S S'->Tp n S'->0<=i->i < m->Q .int[i] S'):Wm Al[[.ref n,.int m]] S Q:=by
 let(ns,k,s,l,t,h):=h;unfold Bpg at h;apply Dw rfl;let go:∀v:Int,Wb Ai[Im Aa[0] kS["at"] Ax[.add][ixF Aa[0] kS["at"]][kI[1]]][Ai Im[Aa 0][kS "seed"][Ax .mod Ax[.add][Ax .mul Ax[.add][ixF Aa[0] kS["seed"]][Aa[2]] kI[48271]][kI[11]] kI[2147483647]] rQ[Ax .mod Ax[.fdiv][ixF Aa[0] kS["seed"]][kI[11]] Aa[1]]] [sr .ref[n],sr .int[m],sr .int[v]] S Adv[Q]:=λv=>by
  symm;refine Nm h rfl (show 3 < big by decide) λw p c=>?_
  rw[Blr] at c
  symm;apply Aeg[by rw[show small 48271=t8 by decide +kernel,tY]];symm;refine Nm c rfl (show 3 < big by decide) λu o e=>?_
  rw[Baw] at e
  symm;exact q _ _ p.same[o] (_,_,_,(),jP _ (),e) (jP _ ()) (lV _ g)
 refine Ef Nb[Hs[?_]];symm;refine Ht[λj=>?_] λr=>Lb go[0];let(v,f):=Bls l j;symm;apply Jg (a:=.int v) (S':=S) (by show Ahl ((atI ns k).map W.int) S=_;rw[f];rfl)
 exact Lb go[v]
end
def Ab1:t6:=(" !\"#$&'()*+,-./0123456789:;<=>?@ABCDEFGHIJKLMNOPQRSTUVWXYZ[\\]^_`":t6) ++ ("abcdefghijklmnopqrstuvwxyz{|}~":t6)
def Vn:Ab1.length=94:=by decide +kernel
def Bf4:M2.Dp Ab1=t8:=by trivial
def Xe(i:Int):Nat:=Ab1.cps.toList.getD i.toNat 0
def Bf5{i:Int}(b:0<=i)(h:i < 94):M2.okC Xe[i]=t8:=(M2.As0 Bf4 (by show _ < Ab1.length;rw[Vn];omega))
def Bf6(a b:Int)(size:Nat):t6:=jn[(fO size).map λ(k:Nat)=>(⟨#[Xe[(a+(0+(k:Int)) * b) % 94]]⟩:t6)]
def Bf7(a b:Int)(c:Nat):M2.Dp[Bf6 a b c]=t8:=(Aow λy d=>by
 let(k,_,rfl):=dZ.mp d;exact(Aqw _).trans Bf5[jP _ ()][lV _ ()])
def Bax(a b:Int)(c:Nat):(Bf6 a b c).length=c:=by
 unfold Bf6;rw[Aby];have:∀l:lg Nat,(l.map[(λx:t6=>x.length) ∘ λ(k:Nat)=>⟨#[Xe[(a+(0+k) * b) % 94]]⟩]).sum=l.length:=by
  intro l;induction l with
  |nil=>rfl
  |cons x l f=>
   rw[cJ,pQ,f,fD];show 1+_=_;omega
 rw[dO,this,cG]
section
def Ag5:Pu P Ke[[]] .str[Ab1]:=(Bu rfl (Dd Dm[Ak] Bo[Bb[Cq Ag[rfl] Ak Gi[by trivial]]]))
def Blt{i:Int}(a:0<=i)(h:i < 94):Pu P (ixW .str[Ab1] .int[i]) .str[⟨#[Xe i]⟩]:=by
 have:=Aew (P:=P) (j:=i.toNat) (by rw[Vn];decide) (by rw[Vn];omega)
 rw[uB,nO a] at this;exact this
def Av8{i:Int}(a:0<=i)(c:i<=1000000):small i=t8:=by
 have:=Ajr (k:=i.toNat) ()
 rw[nO a] at this;omega
def Aa0{m:Int}(h:Tp n S)(E:0<=m)(C:m<=1000)(q:∀z g,Fr [n] S g->Tp n g->(z.length:Int)=m->M2.Dp z=t8->Q .str[z] g):Wm G3[[.ref n,.int m]] S Q:=by
 obtain⟨k,rfl⟩:∃k:Nat,m=k:=(m.toNat,())
 refine Dw rfl Ef[?_];symm;refine Ca h () λa L w u H G=>?_;symm;refine Ca u () λb J v s F b1=>?_;symm;refine Ce (a:=.str Bf6[a][1+b][k]) ?_ λI l=>?_
 .refine Aej (c:=1) ?_ (λy r=>?_) (by rw[aJ,cG];exact aD (show k * 1<=1000 by omega) ())
  .let j:k<=big:=aD (show k<=1000 by omega) ()
   rw[dO];refine Hf (t:=λB=>pure t8) (xs:=fO k) Qy[Ab Ag[rfl] Ae][j] rfl (cG ▸ j) λi hi=>(Pu.pure,?_);let hi:=iW.mp hi;exact Dj (Ad Ae Ag5) (Cq (Cq Ag[rfl] (Cq Ag[rfl] Ag[rfl] (Aef (by rw[Av8 (i:=0+(i:Int)) () ()];rfl))) Mg) Ak (Azj ())) Blt[jP _ ()][lV _ ()]
  .let(k,_,rfl):=dZ.mp r;exact aN 1
 .let(x,y,z,p,o,e):=s;exact q _ _ ((w.same v).then0 l) (x,y,z,p,o,l.at0 e) (by rw[Bax]) (Bf7 ..)
def Tp.at0(h:Tp n S)(f:Fr [] S S'):Tp n S':=by
 let(x,y,z,b,a,e):=h;exact(x,y,z,b,a,f.at0 e)
def Tp.lt(h:Tp n S):n < S.length:=by
 let(_,_,_,_,_,e):=h;exact Bk e
def Tp.mv(h:Tp n S)(f:Fr L S S')(c:n∉L):Tp n S':=by
 let(x,y,z,b,a,e):=h;exact(x,y,z,b,a,f.at e c)
def Bph{a b c:Int}(j:0<=a)(i:a < 137)(g:0<=b)(b1:b < 20)(f:0<=c)(e:c < 4):∃z,atI [W.int 64,.int 200,.int[64+a],.int[64+b]] c=sr .int[z]/\Siz z:=by
 let h:c=0\/c=1\/c=2\/c=3:=by omega
 rcases h with rfl|rfl|rfl|rfl
 .exact(_,rfl,(),())
 .exact(_,rfl,(),())
 .exact(_,rfl,(),())
 .exact(_,rfl,(),())
def Bf8(h:Tp n S)(q:∀z f,Fr [n] S f->Tp n f->Siz z->Q .int[z] f):Wm Lq[[.ref n]] S Q:=by
 refine Dw rfl Dv[?_];symm;refine Ca h () λa C s o x w=>?_;symm;refine Ca o () λb B p g v b1=>?_;symm;refine Bt (show 4<=big by decide) λr A j l lr=>?_
 refine Ca g.at0[j] () λc y i m u t=>?_
 let(z,e,k):=Bph x w v b1 u t;exact Fe (i.at1 l (by have:=g.lt;omega)) e (q _ _ (((s.same p).then0 j).same i) m k)
structure Ks(ks:List t6):Prop where
 ok:∀k∈ks,isKey k=t8
 ri:Vl ks
def Bay{j:Nat}(d:0 < z.length):fH[z][sr ((j+1:Nat):Int)][sr (j:Int)]=⟨#[]⟩:=by
 let e:qR (sr (j+1:Nat)) sr[j] 1 z.length=[]:=by
  unfold qR sliceRange;let c:∀j:Nat,(if ((j:Int)) < 0 then j+(z.length:Int) else j)=j:=λj=>dm ()
  simp only[c,show (1:Int) > 0 by simp,if_true]
  rw[dm ()]
  rfl
 unfold fH;rw[e,dm (by simp;omega)]
 rfl
def Av9{z:t6}{i j:Nat}(c:M2.Dp z=t8)(hi:i<=j+1)(b:j<=z.length)(d:0 < z.length):(fH[z][sr (i:Int)][sr (j:Int)]).length=j - i/\M2.Dp fH[z][sr (i:Int)][sr (j:Int)]=t8:=by
 by_cases h:i<=j
 .rw[Abz h b];exact(Mp h b,Ra c)
 .obtain rfl:i=j+1:=by omega
  rw[Bay d];exact(by show 0=_;omega,rfl)
end
theorem Atj:∀{l:lg Nat} {i j:Nat},i < j->j<=l.length->l.take i < l.take j
 |[],_,_,h,d=>by simp_all
 |a::l,0,j+1,h,d=>by simp
 |a::l,i+1,j+1,h,d=>by
  rw[vK,vK,List.cons_lt_cons_iff];exact .inr (rfl,Atj () (by simp_all))
def Blu{z:t6}{i j:Nat}(h:i < j)(c:j<=z.length):Kg[cut z 0 i][cut z 0 j]=t8:=(dj Atj[h][by trivial])
theorem Aqy:∀l:lg t6,(ddS l).length<=l.length
 |[]=>aN _
 |a::l=>by
  unfold ddS;have:=Aqy l
  grind
section
def Bf9{b:lg t6}(f:S[r]?=sr .lst[b.map[W.str]])(i:b.length < 64)(q:∀n c,Fr [] S c->c[n]?=sr .lst[(Adr ddS[b]).map W.str]->S.length<=n->Q .ref[n] c):Wm K4[[.ref r]] S Q:=by
 let hd:=Aqy b;let(a,h,e,z):=Bt (by rw[aJ,(Ji _).length_eq];exact aD (show _<=64 by omega) ()) q
 refine(a,h,?_,z);unfold K4;dsimp only;rw[f];dsimp only;rw[di[by simp_all],Afu]
 omega
def Bga{z:t6}{k:Nat}(d:z.length=12)(a:M2.Dp z=t8)(f:1<=k)(e:k<=12):isKey[cut z 0 k]=t8:=by
 unfold isKey;rw[Ra a,Mp cP[_] ()]
 simp_all
theorem Blv{z:t6}{m:Nat}(e:z.length=12)(d:M2.Dp z=t8)(n:m<=12):Ks[(fO m).map λk=>cut z 0 (k+1)] where
 ok:=λk f=>by
  let(i,hi,rfl):=dZ.mp f;have:=iW.mp hi;exact Bga e d () ()
 ri:=by
  unfold Vl;rw[List.pairwise_map];refine aBj (R:=λa b=>a < b) (λ{a b} ha hb h=>?_) List.pairwise_lt_range;have:=iW.mp hb;exact Blu () ()
def Baz{f:De->M W}{l h:De->M o9[Int]}{lo hi:o9 Int}{z:t6}(h1:Pu P f[Y] .str[z])(h2:Pu P l[Y] lo)(h3:Pu P h[Y] hi)(hz:z.length<=big):Pu P (slF f l h Y) .str[fH z lo hi]:=Vi h1 h2 h3 (Lj hz Pu.pure)
def Ba0(z:t6)(a b:Nat)(c:Nat):t6:=fH z sy (sr (a:Int)) ++ ⟨#[c]⟩ ++ fH[z][sr ((a+1:Nat):Int)][sr (b:Int)]
def Atk{z:t6}{a b c:Nat}(q:z.length=12)(f:M2.Dp z=t8)(s:a < 12)(k:a<=b)(r:b<=12)(h:M2.okC c=t8):isKey[Ba0 z a b c]=t8/\(fH z sy (sr (a:Int))).length=a/\(fH[z][sr ((a+1:Nat):Int)][sr (b:Int)]).length<=12:=by
 let(o,n):=Av9 (i:=a+1) (j:=b) f () () ()
 let g:(fH z sy (sr (a:Int))).length=a:=by rw[Jh (),Mp () ()];rfl
 let m:M2.Dp fH[z][sy][sr (a:Int)]=t8:=by rw[Jh ()];exact Ra f
 let l:(Ba0 z a b c).length=a+1+(b - (a+1)):=by
  unfold Ba0;rw[len_app,len_app,o,g];rfl
 refine(?_,g,())
 unfold isKey;rw[l];unfold Ba0;rw[Hm,Hm,n,m,show M2.Dp ⟨_⟩=t8 from (Aqw c).trans h];simp;omega
def Blw{ss:lg t6}(h:∀k∈ss,isKey k=t8):Ks Adr[ddS[ss]]:=(λk hk=>h k Xw.mp[(Ji _).mem_iff.mp hk],Ahv Vs)
def Bgb{m:Int}(h:Tp n S)(h0:0<=m)(hm:m<=9)(q:∀A r u,Fr [n] S u->Tp n u->u[r]?=sr .lst[A.map[W.str]]->S.length<=r->Ks A->A.length<=9->Q .ref[r] u):Wm N7[[.ref n,.int m]] S Q:=by
 obtain⟨k,rfl⟩:∃k:Nat,m=k:=(m.toNat,())
 let l:k<=big:=aD (show k<=9 by omega) ()
 refine Dw rfl Ef[?_];symm;refine Aa0 h () () λz S1 s h1 g w=>?_
 let g:z.length=12:=by omega
 let G:z.length<=big:=by rw[g];decide
 refine Hs ?_;symm;refine Ca h1 () λa S2 p L a0 a1=>?_;symm;refine Ht[λv=>?_] λv=>Cj ?_
 .refine Dv (Azp (P:=SP.any) (ws:=((fO k).map λk=>cut z 0 (k+1)).map W.str) ?_ trivial λr S3 o C lr=>?_)
  .rw[dO];refine Hf (t:=λv=>pure t8) (xs:=fO k) (φ:=λ(k:Nat)=>W.int[(0:Int)+(k:Int)]) Qy[Ab Ag[rfl] Ae][l] rfl (cG ▸ l) λi hi=>(Pu.pure,?_);let hi:=iW.mp hi;refine Pu.cast (Baz Ag[rfl] Gs Fw[Cq Ag[rfl] Ak Mg] G) ?_;rw[show (0+(i:Int)+1)=((i+1:Nat):Int) by omega,Jh ()]
   rfl
  .exact q _ _ _ ((s.same p).then0 o) L.at0[o] C (by have:=s.len;have:=p.len;omega) (Blv g w ()) (by rw[aJ,cG];omega)
 symm;refine Ca L () λb S3 o h3 b0 b1=>?_;symm;refine Ca h3 () λc S4 T Z c0 c1=>?_;symm;obtain⟨b,rfl⟩:∃k:Nat,b=k:=(b.toNat,())
 obtain⟨c,rfl⟩:∃k:Nat,c=k:=(c.toNat,())
 refine Az Fd[?_];symm;refine Aa0 Z () () λy S5 O Y H ty=>?_
 let H:y.length=94:=by omega
 let by_:y.length<=big:=by rw[H];decide
 refine Ce (a:=.str[cut y 0 k]) Pu.bind[Gs][Pu.bind Fw[Ag[rfl]] Pu.cast[Lj by_ Pu.pure][by rw[Jh ()]]] λS6 F=>?_
 let I:(cut y 0 k).length=k:=by rw[Mp () ()];rfl
 symm;let J:∀x∈(cut y 0 k).cps.toList,M2.okC x=t8:=by
  have:=Ra (i:=0) (j:=k) ty;unfold M2.Dp at this;exact bB.mp this
 refine Azp (P:=SP.any) (ws:=(((cut y 0 k).cps.toList.map Ba0[z][b][b+c])).map W.str) ?_ trivial λr S7 E C lr=>?_
 .rw[dO];refine Hf (t:=λv=>pure t8) (xs:=(cut y 0 k).cps.toList) (φ:=λc=>W.str ⟨#[c]⟩) Ak6[by rwa [I]][Ag rfl] rfl (by rw[bC];show (cut y 0 k).length<=big;rw[I];exact l) λi hi=>(Pu.pure,?_)
  let(_,U,e2):=Atk (a:=b) (b:=b+c) g w () () () (J i hi)
  refine Cq Cq[Baz Ag[rfl] Gs Fw[Ag[rfl]] G][Ag rfl][Gi ?_] (Baz Ag[rfl] Fw[Cq Ag[rfl] Ak Mg] Fw[Ag[rfl]] G) Gi[?_]
  .rw[U];exact aD (show b+1<=13 by omega) ()
  .rw[len_app,U];exact aD (show b+1+(fH[z][sr ((b+1:Nat):Int)][sr ((b+c:Nat):Int)]).length<=30 by omega) ()
 refine Cm[Bf9 C (by rw[aJ,bC];show (cut y 0 k).length < 64;omega) λr2 S8 N B X=>?_]
 refine q _ _ _ ((((((s.same p).same o).same T).same O).then0 F).then0 E.then0[N]) (((Y.at0 F).at0 E).at0 N) B ?_ (Blw λk l=>?_) ?_
 .have:=s.len;have:=p.len;have:=o.len;have:=T.len;have:=O.len;have:=F.len;have:=E.len;omega
 .let(i,hi,rfl):=dZ.mp l;exact(Atk g w () () () (J i hi)).1
 .rw[(Ji _).length_eq];refine aD Aqy[_] ?_;rw[aJ,bC];show (cut y 0 k).length<=9;omega
end
def Gw(pre:lg t6):Pg->Prop
 |.leaf rs=>Vl (rs.map (·.1))/\(∀r∈rs,r.1∈pre/\r.2.ok=t8)/\rs.length<=pre.length
 |.fork ks ps=>Vl ks/\(∀k∈ks,k∈pre)/\ks.length<=pre.length/\ps.length=ks.length+1/\∀p∈ps,Gr p 1=t8
 |_=>False
section
def Gw.ok{p:Pg}(h:Gw pre p)(d:∀k∈pre,isKey k=t8)(c:pre.length<=63):p.ok:=by
 cases p with
 |leaf rs=>exact(aD h.2.2 c,λr b=>(d _ (h.2.1 r b).1,(h.2.1 r b).2),Agy h.1)
 |fork e ps=>exact((aD h.2.2.1 c,λk a=>d _ (h.2.1 k a),Agy h.1),h.2.2.2)
 |_=>exact h.elim
def Gw.more{p:Pg}(h:Gw pre p):Gw (pre ++ [k]) p:=by
 let b:pre.length<=(pre ++ [k]).length:=by simp
 cases p with
 |leaf rs=>exact(h.1,λr a=>(cB _ (h.2.1 r a).1,(h.2.1 r a).2),aD h.2.2 b)
 |fork d ps=>exact(h.1,λk c=>cB _ (h.2.1 k c),aD h.2.2.1 b,h.2.2.2)
 |_=>trivial
def Atl{d:lg t6}(h:Vl d)(e:∀a∈d,Kg a k=t8):Vl[d ++ [k]]:=(
 pX.mpr (h,List.pairwise_singleton ..,λa g b f=>(aM.mp f) ▸ e a g))
def Awa{p:Pg}{l:Int}(h:Tp n S)(hs:Siz l)(g:Gw pre p)(hl:pre.length<=60)(F:∀a∈pre,Kg a k=t8)(q:∀E C,Fr [n] S C->Tp n C->Gw (pre ++ [k]) E->Q E.w C):Wm Le[[.ref n,p.w,.str k,.int l,.int 60]] S Q:=by
 let(s1,s2):=hs;refine Dw rfl Hs[?_];cases p with
 |fork x ps=>
  let(B,o,A,U,T):=g;let m:∀i:Nat,i<=100->i<=big:=λi hi=>aD hi ()
  refine Ce (a:=true) Ah[Ar[Dj Ag[rfl] Ak Ci[rfl]][Ak][Fy]] λS1 v=>?_;rw[di rfl];refine Dv Eg[?_];symm;refine Eg ?_;symm;refine(show 1<=big by decide,Alh (by rw[aJ];exact m _ (by simp;omega)) ?_);symm;refine Eg ?_;symm;refine Ca h.at0[v] () λa s u t a0 a1=>?_;symm;refine(show 1<=big by decide,Alh (by rw[aJ];exact m _ (by simp;omega)) ?_);symm;refine(show 3<=big by decide,?_)
  let e:W.tup [.str "fork",.tup[x.map W.str ++ [.str k]],.tup[ps.map W.int ++ [.int[1+a]]]]=(Pg.fork[x ++ [k]][ps ++ [1+a]]).w:=by
   show _=W.tup [.str "fork",.tup[(x ++ [k]).map W.str],.tup[(ps ++ [1+a]).map W.int]];rw[dG,dG];rfl
  rw[e];refine q _ _ (Fr.same v.of0 u) t (Atl B λa y=>F a (o a y),λb m=>?_,by simp;exact A,by simp;exact U,λb m=>?_)
  .rcases bF.mp m with z|z
   .exact cB _ (o b z)
   .exact bV _ z
  .rcases bF.mp m with z|z
   .exact T b z
   .rw[aM.mp z];unfold Gr;rw[dj (),dj ()]
    rfl
 |leaf rs=>
  let(B,o,A):=g;let go:∀(c:Cl) s,c.ok=t8->Fr [n] S s->Tp n s->Wb aB8 [sr .ref[n],sr Pg.w[.leaf[rs]],sr .str[k],sr .int[l],sr .int[60],sr c.w] s Adv[Q]:=λc s L u t=>by
   refine Dv Eg[?_];symm;refine Eg ?_;symm;refine Eg ?_;symm;refine(show 2<=big by decide,?_);symm;refine(show 1<=big by decide,Alh (by rw[aJ];exact aD (show rs.length+1<=100 by omega) ()) ?_);symm;refine(show 2<=big by decide,?_)
   let e:W.tup [.str "leaf",.tup[rs.map Abx ++ [.tup [.str k,c.w]]]]=(Pg.leaf[rs ++ [aEj k c]]).w:=by
    show _=W.tup [.str "leaf",.tup[(rs ++ [aEj k c]).map Abx]];rw[dG];rfl
   rw[e];refine q _ _ u t (?_,λb m=>?_,by simp;exact A)
   .rw[dG];exact Atl B λa y=>by
     let(r,J,rfl):=dZ.mp y;exact F _ (o r J).1
   .rcases bF.mp m with z|z
    .exact(cB _ (o b z).1,(o b z).2)
    .rw[aM.mp z];exact(bV _ aM.mpr[rfl],L)
  refine Ce (a:=false) Ah[Ar[Dj Ag[rfl] Ak Ci[rfl]][Ak][Fy]] λS1 v=>?_;rw[dm ()]
  refine Cj Ef[Eg[?_]];symm;refine Ca h.at0[v] () λa s u t a0 a1=>?_;symm;refine Ca t () λb S3 f3 P b0 b1=>?_;symm;refine(show 3<=big by decide,Hs ?_);symm;refine Ca P () λc S4 Z G c0 c1=>?_
  let f:=((Fr.same v.of0 u).same f3).same Z;symm;refine Ht[λH=>Ef Eg[?_]] λH=>Cj (go .out[1+a][1+b] S4 ?_ f G)
  .symm
   refine Ca G () λd S5 Y O d0 d1=>?_;symm;refine Aa0 O d0 () λz S6 X N lz I=>?_;symm;refine(show 2<=big by decide,Cj[go .inn[z] S6 ?_ ((f.same Y).same X) N])
   show (M2.Dp z&&decide[z.length<=63])=t8;rw[I,dj ()]
   rfl
  .show (decide[1<=1+a]&&decide[1+a<=400]&&(decide[1<=1+b]&&decide[1+b<=4095]))=t8;rw[dj (),dj (),dj (),dj ()]
   rfl
 |_=>exact g.elim
end
section
def Vo{i k:Int}(b:k<=i)(a:i<=4095):Gr i k=t8:=by
 unfold Gr;rw[dj b,dj a];rfl
def Ba1{p:Pg}(h:p.ok):p.body.length<=big:=by
 refine aD (m:=10000) ?_ ()
 cases p with
 |head a b c d=>rw[show (Pg.head a b c d).body.length=8 from Hh [a,b,c,d]];decide
 |leaf rs=>
  have:=Atc (ys:=rs.map Aau) (c:=78) (n:=63) (λy g=>by
   let(r,i,rfl):=dZ.mp g;exact Aou (h.2.1 r i).1 (h.2.1 r i).2) (by rw[aJ];exact h.1)
  let e:(Pg.leaf rs).body.length=1+(jn rs.map[Aau]).length:=(len_app ..).trans (congrArg (·+_) (Dc 1 _));omega
 |fork f ps=>
  have:=Atc (ys:=f.map Rz) (c:=13) (n:=63) (λy g=>by
   let(k,j,rfl):=dZ.mp g;exact Aaw[h.1.2.1 k j]) (by rw[aJ];exact h.1.1)
  let e:(Pg.fork f ps).body.length=1+(jn f.map[Rz]).length+2 * ps.length:=by
   show (_ ++ _ ++ Lr ps).length=_;rw[len_app,len_app,Dc,Hh]
  have:=h.1.1;have:=h.2.1;omega
 |rest t n=>
  rw[show (Pg.rest t n).body.length=2+t.length from (len_app ..).trans (congrArg (·+_) Hh[[n]])];have:=h.2.2.1;omega
 |free n=>rw[show (Pg.free n).body.length=2 from Hh [n]];decide
def at3{x y z:W}{c:Int}(d:0<=c)(b:c < 3):∃w,atI [x,y,z] c=sr w/\(w=x\/w=y\/w=z):=by
 let h:c=0\/c=1\/c=2:=by omega
 rcases h with rfl|rfl|rfl
 .exact(_,rfl,.inl rfl)
 .exact(_,rfl,.inr .inl[rfl])
 .exact(_,rfl,.inr .inr[rfl])
def Atm{j:Int}(h:Tp n S)(hs:Siz j)(q:∀p S',Fr [n] S S'->Tp n S'->Fits j p->Q p.w S'):Wm Lp[[.ref n,.int j,.int 60]] S Q:=by
 let s1:=hs.1;let s2:=hs.2;refine Dw rfl Ef[?_];symm;refine Ca h () λa S1 Z O a0 a1=>?_
 refine Hs ?_;symm;refine Ht[λm=>Ef ?_] λm=>Cj Hs[?_]
 .refine Be5 (P:=SP.any) (ws:=(fO 4).map λ(k:Nat)=>W.int[(0:Int)+(k:Int)]) (Qy (k:=4) (Ab Ak Ae) ()) trivial λS2 t=>?_
  refine Azq (J:=λi Y F T=>(∃d,Y=[d,sr .int[60],sr .ref[n]])/\(∃is:lg Int,F=is.map W.int/\is.length=i/\∀k∈is,Gr k 0=t8)/\Fr [n] S T/\Tp n T) ?_ ?_ ((_,rfl),([],rfl,rfl,λm h=>nomatch h),Z.then0 t,O.at0 t)
  .rintro i w Y F T hw ⟨⟨d,rfl⟩,⟨is,rfl,v,hi⟩,o,s⟩;refine(_,rfl,Df ?_);rw[di rfl]
   symm;refine Ca s () λb T2 U l E b1=>(?_,(_,rfl),(is ++ [b],by rw[dG];rfl,by simp;exact v,λk hk=>?_),o.same U,l)
   .have:=(aK.mp hw).1;rw[aJ,cG] at this;rw[aJ,v];exact aQ this ()
   .rcases bF.mp hk with z|z
    .exact hi k z
    .rw[aM.mp z];exact Vo E ()
  .rintro Y F T ⟨⟨d,rfl⟩,⟨is,rfl,v,hi⟩,o,s⟩;rw[aJ,cG] at v;refine(by rw[aJ,v];decide,Dv Eg[?_])
   match is,v,hi with
   |[x,y,z,u],_,hi=>
    symm;refine Fe Je (w:=.int x) rfl ?_;symm;refine Fe Je (w:=.int y) rfl ?_;symm;refine Fe Je (w:=.int z) rfl ?_;symm;refine Fe Je (w:=.int u) rfl ?_;symm;let hl:(Pg.head x y z u).body.length=8:=Hh [x,y,z,u];exact(show 5<=big by decide,q (.head x y z u) _ o.then0[.app] s.at0[.app] ((hi x (),hi y (),hi z (),hi u ()),()))
 symm;refine Ht[λm=>Dv Eg[?_]] λm=>Cj Hs[?_]
 .symm
  refine Ca O () λb S2 t l E b1=>?_;symm;let hl:(Pg.free b).body.length=2:=Hh [b];exact(show 2<=big by decide,q .free[b] _ Z.same[t] l (Vo E (),()))
 symm;refine Ht[λm=>Ef ?_] λm=>Cj ?_
 .symm
  refine Ca O () λb S2 t l E b1=>?_;symm;refine Bt (show 3<=big by decide) λr S3 f3 A lr=>?_;symm;refine Ca l.at0[f3] () λc S4 f4 h4 c0 c1=>?_
  obtain⟨L,e,hL⟩:∃L,atI [W.int[1+b],.int[j - 7],.int 1] c=sr .int[L]/\1<=L/\L<=j - 7:=by
   let(w,e,z):=at3 (x:=W.int[1+b]) (y:=.int[j - 7]) (z:=.int 1) c0 c1;rcases z with rfl|rfl|rfl
   .exact(_,e,(),())
   .exact(_,e,(),())
   .exact(_,e,(),())
  refine Fe (f4.at1 A (by have:=l.lt;omega)) e Dv[Eg[?_]];symm;refine Aa0 h4 () () λz S5 f5 h5 lz tz=>?_;symm;refine Ca h5 () λd S6 f6 h6 d0 d1=>?_;symm;let hl:(Pg.rest z d).body.length=2+z.length:=(len_app _ _).trans (congrArg (·+_) Hh[[d]]);exact(show 3<=big by decide,q (.rest z d) _ (((((Z.same t).then0 f3).same f4).same f5).same f6) h6 ((tz,(),(),Vo d0 ()),()))
 let loop:∀(I:Pg)(T:Store),Gw [] I->Fits j I->Fr [n] S T->Tp n T->Wb aA7
   [sr .ref[n],sr .int[j],sr .int[60],sr .int[a],sy,sy,sr I.w,sy,sy] T Adv[Q]:=λI T g0 X o s=>by
  refine As7 ?_;symm;refine Ca s () λb S2 t l E b1=>?_;symm;refine Bgb l E () λB r S3 f3 h3 A lr hk lk=>(_,_,rfl,A,?_)
  let hrn:r≠n:=by have:=l.lt;omega
  refine Aaa (ws:=B.map W.str) (J:=λi Y T=>∃p x7 x8,Y=[sr .ref[n],sr .int[j],sr .int[60],sr .int[a],sy,sy,sr Pg.w[p],x7,x8]/\Gw B.take[i] p/\Fits j p/\Fr [n] S T/\Tp n T/\T[r]?=sr .lst[B.map[W.str]]) ?_ ?_ ?_ _ _ _ _ (I,_,_,rfl,g0,X,(o.same t).same f3,h3,A) cP[_] ()
  .rintro i Y T ⟨p,x7,x8,rfl,g,ft,o,s,A⟩;unfold liG;rw[A]
  .rintro i w Y T hw ⟨p,x7,x8,rfl,g,ft,o,s,A⟩;rw[bK] at hw;let(k,hk',rfl):=bI.mp hw;let(v,ek):=aK.mp hk';let tk:B.take[i+1]=B.take i ++ [k]:=by rw[<-ek];exact(sV v).symm
   let tl:(B.take i).length<=9:=by rw[gW];omega
   refine(_,rfl,Ef ?_);symm;refine Awa (pre:=B.take i) s hs g () ?_ λp' T2 U l gw=>?_
   .intro x hx;have:=hk.ri;rw[<-pD i B] at this;refine(pX.mp this).2.2 x hx k ?_;rw[<-ek,gH v];exact aX
   let C:p'.ok:=gw.ok (λy hy=>hk.ok y mX[tk ▸ hy]) (by simp;omega)
   let N:=U.at1 A hrn;refine Hs ?_;symm;refine Ce Aju[C] λT3 H=>?_;symm;refine Ale Ba1[C] ?_;symm;refine Ht[λhb=>Ef ?_] λm=>?_
   .symm
    refine(p',_,_,rfl,tk ▸ gw,(C,hb),(o.same U).then0 H,l.at0 H,H.at0 N)
   .symm
    refine(p,_,_,rfl,tk ▸ g.more,ft,(o.same U).then0 H,l.at0 H,H.at0 N)
  .rintro Y T ⟨p,x7,x8,rfl,g,ft,o,s,A⟩;refine Dv ?_
   symm;exact q p T o s ft
 let hl:(Pg.leaf []).body.length=1:=rfl;refine Ef Eg[?_];symm;refine Eg[Cm (show 0<=big by decide,?_)];symm;refine(show 2<=big by decide,Hs ?_);symm;refine Ht[λm=>Ef Eg[?_]] λm=>Cj[loop .leaf[[]] _ (.nil,(λm h=>nomatch h),aN _) (((),(λm h=>nomatch h),rfl),()) Z O];symm;refine Eg[Cm (show 0<=big by decide,?_)];symm;refine Eg ?_;symm;refine Ca O () λb S2 t l E b1=>?_;symm;refine(show 1<=big by decide,?_);symm;let hf:(Pg.fork [] [1+b]).body.length=3:=rfl;let hn:∀p∈[1+b],Gr p 1=t8:=λp hp=>by rw[aM.mp hp];exact Vo () ()
 exact(show 3<=big by decide,Cj[loop (.fork [] [1+b]) _ (.nil,(λm h=>nomatch h),aN _,rfl,hn) ((((),(λm h=>nomatch h),rfl),rfl,hn),()) Z.same[t] l])
end
abbrev Awb(sz:Int)(t r:Nat)(b:Int):lg[t6×W]:=[("size",.int sz),("page_texts",.ref t),("row_texts",.ref r),("begun",.int b),("off",.bl t7),("turns_left",.int 0),("signs_done",.int 0)]
def Ahw(sz:Int)(t r:Nat)(b:Int):Cell:=.ins 14 (Awb sz t r b)
def txs(sz:Int)(ps:lg Pg):lg W:=ps.map λp=>.str p.text[sz]
structure Dk(sz:Int)(ps:List Pg)(rs:List t6)(b:Int)(d t r:Nat)(S:Store):Prop where
 at_:S[d]?=sr (Ahw sz t r b)
 tx:S[t]?=sr (.lst (txs sz ps))
 ro:S[r]?=sr (.lst (rs.map W.str))
 dt:d≠t
 dr:d≠r
 tr:t≠r
section
def Dk.mv{sz b:Int}{ps:lg Pg}{d t r:Nat}(h:Dk sz ps rs b d t r S)(f:Fr L S S')(hd:d∉L)(ht:t∉L)(hr:r∉L):Dk sz ps rs b d t r S':=(f.at h.at_ hd,f.at h.tx ht,f.at h.ro hr,h.dt,h.dr,h.tr)
def Bpi{c:Nat}{g:lg W->M W}{d:lg W}(h:∀b,Fr [] S b->b[S.length]?=sr[.ins c []]->Wm (g (.ref S.length::d)) b λv f=>v=.non/\Q .ref[S.length] f):Wm (Ni c g d) S Q:=(
 Az (_,_,rfl,Az (Bd[h _ .app Je] λ_ _ ⟨e,q⟩=>by subst e;exact Df q)))
def Bgc{sz:Int}(hs:Siz sz)(q:∀d t r j,Fr [] S j->Dk sz [] [] 0 d t r j->S.length<=d->d < t->t < r->r < j.length->Q .ref[d] j):Wm (Ni 14 Fj [.int sz]) S Q:=by
 refine Bpi λS1 I G=>Dw rfl K8[Ce Br[Ah[Ad[Ab Ag[rfl] Ae][Lg sz]]] λS2 u=>(by rw[dj hs.1,dj hs.2];rfl,?_)]
 generalize hd:S.length=d at *
 let F:=u.at0 G;symm;refine Mh F (rfl) rfl λS3 H o=>?_;symm;refine Bt cP[_] λt S4 s l lt=>?_;symm;refine Mh s.at0[o] (rfl) rfl λS5 k n=>?_;symm;refine Bt cP[_] λr S6 h m lr=>?_;symm;refine Mh h.at0[n] (rfl) rfl λZ g E=>?_;symm;refine Mh E (rfl) rfl λY f C=>?_;symm;refine Mh C (rfl) rfl λX e B=>?_;symm;refine Mh B (rfl) rfl λU c A=>?_;symm;refine Mh A (by rfl') rfl λv b y=>?_;symm;let T:=Bk o;let P:=Bk l;let O:=Bk h.at0[n];let w:=k.at1 l ()
 let x:=k.len;let p:Fr [d] S v:=((((((((Fr.same (L:=[d]) (I.then0 u).of0 H).then0 s).same k).then0 h).same g).same f).same e).same c).same b;refine(rfl,q d t r v (p.len,λi hi N=>p.get i hi λz=>by rw[aM.mp z] at hi;omega) (y,?_,?_,(),(),by grind) () () (by grind) (by have:=Bk m;have:=g.len;have:=f.len;have:=e.len;have:=c.len;have:=b.len;omega))
 .exact b.at1 (c.at1 (e.at1 (f.at1 (g.at1 h.at0[w] ()) ()) ()) ()) ()
 .exact b.at1 (c.at1 (e.at1 (f.at1 (g.at1 m ()) ()) ()) ()) ()
end
local macro_rules|`(tactic| array_get_dec)=>`(tactic| first|with_reducible refine Nb ?_|((with_reducible apply Cv);exact rfl)|(with_reducible first|refine Bhx ?_|refine Afw ?_|refine Qz ?_|refine Bh ?_|refine Cm ?_|refine Alc ?_|refine Ln ?_|refine Vz ?_|refine Afz ?_|refine Q0 ?_|refine Fd ?_|refine Box ?_|refine Bfc ?_|refine pi_ ?_|refine Blf ?_|refine Bfe ?_|refine Ef ?_|refine Hs ?_|refine Tr ?_|refine Aiu ?_|refine Ble ?_|refine Bov ?_|refine Bow ?_|refine Dv ?_|refine X8 ?_|refine As2 ?_|refine Aqf ?_|refine Cj ?_|refine Lb ?_)|((with_reducible apply As1);array_mem_dec;exact rfl;exact rfl)|((with_reducible apply Az1);array_mem_dec;exact rfl;exact rfl)|((with_reducible apply Blg);array_mem_dec;exact rfl)|((with_reducible apply Bfd);array_mem_dec;exact rfl)|((with_reducible refine Bff ?_))|((with_reducible refine Bfg ?_))|((with_reducible apply Lk);array_mem_dec;exact rfl;exact rfl)|((with_reducible refine Af0 ?_ ?_);exact rfl)|with_reducible refine tb ?_|with_reducible refine As4 (by first|assumption|omega) ?_|with_reducible refine Anp () () ?_|with_reducible refine Aeg () ?_|((with_reducible apply Asy);array_mem_dec)|((with_reducible apply As6);array_mem_dec)|(with_reducible first|refine Az3 ?_|refine Az4 ?_|refine Az5 ?_|refine Az6 ?_|refine Aqh ?_|refine Az7 ?_)|((with_reducible apply Bhz);exact rfl)|((with_reducible apply Bh0);exact rfl)|((with_reducible apply Az2);exact rfl)|((with_reducible apply As3);exact rfl))
section
def Bgd{sz b b':Int}{t r:Nat}:Wi "begun" .int[b'] (Awb sz t r b)=Awb sz t r b':=rfl
def Ag6{sz b:Int}{d t r:Nat}{z:t6}(h:S[d]?=sr[Ahw sz t r b])(e:z.length<=big)(q:∀c,Fr [d] S c->c[d]?=sr[Ahw sz t r (b+1)]->Q .int[z.length] c):Wm M5[[.ref d,.str z]] S Q:=by
 refine Dw rfl Hs[?_];symm;refine Mh h (by rfl) Bgd λj g f=>?_;symm;refine Ht[λh=>absurd h ()] λm=>?_;symm;exact Ale e (q j g f)
def Aqz{sz b:Int}{d t r:Nat}(h:S[d]?=sr[Ahw sz t r b])(q:Q .non S):Wm Qi[[.ref d]] S Q:=by
 unfold Ahw at h;refine Dw rfl Hs[?_]
 symm;exact q
def Aoz{f:De->M W}(h:Pu P f[Y] w):PuN P G9[f] Y Y:=(λS a=>by
 let(G,e):=h S a;exact(G,by unfold G9 Gb;rw[e]))
def Ao0{exm:Nat->Bool}{su:MS}(h:PuN P b Y Y'):PuN P (Am6 exm b su) Y Y':=(λS c=>by
 let(G,e):=h S c;exact(G,by unfold Am6;rw[e]))
def Bge{p:Pg}{sz:Int}(h:Fits sz p)(hs:Siz sz):Pu P Cp[[.str p.text[sz],.int sz]] .bl[t8]:=by
 let a:=Ju h hs;have:=hs.1;have:=hs.2;refine Bu rfl (Dd Ao0[Ak2 Aoz[Ad[Ab Ag[rfl] Ae][Ajv h hs]] Aw] Bo[Bb[Pu.cast[Ar Ad[Ab Ag[rfl] Ae][len_str[a ▸ aD (show sz.toNat<=200 by omega) ()]] Ag[rfl] Pn][?_]]])
 grind
def wr(ps:lg Pg)(k:Nat)(p:Pg):lg Pg:=ps.take k ++ p::ps.drop[k+1]
def Ajw{z:t6}{j:Int}(h:(z.length:Int)=j):fH z sy sr[j]=z:=by
 subst h;rw[Jh aN[_]];unfold cut;rw[uU,jF[by exact aN _]]
def Awc{z:t6}{j:Int}(h:(z.length:Int)=j):fH z sr[j] sy=⟨#[]⟩:=by
 subst h;rw[eq_of_beq[pA () Int.le_refl[_] rfl]]
 simp
def Bgf(x:t6):x ++ (⟨#[]⟩:t6)=x:=rfl
def Atn(n:Int):(uZ " " n).length=n.toNat:=by
 show (uZ ⟨#[32]⟩ n).cps.size=_;rw[<-bC,aCg,eY]
def Blx{sz:Int}{ps:lg Pg}{p:Pg}{k:Nat}(h:k < ps.length):(txs sz ps).set k .str[p.text[sz]]=txs sz (wr ps k p):=by
 unfold txs wr;rw[oN,di[by simp_all],dG,List.map_take,cJ,vR]
def Bgg{sz:Int}{ps:lg Pg}{p:Pg}{w:W}:(txs sz ps ++ [w]).set ps.length .str[p.text[sz]]=txs sz (wr ps ps.length p):=by
 unfold txs wr;rw[sY,iH fM[_],dG,List.set_append_right _ _ (),aJ,gF]
 rfl
def Al3{c:Type}{a:lg c}{k:Nat}(h:k < a.length):atI a (k:Int)=a[k]?:=by
 unfold atI ixN;simp_all
def Ba2{sz b:Int}{ps:lg Pg}{d t r k:Nat}{p:Pg}(h:Dk sz ps rs b d t r S)(hs:Siz sz)(fit:Fits sz p)(hk:k<=ps.length)(Y:ps.length<=1000)(hp:∀p∈ps,Fits sz p)(q:∀F,Fr [d,t] S F->Dk sz (wr ps k p) rs (b+1) d t r F->Q .non F):Wm Mj[[.ref d,.int (k:Int),.str p.text[sz]]] S Q:=by
 let s1:=hs.1;let s2:=hs.2;let lt:=Ju fit hs;let x:(p.text sz).length<=big:=by rw[lt];exact aD (show sz.toNat<=200 by omega) ()
 let J:=h.at_;let h2:=h.tx;unfold Ahw at J;refine Dw rfl Ef[?_]
 symm;let H:(txs sz ps).length=ps.length:=aJ _;refine Ce (a:=false) (Pu.cast Es[Br Ah[Ad[Ab Ag[rfl] Ae][Gq _]]][Es Ah[Ar Ag[rfl] Ak X7] Ah[Ar Ag[rfl] Ag[rfl] Rj]] (by rw[dq (),dq ()];rfl)) λS1 C=>?_;symm;refine Ce[Bge fit hs] λS2 B=>?_;symm;refine Tr Cj[?_];symm;refine Ag6 B.at0[C.at0[J]] x λU N A=>?_;unfold Ahw at A;let g:=N.at1 B.at0[C.at0[h2]] h.dt.symm;let go:∀(v:lg W)(y:t6)(l:Store),Fr [d,t] S l->l[d]?=sr .ins[14][Awb sz t r (b+1)]->l[t]?=sr .lst[v]->v[k]?=sr .str[y]->y.length=sz.toNat->v.set k .str[p.text[sz]]=txs sz (wr ps k p)->Wb (Ai aB2
   (Ai G9[Bv (λc n=>Ac.lookup[u6 c n]) "end_write" Aa[0] nilF] An)) [sr .ref[d],sr[.int (k:Int)],sr .str[p.text[sz]],sr .int[(txs sz ps).length],sr .int[(p.text sz).length]] l Adv[Q]:=λv y l w a4 O z G X=>by
  symm;refine Tu x ?_;symm;refine Fe O (by rw[Al3 (aK.mp z).1];exact z) ?_;symm;refine Tu (by rw[G];exact aD (show sz.toNat<=200 by omega) ()) ?_
  rw[Ajw rfl,Awc[by rw[G,lt]]]
  refine Vy (by rw[show (⟨#[]⟩:t6).length=0 from rfl];exact x) ?_;symm;refine Bfa O () (by have:=(aK.mp z).1;omega) λT L I=>?_
  rw[fX,Bgf,X] at I;let P:=L.at1 a4 h.dt
  symm;refine Aqz P ?_;symm;let o:Fr [d,t] S T:=w.same (L.mono λi hi=>by rw[aM.mp hi];simp)
  exact q T o (P,I,o.at h.ro (by have:=h.dr;have:=h.tr;simp;omega),h.dt,h.dr,h.tr)
 let s:Fr [d,t] S U:=Fr.same (C.then0 B).of0 (N.mono λi hi=>by rw[aM.mp hi];simp);symm;refine Ht (c:=(k:Int)=(txs sz ps).length) (λe=>?_) λe=>?_
 .symm
  refine(_,_,rfl,g,?_);symm;refine As8 (by rw[dj (by omega:-1048576<=sz),dj (by omega:sz<=1048576)];rfl) ?_;symm;refine Vx g (by rw[H];exact jL Y ()) λl w Z=>Cj ?_
  obtain rfl:k=ps.length:=by omega
  exact go _ _ l (s.same (w.mono λi hi=>by rw[aM.mp hi];simp)) (w.at1 A h.dt) Z (by rw[<-H,bG aN[_],gF];rfl) Atn[_] Bgg
 .let j:k < ps.length:=by omega
  refine Cj[go _ ((getElem[ps][k][by get_elem_tactic]).text sz) U s A g ?_ ?_ Blx[j]]
  .unfold txs;rw[bK,aV j];rfl
  .exact Ju (hp _ lH[j]) hs
end
abbrev tl(z:t6):lg Nat:=z.cps.toList
def mkS(l:lg Nat):t6:=⟨l.toArray⟩
def Ao1{x:t6}{l:lg Nat}(h:tl x=l):x=mkS l:=by
 subst h;rfl
def Ao2(l:lg Nat):tl mkS[l]=l:=rfl
def Bly(z:t6)(i j:Nat):tl[cut z i j]=((tl z).drop i).take (j - i):=rfl
def Aq0(z:t6):(tl z).length=z.length:=bC
def Ba3(l:lg Nat):(mkS l).length=l.length:=cZ
def Aq1(z:t6)(j:Nat):tl[cut z 0 j]=(tl z).take j:=rfl
def cutE(z:t6)(j:Nat):tl[cut z j z.length]=(tl z).drop j:=by
 rw[Bly,jF];rw[gD,Aq0];simp
structure Chk(z:t6):Prop where
 tx:M2.Dp z=t8
 lo:64<=z.length
 hi:z.length<=200
 eq:M2.check (cut z 0 (z.length - 2))=cut z (z.length - 2) z.length
def Chk.ok{z:t6}(h:Chk z){a:Nat}(d:a < z.length):M2.okC[(tl z).getD a 0]=t8:=(M2.As0 h.tx (by trivial))
def Ba4{c:Nat}(h:M2.okC c=t8):c<=126:=(M2.Asz.mp h).2.1
def Ajx{l:lg Nat}{a k:Nat}(h:a < k):(l.take k).getD a 0=l.getD a 0:=by simp_all
def other{z:t6}(h:Chk z){l:lg Nat}(i:l.length=z.length)(hd:l.drop[z.length - 2]=(tl z).drop (z.length - 2))(g:M2.chk l.take[z.length - 2] % 4093≠M2.chk ((tl z).take (z.length - 2)) % 4093):
  M2.check cut[mkS[l]][0][(mkS l).length - 2]≠cut mkS[l] ((mkS l).length - 2) (mkS l).length:=by
 rw[Ba3,i];intro e;let j:cut mkS[l] (z.length - 2) z.length=cut z (z.length - 2) z.length:=by
  unfold cut;show (⟨((l.drop[z.length - 2]).take _).toArray⟩:t6)=_;rw[hd]
 let b:=M2.Az0 e.trans[j.trans[h.eq.symm]];let f:(cut mkS[l] 0 (z.length - 2)).cps.toList=l.take[z.length - 2]:=rfl;let d:(cut z 0 (z.length - 2)).cps.toList=(tl z).take (z.length - 2):=rfl;rw[f,d] at b;exact g b
def Awd{z:t6}(h:Chk z){a c:Nat}(i:a+2 < z.length)(d:M2.okC c=t8)(ne:c≠(tl z).getD a 0):
  M2.check cut[mkS[(tl z).set a c]][0][(mkS[(tl z).set a c]).length - 2]≠cut mkS[(tl z).set a c] ((mkS[(tl z).set a c]).length - 2) (mkS[(tl z).set a c]).length:=by
 let g:=Aq0 z;let hi:=h.hi;apply other[h][by simp_all][List.drop_set_of_lt ()]
 rw[List.take_set];refine M2.Aqe _ a c (by rw[gW];omega) () ?_ Ba4[d] ?_
 .rw[Ajx ()];exact Ba4 (h.ok ())
 .rwa [Ajx ()]
def Bpj{l:lg Nat}(h:l.all M2.okC=t8):M2.Dp mkS[l]=t8:=h
def Bgh:lg Nat:=[32,33,34,35,36,38,39,40,41,42,43,44,45,46,47,48,49,50,51,52,53,54,55,56,57,58,59,60,61,62,63,64,65,66,67,68,69,70,71,72,73,74,75,76,77,78,79,80,81,82,83,84,85,86,87,88,89,90,91,92,93,94,95,96,97,98,99,100,101,102,103,104,105,106,107,108,109,110,111,112,113,114,115,116,117,118,119,120,121,122,123,124,125,126]
def Al4:Ab1.cps.toList=Bgh:=by rfl
def Ba5:∀c,c < 127->M2.okC c=t8->c∈Bgh:=by decide +kernel
def Aq2:Bgh.Nodup:=by decide +kernel
def Bgi(c:Nat)(h:c < 127)(k:M2.okC c=t8):c∈Ab1.cps.toList:=Al4 ▸ Ba5 c h k
def Awe:Ab1.cps.toList.Nodup:=Al4 ▸ Aq2
def Brx:Ab1.cps.toList.length=94:=by rw[Al4];rfl
def Blz{i j:Int}(g:0<=i)(f:i < 94)(d:0<=j)(c:j < 94)(ne:i≠j):Xe i≠Xe j:=by
 let b:=Brx;intro e;unfold Xe at e;rw[cA,cA,aV (),aV ()] at e
 have:=(kZ Awe).mp e;omega
section
variable{P:SP}{z x y:t6}{Y:De}{f g:De->M W}{S:Store}{ws:lg W}{w:W}{p:Pg}
def Bl0{c:Nat}(h:M2.okC c=t8):∃i:Nat,i < 94/\Xe (i:Int)=c/\Pu[P][Su .str[Ab1] [.str ⟨#[c]⟩]][.int (i:Int)]:=by
 let(i,r,e,j,d):=M2.Blb Ab1 c (Bgi c (by have:=Ba4 h;omega) h)
 let hi:i < 94:=by trivial
 refine(i,hi,?_,?_)
 .unfold Xe;rw[fX,cA,iT,d];rfl
 .show Pu P (match _ with|i::_=>pure[W.int (i:Nat)]|[]=>bad) _
  exact e ▸ Pu.pure
def Ba6{j:Nat}(a:z.length<=big)(b:j < z.length):Pu P ixW[.str z][.int (j:Int)] .str[⟨#[(tl z).getD j 0]⟩]:=by
 let h:=Aew (P:=P) a b;rw[uB] at h;omega
def Bgj{z:t6}(d:2<=z.length)(a:z.length<=big)(b:M2.Dp cut[z][0][z.length - 2]=t8)(c:M2.check cut[z][0][z.length - 2]≠cut z (z.length - 2) z.length):Pu P Gn[[.str z]] .non:=by
 apply Bu rfl;refine Bo[Wf Br[Ah[Ad[Ab Ag[rfl] Ae][Ag2 d a b]]] ?_ Bo[Bb[Ak]]];rw[beq_eq_false_iff_ne.mpr c];rfl
def Aeo{z:t6}(c:M2.Dp cut[z][0][z.length - 2]=t8)(e:2<=z.length)(b:z.length<=1000)(d:M2.check cut[z][0][z.length - 2]≠cut z (z.length - 2) z.length):PuX P Ez[[.str z]] (u6 6 .non):=by
 let a:z.length<=big:=aD b ()
 apply Nj rfl;by_cases h:64<=z.length/\z.length<=200
 .apply Ave
  .refine Et (Es Br[Ah[Ad Ab[Ag rfl][Ab Ak Ae] Mm]] Br[Ah[Ad[Ab Ad[Ab Ag[rfl] Ae][len_str a] Ae][Lg _]]]) ?_ Aw
   grind
  exact Ave Aaz[Ak2 Dm[Ad[Ab Ag[rfl] Ae][Bgj e a c d]] Aw] Li[Avg Br[Ah[Ad[Ab Ag[rfl] Ae][Bav]]] rfl Li[My Ab[Ak][Ab Ak Ae] rfl]]
 .refine Li Avg[Es Br[Ah[Ad Ab[Ag rfl][Ab Ak Ae] Mm]] Br[Ah[Ad[Ab Ad[Ab Ag[rfl] Ae][len_str a] Ae][Lg _]]]][?_][Li[My Ab[Ak][Ab Ak Ae] rfl]]
  grind
def Bgk{Y:De}{t u:De->M Bool}(h:Pu P t[Y] t8):Pu P (orT t u Y) t8:=h.bind Pu.pure
def Ag7(h:Pu P (Hd isa [w,.ty "str"]) .bl[t7]):PuX P Ez[[w]] (u6 6 .non):=(
 Nj rfl Li[Avg Bgk[Br[Ah[Ad Ab[Ag rfl][Ab Ak Ae] h]]] rfl Li[My Ab[Ak][Ab Ak Ae] rfl]])
def V7(a:z.length<=big)(h:¬ (64<=z.length/\z.length<=200)):PuX P Ez[[.str z]] (u6 6 .non):=by
 refine Nj rfl Li[Avg[Es Br[Ah[Ad Ab[Ag rfl][Ab Ak Ae] Mm]] Br[Ah[Ad[Ab Ad[Ab Ag[rfl] Ae][len_str a] Ae][Lg _]]]][?_][Li[My Ab[Ak][Ab Ak Ae] rfl]]]
 grind
def Ato{a:Nat}{c:lg W}:Pu[Alv SP.any a .lst[c]][Hd isa [.ref a,.ty "str"]][.bl t7]:=(λS d=>([],by
 rw[bQ];unfold Hd asX tkG Au4 tyW;dsimp only;rw[d.2];rfl))
def Bgl{a:Nat}{c:lg[Key×W]}:Pu[Alv SP.any a .dct[c]][Hd isa [.ref a,.ty "str"]][.bl t7]:=(λS d=>([],by
 rw[bQ];unfold Hd asX tkG Au4 tyW;dsimp only;rw[d.2];rfl))
def Ba7{a:Int}(h:p.ok)(d:64<=a)(l:a<=200)(c:(p.body.length:Int)<=a - 5):Chk p.text[a]:=by
 let k:=text_len d c;let hu:=Vk c;refine(?_,(),(),?_)
 .unfold Pg.text;rw[Hm,Aen h a];exact Vj 2 _
 .let j:=Ajt p.unch[a] M2.check[p.unch[a]];let i:=Ati p.unch[a] M2.check[p.unch[a]];let e:(p.text a).length - 2=(p.unch a).length:=by omega
  rw[e];show M2.check cut[p.unch a ++ M2.check p.unch[a]][0][(p.unch a).length]=cut (p.unch a ++ M2.check p.unch[a]) (p.unch a).length (p.unch a ++ M2.check p.unch[a]).length;rw[j,i]
end
section
variable{P:SP}{α β:Type}{Y:De}{b b' su:MS}{t:De->M Bool}{c:Nat×W}{exm:Nat->Bool}{gs:De->M (lg W)}{w u:W}
def Aq3{m:M α}{k:α->M β}(h:PuX P m c):PuX P (m >>= k) c:=(λS a=>by
 let(G,e):=h S a;exact(G,by rw[Cw,e]))
def Bl1(h:PuX P t[Y] c):PuE P (ifS t b b') Y c:=(λS a=>by
 let(G,e):=h S a;exact(G,Y,by unfold ifS Gb;rw[e]))
def Ba8{d:Nat}(h:PuE P b Y c)(k:exm c.1=t8)(g:∀Y,Pu P gs[Y] [w,u]):PuE P (Am5 exm d gs b) Y (u6 d w):=(λS a=>by
 let(G,f,e):=h S a;let(j,l):=g[f][S ++ G][P.st _ _ a];exact(G ++ j,f,by unfold Am5;simp_all))
def Ba9(h:PuE P b Y c)(d:exm c.1=t8)(f:∀Y,PuR P su Y w):PuR P (Am6 exm b su) Y w:=(λS a=>by
 let(G,i,e):=h S a;let(j,g):=f i _ (P.st _ _ a);exact(_,by unfold Am6;rw[e];dsimp only;rw[di d,g,cR];rfl))
def Bba{f:De->M W}(h:PuX P f[Y] c):PuE P G9[f] Y c:=(λS a=>by
 let(G,e):=h S a;exact(G,Y,by unfold G9 Gb;rw[e]))
end
section
variable{P:SP}{z x y:t6}{Y:De}{f g:De->M W}{S:Store}{ws:lg W}{w:W}{p:Pg}{sz:Int}
def Ag8{r:t6}(h:p.ok)(B:p.body.length<=195)(q:z=p.start ++ r)(A:64<=z.length)(o:z.length<=200)(tx:M2.Dp cut[z][0][z.length - 2]=t8):
  Pu P Ez[[.str z]] p.w\/PuX P Ez[[.str z]] (u6 6 .non):=by
 let a:z.length<=big:=aD o ()
 by_cases m:M2.check cut[z][0][z.length - 2]=cut z (z.length - 2) z.length
 .let k:z=p.letter ++ (M1.Ej 2 p.body.length ++ (p.body ++ r)):=by
   rw[q];unfold Pg.start;rw[Bw,Bw]
  let v:z.length=1+(2+(p.body.length+r.length)):=by rw[k,len_app,len_app,len_app,G8,Dc]
  let(c,n):=Ag3 p;let t:cut z 1 3=M1.Ej 2 p.body.length:=by
   let e:=Rb[p.letter][M1.Ej 2 p.body.length][p.body ++ r];rw[<-k,G8,Dc] at e;exact e
  let s:cut z 3 (3+p.body.length)=p.body:=by
   let e:=Rb (p.letter ++ M1.Ej 2 p.body.length) p.body r;rw[Bw,<-k,len_app,G8,Dc] at e;exact e
  let b:∀{P:SP},Pu P Gn[[.str z]] p.w:=by
   intro P;apply Bu (ws:=[.str z]) rfl;apply Dd
   .refine Et Br[Ah[Ad[Ab Ag[rfl] Ae][Ag2 () a tx]]] ?_ Aw
    rw[m,beq_self_eq_true];rfl
   .apply Dd (Dm (w:=.int (p.body.length:Int)) (Ad (Ab ((Al2 (i:=1) (j:=3) Ag[rfl] Ak Ak () () a).cast (by rw[t])) Ae) (Ab0 () () () (show (p.body.length:Int) < 64 ^ 2 by omega))))
    refine Bo (Bb (Ad (Ab Dj[Ag[rfl]][Ak][(Aoy a k.trans[by rw[n]]).cast (by rw[n])] (Ab ((Al2 (i:=3) (j:=3+p.body.length) Ag[rfl] Ak ((Cq Ak Ag[rfl] Mg).cast (congrArg W.int ())) () () a).cast (by rw[s])) Ae)) (Ath h ())))
  let l:(decide[64<=(z.length:Int)]&&decide[(z.length:Int)<=200])=t8:=by
   rw[dj (),dj ()]
   rfl
  by_cases hu:p.unch z.length=cut z 0 (z.length - 2)
  .refine .inl (Bu (ws:=[.str z]) rfl ?_);apply Dd
   .refine Et (Es Br[Ah[Ad Ab[Ag rfl][Ab Ak Ae] Mm]] Br[Ah[Ad[Ab Ad[Ab Ag[rfl] Ae][len_str a] Ae][Lg _]]]) ?_ Aw;rw[l];rfl
   refine Dd Aaz[Ak2 Dm[Ad[Ab Ag[rfl] Ae][b]] Aw] ?_;refine Dd (Et Br[Ah[Ad[Ab Ag[rfl] Ae][Aem h]]] rfl Aw) ?_;apply Dd
   .refine Et Ah[Ar[Ad[Ab Ag[rfl] Ab[Ad[Ab Ag[rfl] Ae][Aek h]][Ab Ad[Ab Ag[rfl] Ae][len_str a] Ae]][Ael () () ()]][Ag1 Ag[rfl] () a][Ap9]] ?_ Aw
    rw[hu,beq_self_eq_true];rfl
   .exact Bo Bb[Ag[rfl]]
  .refine .inr (Nj (ws:=[.str z]) rfl ?_);apply Ave
   .refine Et (Es Br[Ah[Ad Ab[Ag rfl][Ab Ak Ae] Mm]] Br[Ah[Ad[Ab Ad[Ab Ag[rfl] Ae][len_str a] Ae][Lg _]]]) ?_ Aw;rw[l];rfl
   refine Ave Aaz[Ak2 Dm[Ad[Ab Ag[rfl] Ae][b]] Aw] ?_;refine Ave (Et Br[Ah[Ad[Ab Ag[rfl] Ae][Aem h]]] rfl Aw) ?_;refine Li[Avg Ah[Ar[Ad[Ab Ag[rfl] Ab[Ad[Ab Ag[rfl] Ae][Aek h]][Ab Ad[Ab Ag[rfl] Ae][len_str a] Ae]][Ael () () ()]][Ag1 Ag[rfl] () a][Ap9]] ?_ Li[My Ab[Ak][Ab Ak Ae] rfl]]
   rw[beq_eq_false_iff_ne.mpr hu];rfl
 .exact .inr[Aeo tx () () m]
def Awf(i:2<=z.length)(b:z.length<=200)(tx:M2.Dp cut[z][0][z.length - 2]=t7):PuX P Ez[[.str z]] (u6 6 .non):=by
 let a:z.length<=big:=aD b ()
 by_cases h:64<=z.length
 .let e:PuX P M7[[.str cut[z][0][z.length - 2]]] (u6 2 .non):=by
   refine Nj rfl Li[Avg Br[Ah[Ad[Ab Ag[rfl] Ae][V6 _ (by rw[Mp cP[_] ()];omega)]]] (by rw[tx];rfl) Li[Avf (Ab Ak Ae) (by show 1<=big;decide)]]
  let d:PuX P Hq[[.str z]] (u6 2 .non):=Nj rfl Li[Bex[Aq3[X4 Ab[Ag1 Ag[rfl] i a][Ae] e]]];let c:PuX P Gn[[.str z]] (u6 2 .non):=Nj rfl Li[Bl1[Aq3[Aq3[X4[Ab Ag[rfl] Ae][d]]]]];refine Nj (ws:=[.str z]) rfl ?_;apply Ave
  .refine Et (Es Br[Ah[Ad Ab[Ag rfl][Ab Ak Ae] Mm]] Br[Ah[Ad[Ab Ad[Ab Ag[rfl] Ae][len_str a] Ae][Lg _]]]) ?_ Aw;rw[dj (),dj ()]
   rfl
  exact Li[Ba8[Li Bey[X4[Ab Ag[rfl] Ae][c]]][by rfl'] λj=>Ab Ak (Ab Ak Ae)]
 .exact V7 a ()
end
section
variable{P:SP}{z x y:t6}{w v:W}{p:Pg}{sz:Int}{S S':Store}{n a c:Nat}{us:lg W}{kvs:lg (Key×W)}{L:lg Nat}{Q:W->Store->Prop}
def Pa(h:PuX P Ez[[w]] (u6 6 .non)):Pu P Cp[[w,.int sz]] .bl[t7]:=(
 Bu rfl Bo[Ba9[Li Bba[X4[Ab Ag[rfl] Ae][h]]][by rfl] λb=>Bo Bb[Ak]])
def Ag9(h:Pu P Ez[[.str z]] v\/PuX P Ez[[.str z]] (u6 6 .non))(b:z.length<=big)(d:(z.length:Int)≠sz):Pu P Cp[[.str z,.int sz]] .bl[t7]:=by
 rcases h with h|h
 .refine Bu rfl (Dd Ao0[Ak2 Aoz[Ad[Ab Ag[rfl] Ae][h]] Aw] Bo[Bb[Pu.cast[Ar Ad[Ab Ag[rfl] Ae][len_str b] Ag[rfl] Pn][?_]]]);rw[beq_eq_false_iff_ne.mpr d]
 .exact Pa h
inductive Odd(n:Nat)(sz:Int)(S:Store):W->Prop
 |pu {w:W}:(∀P:SP,Pu P (Cp [w,.int sz]) (.bl t7))->Odd n sz S w
 |lst {a:Nat} {us:List W}:S[a]?=sr (.lst us)->n<=a->Odd n sz S (.ref a)
 |dct {a:Nat} {us:List (Key×W)}:S[a]?=sr (.dct us)->n<=a->Odd n sz S (.ref a)
def Odd.mv(h:Odd n sz S w)(f:Fr L S S')(b:∀i∈L,i < n):Odd n sz S' w:=by
 cases h with
 |pu h=>exact .pu h
 |lst h l=>exact .lst (f.at h λz=>by have:=b _ z;omega) l
 |dct h l=>exact .dct (f.at h λz=>by have:=b _ z;omega) l
def Odd.wm(h:Odd n sz S w)(q:∀S',Fr [] S S'->Q .bl[t7] S'):Wm Cp[[w,.int sz]] S Q:=by
 cases h with
 |pu h=>exact Ce h[_] q
 |lst h l=>exact Tj Pa[Ag7[Ato]] (trivial,h) q
 |dct h l=>exact Tj Pa[Ag7[Bgl]] (trivial,h) q
def Aha(h:Fits sz p)(hs:Siz sz):∃r,p.text sz=p.start ++ r/\p.start.length<=sz.toNat - 2:=by
 have:=h.2;have:=hs.1;let(n,e):=Alu p sz;refine(⟨iQ n 48⟩ ++ M2.check p.unch[sz],?_,?_)
 .show p.unch sz ++ M2.check p.unch[sz]=_;rw[show p.unch sz=p.start ++ ⟨iQ n 48⟩ from congrArg aEh e,Bw]
 .unfold Pg.start;rw[len_app,len_app,G8,Dc];omega
def Al5(h:Fits sz p)(hs:Siz sz):Chk p.text[sz]:=Ba7 h.1 hs.1 hs.2 h.2
def Bbb(h:Fits sz p)(hs:Siz sz):Pu P Cp[[.str[p.text sz ++ "0"],.int sz]] .bl[t7]:=by
 let lt:=Ju h hs;have:=hs.1;have:=hs.2;let d:(p.text sz ++ "0").length=sz.toNat+1:=by rw[len_app,lt];rfl
 let b:(p.text sz ++ "0").length<=big:=d ▸ aD (show sz.toNat+1<=201 by omega) ()
 refine Ag9 (v:=p.w) ?_ b ()
 by_cases f:sz=200
 .exact .inr[V7 b ()]
 .let(r,e,_):=Aha h hs;let hp:=h.2;refine Ag8 (r:=r ++ "0") h.1 () (by rw[e,Bw]) () () Ra[?_]
  rw[Hm,(Al5 h hs).tx];decide +kernel
def Bgm{k:Nat}(h:x.length<=k):cut (x ++ y) 0 k=x ++ cut y 0 (k - x.length):=by
 let e:=by
  show tl cut[x ++ y][0][k]=(x ++ cut y 0 (k - x.length)).cps.toList;rw[M9,Aq1];show (x ++ y).cps.toList.take k=tl x ++ tl _;rw[M9,Aq1,List.take_append,jF[h],bC];rfl
 exact(Ao1 e).trans (Ao1 rfl).symm
def Bbc(h:Fits sz p)(hs:Siz sz):Pu P Cp[[.str cut[p.text[sz]][0][(p.text sz).length - 1],.int sz]] .bl[t7]:=by
 let lt:=Ju h hs;have:=hs.1;have:=hs.2;let d:(cut p.text[sz] 0 ((p.text sz).length - 1)).length=sz.toNat - 1:=by rw[Mp cP[_] ()];omega
 let b:(cut p.text[sz] 0 ((p.text sz).length - 1)).length<=big:=by rw[d];exact aD (show sz.toNat - 1<=201 by omega) ()
 refine Ag9 (v:=p.w) ?_ b ()
 by_cases g:sz=64
 .exact .inr[V7 b ()]
 .let(r,e,f):=Aha h hs;let hp:=h.2;refine Ag8 (r:=cut r 0 ((p.text sz).length - 1 - p.start.length)) h.1 () (by rw[<-Bgm (),<-e]) () () Ra[Ra[(Al5 h hs).tx]]
def Awg{b:Int}(hs:Siz b)(h:Fits b p)(e:b≠sz):Pu P Cp[[.str p.text[b],.int sz]] .bl[t7]:=by
 let lt:=Ju h hs;have:=hs.1;have:=hs.2;exact Ag9 .inl[Ajv h hs] (lt ▸ aD (show b.toNat<=200 by omega) ()) ()
def Ao3{u:t6}(h:∃c∈tl y,M1.inS c=t7):M2.check u≠y:=by
 rintro rfl;let(c,b,e):=h;rw[Alw 2 _ c b] at e;cases e
def Awh(hs:Siz sz):Pu P Cp[[.str[uZ " " sz],.int sz]] .bl[t7]:=by
 have:=hs.1;have:=hs.2;let e:=Atn sz;let d:tl[uZ " " sz]=_:=aCg ..
 refine Pa[Aeo ?_ () () (Ao3 (32,?_,()))]
 .apply Ra;show (tl _).all M2.okC=t8;rw[d,List.all_replicate];split <;> decide
 .rw[cutE,d,e,List.drop_replicate];exact wC.mpr ((),rfl)
def Atp(h:a < z.length):cut z 0 a ++ ⟨#[c]⟩ ++ cut z (a+1) z.length=mkS[(tl z).set a c]:=by
 apply Ao1;show (_ ++ cut z _ z.length).cps.toList=_;rw[M9,M9];show tl _ ++ [c] ++ tl _=_;rw[Aq1,cutE,M2.set_list _ _ _ (h)]
def Ahb:(mkS[(tl z).set a c]).length=z.length:=by rw[Ba3,fB,Aq0]
def Bbd(h:a < z.length)(d:¬ a+2 < z.length)(b:2<=z.length):c∈tl cut[mkS[(tl z).set a c]][(mkS[(tl z).set a c]).length - 2][(mkS[(tl z).set a c]).length]:=by
 rw[cutE,Ao2,Ahb];apply dX (i:=a - (z.length - 2));rw[oK,show _+_=a by omega,dH[h]]
def Bl2(h:Chk z)(g:a < z.length):Pu P Cp[[.str mkS[(tl z).set a 10],.int sz]] .bl[t7]:=by
 let lo:=h.lo;let hi:=h.hi;let b:(mkS[(tl z).set a 10]).length=z.length:=Ahb;refine Pa ?_;by_cases j:a+2 < z.length
 .refine Awf () () ?_
  rw[b];refine jC.mpr λd=>?_;let e:10∈tl cut[mkS[(tl z).set a 10]][0][z.length - 2]:=by
   rw[Aq1,Ao2];refine dX (i:=a) ?_;rw[sH (),dH[by trivial]]
  exact absurd (bB.mp d 10 e) ()
 .refine Aeo ?_ () () (Ao3 (10,Bbd g j (),()))
  rw[b];show (tl _).all M2.okC=t8;rw[Aq1,Ao2,vL (),bB]
  exact λc f=>bB.mp h.tx c mX[f]
def Bbe(h:Chk z)(k:a < z.length)(d:M2.okC c=t8)(ne:c≠(tl z).getD a 0):Pu P Cp[[.str mkS[(tl z).set a c],.int sz]] .bl[t7]:=by
 let lo:=h.lo;let hi:=h.hi;let b:(mkS[(tl z).set a c]).length=z.length:=Ahb;let tx:M2.Dp mkS[(tl z).set a c]=t8:=Bpj[M2.Bla h.tx d];refine Pa[Aeo Ra[tx] () () ?_]
 by_cases g:a+2 < z.length
 .exact Awd h g d ne
 .intro e;let j:cut mkS[(tl z).set a c] 0 ((mkS[(tl z).set a c]).length - 2)=cut z 0 (z.length - 2):=by
   rw[b];refine(Ao1 ?_).trans (Ao1 rfl).symm;rw[Aq1,Ao2,vL (),Aq1]
  rw[j,h.eq] at e;let f:=congrArg tl e;rw[cutE,cutE,Ao2,b] at f;let i:=congrArg (λl=>l[a - (z.length - 2)]?) f;rw[oK,oK,show z.length - 2+_=a by omega,dH[by trivial]] at i
  simp_all
end
section
variable{z x y:t6}{w v:W}{p:Pg}{sz:Int}{S S':Store}{n a c:Nat}{Q:W->Store->Prop}
def Aep{us ws:lg W}{a b:Nat}(ha:S[a]?=sr .lst[ws])(hb:S[b]?=sr .lst[us])(hl:ws.length+us.length<=big)(q:∀n S',Fr [] S S'->S'[n]?=sr .lst[ws ++ us]->S.length<=n->Q .ref[n] S'):Wm (Bop.fn .add .ref[a] .ref[b]) S Q:=Be4 ha hb hl (q _ _ .app Je aN[_])
def Awi(h:1<=z.length):fH z sy sr[-1]=cut z 0 (z.length - 1):=by
 rw[eq_of_beq[oY () () rfl]]
 unfold cut
 grind
def Al6(h:∀S,Hd isa [w,.ty "str"] S=.ok .bl[t7] S):Odd n sz S w:=(.pu λP=>Pa[Ag7 λS b=>([],by simp_all)])
def Bgn:∀j,j < 94->M2.okC[Bgh.getD j 0]=t8:=by decide
def Bgo{j:Nat}(h:j < 94):M2.okC Xe[j]=t8:=by
 unfold Xe;exact Al4 ▸ Bgn j h
def Ab2(hs:Siz sz){i:Int}(d:0<=i)(b:i<=4095):Fits sz .free[i]:=by
 let f:(Pg.free i).body.length=2:=Hh [i];have:=hs.1;exact(Vo d b,())
def Bgp(h:Tp n S)(hs:Siz sz)(q:∀w S',Fr [n] S S'->Tp n S'->Odd S.length sz S' w->Q w S'):Wm Ls[[.ref n,.int sz]] S Q:=by
 let s1:=hs.1;let s2:=hs.2;refine Dw rfl Ef[?_];symm;refine Atm h hs λp S1 f1 h1 fit=>?_;symm;refine Ce[Mq fit hs] λS2 f2=>?_;let lt:=Ju fit hs;let ck:=Al5 fit hs;let L:(p.text sz).length<=big:=by rw[lt];exact aD (show sz.toNat<=200 by omega) ()
 symm;refine Ca h1.at0[f2] () λa S3 f3 h3 a0 a1=>?_
 let(a,rfl):=tL a0;let G:a < (p.text sz).length:=by omega
 let k0:(cut p.text[sz] 0 a).length=a:=Mp cP[a] gP[G];let k1:(cut p.text[sz] 0 a).length+1<=big:=by rw[k0];exact aD (show a+1<=201 by omega) ()
 have k2 (c:Nat):(cut p.text[sz] 0 a ++ ⟨#[c]⟩).length+(cut p.text[sz] (a+1) (p.text sz).length).length<=big:=by rw[len_app,k0,Mp G aN[_]];exact aD (show a+1+((p.text sz).length - (a+1))<=201 by omega) ()
 symm;refine Ce Ag5 λS4 f4=>?_;symm;refine Aqg ?_;symm;refine Ce Ag5 λS5 f5=>(rfl,?_);symm;refine Ce[Ba6 L G] λS6 f6=>?_;symm;let(i,i9,ei,hi):=Bl0 (P:=SP.any) ck.ok[G];refine Ce hi λS7 f7=>?_;symm;let O:=(((f3.then0 f4).then0 f5).then0 f6).then0 f7;refine Ca ((((h3.at0 f4).at0 f5).at0 f6).at0 f7) () λb S8 f8 h8 b0 b1=>?_;symm;obtain⟨j,j9,ej,jn⟩:∃j:Nat,j < 94/\((i:Int)+1+b) % 94=j/\j≠i:=((((i:Int)+1+b) % 94).toNat,(),(),())
 rw[ej];refine Ce[Ba6 (by rw[Vn];decide) (by rw[Vn];omega)] λS9 N=>?_
 let ec:(tl Ab1).getD j 0=Xe j:=by unfold Xe;rw[fX]
 rw[ec];let oc:M2.okC Xe[j]=t8:=Bgo j9;let ne:Xe j≠(tl p.text[sz]).getD a 0:=by
  rw[<-ei];exact Blz () () () () ()
 symm;refine Bt (show 1<=big by decide) λr S10 F h10 l10=>?_;symm;refine Vy (by rw[lt];exact aD (show sz.toNat+1<=201 by omega) ()) ?_;symm;refine Jg rfl ?_;symm;refine Tu L ?_;rw[Awi ()];symm;refine As8 (by rw[dj (by omega:-1048576<=sz),dj (by omega:sz<=1048576)];rfl) ?_;symm;refine Tu L ?_;rw[Jh ()];symm;refine Vy k1 ?_;symm;refine Tu L ?_;rw[show ((a:Int)+1)=((a+1:Nat):Int) from rfl,Ag0 ()]
 refine Vy k2[_] ?_;rw[Atp G];symm;refine Az9 λe S11 B h11 l11=>?_;symm;refine Bt (show 10<=big by decide) λo X A h12 l12=>?_;symm;let f0:Fr [n] S X:=(((((((f1.then0 f2).same O).same f8).then0 N).then0 F).then0 B).then0 A);refine Ca (((((h8.at0 N).at0 F).at0 B).at0 A)) () λm S13 E h13 m0 m1=>?_;symm;let hn:=h.lt;obtain⟨u,hu,un,Y⟩:∃u:Int,64+(sz+1+m - 64) % 137=u/\u≠sz/\Siz u:=(_,rfl,(),(),())
 rw[hu];symm;refine Eg ?_;symm;refine(show 2<=big by decide,?_);symm;refine Ce (Mq (p:=.free 3) (Ab2 Y () ()) Y) λS14 s=>?_;symm;refine Tu L ?_;rw[Jh ()];symm;refine Vy k1 ?_;symm;refine Tu L ?_;rw[show ((a:Int)+1)=((a+1:Nat):Int) from rfl,Ag0 ()]
 refine Vy k2[_] ?_;rw[show ("\n":t6)=⟨#[10]⟩ by decide +kernel,Atp G];symm;refine Bt (show 2<=big by decide) λo2 S15 l h15 l15=>?_
 let n9:=(h8.at0 N).lt;let n11:=(((h8.at0 N).at0 F).at0 B).lt;let l9:=((((f1.then0 f2).same O).same f8).then0 N).len;let l10':=F.len;let l11':=B.len;refine Aep l.at0[s.at0[E.at1 h12 ()]] h15 (show 12<=big by decide) λo3 S16 I h16 l16=>?_;symm;let T:Fr [n] S S16:=(((f0.same E).then0 s).then0 l).then0 I;refine Ca (((h13.at0 s).at0 l).at0 I) () λk U H h17 k0 k1=>?_
 let l0:=T.len;let l12':=A.len;let l13':=E.len;let l14':=s.len;let l15':=l.len;let Z:k=0\/k=1\/k=2\/k=3\/k=4\/k=5\/k=6\/k=7\/k=8\/k=9\/k=10\/k=11:=by omega
 let f:=λw e hw=>Fe (i:=k) (w:=w) (H.at1 h16 ()) e (q w U T.same[H] h17 hw)
 let t:Fr [n] X U:=(((E.then0 s).then0 l).then0 I).same H;rcases Z with rfl|rfl|rfl|rfl|rfl|rfl|rfl|rfl|rfl|rfl|rfl|rfl
 .exact f _ rfl (Al6 λC=>rfl)
 .exact f _ rfl (Al6 λC=>rfl)
 .exact f _ rfl (Al6 λC=>rfl)
 .exact f _ rfl (.lst (t.at1 A.at0[B.at0[h10]] ()) ())
 .exact f _ rfl (.pu λC=>Bbb fit hs)
 .exact f _ rfl (.pu λC=>Bbc fit hs)
 .exact f _ rfl (.pu λC=>Pa[V7 () ()])
 .exact f _ rfl (.pu λC=>Awh hs)
 .exact f _ rfl (.pu λC=>Bbe ck G oc ne)
 .exact f _ rfl (.dct (t.at1 A.at0[h11] ()) ())
 .exact f _ rfl (.pu λC=>Awg Y (Ab2 Y () ()) un)
 .exact f _ rfl (.pu λC=>Bl2 ck G)
end
section
variable{Y:De}{S S':Store}{n j k:Nat}{f:De->M W}{Q:W->Store->Prop}{ws us:lg W}{l:Lm}{cap:lg Nat}
def Atq{c d:Cell}:(S ++ [c]).set S.length d=S ++ [d]:=by simp
theorem Atr{b a:Store}(f:Fr [] b a):Fr [n] b (a.set n .dead):=(by rw[fB];exact f.len,λi hi c=>by
 rw[cW (by simp at c;omega)]
 exact f.get i hi ())
def Al7(g:Dq (λi=>Y.getD i sy) cap=sr ws)(e:S[j]?=sr .tab[l.qual])(p:md.lams Bp Ao Af l=lamF k f)(d:ws.length=k)(o:Xp l=t8)(h:Wm[f ws.map[sr]][S ++ [.dead]] λv b=>S.length < b.length/\∀m a,Fr [S.length] b a->a[m]?=sr .lst[[v]]->b.length<=m->Q .ref[m] a):Wm (Dl j l cap Bq Y) S Q:=by
 refine Ata g e (Dw rfl As9[Dv[Q0[Bh[Avp[?_]]]]]);refine Cv rfl (_,l,ws,rfl,Je,o,?_);rw[Atq,p];refine Bd (by unfold lamF;rw[di d];omega) ?_
 rintro v b ⟨s,q⟩;refine Cm[Bt (show 1<=big by decide) λm a r t c=>?_]
 refine q m _ Atr[r] ?_ c;rw[cW ()]
 omega
end
inductive Told:Nat×W->List W->Prop
 |num:Told (u6 1 .non) [.str "number "]
 |txt:Told (u6 2 .non) [.str "text "]
 |siz:Told (u6 3 .non) [.str "size "]
 |pag {k:Int}:Told (u6 6 (.int k)) [.str "page ",.int k,.bl t7]
section
variable{P:SP}{Y:De}{S S':Store}{n j k:Nat}{f:De->M W}{Q:W->Store->Prop}{ws us:lg W}{l:Lm}{cap:lg Nat}
def Bl3{d p s:Nat->Bool}{i:Nat}{b o:MS}{K:RS->Prop}{c:Nat×W}{e:De}{g:Store}(q:d c.1=t8)(h:Wb b (e.set i sr[.exn c.1 c.2]) g (λr=>K[Afk i r])):Anq d p s i b o K (.ex c e g):=by
 unfold Anq;dsimp only;exact(di q) ▸ h.un
def Aq4{g d e:Nat->Bool}{i:Nat}{q b:MS}{K:RS->Prop}{c:Nat×W}{m:De}{o:Store}(t:g c.1=t7)(s:(d c.1&&e c.1)=t8)(h:Wb b (m.set i sr[.exn c.1 c.2]) o (λr=>K[Afk i r])):Anq g d e i q b K (.ex c m o):=by
 unfold Anq;dsimp only;rw[t,s];exact h.un
def Bpk:Pu P Ew[[.exn 1 .non]] .str["number "]:=(λS a=>([],by rw[bQ];rfl'))
def Bpl:Pu P Ew[[.exn 2 .non]] .str["text "]:=(λS a=>([],by rw[bQ];trivial))
def Bpm:Pu P Ew[[.exn 3 .non]] .str["size "]:=(λS a=>([],by rw[bQ];rfl'))
def Bpn{k:Int}:Pu P Ew[[.exn 6 .int[k]]] .str["page "]:=(λS b=>([],by rw[bQ];rfl'))
def Aq5{c:Nat}{z:t6}{b:Store}{e:De}{K:RS->Prop}(hd:e[1]?=sr sr[.exn c .non])(h:Pu SP.any Ew[[.exn c .non]] .str[z])(q:∀m a,Fr [] b a->a[m]?=sr .lst[[.str z]]->b.length<=m->K[.rt .ref[m] a]):
  Wb rQ[Dr[yA[zA Ew Aa[1]]]] e b K:=by
 exact Dv Q0[Bh[Fd[Bh[Cv hd Cm[Ce h λa d=>Cm[Bt (show 1<=big by decide) λm r o i g=>q m r d.then0[o] i (aD d.len g)]]]]]]
def Bl4{k:Int}{b:Store}{e:De}{K:RS->Prop}(hd:e[1]?=sr sr[.exn 6 .int[k]])(q:∀m a,Fr [] b a->a[m]?=sr .lst[[.str "page ",.int k,.bl t7]]->b.length<=m->K[.rt .ref[m] a]):
  Wb aB4 e b K:=by
 let c:∀S,Sv fld "number" (.exn 6 .int[k]) S=_:=λS=>rfl;refine Dv Q0[Bh[Fd[Bh[Cv hd Cm[?_]]]]];refine Ce Bpn λa d=>Bh Alc[Cv[hd][Jg c[_] Bh[Fd[Bh[Alc[Cv[hd][Jg c[_] Bh[Nb[Cm[?_]]]]]]]]]];refine Jg (S':=a) rfl Cm[?_];exact Bt (show 3<=big by decide) λm o i h g=>q m o d.then0[i] h (aD d.len g)
def Aa1(r:Dq (λi=>Y.getD i sy) cap=sr ws)(p:S[j]?=sr .tab[l.qual])(u:md.lams Bp Ao Af l=lamF k f)(o:ws.length=k)(s:Xp l=t8)(h:WmX[f ws.map[sr]][S ++ [.dead]] λc d=>S.length < d.length/\∃us,Told c us/\∀m b,Fr [S.length] d b->b[m]?=sr .lst[us]->d.length<=m->Q .ref[m] b):Wm (Dl j l cap Bq Y) S Q:=by
 refine Ata r p (Dw rfl As9[Bfh[Bfi[Aqi[?_]]]]);refine Cv rfl (_,l,ws,rfl,Je,s,?_);rw[Atq,u];let(c,d,e,w,us,t,q):=h;refine(c,d,by unfold lamF;rwa [di o],?_)
 let a:∀m b,Fr [] d b->b[m]?=sr .lst[us]->d.length<=m->Q[.ref m][b.set S.length .dead]:=λm b v x g=>q m _ Atr[v] (by rwa [cW ()]) g
 cases t with
 |num=>exact Aq4 () () (Aq5 rfl Bpk a)
 |txt=>exact Aq4 () () (Aq5 rfl Bpl a)
 |siz=>exact Aq4 () () (Aq5 rfl Bpm a)
 |pag=>exact Bl3 (show exm 6 6=t8 by decide +kernel) (Bl4 rfl a)
end
section
variable{P:SP}{Y:De}{S S':Store}{d t r a k n:Nat}{Q:W->Store->Prop}{X:Nat×W->Store->Prop}{ws us:lg W}{w v:W}{sz b m:Int}{ps:lg Pg}{rs:lg t6}{z:t6}{L:lg Nat}
def Ajy:Pu[Alv SP.any a .lst[us]][Fz [.ref a]][.bl t7]:=(Bu rfl (Bo (Bb (Ak1 (p:=false) (q:=true) (Ad Ab[Ag rfl][Ab Ak Ae] λS c=>([],by
 rw[bQ];unfold Hd asX tkG Au4 tyW;dsimp only;rw[c.2];rfl)) λh=>nomatch h))))
inductive Ahc(m:Int)(S:Store):W->Prop
 |no {w:W}:(∀S,Fz [w] S=.ok (.bl t7) S)->Ahc m S w
 |lst {a:Nat} {us:List W}:S[a]?=sr (.lst us)->Ahc m S (.ref a)
 |lo {i:Int}:i < 0->Ahc m S (.int i)
 |hi {i:Int}:m < i->Ahc m S (.int i)
def Bgq(h:Dk sz ps rs b d t r S)(s:Ahc ps.length S w)(q:∀S',Fr [] S S'->X (u6 1 .non) S'):WmX Mj[[.ref d,w,v]] S X:=by
 let x:=h.at_;let u:=h.tx;refine Aeh rfl Ef[?_];symm;let p:(txs sz ps).length=ps.length:=aJ _;let f:∀g o,Fr [] S g->Wb aB9 [sr .ref[d],sr w,sr v,sr .int[(txs sz ps).length],sy] g (Qd o Boy[X]):=λg o i=>Af1 Bh[Nb[Cm (show 1<=big by decide,q _ i)]]
 cases s with
 |no e=>
  refine As5 Vz[Ln[Fd[Bh[Cv rfl Cm[?_]]]]];exact Jg e[_] (tb (rfl,Aiu[f S _ (aN _,λj j j=>rfl)]))
 |lst e=>
  refine As5 Vz[Ln[Fd[Bh[Cv rfl Cm[?_]]]]];exact Tj Ajy (trivial,e) λg i=>tb (rfl,Aiu[f g _ i])
 |lo l=>
  exact Ce (a:=true) (Pu.cast Es[Br Ah[Ad[Ab Ag[rfl] Ae][Gq _]]][Es Ah[Ar Ag[rfl] Ak X7] Ah[Ar Ag[rfl] Ag[rfl] Rj]] (by rw[dj l];rfl)) λg i=>Aiu (f g _ i)
 |hi l=>
  exact Ce (a:=true) (Pu.cast Es[Br Ah[Ad[Ab Ag[rfl] Ae][Gq _]]][Es Ah[Ar Ag[rfl] Ak X7] Ah[Ar Ag[rfl] Ag[rfl] Rj]] (by rw[p,dj l,tY];rfl)) λg i=>Aiu[f g _ i]
def Bbf(h:Dk sz ps rs b d t r S)(o:k<=ps.length)(f:Odd n sz S w)(q:∀S',Fr [] S S'->X (u6 6 .int[k]) S'):WmX Mj[[.ref d,.int k,w]] S X:=by
 let s:=h.at_;let p:=h.tx;refine Aeh rfl Ef[?_];symm;let l:(txs sz ps).length=ps.length:=aJ _;refine Ce (a:=false) Pu.cast[Es[Br Ah[Ad[Ab Ag[rfl] Ae][Gq _]]][Es Ah[Ar Ag[rfl] Ak X7] Ah[Ar Ag[rfl] Ag[rfl] Rj]]][by grind] λu e=>?_;symm;refine(f.mv e λi hi=>nomatch hi).wm λj g=>?_;symm;apply Avo;symm;exact(_,_,rfl,rfl,q j e.then0[g])
def Bl5(h:Dk sz ps rs b d t r S)(A:rs.length<=1000)(y:M2.Dp z=t8)(x:z.length<=1000)(q:∀S',Fr [d,r] S S'->Dk sz ps (rs ++ [z]) (b+1) d t r S'->Q .non S'):Wm Xd[[.ref d,.str z]] S Q:=by
 let j:=h.at_;let s:=h.ro;let g:z.length<=big:=aD x ()
 apply Dw rfl;refine K8[Ce Br[Ah[Ad[Ab Ag[rfl] Ae][V6 z g]]] λF f=>(by rw[y];rfl,?_)]
 let j:=f.at0 j;symm;refine Ag6 j g λE o p=>?_;symm;refine(_,_,rfl,o.at1 f.at0[s] h.dr.symm,?_);symm;apply Tu g;rw[Ajw rfl];symm;refine Vx (o.at1 f.at0[s] h.dr.symm) (by rw[aJ];exact jL A ()) λu l C=>?_
 let B:=l.at1 p h.dr;symm;apply Aqz B;symm;let e:Fr [d,r] S u:=Fr.same (Fr.same f.of0 (o.mono λi hi=>by rw[aM.mp hi];simp)) (l.mono λi hi=>by rw[aM.mp hi];simp)
 exact q u e (l.at1 p h.dr,e.at h.tx (by have:=h.dt;have:=h.tr;simp;omega),dG ▸ C,h.dt,h.dr,h.tr)
def Bgr(h:Wm Jq[[w]] S λv c=>v=.bl t7/\X (u6 2 .non) c):WmX Xd[[.ref d,w]] S X:=by
 apply Aeh rfl;refine Tn Vz[Ln[Fd[Bh[Cv rfl Cm[Bd h ?_]]]]];rintro v c ⟨rfl,q⟩;exact tb (rfl,Af1 Bh[Nb[Cm ((),q)]])
def Bbg{r':Nat}:Wi "row_texts" .ref[r'] (Awb sz t r b)=Awb sz t r' b:=rfl
def Bbh(h:Dk sz ps rs b d t r S)(q:∀f S',Fr [d] S S'->Dk sz ps [] (b+1) d t f S'->S.length<=f->Q .non S'):Wm Aal[[.ref d]] S Q:=by
 let i:=h.at_;refine Dw rfl X8[?_];symm;refine Ag6 (z:="") i (by trivial) λB o s=>?_;symm;apply Aiu;symm;refine Bt () λf A l p x=>?_;symm;let y:=o.len;let ld:=Bk i;let lt:=Bk h.tx;refine Mh l.at0[s] (rfl) Bbg λu j g=>?_;symm;apply Aqz g;symm;let e:=(o.then0 l).same j;exact q f u e (g,e.at1 h.tx h.dt.symm,j.at1 p (),h.dt,(),()) ()
def Bbi(h:Dk sz ps rs b d t r S)(e:ps.length<=1000)(q:∀m S',Fr [] S S'->S'[m]?=sr .lst[txs sz ps]->S.length<=m->Q .ref[m] S'):Wm Aas[[.ref d]] S Q:=by
 let f:=h.at_;refine Dw rfl Dv[?_];symm;exact Alf h.tx (by unfold txs;rw[aJ];exact aD e ()) q
def Bgs(h:Dk sz ps rs b d t r S)(e:rs.length<=1000)(q:∀m S',Fr [] S S'->S'[m]?=sr .lst[rs.map[W.str]]->S.length<=m->Q .ref[m] S'):Wm Adk[[.ref d]] S Q:=by
 let f:=h.at_;refine Dw rfl Dv[?_];symm;exact Alf h.ro (by rw[aJ];exact aD e ()) q
def Ajz(h:Dk sz ps rs b d t r S)(q:Q .int[b] S):Wm Wy[[.ref d]] S Q:=by
 let e:=h.at_;refine Dw rfl Dv[?_];symm;exact q
def Bl6(h:Dk sz ps rs b d t r S)(q:Q .bl[t7] S):Wm Wu[[.ref d]] S Q:=by
 let e:=h.at_;refine Dw rfl Dv[?_];symm;exact q
def Bl7(h:Wm[Ib [w]][S ++ [.ins 14 []]] λv c=>v=.bl t7/\X (u6 3 .non) c):WmX (Ni 14 Fj [w]) S X:=by
 refine Qe (_,_,rfl,Abr[Aeh rfl ?_]);refine Tn Vz[Ln[Fd[Bh[Cv rfl Cm[Bd h ?_]]]]];rintro v c ⟨rfl,q⟩;exact tb (rfl,Af1 Bh[Nb[Cm ((),q)]])
end
theorem Al8{b:Type}{n:Nat}{f:b->W}{g:b->lD}(h:∀x,Fg S n f[x]=sr g[x]):∀a:lg b,Dq[Fg S n][a.map f]=sr a.map[g]
 |[]=>rfl
 |x::a=>by rw[cJ,Dq,h,Al8 h a];rfl
def Bbj(h:M2.Dp x=t8):uA x=t8:=by
 unfold uA;unfold M2.Dp at h;rw[<-Array.all_toList];rw[bB] at h ⊢
 exact λc a=>dj (by have:=M2.Asz.mp[h c a];omega)
def lay(m:Nat)(x:lD):Prop:=PyData.canLay0 x=t8/\PyData.depth x<=m
def Bgt{m:Nat}(h:∀x∈a,lay m x):lay[m+1][.tuple a]:=by
 let b:∀a,(∀x∈a,lay m x)->PyData.canLayAll0 a=t8/\PyData.depthAll a<=m:=λa=>by
  induction a with
  |nil=>exact λk=>(rfl,cP _)
  |cons x a g=>
   intro h;let(d,j):=jV.mp h;let i:=g j;show (_&&_)=t8/\_;rw[d.1,i.1];exact(rfl,Nat.max_le.mpr (d.2,i.2))
 let(f,e):=b a h;exact(f,gY e)
def V8{m:Nat}(h:M2.Dp t=t8):lay m .str[t]:=(Bbj h,cP _)
def Bgu{m:Nat}{n:Int}:lay m .int[n]:=(rfl,cP _)
def Rc{m:Nat}:∀x∈([]:lg lD),lay m x:=by simp
def Kf{m:Nat}(h:lay m x)(h2:∀x∈xs,lay m x):∀y∈x::xs,lay m y:=jV.mpr (h,h2)
def Ats{m:Nat}{xs:lg lD}(h:∀x∈xs,lay m x):lay[m+1][.list xs]:=Bgt h
def Bbk{a b:Nat}{f:lg W}{i:lg lD}{d:Bool}(o:S[a]?=sr .lst[f])(n:S[b]?=sr .lst[f])(hd:Dq (Fg S 15) f=sr i)(m:∀x∈i,lay 4 x):eqD d .ref[a] .ref[b] S=.ok .bl[!d] S:=by
 let l:=Ats m;let j:lQ .list[i]=t8:=by
  unfold lQ;rw[l.1,dj[aD l.2 ()]]
  rfl
 let e:∀c,S[c]?=sr .lst[f]->Fg S 16 .ref[c]=sr .list[i]:=λc h=>by
  show (match S[c]? with|some (.lst f)=>_|some (.dct [])=>_|_=>_)=_
  rw[h];dsimp only;rw[hd];rfl
 unfold eqD;rw[e a o,e b n];dsimp only;rw[j,SeqAt.eqv_refl _ SeqAt.canLay_of_shaped[j]];cases d <;> rfl
def Xf{a b:Nat}{ws:lg W}{ds:lg lD}(ha:S[a]?=sr .lst[ws])(hb:S[b]?=sr .lst[ws])(hd:Dq (Fg S 15) ws=sr ds)(hl:∀x∈ds,lay 4 x)(q:Q .bl[t8] S):Wm (Fo .Eq .ref[a] .ref[b]) S Q:=(_,S,Bbk ha hb hd hl,q)
def Al9{a b:Nat}{ws:lg W}{ds:lg lD}(ha:S[a]?=sr .lst[ws])(hb:S[b]?=sr .lst[ws])(hd:Dq (Fg S 15) ws=sr ds)(hl:∀x∈ds,lay 4 x)(q:Q .bl[t7] S):Wm (Fo .NotEq .ref[a] .ref[b]) S Q:=(_,S,Bbk ha hb hd hl,q)
def Bh3{S:Store}{sz:Int}(ps:lg Pg):Dq[Fg S 15][txs sz ps]=sr[ps.map λp=>.str p.text[sz]]:=Al8 (λuw=>rfl) ps
def Bh4{sz:Int}{ps:lg Pg}(h:∀p∈ps,p.ok):∀x∈ps.map[λp=>aAu p.text[sz]],lay 4 x:=(λx b=>by
 let(p,hp,rfl):=dZ.mp b;apply V8;unfold Pg.text;rw[Hm,Aen[h p hp],show M2.Dp M2.check[_]=t8 from Vj 2 _];rfl)
def Bl8{a:lg W}{j:Int}(h:0<=j):R9 a sy sr[j]=a.take j.toNat:=by
 show ((a.drop 0).take ((if j < 0 then _ else _) - 0))=_
 rw[dm ()]
 simp
def Bbl{a:lg W}{j:Nat}:R9 a (sr (j:Int)) sy=a.drop j:=by
 let e:HT.sIx a.length 0 sr[j]=min j a.length:=rfl;unfold R9;rw[e];show (a.drop _).take (a.length - _)=_;rcases Nat.le_total j a.length with h|h
 .rw[Nat.min_eq_left h,jF ()]
 simp_all
def Ama{m:Nat}:lay m .none:=(rfl,cP _)
def Bl9{m:Nat}{b:Bool}:lay m .bool[b]:=(rfl,cP _)
def Bgv{Y:De}{S:Store}{i j:Nat}{f:De->M W}{a:MS}{K:RS->Prop}(h:Wm f[Y] S λw b=>∃x y,w=.tup [x,y]/\Wb a ((Y.set j sr[y]).set i sr[x]) b K):Wb Ai[Bdz i j f][a] Y S K:=(Jf ⟨Hy (Bd h λw b ⟨x,y,e,q⟩=>by subst e;exact q)⟩)
def Bbm{S:Store}(zs:lg t6):Dq[Fg S 15][zs.map W.str]=sr zs.map[aAu]:=Al8 (λuw=>rfl) zs
def Bbn{a:lg t6}(h:∀z∈a,M2.Dp z=t8):∀x∈a.map aAu,lay 4 x:=(λx c=>by
 let(p,hp,rfl):=dZ.mp c;exact V8[h p hp])
def Bgw{sz:Int}{ps:lg Pg}{p:Pg}{k:Nat}(h:k<=ps.length):R9[txs sz ps][sy][sr (k:Int)] ++ [.str p.text[sz]] ++ R9[txs sz ps][sr (k+1:Int)][sy]=txs sz (wr ps k p):=by
 rw[Bl8 (),show (k+1)=((k+1:Nat):Int) from rfl,Bbl]
 unfold txs wr;simp
def Bma{ps:lg Pg}{p:Pg}{k:Nat}(h:k<=ps.length):(wr ps k p).length<=ps.length+1:=by
 unfold wr;rw[bH,gW,fD,gD];omega
def Bmb{ps:lg Pg}{p x:Pg}{k:Nat}(h:x∈wr ps k p):x=p\/x∈ps:=by
 rcases bF.mp h with h|h
 .exact .inr mX[h]
 .rcases aW.mp h with h|h
  .exact .inl h
  .exact .inr uW[h]
structure St where
 sz:Int
 ps:List Pg
 rs:List t6
 b:Int
 d:Nat
 t:Nat
 r:Nat
 e:Nat
 x:Nat
 y:Nat
def wlD(sz:Int)(x y:Nat)(b:Int):lg[Key×W]:=[(.inr "size",.int sz),(.inr "texts",.ref x),(.inr "rows",.ref y),(.inr "begun",.int b)]
def St.keep(s:St):lg Nat:=[s.d,s.t,s.r,s.e,s.x,s.y]
def St.own(s:St):lg Nat:=[s.d,s.t,s.r,s.e]
structure Sd(N:Nat)(s:St)(S:Store):Prop where
 dk:Dk s.sz s.ps s.rs s.b s.d s.t s.r S
 at_:S[s.e]?=sr (.dct (wlD s.sz s.x s.y s.b))
 tx:S[s.x]?=sr (.lst (txs s.sz s.ps))
 ro:S[s.y]?=sr (.lst (s.rs.map W.str))
 hs:Siz s.sz
 fit:∀p∈s.ps,Fits s.sz p
 rok:∀z∈s.rs,M2.Dp z=t8
 lp:s.ps.length<=N
 lr:s.rs.length<=N
 ne:s.e∉[s.d,s.t,s.r,s.x,s.y]
 nx:s.x∉[s.d,s.t,s.r]
 ny:s.y∉[s.d,s.t,s.r]
def Sd.mv{N:Nat}{s:St}{S b:Store}{L:lg Nat}(h:Sd N s S)(f:Fr L S b)(d:∀i∈s.keep,i∉L):Sd N s b:=(
 let k:=λi hi=>d i hi
 (h.dk.mv f k[_][by simp[St.keep]] k[_][by simp[St.keep]] k[_][by simp[St.keep]],f.at h.at_ k[_][by simp[St.keep]],f.at h.tx k[_][by simp[St.keep]],f.at h.ro k[_][by simp[St.keep]],h.hs,h.fit,h.rok,h.lp,h.lr,h.ne,h.nx,h.ny))
def Sd.lt{N:Nat}{s:St}{S:Store}(h:Sd N s S):∀i∈s.keep,i < S.length:=by
 intro i hi;let g:=Bk h.dk.at_;let f:=Bk h.dk.tx;let e:=Bk h.dk.ro;let d:=Bk h.at_;let c:=Bk h.tx;let b:=Bk h.ro;simp[St.keep] at hi;omega
section
variable{S S':Store}{n N d t r k:Nat}{Y:De}{Q:W->Store->Prop}{sz b:Int}{ps:lg Pg}{rs:lg t6}{p:Pg}{w v:W}{z:t6}
def Dk.lt(h:Dk sz ps rs b d t r S):d < S.length/\t < S.length/\r < S.length:=(Bk h.at_,Bk h.tx,Bk h.ro)
theorem Rf{L:lg Nat}{c a:Store}(f:Fr L (S ++ [.dead]) c)(g:Fr [S.length] c a):Fr L S a:=(by have:=f.len;have:=g.len;rw[bH] at *;omega,λi hi h=>by
 have:=f.len;rw[bH] at this;rw[g.get i () (by simp;omega),f.get i (by rw[bH];omega) h,bD hi])
def Ab3(h:Dk sz ps rs b d t r S):Dk sz ps rs b d t r (S ++ [.dead]):=(h.mv .app () () ())
def Aq6:S.length < (S ++ [Cell.dead]).length:=by simp
def Aq7(h:Dk sz ps rs b d t r S)(l:S[0]?=sr .tab[l_1.qual])(o:Dq (λi=>Y.getD i sy) [1,7,8]=sr [.ref d,.int k,.str p.text[sz]])(hs:Siz sz)(fit:Fits sz p)(j:k<=ps.length)(g:ps.length<=1000)(hp:∀p∈ps,Fits sz p)(q:∀m S',Fr [d,t] S S'->Dk sz (wr ps k p) rs (b+1) d t r S'->S'[m]?=sr .lst[[.non]]->S.length<=m->Q .ref[m] S'):Wm (Dl 0 l_1 [1,7,8] Bq Y) S Q:=by
 let lt:=h.lt;refine Al7 o l Brg rfl Brh Afz[Cv rfl ?_];let e:=Ab3 h;refine Lk e.at_ rfl rfl Bh[Cv rfl Bh[Cv rfl Cm[Af0 rfl ?_]]];refine Ba2 e hs fit j g hp λA c x=>?_;let y:=c.len;let f:=Aq6 (S:=S);refine((),λm u a s f=>q m u (Rf c a) (x.mv a (by simp;omega) (by simp;omega) (by simp;omega)) s ())
def Bbo(h:Dk sz ps rs b d t r S)(o:S[0]?=sr .tab[l_2.qual])(s:Dq (λi=>Y.getD i sy) [1,9]=sr [.ref d,.str z])(l:rs.length<=1000)(j:M2.Dp z=t8)(f:z.length<=1000)(q:∀m S',Fr [d,r] S S'->Dk sz ps (rs ++ [z]) (b+1) d t r S'->S'[m]?=sr .lst[[.non]]->S.length<=m->Q .ref[m] S'):Wm (Dl 0 l_2 [1,9] Bq Y) S Q:=by
 let lt:=h.lt;refine Al7 s o Brj rfl Brk Afz[Cv rfl ?_];let e:=Ab3 h;refine Lk e.at_ rfl rfl Bh[Cv rfl Cm[Af0 rfl ?_]];refine Bl5 e l j f λB c y=>?_;let A:=c.len;let g:=Aq6 (S:=S);refine((),λm x a u g=>q m x (Rf c a) (y.mv a (by simp;omega) (by simp;omega) (by simp;omega)) u ())
def Aq8(h:Dk sz ps rs b d t r S)(j:S[0]?=sr .tab[l_3.qual])(l:Dq (λi=>Y.getD i sy) [1]=sr [.ref d])(q:∀m a S',Fr [d] S S'->Dk sz ps [] (b+1) d t a S'->S.length<=a->S'[m]?=sr .lst[[.non]]->S.length<=m->Q .ref[m] S'):Wm (Dl 0 l_3 [1] Bq Y) S Q:=by
 let lt:=h.lt;refine Al7 l j Brm rfl Brn Afz[Cv rfl ?_];let f:=Ab3 h;refine Lk f.at_ rfl rfl Cm[Af0 rfl ?_];refine Bbh f λa y e u lr=>?_;let x:=e.len;let g:=Aq6 (S:=S);refine((),λm s c o g=>q m a s (Rf e c) (u.mv c (by simp;omega) (by simp;omega) (by simp;omega)) () o ())
def Awj(h:Dk sz ps rs b d t r S)(j:S[0]?=sr .tab[l_5.qual])(l:Dq (λi=>Y.getD i sy) [1,7,8]=sr [.ref d,.int k,w])(g:k<=ps.length)(f:Odd n sz S w)(q:∀m S',Fr [] S S'->S'[m]?=sr .lst[[.str "page ",.int k,.bl t7]]->S.length<=m->Q .ref[m] S'):Wm (Dl 0 l_5 [1,7,8] Bq Y) S Q:=by
 refine Aa1 l j Brs rfl Brt Ali[Cv rfl ?_];let c:=Ab3 h;refine Lk c.at_ rfl rfl Bh[Cv rfl Bh[Cv rfl Cm[Alj rfl ?_]]];refine Bbf c g (f.mv .app λx z=>nomatch z) λA a=>?_;let y:=a.len;let e:=Aq6 (S:=S);exact((),_,.pag,λm u s o e=>q m u (Rf a s) o ())
def Ahc.mv{m:Int}(h:Ahc m S w)(f:Fr [] S S'):Ahc m S' w:=by
 cases h with
 |no h=>exact .no h
 |lst h=>exact .lst f.at0[h]
 |lo h=>exact .lo h
 |hi h=>exact .hi h
def Bbp(h:Dk sz ps rs b d t r S)(g:S[0]?=sr .tab[l_0.qual])(j:Dq (λi=>Y.getD i sy) [1,11,10]=sr [.ref d,v,w])(f:Ahc ps.length S w)(q:∀m S',Fr [] S S'->S'[m]?=sr .lst[[.str "number "]]->S.length<=m->Q .ref[m] S'):Wm (Dl 0 l_0 [1,11,10] Bq Y) S Q:=by
 refine Aa1 j g Brd rfl Bre Ali[Cv rfl ?_];let c:=Ab3 h;refine Lk c.at_ rfl rfl Bh[Cv rfl Bh[Cv rfl Cm[Alj rfl ?_]]];refine Bgq c f.mv[.app] λx a=>?_;let u:=a.len;let e:=Aq6 (S:=S);exact((),_,.num,λm s o l e=>q m s (Rf a o) l ())
def Bbq{a:Nat}{e:lg W}:Pu[Alv SP.any a .lst[e]][Jq [.ref a]][.bl t7]:=(Bu rfl (Bo (Bb (Ak1 (q:=true) (Ad Ab[Ag rfl][Ab Ak Ae] Ato) λh=>nomatch h))))
def Bbr(h:Dk sz ps rs b d t r S)(F:S[0]?=sr .tab[l_4.qual])(G:Dq (λi=>Y.getD i sy) [1,7]=sr [.ref d,.int k])(q:∀m S',Fr [] S S'->S'[m]?=sr .lst[[.str "text "]]->S.length<=m->Q .ref[m] S'):Wm (Dl 0 l_4 [1,7] Bq Y) S Q:=by
 refine Aa1 G F Brp rfl Brq Ali[Cv rfl ?_];let O:=Ab3 h;apply Lk O.at_ rfl rfl;generalize B:S ++ [Cell.dead]=C at *
 let P:S.length < C.length:=by rw[<-B];exact Aq6
 symm;refine Bt (show 1<=big by decide) λZ s L x E=>?_;symm;apply Eg;symm;refine(show 1<=big by decide,?_);symm;refine Bt (show 6<=big by decide) λX u A I U=>?_;symm;let f:∀l,Fr [] C l->S.length < l.length/\∃y,Told (u6 2 .non) y/\∀m s,Fr [S.length] l s->s[m]?=sr .lst[y]->l.length<=m->Q .ref[m] s:=λl o=>by
  let T:=o.len;exact((),_,.txt,λm s J x E=>q m s Rf[B ▸ o][J] x ())
 let H:(k:Int) % 6=0\/(k:Int) % 6=1\/(k:Int) % 6=2\/(k:Int) % 6=3\/(k:Int) % 6=4\/(k:Int) % 6=5:=by omega
 let g:=L.then0 A;rcases H with e|e|e|e|e|e <;> rw[e] <;> refine Fe I rfl Cm[Alj rfl Bgr[?_]]
 .exact(Jg (a:=.bl t7) (S':=u) rfl (rfl,f _ g))
 .exact(Jg (a:=.bl t7) (S':=u) rfl (rfl,f _ g))
 .exact(Tj Bbq (trivial,A.at0 x) λl o=>(rfl,f _ g.then0[o]))
 .exact(Jg (a:=.bl t7) (S':=u) rfl (rfl,f _ g))
 .exact(Ce V6[_][by trivial] λl o=>(congrArg W.bl (show M2.Dp "a\tb"=t7 by decide +kernel),f _ g.then0[o]))
 .exact(Jg (a:=.bl t7) (S':=u) rfl (rfl,f _ g))
end
structure Cx(n N:Nat)(s:St)(S:Store):Prop where
 tp:Tp n S
 tab:S[0]?=sr (.tab l_0.qual)
 sd:Sd N s S
 nk:n∉s.keep
 n0:n≠0
 k0:0∉s.keep
 hN:N<=900
def Fn(n N:Nat)(s:St)(Q:W->Store->Prop)(S:Store):Prop:=∀s' S',Fr (n::s.own) S S'->Tp n S'->Sd (N+1) s' S'->s'.sz=s.sz->s'.d=s.d->s'.e=s.e->(∀i∈s'.own,i∈s.own\/S.length<=i)->(∀i,i=s'.x\/i=s'.y->(i=s.x\/i=s.y)\/S.length<=i)->Q .bl[t8] S'
def far{a b c m:Nat}(h:c=b\/m<=c)(f:a < m)(d:a≠b):a≠c:=by omega
def Bgx{a b c m:Nat}(h:c=b\/m<=c)(f:a < m)(d:b≠a):c≠a:=by omega
def Ahd{a b c:Nat}(f:a≠b)(e:a≠c):a∉[b,c]:=by simp_all
def Aa2{a b:Nat}(d:a≠b):a∉[b]:=by simp_all
def Bbs{a b c d:Nat}(h:a≠b)(g:a≠c)(f:a≠d):a∉[b,c,d]:=by simp_all
section
variable{n N:Nat}{s:St}{S S':Store}{Q:W->Store->Prop}
def Cx.n'(C:Cx n N s S):n≠s.d/\n≠s.t/\n≠s.r/\n≠s.e/\n≠s.x/\n≠s.y:=by simpa [St.keep] using C.nk
def Cx.z'(C:Cx n N s S):0≠s.d/\0≠s.t/\0≠s.r/\0≠s.e/\0≠s.x/\0≠s.y:=by simpa only[St.keep,aW,bM,or_false,not_or] using C.k0
def Sd.e'(H:Sd N s S):s.e≠s.d/\s.e≠s.t/\s.e≠s.r/\s.e≠s.x/\s.e≠s.y:=by simpa using H.ne
def Sd.x'(H:Sd N s S):s.x≠s.d/\s.x≠s.t/\s.x≠s.r:=by simpa using H.nx
def Sd.y'(H:Sd N s S):s.y≠s.d/\s.y≠s.t/\s.y≠s.r:=by simpa using H.ny
def Sd.l'(H:Sd N s S):s.d < S.length/\s.t < S.length/\s.r < S.length/\s.e < S.length/\s.x < S.length/\s.y < S.length:=by simpa [St.keep] using H.lt
def Cx.mv(h:Cx n N s S)(f:Fr [n] S S')(t:Tp n S'):Cx n N s S':=(t,f.at1 h.tab bN[h.n0],h.sd.mv f λi hi e=>h.nk[aM.mp e ▸ hi],h.nk,h.n0,h.k0,h.hN)
def Cx.mv0(h:Cx n N s S)(f:Fr [] S S'):Cx n N s S':=h.mv f.of0 h.tp.at0[f]
def Fn.mv(h:Fn n N s Q S)(f:Fr [n] S S'):Fn n N s Q S':=(λa l g t d j e c k b=>h a l ((f.mono λi hi=>by simp_all).same g) t d j e c (λi hi=>(k i hi).imp id λz=>aD f.len z) λi hi=>(b i hi).imp id λz=>aD f.len z)
def Fn.mv0(h:Fn n N s Q S)(f:Fr [] S S'):Fn n N s Q S':=h.mv f.of0
structure Cy(n N:Nat)(s:St)(S:Store):Prop where
 tp:Tp n S
 tab:S[0]?=sr (.tab l_0.qual)
 dk:Dk s.sz s.ps s.rs s.b s.d s.t s.r S
 tx:S[s.x]?=sr (.lst (txs s.sz s.ps))
 ro:S[s.y]?=sr (.lst (s.rs.map W.str))
def Cx.put(C:Cx n N s S)(f:Fr [s.e] S S'):Cy n N s S':=(
 let e:=C.sd.e'
 (C.tp.mv f Aa2[C.n'.2.2.2.1],f.at1 C.tab C.z'.2.2.2.1,C.sd.dk.mv f Aa2[e.1.symm] Aa2[e.2.1.symm] Aa2[e.2.2.1.symm],f.at1 C.sd.tx e.2.2.2.1.symm,f.at1 C.sd.ro e.2.2.2.2.symm))
def Aq9(C:Cx n N s S)(q:Fn n N s Q S){s':St}(f:Fr s.own S S')(t:Tp n S')(l:s'.sz=s.sz)(a:s'.d=s.d)(c:s'.t=s.t)(g:s'.e=s.e)(k:s'.r=s.r\/S.length<=s'.r)(x':s'.x=s.x\/S.length<=s'.x)(y':s'.y=s.y\/S.length<=s'.y)(o:s'.x≠s'.r)(m:s'.y≠s'.r)(dk:Dk s'.sz s'.ps s'.rs s'.b s'.d s'.t s'.r S')(at_:S'[s'.e]?=sr .dct[wlD s'.sz s'.x s'.y s'.b])(tx:S'[s'.x]?=sr .lst[txs s'.sz s'.ps])(ro:S'[s'.y]?=sr .lst[s'.rs.map[W.str]])(fit:∀p∈s'.ps,Fits s'.sz p)(rok:∀z∈s'.rs,M2.Dp z=t8)(lp:s'.ps.length<=N+1)(lr:s'.rs.length<=N+1):Q .bl[t8] S':=by
 let E:=C.sd.e';let X:=C.sd.x';let j:=C.sd.y';let L:=C.sd.l';refine q s' S' (f.mono λi hi=>aR _ hi) t (dk,at_,tx,ro,l ▸ C.sd.hs,fit,rok,lp,lr,?_,?_,?_) l a g ?_ ?_
 .rw[a,c,g];let w:=far k L.2.2.2.1 E.2.2.1;let v:=far x' L.2.2.2.1 E.2.2.2.1;let u:=far y' L.2.2.2.1 E.2.2.2.2;simp[E.1,E.2.1,w,v,u]
 .rw[a,c];exact Bbs[Bgx x' L.1 X.1][Bgx x' L.2.1 X.2.1][o]
 .rw[a,c];exact Bbs[Bgx y' L.1 j.1][Bgx y' L.2.1 j.2.1][m]
 .intro i hi;unfold St.own at hi ⊢
  rw[a,c,g] at hi;simp only[aW,bM,or_false] at hi ⊢
  rcases hi with h|h|h|h
  .exact .inl .inl[h]
  .exact .inl .inr[.inl[h]]
  .rcases k with z|z
   .exact .inl .inr[.inr[.inl[h.trans[z]]]]
   .exact .inr[h ▸ z]
  .exact .inl .inr[.inr[.inr[h]]]
 .intro i hi;rcases hi with h|h
  .rcases x' with z|z
   .exact .inl .inl[h.trans[z]]
   .exact .inr[h ▸ z]
  .rcases y' with z|z
   .exact .inl .inr[h.trans[z]]
   .exact .inr[h ▸ z]
end
section
variable{n N k:Nat}{s:St}{S:Store}{Q:W->Store->Prop}{x6 x8 x9 x10 x11:o9 W}{b':MS}
def Aa3{a:lg W}{lo hi:o9 Int}:(R9 a lo hi).length<=a.length:=by
 unfold R9;rw[gW,gD];exact aD[pJ _ _][Nat.sub_le _ _]
def Bmc(C:Cx n N s S)(hk:k<=s.ps.length)(q:Fn n N s Q S):Wb aA4 [sr .ref[n],sr .ref[s.d],sr .ref[s.e],sr .int[s.sz],sr .ref[s.x],sr .ref[s.y],x6,sr .int[k],x8,x9,x10,x11] S (Qd b' Adv[Q]):=by
 let hs:=C.sd.hs;refine Ef ?_;symm;refine Atm C.tp hs λp S5 f5 h5 fit=>?_;symm;refine Ce[Mq fit hs] λS6 f6=>?_
 replace C:=(C.mv f5 h5).mv0 f6
 replace q:=(q.mv f5).mv0 f6
 clear f5 h5 f6;let w:=C.sd.at_;let A:(txs s.sz s.ps).length<=1000:=by have:=C.sd.lp;have:=C.hN;unfold txs;rw[aJ];omega
 unfold wlD at w
 symm;refine Az8 C.sd.tx aD[Aa3][aD A ()] λo1 S7 L h7 l7=>?_;symm;refine Bt (show 1<=big by decide) λo2 S8 G h8 l8=>?_
 refine Aep G.at0[h7] h8 (aD rG[aD Aa3 A][aN 1] ()) λo3 S9 J h9 l9=>?_;symm;refine Az8 J.at0[G.at0[L.at0[C.sd.tx]]] aD[Aa3][aD A ()] λo4 S10 c F l10=>?_
 refine Aep c.at0[h9] F (by rw[bH];exact aD rG[rG[aD Aa3 A][aN 1]][aD Aa3 A] ()) λj S11 H B Y=>?_
 rw[Bgw hk] at B;let l5:=(((L.then0 G).then0 J).then0 c).len;let l:=(((L.then0 G).then0 J).then0 c).then0 H;let z:S6.length<=j:=by omega
 let T:s.e≠j:=bR[aQ Bk[w] z];let U:j≠s.d:=by have:=C.sd.l';omega
 let O:j≠s.t:=by have:=C.sd.l';omega
 let P:j≠s.r:=by have:=C.sd.l';omega
 let C0:=C;let q0:=q
 replace C:=C.mv0 l
 let w:=C.sd.at_;let w:=C.sd.at_;unfold wlD at w;clear L h7 G h8 J h9 c F H l7 l8 l9 l10 Y l5
 symm;refine Nm w rfl (show 4 < big by decide) λS12 f12 u=>?_
 replace u:S12[s.e]?=sr .dct[[(.inr "size",.int s.sz),(.inr "texts",.ref j),(.inr "rows",.ref s.y),(.inr "begun",.int s.b)]]:=u;symm;refine Nm u rfl (show 4 < big by decide) λS13 f13 o=>?_
 replace o:S13[s.e]?=sr .dct[wlD s.sz j s.y (s.b+1)]:=o
 let f:=f12.same f13;let I:=C.put f;let ho5:=f.at1 B bN[T];symm;refine Aq7 I.dk I.tab rfl hs fit hk (by have:=C.sd.lp;have:=C.hN;omega) C.sd.fit λm S15 f15 D15 h15 l15=>?_;symm;refine Bt (show 1<=big by decide) λo6 S17 v h17 l17=>?_
 refine Xf v.at0[h15] h17 (ds:=[.none]) rfl (Kf Ama Rc) ?_;let g:=f15.then0 v;let E:=C.sd.e';let X:=C.n';let Z:=C.sd.y';refine Aq9 C0 q0 (s':={ s with ps:=wr s.ps k p,b:=s.b+1,x:=j }) Fr.same[Fr.same[l.mono λuw h=>nomatch h][f.mono λi hi=>?_]][g.mono λi hi=>?_] I.tp.mv[g][Ahd X.1 X.2.1] rfl rfl rfl rfl .inl[rfl] .inr[?_] .inl[rfl] P Z.2.2 (D15.mv v () () ()) g.at[o][Ahd E.1 E.2.1] g.at[ho5][Ahd U O] g.at[I.ro][Ahd Z.1 Z.2.1] ?_ C.sd.rok ?_ iJ[C.sd.lr]
 .rw[aM.mp hi];simp[St.own]
 .unfold St.own;simp only[aW,bM,or_false] at hi ⊢;rcases hi with h|h <;> simp[h]
 .exact z
 .intro x hx;rcases Bmb hx with rfl|hx
  .exact fit
  .exact C.sd.fit x hx
 .exact aD Bma[hk] gY[C.sd.lp]
def Bmd(C:Cx n N s S)(q:Fn n N s Q S){x7:o9 W}:Wb aA5 [sr .ref[n],sr .ref[s.d],sr .ref[s.e],sr .int[s.sz],sr .ref[s.x],sr .ref[s.y],x6,x7,x8,x9,x10,x11] S (Qd b' Adv[Q]):=by
 apply Ef;symm;refine Ca C.tp () λa S1 f1 t1 a0 a1=>?_;symm;refine Ca t1 () λc S2 f2 t2 c0 c1=>?_
 let ac0:0<=a * c:=aAs a0 c0;let ac1:a * c<=2 * 119:=Int.mul_le_mul () () c0 ()
 apply Aeg (by unfold small;rw[dj (),dj ()];rfl);symm;refine Aa0 t2 ac0 () λz S3 Y t3 lz tz=>?_
 replace C:=C.mv ((f1.same f2).same Y) t3
 replace q:=q.mv[(f1.same f2).same Y]
 clear f1 f2 Y t1 t2 t3;let H:=C.sd.at_;unfold wlD at H;let lr:s.rs.length<=900:=aD C.sd.lr C.hN
 symm;refine Bt (show 1<=big by decide) λo1 S4 I h4 l4=>?_
 refine Aep I.at0[C.sd.ro] h4 (by rw[aJ,eZ];exact aD gY[lr] ()) λl S11 F B A=>?_
 let e11:s.rs.map W.str ++ [W.str z]=(s.rs ++ [z]).map W.str:=by simp
 rw[e11] at B;let o:=I.then0 F;let J:S3.length<=l:=aD I.len A;let L:s.e≠l:=by have:=C.sd.l';omega
 let O:l≠s.d:=by have:=C.sd.l';omega
 let o5t:l≠s.t:=by have:=C.sd.l';omega
 let w:l≠s.r:=by have:=C.sd.l';omega
 let C0:=C;let q0:=q
 replace C:=C.mv0 o
 let H:=C.sd.at_;unfold wlD at H;clear I F h4 l4 A
 symm;refine Nm H rfl (show 4 < big by decide) λS12 f12 u=>?_
 replace u:S12[s.e]?=sr .dct[[(.inr "size",.int s.sz),(.inr "texts",.ref s.x),(.inr "rows",.ref l),(.inr "begun",.int s.b)]]:=u;symm;refine Nm u rfl (show 4 < big by decide) λS13 f13 p=>?_
 replace p:S13[s.e]?=sr .dct[wlD s.sz s.x l (s.b+1)]:=p
 let f:=f12.same f13;let G:=C.put f;let P:=f.at1 B bN[L];symm;refine Bbo G.dk G.tab rfl (aD lr ()) tz () λm S15 f15 D15 U l15=>?_;symm;refine Bt (show 1<=big by decide) λo6 S17 v T l17=>?_
 apply Xf v.at0[U] T (ds:=[.none]) rfl (Kf Ama Rc);let g:=f15.then0 v;let E:=C.sd.e';let X:=C.n';let Z:=C.sd.x';refine Aq9 C0 q0 (s':={ s with rs:=s.rs ++ [z],b:=s.b+1,y:=l }) Fr.same[Fr.same[o.mono λuw h=>nomatch h][f.mono λi hi=>?_]][g.mono λi hi=>?_] G.tp.mv[g][Ahd X.1 X.2.2.1] rfl rfl rfl rfl .inl[rfl] .inl[rfl] .inr[J] Z.2.2 w (D15.mv v () () ()) g.at[p][Ahd E.1 E.2.2.1] g.at[G.tx][Ahd Z.1 Z.2.2] g.at[P][Ahd O w] C.sd.fit ?_ iJ[C.sd.lp] ?_
 .rw[aM.mp hi];simp[St.own]
 .unfold St.own;simp only[aW,bM,or_false] at hi ⊢;rcases hi with h|h <;> simp[h]
 .intro x hx;rcases bF.mp hx with hx|hx
  .exact C.sd.rok x hx
  .rw[aM.mp hx];exact tz
 .show (s.rs ++ [z]).length<=N+1;exact bH ▸ gY C.sd.lr
def Bme(C:Cx n N s S)(q:Fn n N s Q S){T:o9 W}:Wb aB5 [sr .ref[n],sr .ref[s.d],sr .ref[s.e],sr .int[s.sz],sr .ref[s.x],sr .ref[s.y],x6,T,x8,x9,x10,x11] S (Qd b' Adv[Q]):=by
 apply Aqf;symm;refine Bt (show 0<=big by decide) λo S11 c p w=>?_
 let z:s.e≠o:=by have:=C.sd.l';omega
 let A:o≠s.d:=by have:=C.sd.l';omega
 let o5t:o≠s.t:=by have:=C.sd.l';omega
 let C0:=C;let Y:=q
 replace C:=C.mv0 c
 let P:=C.sd.at_;unfold wlD at P;let l11:=Bk p
 symm;refine Nm P rfl (show 4 < big by decide) λS12 L H=>?_;symm;refine Nm H rfl (show 4 < big by decide) λS13 J j=>?_
 replace j:=j
 let f:=L.same J;let u:=C.put f;let B:=f.at1 p bN[z];let lf:=f.len;symm;refine Aq8 u.dk u.tab rfl λm v S15 I O lr G l15=>?_;symm;refine Bt (show 1<=big by decide) λo6 S17 l F l17=>?_
 apply Xf l.at0[G] F (ds:=[.none]) rfl (Kf Ama Rc);let g:=I.then0 l;let E:=C.sd.e';let X:=C.n';let Z:=C.sd.x';let xl:=C.sd.l'.2.2.2.2.1;let l6:=c.len;refine Aq9 C0 Y (s':={ s with rs:=[],b:=s.b+1,y:=o,r:=v }) Fr.same[Fr.same[c.mono λU h=>nomatch h][f.mono λi hi=>?_]][g.mono λi hi=>?_] (u.tp.mv g Aa2[X.1]) rfl rfl rfl rfl .inr[?_] .inl[rfl] .inr[w] ?_ ?_ (O.mv l () () ()) (g.at j Aa2[E.1]) (g.at u.tx Aa2[Z.1]) (g.at B Aa2[A]) C.sd.fit (λU h=>nomatch h) iJ[C.sd.lp] cP[_]
 .rw[aM.mp hi];simp[St.own]
 .rw[aM.mp hi];simp[St.own]
 .show S.length<=v;omega
 .show s.x≠v;omega
 .show o≠v;omega
end
section
variable{n N k m0:Nat}{s:St}{S:Store}{Q:W->Store->Prop}{x6 x8 x9 x10 x11:o9 W}{b':MS}{w:W}
def Fn.same(q:Fn n N s Q S)(C:Cx n N s S):Q .bl[t8] S:=q s S (aN _,λuw uw uw=>rfl) C.tp { C.sd with lp:=iJ C.sd.lp,lr:=iJ C.sd.lr } rfl rfl rfl (λuw h=>.inl h) λuw h=>.inl h
def Bmf(C:Cx n N s S)(q:Fn n N s Q S)(r:k<=s.ps.length)(g:Odd m0 s.sz S w):Wb aB0 [sr .ref[n],sr .ref[s.d],sr .ref[s.e],sr .int[s.sz],sr .ref[s.x],sr .ref[s.y],x6,sr .int[k],sr w,x9,x10,x11] S (Qd b' Adv[Q]):=by
 refine Hs Ln[Qz[?_]];refine Bbr C.sd.dk C.tab rfl λm t f j p=>?_;symm;refine Bt () λl z c i o=>?_
 apply Al9 c.at0[j] i rfl (Kf V8[by trivial] Rc)
 let b:=f.then0 c
 replace C:=C.mv0 b
 replace q:=q.mv0 b
 replace g:=g.mv b λu h=>nomatch h;symm;refine Awj C.sd.dk C.tab rfl r g λm t f j p=>?_;symm;refine Bt (show 3<=big by decide) λl v c i o=>?_
 exact Xf c.at0[j] i rfl (Kf V8[rfl] Kf[Bgu][Kf Bl9 Rc]) ((q.mv0 f.then0[c]).same C.mv0[f.then0[c]])
def Bmg(C:Cx n N s S)(q:Fn n N s Q S){X:o9 W}:Wb aA2 [sr .ref[n],sr .ref[s.d],sr .ref[s.e],sr .int[s.sz],sr .ref[s.x],sr .ref[s.y],x6,X,sr w,x9,x10,x11] S Adv[Q]:=by
 let hs:=C.sd.hs;let hx:=C.sd.tx;let ll:(txs s.sz s.ps).length=s.ps.length:=aJ _;refine Ef ?_;symm;refine Jg (a:=.int[-1]) (S':=S) rfl ?_;symm;refine Bt (show 1<=big by decide) λo1 S1 i r L=>?_;symm;refine Bt (show 8<=big by decide) λo2 S2 g l J=>?_;symm;let n1:=(C.tp.at0 i).lt;let E:=g.len;let n0:=C.tp.lt;refine Ca ((C.tp.at0 i).at0 g) () λa A u t3 a0 a1=>?_
 let P:=u.at1 l ()
 let T:=u.at1 g.at0[r] ()
 let lp:s.ps.length<=900:=aD C.sd.lp C.hN;obtain⟨o,e,F,Y⟩:∃o,atI [W.int[-1],.int[(txs s.sz s.ps).length+1],.bl t8,.non,.str "0",.ref o1,.int[10 ^ aEc 20],.bl t7] a=sr o/\Ahc s.ps.length A o/\o≠.ref n:=by
  let h8:a=0\/a=1\/a=2\/a=3\/a=4\/a=5\/a=6\/a=7:=by omega
  rcases h8 with rfl|rfl|rfl|rfl|rfl|rfl|rfl|rfl
  .exact(_,rfl,.lo (),())
  .exact(_,rfl,.hi (),())
  .exact(_,rfl,.no λB=>rfl,())
  .exact(_,rfl,.no λB=>rfl,())
  .exact(_,rfl,.no λB=>rfl,())
  .exact(_,rfl,.lst T,λz=>by injection z;omega)
  .exact(_,rfl,.hi[Int.lt_of_le_of_lt (show (s.ps.length:Int)<=900 by omega) ()],())
  .exact(_,rfl,.no λB=>rfl,())
 apply Fe P e;let j:Fr [n] S A:=(i.then0 g).of0.same u
 replace C:=C.mv j t3
 replace q:=q.mv j
 clear hx i g u j r l P L J e n1 E n0 T;symm;apply Eg;symm;refine(show 2<=big by decide,?_);symm;refine Ce (Mq (p:=.free 0) (Ab2 hs () ()) hs) λS4 t=>?_;symm;refine Bt (show 2<=big by decide) λo3 S5 H O l5=>?_;symm;let n4:=(C.tp.at0 t).lt;refine Ca ((C.tp.at0 t).at0 H) () λc U G Z c0 c1=>?_
 obtain⟨v,e⟩:∃v,atI [w,W.str[(Pg.free 0).text s.sz]] c=sr v:=by
  let l:c=0\/c=1:=by omega
  rcases l with rfl|rfl
  .exact(_,rfl)
  .exact(_,rfl)
 apply Fe (G.at1 O ()) e
 let f:Fr [n] A U:=(t.then0 H).of0.same G
 replace C:=C.mv f Z
 replace q:=q.mv f
 let F:Ahc s.ps.length U o:=by
  cases F with
  |no h=>exact .no h
  |lst h=>exact .lst (f.at1 h λz=>Y[by rw[z]])
  |lo h=>exact .lo h
  |hi h=>exact .hi h
 clear t H G O l5 e n4 f;symm;refine Bbp C.sd.dk C.tab rfl F λm S1 i r L=>?_;symm;refine Bt (show 1<=big by decide) λo2 A g l J=>?_
 apply Xf g.at0[r] l (ds:=[.str "number "]) rfl (Kf V8[rfl] Rc);exact(q.mv0 i.then0[g]).same C.mv0[i.then0[g]]
end
section
variable{n N:Nat}{s:St}{S:Store}{Q:W->Store->Prop}
def Bgy(C:Cx n N s S)(q:Fn n N s Q S):Wm Jr[[.ref n,.ref s.d,.ref s.e]] S Q:=by
 let i:=C.sd.at_;unfold wlD at i;let G:=C.sd.tx;let E:=C.n'.2.2.2.1;let B:=C.n'.2.2.2.2.1;let H:(txs s.sz s.ps).length=s.ps.length:=aJ _;refine Dw rfl Ef[?_]
 symm;refine Bgv Eg[?_];symm;refine(show 2<=big by decide,_,_,rfl,?_);symm;refine Ca C.tp () λa S1 y u Y X=>?_;symm;refine Ca u () λc S2 x j U T=>?_;symm;refine Bt (show 2<=big by decide) λo S3 m r lo=>?_;symm;let F:=j.lt;refine Ca j.at0[m] () λg J l I P O=>?_
 obtain⟨k,t,z⟩:∃k:Nat,k<=s.ps.length/\atI [W.int (txs s.sz s.ps).length,.int c] g=sr .int[k]:=by
  have:g=0\/g=1:=by omega
  rcases this with rfl|rfl
  .exact(s.ps.length,aN _,by rw[H];rfl)
  .exact(c.toNat,(),by rw[show ((c.toNat:Nat):Int)=c by omega];rfl)
 apply Fe (l.at1 r ()) z
 let h:Fr [n] S J:=((y.same x).then0 m).same l
 replace C:=C.mv h I
 replace q:=q.mv h
 clear i G E B y x m l h u j r lo F z;symm;refine Ht[λf=>Bmc C t q] λf=>Cj ?_;symm;refine Ht[λf=>Bmd C q] λf=>Cj ?_;symm;refine Ht[λf=>Bme C q] λf=>Cj ?_;symm;refine Bgp C.tp C.sd.hs λw Z v A i=>?_
 replace C:=C.mv v A
 replace q:=q.mv v;symm;refine Ht[λf=>Bmf C q t i] λf=>Cj ?_;exact Bmg C q
end
def mtb(n h:Nat)(s u:St):lg Nat:=n::h::(s.own ++ u.own)
def HOk(M:lg Nat)(S:Store)(w:W):Prop:=∃(a c:Nat)(zs:lg t6),w=.tup [.ref a,.ref c]/\S[a]?=sr .lst[zs.map[W.str]]/\S[c]?=sr .lst[zs.map[W.str]]/\(∀z∈zs,M2.Dp z=t8)/\a∉M/\c∉M
structure Wc(n h N B:Nat)(im:List Nat)(s u:St)(hs:List W)(S:Store):Prop where
 tp:Tp n S
 sd:Sd N s S
 su:Sd N u S
 at_:S[h]?=sr (.lst hs)
 lh:hs.length<=B
 ok:∀w∈hs,HOk (mtb n h s u) S w
 nd:(mtb n h s u).Nodup
 imo:∀i∈im ++ [s.x,s.y,u.x,u.y],i∉mtb n h s u
 il:∀i∈im,i < S.length
section
variable{n h N B m:Nat}{im L:lg Nat}{s u s':St}{hs:lg W}{S S' S1 S2:Store}
theorem Fr.fresh(f:D.Fr L S S1)(g:D.Fr [m] S1 S2)(b:S.length<=m):D.Fr L S S2:=(aD f.len g.len,λi hi a=>by
 rw[g.get[i][aQ hi f.len][by grind],f.get i hi a])
def Sd.up(H:Sd N s S):Sd (N+1) s S:={ H with lp:=iJ H.lp,lr:=iJ H.lr }
def HOk.mv{M j:lg Nat}{w:W}(o:HOk M S w)(f:D.Fr L S S')(b:∀i∈L,i∈M)(y:∀i∈j,i∈M\/S.length<=i):HOk j S' w:=by
 let(a,c,l,e,g,d,r,q,p):=o;let x:=Bk g;let v:=Bk d;refine(a,c,l,e,f.at g λz=>q[b _ z],f.at d λz=>p[b _ z],r,λz=>?_,λz=>?_)
 .grind
 grind
def Amb:∀i,i∈mtb n h s u ↔ i∈mtb n h u s:=(λi=>by unfold mtb;simp[bF];exact(λz=>z.imp id (.imp id Or.symm),λz=>z.imp id (.imp id Or.symm)))
def Wc.swap(W:Wc n h N B im s u hs S):Wc n h N B im u s hs S:=by
 refine(W.tp,W.su,W.sd,W.at_,W.lh,λw f=>?_,(aDe .cons[_][.cons _ List.perm_append_comm]).mp W.nd,λi hi z=>W.imo i ?_ ((Amb i).mpr z),W.il)
 .let(a,c,d,e,o,l,k,j,g):=W.ok w f;exact(a,c,d,e,o,l,k,λz=>j[(Amb a).mpr z],λz=>g[(Amb c).mpr z])
 .simp only[bF,aW,bM,or_false] at hi ⊢
  rcases hi with z|z|z|z|z
  .exact .inl z
  .exact .inr .inr[.inr[.inl[z]]]
  .exact .inr .inr[.inr[.inr[z]]]
  .exact .inr .inl[z]
  .exact .inr .inr[.inl[z]]
def Wc.lt(W:Wc n h N B im s u hs S):∀i∈mtb n h s u,i < S.length:=(λi hi=>by
 unfold mtb at hi;simp[bF] at hi;rcases hi with z|z|z|z
 .exact z ▸ W.tp.lt
 .exact z ▸ Bk W.at_
 .exact W.sd.lt i (by revert z;unfold St.own St.keep;grind)
 .exact W.su.lt i (by revert z;unfold St.own St.keep;grind))
def Iw{i:Nat}(z:i∈s.own):i∈s.keep:=by revert z;unfold St.own St.keep;grind
def Ao4{i:Nat}(z:i∈s.keep):i∈s.own\/i=s.x\/i=s.y:=by revert z;unfold St.own St.keep;grind
def Wc.keep_n(W:Wc n h N B im s u hs S):∀i∈s.keep,i≠n/\i≠h/\i∉u.own:=(λi hi=>by
 let nd:=W.nd;unfold mtb at nd;rw[dU,dU,iG] at nd;let(c,b,f,d,a):=nd;rcases Ao4 hi with z|z
 .refine(λe=>c ?_,λe=>b ?_,λe=>a i z i e rfl)
  .rw[<-e];exact aR _ (cB _ z)
  .rw[<-e];exact cB _ z
 .let q:=W.imo i (by rcases z with z|z <;> simp[z])
  unfold mtb at q;simp only[aW,bF,not_or] at q;exact(q.1,q.2.1,q.2.2.2))
def Wc.done{Q:W->Store->Prop}(W:Wc n h N B im s u hs S)(hN:N<=900)(i0:0∈im)(tab:S[0]?=sr .tab[l_0.qual])(q:∀s' S',Wc n h (N+1) B im s' u hs S'->s'.d=s.d->s'.e=s.e->s'.sz=s.sz->(∀i∈im,S'[i]?=S[i]?)->Q .bl[t8] S'):Wm Jr[[.ref n,.ref s.d,.ref s.e]] S Q:=by
 let K:=W.keep_n;let M:=W.imo;let g:=M 0 (cB _ i0);let C:∀i∈n::s.own,i∈mtb n h s u:=λi hi=>by
  unfold mtb;rcases aW.mp hi with z|z
  .rw[z];exact aX
  .exact aR _ aR[_][cB _ z]
 let a:∀i G,S[i]?=sr .lst[G]->0≠i:=λi G e z=>by rw[<-z,tab] at e;cases e
 refine Bgy (W.tp,tab,W.sd,λz=>(K n z).1 rfl,λz=>g ?_,λz=>?_,hN) λs' S' f t d e1 e2 e3 k Y=>?_
 .rw[<-z];exact aX
 .rcases Ao4 z with z|z|z
  .exact g C[0][aR _ z]
  .exact a _ _ W.sd.tx z
  .exact a _ _ W.sd.ro z
 .let hM:∀i∈mtb n h s' u,i∈mtb n h s u\/S.length<=i:=λi hi=>by
   unfold mtb at hi ⊢
   simp only[aW,bF] at hi ⊢
   rcases hi with z|z|z|z
   .exact .inl .inl[z]
   .exact .inl .inr[.inl[z]]
   .exact(k i z).imp (λz=>.inr .inr[.inl[z]]) id
   .exact .inl .inr[.inr[.inr[z]]]
  let nd:=W.nd;let U:=W.swap.keep_n;let lt:=W.lt;let H:n∈mtb n h s u:=aX;let I:h∈mtb n h s u:=aR _ aX;let F:∀i∈u.own,i∈mtb n h s u:=λi z=>aR _ aR[_][bV _ z];let b:=nd;unfold mtb at b;rw[dU,dU,iG] at b;let(p,A,a3,a4,a5):=b;let v:h∉n::s.own:=λz=>by
   rcases aW.mp z with z|z
   .exact p[z ▸ aX]
   .exact A[cB _ z]
  refine q s' S' (t,d,(W.su.mv f λi hi z=>?_).up,f.at W.at_ v,W.lh,λw hw=>(W.ok w hw).mv f C hM,?_,λi hi z=>?_,λi hi=>aQ (W.il i hi) f.len) e2 e3 e1 λi hi=>f.get i (W.il i hi) λz=>M[i][cB _ hi][C i z]
  .rcases aW.mp z with z|z
   .exact(U i hi).1 z
   .exact(U i hi).2.2 z
  .unfold mtb;rw[dU,dU,iG];let P:∀i∈s'.own,i∉u.own:=λi hi z=>by
    rcases k i hi with y|y
    .exact a5 i y i z rfl
    .have:=lt i (F i z);omega
   let O:h∉s'.own:=λz=>by
    rcases k h z with y|y
    .exact A[cB _ y]
    .have:=lt h I;omega
   let J:n∉s'.own:=λz=>by
    rcases k n z with y|y
    .exact p aR[_][cB _ y]
    .have:=lt n H;omega
   refine(λz=>?_,λz=>?_,?_,a4,λi hi j hj e=>P i hi (e ▸ hj))
   .rcases aW.mp z with z|z
    .exact p[z ▸ aX]
    .rcases bF.mp z with z|z
     .exact J z
     .exact p aR[_][bV _ z]
   .rcases bF.mp z with z|z
    .exact O z
    .exact A[bV _ z]
   .let E:=d.e';let T:=d.dk;unfold St.own;simp only[dU,aW,bM,or_false,not_or,not_false_eq_true,uT,and_true];exact((T.dt,T.dr,bN E.1),(T.tr,bN E.2.1),bN E.2.2.1)
  .let c:∀i,i < S.length->i∉mtb n h s u->i∉mtb n h s' u:=λi l y z=>by grind
   rw[bF] at hi;rcases hi with y|y
   .exact c i (W.il i y) M[i][cB _ y] z
   .simp only[aW,bM,or_false] at y;let X:=W.sd.l';let o:=W.su.l';let r:(i=s.x\/i=s.y\/i=u.x\/i=u.y)->False:=λy=>c i (by rcases y with y|y|y|y <;> omega) (M i (by rcases y with y|y|y|y <;> simp[y])) z
    let new:(i=s'.x\/i=s'.y)->False:=λy=>by
     rcases Y i y with x|x
     .exact r (by rcases x with x|x <;> simp[x])
     .let E:=d.e';let X:=d.x';let o:=d.y';let Z:i∉s'.own:=by
       unfold St.own;rcases y with y|y
       .rw[y];simp[X.1,X.2.1,X.2.2,bN E.2.2.2.1]
       .rw[y];simp[o.1,o.2.1,o.2.2,bN E.2.2.2.2]
      unfold mtb at z;simp only[aW,bF] at z;rcases z with z|z|z|z
      .have:=lt n H;omega
      .have:=lt h I;omega
      .exact Z z
      .have:=lt i (F i z);omega
    rcases y with y|y|y|y
    .exact new .inl[y]
    .exact new .inr[y]
    .exact r[by simp[y]]
    .exact r[by simp[y]]
end
section
variable{n h N B m a c:Nat}{im L:lg Nat}{s u:St}{hs ws us:lg W}{S S':Store}{zs:lg t6}{Q:W->Store->Prop}{Y:De}{ds:lg lD}
def Amc{gs:De->M lg[W]}{t:Tg}{b i:MS}{K:RS->Prop}(h:Wm gs[Y] S λws f=>∃k:Nat,ws=[.int (k:Int)]/\k<=big/\∀j,Fr [] f j->Wb Sh[t][b][(fO k).map λ(k:Nat)=>W.int[(0:Int)+(k:Int)]] Y j (Qd i K)):Wb (Ai Sq[Rr Kh gs][t][b] i) Y S K:=by
 let(ws,f,q,k,rfl,o,p):=h;let(G,e):=Qy (P:=SP.any) (gs:=λr=>_) (Y:=Y) Pu.pure o f trivial
 unfold Rr at e;rw[Cw] at e;refine Jf ⟨Hy (.fix _,f ++ G,?_,(p _ .app).un)⟩;unfold Rr
 rwa [Cw,q]
def V9{t u:De->M Bool}{Q:Bool->Store->Prop}(h:Wm t[Y] S λp S1=>Wm (if p=t8 then u Y else pure t7) S1 Q):Wm (Aku t u Y) S Q:=Az h
def Ao5{f g:De->M W}(h:Wm f[Y] S λx b=>x=.bl t8/\Wm g[Y] b Q):Wm (Il f g Y) S Q:=(Az (Bd h λx b ⟨e,q⟩=>by subst e;exact q))
theorem Wc.mv0(V:Wc n h N B im s u hs S)(f:Fr [] S S'):Wc n h N B im s u hs S':=(V.tp.at0 f,V.sd.mv f (λb b z=>nomatch z),V.su.mv f (λb b z=>nomatch z),f.at0 V.at_,V.lh,λw d=>(V.ok w d).mv f (λb z=>nomatch z) λb z=>.inl z,V.nd,V.imo,λi hi=>aQ (V.il i hi) f.len)
def Wc.h'(V:Wc n h N B im s u hs S):n≠h/\h∉s.keep/\h∉u.keep:=by
 let nd:=V.nd;unfold mtb at nd;rw[dU] at nd;exact(λz=>nd.1[z ▸ aX],λz=>(V.keep_n h z).2.1 rfl,λz=>(V.swap.keep_n h z).2.1 rfl)
def Wc.grow(V:Wc n h N B im s u hs S)(f:Fr [h] S S')(d:S'[h]?=sr .lst[hs ++ [.tup [.ref a,.ref c]]])(g:S'[a]?=sr .lst[zs.map[W.str]])(e:S'[c]?=sr .lst[zs.map[W.str]])(b:∀z∈zs,M2.Dp z=t8)(q:S.length<=a)(p:S.length<=c):Wc n h N (B+1) im s u (hs ++ [.tup [.ref a,.ref c]]) S':=by
 let(l,k,j):=V.h';let lt:=V.lt;refine(V.tp.mv f Aa2[l],V.sd.mv f λi hi z=>k[aM.mp z ▸ hi],V.su.mv f λi hi z=>j[aM.mp z ▸ hi],d,bH ▸ gY V.lh,λw hw=>?_,V.nd,V.imo,λi hi=>aQ (V.il i hi) f.len);rcases bF.mp hw with hw|hw
 .exact(V.ok w hw).mv f (λi hi=>(aM.mp hi) ▸ aR _ aX) λo z=>.inl z
 .exact(a,c,zs,aM.mp hw,g,e,b,λz=>by have:=lt a z;omega,λz=>by have:=lt c z;omega)
def Bbt(b:S[a]?=sr .lst[ws])(e:S[c]?=sr .lst[ws])(hd:Dq (Fg S 15) ws=sr ds)(d:∀x∈ds,lay 4 x)(q:Q .bl[t8] S):Wm V5[[.ref a,.ref c]] S Q:=by
 refine Dw rfl Dv[Ao5[Fd[Bh[Cv rfl Bh[Nb[Cm[?_]]]]]]];refine Jg ?_ (rfl,Qz[Cv rfl Cv[rfl][Xf b e hd d q]]);unfold Hd asX tkG Au4 tyW;dsimp only;rw[b];rfl
def Ahe{d t e o k w:o9 W}{K:RS->Prop}(V:Wc n h N B im s u hs S)(G:B<=10000)(y:S[a]?=sr .lst[zs.map[W.str]])(X:m<=a){S0:Store}(hm:m=S0.length)(O:Fr [] S0 S)(g:Wc n h N B im s u hs S0)(F:∀z∈zs,M2.Dp z=t8)(v:zs.length<=1000)(q:∀i S' f,Wc n h N (B+1) im s u i S'->Fr [h] S0 S'->f=[d,t,e,o,k,sr .ref[h],w,f.getD 7 sy,f.getD 8 sy]->K[.nx f S']){E:o9 W}:
  Wb aA6 [d,t,e,o,k,sr .ref[h],w,E,sr .ref[a]] S K:=by
 let hn:=Bk g.at_;refine X8 ?_;symm;refine(_,_,rfl,y,?_);symm;refine Vx y (by rw[aJ];exact jL v ()) λU J j=>?_
 let P:zs.map W.str ++ [W.str "more"]=(zs ++ [("more":t6)]).map W.str:=by rw[dG];rfl
 rw[P] at j;let l:Fr [] S0 U:=K7.Fr.fresh O J ()
 let x:=l.at0 g.at_;symm;refine(_,_,rfl,x,?_);symm;refine Eg ?_;symm;refine Alf j (by rw[aJ,bH];exact aD gY[v] ()) λc S2 r I Z=>?_;symm;refine(show 2<=big by decide,?_);symm;refine Vx[r.at0 x][jL (aD g.lh G) ()] λC p H=>?_;symm;let l1:=l.len;let A:Fr [h] S0 C:=(l.then0 r).of0.same p;refine q _ C _ (g.grow A H (p.at1 r.at0[j] ()) (p.at1 I ()) (λz hz=>?_) () ()) A rfl
 rcases bF.mp hz with hz|hz
 .exact F z hz
 .rw[aM.mp hz];decide +kernel
end
section
variable{n h N B m a c:Nat}{im L:lg Nat}{s u:St}{hs ws us:lg W}{S S':Store}{zs:lg t6}{Q:W->Store->Prop}{Y:De}{ds:lg lD}
def Wc.up(V:Wc n h N B im s u hs S):Wc n h N (B+1) im s u hs S:={ V with lh:=iJ V.lh }
def Bgz{sz:Int}{ps:lg Pg}:txs sz ps=(ps.map λp=>p.text sz).map W.str:=by rw[dO];rfl
def Bmh{sz:Int}(hs:Siz sz){ps:lg Pg}(h:∀p∈ps,Fits sz p):∀z∈ps.map[λp=>p.text sz],M2.Dp z=t8:=(λz d=>by
 let(p,hp,rfl):=dZ.mp d;exact(Al5 (h p hp) hs).tx)
def Awk{i j:Int}{K:RS->Prop}{O J:o9 W}(V:Wc n h N B im s u hs S)(G:B<=10000)(hN:N<=900)(q:∀k S' I H,Wc n h N (B+1) im s u k S'->Fr [h] S S'->K[.nx [sr .ref[s.d],sr .ref[s.x],sr .ref[s.y],sr .int[s.b],sr .int[j],sr .ref[h],sr .int[i],I,H] S']):
  Wb (Ai (Bx 7 Ax[.mod][Ax .add Aa[4] Aa[6]][kI[3]])
  (Ai (ifS Aku[tQ .Eq Aa[7] kI[2]][orT tQ[.NotEq][Bv (λc n=>Cz.lookup[u6 c n]) "writes" Aa[0] nilF][Aa[3]] Do[zB[Hd isa][Bv (λc n=>Cz.lookup[u6 c n]) "writes" Aa[0] nilF][kF .ty["bool"]]]] rQ[kB[t7]] An)
  (Ai (ifS Aku[tQ .Eq Aa[7] kI[2]][tQ .IsNot (Bv (λc n=>Cz.lookup[u6 c n]) "is_off" Aa[0] nilF) kB[t7]] rQ[kB[t7]] An)
  (Ai (ifS (tQ .Lt Aa[7] kI[2]) (Ai (Bx 8 Afa[tQ .Eq Aa[7] kI[0]][Bv (λc n=>Cz.lookup[u6 c n]) "pages" Aa[0] nilF][Bv (λc n=>Cz.lookup[u6 c n]) "rows" Aa[0] nilF])
   aB7) An)
  An)))) [sr .ref[s.d],sr .ref[s.x],sr .ref[s.y],sr .int[s.b],sr .int[j],sr .ref[h],sr .int[i],O,J] S K:=by
 let lp:s.ps.length<=1000:=aD V.sd.lp (aD hN ())
 let lr:s.rs.length<=1000:=aD V.sd.lr (aD hN ())
 let hd:=V.sd.dk.at_;unfold Ahw at hd;apply Ef
 symm;obtain⟨w,X,P⟩:∃w,(j+i) % 3=w/\(w=0\/w=1\/w=2):=(_,rfl,())
 rw[X];rcases P with rfl|rfl|rfl
 .apply V9
  symm;refine Tt[λz=>absurd z ()] λg=>Df Tr[Cj[?_]]
  refine Hs V9[?_];symm;refine Tt[λz=>absurd z ()] λg=>Df Tr[Cj[?_]];symm;refine Ht[λg=>?_] λz=>absurd () z;symm;refine Tt[λg=>?_] λz=>absurd rfl z;symm;refine Bbi V.sd.dk lp λo S1 r v A=>?_;symm;refine Bt (show 2<=big by decide) λT S2 l C U=>?_;symm;apply Fe C rfl;symm;apply Bbt[l.at0 v][l.at0 r.at0[V.sd.tx]][Bh3 _][Bh4 λp hp=>(V.sd.fit p hp).1];symm;refine Tr Cj[?_];let t:=l.at0 v;rw[Bgz] at t;refine Ahe (m:=S.length) (S0:=S) V.mv0[r.then0[l]] G t A rfl r.then0[l] V (Bmh V.sd.hs V.sd.fit) (by simp_all) λk S' Z F E e=>?_
  rw[e];exact Lb[q k S' _ _ F E]
 .apply V9
  symm;refine Tt[λz=>absurd z ()] λg=>Df Tr[Cj[?_]]
  refine Hs V9[?_];symm;refine Tt[λz=>absurd z ()] λg=>Df Tr[Cj[?_]];symm;refine Ht[λg=>?_] λz=>absurd () z;symm;refine Tt[λz=>absurd z ()] λg=>?_;symm;refine Bgs V.sd.dk lr λo S1 r v A=>?_;symm;refine Bt (show 2<=big by decide) λT S2 l C U=>?_;symm;apply Fe C rfl;symm;apply Bbt l.at0[v] l.at0[r.at0[V.sd.ro]] Bbm[_] Bbn[V.sd.rok];symm;refine Tr Cj[?_];refine Ahe (m:=S.length) (S0:=S) V.mv0[r.then0[l]] G l.at0[v] A rfl r.then0[l] V V.sd.rok lr λk S' Z F E e=>?_;rw[e];exact Lb[q k S' _ _ F E]
 .apply V9
  symm;refine Tt[λg=>Bfb ?_] λz=>absurd rfl z;symm;apply Ajz V.sd.dk;symm;refine((),?_);symm;apply Ajz V.sd.dk;symm;refine Jg (a:=.bl t7) (S':=S) rfl ?_;symm;apply V9;symm;refine Tt[λg=>?_] λz=>absurd rfl z;symm;apply Bl6 V.sd.dk;symm;refine Tr Cj[?_];symm;refine Ht[λz=>absurd z ()] λg=>Cj Lb[q hs S _ _ V.up (aN _,λg g g=>rfl)]
theorem Bmi{a c:Nat}{w:W}{ws:lg W}{d:lD}{ds:lg lD}(o:S[a]?=sr[.lst (w::ws)])(i:S[c]?=sr .lst[[]])(hd:Dq (Fg S 15) (w::ws)=sr (d::ds))(g:∀x∈d::ds,lay 4 x)(q:Q .bl[t8] S):Wm (Fo .NotEq .ref[a] .ref[c]) S Q:=(_,S,by
 let l:=Ats g;let f:lQ[.list (d::ds)]=t8:=by
  unfold lQ;rw[l.1,dj[aD l.2 ()]]
  rfl
 let e:Fg S 16 .ref[a]=sr[.list (d::ds)]:=by
  show (match S[a]? with|some (.lst ws)=>_|some (.dct [])=>_|_=>_)=_
  simp_all
 let j:Fg S 16 .ref[c]=sr .list[[]]:=by
  show (match S[c]? with|some (.lst ws)=>_|some (.dct [])=>_|_=>_)=_
  rw[i];rfl
 show eqD t8 .ref[a] .ref[c] S=_;unfold eqD;rw[e,j];dsimp only;rw[f];rfl,q)
def Bg0{j:Int}(V:Wc n h N B im s u hs S)(hB:B<=9000)(hN:N<=900)(q:∀f S',Wc n h N (B+3) im s u f S'->Fr [h] S S'->Q .bl[t8] S'):Wm Jt[[.ref s.d,.ref s.x,.ref s.y,.int s.b,.int j,.ref h]] S Q:=by
 refine Dw rfl Amc[?_];symm;refine(3,rfl,(),λS1 Z=>?_)
 refine Ala (J:=λi Y T=>(∃G F E,Y=[sr .ref[s.d],sr .ref[s.x],sr .ref[s.y],sr .int[s.b],sr .int[j],sr .ref[h],G,F,E])/\∃f,Wc n h N (B+i) im s u f T/\Fr [h] S T) ?_ ?_ ((_,_,_,rfl),hs,V.mv0 Z,Z.of0)
 .rintro i w Y T I ⟨⟨G,F,E,rfl⟩,f,g,v⟩;let U:=(aK.mp I).1;rw[aJ,cG] at U;rw[bK,nJ U] at I;cases I;refine(_,rfl,?_);exact Awk g () hN λO C y7 y8 A l=>((_,_,_,rfl),O,A,v.same l)
 .rintro Y T ⟨⟨G,F,E,rfl⟩,f,g,v⟩
  replace g:Wc n h N (B+3) im s u f T:=g
  let hd:=g.sd.dk.at_;unfold Ahw at hd;refine Dv ?_
  symm;refine Bt (show 0<=big by decide) λo C l X l2=>?_
  let r:=l.at0 g.sd.tx;let hd2:=l.at0 hd;let A:=g.mv0 l;let F2:=v.then0 l;let H:=Bh3 (S:=C) (sz:=s.sz) s.ps;let tl:=Bh4 (sz:=s.sz) λp hp=>(g.sd.fit p hp).1;let t:=g.sd.fit;let hs:=g.sd.hs;clear g v l;cases P:s.ps with
  |nil=>
   rw[P] at r H tl;refine Al9 (ds:=[]) r X rfl (λuw z=>nomatch z) ?_
   symm;exact q f C A F2
  |cons p ps=>
   rw[P] at r H tl;refine Bmi r X H tl ?_
   symm;refine Fe r (w:=.str p.text[s.sz]) ((Al3 (k:=0) (by unfold txs;rw[aJ];exact Nat.succ_pos _)).trans rfl) ?_;symm;let lt:=Ju t[p][P ▸ aX] hs;have:=hs.1;have:=hs.2;refine Ale (lt ▸ aD (show s.sz.toNat<=200 by omega) ()) ?_
   refine Aqh ?_;rw[dj ()]
   exact q f C A F2
end
section
variable{n h N B lw ld:Nat}{im L:lg Nat}{s u s' u':St}{hs ws us es ds:lg W}{S S':Store}{Q:W->Store->Prop}{Y:De}{j:Int}
def Wc.nh(V:Wc n h N B im s u hs S):∀i∈im,i≠n/\i≠h:=(λi hi=>by
 let z:=V.imo i (cB _ hi);exact(λe=>z[e ▸ aX],λe=>z[e ▸ aR _ aX]))
def Wc.draw(V:Wc n h N B im s u hs S)(f:Fr [n] S S')(t:Tp n S'):Wc n h N B im s u hs S':=(
 (t,V.sd.mv f (λi hi z=>(V.keep_n i hi).1 aM.mp[z]),V.su.mv f (λi hi z=>(V.swap.keep_n i hi).1 aM.mp[z]),f.at1 V.at_ V.h'.1.symm,V.lh,λw a=>(V.ok w a).mv f (λi hi=>(aM.mp hi) ▸ aX) λb z=>.inl z,V.nd,V.imo,λi hi=>aQ (V.il i hi) f.len))
def Ao6{l k g f p:o9 W}{K:RS->Prop}(V:Wc n h N B im s u hs S)(w:B<=9000)(hN:N<=900)(v:S[lw]?=sr .lst[es])(t:S[ld]?=sr .lst[ds])(z:atI es j=sr .ref[s.e])(y:atI ds j=sr .ref[s.d])(q:∀b S' o,Wc n h N (B+3) im s u b S'->Fr [n,h] S S'->K[.nx [l,sr .ref[n],k,sr .ref[lw],sr .ref[ld],sr .ref[h],g,f,sr .int[j],o] S']):
  Wb aA8 [l,sr .ref[n],k,sr .ref[lw],sr .ref[ld],sr .ref[h],g,f,sr .int[j],p] S K:=by
 let E:=V.sd.at_;symm;apply Fe v z;symm;apply Fe t y;symm;refine Ca V.tp () λc H m r G F=>?_;symm;refine Bg0 (V.draw m r) w hN λb C A x=>?_;symm;exact Tr Cj[Lb[q b C _ A ((m.mono λi hi=>by rw[aM.mp hi];simp).same (x.mono λi hi=>by rw[aM.mp hi];simp))]]
def Lw(n h lw ld N B:Nat)(S:Store):Prop:=∃s0 s1 hs,Wc n h N B [0,lw,ld] s0 s1 hs S/\S[0]?=sr .tab[l_0.qual]/\S[lw]?=sr .lst[[.ref s0.e,.ref s1.e]]/\S[ld]?=sr .lst[[.ref s0.d,.ref s1.d]]
structure Pk(n h lw ld N B:Nat)(k:Int)(s u:St)(hs:List W)(S:Store):Prop where
 wc:Wc n h N B [0,lw,ld] s u hs S
 tab:S[0]?=sr (.tab l_0.qual)
 ls:∃es ds,S[lw]?=sr (.lst es)/\S[ld]?=sr (.lst ds)/\atI es k=sr (.ref s.e)/\atI es (1 - k)=sr (.ref u.e)/\atI ds k=sr (.ref s.d)/\atI ds (1 - k)=sr (.ref u.d)
 bk:∀N' B' s' hs' S',Wc n h N' B' [0,lw,ld] s' u hs' S'->s'.d=s.d->s'.e=s.e->(∀i∈[0,lw,ld],S'[i]?=S[i]?)->Lw n h lw ld N' B' S'
def Lw.pick{k:Int}(H:Lw n h lw ld N B S)(m:k=0\/k=1):∃s u hs,Pk n h lw ld N B k s u hs S:=by
 let(e,d,hs,V,t,c,b):=H;rcases m with rfl|rfl
 .exact(e,d,hs,V,t,(_,_,c,b,rfl,rfl,rfl,rfl),λo q s' a S' l i f g=>(s',d,a,l,(g 0 ()).trans t,f ▸ (g lw ()).trans c,i ▸ (g ld ()).trans b))
 .exact(d,e,hs,V.swap,t,(_,_,c,b,rfl,rfl,rfl,rfl),λo q s' a S' l i f g=>(e,s',a,l.swap,(g 0 ()).trans t,f ▸ (g lw ()).trans c,i ▸ (g ld ()).trans b))
def Wc.im2(V:Wc n h N B im s u hs S)(f:Fr [n,h] S S'):∀i∈im,S'[i]?=S[i]?:=λi hi=>f.get[i][V.il i hi][Ahd (V.nh i hi).1 (V.nh i hi).2]
end
section
variable{n h N B lw ld:Nat}{s u:St}{hs ws us es ds:lg W}{S S':Store}{Q:W->Store->Prop}{Y:De}{j:Int}
def Bbu{F E x6 C x8 x9:o9 W}{K:RS->Prop}(H:Lw n h lw ld N B S)(hN:N<=800)(hB:B<=8000)(q:∀S' y6 v e,Lw n h lw ld (N+1) (B+6) S'->K[.nx [F,sr .ref[n],E,sr .ref[lw],sr .ref[ld],sr .ref[h],y6,C,v,e] S']):
  Wb aA0 [F,sr .ref[n],E,sr .ref[lw],sr .ref[ld],sr .ref[h],x6,C,x8,x9] S K:=by
 apply Ef;symm;refine Ca (show Tp n S by let(_,_,_,V,_):=H;exact V.tp) () λc S1 y X c0 c1=>?_;symm;obtain⟨k,ek,hk⟩:∃k:Int,c / 2=k/\(k=0\/k=1):=(_,rfl,())
 rw[ek]
 replace H:Lw n h lw ld N B S1:=by
  let(s0,s1,hs,V,t,h1,h2):=H;let z:=V.nh;exact(s0,s1,hs,V.draw y X,y.at1 t (z 0 ()).1,y.at1 h1 (z lw ()).1,y.at1 h2 (z ld ()).1)
 clear y X;let(s,u,hs,P):=H.pick hk;let(es,ds,l,f,O,a2,L,a4):=P.ls;symm;apply Fe f L;symm;apply Fe l O;symm;refine P.wc.done () () P.tab λZ S2 A ed ee ez I=>?_
 let bk:=λB' b S' p g=>P.bk (N+1) B' Z b S' p ed ee g;let l:=(I lw ()).trans l
 let f:=(I ld ()).trans f
 rw[<-ee] at O;rw[<-ed] at L
 symm;refine Tr Cj[?_];apply As7;symm;refine Bt (show 2<=big by decide) λo S3 d h3 l3=>(_,_,rfl,h3,?_)
 let on:n≠o:=by have:=A.tp.lt;omega
 let oh:h≠o:=by have:=Bk A.at_;omega
 refine Aaa (ws:=[.int k,.int[1 - k]]) (J:=λi Y T=>(∃v e,Y=[F,sr .ref[n],E,sr .ref[lw],sr .ref[ld],sr .ref[h],sr .int[k],C,v,e])/\∃b,Wc n h (N+1) (B+3 * i) [0,lw,ld] Z u b T/\Fr [n,h] S2 T/\T[o]?=sr .lst[[.int k,.int[1 - k]]]) ?_ ?_ ?_ _ _ _ _ ((_,_,rfl),hs,A.mv0 d,d.mono[λuw z=>nomatch z],h3) cP[_] ()
 .rintro i Y T ⟨_,b,p,r,x⟩;unfold liG;rw[x]
 .rintro i w Y T G ⟨⟨v,e,rfl⟩,b,p,r,x⟩;let g:=A.im2 r;let l:=(g lw ()).trans l
  let f:=(g ld ()).trans f
  let i2:i=0\/i=1:=by have:=(aK.mp G).1;simp at this;omega
  rcases i2 with rfl|rfl
  .cases G;refine(_,rfl,Ao6 p () () l f O L λm T2 e U d=>((_,_,rfl),m,U,r.same d,d.at x (Ahd bN[on] bN[oh])))
  .cases G;refine(_,rfl,Ao6 p.swap () () l f a2 a4 λm T2 e U d=>((_,_,rfl),m,U.swap,r.same d,d.at x (Ahd bN[on] bN[oh])))
 .rintro Y T ⟨⟨v,e,rfl⟩,b,p,r,x⟩;exact Lb[q T _ _ _ (bk _ b T p λi hi=>(A.im2 r i hi).trans (I i hi))]
end
section
variable{n h N B lw ld:Nat}{s u:St}{hs ws us es ds:lg W}{S S':Store}{Q:W->Store->Prop}{Y:De}{j:Int}
def Bg1{G E C A x v:o9 W}(H:Lw n h lw ld N B S)(hB:B<=9000):
  Wb aA3 [G,sr .ref[n],E,sr .ref[lw],sr .ref[ld],sr .ref[h],C,A,x,v] S (Adv λw I=>w=.bl t8):=by
 let(s0,Z,hs,V,t,k,g):=H;let hd:=V.sd.dk.at_;unfold Ahw at hd;let e:=V.sd.at_;unfold wlD at e;refine Dv Ao5[Qz[?_]];refine Azs (P:=SP.any.at h hs) Be3[λS h=>h.2][Ag rfl] (trivial,V.at_) V.at_ λU q=>?_;let r:=V.mv0 q;refine Abp (ws:=hs) (J:=λi Y d T=>(∃y z,Y=[y,z])/\d=[]/\T=U) ?_ ?_ ?_ _ _ _ _ _ ((sy,sy,rfl),rfl,rfl) cP[_] ()
 .rintro i Y d T ⟨_,_,rfl⟩;unfold liG;rw[r.at_]
 .rintro i w Y d T e ⟨⟨y,z,rfl⟩,rfl,rfl⟩;let(a,c,X,rfl,f,O,L,h6,h7):=r.ok w dX[e];refine([sr .ref[a],sr .ref[c]],rfl,Ln Qz[Cv[rfl][Cv rfl ?_]]);refine Al9 f O Bbm[_] Bbn[L] tb[?_];rw[dm ()]
  exact((_,_,rfl),rfl,rfl)
 .rintro Y d T ⟨_,rfl,rfl⟩;refine(cP _,?_);let p:Fr [] T (T ++ [.lst []]):=.app;let l:(T ++ [Cell.lst []])[T.length]?=sr .lst[[]]:=Je;generalize T ++ [Cell.lst []]=S2 at p l
  symm;refine Bt (show 0<=big by decide) λo S3 m f l3=>?_
  refine Xf m.at0[l] f (ds:=[]) rfl (λI z=>nomatch z) (rfl,?_);let F:=(q.then0 p).then0 m;let k:=F.at0 k;let g:=F.at0 g;let hd:=F.at0 hd;let e:=F.at0 e;refine Qz ?_;symm;apply Fe g rfl;symm;apply Fe k rfl;symm;rw[dj rfl];rfl
def Awl{p o x v r q:o9 W}(H:Lw n h lw ld 0 0 S):
  Wb aC1 [p,sr .ref[n],o,sr .ref[lw],sr .ref[ld],sr .ref[h],x,v,r,q] S (Adv λw uw=>w=.bl t8):=by
 apply Amc;symm;refine Ca (show Tp n S by let(_,_,_,V,_):=H;exact V.tp) () λc S1 d y c0 c1=>?_;symm;obtain⟨c,rfl⟩:∃m:Nat,c=m:=(c.toNat,())
 refine(4+c,by rfl,aD (show 4+c<=30 by omega) (),λL b=>?_)
 let P:Lw n h lw ld 0 0 L:=by
  let(C,A,hs,V,t,I,G):=H;let z:=V.nh;exact(C,A,hs,(V.draw d y).mv0 b,b.at0[d.at1 t (z 0 ()).1],b.at0[d.at1 I (z lw ()).1],b.at0[d.at1 G (z ld ()).1])
 refine Ala (J:=λi Y T=>(∃l k g f,Y=[p,sr .ref[n],o,sr .ref[lw],sr .ref[ld],sr .ref[h],l,k,g,f])/\Lw n h lw ld i (6 * i) T) ?_ ?_ ((_,_,_,_,rfl),P)
 .rintro i w Y T F ⟨⟨l,k,g,f,rfl⟩,e⟩;let E:=(aK.mp F).1;rw[aJ,cG] at E;refine(_,rfl,?_);exact Bbu e () () λS' z6 Z X U=>((_,_,_,_,rfl),U)
 .rintro Y T ⟨⟨l,k,g,f,rfl⟩,e⟩;rw[aJ,cG] at e;exact Bg1 e ()
end
section
variable{n h N B lw ld:Nat}{s u:St}{hs ws us es ds:lg W}{S S':Store}{Q:W->Store->Prop}{Y:De}{w:W}{sz:Int}
def Bg2{ns:lg Int}(q:∀S',Fr [] S S'->Tp S.length S'->S'.length=S.length+1->Q .ref[S.length] S'):Wm Tw[[.scr ns]] S Q:=by
 refine Dw rfl (Dv (_,_,?_,q _ .app (ns,0,7,(),(),Je) ()))
 rfl
def Bg3{l:lg[(De->M W)×(De->M W)]}(h:Wm (Jz l Y) S λkvs S1=>Wm Afi[Sw [] kvs] S1 Q):Wm (Sx l Y) S Q:=Az h
def Aa4{f g:De->M W}{r:lg[(De->M W)×(De->M W)]}{Q:lg[Key×W]->Store->Prop}(h:Wm f[Y] S λk j=>Wm g[Y] j λv i=>Wm (Jz r Y) i λa d=>∃c,Abi k=sr c/\Q ((u6 c v)::a) d):Wm (Jz ((u6 f g)::r) Y) S Q:=by
 refine Az[Bd h λk j h=>Az[Bd h λv i h=>Az[Bd h λa d ⟨c,e,q⟩=>?_]]];exact e ▸ Df q
def Bg4{Q:lg[Key×W]->Store->Prop}(q:Q [] S):Wm (Jz [] Y) S Q:=Df q
def Bmj(h:Tp n S)(i:Y[1]?=sr sr[.ref[n]])(q:∀sz x y e S',Siz sz->Fr [n] S S'->Tp n S'->S'[e]?=sr .dct[wlD sz x y 0]->S'[x]?=sr .lst[[]]->S'[y]?=sr .lst[[]]->S.length<=x->x < y->y < e->e < S'.length->Q .ref[e] S'):
  Wm (Sx [((kS "size"),(zA Lq Aa[1])),((kS "texts"),(Dr nilF)),((kS "rows"),(Dr nilF)),((kS "begun"),(kI 0))] Y) S Q:=by
 refine Bg3 Aa4[Nb[Fd[Bh[Cv i Cm[?_]]]]];refine Bf8 h λsz t f g hs=>?_;refine Aa4 Nb[Q0[Cm[Bt () λx r d c l=>?_]]]
 refine Aa4 Nb[Q0[Cm[Bt () λy j a b k=>?_]]]
 refine Aa4 Nb[Nb[?_]];refine Bg4 (_,rfl,_,rfl,_,rfl,_,rfl,?_);let p:=f.len;let o:=Bk c;let m:=Bk b;refine(.ref j.length,_,?_,q sz x y _ _ hs (((f.then0 d).then0 a).then0 .app) (((g.at0 d).at0 a).at0 .app) Je Fr.app.at0[a.at0[c]] Fr.app.at0[b] () () () ())
 rfl
def Bs(S:Store)(w:W):Prop:=∀S',Fr [] S S'->Wm Ib[[w]] S' λv S1=>v=.bl t7/\Fr [] S' S1
def Bs.int{i:Int}(h:¬ (64<=i/\i<=200)):Bs S .int[i]:=(λS' f=>Ce Lg[i] λc a=>(congrArg W.bl (by simp_all),a))
def Bs.no(h:∀S,Ib [w] S=.ok .bl[t7] S):Bs S w:=λS' f=>Jg h[S'] (rfl,(aN _,λuw uw uw=>rfl))
def Bbv{a:Nat}:Pu[Alv SP.any a .lst[us]][Ib [.ref a]][.bl t7]:=(Bu rfl (Bo (Bb (Ak1 (q:=true) Ad[Ab Ag[rfl] Ae][Ajy] λh=>nomatch h))))
def Bs.lst{a:Nat}(h:S[a]?=sr .lst[us]):Bs S .ref[a]:=λS' f=>Tj Bbv (trivial,f.at0 h) λS1 f1=>(rfl,f1)
def Bg5(d:S[1]?=sr .tab[l_6.qual])(g:Dq (λi=>Y.getD i sy) [2]=sr [w])(c:Bs S w)(q:∀m S',Fr [] S S'->S'[m]?=sr .lst[[.str "size "]]->S.length<=m->Q .ref[m] S'):Wm (Dl 1 l_6 [2] Bq Y) S Q:=by
 refine Aa1 g d Brv rfl Brw Qe[Bh[Cv rfl Cm[Bl7[?_]]]];refine Bd[c _ Fr.then0[Fr.app][.app]] λv p ⟨e,f⟩=>(e,?_);let a:=Fr.then0 .app f;let o:=a.len;let b:=Aq6 (S:=S);exact((),_,.siz,λm l k j b=>q m l (Rf a k) j ())
end
section
variable{n h N B lw ld:Nat}{s u:St}{hs ws us es ds:lg W}{S S':Store}{Q:W->Store->Prop}{Y:De}{w:W}{sz:Int}
structure Mk(n h lw ld m:Nat)(l:List St)(S:Store):Prop where
 tp:Tp n S
 at_:S[h]?=sr (.lst [])
 tab:S[0]?=sr (.tab l_0.qual)
 lw:S[lw]?=sr (.lst (l.map λs=>W.ref s.e))
 ld:S[ld]?=sr (.lst (l.map λs=>W.ref s.d))
 sd:∀s∈l,Sd 0 s S
 lo:∀s∈l,∀i∈s.keep,m<=i
 pw:l.Pairwise λs u=>∀i∈s.keep,∀j∈u.keep,i < j
def Mk.two{m:Nat}{s u:St}(M:Mk n h lw ld m [s,u] S)(Z:n < m)(hh:h < m)(A:lw < m)(hd:ld < m)(v:0 < m)(L:n≠h)(J:n≠lw)(I:n≠ld)(H:h≠lw)(G:h≠ld)(n0:n≠0)(F:h≠0):Lw n h lw ld 0 0 S:=by
 let p:=M.sd s ()
 let o:=M.sd u ()
 let r:=M.lo s ()
 let q:=M.lo u ()
 let P:∀i∈s.keep,∀j∈u.keep,i < j:=by have:=M.pw;simp at this;exact this
 let own:∀{s:St},Sd 0 s S->s.own.Nodup:=λ{s} d=>by
  let E:=d.e';let T:=d.dk;unfold St.own;simp only[dU,aW,bM,or_false,not_or,not_false_eq_true,uT,and_true];exact((T.dt,T.dr,bN E.1),(T.tr,bN E.2.1),bN E.2.2.1)
 let g:∀{s:St},Sd 0 s S->s.x∉s.own/\s.y∉s.own:=λ{s} d=>by
  let E:=d.e';let X:=d.x';let t:=d.y';unfold St.own;simp[X.1,X.2.1,X.2.2,t.1,t.2.1,t.2.2,bN E.2.2.2.1,bN E.2.2.2.2]
 let small:∀i,i < m->i≠n->i≠h->i∉mtb n h s u:=λi l a b z=>by
  unfold mtb at z;simp only[aW,bF] at z;rcases z with z|z|z|z
  .exact a z
  .exact b z
  .have:=r i Iw[z];omega
  .have:=q i Iw[z];omega
 let k:∀{s:St},s.x∈s.keep/\s.y∈s.keep:=λ{s}=>by unfold St.keep;simp
 refine(s,u,[],(M.tp,p,o,M.at_,aN _,(λU z=>nomatch z),?_,λi hi=>?_,λi hi=>?_),M.tab,M.lw,M.ld)
 .unfold mtb;rw[dU,dU,iG];refine(λz=>?_,λz=>?_,own p,own o,λi hi j C e=>?_)
  .simp only[aW,bF] at z;rcases z with z|z|z
   .exact L z
   .have:=r n Iw[z];omega
   .have:=q n Iw[z];omega
  .rcases bF.mp z with z|z
   .have:=r h Iw[z];omega
   .have:=q h Iw[z];omega
  .have:=P i Iw[hi] j Iw[C];omega
 .simp only[bF,aW,bM,or_false] at hi;let f:∀i,i∈s.keep->i∉s.own->i∉mtb n h s u:=λi a b z=>by
   unfold mtb at z;simp only[aW,bF] at z;have:=r i a;rcases z with z|z|z|z
   .omega
   .omega
   .exact b z
   .have:=P i a i Iw[z];omega
  let c:∀i,i∈u.keep->i∉u.own->i∉mtb n h s u:=λi a b z=>by
   unfold mtb at z;simp only[aW,bF] at z;have:=q i a;rcases z with z|z|z|z
   .omega
   .omega
   .have:=P i Iw[z] i a;omega
   .exact b z
  rcases hi with (z|z|z)|z|z|z|z
  .exact z ▸ small 0 v bN[n0] bN[F]
  .exact z ▸ small lw A bN[J] bN[H]
  .exact z ▸ small ld hd bN[I] bN[G]
  .exact z ▸ f _ k.1 (g p).1
  .exact z ▸ f _ k.2 (g p).2
  .exact z ▸ c _ k.1 (g o).1
  .exact z ▸ c _ k.2 (g o).2
 .simp only[aW,bM,or_false] at hi;rcases hi with z|z|z
  .exact z ▸ Bk M.tab
  .exact z ▸ Bk M.lw
  .exact z ▸ Bk M.ld
def Sd.ini{x y e d t r:Nat}(D:Dk sz [] [] 0 d t r S)(hs:Siz sz)(f:S[e]?=sr .dct[wlD sz x y 0])(c:S[x]?=sr .lst[[]])(b:S[y]?=sr .lst[[]])(m:x < y)(l:y < e)(k:e < d)(j:d < t)(i:t < r):Sd 0 (sz,[],[],0,d,t,r,e,x,y) S:=(
 (D,f,c,b,hs,(λa z=>nomatch z),(λa z=>nomatch z),aN _,aN _,by grind,by grind,by grind))
def Bg6{m k:Nat}{l:lg St}{x0 x2 Z U T:o9 W}{K:RS->Prop}(M:Mk n h lw ld m l S)(hk:k=l.length)(k2:k < 2)(hm:m<=S.length)(hn:n < m)(hh:h < m)(hw:lw < m)(hd:ld < m)(d1:n≠h)(d2:n≠lw)(d3:n≠ld)(d4:h≠lw)(d5:h≠ld)(d6:lw≠ld)(n0:n≠0)(w0:lw≠0)(q0:ld≠0)(q:∀s S',Mk n h lw ld m (l ++ [s]) S'->m<=S'.length->K[.nx [x0,sr .ref[n],x2,sr .ref[lw],sr .ref[ld],sr .ref[h],sr .int[0+(k:Int)],Z,U,T] S']):
  Wb (Ai aB3
  (Ai G9[Jc .lst Gg Aa[4] yA[zA[λws=>Ni 14 Fj ws][ixF[ixF Aa[3] Aa[6]][kS "size"]]]]
  An)) [x0,sr .ref[n],x2,sr .ref[lw],sr .ref[ld],sr .ref[h],sr .int[0+(k:Int)],Z,U,T] S K:=by
 let A:=M.lw;let J:=M.ld;apply X8;symm;refine(_,_,rfl,A,?_);symm;refine Bmj M.tp rfl λsz x y e S1 hs E t1 he hx hy l1 l2 l3 l4=>?_;symm;let H:(l.map λs=>W.ref s.e).length=k:=by rw[aJ,hk]
 let I:=E.at1 A bN[d2];refine Vx I (H ▸ aQ k2 ()) λS2 v h2=>?_
 let C:=v.at1[E.at1 J bN[d3]][bN d6];let L:=v.at1 he ()
 unfold wlD at L
 symm;refine(_,_,rfl,C,?_);symm;apply Fe h2 (w:=.ref e)
 .rw[uB,Al3[by simp_all],bG[H ▸ aN _],H,gF]
  rfl
 symm;let f12:=v.len;let f01:=E.len;refine Bgc hs λd t r S3 p D3 g1 g2 g3 g4=>?_;symm;let O:=p.at0 C;refine Vx O (by rw[aJ,<-hk];exact aQ k2 ()) λG o h4=>?_;symm;let f34:=o.len;let f23:=p.len;let F:Fr [n,lw,ld] S G:=Fr.same (Fr.same (E.mono λi hi=>by rw[aM.mp hi];simp) (Fr.same (v.mono λi hi=>by rw[aM.mp hi];simp) (p.mono λuw z=>nomatch z))) (o.mono λi hi=>by rw[aM.mp hi];simp)
 let hr:=Bk D3.ro;let D4:Dk sz [] [] 0 d t r G:=D3.mv[o][Aa2 ()][Aa2 ()][Aa2 ()]
 let up:∀{i c},S1[i]?=sr c->m<=i->G[i]?=sr c:=λ{i c} z l=>o.at1 p.at0[v.at1 z ()] ()
 let X:=Sd.ini D4 hs (up he ()) (up hx ()) (up hy ()) l2 l3 () g2 g3
 refine q (sz,[],[],0,d,t,r,e,x,y) G (?_,F.at M.at_ (Bbs bN[d1] d4 d5),F.at M.tab (Bbs bN[n0] bN[w0] bN[q0]),?_,?_,λs g=>?_,λs g=>?_,?_) ()
 .exact((t1.mv v Aa2[d2]).at0 p).mv o Aa2[d3]
 .rw[dG];exact o.at1 p.at0[h2] d6
 .rwa [dG]
 .rcases bF.mp g with z|z
  .exact(M.sd s z).mv F λi hi=>by have:=M.lo s z i hi;exact Bbs () () ()
  .rwa [aM.mp z]
 .intro i hi;rcases bF.mp g with z|z
  .exact M.lo s z i hi
  .rw[aM.mp z] at hi;simp[St.keep] at hi;omega
 .rw[pX];refine(M.pw,(),λa ha b hb i hi j hj=>?_)
  have:=(M.sd a ha).lt i hi;rw[aM.mp hb] at hj;simp[St.keep] at hj;omega
end
section
variable{S:Store}{Q:W->Store->Prop}
def Bg7{ns:lg Int}(C:S[0]?=sr .tab[l_0.qual])(B:S[1]?=sr .tab[l_6.qual]):Wm Bae[[.scr ns]] S λw j=>w=.bl t8:=by
 let s0:=Bk C;let s1:=Bk B;refine Dw rfl Ef[?_];symm;refine Bg2 λS1 I P l1=>?_;generalize hn:S.length=n at *
 let d:=I.at0 C;let tB:=I.at0 B;clear C B I;symm;refine Bt (show 1<=big by decide) λo1 S2 p h2 l2=>?_;symm;refine Jg (a:=.int[-64]) (S':=S2) rfl ?_;symm;refine Bt (show 9<=big by decide) λo2 S3 g h3 l3=>?_;symm;let f23:=p.len;refine Ca ((P.at0 p).at0 g) () λa S4 f O a0 a1=>?_
 let g1:=f.at1 g.at0[h2] ()
 obtain⟨w,e,U⟩:∃w,atI [W.int 63,.int 201,.bl t8,.non,.str "64",.ref o1,.int 0,.int[10 ^ aEc 20],.int[-64]] a=sr w/\Bs S4 w:=by
  let q:a=0\/a=1\/a=2\/a=3\/a=4\/a=5\/a=6\/a=7\/a=8:=by omega
  rcases q with rfl|rfl|rfl|rfl|rfl|rfl|rfl|rfl|rfl
  .exact(_,rfl,.int ())
  .exact(_,rfl,.int ())
  .exact(_,rfl,.no λj=>rfl)
  .exact(_,rfl,.no λj=>rfl)
  .exact(_,rfl,.no λj=>rfl)
  .exact(_,rfl,.lst g1)
  .exact(_,rfl,.int ())
  .exact(_,rfl,.int ())
  .exact(_,rfl,.int ())
 apply Fe (f.at1 h3 ()) e
 let d:=f.at1 g.at0[p.at0[d]] ()
 let l4:=(g.of0.same f).len;let n1:1 < S1.length:=Bk tB;let tB:=f.at1 g.at0[p.at0[tB]];clear p g f h2 h3 e g1;symm;refine Bg5 (tB ()) rfl U λm S5 y h5 l5=>?_;symm;refine Bt (show 1<=big by decide) λo3 S6 o Z l6=>?_
 apply Al9 o.at0[h5] Z (ds:=[.str "size "]) rfl (Kf V8[rfl] Rc);let d:=o.at0 y.at0[d];let E:=(O.at0 y).at0 o;let l56:=y.len;let l66:=o.len;clear y o h5 Z U tB O P;symm;refine Bt (show 0<=big by decide) λlw S7 H t l7=>?_;symm;refine Bt (show 0<=big by decide) λld S8 x r l8=>?_;symm;refine Bt (show 0<=big by decide) λh L k q l9=>?_
 let p9:=((E.at0 H).at0 x).at0 k;let a7:=Bk t;let a8:=Bk r;let a9:=Bk q;let n6:=E.lt;let d:=k.at0 x.at0[H.at0[d]];let t:=k.at0 x.at0[t];let r:=k.at0 r;clear H x k E;apply Amc;symm;refine(2,rfl,(),λN c=>?_)
 let M0:Mk n h lw ld L.length [] N:=(p9.at0 c,c.at0 q,c.at0 d,c.at0 t,c.at0 r,(λj z=>nomatch z),(λj z=>nomatch z),.nil);let lA:=c.len;refine Ala (J:=λi Y T=>(∃A,Y=[sr .scr[ns],sr .ref[n],sr w,sr .ref[lw],sr .ref[ld],sr .ref[h],A,sy,sy,sy])/\∃l,l.length=i/\Mk n h lw ld L.length l T/\L.length<=T.length) ?_ ?_ ((_,rfl),[],rfl,M0,lA)
 .rintro i v Y T G ⟨⟨A,rfl⟩,l,rfl,M,X⟩;let F:=(aK.mp G).1;rw[aJ,cG] at F;rw[bK,nJ F] at G;cases G;refine(_,rfl,?_);exact Bg6 M rfl F X () () () () () () () () () () () () () λs S' M' l'=>((_,rfl),l ++ [s],by rw[bH];rfl,M',l')
 .rintro Y T ⟨⟨A,rfl⟩,l,hl,M,X⟩
  match l,hl,M with
  |[s,u],_,M=>exact Awl[M.two () () () () () () () () () () () ()]
def law_holds:∀ns:lg Int,ns.length<=63->∃a,Bae [.scr ns] Aio[qs]=.ok .bl[t8] a:=(λns d=>by
 let(w,a,e,rfl):=Bg7 (S:=Aio qs) (ns:=ns) rfl rfl;exact(a,e))
end
end K7
open PySem PySem.W PyProof.Rows
set_option maxRecDepth 100000 in
set_option maxHeartbeats 0 in
theorem PySem.Challenge.cw_leafhouse_k07_writes_of_a_disk_holds : PySem.Challenge.rw_leafhouse_k07_writes_of_a_disk.Holds := by
 w_on;o_law;k_head;(case hw=>w_witness2)
 k_fill
 refine D.Avd (l:=PySem.Challenge.rw_leafhouse_k07_writes_of_a_disk) (k:=136) (x:="_law_script") (qs:=K7.qs) (xf:=λc=>K7.xfL.lookup c) K7.law_holds rfl rfl ⟨λm=>rfl,by decide,by decide⟩ (by rfl) (by decide) (λw h e=>⟨PySem.W.km_in_of e,PySem.W.km_tabs_of e⟩) (λp=>by kernel_rfl) ?F
 case F=>
  intro w mg o h b G a;apply Exists.intro;apply K7.all_mk b G a
  case hA0=>exact rfl
  case hA1=>exact rfl
  all_goals try first|apply D.Boq b G|apply D.Bos b G|apply D.Bor
  all_goals try k_is
  all_goals kernel_rfl
