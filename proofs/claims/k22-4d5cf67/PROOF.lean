import PyProof.Rows.All
import Wide.All
import OpenK.AllK
import Wide.FinOn
import Lean
import PyProof.EqAt
import PyProof.EqKinds
import PyProof.TupleCall
import PyProof.LongRange
import PyProof.Walks
import PyProof.ListMulRoad
import PyProof.ReprRoads
import PyProof.NeData
import PyProof.P3In
import PyProof.ZipIter
import PyProof.Draws
import PyProof.TupleIter
import PyProof.Rows.StrRules
import PyProof.CompUse
import PyProof.ListRange
import KE.KDictLaws
import PyProof.EnumFor
import PyProof.EnumMake
import PyProof.EnumStmt
import PyProof.ConsumeWalk
import KE.KMinKey
import PyProof.ListNew
import PyProof.Rows.SetFrom
import PyProof.WalksMore
import KE.KDictList
import PyProof.DictWalks
import KE.KDictOf
import PyProof.AttrMissSeq
import KE.KDictSum
import KE.KItemsList
import PySem.Challenge.RW_rimehold_k22_whole_sums_of_far_hours
set_option Elab.async false
set_option linter.all false
set_option maxRecDepth 100000
set_option maxHeartbeats 4000000
set_option exponentiation.threshold 3000
set_option hygiene false
set_option compiler.extract_closed false
local macro_rules|`(zav)=>`((m.e c af af b))
local macro_rules|`(zau)=>`((dC (.str "in")))
local macro_rules|`(zat)=>`((fu (gj (kX (dV 2) (fO (fc (dV 3) (fc (d2 af fK (d2 af fK (dV 3) zd) (fj K1.fm 2 (fc (dV 0) zI))) ff))))) (fF (d2 af fK (d2 af fK (d2 af ax (d2 af ax (dV 2) (wg zd)) zd) zd) (fj K1.fm 2 (fc (dV 0) zI))) (fe 3))))
local macro_rules|`(zas)=>`((fc (dV 0) ff))
local macro_rules|`(zar)=>`((fc (dV 4) ff))
local macro_rules|`(zaq)=>`((.Assign [.Tuple [.Name x px,.Name y py] kt pt] (.Tuple [a,b] k2 c7) pos))
local macro_rules|`(zap)=>`((dB (d2 af aY (dV 4) (dC (.str "in")))))
local macro_rules|`(zao)=>`((ps.map dP))
local macro_rules|`(zan)=>`((∀ c o,c≠z->c≠TO->c≠i1->c≠i2->s.heap.get? c=ae o->h'.get? c=ae o))
local macro_rules|`(zam)=>`((.dK ao))
local macro_rules|`(zal)=>`((ba items.size items.size hi-ba items.size 0 lo))
local macro_rules|`(zak)=>`((g,word ps K R g,((look R (a8 g)).map D.int).getD .non,eU g))
local macro_rules|`(zaj)=>`((ha pins s σ H _ I h))
local macro_rules|`(zai)=>`((dC (.int 4)))
local macro_rules|`(zah)=>`((fW I q (rfl)))
local macro_rules|`(zag)=>`((.aO h0 l k r p w))
local macro_rules|`(zaf)=>`((List W))
local macro_rules|`(zae)=>`((dN af sY (fc (fL af [ag,ae 9] (bq (cH af (dV 10) (cG (dC (.int 7))) cQ)) (fe 0) (dB (d2 af ny (dV 0) (dV 1))) (dV 0)) ff)))
local macro_rules|`(zad)=>`(([e].length+([]:List Keyword).length+(if ([]:List Keyword).isEmpty then 0 else 1)<30))
local macro_rules|`(zac)=>`((enc (.aO h0 l k r p w)))
local macro_rules|`(zab)=>`((.ref s.heap.objs.size))
local macro_rules|`(zaa)=>`((bx++[.dT (gs.map ke)]))
local macro_rules|`(z9)=>`((fc (dC (.int 4)) ff))
local macro_rules|`(z8)=>`((fu (fF (d2 af ax (cW (dV 1) (dV 4)) zi) (fe 5)) (aM (pd (dB (d2 af (inD af) (fO (fc (dV 2) (fc (dV 5) ff))) (d2 af ax (dV 0) zA))) (dB (d2 af (inD af) (fO (fc (dV 5) zP)) (d2 af ax (dV 0) zA)))) (gj (kX (dV 3) (fO (fc (dV 4) (fc (d2 af ax (cW (dV 1) (dV 4)) zd) ff))))) aU)))
local macro_rules|`(z7)=>`((.Call (.Name x p) (e::es) [] pos))
local macro_rules|`(zZ)=>`((.aO h' l k r p w))
local macro_rules|`(zY)=>`((pt bx n p))
local macro_rules|`(zX)=>`((s.heap.objs.size+1))
local macro_rules|`(zV)=>`((X.comp N scope cl s3 H3 C fp))
local macro_rules|`(zU)=>`((.refl F1 r1))
local macro_rules|`(zS)=>`((fu (fF (fj aH.gY 3 (fc (dV 0) (fc (dV 1) (fc (dV 3) ff)))) (fe 6)) (fu (aM (nJ (dB (d2 af aY (d2 af ax (dV 6) zd) (dC (.str "in")))) (dB (d2 af nL (fj K1.fm 2 (fc (dV 0) (fc zq ff))) zi))) (fF (d2 af fK (fO (fc (d2 af nK (d2 af ax (dV 6) zi) zq) ff)) (cH af (dV 6) (cG zd) cQ)) (fe 6)) aU) (rM (dV 4) (dV 6) (dC (.bl ah))))))
local macro_rules|`(zR)=>`((m.e c af af a))
local macro_rules|`(zQ)=>`((fc (dV 3) (fc (dV 4) (fc (d2 af cE (d2 af dS (dC (.int 10)) (dC (.int 40))) zd) ff))))
local macro_rules|`(zP)=>`((fc (dV 2) ff))
local macro_rules|`(zO)=>`((fu (fF (dN af rn (fc (fL af [ag,ag,ae 17] (bq (dV 8)) (fR 2 zK) fM (fO (fc (d2 af fK (dV 0) (dV 2)) (fc (d2 af fK (dV 1) (dV 2)) ff)))) ff)) (fe 18)) (fu (fF (fL af [ag,ae 17] (bq (dV 4)) (fe 0) fM (d2 af fK (fO (fc (d2 af fK (d2 af ax (dV 0) zi) (dV 1)) ff)) (cH af (dV 0) (cG zd) cQ))) (fe 19)) (aM (dB (d2 af dF (fj K22.gZ 4 (fc (dV 3) (fc (dV 18) (fc (dV 19) (fc (fL af [ag,ae 17] (bq (dV 10)) (fe 0) fM (d2 af fK (dV 0) (dV 1))) ff))))) (dV 12))) (fJ (dC (.bl af))) aU))))
local macro_rules|`(zN)=>`((X.comp N scope cl s H C fp))
local macro_rules|`(zK)=>`((fq (fe 0) (fq (fe 1) fS)))
local macro_rules|`(zJ)=>`((G.e O _ _ _))
local macro_rules|`(zI)=>`((fc (dV 1) ff))
local macro_rules|`(zH)=>`((.tup (op.map dP)))
local macro_rules|`(zG)=>`((.d (enc g)))
local macro_rules|`(zF)=>`((fu (fF (d2 af pE (d2 af ck (d2 af fK (d2 af fK (d2 af pE (dV 0) (dC (.int 2147483629))) (d2 af ck (dC (.int 7919)) (dV 2))) zd) (dC (.int 48271))) (dC (.int 2147483647))) (fe 3)) (fu (fF (d2 af pE (d2 af fK (d2 af fK (d2 af ck (dV 3) (dV 3)) (d2 af ck (dC (.int 69621)) (dV 2))) (dC (.int 7))) (dC (.int 2147483587))) (fe 3)) (fF (d2 af fK (d2 af ck (dV 1) (dC (.int 2147483587))) (dV 3)) (fe 1)))))
local macro_rules|`(zE)=>`((fu (aM (eG (dB (fj K22.jd 1 (fc (d2 af ax (dV 12) (dV 14)) ff)))) (fJ (dC (.bl af))) aU) (aM (dB (dX ah (dV 14) (dV 11))) (fu (fF (fL af [ag,ag] (p7 (fc (d2 af ax (dV 12) (dV 14)) (fc (dV 10) ff))) (fR 2 (fq (fe 0) (fq (fe 1) fS))) (dB (d2 af ny (dV 1) (dC (.int 40)))) (dV 0)) (fe 15)) (aM (dB (d2 af dF (dV 15) (d2 af ck (cH af (dV 15) cQ (cG zd)) (dN af bV (fc (dV 15) ff))))) (fJ (dC (.bl af))) aU)) aU)))
local macro_rules|`(zD)=>`((m env bx))
local macro_rules|`(zC)=>`((fu (aM (dB (d2 af dF (dV 7) (dC (.str "takes")))) (fu (gj (kX (dV 2) (fO (fc (dV 5) (fc (dV 7) (fc (dC .non) (fc (dC .non) ff))))))) IJ) aU) (fu (gj (kX (dV 2) (fO (fc (dV 5) (fc (dV 7) (fc (vf (dV 4) (dV 6)) (fc (fj aH.fN 1 (fc (dV 5) ff)) ff))))))) (fu (aM (dB (d2 af aY (d2 af ax (dV 5) zd) (dC (.str "in")))) (k6 (dV 3) (dV 6) (d2 af ax (dV 5) zq)) aU) (aM (dB (d2 af aY (d2 af ax (dV 5) zd) (dC (.str "out")))) (uH (dV 4) (dV 6)) (k6 (dV 4) (dV 6) (fj aH.fN 1 (fc (dV 5) ff))))))))
local macro_rules|`(zA)=>`((dC (.int 2)))
local macro_rules|`(zy)=>`((.ListComp elt [⟨tg,iter,ifs,0⟩] scope pos))
local macro_rules|`(zt)=>`((k==NameKind.free&&env.scope.kind==.function&&env.kindOf n==ae .cell))
local macro_rules|`(zq)=>`((dC (.int 3)))
local macro_rules|`(zo)=>`((fc zi (fc (dC (.int 5)) (fc (dC (.int 20)) (fc (dC (.int 40)) (fc (dC (.int 150)) (fc (dV 6) (fc (dV 9) (fc (d2 af nK (d2 af fK (dV 9) (dV 7)) (dC (.int 2))) (fc (dV 7) (fc (d2 af fK (dV 7) (d2 af dS (dC (.int 10)) (dC (.int 25)))) (fc (d2 af fK (dV 7) (d2 af dS (dC (.int 10)) (dC (.int 39)))) ff))))))))))))
local macro_rules|`(zm)=>`((.lst (gs.map enc)))
local macro_rules|`(zj)=>`((by simp))
local macro_rules|`(zi)=>`((dC (.int 0)))
local macro_rules|`(zh)=>`((model prog w))
local macro_rules|`(zg)=>`((by simp;lia))
local macro_rules|`(zf)=>`((model X.prog X.w))
local macro_rules|`(ze)=>`((by decide))
local macro_rules|`(zd)=>`((dC (.int 1)))
local macro_rules|`(zb)=>`((hs rs ks ps hd))
local macro_rules|`(za)=>`((by lia))
local macro_rules|`(zc)=>`(rfl)
local macro_rules|`(zk)=>`(Prop)
open Lean Parser.Tactic in
def gp0:Nat->Syntax->MacroM (TSyntax `rcasesPat)
|0,_=>Macro.throwUnsupported
|n+1,s=>match s with
|`(#[$xs,*])=>do
  let ys<-xs.getElems.mapM fun x=>do`(rcasesPatLo|$(<-gp0 n x):rcasesPat)
  `(rcasesPat|⟨$ys,*⟩)
|`(_)=>`(rcasesPat|_)
|`($i:ident)=>if i.getId==`rfl then`(rcasesPat|rfl)else`(rcasesPat|$i:ident)
|_=>Macro.throwUnsupported
local macro_rules|`(tactic|let#[$xs,*]:=$e)=>do let p<-gp0 9 (<-`(#[$xs,*]));`(tactic|obtain $p:rcasesPat:=$e)
local macro_rules|`(#[$x,$xs,*])=>`(⟨$x,$xs,*⟩)
local macro_rules|`(tactic|erw[$[$r:term],*]$[$l:location]?)=>`(tactic|simp only[$[$r:term],*]$[$l]?)
local macro_rules|`(tactic|ext $[$r:ident]*)=>`(tactic|rename_i $[$r:ident]*)
set_option hygiene true
noncomputable section
local macro_rules|`(tactic|show $a:term)=>`(tactic|exact $a)
variable {a it p:PySem.Addr}{o:PySem.Obj}{u:PySem.Value}{P prog:PySem.Program}{w:PySem.World}{h h' base:PySem.Heap}{x:PySem.Str}{e tg iter:PySem.Expr}{pins:List (PySem.Addr × PySem.Obj)}{t' j n ep:Nat}{ch fp r:List PySem.Addr}{N:List PySem.Str}{M:PySem.Model}{A:PySem.Around}{E Q:PySem.Value -> PySem.Shared -> zk}{t:PySem.SetTable}{α:Type}{R:PySem.Result -> PySem.Shared -> zk}{op:PySem.CmpOp}{c hold:Int}{K:PySem.W.Frag}{st:PySem.Stmt}{es ifs:List PySem.Expr}{pos' apos:PySem.Pos}{vs us:List PySem.Value}{f:PySem.Value -> PySem.Value -> PySem.Sem PySem.Value}{mA mg:PySem.Str -> Option PySem.Value}{fd:PySem.FuncData}{ps:List (Int × Int)}{qN sl:Array (Option PySem.Value)}{items:Array PySem.Value}{ns rl:List Int}{q:Int × List Int}{XP:(PySem.Str -> Option PySem.Value) -> PySem.Heap -> zk}{cl:Nat -> PySem.Addr}{bo:Bool}{kl:List (Int × List Int)}
open PySem renaming wpAny_bind->ak,wpAny_pure->az,sizeLine_eq->bf,wpAny_holding->eB,wpAny_newObj_type->eV,wpAny_call_entry->eW,wpAny_mono->k9,wpAny_field->ng,wpAny_rule->nU,mem_of_lookup->nV,wpAny_truthy_bool->qi,wpAny_callSpecial?_slot->qO,codeAny_builtin->rS,wpAny_setField->rT,wpAny_Call_Name_kw->tO,wpAny_typeOf->tQ,wpAny_seqItems->tR,wpAny_setField_rec->uM,wpAny_attempt->uN,wpAny_askSetting->uO,wpAny_setState_of->vz,wpAny_load->wQ,wpAny_pyIter_list->wR,codeAny_mono->wU,call_meets->wV,wpAny_newList->wW,not_mem_of_deeper->wX,plainId_quiet->wY,wpAny_fieldsOf->wZ,wpAny_standAt->yu,wpAny_bindName->yw,wpAny_passesOwn->yx,tupleKind_room_in1->yy,call_meetsIn->yz,wpAny_of_eq->yA,wpAny_onRaise->yB,wpAny_pyIter_slot->yC,wpAny_isInstance->yD,intKind_is->yE,wpAny_setEntries_of->yF,pushCells_keeps->Hc,strLen_append->Hd,wpAny_handled->He,wpAny_throw->Hf,isSubtype_stop->Hg,wpAny_Name->QL,wpAny_execs_nil->QM,concat_meets->QN,noFill_tuple_add->QO,seq_tuple_add->QP,seqIndex_of->QR,typeIs_int->QS,wpAny_runValue->QT,wpAny_Call_method->QU,call_repr_slot->QV,wpAny_updateSeq_pair->QW,wpAny_letGo->QX,wpAny_newTuple->QY,wpAny_pyIter_tuple->QZ,fits_of_scanBound->Q0,wpAny_typeNameOfWhole_keyiter->Q3,wpAny_typeNameOf_keyiter->Q4,wpAny_isOneOf_keyiter->Q5,wpAny_eqBool_int->aaK,wpAny_loadName_local->aaL,wpAny_loadName_cell->aaM,wpAny_Compare1->aaN,wpAny_isTrue_Compare1->aaO,wpAny_execs_cons->aaP,wpAny_assign_Name->aaQ,wpAny_pyNext_list_item->aaR,wpAny_pyNext_list_end->aaS,wpAny_pyIter_range->aaT,rangeSize_one->aaU,intBits_le_64->aaV,name_of_addr->aaW,wpAny_sequenceKey->aaX,wpAny_Slice->aaY,wpAny_getItem_list_slice->aaZ,call_list_seq->aa0,fitsIndex_both->aa1,wpAny_alloc->aa2,wpAny_comprehension_free->aa3,codeAny_compStart_list->aa4,wpAny_specialOf->aa5,wpAny_Dict_empty->aa6,tupleText_mem_le->aa7,listText_mem_le->aa8,listText_nil->aa9,dictText_mem_le->aba,wpAny_storeSet_of->abb,codeAny_of_tree->abd,sub_set_self->abe,entryFor_of_tree->abf,entryFor_alias->abg,wpAny_setEpoch_of->abh,wpAny_updateSeq->abi,wpAny_pyIter_keyiter->abj,wpAny_notOrdered_dict->abk,wpAny_dictEntries->abl,wpAny_dictEpoch->abm
open Nat renaming le_refl->aE,ne_of_lt->bI,le_trans->cB,zero_le->eC,lt_irrefl->hV,lt_of_lt_of_le->kB,le_of_lt->nh,lt_succ_self->nE,lt_succ_of_lt->pM,le_succ->qj,sub_self->tU,ne_of_gt->uP,le_of_not_lt->vA,lt_trans->vB,le_add_right->vC,le_of_eq->xa,lt_or_ge->xb,lt_of_le_of_lt->yG,sub_zero->Hh,min_eq_left->Hi,le_succ_of_le->Hj,zero_add->Q6,not_lt_zero->Q7,succ_le_succ->abn,max_eq_right->abo,mod_lt->abp,add_sub_cancel->abq
open Bool renaming and_eq_true->aJ,false_ne_true->dA,eq_iff_iff->kK,not_eq_true'->rV,or_eq_true->xc,false_eq_true->yH,false_and->Hl,false_or->Q8,true_or->abr,and_self->abt
open List renaming map_cons->aL,length_map->aR,map_map->bj,length_cons->bz,mem_cons_self->bD,mem_cons_of_mem->bE,size_toArray->bY,getElem?_eq_getElem->cL,length_append->cX,getElem?_append_left->eK,mem_cons->bw,mem_append_right->hZ,getElem?_map->kL,lookup_cons->kM,all_eq_true->cY,getElem?_append_right->nF,getElem_mem->nG,nil_append->nW,not_mem_nil->nX,getElem?_set_self->pN,append_assoc->pO,prefix_refl->pP,length_nil->pQ,filterMap_cons->qk,mem_of_getElem?->qm,length_set->qo,mem_append_left->qP,find?_cons->qQ,mem_map_of_mem->qT,any_cons->rW,getElem?_eq_none->rX,map_congr_left->rY,map_append->rZ,getElem?_set_ne->tV,append_nil->tW,all_cons->tX,length_filter_le->tY,filter_cons_of_neg->tZ,filter_cons_of_pos->ua,getD_eq_getElem?_getD->ub,zip_cons_cons->uQ,length_take->vD,nodup_append->uR,length_range->vE,pairwise_map->qp,any_eq_true->kC,take_of_length_le->vF,length_replicate->xf,forIn_cons->xg,prefix_append->xh,ext_getElem?->xi,eq_nil_of_length_eq_zero->xj,exists_cons_of_length_pos->xk,all_map->xl,mem_map->bp,forIn_nil->yI,set_comm->Hm,any_eq_false->Hn,length_drop->Ho,reverse_cons->Hq,nodup_cons->se,cons_append->Hr,mem_singleton->kN,filter_cons->Ht,any_map->Hu,set_append_left->Hv,mem_filter->pR,mem_of_find?_eq_some->Hw,of_mem_zip->Q9,replicate_succ->Xa,foldl_cons->Xb,drop_zero->Xc,take_length->Xd,zipIdx_cons->Xe,map_snd_zip->Xf,length_eraseIdx_of_lt->Xg,find?_map->Xh,find?_some->Xi,find?_isSome->Xj,find?_append->Xk,pairwise_cons->kO,head?_cons->Xl,getElem?_replicate->abu,getElem?_take_of_lt->abv,take_sublist->abw,filterMap_map->abx,flatten_cons->aby,length_singleton->abz,mergeSort_perm->abA,pairwise_mergeSort->abB,nodup_nil->abC,zipIdx_nil->abD,forIn_toArray->abE,mapM_toArray->abF,getElem_of_mem->abG,pairwise_lt_range->abH,zip_nil_left->abI,map_nil->abJ,getElem?_cons_zero->abK,set_set->abL,map_id->abM,length_zip->abN,filter_map->abO,take_append->abP,find?_eq_none->abQ,length_flatten->abR,sum_cons->abS,getElem_map->abT,map_replicate->abU,eraseDups_cons->abV,filterMap_nil->abW
open PySem.Heap renaming get?_push_of_some->aN,lt_size->a9,get?_push_size->bB,get?_update_self->sf,size_push->uc,get?_update_other->Hx,get?_none_of_le->Xm,size_update->abX
open Option renaming bind_some->bS,isSome_map->pS,map_some->pT,getD_some->yJ,getD_none->Xn
open PyProof.Rows renaming wpS_bind->cC,wpS_pure->eD,step_dedup->nj,size_push'->ud,assignInOrder_cons->xm,listItems_at->xn,wpS_get->xo,wpS_forRange->xp,callWith_type1->Hy,slot_tuple_getitem->xq,listUpdate_at->Hz,kind_sorted->HC,plain_sorted->HD,entry_sorted->HE,args_sorted1->HF,slot_list_sort->HG,entry_list_sort->HI,args_list_sort->HJ,mirror_perm->HK,wpS_reverse->HL,wpS_mono->HM,assignInOrder_nil->Xo,tail_any->Xp,wpS_lift->Xq,wpS_modify->Xr,mem_zip_self->Xt,seqEpoch_at->Xu,pairsOf_size->Xv,sortedHeap_old->Xw,unpackItems_tuple->abY,slicePart_none->abZ,entry_tuple_getitem->ab0,args_tuple_getitem->ab1,tupleItemsOf_->ab2,subscriptTail_builtinR->ab3,get?_update_seq->ab4,list_sort_tree->ab5,sortedAll_at->ab6,sortedAll_old->ab7,lt_int->ab8,pairsOf_toList->ab9,sortedHeap_at->aca,callWith_builtin1->af3,evalArgs_empty->af4
open Int renaming toNat_natCast->nq,mul_one->HN,le_refl->HP,eq_ofNat_of_zero_le->HQ,emod_lt_of_pos->Xx,le_antisymm->acb,le_trans->acd,emod_nonneg->ace,ediv_nonneg->acf,zero_add->acg,mul_add->ach,mul_ediv_add_emod->aci,sub_zero->acj,mul_comm->ack
open Array renaming length_toList->nH,getElem?_toList->qU,toList_push->Xy,getElem?_eq_none->Xz,getElem_toList->acm,toList_extract->acn
open PySem.Obj renaming data_mapFields->qr,isFreed_of_fields->xr,cls_mapFields->yK
open PySem.W renaming kia_one->qV,kitx_list->aco,kitx_dict->acp,cellsFrom_some->acq
open PySem.Calls renaming spliced_nil->vG,spliced_cons->vH,callWith_builtin->HR,call_function_entry->HS,evalArgs_plain->XA
open PyProof.Rows.KeyOrd renaming kle_refl->xt,kle_trans->HU,kle_of_klt->HV,kle_antisymm->acr
open PySem.F renaming slot_tuple_iterator_next->HW,slot_zip_next->yL,slot_tuple_add->XB,entry_tuple_add->XC,args_tuple_add_2->XD,slot_dict_get->XE,plainAttrs_dict->XF,plainAttrs_list->XG,slot_int_rmul->acs,slot_dict_delitem->acu,slot_dict_pop->acv,entry_dict_get->acw,args_dict_get_2->acx,entry_tuple_iterator_next->acy,args_tuple_iterator_next_1->acz,slot_zip_iter->acA,entry_zip_next->acB,args_zip_next_1->acC,slot_set_iter->acD,plain_list_iadd->acE,slot_dict_iter->acF,slot_dict_keyiterator_next->XH,slot_dict_items->acG
open PySem.Around renaming under_plainId->HX
open PySem.SeqAt.EqAt renaming int_int->XI,str_str->XJ,int_str->acH,str_int->acI,none_bool->af5,none_int->af6,none_str->af7,bool_none->af8,bool_bool->af9,bool_int->aga,bool_str->agb,int_none->agc,int_bool->agd,str_none->age,str_bool->agf
open PySem.PyData renaming shownKv_eq->XM
open PyProof.Rows.LSm renaming kept_iter->acJ
open PySem.Code renaming quiet_builtin->acK
open PySem.ReprEntriesK renaming of_two->acL
open List.Pairwise renaming imp_of_mem->acM
open PyProof.Rows.F renaming entry_set_update_loop->acN,plain_set_update_loop->acO
open List.Perm renaming eq_of_pairwise->acP,append_left->agg,of_eq->agh
open PySem.EqNone renaming eq_none_none->agi,eq_none_bool->agj,eq_none_int->agk,eq_none_str->agl,eq_bool_none->agm,eq_int_none->agn,eq_str_none->ago,ne_none_none->agp,ne_none_bool->agq,ne_none_int->agr,ne_none_str->ags,ne_bool_none->agt,ne_int_none->agu,ne_str_none->agv
open PySem.EqMixed renaming eq_bool_str->agw,eq_int_str->agx,eq_str_bool->agy,eq_str_int->agz,ne_bool_str->agA,ne_int_str->agB,ne_str_bool->agC,ne_str_int->agD
open PySem.AutoSeq1 renaming list_extend_list_list_0->agE,sub_tuple_tuple->agF
open PySem.MeetsSeq renaming list_pop_at->agG
open PySem.AutoListH renaming list___mul___list_int_3->agH
open PySem.SeqAt.RcNeAt renaming lists_lengths->agI
open PySem.SetTable renaming fits_plain_off->agJ
open Function renaming comp_def->agK
open PySem.SeqAt renaming eqv_refl->agL
open Option renaming some->ae,none->ag
open Bool renaming true->ah,false->af
open PySem renaming Value->ai,Shared->au,Heap->aI,Addr->aj,Expr->aq,Around->eN,Stmt->cb,Program->dD,World->cw,Scope->bT,Pos->aC,Obj->aZ
open PySem PySem.Spec PyProof.Rows
namespace L2
noncomputable abbrev Key:=Sum Int Str
noncomputable def ue:Key->ai->Bool
 |.inl k,v=>Value.isInt k v
 |.inr x,v=>Value.isStrOf x v
noncomputable def agM (w:cw):Key->Int
 |.inl k=>hashInt k
 |.inr x=>hashStr w x
theorem fV:∀ {k:Key}{v:ai},ue k v=ah->(∃ i t,k=Sum.inl i /\ v=Value.int i t) \/ (∃ x t,k=Sum.inr x /\ v=Value.str x t)
 | .inl i,v,h=>by
   let#[t,e]:=Value.isInt_shape h;show .inl #[i,t,rfl,e]
 | .inr x,v,h=>by
   let#[t,e]:=Value.isStrOf_shape h;show .inr #[x,t,rfl,e]
theorem Ja (i:Int) (t:Tok):ue (.inl i) (.int i t)=ah:=by simp[ue,Value.isInt]
theorem Jb (x:Str) (t:Tok):ue (.inr x) (.str x t)=ah:=by simp[ue,Value.isStrOf]
theorem Tl (a b:Int):decide ((Sum.inl a:Key)=Sum.inl b)=(a==b):=by
 by_cases e:a=b
 .subst e;simp
 .rw[decide_eq_false λq=>e<|Sum.inl.inj q];show(beq_eq_false_iff_ne.mpr e).symm
theorem Tn (a b:Str):decide ((Sum.inr a:Key)=Sum.inr b)=decide (a=b):=by
 by_cases e:a=b
 .simp
 .rw[decide_eq_false λq=>e<|Sum.inr.inj q,decide_eq_false e]
theorem To (a:Int) (b:Str):decide ((Sum.inl a:Key)=Sum.inr b)=af:=decide_eq_false λq=>nomatch q
theorem Tp (a:Str) (b:Int):decide ((Sum.inr a:Key)=Sum.inl b)=af:=decide_eq_false λq=>nomatch q
def c6 (prog:dD) (w:cw):PySem.KeyKind prog w Key where
 is:=ue
 hash:=agM w
 inj:=λv a b ha hb=>by
  rcases fV ha with⟨i,t,rfl,rfl⟩|⟨x,t,rfl,rfl⟩
  .rcases fV hb with⟨j,u,rfl,e⟩|⟨y,u,rfl,e⟩
   .injection e with e1 _;rw[e1]
   .show nomatch e
  .rcases fV hb with⟨j,u,rfl,e⟩|⟨y,u,rfl,e⟩
   .show nomatch e
   .injection e with e1 _;rw[e1]
 byValue:=λk v h=>by
  rcases fV h with⟨i,t,rfl,rfl⟩|⟨x,t,rfl,rfl⟩<;>rfl
 pyHash:=λhv h=>by
  rcases fV hv with⟨i,t,rfl,rfl⟩|⟨x,t,rfl,rfl⟩
  .show wpAny_pyHash_int h
  .show wpAny_pyHash_str h
 eqBool:=λhu hv h=>by
  rcases fV hu with⟨i,t,rfl,rfl⟩|⟨x,t,rfl,rfl⟩
  .rcases fV hv with⟨j,u,rfl,rfl⟩|⟨y,u,rfl,rfl⟩
   .rw[Tl]at h;show aaK h
   .rw[To]at h;show acH i t y u _ _ _ _ h
  .rcases fV hv with⟨j,u,rfl,rfl⟩|⟨y,u,rfl,rfl⟩
   .rw[Tp]at h;show acI x t j u _ _ _ _ h
   .rw[Tn]at h;show wpAny_eqBool_str h
 «strs»:=λk x t v h=>by
  rcases fV h with⟨i,u,rfl,e⟩|⟨y,u,rfl,e⟩
  .show nomatch e
  .injection e with e1 _;subst e1;cases v<;>rfl
theorem CO (prog:dD) (w:cw) (i:Int) (t:Tok):(c6 prog w).is (.inl i) (.int i t)=ah:=Ja i t
theorem CP (prog:dD) (w:cw) (x:Str) (t:Tok):(c6 prog w).is (.inr x) (.str x t)=ah:=Jb x t
end L2
variable {xs:List (List L2.Key × PySem.Addr × PySem.Value)}
namespace L2
inductive V where
 |non|bl (b:Bool)|int (i:Int)|str (x:Str)|pU (b:Array UInt8)|uS (b:UInt64)|ref (a:aj)|ty (n:String)
 deriving DecidableEq
noncomputable def RelV:V->ai->zk
 |.non,u=>u=Value.none
 |.bl b,u=>u=Value.bool b
 |.int i,u=>∃ t,u=Value.int i t
 |.str x,u=>∃ t,u=Value.str x t
 |.pU b,u=>∃ t,u=Value.bytes b t
 |.uS b,u=>∃ t,u=Value.float b t
 |.ref a,u=>u=Value.ref a
 |.ty n,u=>u=Value.type n
abbrev Vals:List V->List ai->zk:=Paired RelV
theorem Vals.length {xs:List V}{us:List ai}(r:Vals xs us):xs.length=us.length:=Paired.length r
theorem Vals.get:∀ {xs:List V}{us:List ai}{i:Nat}{x:V},Vals xs us->xs[i]?=ae x->∃ u,us[i]?=ae u /\ RelV x u
 |_,_,_,_,.nil,e=>by simp at e
 |_,_,0,_,.cons r _,e=>by simp at e;subst e;show#[_,rfl,r]
 | _,_,i+1,x,.cons _ t,e=>by
   let#[u,h1,h2]:=Vals.get t (by simpa using e);show#[u,by simpa using h1,h2]
theorem Vals.set {x:V}{u:ai}(r:RelV x u):∀ {xs:List V}{us:List ai}(i:Nat),Vals xs us->Vals (xs.set i x) (us.set i u)
 |_,_,_,.nil=>.nil
 |_,_,0,.cons _ t=>.cons r t
 |_,_,i+1,.cons q t=>.cons q<|Vals.set r i t
theorem Vals.append:∀ {xs ys:List V}{us ws:List ai},Vals xs us->Vals ys ws->Vals (xs++ys) (us++ws)
 |_,_,_,_,.nil,s=>s
 |_,_,_,_,.cons r t,s=>.cons r<|Vals.append t s
theorem Vals.take:∀ {xs:List V}{us:List ai}(n:Nat),Vals xs us->Vals (xs.take n) (us.take n)
 |_,_,0,_=>.nil
 |_,_,_+1,.nil=>.nil
 |_,_,n+1,.cons r t=>.cons r<|Vals.take n t
theorem Vals.drop:∀ {xs:List V}{us:List ai}(n:Nat),Vals xs us->Vals (xs.drop n) (us.drop n)
 |_,_,0,r=>r
 |_,_,_+1,.nil=>.nil
 |_,_,n+1,.cons _ t=>Vals.drop n t
def nY:Option V->Option ai->zk
 |some v,ae u=>RelV v u
 |none,ag=>True
 |_,_=>False
def KV {κ:Type}:List (κ×V)->List (κ×ai)->zk:=Paired λ(p:κ×V) (q:κ×ai)=>p.1=q.1 /\ RelV p.2 q.2
noncomputable def kV:Key->V
 |.inl i=>.int i
 |.inr x=>.str x
inductive HO where
 /-- a list -/
 |lst (xs:List V)
 /-- a tuple (never changes) -/
 |tup (xs:List V)
 /-- a dict whose keys are ints and texts;one whose keys are tuples of ints and texts (the empty one is both) -/
 |dK (ao:List<|Key×V)|dT (ao:List<|List Key×V)
 /-- a set of ints: its members,its size -/
 |set (S:Int->Bool) (n:Nat)
 /-- an instance of the class at C,its dict at dx,its attributes -/
 |ins (C dx:aj) (fs:List<|Str×V)
 /-- the dict of the instance at x -/
 |own (x:aj)
 /-- the dict of an exception -/
 |xd (fs:List<|Str×V)
 /-- a bound method,f of x -/
 |met (f x:aj)
 /-- a range object lo,lo+1,.. below hi -/
 |HY (lo hi:Int)
 /-- a thing that is known to the object (the alo;a dict while a loop walks it): read,never written while it is so -/
 |bM (o:aZ) (u:HO)
 /-- a code alp table -/
 |uf (ps:Array ai)
 /-- any other thing,by alq is ah of its one object (a def of alr own: als a S n:=HO.ext λh=>..) -/
 |ext (φ:aI->zk)
noncomputable abbrev Hp:=aj->Option HO
noncomputable def upd (H:Hp) (a:aj) (o:HO):Hp:=λb=>if b=a then ae o else H b
theorem fw {H:Hp}{o:HO}:upd H a o a=ae o:=by unfold upd;rw[if_pos rfl]
theorem fC {H:Hp}{b:aj}{o:HO}(h:b≠a):upd H a o b=H b:=by unfold upd;rw[if_neg h]
theorem Wa {H:Hp}{b:aj}{o u:HO}(h:H a=ae o) (h':H b=ae u) (d:o≠u):a≠b:=by
 intro e;subst e;rw[h]at h';show d<|Option.some.inj h'
theorem f8 {H:Hp}{b:aj}{o:HO}(h:H a=ae o) (h':H b=ag):a≠b:=by
 intro e;subst e;rw[h]at h';cases h'
section
variable (P:dD) (w:cw)
noncomputable def cz (H:Hp) (h:aI) (a:aj):HO->zk
 |.lst xs=>xs.length<=sizeLine /\ ∃ (its:List ai) (n:Nat),Vals xs its /\ h.get? a=ae { cls:=.type "list",data:=.seq its.toArray n }
 |.tup xs=>xs.length<=sizeLine /\ ∃ its:List ai,Vals xs its /\ IsTup h a its.toArray
 |.dK ao=>ao.length<=sizeLine /\ (a==sysModules)=af /\ ∃ vs,KV ao vs /\ h.DictOf (c6 P w) a vs
 |.dT ao=>ao.length<=sizeLine /\ (a==sysModules)=af /\ ∃ xs:List (List Key×aj×ai),
  Paired (λ(p:List Key×V) (q:List Key×aj×ai)=>p.1=q.1 /\ H q.2.1=ae (.tup<|p.1.map kV) /\ RelV p.2 q.2.2) ao xs /\
  ∃ o es ep,h.get? a=ae o /\ o.ExactDict /\ o.data=.dict es ep /\ es.toList=xs.map (entryOfKey<|tupleKind<|c6 P w) /\ (xs.map (·.1)).Nodup
 |.set S n=>h.SetOf (intKind P w) a S n
 |.ins C dx fs=>H dx=ae (.own a) /\ fs.length<=1000 /\ dx≠a /\ h.get? a=ae (PySem.W.instObj C dx) /\
  ∃ mA,h.Ns1 dx mA /\ (∀ f,nY (fs.lookup f)<|mA f) /\ PySem.Within mA (fs.map (·.1))
 |.own _=>∃ o,h.get? a=ae o
 |.xd fs=>∃ mA,h.Ns1 a mA /\ ∀ f,nY (fs.lookup f) (mA f)
 |.HY lo hi=>∃ t u v,h.get? a=ae { cls:=.type "range",data:=.fields (List.toArray [.int lo t,.int hi u,.int 1 v]) }
 |.bM o u=>h.get? a=ae o /\ cz H h a u
 |.uf ps=>h.get? a=ae { cls:=.none,data:=.fields ps }
 |.met f x=>h.get? a=ae (PySem.W.methodObj (.ref f)<|.ref x)
 |.ext φ=>φ h /\ (∃ o,h.get? a=ae o) /\ ∀ h1 h2:aI,φ h1->(∀ o,h1.get? a=ae o->h2.get? a=ae o)->φ h2
def cM (H:Hp) (h:aI):zk:=∀ a o,H a=ae o->cz P w H h a o
end
section
variable {H H':Hp} {o:HO}
theorem cz.lt (x:cz P w H h a o):a<h.objs.size:=by
 cases o with
 |lst xs=>let#[_,_,_,_,e]:=x;show a9 e
 |tup xs=>let#[_,_,_,p]:=x;show p.lt
 |dK ao=>let#[_,_,_,_,o,_,_,e,_]:=x;show a9 e
 |dT ao=>let#[_,_,_,_,o,_,_,e,_]:=x;show a9 e
 |set S n=>let#[o,_,_,_,e,_]:=x;show a9 e
 |ins C dx fs=>let#[_,_,_,e,_]:=x;show a9 e
 |own y=>let#[_,e]:=x;show a9 e
 |xd fs=>let#[_,#[_,_,_,e,_],_]:=x;show a9 e
 |HY lo hi=>let#[_,_,_,e]:=x;show a9 e
 |bM ob u=>let#[e,_]:=x;show a9 e
 |uf ps=>show a9<|x
 |met f y=>show a9<|x
 |ext φ=>let#[_,#[_,e],_]:=x;show a9 e
theorem Paired.XO {α β:Type}{F G:α->β->zk}:∀ {l₁:List α}{l₂:List β},Paired F l₁ l₂->(∀ a b,F a b->G a b)->Paired G l₁ l₂
 |_,_,.nil,_=>.nil
 |_,_,.cons r t,f=>.cons (f _ _ r)<|Paired.XO t f
theorem cz.stay (x:cz P w H h a o) (k:∀ b u,(b=a \/ H b=ae (.own a))->h.get? b=ae u->h'.get? b=ae u)
 (ho:∀ b,H b=ae (.own a)->H' b=ae (.own a)) (ht:∀ b xs,H b=ae (.tup xs)->H' b=ae (.tup xs)):cz P w H' h' a o:=by
 induction o with
 |lst xs=>let#[z,its,n,r,e]:=x;show#[z,its,n,r,k _ _ (.inl zc) e]
 |tup xs=>let#[z,its,r,ob,e,c]:=x;show#[z,its,r,ob,k _ _ (.inl zc) e,c]
 |dK ao=>let#[z,y,vs,r,ob,es,ep,e,c]:=x;show#[z,y,vs,r,ob,es,ep,k _ _ (.inl zc) e,c]
 |dT ao=>
   let#[z,y,xs,r,ob,es,ep,e,c]:=x;show#[z,y,xs,Paired.XO r λp q z=>#[z.1,ht _ _ z.2.1,z.2.2],ob,es,ep,k _ _ (.inl zc) e,c]
 |set S n=>let#[ob,es,ep,t,e,c]:=x;show#[ob,es,ep,t,k _ _ (.inl zc) e,c]
 |ins C dx fs=>
   let#[d,z,ne,e,mA,#[od,es,ep,e2,c],r]:=x;show#[ho _ d,z,ne,k _ _ (.inl zc) e,mA,#[od,es,ep,k _ _ (.inr d) e2,c],r]
 |own y=>let#[ob,e]:=x;show#[ob,k _ _ (.inl zc) e]
 |xd fs=>let#[mA,#[od,es,ep,e,c],r]:=x;show#[mA,#[od,es,ep,k _ _ (.inl zc) e,c],r]
 |HY lo hi=>let#[t,u,v,e]:=x;show#[t,u,v,k _ _ (.inl zc) e]
 |bM ob u ih=>let#[e,q]:=x;show#[k _ _ (.inl zc) e,ih q]
 |uf ps=>
   show k a _ (.inl zc) x
 |met f y=>
   show k a _ (.inl zc) x
 |ext φ=>let#[p,#[o,e],st]:=x;show#[st _ _ p λo q=>k _ _ (.inl zc) q,#[o,k _ _ (.inl zc) e],st]
theorem cM.lt (x:cM P w H h) (e:H a=ae o):a<h.objs.size:=(x a o e).lt
theorem cM.fresh (x:cM P w H h) (e:h.objs.size<=a):H a=ag:=by
 cases q:H a with
 |none=>rfl
 |some u=>show absurd (kB (x.lt q) e)<|hV _
theorem cM.kept (x:cM P w H h) (k:∀ b u,h.get? b=ae u->h'.get? b=ae u):cM P w H h':=λa o e=>
 (x a o e).stay (λb u _ q=>k b u q) (λ_ q=>q) λ_ _ q=>q
theorem cM.laid (x:cM P w H h) (k:∀ b u,h.get? b=ae u->h'.get? b=ae u) (hp:h.objs.size<=a) (new:cz P w (upd H a o) h' a o):cM P w (upd H a o) h':=λb u e=>by
 have hn:=x.fresh hp;by_cases hb:b=a
 .subst hb;rw[fw]at e;cases e;show new
 .rw[fC hb]at e;show(x b u e).stay (λc v _ q=>k c v q) (λc q=>by rw[fC<|f8 q hn];show q) λc xs q=>by rw[fC<|f8 q hn];show q
end
def Rd (H:Hp) (a:aj) (u:HO):zk:=H a=ae u \/ ∃ o,H a=ae (.bM o u)
theorem Rd.ok {H:Hp}{u:HO}(r:Rd H a u) (x:cM P w H h):cz P w H h a u:=by
 rcases r with r|⟨o,r⟩
 .show x a u r
 .let#[_,q]:=x a _ r;show q
noncomputable def yM:Option HO->zk
 |some (.lst _)=>True
 |some (.dK _)=>True
 |some (.dT _)=>True
 |some (.set _ _)=>True
 |some (.ins _ _ _)=>True
 |some (.ext _)=>True
 |_=>False
section
variable {H:Hp} {x e:aj} {o':HO}
theorem cM.write (ok:cM P w H h) (mu:yM<|H x) (he:e=x \/ H e=ae (.own x)) (k:∀ b u,b≠e->h.get? b=ae u->h'.get? b=ae u) (xu:∃ u,h'.get? e=ae u)
 (new:cz P w (upd H x o') h' x o'):cM P w (upd H x o') h':=λb u q=>by
 have acQ:∀ c y,H c=ae (.own y)->c≠x:=λc y r z=>by subst z;rw[r]at mu;show mu
 by_cases hb:b=x
 .subst hb;rw[fw]at q;cases q;show new
 .rw[fC hb]at q;by_cases vI:b=e
  .have q':H b=ae (.own x):=by
    rcases he with z|z
    .show absurd (vI.trans z) hb
    .rw[vI];show z
   rw[q]at q';cases q';let#[v,hv]:=xu;show#[v,by rw[vI];show hv]
  .refine(ok b u q).stay (λc v hc r=>k c v ?_ r) (λc r=>by rw[fC<|acQ c b r];show r) λc xs r=>by rw[fC<|(λc xs r z=>by subst z;rw[r]at mu;show mu) c xs r];show r
   rcases hc with rfl|hc
   .show vI
   .rintro rfl;rcases he with z|z
    .show acQ c b hc z
    .rw[hc]at z;cases z;show hb zc
end
structure Un (fs ex:List aj) (H H':Hp) (h h':aI):zk where
 keep:∀ b o,h.get? b=ae o->H b=ag->b∉fs->b∉ex->h'.get? b=ae o
 slot:∀ b o,h.get? b=ae o->H b=ag->b∈fs->b∉ex->∃ sl,h'.get? b=ae { o with slots:=sl }
 free:∀ b o,h.get? b=ae o->H b=ag->b∉ex->H' b=ag
 there:∀ b o,h.get? b=ae o->b∉ex->∃ o',h'.get? b=ae o'
 nZ:∀ b xs,H b=ae (.tup xs)->H' b=ae (.tup xs)
 pV:∀ b o u,H b=ae (.bM o u)->H' b=ae (.bM o u)
 qW:∀ b ps,H b=ae (.uf ps)->∃ more,H' b=ae (.uf<|ps++more)
section
variable {fs agN ex alu:List aj} {H H1 H2:Hp} {h1 h2:aI} {x e:aj} {o:HO}
theorem Un.any (u:Un fs ex H H1 h h1) {b:aj}{ob:aZ}(q:h.get? b=ae ob) (n:H b=ag) (hx:b∉ex):∃ sl,h1.get? b=ae { ob with slots:=sl }:=by
 by_cases hb:b∈fs
 .show u.slot b ob q n hb hx
 .show#[ob.slots,u.keep b ob q n hb hx]
theorem Un.kept (k:∀ b u,h.get? b=ae u->h'.get? b=ae u):Un fs ex H H h h' :=
 #[λb ob q _ _ _=>k b ob q,λb ob q _ _ _=>#[ob.slots,k b ob q],λ_ _ _ n _=>n,λb ob q _=>#[ob,k b ob q],λ_ _ q=>q,λ_ _ _ q=>q,λ_ ps q=>#[#[],by rw[q];simp]]
theorem Un.refl:Un fs ex H H h h:=Un.kept λ_ _ q=>q
theorem Un.laid (k:∀ b u,h.get? b=ae u->h'.get? b=ae u) (hp:h.objs.size<=a) (hn:H a=ag):Un fs ex H (upd H a o) h h' where
 keep:=λb u q _ _ _=>k b u q
 slot:=λb u q _ _ _=>#[u.slots,k b u q]
 free:=λb u q n _=>by rw[fC<|bI<|kB (a9 q) hp];show n
 there:=λb u q _=>#[u,k b u q]
 nZ:=λb xs q=>by rw[fC<|f8 q hn];show q
 pV:=λb u xs q=>by rw[fC<|f8 q hn];show q
 qW:=λb ps q=>#[#[],by rw[fC<|f8 q hn,q];simp]
theorem Un.write (mu:yM<|H x) (he:e=x \/ H e=ae (.own x)) (k:∀ b u,b≠e->h.get? b=ae u->h'.get? b=ae u) (xu:∃ u,h'.get? e=ae u):Un fs ex H (upd H x o) h h':=by
 have hx:∀ b,H b=ag->b≠x:=λb n z=>by subst z;rw[n]at mu;show mu
 have hb:∀ b,H b=ag->b≠e:=λb n z=>by
  subst z;rcases he with r|r
  .show hx b n r
  .rw[n]at r;cases r
 have hm:∀ b u,H b=ae u->¬ yM (ae u)->b≠x:=λb u q nm z=>by subst z;rw[q]at mu;show nm mu
 refine#[λb u q n _ _=>k b u (hb b n) q,λb u q n _ _=>#[u.slots,k b u (hb b n) q],λb u q n _=>by rw[fC<|hx b n];show n,λb u q _=>?_,
  λb xs q=>by rw[fC<|hm b _ q λz=>z];show q,λb u xs q=>by rw[fC<|hm b _ q λz=>z];show q,λb ps q=>#[#[],by rw[fC<|hm b _ q λz=>z,q];simp]]
 by_cases vI:b=e
 .subst vI;show xu
 .show#[u,k b u vI q]
end
noncomputable def agO (h:aI) (H:Hp):List aj:=(List.range h.objs.size).filter λa=>(H a).isSome
def xw (h:aI) (H:Hp):aI:=PySem.W.hideAll h<|agO h H
theorem Jc (h:aI) (H:Hp):(xw h H).objs.size=h.objs.size:=PySem.W.hideAll_size _ _
theorem Lo {H:Hp}{b:aj}(e:h.get? b=ae o) (n:H b=ag):(xw h H).get? b=ae o:=
 PySem.W.hideAll_get _ e λhm=>by
  have q:=(pR.mp hm).2;rw[n]at q;simp at q
theorem Ol {H:Hp}{b:aj}(e:(xw h H).get? b=ae o):h.get? b=ae o /\ H b=ag:=by
 have e':=PySem.W.of_hideAll _ e;refine#[e',?_];cases q:H b with
 |none=>rfl
 |some x=>
   have z:(xw h H).get? b=ag:=PySem.W.hideAll_none _ (pR.mpr #[List.mem_range.mpr<|a9 e',by simp[q]]);rw[z]at e;cases e
end L2
variable {H H' F F':L2.Hp}{v:L2.V}{ao:List (List L2.Key × L2.V)}
namespace L2
structure Mod (K:PySem.W.Frag) (mg:Str->Option ai) (base:aI):zk where
 XQ:K.In base
 glob:base.Ns mainGlobals mg
 blt:∃ mb,base.Ns builtinsNs mb /\ ∀ x:Str,x ≠ "__name__"->mb x=bootBuiltins x
 nolimit:base.NoLimit
structure Cx where
 prog:dD
 w:cw
 K:PySem.W.Frag
 mg:Str->Option ai
 base:aI
 A:eN
 N:List Str
 s₀:au
 H₀:Hp
 env:Env
 outer:List Env
 stack:List Env
 ex:List aj
 fn:Str->Bool
 calm:Bool
 pn:List (aj×aZ)
 xe:ai->au->zk
noncomputable def pW (l:List Env):List aj:=l.filterMap (·.frame)
abbrev Cx.fs (X:Cx):List aj:=pW X.outer
def xx (sc:bT) (x:Str):zk:=sc.names.lookup x=ae .local \/ sc.names.lookup x=ae .cell \/ sc.names.lookup x=ae .free
def Loc (sc:bT) (x:Str):zk:=sc.names.lookup x=ae .local \/ sc.names.lookup x=ae .cell
def Look (env:Env) (h:aI) (m:Str->Option ai) (x:Str) (u:ai):zk:=
 (env.kindOf x=ae .local /\ m x=ae u) \/ ((env.kindOf x=ae .cell \/ env.kindOf x=ae .free) /\ ∃ c,env.cells.lookup x=ae c /\ h.IsCell c (ae u))
structure Cx.Ok (X:Cx):zk where
 mod:Mod X.K X.mg X.base
 kind:X.env.scope.kind=.function
 glob:X.env.globals=mainGlobals
 blt:X.env.builtins=builtinsNs
 above:X.s₀.heap.objs.size<=X.env.locals
 inj:∀ x y c,X.env.cells.lookup x=ae c->X.env.cells.lookup y=ae c->x=y
 has:∀ x,(X.env.kindOf x=ae .cell \/ X.env.kindOf x=ae .free)->∃ c,X.env.cells.lookup x=ae c
 yN:∀ x c,X.fn x=ah->X.env.cells.lookup x=ae c->X.s₀.heap.objs.size<=c
 hd:X.calm=ah->X.A.handled=ag
 frames:X.A.frames=ae X.stack
 HZ:X.stack=X.outer \/ (X.stack=X.env::X.outer /\ X.env.frame=ae X.env.locals)
 xy:∀ b∈X.ex,b≠X.env.locals /\ ∀ x c,X.env.cells.lookup x=ae c->c≠b
 bs:∀ b o,X.base.get? b=ae o->X.s₀.heap.get? b=ae o /\ X.H₀ b=ag
 vJ:X.base.objs.size<=X.s₀.heap.objs.size
 yO:∀ b o,X.base.get? b=ae o->b∉X.ex
 xA:∀ b∈X.ex,b∉X.fs
 qX:X.s₀.heap.FunFrames X.base X.outer
 xC:∀ b∈X.fs,X.H₀ b=ag
structure Inv (X:Cx) (pins:List<|aj×aZ) (σ:List<|Option V) (H:Hp) (s:au):zk where
 ok:X.Ok
 os:s.os=X.s₀.os
 bare:AllBare s.gens
 base:Un X.fs X.ex X.H₀ H X.s₀.heap s.heap
 loc:∃ m,s.heap.Ns X.env.locals m /\ ∀ (i:Nat) (x:Str) (v:V),X.N[i]?=ae x->σ[i]?=ae (ae v)->xx X.env.scope x->∃ u,RelV v u /\ Look X.env s.heap m x u
 cell:∀ x c,X.env.cells.lookup x=ae c->∃ v,s.heap.IsCell c v
 free:H X.env.locals=ag
 qt:∀ x c,X.env.cells.lookup x=ae c->H c=ag
 pin:∀ p∈X.pn++pins,s.heap.get? p.1=ae p.2 /\ H p.1=ag /\ p.1≠X.env.locals /\ p.1∉X.fs /\ ∀ v,p.2.data≠.cell v
 aD:cM X.prog X.w H s.heap
 len:σ.length=X.N.length
section
variable {X:Cx} {σ:List (Option V)} {s:au} 
theorem Cx.Ok.agP (ok:X.Ok) {b:aj}(e:X.base.get? b=ae o):b∉X.fs:=λhb=>by
 have:=(ok.qX.mem hb).1;rw[e]at this;cases this
theorem Inv.bs (I:Inv X pins σ H s):∀ b o,X.base.get? b=ae o->s.heap.get? b=ae o /\ H b=ag:=λb o e=>
 #[I.base.keep b o (I.ok.bs b o e).1 (I.ok.bs b o e).2 (I.ok.agP e)<|I.ok.yO b o e,I.base.free b o (I.ok.bs b o e).1 (I.ok.bs b o e).2<|I.ok.yO b o e]
theorem Inv.bk (I:Inv X pins σ H s):∀ b o,X.base.get? b=ae o->s.heap.get? b=ae o:=λb o e=>(I.bs b o e).1
theorem Inv.mod (I:Inv X pins σ H s):Mod X.K X.mg X.base:=I.ok.mod
theorem Inv.kP (I:Inv X pins σ H s):X.K.In s.heap:=I.ok.mod.XQ.keeps I.bk
theorem Inv.lt (I:Inv X pins σ H s):X.env.locals<s.heap.objs.size:=let ⟨_,hn,_⟩:=I.loc;hn.lt
theorem Inv.sz (I:Inv X pins σ H s):X.s₀.heap.objs.size<=s.heap.objs.size:=cB I.ok.above<|nh I.lt
theorem Inv.agQ (I:Inv X pins σ H s) (h:s.heap.objs.size<=a):a∉X.fs:=λhb=>by
 let#[_,o,ho,_]:=I.ok.qX.mem hb;show absurd (kB (a9 ho)<|cB I.sz h)<|hV _
theorem Inv.vK (I:Inv X pins σ H s):∀ x c,X.env.cells.lookup x=ae c->c≠X.env.locals:=λx c e z=>by
 let#[v,o,ho,hd]:=I.cell x c e;let#[m,#[o',es,ep,kD,XR,_],_]:=I.loc;rw[z,kD]at ho;cases ho;rw[XR]at hd;cases hd
theorem Inv.qX (I:Inv X pins σ H s):s.heap.FunFrames X.base X.outer:=by
 have all:∀ (l),(∀ b∈pW l,b∈X.fs)->X.s₀.heap.FunFrames X.base l->s.heap.FunFrames X.base l:=by
  intro l;induction l with
  |nil=>intro _ _;trivial
  |cons env r ih=>
    intro hs hl;let#[hk,#[L,o,hf,hn,ho,hd],hr]:=hl;have hL:=hs L (by unfold pW;rw[qk,hf];show bD);let#[sl,e]:=I.base.slot L o ho (I.ok.xC L hL) hL λz=>I.ok.xA L z hL;show#[hk,#[L,_,hf,hn,e,hd],ih (λb hb=>hs b (by unfold pW;rw[qk,hf];show bE _ hb)) hr]
 show all X.outer (λ_ hb=>hb) I.ok.qX
theorem Inv.stack (I:Inv X pins σ H s):s.heap.FunFrames X.base X.stack:=by
 rcases I.ok.HZ with e|⟨e,hf⟩
 .rw[e];show I.qX
 .rw[e];let#[m,hn,_]:=I.loc;show .cons (by rw[I.ok.kind];decide) hf hn (Xm<|cB I.ok.vJ I.ok.above) I.qX
theorem Inv.XS (I:Inv X pins σ H s):∀ b∈pW X.stack,b∈X.env.locals::X.fs:=λb hb=>by
 rcases I.ok.HZ with e|⟨e,hf⟩
 .rw[e]at hb;show bE _ hb
 .rw[e]at hb;unfold pW at hb;rw[qk,hf]at hb;show hb
theorem Inv.acR (I:Inv X pins σ H s):∀ b∈pW X.stack,H b=ag:=λb hb=>by
 rcases bw.mp (I.XS b hb) with e|hb
 .rw[e];show I.free
 .let#[_,o,ho,_]:=I.ok.qX.mem hb;show I.base.free b o ho (I.ok.xC b hb) λz=>I.ok.xA b z hb
theorem Inv.step {g':Array GenState}{d':Drawn}(I:Inv X pins σ H s)
 (sj:∀ b∈ch,(b∈X.ex \/ X.s₀.heap.objs.size<=b) /\ b≠X.env.locals /\ (∀ x c,X.env.cells.lookup x=ae c->c≠b) /\ ∀ p∈X.pn++pins,p.1≠b)
 (keep:∀ b o,b≠X.env.locals->b∉X.fs->b∉ch->s.heap.get? b=ae o->H b=ag->h'.get? b=ae o)
 (slot:∀ b o,b≠X.env.locals->b∈X.fs->b∉ch->s.heap.get? b=ae o->H b=ag->∃ sl,h'.get? b=ae { o with slots:=sl }) (free:∀ b o,b∉ch->s.heap.get? b=ae o->H b=ag->H' b=ag)
 (there:∀ b o,b∉ch->s.heap.get? b=ae o->∃ o',h'.get? b=ae o')
 (nZ:∀ b xs,H b=ae (.tup xs)->H' b=ae (.tup xs)) (pV:∀ b o u,H b=ae (.bM o u)->H' b=ae (.bM o u)) (qW:∀ b ps,H b=ae (.uf ps)->∃ more,H' b=ae (.uf<|ps++more))
 (ns:∀ m,s.heap.Ns X.env.locals m->h'.Ns X.env.locals m) (aD:cM X.prog X.w H' h') (hg:AllBare g') :
 Inv X pins σ H' { s with heap:=h',gens:=g',drawn:=d',toks:=t' }:=by
 have acS:∀ b o,X.s₀.heap.get? b=ae o->b≠X.env.locals:=λb o e=>bI<|kB (a9 e) I.ok.above;have qu:∀ b o,X.s₀.heap.get? b=ae o->b∉X.ex->b∉ch:=λb o e hx hb=>by
  rcases(sj b hb).1 with z|z
  .show hx z
  .show absurd (kB (a9 e) z)<|hV _
 have cellK:∀ x c,X.env.cells.lookup x=ae c->∀ v,s.heap.IsCell c v->h'.IsCell c v:=λx c e v ⟨o,ho,hd⟩=>by
  have qY:=λz=>(sj c z).2.2.1 x c e zc;by_cases hc:c∈X.fs
  .let#[sl,q]:=slot c o (I.vK x c e) hc qY ho<|I.qt x c e;show#[_,q,hd]
  .show#[o,keep c o (I.vK x c e) hc qY ho<|I.qt x c e,hd]
 refine#[I.ok,I.os,hg,#[λb o e n hb hx=>(keep b o (acS b o e) hb (qu b o e hx) (I.base.keep b o e n hb hx)<|I.base.free b o e n hx),λb o e n hb hx=>?_,λb o e n hx=>?_,λb o e hx=>?_,λb xs e=>nZ b xs<|I.base.nZ b xs e,λb o xs e=>pV b o xs<|I.base.pV b o xs e,λb ps e=>?_],?_,λx c e=>?_,?_,λx c e=>?_,λp hp=>?_,aD,I.len]
 .let#[sl,e1]:=I.base.slot b o e n hb hx;let#[agR,e2]:=slot b _ (acS b o e) hb (qu b o e hx) e1<|I.base.free b o e n hx;show#[agR,e2]
 .let#[o',e1]:=I.base.there b o e hx;show free b o' (qu b o e hx) e1<|I.base.free b o e n hx
 .let#[o',e1]:=I.base.there b o e hx;show there b o' (qu b o e hx) e1
 .let#[m1,e1]:=I.base.qW b ps e;let#[m2,e2]:=qW b _ e1;show#[m1++m2,by rw[e2,Array.append_assoc]]
 .let#[m,hn,hl]:=I.loc;refine#[m,ns m hn,λi x v e1 e2 e3=>?_];let#[u,r,l]:=hl i x v e1 e2 e3;refine#[u,r,?_];rcases l with l|⟨k,c,e,z⟩
  .show .inl l
  .show .inr #[k,c,e,cellK x c e _ z]
 .let#[v,z]:=I.cell x c e;show#[v,cellK x c e v z]
 .let#[m,#[o,_,_,ho,_],_]:=I.loc;show free _ o (λz=>(sj _ z).2.1 zc) ho I.free
 .let#[v,o,ho,hd]:=I.cell x c e;show free c o (λz=>(sj c z).2.2.1 x c e zc) ho<|I.qt x c e
 .let#[e,n,ne,nf,d]:=I.pin p hp;have qY:=λz=>(sj p.1 z).2.2.2 p hp zc;show#[keep p.1 p.2 ne nf qY e n,free p.1 p.2 qY e n,ne,nf,d]
theorem Inv.un (I:Inv X pins σ H s) (u:Un X.fs [] H H' s.heap h') (aD:cM X.prog X.w H' h'):Inv X pins σ H' { s with heap:=h',toks:=t' }:=by
 let#[m,#[o,es,ep,ho,r],_]:=id I.loc;let#[sl,hL]:=u.any ho I.free zj;show I.step (ch:=[]) (λ_ z=>nomatch z) (λb o _ hb _ e n=>u.keep b o e n hb zj) (λb o _ hb _ e n=>u.slot b o e n hb zj) (λb o _ e n=>u.free b o e n zj) (λb o _ e=>u.there b o e zj) u.nZ u.pV u.qW (λm' hm=>by
  let#[o',es',sk,kD,r']:=hm;rw[ho]at kD;cases kD;show#[_,es',sk,hL,r']) aD I.bare
theorem Inv.call {g':Array GenState}{d':Drawn}(I:Inv X pins σ H s) (u:Un (pW X.stack) ch H H' s.heap h') (aD:cM X.prog X.w H' h') (hg:AllBare g')
 (sj:∀ b∈ch,(b∈X.ex \/ X.s₀.heap.objs.size<=b) /\ b≠X.env.locals /\ (∀ x c,X.env.cells.lookup x=ae c->c≠b) /\ ∀ p∈X.pn++pins,p.1≠b) :
 Inv X pins σ H' { s with heap:=h',gens:=g',drawn:=d',toks:=t' }:=by
 let#[m,#[o,es,ep,ho,r],_]:=id I.loc;let#[sl,hL]:=u.any ho I.free λz=>(sj _ z).2.1 zc;show I.step sj (λb o hL hb hc e n=>u.keep b o e n (λz=>(bw.mp<|I.XS b z).elim hL hb) hc) (λb o _ _ hc e n=>u.any e n hc) (λb o hc e n=>u.free b o e n hc) (λb o hc e=>u.there b o e hc) u.nZ u.pV u.qW (λm' hm=>by
  let#[o',es',sk,kD,r']:=hm;rw[ho]at kD;cases kD;show#[_,es',sk,hL,r']) aD hg
theorem Inv.turned (I:Inv X pins σ H s) (k:∀ b o,b≠it->s.heap.get? b=ae o->h'.get? b=ae o) (hn:H it=ag) (hL:it≠X.env.locals)
 (h1:it∈X.ex \/ X.s₀.heap.objs.size<=it) (h2:∀ x c,X.env.cells.lookup x=ae c->c≠it) (h3:∀ p∈X.pn++pins,p.1≠it):Inv X pins σ H { s with heap:=h',toks:=t' }:=by
 have acT:∀ b u,H b=ae u->b≠it:=λb u e z=>by rw[z,hn]at e;cases e
 refine I.step (ch:=[it]) (λb hb=>?_) (λb o _ _ hc e _=>k b o (λz=>hc (by simp[z])) e) (λb o _ _ hc e _=>#[o.slots,k b o (λz=>hc (by simp[z])) e]) (λ_ _ _ _ n=>n)
  (λb o hc e=>#[o,k b o (λz=>hc (by simp[z])) e]) (λ_ _ e=>e) (λ_ _ _ e=>e) (λb ps e=>#[#[],by rw[e];simp]) (λm hm=>?_) (λb u e=>?_) I.bare
 .have e:b=it:=by simpa using hb
  subst e;show#[h1,hL,h2,h3]
 .let#[o,es,ep,ho,r]:=hm;show#[o,es,ep,k _ o (Ne.symm hL) ho,r]
 .refine(I.aD b u e).stay (λc v hc q=>k c v ?_ q) (λ_ q=>q) λ_ _ q=>q;rcases hc with z|z
  .rw[z];show acT b u e
  .show acT c _ z
theorem Inv.tok (I:Inv X pins σ H s) (t:Nat):Inv X pins σ H { s with toks:=t }:=I.un Un.refl I.aD
theorem Inv.kept {t':Nat}(I:Inv X pins σ H s) (k:∀ b u,s.heap.get? b=ae u->h'.get? b=ae u):Inv X pins σ H { s with heap:=h',toks:=t' }:=I.un (Un.kept k)<|I.aD.kept k
theorem Inv.laid {a:aj}{o:HO}{t':Nat}(I:Inv X pins σ H s) (k:∀ b u,s.heap.get? b=ae u->h'.get? b=ae u) (hp:s.heap.objs.size<=a) (new:cz X.prog X.w (upd H a o) h' a o) :
 Inv X pins σ (upd H a o) { s with heap:=h',toks:=t' }:=I.un (Un.laid k hp<|I.aD.fresh hp)<|I.aD.laid k hp new
theorem Inv.write {x e:aj}{o:HO}{t':Nat}(I:Inv X pins σ H s) (mu:yM<|H x) (he:e=x \/ H e=ae (.own x)) (k:∀ b u,b≠e->s.heap.get? b=ae u->h'.get? b=ae u) (xu:∃ u,h'.get? e=ae u)
 (new:cz X.prog X.w (upd H x o) h' x o):Inv X pins σ (upd H x o) { s with heap:=h',toks:=t' }:=I.un (Un.write mu he k xu)<|I.aD.write mu he k xu new
theorem Inv.acU {acV:List (aj×aZ)}(I:Inv X pins σ H s) (h:∀ p∈acV,s.heap.get? p.1=ae p.2 /\ H p.1=ag /\ p.1≠X.env.locals /\ p.1∉X.fs /\ ∀ v,p.2.data≠.cell v):Inv X acV σ H s:=
 #[I.ok,I.os,I.bare,I.base,I.loc,I.cell,I.free,I.qt,λp hp=>(List.mem_append.mp hp).elim (λz=>I.pin p<|qP _ z)<|h p,I.aD,I.len]
theorem CQ (hN:N.Nodup) {i:Nat}(a:N[i]?=ae x) (b:N[j]?=ae x):i=j:=by
 let#[h1,e1]:=List.getElem?_eq_some_iff.mp a;let#[h2,e2]:=List.getElem?_eq_some_iff.mp b;show(List.getElem_inj hN).mp (e1.trans e2.symm)
theorem BC {i:Nat}{Q:Unit->au->zk}(I:Inv X pins σ H s) (hN:X.N.Nodup) (hi:X.N[i]?=ae x) (hx:Loc X.env.scope x) (r:RelV v u)
 (h:∀ s',Inv X pins (σ.set i<|ae v) H s'->(∃ a,Heap.SameBut a s.heap s'.heap /\ (a=X.env.locals \/ X.env.cells.lookup x=ae a))->Q () s') (hf:X.fn x=ah \/ X.env.scope.names.lookup x=ae .local:=by first|show .inl zc|show .inr zc|assumption):wpAny M A (storeName X.env x u) Q E s:=by
 let#[m,hn,hl]:=id I.loc;have acW:i<σ.length:=by rw[I.len];show(List.getElem?_eq_some_iff.mp hi).1
 have vK:=I.vK;have tracked:∀ {a}{h'},(∃ o,s.heap.get? a=ae o /\ H a=ag)->Heap.SameBut a s.heap h'->cM X.prog X.w H h':=λ{a h'} ha hs b ob e=>by
  let#[_,_,acX]:=ha;refine(I.aD b ob e).stay (λc w' hc q=>(hs.2 c ?_).trans q) (λ_ q=>q) λ_ _ q=>q;rintro rfl;rcases hc with rfl|hc
  .rw[acX]at e;cases e
  .rw[acX]at hc;cases hc
 rcases hx with hk|hk
 .refine wpAny_storeName_local hk hn (λh' agS hs=>?_) (by rw[I.ok.kind];rfl);let#[oL,_,_,uT,_]:=id hn;refine h _ #[I.ok,I.os,I.bare,#[λb o e n hb hx=>((hs.2 b<|bI<|kB (a9 e) I.ok.above).trans<|I.base.keep b o e n hb hx),λb o e n hb hx=>?_,I.base.free,λb o e hx=>?_,I.base.nZ,I.base.pV,I.base.qW],#[_,agS,λj y v' e1 e2 e3=>?_],λy c e=>?_,I.free,I.qt,λp hp=>?_,tracked #[oL,uT,I.free] hs,by simpa using I.len] #[_,hs,.inl zc]
  .let#[sl,e1]:=I.base.slot b o e n hb hx;show#[sl,(hs.2 b<|bI<|kB (a9 e) I.ok.above).trans e1]
  .let#[o',e1]:=I.base.there b o e hx;show#[o',(hs.2 b<|bI<|kB (a9 e) I.ok.above).trans e1]
  .by_cases hj:j=i
   .subst hj;rw[hi]at e1;cases e1;rw[pN acW]at e2;cases e2;show#[u,r,.inl #[hk,by simp]]
   .rw[tV<|Ne.symm hj]at e2;let#[u',r',q]:=hl j y v' e1 e2 e3;refine#[u',r',?_];rcases q with⟨k,e⟩|⟨k,c,e,z⟩
    .refine .inl #[k,?_];have:y≠x:=λe=>hj<|CQ hN e1<|e▸hi;simp[this,e]
    .show .inr #[k,c,e,z.sameBut hs<|vK y c e]
  .let#[w',z]:=I.cell y c e;show#[w',z.sameBut hs<|vK y c e]
  .let#[e,n,ne,nf,d]:=I.pin p hp;show#[(hs.2 p.1 ne).trans e,n,ne,nf,d]
 .have XT:X.fn x=ah:=by
   rcases hf with z|z
   .show z
   .rw[z]at hk;cases hk
  let#[c,hc]:=I.ok.has x<|.inl hk;let#[w',z]:=I.cell x c hc;refine wpAny_storeName_cell I.ok.kind hk hc z λh' acY hs=>?_;let#[oc,acZ,agT]:=id z;refine h { s with heap:=h' } #[I.ok,I.os,I.bare,#[λb o e n hb hx=>((hs.2 b<|bI<|kB (a9 e)<|I.ok.yN x c XT hc).trans<|I.base.keep b o e n hb hx),λb o e n hb hx=>?_,I.base.free,λb o e hx=>?_,I.base.nZ,I.base.pV,I.base.qW],#[m,hn.sameBut hs<|Ne.symm<|vK x c hc,λj y v' e1 e2 e3=>?_],λy c' e=>?_,I.free,I.qt,λp hp=>?_,tracked #[oc,acZ,I.qt x c hc] hs,by simpa using I.len] #[c,hs,.inr hc]
  .let#[sl,e1]:=I.base.slot b o e n hb hx;show#[sl,(hs.2 b<|bI<|kB (a9 e)<|I.ok.yN x c XT hc).trans e1]
  .let#[o',e1]:=I.base.there b o e hx;show#[o',(hs.2 b<|bI<|kB (a9 e)<|I.ok.yN x c XT hc).trans e1]
  .by_cases hj:j=i
   .subst hj;rw[hi]at e1;cases e1;rw[pN acW]at e2;cases e2;show#[u,r,.inr #[.inl hk,c,hc,acY]]
   .rw[tV<|Ne.symm hj]at e2;let#[u',r',q]:=hl j y v' e1 e2 e3;refine#[u',r',?_];rcases q with q|⟨k,c',e,z'⟩
    .show .inl q
    .refine .inr #[k,c',e,z'.sameBut hs ?_];rintro rfl;show hj<|CQ hN e1<|I.ok.inj _ _ _ e hc▸hi
  .by_cases dM:c'=c
   .subst dM;show#[_,acY]
   .let#[w2,z2]:=I.cell y c' e;show#[w2,z2.sameBut hs dM]
  .let#[e,n,ne,nf,d]:=I.pin p hp;refine#[(hs.2 p.1 ?_).trans e,n,ne,nf,d];intro q;rw[q,acZ]at e;show d w' (by rw[<-(Option.some.inj e)];show agT)
theorem iQ {i:Nat}{Q:Unit->au->zk}(I:Inv X pins σ H s) (hN:X.N.Nodup) (hi:X.N[i]?=ae x) (hx:Loc X.env.scope x) (r:RelV v u)
 (h:∀ s',Inv X pins (σ.set i<|ae v) H s'->Q () s') (hf:X.fn x=ah \/ X.env.scope.names.lookup x=ae .local:=by first|show .inl zc|show .inr zc|assumption):wpAny M A (storeName X.env x u) Q E s:=
 BC I hN hi hx r (λs' I' _=>h s' I') hf
theorem Inv.ac0 {s':au}(I:Inv X pins σ H s) (ho:s'.os=s.os) (u:Un (pW X.stack) ch H H' s.heap s'.heap) (aD:cM X.prog X.w H' s'.heap) (hg:AllBare s'.gens)
 (sj:∀ b∈ch,(b∈X.ex \/ X.s₀.heap.objs.size<=b) /\ b≠X.env.locals /\ (∀ x c,X.env.cells.lookup x=ae c->c≠b) /\ ∀ p∈X.pn++pins,p.1≠b):Inv X pins σ H' s':=by
 let#[h',g',d',t',o']:=s';subst ho;show I.call u aD hg sj
end
abbrev XK:=ai->Option aj->Hp->zk
noncomputable abbrev St:=List<|Option V
abbrev VK:=V->Hp->zk
abbrev TE:=St->Hp->VK->zk
abbrev TT:=St->Hp->(Bool->Hp->zk)->zk
abbrev TA:=St->Hp->(List V->Hp->zk)->zk
structure Ends where
 nx:St->Hp->zk
 rt:VK
 bk:St->Hp->zk:=λ_ _=>False
 ct:St->Hp->zk:=λ_ _=>False
abbrev TS:=Ends->St->Hp->zk
def EP (X:Cx) (pins:List<|aj×aZ) (σ:St) (Q:VK) (u:ai) (s':au):zk:=∃ v H',Inv X pins σ H' s' /\ RelV v u /\ Q v H'
def TP (X:Cx) (pins:List<|aj×aZ) (σ:St) (Q:Bool->Hp->zk) (b:Bool) (s':au):zk:=∃ H',Inv X pins σ H' s' /\ Q b H'
def AP (X:Cx) (pins:List<|aj×aZ) (σ:St) (Q:List V->Hp->zk) (us:List ai) (s':au):zk:=∃ vs H',Inv X pins σ H' s' /\ Vals vs us /\ Q vs H'
def SP (X:Cx) (pins:List<|aj×aZ) (D:Ends) (f:Flow) (s':au):zk:=
 match f with
 |.next=>∃ σ' H',Inv X pins σ' H' s' /\ D.nx σ' H'
 |.brk=>∃ σ' H',Inv X pins σ' H' s' /\ D.bk σ' H'
 |.cont=>∃ σ' H',Inv X pins σ' H' s' /\ D.ct σ' H'
 |.ret u=>∃ v σ' H',Inv X pins σ' H' s' /\ RelV v u /\ D.rt v H'
def PE (X:Cx) (e:aq) (t:TE):zk:=
 ∀ (pins:List<|aj×aZ) (s:au) (σ:St) (H:Hp) (Q:VK),Inv X pins σ H s->t σ H Q->wpAny zf X.A (eval e X.env) (EP X pins σ Q) X.xe s
def PT (X:Cx) (e:aq) (t:TT):zk:=
 ∀ (pins:List<|aj×aZ) (s:au) (σ:St) (H:Hp) (Q:Bool->Hp->zk),Inv X pins σ H s->t σ H Q->wpAny zf X.A (isTrue e X.env<|eval e X.env) (TP X pins σ Q) X.xe s
def PW (X:Cx) (e:aq) (t:TT):zk:=
 ∀ (whole:Sem ai) (pins:List<|aj×aZ) (s:au) (σ:St) (H:Hp) (Q:Bool->Hp->zk),Inv X pins σ H s->t σ H Q->wpAny zf X.A (isTrue e X.env whole) (TP X pins σ Q) X.xe s
theorem PW.pt {X:Cx}{t:TT}(h:PW X e t):PT X e t:=h _
def PA (X:Cx) (es:List aq) (t:TA):zk:=
 ∀ (pos:aC) (pins:List<|aj×aZ) (s:au) (σ:St) (H:Hp) (Q:List V->Hp->zk),Inv X pins σ H s->t σ H Q->wpAny zf X.A (spliced<|backTo pos<|starEach es X.env) (AP X pins σ Q) X.xe s
def PS (X:Cx) (st:cb) (t:TS):zk:=
 ∀ (pins:List<|aj×aZ) (s:au) (σ:St) (H:Hp) (D:Ends),Inv X pins σ H s->t D σ H->wpAny zf X.A (exec st X.env) (SP X pins D) X.xe s
def kE (X:Cx) (st:List cb) (t:TS):zk:=
 ∀ (pins:List<|aj×aZ) (s:au) (σ:St) (H:Hp) (D:Ends),Inv X pins σ H s->t D σ H->wpAny zf X.A (execs st X.env) (SP X pins D) X.xe s
theorem cg {t:Sem α}{Q Q':α->au->zk}{s:au}(h:wpAny M A t Q E s) (hQ:∀ a s,Q a s->Q' a s):wpAny M A t Q' E s:=k9 h hQ λ_ _ x=>x
theorem tE {X:Cx}{σ:St}{Q:VK}{t:Sem ai}{Q':ai->au->zk}{s:au}(h:wpAny M A t (EP X pins σ Q) E s) (k:∀ v s x H,Inv X pins σ H s->RelV x v->Q x H->Q' v s):wpAny M A t Q' E s:=cg h λv s ⟨x,H,I,r,q⟩=>k v s x H I r q
theorem tA {X:Cx}{σ:St}{Q:List V->Hp->zk}{t:Sem (List ai)}{Q':List ai->au->zk}{s:au}(h:wpAny M A t (AP X pins σ Q) E s) (k:∀ v s x H,Inv X pins σ H s->Vals x v->Q x H->Q' v s):wpAny M A t Q' E s:=cg h λv s ⟨x,H,I,r,q⟩=>k v s x H I r q
theorem tP {β:Type}{X:Cx}{σ:St}{Q:β->Hp->zk}{R:β->α->zk}{t:Sem α}{Q':α->au->zk}{s:au}(h:wpAny M A t (λv s=>∃ x H,Inv X pins σ H s /\ R x v /\ Q x H) E s) (k:∀ v s x H,Inv X pins σ H s->R x v->Q x H->Q' v s):wpAny M A t Q' E s:=cg h λv s ⟨x,H,I,r,q⟩=>k v s x H I r q
theorem tT {X:Cx}{σ:St}{Q:Bool->Hp->zk}{t:Sem Bool}{Q':Bool->au->zk}{s:au}(h:wpAny M A t (TP X pins σ Q) E s) (k:∀ v s H,Inv X pins σ H s->Q v H->Q' v s):wpAny M A t Q' E s:=cg h λv s ⟨H,I,q⟩=>k v s H I q
end L2
variable {X:L2.Cx}{σ:L2.St}
namespace L2
section
def agU (i:Nat):TE:=λσ H Q=>∃ v,σ[i]?=ae (ae v) /\ Q v H
def tC (v:V):TE:=λ_ H Q=>Q v H
theorem Lp {i:Nat}{pos:aC}(hN:X.N[i]?=ae x) (hv:xx X.env.scope x) (hd:(x==("__debug__":Str))=af:=by decide) (pX:(x==("__classdict__":Str))=af:=by decide):PE X (.Name x pos) (agU i):=by
 intro pins s σ H Q I h;let#[v,e,h]:=h;let#[m,hn,hl]:=I.loc;let#[u,r,l]:=hl i x v hN e hv;have fin:EP X pins σ Q u s:=#[v,H,I,r,h];rcases l with⟨hk,hm⟩|⟨hk,c,hc,xD⟩
 .show QL (aaL I.ok.kind hk hn hm fin) hd
 .rcases hk with hk|hk
  .show QL (aaM I.ok.kind hk hc xD fin) hd
  .show QL (wpAny_loadName_free I.ok.kind hk hc xD fin pX) hd
theorem Lq {i j pos}:PE X (.Constant (.int i) j pos) (tC<|.int i):=λ_ _ _ H _ I h=>wpAny_Constant_int #[.int i,H,I.tok _,#[_,rfl],h]
theorem Wb {b j pos}:PE X (.Constant (.bool b) j pos) (tC<|.bl b):=λ_ _ _ H _ I h=>Constant_bool #[.bl b,H,I,rfl,h]
theorem Tq {j pos}:PE X (.Constant .none j pos) (tC .non):=λ_ _ _ H _ I h=>Constant_none #[.non,H,I,rfl,h]
theorem Av {x j pos}:PE X (.Constant (.str x) j pos) (tC<|.str x):=λ_ _ _ H _ I h=>Calls.Constant_str #[.str x,H,I.tok _,#[_,rfl],h]
def Gl (X:Cx) (x:Str):zk:=X.env.kindOf x=ae .globalImplicit
theorem FZ {s:au}{pos:aC}(I:Inv X pins σ H s) (hg:Gl X x) (hm:X.mg x=ae u) (h:Q u s)
 (hd:(x==("__debug__":Str))=af:=by decide):wpAny zf X.A (eval (.Name x pos) X.env) Q E s:=
 Calls.Name_function_global I.ok.kind hg (Calls.loadGlobal_global (by rw[I.ok.glob];show I.mod.glob.keeps I.bk) hm h) hd
theorem jj {s:au}{pos:aC}(I:Inv X pins σ H s) (hg:Gl X x) (hm:X.mg x=ag) (hv:bootBuiltins x=ae u) (h:Q u s)
 (hn:x ≠ "__name__":=by decide) (hd:(x==("__debug__":Str))=af:=by decide):wpAny zf X.A (eval (.Name x pos) X.env) Q E s:=by
 let#[mb,h1,h2]:=I.mod.blt;show Calls.Name_function_global I.ok.kind hg (Calls.loadGlobal_builtin (by rw[I.ok.glob];show I.mod.glob.keeps I.bk) hm (by rw[I.ok.blt];show h1.keeps I.bk) ((h2 x hn).trans hv) h) hd
theorem Om {pos:aC}(hg:Gl X x) (hm:X.mg x=ae u) (r:RelV v u) (hd:(x==("__debug__":Str))=af:=by decide):PE X (.Name x pos) (tC v):=
 λ_ _ _ H _ I h=>FZ I hg hm #[v,H,I,r,h] hd
theorem On {pos:aC}(hg:Gl X x) (hm:X.mg x=ag) (hv:bootBuiltins x=ae u) (r:RelV v u) (hn:x ≠ "__name__":=by decide) (hd:(x==("__debug__":Str))=af:=by decide):PE X (.Name x pos) (tC v):=
 λ_ _ _ H _ I h=>jj I hg hm hv #[v,H,I,r,h] hn hd
variable {a b:aq} {ta tb:TE} {pos:aC}
def PC (X:Cx) (op:CmpOp) (a b:aq) (t:TE):zk:=
 ∀ (pins:List<|aj×aZ) (s:au) (σ:St) (H:Hp) (Q:VK),Inv X pins σ H s->t σ H Q ->
  wpAny zf X.A (eval a X.env) (λv s₁=>wpAny zf X.A (eval b X.env) (λu s₂=>wpAny zf X.A (compareOp op v u) (EP X pins σ Q) X.xe s₂) X.xe s₁) X.xe s
theorem ac1 (b:aq) (h:op≠.In) (h2:op≠.NotIn):behindInMarks op b=af:=by
 have e1:(op==CmpOp.In)=af:=by cases op<;>first|rfl|show absurd zc h
 have e2:(op==CmpOp.NotIn)=af:=by cases op<;>first|rfl|show absurd zc h2
 cases b<;>simp[behindInMarks,e1,e2]
def ac2 (ta:TE):TE:=λσ H Q=>ta σ H λx H1=>Q (.bl<|decide (x=.non)) H1
def ac3 (ta:TE):TE:=λσ H Q=>ta σ H λx H1=>Q (.bl<|!decide (x=.non)) H1
theorem RelV.ac4 {x:V}{v:ai}(r:RelV x v):(v==Value.none)=decide (x=.non):=by
 cases x with
 |int _=>let#[t,rfl]:=r;rfl
 |str _=>let#[t,rfl]:=r;rfl
 |pU _=>let#[t,rfl]:=r;rfl
 |uS _=>let#[t,rfl]:=r;rfl
 |_=>cases r;rfl
theorem Lr {j pos'}(ha:PE X a ta):PC X .Is a (.Constant .none j pos') (ac2 ta):=by
 intro pins s σ H Q I h;show tE zaj λv s1 x H1 I1 r1 q1=>(Constant_none (is_none_gen #[.bl _,H1,I1,by rw[r1.ac4];rfl,q1]))
theorem F6 {j pos'}(ha:PE X a ta):PC X .IsNot a (.Constant .none j pos') (ac3 ta):=by
 intro pins s σ H Q I h;show tE zaj λv s1 x H1 I1 r1 q1=>(Constant_none (isnot_none_gen #[.bl _,H1,I1,by rw[r1.ac4];rfl,q1]))
noncomputable def tB (t:TE):TT:=λσ H Q=>t σ H λx H1=>∃ c,x=.bl c /\ Q c H1
theorem Aw {t:TE}(h:PC X op a b t) (h1:behindInMarks op b=af:=by first|show ac1 _ (by decide) (by decide)|rfl):PE X (.Compare a [op] [b] pos) t:=λpins s σ H Q I hw=>aaN (h pins s σ H Q I hw) h1
theorem Cc {t:TE}(h:PC X op a b t) (h1:behindInMarks op b=af:=by first|show ac1 _ ze ze|rfl):PT X (.Compare a [op] [b] pos) (tB t):=by
 intro pins s σ H Q I hw;refine aaO (cg (h pins s σ H _ I hw) λv s1 h1=>cg h1 λu s2 h2=>tE h2 λc s3 x H1 I1 r1 q1=>?_) h1;let#[d,rfl,q]:=q1;cases r1;show qi #[H1,I1,q]
theorem Tr {t:TE}(h:PE X e t) (he:∀ whole,isTrue e X.env whole=(do let v <-whole;standAt e.pos;holding [v] (truthy v)):=by intro _;rfl):PT X e (tB t):=by
 intro pins s σ H Q I hw;refine isTrue_plain (tE (h pins s σ H _ I hw) λv s1 x H1 I1 r1 q1=>?_)<|he _;let#[d,rfl,q]:=q1;cases r1;show qi #[H1,I1,q]
variable {tA Ia:TT} {rest:List aq}
noncomputable def agV (t u:TT):TT:=λσ H Q=>t σ H λc H1=>if c=ah then u σ H1 Q else Q af H1
noncomputable def agW (t u:TT):TT:=λσ H Q=>t σ H λc H1=>if c=ah then Q ah H1 else u σ H1 Q
noncomputable def agX (t:TT):TT:=λσ H Q=>t σ H λc H1=>Q (!c) H1
theorem Oo (ha:PT X a tA):PW X (.BoolOp .And [a] pos) tA:=by
 intro wh pins s σ H Q I h;refine isTrue_and<|cg (ha pins s σ H Q I h) λc s1 e=>?_;cases c with
 |true=>show isTrue_and_nil e
 |false=>show e
theorem Ts (ha:PT X a tA):PW X (.BoolOp .Or [a] pos) tA:=by
 intro wh pins s σ H Q I h;refine isTrue_or<|cg (ha pins s σ H Q I h) λc s1 e=>?_;cases c with
 |false=>show isTrue_or_nil e
 |true=>show e
theorem Tt (ha:PT X a tA) (hb:PW X (.BoolOp .And (b::rest) pos) Ia):PW X (.BoolOp .And (a::b::rest) pos) (agV tA Ia):=by
 intro wh pins s σ H Q I h;refine isTrue_and<|tT zaj λc s1 H1 I1 q1=>?_;cases c with
 |true=>show hb wh pins s1 σ H1 Q I1 q1
 |false=>show#[H1,I1,q1]
theorem Wc (ha:PT X a tA) (hb:PW X (.BoolOp .Or (b::rest) pos) Ia):PW X (.BoolOp .Or (a::b::rest) pos) (agW tA Ia):=by
 intro wh pins s σ H Q I h;refine isTrue_or<|tT zaj λc s1 H1 I1 q1=>?_;cases c with
 |true=>show#[H1,I1,q1]
 |false=>show hb wh pins s1 σ H1 Q I1 q1
theorem Tu (ha:PT X a tA):PT X (.UnaryOp .Not a pos) (agX tA):=by
 intro pins s σ H Q I h;show isTrue_not zaj
def agY (ta tb:TE):TE:=λσ H Q=>ta σ H λx H1=>∃ c,x=.bl c /\ if c=ah then tb σ H1 Q else Q (.bl af) H1
def agZ (ta:TE):TE:=λσ H Q=>ta σ H λx H1=>∃ c,x=.bl c /\ Q (.bl<|!c) H1
theorem Tv {op}{t:TE}(h:PE X a t):PE X (.BoolOp op [a] pos) t:=λpins s σ H Q I hw=>BoolOp_one<|h pins s σ H Q I hw
theorem Tw (ha:PE X a ta) (hb:PE X (.BoolOp .And (b::rest) pos) tb):PE X (.BoolOp .And (a::b::rest) pos) (agY ta tb):=by
 intro pins s σ H Q I h;refine BoolOp_and<|tE zaj λv s1 x H1 I1 r1 q1=>?_;let#[c,rfl,q1]:=q1;cases r1;refine qi ?_;cases c with
 |true=>show hb pins s1 σ H1 Q I1 q1
 |false=>show#[.bl af,H1,I1,rfl,q1]
theorem Tz (ha:PE X a ta):PE X (.UnaryOp .Not a pos) (agZ ta):=by
 intro pins s σ H Q I h;refine UnaryOp_<|tE zaj λv s1 x H1 I1 r1 q1=>?_;let#[c,rfl,q1]:=q1;cases r1;show not_of<|qi #[.bl<|!c,H1,I1,rfl,q1]
def ag0 (t:TT) (ta tb:TE):TE:=λσ H Q=>t σ H λc H1=>if c=ah then ta σ H1 Q else tb σ H1 Q
theorem Ls {c:aq}(hc:PT X c tA) (ha:PE X a ta) (hb:PE X b tb):PE X (.IfExp c a b pos) (ag0 tA ta tb):=by
 intro pins s σ H Q I h;refine wpAny_IfExp<|tT (hc pins s σ H _ I h) λd s1 H1 I1 q1=>?_;cases d with
 |true=>show ha pins s1 σ H1 Q I1 q1
 |false=>show hb pins s1 σ H1 Q I1 q1
end
def bN (K:PySem.W.Frag) (H:Hp) (a:aj) (xs:List V):zk:=
 Rd H a (.lst xs) \/
  ∃ (o:aZ) (its:Array ai) (n:Nat),K.lookup a=ae o /\ o.cls=.type "list" /\ o.dict=ag /\ o.data=.seq its n /\ its.size<=sizeLine /\ Vals xs its.toList
def cP (K:PySem.W.Frag) (H:Hp) (a:aj) (xs:List V):zk:=
 Rd H a (.tup xs) \/
  ∃ (o:aZ) (its:Array ai) (n:Nat),K.lookup a=ae o /\ o.cls=.type "tuple" /\ o.data=.seq its n /\ its.size<=sizeLine /\ Vals xs its.toList
noncomputable def ag1:ai->Option V
 |.none=>ae .non
 |.bool b=>ae<|.bl b
 |.int i _=>ae<|.int i
 |.str x _=>ae<|.str x
 |.bytes b _=>ae<|.pU b
 |.float b _=>ae<|.uS b
 |.ref a=>ae<|.ref a
 |.type n=>ae<|.ty n
 |_=>ag
theorem RelV.abs {x:V}(r:RelV x u):ag1 u=ae x:=by
 cases x with
 |int _=>let#[t,rfl]:=r;rfl
 |str _=>let#[t,rfl]:=r;rfl
 |pU _=>let#[t,rfl]:=r;rfl
 |uS _=>let#[t,rfl]:=r;rfl
 |_=>cases r;rfl
theorem RelV.inj {x y:V}{u:ai}(r:RelV x u) (q:RelV y u):x=y:=Option.some.inj<|r.abs.symm.trans q.abs
theorem Vals.inj:∀ {xs ys:List V}{us:List ai},Vals xs us->Vals ys us->xs=ys
 |_,_,_,.nil,.nil=>rfl
 |_,_,_,.cons r t,.cons r' t'=>by rw[r.inj r',Vals.inj t t']
section
variable {s:au} {xs ys:List V}
theorem bN.of (h:H a=ae (.lst xs)):bN K H a xs:=.inl<|.inl h
theorem cP.of (h:H a=ae (.tup xs)):cP K H a xs:=.inl<|.inl h
theorem Inv.list (I:Inv X pins σ H s) (h:bN X.K H a xs):∃ its:List ai,Vals xs its /\ PlainL s.heap a its.toArray /\ xs.length<=sizeLine:=by
 rcases h with h|⟨o,its,n,hk,hc,hd,hs,hz,r⟩
 .let#[z,its,n,r,e]:=h.ok I.aD;show#[its,r,#[_,n,e,rfl,rfl,rfl],z]
 .refine#[its.toList,r,#[o,n,I.kP a o hk,hc,hd,by simpa using hs],?_];have e:=r.length;simp[nH]at e;lia
theorem Inv.tuple (I:Inv X pins σ H s) (h:cP X.K H a xs):∃ its:List ai,Vals xs its /\ IsTup s.heap a its.toArray /\ xs.length<=sizeLine:=by
 rcases h with h|⟨o,its,n,hk,hc,hs,hz,r⟩
 .let#[z,its,r,p]:=h.ok I.aD;show#[its,r,p,z]
 .refine#[its.toList,r,#[o,I.kP a o hk,hc,n,by simpa using hs],?_];have e:=r.length;simp[nH]at e;lia
theorem Inv.ac5 (I:Inv X pins σ H s) (h:bN X.K H a xs) (h':bN X.K H a ys):xs=ys:=by
 let#[its,r,#[o,n,e,_,_,d],_]:=I.list h;let#[qv,r',#[o',n',e',_,_,d'],_]:=I.list h';rw[e]at e';cases e';rw[d]at d';injection d' with d1 _;have:its=qv:=by simpa using congrArg Array.toList d1
 subst this;show r.inj r'
theorem Inv.ac6 (I:Inv X pins σ H s) (h:cP X.K H a xs) (h':cP X.K H a ys):xs=ys:=by
 let#[its,r,#[o,e,_,n,d],_]:=I.tuple h;let#[qv,r',#[o',e',_,n',d'],_]:=I.tuple h';rw[e]at e';cases e';rw[d]at d';injection d' with d1 _;have:its=qv:=by simpa using congrArg Array.toList d1
 subst this;show r.inj r'
end
noncomputable abbrev Cx.sq (X:Cx) (E:ai->au->zk):Cx:={ X with xe:=E }
abbrev Cx.xE (X:Cx):Cx:=X.sq λ_ _=>False
theorem Cx.Ok.sq {X:Cx}(ok:X.Ok) (E:ai->au->zk):(X.sq E).Ok:=
 #[ok.mod,ok.kind,ok.glob,ok.blt,ok.above,ok.inj,ok.has,ok.yN,ok.hd,ok.frames,ok.HZ,ok.xy,ok.bs,ok.vJ,ok.yO,ok.xA,ok.qX,ok.xC]
theorem Cx.Ok.uU (ok:(X.sq E).Ok):X.Ok:=
 #[ok.mod,ok.kind,ok.glob,ok.blt,ok.above,ok.inj,ok.has,ok.yN,ok.hd,ok.frames,ok.HZ,ok.xy,ok.bs,ok.vJ,ok.yO,ok.xA,ok.qX,ok.xC]
section
variable {s:au} 
theorem Inv.sq (I:Inv X pins σ H s) (E:ai->au->zk):Inv (X.sq E) pins σ H s:=#[I.ok.sq E,I.os,I.bare,I.base,I.loc,I.cell,I.free,I.qt,I.pin,I.aD,I.len]
theorem Inv.uU (I:Inv (X.sq E) pins σ H s):Inv X pins σ H s:=#[I.ok.uU,I.os,I.bare,I.base,I.loc,I.cell,I.free,I.qt,I.pin,I.aD,I.len]
theorem SP.uU {D:Ends}{f:Flow}{s':au}(h:SP (X.sq E) pins D f s'):SP X pins D f s':=by
 cases f with
 |ret u=>let#[v,σ',H',I,r,q]:=h;show#[v,σ',H',I.uU,r,q]
 |_=>let#[σ',H',I,q]:=h;show#[σ',H',I.uU,q]
theorem kE.xE {st:List cb}{t:TS}(h:kE X.xE st t):kE X st t:=λpins s σ H D I hw=>
 k9 (h pins s σ H D (I.sq _) hw) (λ_ _ q=>q.uU) λ_ _ z=>False.elim z
end
section
variable {rest:List cb} {t u:TS} {te:TE} {pos:aC}
def ag2:TS:=λD σ H=>D.nx σ H
def ag3 (t u:TS):TS:=λD σ H=>t { D with nx:=u D } σ H
theorem Op:kE X [] ag2:=λ_ _ σ H _ I h=>QM #[σ,H,I,h]
theorem Lu (h1:PS X st t) (h2:kE X rest u):kE X (st::rest) (ag3 t u):=by
 intro pins s σ H D I h;refine aaP<|cg (h1 pins s σ H { D with nx:=u D } I h) λf s1 q=>?_;cases f with
 |next=>
   let#[σ',H',I',q]:=q;show h2 pins s1 σ' H' D I' q
 |ret v=>show q
 |_=>show q
theorem Oq (h1:PS X st t):kE X [st] t:=by
 intro pins s σ H D I h;refine aaP<|cg (h1 pins s σ H D I h) λf s1 q=>?_;cases f with
 |next=>show QM q
 |ret v=>show q
 |_=>show q
def ag4:TS:=λD σ H=>D.bk σ H
def ag5:TS:=λD σ H=>D.ct σ H
theorem Lv:PS X (.Break pos) ag4:=λ_ _ σ H _ I h=>wpAny_Break #[σ,H,I,h]
theorem CS:PS X (.Continue pos) ag5:=λ_ _ σ H _ I h=>wpAny_Continue #[σ,H,I,h]
theorem Inv.quiet {s:au}(I:Inv X pins σ H s):interactive X.env=af:=by simp[interactive,I.ok.kind]
def ag6 (te:TE):TS:=λD σ H=>te σ H λ_ H1=>D.nx σ H1
theorem Os (he:PE X e te) (hs:swapsWith e ag pos.line X.env=pure af:=by rfl):PS X (.Expr e pos) (ag6 te):=by
 intro pins s σ H D I h;show wpAny_Expr_any (tE (he pins s σ H _ I h) λv s1 x H1 I1 r1 q1=>#[σ,H1,I1,q1]) I.quiet hs
def ag7 (te:TE):TS:=λD σ H=>te σ H D.rt
theorem TB (he:PE X e te):PS X (.Return (ae e) pos) (ag7 te):=by
 intro pins s σ H D I h;show wpAny_Return_some<|tE (he pins s σ H _ I h) λv s1 x H1 I1 r1 q1=>#[x,σ,H1,I1,r1,q1]
def ag8 (c:TT) (t u:TS):TS:=λD σ H=>c σ H λb H1=>if b=ah then t D σ H1 else u D σ H1
theorem Wd {c:aq}{a b:List cb}{tc:TT}(hc:PT X c tc) (ha:kE X a t) (hb:kE X b u):PS X (.If c a b pos) (ag8 tc t u):=by
 intro pins s σ H D I h;refine wpAny_If<|tT (hc pins s σ H _ I h) λd s1 H1 I1 q1=>?_;cases d with
 |true=>show ha pins s1 σ H1 D I1 q1
 |false=>show hb pins s1 σ H1 D I1 q1
end
abbrev TG:=V->St->Hp->(St->Hp->zk)->zk
abbrev ug:=List V->St->Hp->(St->Hp->zk)->zk
def PG (X:Cx) (target:aq) (t:TG):zk:=
 ∀ (pins:List<|aj×aZ) (s:au) (σ:St) (H:Hp) (v:V) (u:ai) (Q:St->Hp->zk),Inv X pins σ H s->RelV v u->t v σ H Q ->
  wpAny zf X.A (assign target X.env u) (λ_ s'=>∃ σ' H',Inv X pins σ' H' s' /\ Q σ' H') X.xe s
def sr (X:Cx) (ts:List aq) (t:ug):zk:=
 ∀ (pins:List<|aj×aZ) (s:au) (σ:St) (H:Hp) (vs:List V) (us:List ai) (Q:St->Hp->zk),Inv X pins σ H s->Vals vs us->t vs σ H Q ->
  wpAny zf X.A (assignInOrder ((assignEach ts X.env).map (·.2)) us) (λ_ s'=>∃ σ' H',Inv X pins σ' H' s' /\ Q σ' H') X.xe s
abbrev XU:=V->V->V->Hp->(Hp->zk)->zk
def ac7 (X:Cx) (t:XU):zk:=
 ∀ (pins:List<|aj×aZ) (s:au) (σ:St) (H:Hp) (o i v:V) (ov iv u:ai) (Q:Hp->zk),Inv X pins σ H s->RelV o ov->RelV i iv->RelV v u->t o i v H Q ->
  wpAny zf X.A (setItem ov iv u) (λ_ s'=>∃ H',Inv X pins σ H' s' /\ Q H') X.xe s
abbrev Ib:=V->V->Hp->VK->zk
def XW (X:Cx) (op:Operator) (t:Ib):zk:=
 ∀ (pins:List<|aj×aZ) (s:au) (σ:St) (H:Hp) (x y:V) (v u:ai) (Q:VK),Inv X pins σ H s->RelV x v->RelV y u->t x y H Q ->
  wpAny zf X.A (inplaceOp op v u) (EP X pins σ Q) X.xe s
section
variable {pos:aC}
def XX (i:Nat):TG:=λv σ H Q=>Q (σ.set i<|ae v) H
theorem Ce {i:Nat}(hN:X.N.Nodup) (hi:X.N[i]?=ae x) (hx:Loc X.env.scope x) (hf:X.fn x=ah \/ X.env.scope.names.lookup x=ae .local:=by first|show .inl zc|show .inr zc|assumption):PG X (.Name x pos) (XX i):=by
 intro pins s σ H v u Q I r h;show aaQ<|iQ I hN hi hx r (λs' I'=>#[_,H,I',h]) hf
noncomputable def ag9:ug:=λvs σ H Q=>vs=[] /\ Q σ H
noncomputable def aha (t:TG) (u:ug):ug:=λvs σ H Q=>∃ v r,vs=v::r /\ t v σ H λσ' H'=>u r σ' H' Q
theorem F7:sr X [] ag9:=by
 intro pins s σ H vs us Q I r h;let#[e,h]:=h;subst e;cases r;show Xo #[σ,H,I,h]
theorem Ax {t:TG}{u:ug}(h1:PG X e t) (h2:sr X es u)
 (hs:(assignEach (e::es) X.env).map (·.2)=assign e X.env::(assignEach es X.env).map (·.2):=by rfl):sr X (e::es) (aha t u):=by
 intro pins s σ H vs us Q I r h;let#[v,vr,e1,h]:=h;subst e1;cases r with
 |cons r rr=>
   rw[hs];show xm<|cg (h1 pins s σ H _ _ _ I r h) λ_ s1 ⟨σ1,H1,I1,q1⟩=>(h2 pins s1 σ1 H1 _ _ Q I1 rr q1)
def ahb (K:PySem.W.Frag) (n:Nat) (t:ug):TG:=λv σ H Q=>∃ a xs,v=.ref a /\ cP K H a xs /\ xs.length=n /\ t xs σ H Q
theorem Lw {k:Nat}{t:ug}(hc:X.calm=ah) (h:sr X es t)
 (hn:(assignEach es X.env).length=n:=by rfl) (yP:(assignEach es X.env).findIdx? (·.1)=ag:=by rfl):PG X (.Tuple es k pos) (ahb X.K n t):=by
 intro pins s σ H v u Q I r hw;let#[a,xs,e1,hq,hl,hw]:=hw;subst e1;cases r;let#[its,rv,ht,hz]:=I.tuple hq;refine assign_Tuple_tuple (I.ok.hd hc) ht (by simp[hn,<-hl,rv.length]) yP λh' hx=>?_;show h pins _ σ H xs _ Q (I.kept λb o e=>hx b o (bI<|a9 e) e) (by simpa using rv) hw
def ahc (to ti:TE) (t:XU):TG:=λv σ H Q=>to σ H λo H1=>ti σ H1 λi H2=>t o i v H2 λH3=>Q σ H3
theorem TC {o i:aq}{to ti:TE}{t:XU}(ho:PE X o to) (hi:PE X i ti) (hs:ac7 X t)
 (ha:∀ v,assign (.Subscript o i pos) X.env v=(do
  let ov <-holding [v] (eval o X.env)
  let iv <-holding [v,ov] (eval i X.env)
  standAt pos
  holding [v,ov,iv] (setItem ov iv v)
  release [v,ov,iv] []):=by intro _;rfl):PG X (.Subscript o i pos) (ahc to ti t):=by
 intro pins s σ H v u Q I r h;refine ak<|eB<|tE (ho pins s σ H _ I h) λov s1 x H1 I1 r1 q1=>?_;refine ak<|eB<|tE (hi pins s1 σ H1 _ I1 q1) λiv s2 y H2 I2 r2 q2=>?_;show ak<|yu<|ak<|eB<|cg (hs pins s2 σ H2 x y v ov iv u _ I2 r1 r2 r q2) λ_ s3 ⟨H3,I3,q3⟩=>(wpAny_release #[σ,H3,I3,q3])
def Ic (te:TE) (g:TG):TS:=λD σ H=>te σ H λx H1=>g x σ H1 D.nx
theorem Lx {te:TE}{g:TG}(he:PE X e te) (hg:PG X tg g) (hs:swapsWithSole [tg] e pos.line X.env=pure af:=by rfl) (hw:swappedStores [tg] e X.env=pure ag:=by rfl)
 (h1:(assignEach [tg] X.env).map (·.2)=[assign tg X.env]:=by rfl):PS X (.Assign [tg] e pos) (Ic te g):=by
 intro pins s σ H D I h;refine wpAny_Assign_stores (tE (he pins s σ H _ I h) λv s1 x H1 I1 r1 q1=>?_) hs hw;rw[h1];show cg (hg pins s1 σ H1 x v _ I1 r1 q1) λ_ s2 q=>q
theorem TD {i:Nat}{te:TE}(hN:X.N.Nodup) (hi:X.N[i]?=ae x) (hx:Loc X.env.scope x) (he:PE X e te) (hs:swapsWith e (ae<|.Name x pos') pos.line X.env=pure af:=by rfl) (hf:X.fn x=ah \/ X.env.scope.names.lookup x=ae .local:=by first|show .inl zc|show .inr zc|assumption) :
 PS X (.Assign [.Name x pos'] e pos) (Ic te<|XX i):=by
 intro pins s σ H D I h;show wpAny_Assign_Name (tE (he pins s σ H _ I h) λv s1 y H1 I1 r1 q1=>(iQ I1 hN hi hx r1 (λs2 I2=>#[_,H1,I2,q1]) hf)) hs
def ac8 (i j:Nat) (ta:TA):TS:=λD σ H=>ta σ H λvs H1=>∃ v w,vs=[v,w] /\ D.nx ((σ.set i<|ae v).set j<|ae w) H1
theorem TF {i:Nat}{y:Str}{a b:aq}{ta:TA}{px py pt:aC}{kt k2 c7}(hc:X.calm=ah) (hN:X.N.Nodup) (hi:X.N[i]?=ae x) (hj:X.N[j]?=ae y) (uh:i≠j)
 (hx:X.env.scope.names.lookup x=ae .local) (hy:X.env.scope.names.lookup y=ae .local) (ha:PA X [a,b] ta)
 (hw:swappedStores [.Tuple [.Name x px,.Name y py] kt pt] (.Tuple [a,b] k2 c7) X.env=pure (ae [x,y]))
 (hs:swapsWithSole [.Tuple [.Name x px,.Name y py] kt pt] (.Tuple [a,b] k2 c7) pos.line X.env=pure af:=by rfl) :
 PS X zaq (ac8 i j ta):=by
 intro pins s σ H D I h;refine ak<|yu ?_;refine ak<|az ?_;refine ak<|Tuple_<|tA (ha _ pins s σ H _ I h) λus s1 vs H1 I1 r1 q1=>?_;let#[v,w,e1,q1]:=q1;subst e1;obtain⟨u1,u2,rfl,rv,eO⟩:∃ u1 u2,us=[u1,u2] /\ RelV v u1 /\ RelV w u2:=by
  cases r1 with
  |cons p q=>
    cases q with
    |cons p' q'=>
      cases q';show#[_,_,rfl,p,p']
 refine eV ?_ (by change 2<=sizeLine;decide);rw[hw];refine ak<|az ?_;change wpAny _ X.A _ _ _ _;refine ak<|nU<|ak<|abY (items:=(List.toArray [u1,u2])) (I.ok.hd hc) (IsTup.new s1.heap _) λh' xF=>?_;change wpAny _ _ _ _ _ _;refine ak<|xm<|yw<|iQ ((I1.kept λb o e=>aN _ e).kept (t':=s1.toks) λb o e=>xF b o (bI<|a9 e) e) hN hj (.inl hy) eO (λs2 I4=>?_)<|.inr hy;refine xm<|yw<|iQ I4 hN hi (.inl hx) rv (λs3 I5=>Xo<|az ?_)<|.inr hx;rw[Hm _ _<|Ne.symm uh]at I5;show#[_,H1,I5,q1]
def ac9 (i:Nat) (te:TE) (ti:Ib):TS:=λD σ H=>∃ x,σ[i]?=ae (ae x) /\ te σ H λy H1=>ti x y H1 λz H2=>D.nx (σ.set i<|ae z) H2
theorem Ly {i:Nat}{te:TE}{op:Operator}{ti:Ib}(hN:X.N.Nodup) (hi:X.N[i]?=ae x) (hx:Loc X.env.scope x) (he:PE X e te) (ho:XW X op ti) (hf:X.fn x=ah \/ X.env.scope.names.lookup x=ae .local:=by first|show .inl zc|show .inr zc|assumption) :
 PS X (.AugAssign (.Name x pos') op e pos) (ac9 i te ti):=by
 intro pins s σ H D I h;let#[v,e1,h]:=h;let#[m,hn,hl]:=I.loc;let#[u,r,l]:=hl i x v hi e1 (by rcases hx with k|k;show .inl k;show .inr (.inl k));refine wpAny_AugAssign_Name ?_;have go:wpAny (model X.prog X.w) X.A (eval e X.env) (λw s₂=>wpAny zf X.A (inplaceOp op u w) (λr s₃=>wpAny zf X.A (storeName X.env x r) (λ_=>SP X pins D .next) X.xe s₃) X.xe s₂) X.xe s:=by
  refine tE (he pins s σ H _ I h) λw s1 y H1 I1 r1 q1=>?_;show tE (ho pins s1 σ H1 v y u w _ I1 r r1 q1) λz s2 zv H2 I2 r2 q2=>(iQ I2 hN hi hx r2 (λs3 I3=>#[_,H2,I3,q2]) hf)
 rcases l with⟨hk,hm⟩|⟨hk,c,hc,xD⟩
 .show aaL I.ok.kind hk hn hm go
 .rcases hk with hk|hk
  .show aaM I.ok.kind hk hc xD go
  .rcases hx with k|k
   .have:X.env.scope.names.lookup x=ae .free:=hk;rw[k]at this;cases this
   .have:X.env.scope.names.lookup x=ae .free:=hk;rw[k]at this;cases this
noncomputable def XY (f:Int->Int->Int):Ib:=λx y H Q=>∃ i j,x=.int i /\ y=.int j /\ Q (.int<|f i j) H
theorem TH:XW X .Add (XY λi j=>i+j):=by
 intro pins s σ H x y v u Q I r1 r2 h;let#[i,j,e1,e2,q]:=h;subst e1;subst e2;let#[t,rfl]:=r1;let#[t',rfl]:=r2;show iadd_int #[.int _,H,I.tok _,#[_,rfl],q]
theorem TJ:XW X .Sub (XY λi j=>i-j):=by
 intro pins s σ H x y v u Q I r1 r2 h;let#[i,j,e1,e2,q]:=h;subst e1;subst e2;let#[t,rfl]:=r1;let#[t',rfl]:=r2;show isub_int #[.int _,H,I.tok _,#[_,rfl],q]
end
section
variable {pos:aC}
end
structure It where
 go:Nat->Hp->zk
 yQ:Nat->Hp->V->Hp->zk
 stop:Nat->Hp->zk
def n6 (X:Cx) (pins:List<|aj×aZ) (H:Hp) (b:aj):zk:=
 H b=ag /\ b≠X.env.locals /\ b∉X.fs /\ (b∈X.ex \/ X.s₀.heap.objs.size<=b) /\ (∀ x c,X.env.cells.lookup x=ae c->c≠b) /\ ∀ p∈X.pn++pins,p.1≠b
theorem Inv.vL {s:au}{b:aj}(I:Inv X pins σ H s) (hb:s.heap.objs.size<=b) (hn:H' b=ag):n6 X pins H' b:=by
 refine#[hn,uP<|kB I.lt hb,I.agQ hb,.inr<|cB I.sz hb,λx c e z=>?_,λp hp z=>(absurd (kB (a9 (I.pin p hp).1) (by rw[z];show hb))<|hV _)]
 .let#[v,q]:=I.cell x c e;show absurd (kB q.lt (by rw[z];show hb))<|hV _
structure Turn (P:dD) (w:cw) (K:PySem.W.Frag) (tg:aq) (J:It) (fp:List aj) (it:aj) (tn:Nat->aI->zk):zk where
 mem:it∈fp
 obj:∀ i h,tn i h->∀ b∈fp,∃ o,h.get? b=ae o /\ ∀ v,o.data≠.cell v
 keep:∀ i h h',tn i h->(∀ b∈fp,∀ o,h.get? b=ae o->h'.get? b=ae o)->tn i h'
 item:∀ (X:Cx),X.prog=P->X.w=w->X.K=K->X.calm=ah->∀ (i:Nat) (pins:List<|aj×aZ) (s:au) (σ:St) (H:Hp) (E:ai->au->zk),Inv X pins σ H s->(∀ b∈fp,n6 X pins H b)->tn i s.heap->J.go i H ->
  wpAny (model P w) X.A (pyNext<|.ref it) (λr s1=>∃ u,r=ae u /\
   wpAny (model P w) X.A (letOwnedTupleGo tg (.ref it) u) (λ_ s2=>∃ x H',Inv X pins σ H' s2 /\ RelV x u /\ J.yQ i H x H' /\ tn (i+1) s2.heap /\ ∀ b∈fp,H' b=ag) E s1) E s
 done:∀ (X:Cx),X.prog=P->X.w=w->X.K=K->X.calm=ah->∀ (i:Nat) (pins:List<|aj×aZ) (s:au) (σ:St) (H:Hp) (E:ai->au->zk),Inv X pins σ H s->(∀ b∈fp,n6 X pins H b)->tn i s.heap->J.stop i H ->
  wpAny (model P w) X.A (pyNext<|.ref it) (λr s1=>r=ag /\ Inv X pins σ H s1) E s
 self:∀ (A:eN) (i:Nat) (s:au) (Q:ai->au->zk) (E:ai->au->zk),tn i s.heap->Q (.ref it) s->wpAny (model P w) A (pyIter<|.ref it) Q E s
abbrev TI:=St->Hp->(It->Hp->zk)->zk
def XZ (X:Cx) (pins:List<|aj×aZ) (σ:St) (tg:aq) (R:It->Hp->zk) (Ie:ai) (s2:au):zk:=
 ∃ (it:aj) (fp:List aj) (tn:Nat->aI->zk) (J:It) (H':Hp),Ie=.ref it /\ Inv X pins σ H' s2 /\ Turn X.prog X.w X.K tg J fp it tn /\ tn 0 s2.heap /\ (∀ b∈fp,n6 X pins H' b) /\ R J H'
def PI (X:Cx) (tg iter:aq) (wi:TI):zk:=
 ∀ (pins:List<|aj×aZ) (s:au) (σ:St) (H:Hp) (R:It->Hp->zk),Inv X pins σ H s->wi σ H R ->
  wpAny zf X.A (eval iter X.env) (λv s1=>wpAny zf X.A (pyIter v) (XZ X pins σ tg R) X.xe s1) X.xe s
theorem CT {s:au}{n:String}{vs:Array ai}{Q:Unit->au->zk}(ho:s.heap.get? it=ae o) (hc:o.cls=.type n) (hd:o.data=.fields vs)
 (hn:["enumerate","zip","dict_itemiterator","dict_reverseitemiterator","odict_iterator","itertools.zip_longest","itertools.pairwise"].contains n=af) (hQ:Q () s):wpAny M A (letOwnedTupleGo tg (.ref it) u) Q E s:=by
 cases tg<;>first
  |show az hQ
  |(cases u<;>first
   |show az hQ
   | (refine ak (wQ ho ?_)
      rw[hc,hd];change wpAny M A (if (["enumerate","zip","dict_itemiterator","dict_reverseitemiterator","odict_iterator","itertools.zip_longest","itertools.pairwise"].contains n&&vs[0]?==ae _)=ah then _ else _) Q E s;rw[if_neg (by intro h;rw[hn,Hl]at h;cases h)];show az hQ))
noncomputable def Ig (K:PySem.W.Frag) (a:aj):It:=
 #[λi H=>∃ xs x,bN K H a xs /\ xs[i]?=ae x,λi H x H'=>H'=H /\ ∀ xs,bN K H a xs->xs[i]?=ae x,λi H=>∃ xs,bN K H a xs /\ xs.length<=i]
noncomputable def X0 (K:PySem.W.Frag) (a:aj):It:=
 #[λi H=>∃ xs x,cP K H a xs /\ xs[i]?=ae x,λi H x H'=>H'=H /\ ∀ xs,cP K H a xs->xs[i]?=ae x,λi H=>∃ xs,cP K H a xs /\ xs.length<=i]
noncomputable def vM (lo:Int) (n:Nat):It:=#[λi _=>i<n,λi H x H'=>H'=H /\ x=.int (lo+i),λi _=>n<=i]
theorem BD (a it:aj):Turn P w K tg (Ig K a) [it] it (λi h=>h.IsListIter it a i) where
 mem:=by simp
 obj:=λi h st b hb=>by
  have e:b=it:=by simpa using hb
  subst e;let#[o,e,c,d]:=st;show#[o,e,λv z=>by rw[d]at z;cases z]
 keep:=λi h h' st k=>st.at λo e=>k it zj o e
 item:=by
  intro X hP hw hK hc i pins s σ H E I hf st hg;subst hP hw hK;let#[xs,x,hq,hx]:=hg;let#[its,rv,p,hz]:=I.list hq;let#[u,hu,ru]:=rv.get hx;let#[f0,f1,f2,f3,f4,f5]:=hf it zj;refine aaR st p.isList (by simpa using hu) λh' n8 sb=>?_;let#[o,e,c,d]:=id n8;show#[u,rfl,CT e c d (rfl) #[x,H,(I.turned (λb o hb e=>(sb.2 b hb).trans e) f0 f1 f3 f4 f5),ru,#[rfl,λys hy=>by rw[I.ac5 hy hq];show hx],n8,λb hb=>(hf b hb).1]]
 done:=by
  intro X hP hw hK hc i pins s σ H E I hf st hg;subst hP hw hK;let#[xs,hq,hx]:=hg;let#[its,rv,p,hz]:=I.list hq;let#[f0,f1,f2,f3,f4,f5]:=hf it zj;have hl:=rv.length;show aaS (I.ok.hd hc) st p.isList zg λh' eb=>#[rfl,I.turned (λb o hb e=>eb b o hb e) f0 f1 f3 f4 f5]
 self:=λ_ _ _ _ _ st h=>wpAny_pyIter_listiter st h
theorem D7 (a it:aj):Turn P w K tg (X0 K a) [it] it (λi h=>h.IsTupleIter it a i) where
 mem:=by simp
 obj:=λi h st b hb=>by
  have e:b=it:=by simpa using hb
  subst e;let#[o,e,c,d]:=st;show#[o,e,λv z=>by rw[d]at z;cases z]
 keep:=λi h h' st k=>st.at λo e=>k it zj o e
 item:=by
  intro X hP hw hK hc i pins s σ H E I hf st hg;subst hP hw hK;let#[xs,x,hq,hx]:=hg;let#[its,rv,p,hz]:=I.tuple hq;let#[u,hu,ru]:=rv.get hx;let#[f0,f1,f2,f3,f4,f5]:=hf it zj;refine wpAny_pyNext_tuple_item st (p) (by simpa using hu) λh' n8 sb=>?_;let#[o,e,c,d]:=id n8;show#[u,rfl,CT e c d (rfl) #[x,H,(I.turned (λb o hb e=>(sb.2 b hb).trans e) f0 f1 f3 f4 f5),ru,#[rfl,λys hy=>by rw[I.ac6 hy hq];show hx],n8,λb hb=>(hf b hb).1]]
 done:=by
  intro X hP hw hK hc i pins s σ H E I hf st hg;subst hP hw hK;let#[xs,hq,hx]:=hg;let#[its,rv,p,hz]:=I.tuple hq;let#[f0,f1,f2,f3,f4,f5]:=hf it zj;have hl:=rv.length;show wpAny_pyNext_tuple_end (I.ok.hd hc) st (p) zg λh' eb=>#[rfl,I.turned (λb o hb e=>eb b o hb e) f0 f1 f3 f4 f5]
 self:=λ_ _ _ _ _ st h=>wpAny_pyIter_tupleiter st h
theorem Ay (it:aj) (lo:Int) (n:Nat):Turn P w K tg (vM lo n) [it] it (λi h=>IsRangeIter h it (lo+(i:Nat)*1) ((n:Int)-(i:Nat)) 1) where
 mem:=by simp
 obj:=λi h st b hb=>by
  have e:b=it:=by simpa using hb
  subst e;show#[_,st,λv z=>by
   cases z]
 keep:=λi h h' st k=>k it zj _ st
 item:=by
  intro X hP hw hK hc i pins s σ H E I hf st hg;subst hP hw hK;let#[f0,f1,f2,f3,f4,f5]:=hf it zj;refine(Walks.range (prog:=X.prog) (w:=X.w) (I.ok.hd hc) it lo 1 n).item i s _ _ hg st λv h' tk hv n8 kk=>?_;let#[t,rfl]:=hv;refine#[_,rfl,CT n8 zc zc (rfl) #[.int _,H,(I.turned (λb o hb e=>kk b o (by simpa using hb) e) f0 f1 f3 f4 f5),#[t,?_],#[rfl,rfl],n8,λb hb=>(hf b hb).1]];rw[HN]
 done:=by
  intro X hP hw hK hc i pins s σ H E I hf st hg;let#[f0,f1,f2,f3,f4,f5]:=hf it zj;show wpAny_pyNext_range_end (I.ok.hd hc) st (by have:n<=i:=hg;lia) λh' eb=>#[rfl,I.turned (λb o hb e=>eb b o hb e) f0 f1 f3 f4 f5]
 self:=λ_ _ _ _ _ st h=>wpAny_pyIter_rangeiter st h
def ada (K:PySem.W.Frag) (tl:TE):TI:=λσ H R=>tl σ H λx H1=>∃ a,x=.ref a /\ (∃ xs,bN K H1 a xs) /\ R (Ig K a) H1
theorem Ov {l:aq}{tl:TE}(hl:PE X l tl):PI X tg l (ada X.K tl):=by
 intro pins s σ H R I h;refine tE (hl pins s σ H _ I h) λv s1 x H1 I1 r1 q1=>?_;let#[a,e,#[xs,hq],q]:=q1;subst e;cases r1;let#[its,rv,p,hz]:=I1.list hq;refine wR p.isList ?_;refine#[s1.heap.objs.size,[s1.heap.objs.size],_,_,H1,rfl,I1.kept λb o e=>aN _ e,BD a _,#[_,bB _ zc,rfl,rfl],λb hb=>?_,q];have e:b=s1.heap.objs.size:=by simpa using hb
 subst e;show I1.vL (aE _)<|I1.aD.fresh<|aE _
theorem Lz {s:au}{R:It->Hp->zk}{lo hi:Int}{t u v:Tok}{tk:Nat}(I:Inv X pins σ H s) (h1:-(2 ^ 62)<=lo) (h2:lo<2 ^ 62) (h3:-(2 ^ 62)<=hi) (h4:hi<2 ^ 62)
 (q:R (vM lo (hi-lo).toNat) H):wpAny zf X.A (pyIter zab) (XZ X pins σ tg R) E { s with heap:=s.heap.push { cls:=.type "range",data:=.fields (List.toArray [.int lo t,.int hi u,.int 1 v]) },toks:=tk }:=by
 refine aaT (IsRange.new ..) (small_one h1 h2 h3 h4) ?_;have I1:Inv X pins σ H { s with heap:=s.heap.push { cls:=.type "range",data:=.fields (List.toArray [.int lo t,.int hi u,.int 1 v]) },toks:=tk }:=I.kept λb o e=>aN _ e;refine#[(s.heap.push { cls:=.type "range",data:=.fields (List.toArray [.int lo t,.int hi u,.int 1 v]) }).objs.size,[(s.heap.push { cls:=.type "range",data:=.fields (List.toArray [.int lo t,.int hi u,.int 1 v]) }).objs.size],_,_,H,rfl,
  I1.kept λb o e=>aN _ e,Ay _ lo (hi-lo).toNat,?_,λb hb=>?_,q]
 .have e1:lo+((0))*1=lo:=by simp
  have e2:(((hi-lo).toNat))-((0))=Builtin.Range.rangeSize lo hi 1:=by rw[aaU];split<;>lia
  change IsRangeIter _ _ (lo+((0))*1) ((((hi-lo).toNat))-((0))) 1;rw[e1,e2];show bB _ zc
 .have e:b=(s.heap.push { cls:=.type "range",data:=.fields (List.toArray [.int lo t,.int hi u,.int 1 v]) }).objs.size:=by simpa using hb
  subst e;show I1.vL (aE _)<|I1.aD.fresh<|aE _
def ahd (ta:TA):TI:=λσ H R=>ta σ H λvs H1=>∃ j:Int,vs=[.int j] /\ -(2 ^ 62)<=j /\ j<2 ^ 62 /\ R (vM 0 j.toNat) H1
theorem Jd {a:aq}{ta:TA}{p pos:aC}(hg:Gl X "range") (hm:X.mg "range"=ag) (ha:PA X [a] ta) (hs:starEach [a] X.env=[(af,eval a X.env)]:=by rfl):PI X tg (.Call (.Name "range" p) [a] [] pos) (ahd ta):=by
 intro pins s σ H R I h;refine Call_<|jj I hg hm boot_range<|Hy (tA (ha pos pins s σ H _ I h) λus s1 vs H1 I1 r1 q1=>?_) hs zc;let#[j,e,q1,q2,q]:=q1;subst e;cases r1 with
 |cons r rr=>
   cases rr;let#[t,rfl]:=r;show call_range_1<|Lz I1 za za q1 q2 (by simpa using q)
def Ih (wi:TI) (g:TG) (tb:TS):TS:=λD σ H=>wi σ H λJ H1=>∃ W:Nat->Nat->St->Hp->zk,(∃ m,W 0 m σ H1) /\ ∀ i m σ H,W i m σ H ->
 (J.stop i H /\ D.nx σ H) \/ (J.go i H /\ ∃ N:St->Hp->zk,(∀ σ' H',N σ' H'->∃ m',m'<m /\ W (i+1) m' σ' H') /\ ∀ x H',J.yQ i H x H'->g x σ H' λσ2 H2=>tb { D with nx:=N,ct:=N,bk:=D.nx } σ2 H2)
noncomputable def yR (fp:List aj) (h:aI):List (aj×aZ):=fp.filterMap λb=>(h.get? b).map λo=>(b,o)
theorem iA {b:aj}(hb:b∈fp) (e:h.get? b=ae o):(b,o)∈yR fp h:=List.mem_filterMap.mpr #[b,hb,by rw[e];rfl]
theorem Je {p:aj×aZ}(hp:p∈yR fp h):p.1∈fp /\ h.get? p.1=ae p.2:=by
 let#[b,hb,e]:=List.mem_filterMap.mp hp;cases q:h.get? b with
 |none=>rw[q]at e;cases e
 |some o=>
   rw[q]at e;have e':=Option.some.inj e;subst e';show#[hb,q]
theorem Inv.pinned {s:au}(I:Inv X pins σ H s) (hf:∀ b∈fp,n6 X pins H b) (ho:∀ b∈fp,∃ o,s.heap.get? b=ae o /\ ∀ v,o.data≠.cell v):Inv X (pins++yR fp s.heap) σ H s:=
 I.acU λp hp=>(List.mem_append.mp hp).elim (λz=>I.pin p<|hZ _ z) λz=>by
  let#[hb,e]:=Je z;let#[f0,f1,f2,_]:=hf p.1 hb;let#[o,e',d]:=ho p.1 hb;rw[e]at e';cases e';show#[e,f0,f1,f2,d]
theorem Inv.yS {pl:List (aj×aZ)}{s:au}(I:Inv X (pins++pl) σ H s):Inv X pins σ H s:=I.acU λp hp=>I.pin p<|hZ _<|qP _ hp
theorem D8 {body:List cb}{wi:TI}{g:TG}{tb:TS}{pos:aC}(hp:PassesOwn zf X.A X.env X.xe) (hc:X.calm=ah) (hi:PI X tg iter wi) (hg:PG X tg g) (hb:kE X body tb)
 (hs:∀ x,foldedSetIterable iter X.env x=pure x:=by intro _;rfl):PS X (.For tg iter body [] pos) (Ih wi g tb):=by
 intro pins s σ H D I h;refine wpAny_For (cg (hi pins s σ H _ I h) λv s1 h1=>cg h1 λIe s2 h2=>?_) hs;let#[it,fp,tn,J,H2,e,I2,T,vN,f2,W,#[m0,w0],turn]:=h2;subst e;have stat:∀ {H'},(∀ b∈fp,H' b=ag)->∀ b∈fp,n6 X pins H' b:=λhn b hb=>#[hn b hb,(f2 b hb).2];refine codeAny_forLoop_any (λn s'=>∃ i σ' H',Inv X pins σ' H' s' /\ tn i s'.heap /\ (∀ b∈fp,H' b=ag) /\ W i n σ' H') ?_ m0 #[0,σ,H2,I2,vN,λb hb=>(f2 b hb).1,w0];rintro n s3 ⟨i,σ3,H3,I3,uV,adb,w3⟩;rcases turn i n σ3 H3 w3 with⟨stop,qn⟩|⟨go,N,hN,step⟩
 .refine yx hp<|cg (T.done X zc zc zc hc i pins s3 σ3 H3 X.xe I3 (stat adb) uV stop) ?_;rintro r s4 ⟨hr,I4⟩;subst hr;show QM #[σ3,H3,I4,qn]
 .refine yx hp<|cg (T.item X zc zc zc hc i pins s3 σ3 H3 X.xe I3 (stat adb) uV go) ?_;rintro r s4 ⟨u,hr,h4⟩;subst hr;refine yx hp<|cg h4 ?_;rintro _ s5 ⟨x,H5,I5,r5,y5,ui,vO⟩;refine yx hp<|cg (hg _ s5 σ3 H5 x u _ (I5.pinned (stat vO)<|T.obj _ _ ui) r5<|step x H5 y5) ?_;rintro _ s6 ⟨σ6,H6,I6,q6⟩;refine yx hp<|cg (hb _ s6 σ6 H6 _ I6 q6) λf s7 q7=>?_;have again:∀ {σ7}{H7},Inv X _ σ7 H7 s7->N σ7 H7->∃ m,m<n /\ ∃ i σ' H',Inv X pins σ' H' s7 /\ tn i s7.heap /\ (∀ b∈fp,H' b=ag) /\ W i m σ' H':=λ{σ7 H7} I7 n7=>by
   let#[m',hm,w7]:=hN σ7 H7 n7;refine#[m',hm,i+1,σ7,H7,I7.yS,T.keep _ _ _ ui λb hb o e=>(I7.pin (b,o)<|hZ _<|hZ _<|iA hb e).1,λb hb=>?_,w7];let#[o,e,d]:=T.obj _ _ ui b hb;show(I7.pin (b,o)<|hZ _<|hZ _<|iA hb e).2.1
  cases f with
  |brk=>let#[σ7,H7,I7,q7]:=q7;show#[σ7,H7,I7.yS,q7]
  |ret v=>let#[x7,σ7,H7,I7,r7,q7]:=q7;show#[x7,σ7,H7,I7.yS,r7,q7]
  |_=>let#[σ7,H7,I7,n7]:=q7;show again I7 n7
abbrev R2:=V->V->Hp->VK->zk
def bc (X:Cx) (f:ai->ai->Sem ai) (r:R2):zk:=
 ∀ (pins:List<|aj×aZ) (s:au) (σ:St) (H:Hp) (x y:V) (v u:ai) (Q:VK),Inv X pins σ H s->RelV x v->RelV y u->r x y H Q ->
  wpAny zf X.A (f v u) (EP X pins σ Q) X.xe s
def X1 (X:Cx) (f:ai->Sem ai) (r:V->Hp->VK->zk):zk:=
 ∀ (pins:List<|aj×aZ) (s:au) (σ:St) (H:Hp) (x:V) (v:ai) (Q:VK),Inv X pins σ H s->RelV x v->r x H Q ->
  wpAny zf X.A (f v) (EP X pins σ Q) X.xe s
def eE (X:Cx) (f:ai) (r:List V->Hp->VK->zk):zk:=
 ∀ (pins:List<|aj×aZ) (s:au) (σ:St) (H:Hp) (xs:List V) (us:List ai) (Q:VK),Inv X pins σ H s->Vals xs us->r xs H Q ->
  wpAny zf X.A (call f us) (EP X pins σ Q) X.xe s
def yT (r:R2) (ta tb:TE):TE:=λσ H Q=>ta σ H λx H1=>tb σ H1 λy H2=>r x y H2 Q
def ahe (r:V->Hp->VK->zk) (ta:TE):TE:=λσ H Q=>ta σ H λx H1=>r x H1 Q
def rI (C:Int->Int->zk) (g:Int->Int->V):R2:=λx y H Q=>∃ i j,x=.int i /\ y=.int j /\ C i j /\ Q (g i j) H
def kQ (g:Int->Int->V):R2:=λx y H Q=>∃ i j,x=.int i /\ y=.int j /\ Q (g i j) H
def rU (g:Int->V):V->Hp->VK->zk:=λx H Q=>∃ i,x=.int i /\ Q (g i) H
section
variable {a b c:aq} {ta tb tc:TE} {pos:aC}
theorem X2 (ha:PE X a ta) (hb:PE X b tb) {s:au}{R:V->V->Hp->zk}(I:Inv X pins σ H s)
 (h:ta σ H λx H1=>tb σ H1 λy H2=>R x y H2) 
 (hf:∀ v u s2 x y H2,Inv X pins σ H2 s2->RelV x v->RelV y u->R x y H2->wpAny zf X.A (f v u) Q X.xe s2) :
 wpAny zf X.A (eval a X.env) (λv s₁=>wpAny zf X.A (eval b X.env) (λu s₂=>wpAny zf X.A (f v u) Q X.xe s₂) X.xe s₁) X.xe s:=by
 refine tE zaj λv s1 x H1 I1 r1 q1=>?_;show tE (hb pins s1 σ H1 _ I1 q1) λu s2 y H2 I2 r2 q2=>(hf v u s2 x y H2 I2 r1 r2 q2)
theorem We {op:Operator}{r:R2}(ho:bc X (binaryOp op) r) (ha:PE X a ta) (hb:PE X b tb):PE X (.BinOp a op b pos) (yT r ta tb):=by
 intro pins s σ H Q I h;show wpAny_BinOp<|X2 ha hb I h λv u s2 x y H2 I2 rx ry q=>ho pins s2 σ H2 x y v u Q I2 rx ry q
theorem SK {op:UnaryOp}{r:V->Hp->VK->zk}(ho:X1 X (unaryOp op) r) (ha:PE X a ta):PE X (.UnaryOp op a pos) (ahe r ta):=by
 intro pins s σ H Q I h;show UnaryOp_<|tE zaj λv s1 x H1 I1 r1 q1=>ho pins s1 σ H1 x v Q I1 r1 q1
theorem Ii {C:Int->Int->zk}{g:Int->Int->Int}
 (rule:∀ (i j:Int) (t u:Tok) (s:au) (Q:ai->au->zk) (E:ai->au->zk),C i j->Q (.int (g i j) s.toks) { s with toks:=s.toks+1 }->wpAny zf X.A (f (.int i t)<|.int j u) Q E s) :
 bc X f (rI C λi j=>.int<|g i j):=by
 intro pins s σ H x y v u Q I rx ry h;let#[i,j,rfl,rfl,hc,q]:=h;let#[t,rfl]:=rx;let#[t',rfl]:=ry;show rule i j t t' s _ _ hc #[.int _,H,I.tok _,#[_,rfl],q]
theorem ade {g:Int->Int->Int}
 (rule:∀ (i j:Int) (t u:Tok) (s:au) (Q:ai->au->zk) (E:ai->au->zk),Q (.int (g i j) s.toks) { s with toks:=s.toks+1 }->wpAny zf X.A (f (.int i t)<|.int j u) Q E s) :
 bc X f (kQ λi j=>.int<|g i j):=by
 intro pins s σ H x y v u Q I rx ry h;let#[i,j,rfl,rfl,q]:=h;let#[t,rfl]:=rx;let#[t',rfl]:=ry;show rule i j t t' s _ _ #[.int _,H,I.tok _,#[_,rfl],q]
theorem Ij {g:Int->Int->Bool}
 (rule:∀ (i j:Int) (t u:Tok) (s:au) (Q:ai->au->zk) (E:ai->au->zk),Q (.bool<|g i j) s->wpAny zf X.A (f (.int i t)<|.int j u) Q E s) :
 bc X f (kQ λi j=>.bl<|g i j):=by
 intro pins s σ H x y v u Q I rx ry h;let#[i,j,rfl,rfl,q]:=h;let#[t,rfl]:=rx;let#[t',rfl]:=ry;show rule i j t t' s _ _ #[.bl _,H,I,rfl,q]
def xG (i j:Int):zk:=0<=j /\ j<=1000000 /\ i.natAbs<2 ^ 64
def vP (i j:Int):zk:=(-(2 ^ 64)<i /\ i<2 ^ 64) \/ (-(2 ^ 64)<j /\ j<2 ^ 64)
theorem vP.ok {i j:Int}(h:vP i j):IntMulOk i j:=by
 rcases h with⟨h1,h2⟩|⟨h1,h2⟩
 .show .of_left<|aaV h1 h2
 .show .of_right<|aaV h1 h2
theorem TL:bc X (binaryOp .Add) (kQ λi j=>.int<|i+j):=ade λ_ _ _ _ _ _ _ q=>add_int q
theorem TM:bc X (binaryOp .Sub) (kQ λi j=>.int<|i-j):=ade λ_ _ _ _ _ _ _ q=>sub_int q
theorem TN:bc X (binaryOp .Mult) (rI vP λi j=>.int<|i*j):=Ii λ_ _ _ _ _ _ _ hc q=>mul_int q hc.ok
theorem TQ:bc X (binaryOp .Mod) (rI (λ_ j=>0<j) λi j=>.int<|i % j):=Ii λi j _ _ _ _ _ hc q=>mod_int' za (by rw[Int.fmod_eq_emod_of_nonneg i za];show q)
theorem TR:bc X (binaryOp .Pow) (rI xG λi j=>.int<|i ^ j.toNat):=Ii λ_ _ _ _ _ _ _ hc q=>pow_int_small hc.1 hc.2.1 hc.2.2 q
theorem ahf {f:ai->Sem ai}{g:Int->Int}
 (rule:∀ (i:Int) (t:Tok) (s:au) (Q:ai->au->zk) (E:ai->au->zk),Q (.int (g i) s.toks) { s with toks:=s.toks+1 }->wpAny zf X.A (f<|.int i t) Q E s) :
 X1 X f (rU λi=>.int<|g i):=by
 intro pins s σ H x v Q I rx h;let#[i,rfl,q]:=h;let#[t,rfl]:=rx;show rule i t s _ _ #[.int _,H,I.tok _,#[_,rfl],q]
theorem LB:X1 X (unaryOp .USub) (rU λi=>.int<|-i):=ahf λ_ _ _ _ _ q=>neg_int q
end
noncomputable def adf:V->V->Bool
 |.non,.non=>ah|.non,.int _=>ah|.int _,.non=>ah|.non,.bl _=>ah|.bl _,.non=>ah|.non,.str _=>ah|.str _,.non=>ah
 |.int _,.int _=>ah|.bl _,.bl _=>ah|.str _,.str _=>ah|.pU _,.pU _=>ah
 |.int _,.str _=>ah|.str _,.int _=>ah|.bl _,.str _=>ah|.str _,.bl _=>ah
 |_,_=>af
def adg:R2:=λx y H Q=>adf x y=ah /\ Q (.bl<|decide (x=y)) H
def adh:R2:=λx y H Q=>adf x y=ah /\ Q (.bl<|!decide (x=y)) H
theorem F8 {i j:Int}:decide (V.int i=V.int j)=(i==j):=by
 rw[kK];simp
theorem LC {i j:Bool}:decide (V.bl i=V.bl j)=(i==j):=by
 rw[kK];simp
theorem F9 {i j:Str}:decide (V.str i=V.str j)=(i==j):=by
 rw[kK];simp
theorem Ga {i j:Array UInt8}:decide (V.pU i=V.pU j)=(i.toList==j.toList):=by
 rw[kK];cases i;cases j;simp
section
variable {a b c:aq} {ta tb tc:TE} {pos:aC}
theorem fW {s:au}{Q:VK}{k k':Bool}(I:Inv X pins σ H s) (q:Q (.bl k) H) (e:k=k'):EP X pins σ Q (.bool k') s:=by
 subst e;show#[.bl k,H,I,rfl,q]
theorem Wf:bc X (compareOp .Eq) adg:=by
 intro pins s σ H x y v u Q I rx ry h;let#[hs,q]:=h;cases x with
 |non=>
   cases rx;cases y with
   |non=>cases ry;show agi zah
   |bl j=>cases ry;show agj zah
   |int j=>let#[t',rfl]:=ry;show agk zah
   |str j=>let#[t',rfl]:=ry;show agl zah
   |_=>show absurd (hs) dA
 |bl i=>
   cases rx;cases y with
   |non=>cases ry;show agm zah
   |bl j=>cases ry;show eq_bool<|fW I q LC
   |str j=>let#[t',rfl]:=ry;show agw zah
   |_=>show absurd (hs) dA
 |int i=>
   let#[t,rfl]:=rx;cases y with
   |non=>cases ry;show agn zah
   |int j=>let#[t',rfl]:=ry;show eq_int<|fW I q F8
   |str j=>let#[t',rfl]:=ry;show agx zah
   |_=>show absurd (hs) dA
 |str i=>
   let#[t,rfl]:=rx;cases y with
   |non=>cases ry;show ago zah
   |bl j=>cases ry;show agy zah
   |int j=>let#[t',rfl]:=ry;show agz zah
   |str j=>let#[t',rfl]:=ry;show eq_str<|fW I q F9
   |_=>show absurd (hs) dA
 |pU i=>
   let#[t,rfl]:=rx;cases y with
   |pU j=>let#[t',rfl]:=ry;show PySem.W.eq_bytes<|fW I q Ga
   |_=>show absurd (hs) dA
 |_=>cases y<;>show absurd (show af=ah from hs) dA
theorem Wg:bc X (compareOp .NotEq) adh:=by
 intro pins s σ H x y v u Q I rx ry h;let#[hs,q]:=h;cases x with
 |non=>
   cases rx;cases y with
   |non=>cases ry;show agp zah
   |bl j=>cases ry;show agq zah
   |int j=>let#[t',rfl]:=ry;show agr zah
   |str j=>let#[t',rfl]:=ry;show ags zah
   |_=>show absurd (hs) dA
 |bl i=>
   cases rx;cases y with
   |non=>cases ry;show agt zah
   |bl j=>cases ry;show ne_bool<|fW I q<|congrArg not LC
   |str j=>let#[t',rfl]:=ry;show agA zah
   |_=>show absurd (hs) dA
 |int i=>
   let#[t,rfl]:=rx;cases y with
   |non=>cases ry;show agu zah
   |int j=>let#[t',rfl]:=ry;show ne_int<|fW I q<|congrArg not F8
   |str j=>let#[t',rfl]:=ry;show agB zah
   |_=>show absurd (hs) dA
 |str i=>
   let#[t,rfl]:=rx;cases y with
   |non=>cases ry;show agv zah
   |bl j=>cases ry;show agC zah
   |int j=>let#[t',rfl]:=ry;show agD zah
   |str j=>let#[t',rfl]:=ry;show ne_str<|fW I q<|congrArg not F9
   |_=>show absurd (hs) dA
 |pU i=>
   let#[t,rfl]:=rx;cases y with
   |pU j=>let#[t',rfl]:=ry;show PySem.W.ne_bytes<|fW I q<|congrArg not Ga
   |_=>show absurd (hs) dA
 |_=>cases y<;>show absurd (show af=ah from hs) dA
theorem Wh:bc X (compareOp .Lt) (kQ λi j=>.bl<|decide (i<j)):=Ij λ_ _ _ _ _ _ _ q=>lt_int q
theorem Wi:bc X (compareOp .LtE) (kQ λi j=>.bl<|decide (i<=j)):=Ij λ_ _ _ _ _ _ _ q=>le_int q
theorem Wj:bc X (compareOp .Gt) (kQ λi j=>.bl<|decide (j<i)):=Ij λ_ _ _ _ _ _ _ q=>gt_int q
theorem Wk:bc X (compareOp .GtE) (kQ λi j=>.bl<|decide (j<=i)):=Ij λ_ _ _ _ _ _ _ q=>ge_int q
theorem bc.or {r r':R2}(h:bc X f r) (h':bc X f r'):bc X f (λx y H Q=>r x y H Q \/ r' x y H Q):=by
 intro pins s σ H x y v u Q I rx ry q;rcases q with q|q
 .show h pins s σ H x y v u Q I rx ry q
 .show h' pins s σ H x y v u Q I rx ry q
theorem Ow {r:R2}(ho:bc X (compareOp op) r) (ha:PE X a ta) (hb:PE X b tb) (hm:behindInMarks op b=af):PE X (.Compare a [op] [b] pos) (yT r ta tb):=by
 intro pins s σ H Q I h;show aaN (X2 ha hb I h λv u s2 x y H2 I2 rx ry q=>ho pins s2 σ H2 x y v u Q I2 rx ry q) hm
noncomputable def adi (t:TE):TT:=λσ H Q=>t σ H λx H'=>∃ k,x=.bl k /\ Q k H'
theorem Ox {r:R2}(ho:bc X (compareOp op) r) (ha:PE X a ta) (hb:PE X b tb) (hm:behindInMarks op b=af):PT X (.Compare a [op] [b] pos) (adi<|yT r ta tb):=by
 intro pins s σ H Q I h;refine aaO (tE zaj λv s1 x H1 I1 r1 q1=>tE (hb pins s1 σ H1 _ I1 q1) λu s2 y H2 I2 r2 q2=>tE (ho pins s2 σ H2 x y v u _ I2 r1 r2 q2) λc s3 z H3 I3 r3 hh=>?_) hm;let#[k,e,q3]:=hh;subst e;cases r3;show qi #[H3,I3,q3]
def X3 (r r':R2) (ta tb tc:TE):TE:=λσ H Q=>ta σ H λx H1=>tb σ H1 λy H2=>r x y H2 λz H3=>∃ k,z=.bl k /\
 (if k=ah then tc σ H3 λw' H4=>r' y w' H4 Q else Q (.bl af) H3)
theorem LD {cZ:CmpOp}{r r':R2}(ho:bc X (compareOp op) r) (kD:bc X (compareOp cZ) r') (ha:PE X a ta) (hb:PE X b tb) (hc:PE X c tc)
 (hm:lastMarks [op,cZ] [b,c]=af:=by with_unfolding_all rfl):PE X (.Compare a [op,cZ] [b,c] pos) (X3 r r' ta tb tc):=by
 intro pins s σ H Q I h;refine Compare_chain (tE zaj λv s1 x H1 I1 r1 q1=>chain_link<|tE (hb pins s1 σ H1 _ I1 q1) λu s2 y H2 I2 r2 q2=>tE (ho pins s2 σ H2 x y v u _ I2 r1 r2 q2) λd s3 z H3 I3 r3 hh=>?_) hm;let#[k,e,q3]:=hh;subst e;cases r3;refine qi ?_;cases k with
 |false=>show ite_ff #[.bl af,H3,I3,rfl,q3]
 |true=>show ite_tt<|chain_last<|tE (hc pins s3 σ H3 _ I3 q3) λw' s4 z' H4 I4 r4 q4=>kD pins s4 σ H4 y z' u w' Q I4 r2 r4 q4
theorem LF {cZ:CmpOp}{r r':R2}(ho:bc X (compareOp op) r) (kD:bc X (compareOp cZ) r') (ha:PE X a ta) (hb:PE X b tb) (hc:PE X c tc)
 (hm:lastMarks [op,cZ] [b,c]=af:=by with_unfolding_all rfl):PT X (.Compare a [op,cZ] [b,c] pos) (adi<|X3 r r' ta tb tc):=by
 intro pins s σ H Q I h;refine isTrue_chain (tE zaj λv s1 x H1 I1 r1 q1=>test_link<|tE (hb pins s1 σ H1 _ I1 q1) λu s2 y H2 I2 r2 q2=>tE (ho pins s2 σ H2 x y v u _ I2 r1 r2 q2) λd s3 z H3 I3 r3 hh=>?_) hm;let#[k,e,q3]:=hh;subst e;cases r3;refine qi ?_;cases k with
 |false=>
   let#[k',e',q']:=q3;cases e';show ite_ff #[H3,I3,q']
 |true=>
   refine ite_tt<|test_last<|tE (hc pins s3 σ H3 _ I3 q3) λw' s4 z' H4 I4 r4 q4=>tE (kD pins s4 σ H4 y z' u w' _ I4 r2 r4 q4) λd' s5 z2 H5 I5 r5 hh=>?_;let#[k2,e2,q5]:=hh;subst e2;cases r5;show qi #[H5,I5,q5]
theorem yU:(sizeLine:Nat)<2 ^ 63:=by decide
theorem D9:bc X (binaryOp .Add) (λx y H Q=>∃ i j,x=.str i /\ y=.str j /\ i.length+j.length<=sizeLine /\ Q (.str<|i++j) H):=by
 intro pins s σ H x y v u Q I rx ry h;let#[i,j,rfl,rfl,hz,q]:=h;let#[t,rfl]:=rx;let#[t',rfl]:=ry;show add_str (λt' tk=>#[.str _,H,I.tok _,#[_,rfl],q]) hz
theorem vals1 {x:V}(r:Vals [x] us):∃ u,us=[u] /\ RelV x u:=by
 cases r with
 |cons r1 r2=>cases r2;show#[_,rfl,r1]
theorem vals2 {x y:V}(r:Vals [x,y] us):∃ u w',us=[u,w'] /\ RelV x u /\ RelV y w':=by
 cases r with
 |cons r1 r2=>
   cases r2 with
   |cons r3 r4=>cases r4;show#[_,_,rfl,r1,r3]
theorem Jf (hc:X.calm=ah):eE X (.builtin "max") (λxs H Q=>∃ i j,xs=[.int i,.int j] /\ Q (.int (if j>i then j else i)) H):=by
 intro pins s σ H xs us Q I r h;let#[i,j,rfl,q]:=h;let#[u,w',rfl,#[t,rfl],#[t',rfl]]:=vals2 r;refine max_two_ints (I.ok.hd hc) λh' tk k=>#[_,H,I.kept k,?_,q];by_cases hj:j>i
 .rw[if_pos hj,if_pos hj];show#[_,rfl]
 .rw[if_neg hj,if_neg hj];show#[_,rfl]
theorem Jg (hc:X.calm=ah):eE X (.builtin "min") (λxs H Q=>∃ i j,xs=[.int i,.int j] /\ Q (.int (if j<i then j else i)) H):=by
 intro pins s σ H xs us Q I r h;let#[i,j,rfl,q]:=h;let#[u,w',rfl,#[t,rfl],#[t',rfl]]:=vals2 r;refine min_two_ints (I.ok.hd hc) λh' tk k=>#[_,H,I.kept k,?_,q];by_cases hj:j<i
 .rw[if_pos hj,if_pos hj];show#[_,rfl]
 .rw[if_neg hj,if_neg hj];show#[_,rfl]
theorem Jh:eE X (.type "int") (λxs H Q=>(∃ i,xs=[.int i] /\ Q (.int i) H) \/ ∃ k,xs=[.bl k] /\ Q (.int (if k then 1 else 0)) H):=by
 intro pins s σ H xs us Q I r h;rcases h with⟨i,rfl,q⟩|⟨k,rfl,q⟩
 .let#[u,rfl,t,rfl]:=vals1 r;show call_int_int #[.int i,H,I,#[_,rfl],q]
 .let#[u,rfl,r1]:=vals1 r;cases r1;show call_int_bool #[.int _,H,I.tok _,#[_,rfl],q]
end
structure X4 (h:aI) (x dx C:aj) (mA:Str->Option ai):zk where
 obj:h.get? x=ae (PySem.W.instObj C dx)
 ns:h.Ns1 dx mA
 ne:dx≠x
theorem Ji {dx:aj}(n:h.Ns1 dx mA):∃ od,h.get? dx=ae od /\ ∀ name,PySem.W.lookIn name od=ae (mA name):=by
 let#[o,es,ep,ho,hd,hk,_,hm]:=n;refine#[o,ho,λname=>?_];have e:=hm name;unfold nsFind findBy at e;rw[<-Array.find?_toList]at e;unfold PySem.W.lookIn;rw[hd];dsimp only;split
 .ext y q;rw[q]at e;show congrArg ae e
 .ext q;rw[q]at e;have a:es.toList.any (·.refKey)=af:=by
   rw[Hn];intro y hy;let#[z,t,X5]:=hk y<|Array.mem_toList_iff.mp hy;simp[DictEntry.refKey,X5]
  rw[if_neg (by rw[a];show dA)];show congrArg ae e
theorem X4.look {x dx C:aj}(I:X4 h x dx C mA):∃ od,PySem.W.InstAt h x (PySem.W.instObj C dx) C (ae od) /\ ∀ name,PySem.W.lookIn name od=ae (mA name):=
 let ⟨od,ho,hl⟩:=Ji I.ns
 #[od,#[I.obj,rfl,rfl,ho],hl]
section
variable {s:au} {x dx C f:aj} {name:Str} {v:ai}
end
theorem nY.some_of {o:Option ai}(r:nY (ae v) o):∃ u,o=ae u /\ RelV v u:=by
 cases o with
 |none=>show(r).elim
 |some u=>show#[u,rfl,r]
section
variable {C dx:aj} {fs agN:List (Str × V)}
theorem Oy (aD:cM P w H h) (e:H a=ae (.ins C dx fs)):∃ mA,X4 h a dx C mA /\ (∀ f,nY (fs.lookup f)<|mA f) /\ PySem.Within mA (fs.map (·.1)) /\ fs.length<=1000 /\ H dx=ae (.own a):=by
 let#[d,z,ne,ob,mA,n,r,q]:=(aD a _ e);show#[mA,#[ob,n,ne],r,q,z,d]
end
structure X6 (K:PySem.W.Frag) (C:aj):zk where
 pg:PySem.W.plainGet K C Str.empty=ah
 hd:PySem.W.hasDictIn K C=ah
 po:PySem.W.plainOver K C=ah
 sa:PySem.W.findIn K (.ref C) "__setattr__"=ae (ae<|.builtin "object.__setattr__")
theorem X6.get {C:aj}(c:X6 K C) (f:Str):PySem.W.plainGet K C f=ah:=c.pg
section
variable {s:au} {C dx:aj} {fs:List (Str × V)} {f:Str} 
end
section
variable {o value:aq} {f:Str} {pos Ik:aC} {ta tv:TE}
end
section
variable {s:au} {c:ai} {b:Bool}
inductive n9 (K:PySem.W.Frag) (H:Hp):V->ai->zk where
 |non:n9 K H .non (.type "NoneType")
 |bl (x:Bool):n9 K H (.bl x) (.type "bool")
 |int (i:Int):n9 K H (.int i) (.type "int")
 |str (x:Str):n9 K H (.str x) (.type "str")
 |uS (x:UInt64):n9 K H (.uS x) (.type "float")
 |lst {a:aj}{xs:List V}(e:H a=ae (.lst xs)):n9 K H (.ref a) (.type "list")
 |bM {a:aj}{o:aZ}{xs:List V}(e:H a=ae (.bM o<|.lst xs)):n9 K H (.ref a) (.type "list")
 |tup {a:aj}{xs:List V}(e:H a=ae (.tup xs)):n9 K H (.ref a) (.type "tuple")
 |dK {a:aj}{ao:List (Key×V)}(e:H a=ae zam):n9 K H (.ref a) (.type "dict")
 |dT {a:aj}{ao:List (List Key×V)}(e:H a=ae (.dT ao)):n9 K H (.ref a) (.type "dict")
 |ins {a C dx:aj}{fs:List (Str×V)}(e:H a=ae (.ins C dx fs)) (cl:X6 K C) (ha:PySem.W.findIn K (.ref C) "__class__"=ae (ae<|.builtin "object.__class__"))
  (hn:PySem.W.specialIn K (.builtin "object.__class__") "__get__"=ae (ae<|.builtin "getset_descriptor.__get__")) (adj:PySem.W.takesIn K (.builtin "object.__class__")=ae ah)
  (hm:PySem.W.mroIn K C (.type "object")=ae ah):n9 K H (.ref a) (.ref C)
theorem Jj {x:V}{t:ai}(I:Inv X pins σ H s) (rx:RelV x u) (ty:n9 X.K H x t) (e:PySem.W.kitOne X.K t c=ae b) (h:∀ tk,Q (.bool b) { s with toks:=tk }) :
 wpAny zf A (call (.builtin "isinstance") [u,c]) Q E s:=by
 cases ty with
 |non=>cases (rx);show qV PySem.W.kitx_none I.kP True.intro e (λz=>nomatch z) h
 |bl y=>cases (rx);show qV PySem.W.kitx_bool I.kP True.intro e (λz=>nomatch z) h
 |int i=>let#[t,q]:=(rx);cases q;show qV PySem.W.kitx_int I.kP True.intro e (λz=>nomatch z) h
 |str y=>let#[t,q]:=(rx);cases q;show qV PySem.W.kitx_str I.kP True.intro e (λz=>nomatch z) h
 |uS y=>let#[t,q]:=(rx);cases q;show qV PySem.W.kitx_float I.kP True.intro e (λz=>nomatch z) h
 |@lst a xs ea=>
   cases (rx);let#[_,_,n,_,h1]:=(I.aD a _ ea);show qV aco I.kP #[_,h1,rfl] e (λz=>nomatch z) h
 |@bM a ob xs ea=>
   cases (rx);let#[_,_,_,n,_,h1]:=(I.aD a _ ea);show qV aco I.kP #[_,h1,rfl] e (λz=>nomatch z) h
 |@tup a xs ea=>
   cases (rx);let#[_,_,_,p]:=(I.aD a _ ea);let#[o,h1,h2,_]:=p;show qV PySem.W.kitx_tuple I.kP #[o,h1,h2] e (λz=>nomatch z) h
 |@dK a ao ea=>
   cases (rx);let#[_,_,vs,_,p]:=(I.aD a _ ea);let#[o,es,ep,h1,h2,_]:=p;show qV acp I.kP #[o,h1,h2.1] e (λz=>nomatch z) h
 |@dT a ao ea=>
   cases (rx);let#[_,_,xs,_,o,es,ep,h1,h2,_]:=(I.aD a _ ea);show qV acp I.kP #[o,h1,h2.1] e (λz=>nomatch z) h
 |@ins a C dx fs ea cl ha hn adj hm=>
   cases (rx);let#[mA,O,_]:=Oy I.aD ea;let#[od,J,_]:=O.look;show qV (PySem.W.kitx_own (cl.get _) cl.hd ha hn adj hm) I.kP J e (λz=>nomatch z) h
end
structure dE (k:Nat) (A:eN):zk where
 hd:A.handled=ag
 dp:A.depth+3*k+5<recursionLimit
 un:A.units+16*k+200<cLine
 gd:A.guards=ae []
theorem dE.mono {k:Nat}(r:dE k A) (h:j<=k):dE j A:=#[r.hd,by have:=r.dp;lia,by have:=r.un;lia,r.gd]
theorem dE.deeper {k:Nat}{A:eN}(r:dE (k+1) A) (env:Env):dE k (A.deeper env):=
 #[r.hd,by have:=r.dp;change A.depth+1+3*k+5<_;lia,by have:=r.un;change A.units+3+16*k+200<_;lia,by first|show r.gd|(first|rfl|simp[])]
theorem dE.depth {k:Nat}{A:eN}(r:dE k A):A.depth<recursionLimit:=by have:=r.dp;lia
theorem dE.units {k:Nat}{A:eN}(r:dE k A):A.units+64<cLine:=by have:=r.un;lia
def Il:TA:=λ_ H Q=>Q [] H
def Im (ta:TE) (tr:TA):TA:=λσ H Q=>ta σ H λx H1=>tr σ H1 λxs H2=>Q (x::xs) H2
section
variable {te:TE} {t:TA} {pos:aC}
theorem lu:PA X [] Il:=λ_ _ _ _ H Q I h=>vG #[[],H,I,.nil,h]
theorem jq (ha:PE X e te) (hr:PA X es t) (hs:starEach (e::es) X.env=(af,eval e X.env)::starEach es X.env:=by rfl):PA X (e::es) (Im te t):=by
 intro pos pins s σ H Q I h;rw[hs];change wpAny _ _ (spliced ((af,eval e X.env)::backTo pos _)) _ _ s;show vH<|tE zaj λu s1 x H1 I1 r1 q1=>(tA (hr pos pins s1 σ H1 _ I1 q1) λus s2 xs H2 I2 r2 q2=>#[x::xs,H2,I2,.cons r1 r2,q2])
def ahg (t:TA):TE:=λσ H Q=>t σ H λxs H1=>xs.length<=sizeLine /\ ∀ p,H1 p=ag->Q (.ref p) (upd H1 p<|.tup xs)
def ahh (t:TA):TE:=λσ H Q=>t σ H λxs H1=>xs.length<=sizeLine /\ ∀ p,H1 p=ag->Q (.ref p) (upd H1 p<|.lst xs)
theorem LG {x1}(h:PA X es t):PE X (.Tuple es x1 pos) (ahg t):=by
 intro pins s σ H Q I hq;refine wpAny_Tuple_spliced (tA (h pos pins s σ H _ I hq) λus s1 xs H1 I1 r ⟨z,q⟩=>#[by rw[<-r.length];show z,?_]);refine#[.ref s1.heap.objs.size,upd H1 s1.heap.objs.size _,I1.laid (λb u e=>aN _ e) (aE _) ?_,rfl,q _<|I1.aD.fresh<|aE _];show#[z,us,r,#[_,bB _ zc,rfl,_,rfl]]
theorem LH (h:PA X es t):PE X (.List es pos) (ahh t):=by
 intro pins s σ H Q I hq;refine wpAny_List_spliced (tA (h pos pins s σ H _ I hq) λus s1 xs H1 I1 r ⟨z,q⟩=>#[by rw[<-r.length];show z,?_]);refine#[.ref s1.heap.objs.size,upd H1 s1.heap.objs.size _,I1.laid (λb u e=>aN _ e) (aE _) ?_,rfl,q _<|I1.aD.fresh<|aE _];show#[z,us,0,r,bB _ zc]
end
abbrev Sp:=List V->Hp->VK->XK->zk
abbrev qw:=List Env->Hp->au->XK->ai->au->zk
structure X7 (P:dD) (w:cw) (K:PySem.W.Frag) (mg:Str->Option ai) (base:aI) (A:eN) (outer:List Env) (s:au) (H:Hp):zk where
 frames:A.frames=ae outer
 mod:Mod K mg base
 bs:∀ b o,base.get? b=ae o->s.heap.get? b=ae o /\ H b=ag
 vJ:base.objs.size<=s.heap.objs.size
 qX:s.heap.FunFrames base outer
 xC:∀ b∈pW outer,H b=ag
 aD:cM P w H s.heap
 bare:AllBare s.gens
def CE (outer:List Env) (P:dD) (w:cw) (H:Hp) (s:au) (Q:VK) (u:ai) (s':au):zk:=
 ∃ v H',s'.os=s.os /\ AllBare s'.gens /\ Un (pW outer) [] H H' s.heap s'.heap /\ cM P w H' s'.heap /\ RelV v u /\ Q v H'
def CR (CX:qw) (outer:List Env) (P:dD) (w:cw) (H:Hp) (s:au) (Q:VK) (E:XK) (r:Result) (s':au):zk:=
 match r with
 |.ok (.ret u)=>CE outer P w H s Q u s'
 |.ok _=>False
 |.error e=>CX outer H s E e s'
structure kR (P:dD) (w:cw) (K:PySem.W.Frag) (mg:Str->Option ai) (base:aI) (CX:qw) (k:Nat) (f:aj) (fd:FuncData) (ps:List Str) (sp:Sp):zk where
 len:∀ vs H Q E,sp vs H Q E->vs.length=ps.length
 run:∀ (A:eN) (outer:List Env) (s:au) (H:Hp) (args:Args) (us:List ai) (vs:List V) (Q:VK) (E:XK),dE k A->X7 P w K mg base A outer s H->BindsTo s fd args (ps.zip us)->Vals vs us->sp vs H Q E ->
  codeAny (model P w) A (.call (.ref f) args) (CR CX outer P w H s Q E) s
theorem kR.mono {P:dD}{w:cw}{K:PySem.W.Frag}{mg:Str->Option ai}{base:aI}{CX:qw}{j k:Nat}{f:aj}{fd:FuncData}{ps:List Str}{sp:Sp}(F:kR P w K mg base CX j f fd ps sp) (h:j<=k) :
 kR P w K mg base CX k f fd ps sp:=#[F.len,λA outer s H args us vs Q E hr=>F.run A outer s H args us vs Q E<|hr.mono h]
section
variable {s s':au}
theorem Inv.ahi (I:Inv X pins σ H s):X7 X.prog X.w X.K X.mg X.base X.A X.stack s H:=
 #[I.ok.frames,I.ok.mod,I.bs,cB I.ok.vJ I.sz,I.stack,I.acR,I.aD,I.bare]
theorem Inv.after {Q:VK}(I:Inv X pins σ H s) (h:CE X.stack X.prog X.w H s Q u s'):EP X pins σ Q u s':=by
 let#[v,H',os,bare,un,aD,r,q]:=h;let#[hh,g,d,t,X8]:=s';obtain rfl:X8=s.os:=os;show#[v,H',I.call un aD bare λb z=>absurd z zj,r,q]
end
def adk (sp:Sp) (vQ:List V) (E:XK) (t:TA):TE:=λσ H Q=>t σ H λvs H1=>sp (vs++vQ) H1 Q E
def Binds (K:PySem.W.Frag) (fd:FuncData) (ps:List Str) (ds:List ai):zk:=
 ∀ (s:au) (us:List ai),K.In s.heap->(us++ds).length=ps.length->BindsTo s fd #[us,[]] (ps.zip<|us++ds)
theorem Binds.all {ps:List Str}(h:∀ us:List ai,us.length=ps.length->bindArgs fd #[us,[]]=pure (ps.zip us)):Binds K fd ps []:=λs us _ hl=>by
 rw[tW]at hl ⊢;show .of_eq<|h us hl
def Passes (CX:qw) (X:Cx) (E:XK):zk:=∀ (pins:List<|aj×aZ) (σ:St) (H:Hp) (s:au) (e:ai) (s':au),Inv X pins σ H s->CX X.stack H s E e s'->X.xe e s'
section
variable {CX:qw} {k:Nat} {f C:aj} {ps:List Str} {sp:Sp} {vQ:List V} {ds:List ai} {E:XK} {m:Str} {p pos:aC} {o:aq} {ta:TE} {t:TA}
theorem TU {s:au}{Q:VK}{vs:List V}(F:kR X.prog X.w X.K X.mg X.base CX k f fd ps sp) (hr:dE k X.A) (hb:Binds X.K fd ps ds) (hd:Vals vQ ds) (hx:Passes CX X E)
 (I:Inv X pins σ H s) (r:Vals vs us) (h:sp (vs++vQ) H Q E):wpAny zf X.A (call (.ref f) us) (EP X pins σ Q) X.xe s:=by
 have r2:=r.append hd;refine wpAny_call<|wU (F.run X.A X.stack s H _ _ _ Q E hr I.ahi (hb s us I.kP (by rw[<-r2.length];show F.len _ _ _ _ h)) r2 h) λr s' hq=>?_;cases r with
 |error e=>show hx pins σ H s e s' I hq
 |ok fl=>
   cases fl with
   |ret u=>show I.after hq
   |_=>show False.elim hq
theorem Oz (F:kR X.prog X.w X.K X.mg X.base CX k f fd ps sp) (hr:dE k X.A) (hg:Gl X x) (hm:X.mg x=ae (.ref f)) (hk:PySem.W.keepIn X.K (.ref f)=ah) (hb:Binds X.K fd ps ds) (hd:Vals vQ ds) (hx:Passes CX X E)
 (ha:PA X (e::es) t) (dO:(x==("__debug__":Str))=af:=by decide) (he:starEach (e::es) X.env=(af,eval e X.env)::starEach es X.env:=by rfl) (nu:(backTo pos<|starEach es X.env).any (·.1)=af:=by rfl) :
 PE X z7 (adk sp vQ E t):=by
 intro pins s σ H Q I h;refine tO<|FZ I hg hm ?_ dO;show PySem.W.callWith_K I.ok.mod.XQ hk (tA (ha pos pins s σ H _ I h) λus s1 vs H1 I1 r q=>#[I1.kP,(TU F hr hb hd hx I1 r q)]) he nu
end
section
variable {CX:qw} {k:Nat} {f C:aj} {ps ks:List Str} {sp:Sp} {E:XK} {m:Str} {p pos alv:aC} {o:aq} {alw:List Keyword} {te ta:TE} {t tk:TA} {nm:Option Str}
variable {g:List ai -> List ai -> List ai} {gV:List V -> List V -> List V}
end
structure xH (N P:List Str) (sc:bT):zk where
 kind:sc.kind=.function
 co:sc.isCoroutine=af
 gen:sc.isGenerator=af
 nd:N.Nodup
 pre:N.take P.length=P
 par:∀ x∈P,sc.names.lookup x=ae .local \/ sc.names.lookup x=ae .cell
 ahj:∀ y∈sc.names,y.2≠.free
theorem BE {kindOf:Str->Option NameKind}{x:Str}:∀ {binds:List (Str×ai)}{m:Str->Option ai},(∀ v,(x,v)∉binds)->bindL kindOf binds m x=m x
 |[],_,_=>rfl
 | (n,v)::r,m,h=>by
   unfold bindL;rw[BE λw hw=>h w<|bE _ hw];split
   .have:x≠n:=by rintro rfl;show h v bD
    simp[this]
   .rfl
theorem BF {kindOf:Str->Option NameKind}{x:Str}:∀ {binds:List (Str×ai)}{m:Str->Option ai},(∀ v,(x,v)∉binds)->bindC kindOf binds m x=m x
 |[],_,_=>rfl
 | (n,v)::r,m,h=>by
   unfold bindC;rw[BF λw hw=>h w<|bE _ hw];split
   .rfl
   .have:x≠n:=by rintro rfl;show h v bD
    simp[this]
theorem BG {kindOf:Str->Option NameKind}{x:Str}{v:ai}:∀ {P:List Str}{vs:List ai}{i:Nat}{m:Str->Option ai},P.Nodup->P[i]?=ae x->vs[i]?=ae v->kindOf x=ae .local ->
 bindL kindOf (P.zip vs) m x=ae v
 |[],_,_,_,_,h,_,_=>by simp at h
 |_::_,[],_,_,_,_,h,_=>by simp at h
 | p::P,w::vs,0,m,nd,h1,h2,hk=>by
   simp at h1 h2;subst h1;subst h2;change bindL kindOf ((p,w)::P.zip vs) m p=_;unfold bindL;rw[BE λv hv=>(se.mp nd).1 (Q9 hv).1,if_pos hk];simp
 | p::P,w::vs,i+1,m,nd,h1,h2,hk=>by
   unfold bindL;show BG (se.mp nd).2 (by simpa using h1) (by simpa using h2) hk
theorem BH {kindOf:Str->Option NameKind}{x:Str}{v:ai}:∀ {P:List Str}{vs:List ai}{i:Nat}{m:Str->Option ai},P.Nodup->P[i]?=ae x->vs[i]?=ae v->kindOf x≠ae .local ->
 bindC kindOf (P.zip vs) m x=ae v
 |[],_,_,_,_,h,_,_=>by simp at h
 |_::_,[],_,_,_,_,h,_=>by simp at h
 | p::P,w::vs,0,m,nd,h1,h2,hk=>by
   simp at h1 h2;subst h1;subst h2;change bindC kindOf ((p,w)::P.zip vs) m p=_;unfold bindC;rw[BF λv hv=>(se.mp nd).1 (Q9 hv).1,if_neg hk];simp
 | p::P,w::vs,i+1,m,nd,h1,h2,hk=>by
   unfold bindC;show BH (se.mp nd).2 (by simpa using h1) (by simpa using h2) hk
noncomputable def start (N:List Str) (vs:List V):St:=vs.map ae++List.replicate (N.length-vs.length) ag
noncomputable def vR (CX:qw) (P:dD) (w:cw) (K:PySem.W.Frag) (mg:Str->Option ai) (base:aI) (N:List Str) (qual:Str) (scope:bT) (f:aj) (cd:ai) (A:eN) (outer:List Env) (s:au) (H:Hp) (E:XK):Cx where
 prog:=P
 w:=w
 K:=K
 mg:=mg
 base:=base
 A:=A.deeper<|envOfC qual scope s.heap.objs.size f cd
 N:=N
 s₀:=s
 H₀:=H
 env:=envOfC qual scope s.heap.objs.size f cd
 outer:=outer
 stack:=envOfC qual scope s.heap.objs.size f cd::outer
 ex:=[]
 calm:=ah
 fn:=λ_=>ah
 pn:=[]
 xe:=λe s'=>wpAny (model P w) (A.deeper<|envOfC qual scope s.heap.objs.size f cd) (leaving (envOfC qual scope s.heap.objs.size f cd) e) (λ_ X9=>CX outer H s E e X9) (λe' X9=>CX outer H s E e' X9) s'
theorem Az {sc:bT}(h:sc.names.lookup x=ae .cell):∃ c,(cellsFrom n sc.names []).lookup x=ae c:=Option.isSome_iff_exists.mp<|acq sc.names n []<|.inl h
theorem Jk {CX:qw}{ps:List Str}{qual:Str}{scope:bT}{f:aj}{cd:ai}{outer:List Env}{s s1:au}{E:XK}{vs:List V}
 (S:xH N ps scope) (hd:A.handled=ag) (e0:X7 P w K mg base A outer s H) (hl:vs.length=ps.length) (r:Vals vs us)
 (x:InCallC s s.heap.objs.size (bindL (envOfC qual scope s.heap.objs.size f cd).kindOf (ps.zip us) λ_=>ag) (cellsFrom zX scope.names []) (bindC (envOfC qual scope s.heap.objs.size f cd).kindOf (ps.zip us) λ_=>ag) s1) :
 Inv (vR CX P w K mg base N qual scope f cd A outer s H E) [] (start N vs) H s1:=by
 have nu:ps.length<=N.length:=by have:=congrArg List.length S.pre;rw[vD]at this;lia
 let#[h1,tk,rfl,hk]:=x.done;have yV:∀ b,b∉(vR CX P w K mg base N qual scope f cd A outer s H E).ex:=λb z=>absurd (show b∈([]) from z) zj;refine#[#[e0.mod,S.kind,rfl,rfl,aE _,λy z c h1 h2=>(aaW x.apart (nV h1)<|nV h2),λy hy=>?_,λy c _ h=>(nh<|x.above y c<|nV h),λ_=>hd,Around.frames_deeper e0.frames,.inr #[rfl,rfl],λb z=>absurd z<|yV b,e0.bs,e0.vJ,λb _ _=>yV b,λb z=>absurd z<|yV b,e0.qX,e0.xC],
  rfl,e0.bare,Un.kept hk,#[_,x.toInCall.ns,λi y v h1 h2 h3=>?_],λy c h=>#[_,x.cell y c h],e0.aD.fresh<|aE _,λy c h=>(e0.aD.fresh<|nh<|x.above y c<|nV h),λp hp=>absurd (show p∈([]) from hp) zj,e0.aD.kept hk,?_]
 .rcases hy with hy|hy
  .show Az hy
  .show absurd zc<|S.ahj _<|nV hy
 .have hi:i<vs.length:=by
   unfold start at h2;by_cases hi:i<vs.length
   .show hi
   .rw[nF (by simpa using hi)]at h2;rw[abu]at h2;split at h2<;>cases h2
  have ha:vs[i]?=ae v:=by
   unfold start at h2;rw[eK (by simpa using hi),kL]at h2;cases e:vs[i]? with
   |none=>rw[e]at h2;cases h2
   |some a=>rw[e]at h2;cases h2;rfl
  let#[u,hu,rv]:=r.get ha;have hp:ps[i]?=ae y:=by
   rw[<-S.pre,abv za];show h1
  have adl:ps.Nodup:=by rw[<-S.pre];show S.nd.sublist<|abw _ _
  refine#[u,rv,?_];rcases S.par y (qm hp) with k|k
  .show .inl #[k,BG adl hp hu k]
  .let#[c,e]:=Az k;refine .inr #[.inl k,c,e,?_];have q:=x.cell y c e;rw[BH adl hp hu (by change scope.names.lookup y≠_;rw[k];decide)]at q;show q
 .unfold start;change _=N.length;rw[cX,aR,xf];lia
theorem Wl {CX:qw}{k:Nat}{f:aj}{name qual:Str}{params:Arguments}{body:List cb}{scope:bT}{dV kV doc pm bO ct oc:ai}{an od:Option aj}
 {ps:List Str}{sp:Sp}(lk:K.lookup f=ae #[oc,od,.func<|PySem.W.fnOf name qual params body scope dV kV doc pm an bO ct,qN]) (pX:PySem.W.codeIn K bO qual=ah) (S:xH N ps scope)
  (len:∀ vs H Q E,sp vs H Q E->vs.length=ps.length)
  (vS:∀ (A:eN) (outer:List Env) (s:au) (H:Hp) (vs:List V) (Q:VK) (E:XK),dE k (A.deeper<|envOfC qual scope s.heap.objs.size f bO)->sp vs H Q E ->
   ∃ t,kE (vR CX P w K mg base N qual scope f bO A outer s H E) body t /\ t { nx:=λ_ H'=>Q .non H',rt:=Q } (start N vs) H) :
  kR P w K mg base CX (k+1) f (PySem.W.fnOf name qual params body scope dV kV doc pm an bO ct) ps sp:=by
  refine#[len,λA outer s H args us vs Q E hr e0 hb r xI=>?_];have KX:=e0.mod.XQ.keeps λb o e=>(e0.bs b o e).1;refine codeAny_call_function hr.depth (KX _ _ lk) zc S.co S.gen zc (PySem.W.codeRec_of KX pX)<|hb _ _ _ _ ?_;refine wpAny_newFunctionEnv_cells S.kind (λ⟨n,v⟩ hy=>by
   rcases S.par n (Q9 hy).1 with q|q
   .show .inl q
   .show .inr #[q,acq _ _ _<|.inl q]) λenv he s1 x=>?_
  subst he;refine#[(e0.mod.nolimit.keeps λb o e=>(e0.bs b o e).1).keeps x.toInCall.keep,codeAny_func ?_];let#[t,ht,hq]:=vS A outer s H vs Q E (hr.deeper _) xI;refine k9 (ht [] s1 _ H _ (Jk S hr.hd e0 (len _ _ _ _ xI) r x) hq) (λfl s' hs=>?_) λe s' hs=>hs;have fin:∀ {σ'}{H'}{v}{u},Inv (vR CX P w K mg base N qual scope f bO A outer s H E) [] σ' H' s'->RelV v u->Q v H'->CE outer P w H s Q u s' :=
   λ{σ' H' v u} J rv q=>#[v,H',J.os,J.bare,J.base,J.aD,rv,q]
  cases fl with
  |ret u=>
    let#[v,σ',H',J,rv,q]:=hs;show fin J rv q
  |next=>
    let#[σ',H',J,q]:=hs;show fin (v:=V.non) J zc q
  |brk=>
    let#[_,_,_,q]:=hs;show False.elim q
  |cont=>
    let#[_,_,_,q]:=hs;show False.elim q
end L2
variable {CX:L2.qw}
namespace L2
section
variable {p pos:aC} {t:TA} {id T:String} {r:List V -> Hp -> VK -> zk}
def Io (r:List V->Hp->VK->zk) (t:TA):TE:=λσ H Q=>t σ H λvs H1=>r vs H1 Q
theorem mN (hc:eE X (.builtin id) r) (hg:Gl X x) (hm:X.mg x=ag) (hv:bootBuiltins x=ae (.builtin id)) (ha:PA X (e::es) t) (hn:x ≠ "__name__":=by decide) (dO:(x==("__debug__":Str))=af:=by decide)
 (he:starEach (e::es) X.env=(af,eval e X.env)::starEach es X.env:=by rfl) (nu:(backTo pos<|starEach es X.env).any (·.1)=af:=by rfl):PE X z7 (Io r t):=by
 intro pins s σ H Q I h;show tO<|jj I hg hm hv (af3 (tA (ha pos pins s σ H _ I h) λus s1 vs H1 I1 r1 q1=>hc pins s1 σ H1 vs us Q I1 r1 q1) he nu) hn dO
theorem Jl (hc:eE X (.type T) r) (hg:Gl X x) (hm:X.mg x=ag) (hv:bootBuiltins x=ae (.type T)) (ha:PA X (e::es) t) (hn:x ≠ "__name__":=by decide) (dO:(x==("__debug__":Str))=af:=by decide)
 (he:starEach (e::es) X.env=(af,eval e X.env)::starEach es X.env:=by rfl) (nu:(backTo pos<|starEach es X.env).any (·.1)=af:=by rfl):PE X z7 (Io r t):=by
 intro pins s σ H Q I h;show tO<|jj I hg hm hv (Hy (tA (ha pos pins s σ H _ I h) λus s1 vs H1 I1 r1 q1=>hc pins s1 σ H1 vs us Q I1 r1 q1) he nu) hn dO
end
end L2
namespace HT
noncomputable def lexLt:List Int->List Int->Bool
 |[],[]=>af
 |[],_::_=>ah
 |_::_,[]=>af
 |x::xs,y::ys=>if x=y then lexLt xs ys else decide (x<y)
theorem gD (x y:Int) (xs ys:List Int):lexLt (x::xs) (y::ys)=if x=y then lexLt xs ys else decide (x<y):=rfl
section
open PySem.SeqAt
open PySem.AutoSeq1 (wpAny_loadPart')
open PySem.MeetsSeq PySem.MeetsSeq2 PySem.MeetsSeq3
end
section
variable {s:au}
theorem OA {t b:aj}{ws:List ai}(ht:IsTup s.heap t vs.toArray) (hb:IsTup s.heap b ws.toArray) (hv:vs≠[])
 (h1:ws=[]->Q (.ref t) s) (h2:ws≠[]->Q zab { s with heap:=s.heap.push { cls:=.type "tuple",data:=.seq (vs++ws).toArray } })
 (qZ:vs.length+ws.length<=sizeLine):wpAny zh A (binaryOp .Add (.ref t)<|.ref b) Q E s:=by
 let#[#[cls,dd,data,sl],ho,hc,n,hd]:=id ht;let#[#[adm,uW,data2,sx],sy,kS,n2,hd2]:=id hb;subst hc hd kS hd2;have e:vs.toArray++ws.toArray=(vs++ws).toArray:=by simp
 by_cases hw:ws=[]
 .show QN #[_,ho,rfl] #[_,sy,rfl] QO QP XB XC (XD _ _)
   (tuple_addW1 t b vs.toArray ws.toArray n n2 dd uW sl sx (by simpa using hv) (by simp[hw])) #[ho,sy,h1 hw]
 .refine QN #[_,ho,rfl] #[_,sy,rfl] QO QP XB XC (XD _ _)
   (tuple_addW2 t b vs.toArray ws.toArray n n2 dd uW sl sx (by simpa using hv) (by simpa using hw)<|qZ) #[ho,sy,?_]
  rw[e];show h2 hw
noncomputable def ba (n d:Nat):Option Int->Nat
 |none=>d
 |some v=>if v<0 then (v+(n:Int)).toNat else min v.toNat n
theorem AA (n d:Nat):ba n d ag=d:=rfl
theorem Ak (n d k:Nat):ba n d (ae (k:Int))=min k n:=by
 change (if (k)<0 then ((k)+(n:Int)).toNat else min (k:Int).toNat n)=min k n;rw[if_neg za,nq]
theorem YC (n d:Nat) (hd:d<=n) (o:Option Int):ba n d o<=n:=by
 cases o with
 |none=>show hd
 |some v=>
   change (if v<0 then (v+(n)).toNat else min v.toNat n)<=n;by_cases hv:v<0
   .rw[if_pos hv];lia
   .rw[if_neg hv];show Nat.min_le_right _ _
theorem Gb (v:Int) (n d:Nat):(if v<0 then max (v+(n:Int)) 0 else min v (n:Int))=((ba n d (ae v):Nat):Int):=by
 change (if v<0 then max _ 0 else min v (n))=(((if v<0 then (v+(n)).toNat else min v.toNat n)));by_cases hv:v<0
 .erw[if_pos hv];lia
 .simp[if_neg hv];lia
theorem Fa (lo hi:Option Int) (n:Nat):Builtin.Slice.sliceAdjust lo hi 1 (n:Int)=(((ba n 0 lo:Nat):Int),((ba n n hi:Nat):Int)):=by
 refine Prod.ext ?_ ?_
 .cases lo with
  |none=>rfl
  |some v=>show Gb v n 0
 .cases hi with
  |none=>rfl
  |some v=>show Gb v n n
theorem Fb (i j:Nat):Builtin.Slice.slicePlaces (i:Int) (j:Int) 1=j-i:=by
 unfold Builtin.Slice.slicePlaces;split<;>lia
theorem AB {v:ai}{o:Option Int}{Q:Option Int->au->zk}(p:IsPart v o) (h:Q o s):wpAny zh A (Builtin.Slice.slicePartIndex v) Q E s:=by
 cases p with
 |none=>show abZ h
 |int i t=>show slicePart_int h
theorem jC {sl:aj}{vl vu:ai}{lo hi:Option Int}{Q:Int×Int×Nat->au->zk}(hs:s.heap.IsSliceOf sl vl vu .none) (pl:IsPart vl lo) (pu:IsPart vu hi)
 (h:Q (((ba n 0 lo:Nat):Int),1,ba n n hi-ba n 0 lo) s):wpAny zh A (Builtin.Slice.sliceApplied (.ref sl)<|pure (n:Int)) Q E s:=by
 let#[os,vT,Ip,pY]:=id hs;refine ak<|ak<|ng vT pY zc<|ak<|ng vT pY (x:=vu) zc<|ak<|ng vT pY zc<|az ?_;refine ak<|abZ ?_;refine ak<|AB pl<|ak<|AB pu<|ak<|az ?_;change wpAny _ _ (match Builtin.Slice.sliceAdjust lo hi 1 (n) with|(lo,hi)=>pure (lo,(1:Int),Builtin.Slice.slicePlaces lo hi 1)) _ _ s;rw[Fa lo hi n];change wpAny _ _ (pure (((ba n 0 lo):Int),(1),Builtin.Slice.slicePlaces _ _ 1)) _ _ s;rw[Fb];show az h
theorem LI (xs:Array ai) (i k:Nat):((List.range k).filterMap λ(m:Nat)=>xs[((i:Int)+(m:Int)*1).toNat]?).toArray=((xs.toList.drop i).take k).toArray:=by
 have e:(λ(m:Nat)=>xs[((i)+(m:Int)*1).toNat]?)=λm=>xs[i+m]?:=by
  funext m;have:((i)+(m:Int)*1).toNat=i+m:=by lia
  rw[this]
 rw[e];have:=pick_run xs i k;rw[abx]at this;have e2:((λx=>xs[x]?)∘λx=>i+x)=λm=>xs[i+m]?:=rfl;rw[e2]at this;rw[this]
theorem mO {t sl:aj}{vl vu:ai}{lo hi:Option Int}(ht:IsTup s.heap t items) (hs:s.heap.IsSliceOf sl vl vu .none) (pl:IsPart vl lo) (pu:IsPart vu hi)
 (hw:¬ (ba items.size 0 lo=0 /\ ba items.size items.size hi=items.size))
 (h:Q zab { s with heap:=s.heap.push { cls:=.type "tuple",data:=.seq ((items.toList.drop<|ba items.size 0 lo).take zal).toArray } })
 (qZ:items.size<=sizeLine):wpAny zh A (getItem (.ref t)<|.ref sl) Q E s:=by
 have YX:sizeOk (.seq ((items.toList.drop<|ba items.size 0 lo).take zal).toArray):=by
  change ((items.toList.drop _).take _).toArray.size<=sizeLine;rw[bY,vD,Ho,nH];lia
 let#[os,vT,Ip,pY]:=id hs;unfold getItem;try with_reducible refine eB ?_
 first|refine ak (az ?_)|skip
 refine ak<|aaX ht.typeIs (rfl) ?_;refine ak (qO ht.typeIs xq
  (eW xq ht.typeIs ab0 ?_<|ab1 _ _))
 change wpAny _ _ (Builtin.Tuple.tupleItemsOf _ >>= _) _ _ s;refine ak<|ab2 ht ?_;refine ak<|tQ #[os,vT,Ip] ?_;rw[if_pos ze];refine ak<|jC hs pl pu ?_;have ahk:¬ ((((ba items.size 0 lo):Int)==0&&(1:Int)==1&&zal==items.size)=ah):=by
  intro q;rw[aJ,aJ]at q;have q1:=eq_of_beq q.1.1;have q2:=eq_of_beq q.2;show hw #[by lia,by lia]
 change wpAny _ _ (if (((ba items.size 0 lo):Int)==0&&(1)==1&&zal==items.size)=ah then _ else _) _ _ s;rw[if_neg ahk,LI];first
  |show ak _
  |show ak<|eV (ak<|az<|az #[_,rfl,az h]) YX
  |show ak<|ak<|eV (az<|az #[_,rfl,az h]) YX
  |show ak<|ak<|eV (az #[_,rfl,az h]) YX
end
end HT
namespace L2
abbrev TO:=St->Hp->(Option Int->Hp->zk)->zk
def PO (X:Cx) (e:Option aq) (t:TO):zk:=
 ∀ (pins:List<|aj×aZ) (s:au) (σ:St) (H:Hp) (Q:Option Int->Hp->zk),Inv X pins σ H s->t σ H Q ->
  wpAny zf X.A (evalPart e X.env) (λu s'=>∃ o H',Inv X pins σ H' s' /\ IsPart u o /\ Q o H') X.xe s
noncomputable def ahl:TO:=λ_ H Q=>Q ag H
noncomputable def ahm (t:TE):TO:=λσ H Q=>t σ H λx H1=>∃ i,x=.int i /\ Q (ae i) H1
theorem AC:∀ {us:List ai},Vals (ns.map V.int) us->IntsAre us ns:=by
 induction ns with
 |nil=>intro us r;cases r;show .nil
 |cons n ns ih=>
   intro us r;cases r with
   |cons r1 r2=>
     let#[t,e]:=r1;subst e;show .cons n t<|ih r2
section
variable {te:TE} {lo hi:Option aq} {tl th:TO} {pos p2:aC}
theorem OB:PO X ag ahl:=by
 intro pins s σ H Q I h;show az #[ag,H,I,.none,h]
theorem OC (h:PE X e te):PO X (ae e) (ahm te):=by
 intro pins s σ H Q I hw;refine tE (h pins s σ H _ I hw) λu s1 x H1 I1 r1 q1=>?_;let#[i,rfl,q]:=q1;let#[t,rfl]:=r1;show#[ae i,H1,I1,.int i t,q]
def uj (X:Cx) (r:V->Option Int->Option Int->Hp->VK->zk):zk:=
 ∀ (pins:List<|aj×aZ) (s:au) (σ:St) (H:Hp) (x:V) (v vl vu:ai) (lo hi:Option Int) (sl:aj) (Q:VK),Inv X pins σ H s->RelV x v->s.heap.IsSliceOf sl vl vu .none->IsPart vl lo->IsPart vu hi->r x lo hi H Q ->
  ∃ T id,typeLookup (.type T) "__getitem__"=pure (ae<|.builtin id) /\ s.TypeIs v T /\ wpAny zf X.A (getItem v<|.ref sl) (EP X pins σ Q) X.xe s
theorem uj.or {r r':V->Option Int->Option Int->Hp->VK->zk}(h:uj X r) (h':uj X r'):uj X (λx lo hi H Q=>r x lo hi H Q \/ r' x lo hi H Q):=by
 intro pins s σ H x v vl vu lo hi sl Q I rx hs pl pu q;rcases q with q|q
 .show h pins s σ H x v vl vu lo hi sl Q I rx hs pl pu q
 .show h' pins s σ H x v vl vu lo hi sl Q I rx hs pl pu q
def ahn (r:V->Option Int->Option Int->Hp->VK->zk) (te:TE) (tl th:TO):TE:=λσ H Q=>te σ H λx H1=>tl σ H1 λl H2=>th σ H2 λu H3=>r x l u H3 Q
theorem LJ {r:V->Option Int->Option Int->Hp->VK->zk}(hr:uj X r) (he:PE X e te) (hl:PO X lo tl) (hu:PO X hi th):PE X (.Subscript e (.Slice lo hi ag p2) pos) (ahn r te tl th):=by
 intro pins s σ H Q I h;refine Subscript_<|tE (he pins s σ H _ I h) λv s1 x H1 I1 r1 q1=>?_;refine aaY<|tP (hl pins s1 σ H1 _ I1 q1) λvl s2 l H2 I2 pl q2=>tP (hu pins s2 σ H2 _ I2 q2) λvu s3 u H3 I3 pu q3=>?_;refine az ?_;let#[T,id,hT,ht,hg]:=hr pins { s3 with heap:=s3.heap.push { cls:=.type "slice",data:=.fields (List.toArray [vl,vu,.none]) } } σ H3 x v vl vu l u s3.heap.objs.size Q (I3.kept λb ob q=>aN _ q) r1 (Heap.IsSliceOf.new ..) pl pu q3;show Xp ht hT hg (by with_unfolding_all rfl)
def xK (xs:List V) (lo hi:Option Int):List V:=(xs.drop<|HT.ba xs.length 0 lo).take<|HT.ba xs.length xs.length hi-HT.ba xs.length 0 lo
theorem oW (xs:List V) (lo hi:Option Int):(xK xs lo hi).length<=xs.length:=by
 unfold xK;rw[vD,Ho];lia
def adn (K:PySem.W.Frag):V->Option Int->Option Int->Hp->VK->zk:=λx lo hi H Q=>∃ a xs,x=.ref a /\ cP K H a xs /\
 ¬ (HT.ba xs.length 0 lo=0 /\ HT.ba xs.length xs.length hi=xs.length) /\ ∀ p,H p=ag->Q (.ref p) (upd H p<|.tup<|xK xs lo hi)
theorem TV:uj X (adn X.K):=by
 intro pins s σ H x v vl vu lo hi sl Q I rx hs pl pu h;let#[a,xs,rfl,hx,hw,q]:=h;cases rx;let#[its,r,ht,hz]:=I.tuple hx;have hlen:its.toArray.size=xs.length:=r.length.symm;refine#["tuple",_,xq.lookup,ht.typeIs,?_];refine HT.mO ht hs pl pu (by rw[hlen];show hw) ?_ (by rw[hlen];show hz);rw[hlen];refine#[.ref s.heap.objs.size,_,I.laid (λb ob q=>aN _ q) (aE _) ?_,rfl,q _<|I.aD.fresh<|aE _];show#[cB (oW xs lo hi) hz,_,(r.drop _).take _,IsTup.new _ _]
def ado (K:PySem.W.Frag):R2:=λx y H Q=>∃ a b xs ys,x=.ref a /\ y=.ref b /\ cP K H a xs /\ cP K H b ys /\ xs≠[] /\ xs.length+ys.length<=sizeLine /\
 (ys=[]->Q (.ref a) H) /\ (ys≠[]->∀ p,H p=ag->Q (.ref p) (upd H p<|.tup<|xs++ys))
theorem Vals.YY {xs:List V}(r:Vals xs us):us=[] ↔ xs=[]:=by
 cases r with
 |_=>simp
theorem OD:bc X (binaryOp .Add) (ado X.K):=by
 intro pins s σ H x y v u Q I rx ry h;let#[a,b,xs,ys,rfl,rfl,ha,hb,hx,hz,q1,q2]:=h;cases rx;cases ry;let#[its,r1,p1,_]:=I.tuple ha;let#[sC,r2,p2,_]:=I.tuple hb;refine HT.OA p1 p2 (λz=>hx<|r1.YY.mp z) (λz=>#[.ref a,H,I,rfl,q1<|r2.YY.mp z]) (λz=>?_) (by rw[<-r1.length,<-r2.length];show hz);refine#[.ref s.heap.objs.size,_,I.laid (λb ob q=>aN _ q) (aE _) ?_,rfl,q2 (λw=>z<|r2.YY.mpr w) _<|I.aD.fresh<|aE _];show#[by rw[cX];show hz,_,r1.append r2,IsTup.new _ _]
end
noncomputable def cA (n:Nat) (i:Int):Option Nat:=if 0<=i then (if i<n then ae i.toNat else ag) else if -(n:Int)<=i then ae (i+n).toNat else ag
def bF (xs:List α) (i:Int):Option α:=(cA xs.length i).bind λj=>xs[j]?
theorem Cg {i:Int}(h:cA n i=ae j):seqIndex? i n=ae j /\ j<n /\ -(n:Int)<=i /\ i<n:=by
 unfold cA at h;by_cases h0:0<=i
 .rw[if_pos h0]at h;by_cases h1:i<n
  .rw[if_pos h1]at h;show#[by rw[QR h0 h1,(Option.some.inj h)],by lia,by lia,h1]
  .rw[if_neg h1]at h;cases h
 .rw[if_neg h0]at h;by_cases h1:-(n)<=i
  .rw[if_pos h1]at h;show#[by rw[seqIndex_neg za h1,(Option.some.inj h)],by lia,h1,by lia]
  .rw[if_neg h1]at h;cases h
theorem Ch {xs:List α}{i:Int}{v:α}(h:bF xs i=ae v):∃ j,seqIndex? i xs.length=ae j /\ xs[j]?=ae v /\ j<xs.length /\ -(xs.length:Int)<=i /\ i<xs.length:=by
 unfold bF at h;cases e:cA xs.length i with
 |none=>rw[e]at h;cases h
 |some j=>
   rw[e]at h;let#[h1,h2,h3,h4]:=Cg e;show#[j,h1,h,h2,h3,h4]
theorem Ci {xs:List α}{v:α}(h:xs[j]?=ae v):bF xs (j:Int)=ae v:=by
 have hj:=(List.getElem?_eq_some_iff.mp h).1;have e:cA xs.length (j)=ae j:=by
  unfold cA;rw[if_pos za,if_pos za];simp
 unfold bF;rw[e];show h
def Iq (b:aq):zk:=∀ o i,subscripted b af o i=operate [o,i] (getItem o i)
def sD (X:Cx) (r:R2):zk:=
 ∀ (value slice:aq) (pins:List<|aj×aZ) (s:au) (σ:St) (H:Hp) (x y:V) (v u:ai) (Q:VK),Inv X pins σ H s->RelV x v->RelV y u->r x y H Q ->
  subscripted slice af v u=operate [v,u] (getItem v u)->wpAny zf X.A (subscriptTail value slice v u) (EP X pins σ Q) X.xe s
def aho (X:Cx) (id:String) (r:V->List V->Hp->VK->zk):zk:=
 ∀ (pins:List<|aj×aZ) (s:au) (σ:St) (H:Hp) (x:V) (xs:List V) (v:ai) (us:List ai) (Q:VK),Inv X pins σ H s->RelV x v->Vals xs us->r x xs H Q ->
  wpAny zf X.A (call (.builtin id) (v::us)) (EP X pins σ Q) X.xe s
section
variable {a b:aq} {ta tb:TE} {pos:aC}
theorem sD.or {r r':R2}(h:sD X r) (h':sD X r'):sD X (λx y H Q=>r x y H Q \/ r' x y H Q):=by
 intro value slice pins s σ H x y v u Q I rx ry q hs;rcases q with q|q
 .show h value slice pins s σ H x y v u Q I rx ry q hs
 .show h' value slice pins s σ H x y v u Q I rx ry q hs
theorem SL {r:R2}(hr:sD X r) (ha:PE X a ta) (hb:PE X b tb) (hs:Iq b):PE X (.Subscript a b pos) (yT r ta tb):=by
 intro pins s σ H Q I h;show Subscript_<|X2 ha hb I h λv u s2 x y H2 I2 rx ry q=>hr a b pins s2 σ H2 x y v u Q I2 rx ry q<|hs _ _
def adp (K:PySem.W.Frag):R2:=λx y H Q=>∃ p xs i v,x=.ref p /\ y=.int i /\ bN K H p xs /\ bF xs i=ae v /\ Q v H
def adq (K:PySem.W.Frag):R2:=λx y H Q=>∃ p xs i v,x=.ref p /\ y=.int i /\ cP K H p xs /\ bF xs i=ae v /\ Q v H
def ads:R2:=λx y H Q=>∃ z i c,x=.str z /\ y=.int i /\ z.length<=sizeLine /\ bF z.cps.toList i=ae c /\ Q (.str ⟨(List.toArray [c])⟩) H
theorem Gc:sD X (adp X.K):=by
 intro value slice pins s σ H x y v u Q I rx ry h hs;let#[p,xs,i,z,rfl,rfl,hq,he,q]:=h;cases rx;let#[t,rfl]:=ry;let#[its,r,pl,hz]:=I.list hq;let#[j,h1,h2,h3,h4,h5]:=Ch he;let#[w,ew,eO]:=r.get h2;have hl:=r.length;have hn:=yU;have fin:EP X pins σ Q w s:=#[z,H,I,eO,q];by_cases h0:0<=i
 .have hj:i.toNat=j:=by
   rw[QR h0 h5]at h1;show Option.some.inj h1
  show item_listR pl.isList h0 za (by rw[hj];simpa using ew) fin hs
 .have hj:(i+(its.toArray.size)).toNat=j:=by
   rw[seqIndex_neg za h4]at h1;rw[bY,<-hl];show Option.some.inj h1
  show ab3 pl.isList.typeIs slot_list_getitem.lookup
   (wpAny_getItem_list_neg pl.isList za (by rw[bY]<;>lia) za (by rw[hj];simpa using ew) #[rfl,fin]) hs
theorem AD:sD X (adq X.K):=by
 intro value slice pins s σ H x y v u Q I rx ry h hs;let#[p,xs,i,z,rfl,rfl,hq,he,q]:=h;cases rx;let#[t,rfl]:=ry;let#[its,r,pl,hz]:=I.tuple hq;let#[j,h1,h2,h3,h4,h5]:=Ch he;let#[w,ew,eO]:=r.get h2;have hn:=yU;show ab3 pl.typeIs slot_tuple_getitem.lookup
  (getItem_tuple pl za za (by rw[bY,<-r.length];show h1) (by simpa using ew) #[rfl,#[z,H,I,eO,q]]) hs
theorem TW:sD X ads:=by
 intro value slice pins s σ H x y v u Q I rx ry h hs;let#[z,i,c,rfl,rfl,hz,he,q]:=h;let#[t,rfl]:=rx;let#[t',rfl]:=ry;let#[j,h1,h2,h3,h4,h5]:=Ch he;have hl:z.cps.toList.length=z.length:=rfl;rw[hl]at h1 h4 h5;have hn:=yU;show Xp (typeIs_str s z t) slot_str_getitem.lookup (getItem_str (by
  rw[(decide_eq_false za),(decide_eq_false za),Bool.or_false]) (by rw[h1];simpa using h2) #[.str _,H,I.tok _,#[_,rfl],q]) hs
def adt (K:PySem.W.Frag):R2:=λx y H Q=>adp K x y H Q \/ adq K x y H Q \/ ads x y H Q
theorem TX:sD X (adt X.K):=Gc.or<|AD.or TW
theorem Fc (its:List ai) (n j:Nat) (u:ai):Obj.mapSeq (·.setIfInBounds j u) { cls:=.type "list",data:=.seq its.toArray n }={ cls:=.type "list",data:=.seq (its.set j u).toArray n }:=by
 simp[Obj.mapSeq]
theorem Inv.lst {pins:List (aj×aZ)}{σ:St}{H:Hp}{s:au}{p:aj}{xs:List V}(I:Inv X pins σ H s) (h:H p=ae (.lst xs)) :
 ∃ (its:List ai) (n:Nat),Vals xs its /\ s.heap.get? p=ae { cls:=.type "list",data:=.seq its.toArray n } /\ xs.length<=sizeLine:=by
 let#[z,its,n,r,e]:=I.aD p _ h;show#[its,n,r,e,z]
theorem Inv.ahp {s:au}{xs ys:List V}{its qv:List ai}{n':Nat}{f:aZ->aZ}(I:Inv X pins σ H s) (h:H p=ae (.lst xs))
 (ho:s.heap.get? p=ae { cls:=.type "list",data:=.seq its.toArray n }) (hf:f { cls:=.type "list",data:=.seq its.toArray n }={ cls:=.type "list",data:=.seq qv.toArray n' }) (r:Vals ys qv) (hz:ys.length<=sizeLine) (t:Nat) :
 Inv X pins σ (upd H p<|.lst ys) { s with heap:=s.heap.update p f,toks:=t }:=by
 have e:(s.heap.update p f).get? p=ae { cls:=.type "list",data:=.seq qv.toArray n' }:=by
  rw[sf f ho (by rw[hf]<;>rfl),hf]
 show I.write (by rw[h];trivial) (.inl zc) (λb u hb q=>(Hx _ _<|Ne.symm hb).trans q) #[_,e]<|#[hz,qv,n',r,e]
def ahq:V->V->V->Hp->(Hp->zk)->zk:=λo i v H Q=>∃ p xs k j,o=.ref p /\ i=.int k /\ H p=ae (.lst xs) /\ cA xs.length k=ae j /\ Q (upd H p<|.lst<|xs.set j v)
theorem LK:ac7 X ahq:=by
 intro pins s σ H o i v ov iv u Q I ro ri rv h;let#[p,xs,k,j,rfl,rfl,hp,hj,q]:=h;cases ro;let#[t,rfl]:=ri;let#[its,n,r,ho,hz]:=I.lst hp;let#[h1,h2,h3,h4]:=Cg hj;have hl:=r.length;have hn:=yU;have I' :=
  I.ahp hp ho (Fc its n j u) (r.set rv j) (by rw[qo];show hz) s.toks
 by_cases h0:0<=k
 .have hk:k.toNat=j:=by
   rw[QR h0 h4]at h1;show Option.some.inj h1
  show PySem.W.ki_setAt ho h0 za (by rw[bY,<-hl];show h4) (by rw[hk];show#[_,I',q])
 .have hk:(k+(its.toArray.size)).toNat=j:=by
   rw[seqIndex_neg za h3]at h1;rw[bY,<-hl];show Option.some.inj h1
  show PySem.W.ki_setBack ho za (by rw[bY,<-hl];show h3) za (by rw[hk];show#[_,I',q])
theorem Cj (lo hi:Option Int) (n:Nat):(sliceBounds lo hi ag n).1=((HT.ba n 0 lo:Nat):Int) /\ (sliceBounds lo hi ag n).2.1=((HT.ba n n hi:Nat):Int) /\ (sliceBounds lo hi ag n).2.2=1:=by
 refine#[?_,?_,rfl]
 .cases lo with
  |none=>simp[sliceBounds,HT.ba]
  |some i=>
    simp[sliceBounds,HT.ba,Xn,show (1:Int)>0 by decide,if_true];by_cases h:i<0
    .simp[h,if_true]<;>lia
    .simp[h,if_false]<;>lia
 .cases hi with
  |none=>simp[sliceBounds,HT.ba]
  |some i=>
    simp[sliceBounds,HT.ba,Xn,show (1:Int)>0 by decide,if_true];by_cases h:i<0
    .simp[h,if_true]<;>lia
    .simp[h,if_false]<;>lia
theorem Br (its:List ai) (lo hi:Option Int):slicePick its.toArray lo hi ag=((its.drop<|HT.ba its.length 0 lo).take<|HT.ba its.length its.length hi-HT.ba its.length 0 lo).toArray:=by
 let#[h1,h2,h3]:=Cj lo hi its.toArray.size;unfold slicePick;rw[h1,h2,h3];erw[sliceRange_one,pick_run]<;>rfl
def adu (K:PySem.W.Frag):V->Option Int->Option Int->Hp->VK->zk:=λx lo hi H Q=>∃ a xs,x=.ref a /\ bN K H a xs /\ ∀ p,H p=ag->Q (.ref p) (upd H p<|.lst<|xK xs lo hi)
theorem OE:uj X (adu X.K):=by
 intro pins s σ H x v vl vu lo hi sl Q I rx hs pl pu h;let#[a,xs,rfl,hx,q]:=h;cases rx;let#[its,r,ht,hz]:=I.list hx;have hlen:=r.length;refine#["list",_,slot_list_getitem.lookup,ht.isList.typeIs,?_];refine aaZ ht.isList hs pl pu .none zj ?_ (by rw[bY]<;>lia);rw[Br,<-hlen];refine#[.ref s.heap.objs.size,_,I.laid (λb ob q=>aN _ q) (aE _) ?_,rfl,q _<|I.aD.fresh<|aE _];show#[cB (oW xs lo hi) hz,_,0,(r.drop _).take _,bB _ zc]
noncomputable def sF:V->Bool
 |.non=>ah
 |.bl _=>ah
 |.int _=>ah
 |.str _=>ah
 |_=>af
noncomputable def sH:V->V->Bool
 |.non,.non=>ah
 |.bl a,.bl b=>a==b
 |.bl a,.int b=>(if a then 1 else 0)==b
 |.int a,.bl b=>a==(if b then 1 else 0)
 |.int a,.int b=>a==b
 |.str a,.str b=>a==b
 |_,_=>af
theorem TY {s:au}{y x:V}{v:ai}(ry:RelV y u) (rx:RelV x v) (fy:sF y=ah) (fx:sF x=ah):SeqAt.EqAt A s u v (sH y x):=by
 cases y with
 |non=>
   cases ry;cases x with
   |non=>cases rx;show SeqAt.EqAt.same _
   |bl b=>cases rx;show af5 b
   |int b=>let#[t,rfl]:=rx;show af6 b t
   |str b=>let#[t,rfl]:=rx;show af7 b t
   |_=>show absurd (fx) dA
 |bl a=>
   cases ry;cases x with
   |non=>cases rx;show af8 a
   |bl b=>cases rx;show af9 a b
   |int b=>let#[t,rfl]:=rx;show aga a b t
   |str b=>let#[t,rfl]:=rx;show agb a b t
   |_=>show absurd (fx) dA
 |int a=>
   let#[t',rfl]:=ry;cases x with
   |non=>cases rx;show agc a t'
   |bl b=>cases rx;show agd a t' b
   |int b=>let#[t,rfl]:=rx;show XI a t' b t
   |str b=>let#[t,rfl]:=rx;show acH a t' b t
   |_=>show absurd (fx) dA
 |str a=>
   let#[t',rfl]:=ry;cases x with
   |non=>cases rx;show age a t'
   |bl b=>cases rx;show agf a t' b
   |int b=>let#[t,rfl]:=rx;show acI a t' b t
   |str b=>let#[t,rfl]:=rx;show XJ a t' b t
   |_=>show absurd (fx) dA
 |_=>show absurd (fy) dA
def vU (x:V) (u:ai):Bool:=match u with
 |.none=>sH .non x
 |.bool b=>sH (.bl b) x
 |.int i _=>sH (.int i) x
 |.str z _=>sH (.str z) x
 |_=>af
theorem LL {x y:V}(r:RelV y u) (f:sF y=ah):vU x u=sH y x:=by
 cases y with
 |non=>cases r;rfl
 |bl b=>cases r;rfl
 |int i=>let#[t,rfl]:=r;rfl
 |str z=>let#[t,rfl]:=r;rfl
 |_=>show absurd (f) dA
theorem mP {x:V}:∀ {xs:List V}{us:List ai},Vals xs us->xs.all sF=ah->us.any (vU x)=xs.any λy=>sH y x
 |_,_,.nil,_=>rfl
 | y::xs,u::us,.cons r t,f=>by
   rw[tX,aJ]at f;rw[rW,rW,LL r f.1,mP t f.2]
theorem lw {A:eN}{s:au}{x:V}{v:ai}(rx:RelV x v) (fx:sF x=ah):∀ {xs:List V}{us:List ai},Vals xs us->xs.all sF=ah->∀ u∈us,SeqAt.EqAt A s u v (vU x u)
 |_,_,.nil,_=>λu hu=>by cases hu
 | y::xs,u::us,.cons r t,f=>λu' hu=>by
   rw[tX,aJ]at f;rcases bw.mp hu with rfl|hu
   .rw[LL r f.1];show TY r rx f.1 fx
   .show lw rx fx t f.2 u' hu
def Ir (x:V) (xs:List V):Bool:=xs.any λy=>sH y x
def Iu (K:PySem.W.Frag) (neg:Bool):R2:=λx y H Q=>∃ p xs,y=.ref p /\ (bN K H p xs \/ cP K H p xs) /\ sF x=ah /\ xs.all sF=ah /\ Q (.bl (if neg then !Ir x xs else Ir x xs)) H
theorem Jm:bc X (compareOp .In) (Iu X.K af):=by
 intro pins s σ H x y v u Q I rx ry h;let#[p,xs,rfl,hq,fx,fs,q]:=h;cases ry;rcases hq with hq|hq
 .let#[its,r,pl,hz]:=I.list hq;refine SeqAt.in_listAt _ pl.isList (λw hw=>lw rx fx r fs w (by simpa using hw)) #[.bl _,H,I,rfl,?_];rw[show its.toArray.any _=its.any (vU x) by simp,mP r fs];show q
 .let#[its,r,pl,hz]:=I.tuple hq;refine SeqAt.in_tupleAt _ pl (λw hw=>lw rx fx r fs w (by simpa using hw)) #[.bl _,H,I,rfl,?_];rw[show its.toArray.any _=its.any (vU x) by simp,mP r fs];show q
theorem Ck:bc X (compareOp .NotIn) (Iu X.K ah):=by
 intro pins s σ H x y v u Q I rx ry h;let#[p,xs,rfl,hq,fx,fs,q]:=h;cases ry;rcases hq with hq|hq
 .let#[its,r,pl,hz]:=I.list hq;refine SeqAt.notIn_listAt _ pl.isList (λw hw=>lw rx fx r fs w (by simpa using hw)) #[.bl _,H,I,rfl,?_];rw[show its.toArray.any _=its.any (vU x) by simp,mP r fs];show q
 .let#[its,r,pl,hz]:=I.tuple hq;refine SeqAt.notIn_tupleAt _ pl (λw hw=>lw rx fx r fs w (by simpa using hw)) #[.bl _,H,I,rfl,?_];rw[show its.toArray.any _=its.any (vU x) by simp,mP r fs];show q
theorem mQ:eE X (.builtin "len") (λxs H Q=>∃ p ys,xs=[.ref p] /\ (bN X.K H p ys \/ cP X.K H p ys) /\ Q (.int ys.length) H):=by
 intro pins s σ H xs us Q I r h;let#[p,ys,rfl,hq,q]:=h;let#[u,rfl,rx]:=vals1 r;cases rx;have hn:=yU;rcases hq with hq|hq
 .let#[its,r',pl,hz]:=I.list hq;have hlen:=r'.length;show Calls.call_len_list pl.isList (by simp[bY]<;>lia) #[.int ys.length,H,I.tok _,#[s.toks+1,by rw[bY,hlen]],q]
 .let#[its,r',pl,hz]:=I.tuple hq;have hlen:=r'.length;show len_tuple pl (by simp[bY]<;>lia) #[.int ys.length,H,I.tok _,#[s.toks+1,by rw[bY,hlen]],q]
theorem Cn:eE X (.type "list") (λxs H Q=>∃ p ys,xs=[.ref p] /\ (bN X.K H p ys \/ cP X.K H p ys) /\ ∀ l,H l=ag->Q (.ref l) (upd H l<|.lst ys)):=by
 intro pins s σ H xs us Q I r h;let#[p,ys,rfl,hq,q]:=h;let#[u,rfl,rx]:=vals1 r;cases rx
 have fin:∀ (its),Vals ys its->ys.length<=sizeLine->∀ (h') (c'),(∀ b o',s.heap.get? b=ae o'->h'.get? b=ae o') ->
  h'.get? s.heap.objs.size=ae { cls:=.type "list",dict:=ag,data:=.seq its.toArray c',slots:=#[] }->EP X pins σ Q _ { s with heap:=h' }:=λits r' hz h' c' kp e=>
  #[.ref s.heap.objs.size,_,I.laid kp (aE _) (show cz X.prog X.w _ h' _ (.lst ys) from#[hz,its,c',r',e]),rfl,q _<|I.aD.fresh<|aE _]
 rcases hq with hq|hq
 .let#[its,r',pl,hz]:=I.list hq;have hlen:=r'.length;let#[o,ho,hc,n,hd]:=pl.isList;show aa0 p (.inl zc) ho hc hd (λh' c' kp e=>fin its r' hz h' c' kp e) (by simp[bY]<;>lia)
 .let#[its,r',pl,hz]:=I.tuple hq;have hlen:=r'.length;let#[o,ho,hc,n,hd]:=pl;show aa0 p (.inr zc) ho hc hd (λh' c' kp e=>fin its r' hz h' c' kp e) (by simp[bY]<;>lia)
theorem Bs:eE X (.type "tuple") (λxs H Q=>∃ p ys,xs=[.ref p] /\ ((bN X.K H p ys /\ ∀ l,H l=ag->Q (.ref l) (upd H l<|.tup ys)) \/ (cP X.K H p ys /\ Q (.ref p) H))):=by
 intro pins s σ H xs us Q I r h;let#[p,ys,rfl,h]:=h;let#[u,rfl,rx]:=vals1 r;cases rx;rcases h with⟨hq,q⟩|⟨hq,q⟩
 .let#[its,r',pl,hz]:=I.list hq;have hlen:=r'.length;refine call_tuple_list pl.isList (λh' kp=>?_) (by simp[bY]<;>lia);have I1:Inv X pins σ H { s with heap:=h' }:=I.kept kp;have I2:Inv X pins σ (upd H h'.objs.size<|.tup ys) { s with heap:=h'.push { cls:=.type "tuple",data:=.seq its.toArray } }:=
   I1.laid (λb o e=>aN _ e) (aE _) (#[hz,its,r',IsTup.new _ _])
  show#[.ref h'.objs.size,_,I2,rfl,q _<|I1.aD.fresh<|aE _]
 .let#[its,r',pl,hz]:=I.tuple hq;show call_tuple_same pl #[.ref p,H,I,rfl,q]
def adv (K:PySem.W.Frag) (T:String) (x:V) (H:Hp):zk:=match x with
 |.str _=>T="str"
 |.int _=>T="int"
 |.ref p=>(T="list" /\ ∃ xs,bN K H p xs) \/ (T="tuple" /\ ∃ o,K.lookup p=ae o /\ o.cls=.type "tuple" /\ o.dict=ag) \/
  (T="dict" /\ ((∃ ao,H p=ae zam) \/ ∃ ao,H p=ae (.dT ao))) \/ (T="set" /\ ∃ S n,H p=ae (.set S n))
 |_=>False
theorem TZ {s:au}{T:String}{x:V}{v:ai}(I:Inv X pins σ H s) (r:RelV x v) (ty:adv X.K T x H) :
 s.TypeIs v T /\ ∀ a,v=.ref a->∃ ob,s.heap.get? a=ae ob /\ ob.dict=ag:=by
 cases x with
 |str z=>
   let#[t,rfl]:=r;cases (ty);show#[typeIs_str s z t,λ_ e=>nomatch e]
 |int i=>
   let#[t,rfl]:=r;cases (ty);show#[QS s i t,λ_ e=>nomatch e]
 |ref p=>
   cases r;rcases ty with⟨rfl,xs,hq⟩|⟨rfl,o,hk,hc,hd⟩|⟨rfl,hk⟩|⟨rfl,S,n,hk⟩
   .let#[its,_,pl,_]:=I.list hq;refine#[pl.isList.typeIs,λa e=>?_];cases e;let#[o,n,e,c,hd,_]:=pl;show#[o,e,hd]
   .refine#[#[o,I.kP p o hk,hc],λa e=>?_];cases e;show#[o,I.kP _ o hk,hd]
   .have z:∃ o,s.heap.get? p=ae o /\ o.ExactDict:=by
     rcases hk with⟨ao,hk⟩|⟨ao,hk⟩
     .let#[_,_,_,_,o,_,_,e,ex,_]:=I.aD p _ hk;show#[o,e,ex]
     .let#[_,_,_,_,o,_,_,e,ex,_]:=I.aD p _ hk;show#[o,e,ex]
    let#[o,e,ex]:=z;refine#[#[o,e,ex.1],λa e2=>?_];cases e2;show#[o,e,ex.2.1]
   .let#[o,_,_,_,e,ex,_]:=I.aD p _ hk;refine#[#[o,e,ex.1],λa e2=>?_];cases e2;show#[o,e,ex.2.1]
 |_=>show False.elim ty
def Iv (K:PySem.W.Frag) (T:String) (r:V->List V->Hp->VK->zk) (to:TE) (t:TA):TE:=λσ H Q=>to σ H λx H1=>adv K T x H1 /\ t σ H1 λxs H2=>r x xs H2 Q
variable {o:aq} {to:TE} {t:TA} {name:Str} {cR:aC} {T id:String} {r:V -> List V -> Hp -> VK -> zk}
theorem LM (pa:PlainAttrs T) (slot:Slot T name id) (ahr:typeOf (.builtin id)=pure (.type "method_descriptor")) (hm:aho X id r) (ho:PE X o to) (ha:PA X (e::es) t)
 (vV:attributeBase o name X.env (eval o X.env)=eval o X.env:=by rfl)
 (vW:((backTo cR<|starEach (e::es) X.env).all (λx=>!x.1)&&(backToKw cR<|keywordEach [] X.env).all (λx=>x.1.isSome)
  && decide ((e::es).length+([]:List Keyword).length+(if ([]:List Keyword).isEmpty then 0 else 1)<30))=ah:=by rfl)
 (vX:(apos.endLine==cR.line)=ah:=by rfl) (hs:starEach (e::es) X.env=(af,eval e X.env)::starEach es X.env:=by rfl) (ahs:(backTo cR<|starEach es X.env).any (·.1)=af:=by rfl) :
 PE X (.Call (.Attribute o name apos) (e::es) [] cR) (Iv X.K T r to t):=by
 intro pins s σ H Q I h;refine wpAny_Call_method_late vV vW vX zc<|tE (ho pins s σ H _ I h) λv s1 x H1 I1 r1 hh=>?_;let#[ty,q1]:=hh;let#[h1,h2]:=TZ I1 r1 ty;refine#[T,id,pa,slot,ahr,h1,h2,?_];have hA:=ha cR pins s1 σ H1 _ I1 q1;rw[hs]at hA ⊢;show HR (by change (af||(backTo cR _).any _)=af;rw[ahs]<;>rfl)<|XA<|tA hA λus s2 vs H2 I2 r2 q2=>hm pins s2 σ H2 x vs v us Q I2 r1 r2 q2
end
def YZ (X:Cx) (id:String) (r:V->List V->Hp->VK->zk):zk:=
 ∀ (pins:List<|aj×aZ) (s:au) (σ:St) (H:Hp) (x:V) (xs:List V) (v:ai) (us:List ai) (Q:VK),Inv X pins σ H s->RelV x v->Vals xs us->r x xs H Q ->
  wpAny zf X.A (call (.builtin id) (v::us)) (EP X pins σ Q) X.xe s
theorem Vals.one:∀ {x:V}{us:List ai},Vals [x] us->∃ u,us=[u] /\ RelV x u
 |_,_,.cons r .nil=>#[_,rfl,r]
theorem Vals.two:∀ {x y:V}{us:List ai},Vals [x,y] us->∃ u v,us=[u,v] /\ RelV x u /\ RelV y v
 |_,_,_,.cons r (.cons q .nil)=>#[_,_,rfl,r,q]
theorem Vals.eraseIdx:∀ {xs:List V}{us:List ai}(i:Nat),Vals xs us->Vals (xs.eraseIdx i) (us.eraseIdx i)
 |_,_,_,.nil=>.nil
 |_,_,0,.cons _ t=>t
 |_,_,i+1,.cons r t=>.cons r<|Vals.eraseIdx i t
theorem Vals.reverse {xs:List V}{us:List ai}(h:Vals xs us):Vals xs.reverse us.reverse:=by
 induction h with
 |nil=>show .nil
 |cons r t ih=>rw[Hq,Hq];show Vals.append ih<|.cons r .nil
theorem Vals.rep {xs:List V}(h:Vals xs us):∀ k:Nat,Vals (List.replicate k xs).flatten (List.replicate k us).flatten:=by
 intro l_;induction l_ with
 |zero=>show .nil
 |succ k ay=>show Vals.append h<|ay
theorem BI {α:Type}:∀ (l:List α) (i:Nat),(l.eraseIdx i).length<=l.length
 |[],_=>aE _
 |_::_,0=>qj _
 |_::r,i+1=>abn<|BI r i
theorem BJ (its:List ai):∀ (k:Nat) (acc:List ai),
 List.foldl (λx1 x2=>x1++x2) acc.toArray (List.replicate k its.toArray)=(acc++(List.replicate k its).flatten).toArray
 |0,acc=>by simp
 | k+1,acc=>by
   have e:acc.toArray++its.toArray=(acc++its).toArray:=by simp
   have e2:(acc++its)++(List.replicate k its).flatten=acc++(List.replicate (k+1) its).flatten:=by
    rw[Xa,aby,pO]
   rw[<-e2,<-BJ its k _,<-e,Xa,Xb]
section
variable {s:au} {l b:aj} {xs ys zs:List V}
theorem Inv.Y0 {its qv:List ai}{f:Array ai->Array ai}(I:Inv X pins σ H s) (hH:H l=ae (.lst xs))
 (e:s.heap.get? l=ae { cls:=.type "list",data:=.seq its.toArray n }) (hf:f its.toArray=qv.toArray) (hv:Vals ys qv) (hz:ys.length<=sizeLine) :
 Inv X pins σ (upd H l<|.lst ys) { s with heap:=s.heap.update l (Obj.mapSeq f),toks:=t' }:=by
 have q:=PySem.IsL.update e f;rw[hf]at q;show I.write (by rw[hH];show trivial) (.inl zc) (λb' u hb hu=>(Hx s.heap _<|Ne.symm hb).trans hu) #[_,q]<|#[hz,qv,_,hv,q]
theorem Inv.adw {its:List ai}(I:Inv X pins σ H s) (hv:Vals ys its) (hz:ys.length<=sizeLine) :
 Inv X pins σ (upd H s.heap.objs.size<|.lst ys) { s with heap:=s.heap.push { cls:=.type "list",data:=.seq its.toArray },toks:=t' }:=
 I.laid (λ_ _ q=>aN _ q) (aE _) #[hz,its,0,hv,bB _ zc]
theorem Inv.fresh (I:Inv X pins σ H s):H s.heap.objs.size=ag:=I.aD.fresh<|aE _
theorem Inv.vY (I:Inv X pins σ H s) (hH:H l=ae (.lst xs)):xs.length<=sizeLine /\ ∃ (its:List ai) (n:Nat),Vals xs its /\ xs.length=its.length /\ s.heap.get? l=ae { cls:=.type "list",data:=.seq its.toArray n }:=by
 let#[z,its,n,r,e]:=I.aD l _ hH;show#[z,its,n,r,r.length,e]
theorem adx (h:n<=sizeLine):Builtin.List.listTooLong n=af:=decide_eq_false za
end
def ady:V->List V->Hp->VK->zk:=λx vs H Q=>∃ l xs y,x=.ref l /\ vs=[y] /\ H l=ae (.lst xs) /\ xs.length<sizeLine /\ Q .non (upd H l<|.lst<|xs++[y])
theorem oz:YZ X "list.append" ady:=by
 intro pins s σ H x vs v us Q I rx rv h;let#[l,xs,y,rfl,rfl,hH,hz,q]:=h;cases rx;let#[u,rfl,ru]:=rv.one;let#[z,its,n,r,hl,e]:=I.vY hH;refine wV F.slot_list_append #[_,e,rfl] F.entry_list_append (F.args_list_append_2 _ _) (PySem.list_append l its.toArray n u (by rw[bY];lia)) #[e,?_];refine#[.non,_,I.Y0 hH e zj (r.append<|.cons ru .nil) ?_,rfl,q];rw[cX,abz];lia
def adz:V->List V->Hp->VK->zk:=λx vs H Q=>∃ l b xs zs,x=.ref l /\ vs=[.ref b] /\ H l=ae (.lst xs) /\ H b=ae (.lst zs) /\ xs.length+zs.length<=sizeLine /\ Q .non (upd H l<|.lst<|xs++zs)
theorem Jn:YZ X "list.extend" adz:=by
 intro pins s σ H x vs v us Q I rx rv h;let#[l,b,xs,zs,rfl,rfl,hH,hB,hz,q]:=h;cases rx;let#[u,rfl,ru]:=rv.one;cases ru;let#[z,its,n,r,hl,e]:=I.vY hH;let#[z2,sC,n2,r2,rf,e2]:=I.vY hB;have qZ:its.toArray.size+sC.toArray.size<=sizeLine:=by rw[bY,bY];lia
 have Y1:¬ (!its.toArray.isEmpty&&Builtin.List.listTooLong (its.toArray.size+sC.toArray.size))=ah:=by
  rw[adx qZ,Bool.and_false];show dA
 refine wV F.slot_list_extend #[_,e,rfl] F.entry_list_extend (F.args_list_extend_2 _ _)
  (agE l its.toArray n b sC.toArray n2 Y1 za za) #[e,e2,?_]
 refine#[.non,_,I.Y0 hH e zj (r.append r2) ?_,rfl,q];rw[cX];lia
def adA:V->List V->Hp->VK->zk:=λx vs H Q=>∃ l xs i k y,x=.ref l /\ vs=[.int i] /\ H l=ae (.lst xs) /\ -(2 ^ 63)<=i /\ i<2 ^ 63 /\ seqIndex? i xs.length=ae k /\ xs[k]?=ae y /\ Q y (upd H l<|.lst<|xs.eraseIdx k)
theorem LN:YZ X "list.pop" adA:=by
 intro pins s σ H x vs v us Q I rx rv h;let#[l,xs,i,k,y,rfl,rfl,hH,h1,h2,hk,hy,q]:=h;cases rx;let#[u,rfl,ru]:=rv.one;let#[t,rfl]:=ru;let#[z,its,n,r,hl,e]:=I.vY hH;let#[w,hw,eO]:=r.get hy;refine wV F.slot_list_pop #[_,e,rfl] F.entry_list_pop (F.args_list_pop_2 _ _)
  (agG l its.toArray n i t k w (aa1 h1 h2) (by rw[bY,<-hl];show hk) (by rw[<-qU];show hw) (by rw[bY];lia)) #[e,?_]
 refine#[y,_,I.Y0 hH e ?_ (r.eraseIdx k) ?_,eO,q]
 .rw[List.eraseIdxIfInBounds_toArray]
 .have:=BI xs k;lia
def adB:R2:=λx y H Q=>∃ l b xs zs,x=.ref l /\ y=.ref b /\ H l=ae (.lst xs) /\ H b=ae (.lst zs) /\ xs.length+zs.length<=sizeLine /\ ∀ p,H p=ag->Q (.ref p) (upd H p<|.lst<|xs++zs)
theorem T0:bc X (binaryOp .Add) adB:=by
 intro pins s σ H x y v u Q I rx ry h;let#[l,b,xs,zs,rfl,rfl,hH,hB,hz,q]:=h;cases rx;cases ry;let#[z,its,n,r,hl,e]:=I.vY hH;let#[z2,sC,n2,r2,rf,e2]:=I.vY hB;refine PySem.P.add_list e e2 ?_ (by rw[bY,bY];lia);have ea:its.toArray++sC.toArray=(its++sC).toArray:=by simp
 rw[ea];show#[.ref _,_,I.adw (r.append r2) (by rw[cX];lia),rfl,q _ I.fresh]
def adC:R2:=λx y H Q=>∃ l k xs,x=.ref l /\ y=.int k /\ H l=ae (.lst xs) /\ -(2 ^ 63)<=k /\ k<2 ^ 63 /\ xs.length*k.toNat<=sizeLine /\
 ∀ p,H p=ag->Q (.ref p) (upd H p<|.lst (List.replicate k.toNat xs).flatten)
theorem OF (xs:List α) (k:Nat):(List.replicate k xs).flatten.length=k*xs.length:=by
 induction k with
 |zero=>simp
 |succ k ih=>rw[Xa,aby,cX,ih,Nat.succ_mul,Nat.add_comm]
theorem T1:bc X (binaryOp .Mult) adC:=by
 intro pins s σ H x y v u Q I rx ry h;let#[l,k,xs,rfl,rfl,hH,h1,h2,hz,q]:=h;cases rx;let#[t,rfl]:=ry;let#[z,its,n,r,hl,e]:=I.vY hH;have hlen:its.toArray.size*k.toNat<=sizeLine:=by rw[bY,<-hl];show hz
 have aht:¬ its.toArray.size*k.toNat>(2 ^ 63-1) / 8:=by
  have:(sizeLine)<=(2 ^ 63-1) / 8:=by decide
  lia
 have ahu:¬ (!Builtin.List.listFitsIndex k)=ah:=by
  rw[aa1 h1 h2];show dA
 have Y1:¬ Builtin.List.listTooLong (its.toArray.size*k.toNat)=ah:=by
  rw[adx hlen];show dA
 have yW:List.foldl (λx1 x2=>x1++x2) #[] (List.replicate (if its.toArray.isEmpty=ah then 0 else k.toNat) its.toArray)=(List.replicate k.toNat its).flatten.toArray:=by
  have f0:=λm=>by
   have:=BJ its m [];rw[nW]at this;show this
  rw[f0];cases its with
  |nil=>simp
  |cons a r'=>rw[if_neg zj]
 refine wpAny_binaryOp_repeat_ref (rfl) #[_,e,rfl] (λs'=>QS s' k t) noFill_list_mul F.fills_int_mul acs repeat_list F.slot_int_index.lookup
  (wV acs (QS s k t) F.entry_int_rmul (F.args_int_rmul_2 _ _) (int___rmul___int_list k t l its.toArray n)
   #[e,rfl,#[_,e,rfl],wV F.slot_list_mul #[_,e,rfl] F.entry_list_mul (F.args_list_mul_2 _ _) (agH l its.toArray n k t ahu aht Y1) #[e,?_]])
 rw[yW];show#[.ref _,_,I.adw (r.rep k.toNat) (by rw[OF,Nat.mul_comm];show hz),rfl,q _ I.fresh]
section
variable {s:au}
end
end L2
namespace adD
open PySem.W PySem.Calls
theorem Ag {P:Params}:∀ (ns:List Int) (vs:List ai),WellAll P h vs (ns.map WData.int)->IntsAre vs ns:=by
 intro ns;induction ns with
 |nil=>
   intro vs w;cases w;show .nil
 |cons n ns ih=>
   intro vs w;cases w with
   |cons a b=>
     cases a;show .cons _ _<|ih _ b
theorem Jo {l:OpenLaw}(hn:l.most=ae n) {P:Params}{args:List WData}{vals:List ai}
 (Iw:l.row.toRowW.claim.pre args=ah) (Y2:WellAll P h vals args) :
 ∃ a vs ns,vals=[Value.ref a] /\ args=[WData.list<|ns.map WData.int] /\ h.get? a=ae { cls:=.type "list",data:=.seq vs.toArray } /\ IntsAre vs ns /\ ns.length<=n:=by
 let#[d,r,rfl,h1,h2]:=hasAllW_cons (pre_splitW Iw).1;obtain rfl:=hasAllW_nil h2;let#[xs,rfl,h3]:=hasW_list h1;let#[ns,rfl]:=items_int h3;have hlen:ns.length<=n:=by
  have h4:(WTm.not<|.lt (.lit<|.int<|n)<|.len<|.arg 0).holds [] { args:=[.list<|ns.map .int] }=ah:=by
   have h4:=(holds_andW (pre_splitW Iw).2).1;rw[hn]at h4;show h4
  have h5:=condW_of h4<|w_not<|w_lt w_lit<|w_len_list<|w_arg zc;refine vA λq=>?_;first
   |(show absurd h5 (rfl))
   |(simp at h5;lia)
 cases Y2 with
 |cons w1 w2=>
   cases w2;cases w1 with
   |list ho yX=>show#[_,_,ns,rfl,rfl,ho,Ag ns _ yX,hlen]
theorem Jp (l:OpenLaw) (args:List WData):l.row.toRowW.claim.post args (.bool ah) args=ah:=
 postW_of
  (by first|rfl|decide|simp[])
  (w_eq_bool (w_res zc) w_lit) zc
theorem ahv {l:OpenLaw}{q:dD}{loose:List Str}{YP:cw->aI->zk}{d:DefRec}
 (hn:l.most=ae n) (Y3:d.params.defaults=[])
 (call:∀ (w:cw) (s₀ s₁:au) (mg mb:Str->Option ai) (fa:aj) (o:aZ) (pm cd doc:ai) (a:aj) (vs:List ai) (ns:List Int),
  Ground q loose [] XP w s₀ mg mb s₁.heap->YP w s₁.heap ->
  s₁.heap.get? fa=ae o->o.data=.func (docDef d.name d.params d.body d.scope pm cd doc)->s₁.heap.CodeRec cd d.name->mg d.name=ae (.ref fa) ->
  s₁.heap.get? a=ae { cls:=.type "list",data:=.seq vs.toArray }->IntsAre vs ns->ns.length<=n->s₁.gens=#[] ->
  codeAny (model l.prog w) callerA (.call (.ref fa) #[[.ref a],[]]) (λr s'=>r=.ok (.ret<|.bool ah) /\ OldK s₁.heap s'.heap /\ s'.os=s₁.os /\ AllBare s'.gens) s₁) :
 WalkO q loose XP YP l.row.toRowW d [] (λf vs=>PySem.call f vs):=by
 intro w s₀ s₁ mg mb G Y fa o pm cd doc dV kV ho hd pX hD hmg hg args vals as Iw alx aly Y2 alz;obtain rfl:dV=.none:=Dflts.none hD Y3;obtain rfl:kV=.none:=Dflts.noKw hD;let#[a,vs,ns,rfl,rfl,Y4,hints,hlen]:=Jo hn Iw Y2;refine enter_call<|wU (call w s₀ s₁ mg mb fa o pm cd doc a vs ns G Y ho (fd_plain hd) pX hmg Y4 hints hlen hg) λr s' hq=>?_;let#[rfl,h2,h3,h4]:=hq;show#[.inl #[.bool ah,.bool ah,[],rfl,λ_=>rfl,.bool ah,Jp l _,λ_=>#[List.Pairwise.nil,λ_ hm=>(nomatch hm)]],h2,h3,h4]
section
variable {s:au} 
end
end adD
namespace L2
theorem BK:∀ {vs:List ai}{ns:List Int},IntsAre vs ns->Vals (ns.map V.int) vs
 |_,_,.nil=>.nil
 |_,_,.cons n t h=>.cons #[t,rfl]<|BK h
def Y5 (H:Hp):zk:=∀ b,H b=ag \/ ∃ o xs,H b=ae (.bM o<|.lst xs)
theorem LO {mb:Str->Option ai}{k:Nat}{fa:aj}{sp:Sp}{s₁:au} 
 (KX:K.In s₁.heap) (kg:s₁.heap.Ns mainGlobals mg) (hb:s₁.heap.Ns builtinsNs mb) (ahw:∀ x:Str,x ≠ "__name__"->mb x=bootBuiltins x) (ahx:s₁.heap.NoLimit) (hg:s₁.gens=#[])
 (ha:s₁.heap.get? a=ae { cls:=.type "list",data:=.seq vs.toArray }) (hi:IntsAre vs ns) (hl:ns.length<=sizeLine) (hr:dE k callerA)
 (F:∀ base:aI,K.In base->base.Ns mainGlobals mg->kR P w K mg base CX k fa fd [x] sp) (ahy:∀ (s:au) (u:ai),BindsTo s fd #[[u],[]] [(x,u)])
 (xI:∀ H:Hp,Y5 H->bN K H a (ns.map V.int)->sp [.ref a] H (λv _=>v=.bl ah) λ_ _ _=>False)
 (ahz:∀ H e s',CX [] H s₁ (λ_ _ _=>False) e s'->False) :
 codeAny (model P w) callerA (.call (.ref fa) #[[.ref a],[]]) (λr s'=>r=.ok (.ret<|.bool ah) /\ OldK s₁.heap s'.heap /\ s'.os=s₁.os /\ AllBare s'.gens) s₁:=by
 have rv:=BK hi
 have core:∀ H,Y5 H->bN K H a (ns.map V.int)->cM P w H s₁.heap->(∀ b,H b≠ag->b=a)->(H a≠ag->K.lookup a=ag) ->
  codeAny (model P w) callerA (.call (.ref fa) #[[.ref a],[]]) (λr s'=>r=.ok (.ret<|.bool ah) /\ OldK s₁.heap s'.heap /\ s'.os=s₁.os /\ AllBare s'.gens) s₁:=by
  intro H hO hS aD hA hK;have jg:∀ {b}{o},s₁.heap.get? b=ae o->H b=ag->(xw s₁.heap H).get? b=ae o:=λe n=>Lo e n;have yV:∀ {b}{o}{es}{ep},s₁.heap.get? b=ae o->o.data=.dict es ep->H b=ag:=λ{b o es ep} e d=>by
   cases q:H b with
   |none=>rfl
   |some u=>
     have e':=hA b (by rw[q];simp);subst e';rw[ha]at e;cases e;cases d
  have Iy:∀ {b}{m},s₁.heap.Ns b m->(xw s₁.heap H).Ns b m:=λ{b m} ⟨o,es,ep,e,d,r⟩=>#[o,es,ep,jg e<|yV e d,d,r];have adE:=λb o e=>jg (KX b o e) (by
   cases q:H b with
   |none=>rfl
   |some u=>
     have e':=hA b (by rw[q];simp);subst e';rw[hK (by rw[q];simp)]at e;cases e)
  refine wU ((F _ adE<|Iy kg).run callerA [] s₁ H _ [.ref a] [.ref a] _ _ hr #[rfl,#[adE,Iy kg,#[mb,Iy hb,ahw],let ⟨mc,h1,h2⟩:=ahx;#[mc,Iy h1,h2]],λb o e=>Ol e,xa<|Jc _ _,trivial,λb hb=>absurd (show b∈([]) from hb) zj,aD,.of_eq hg] (ahy s₁<|.ref a) (.cons zc .nil)<|xI H hO hS) λr s' h=>?_;cases r with
  |error e=>show(ahz H e s' h).elim
  |ok fl=>
    cases fl with
    |ret u=>
      let#[v,H',os,bare,un,ahA,r',q]:=h;subst q;obtain rfl:u=Value.bool ah:=r';refine#[rfl,OldK.of_keep λb o e=>?_,os,bare];cases q:H b with
      |none=>show un.keep b o e q (by intro z;show absurd (show b∈([]) from z) zj) zj
      |some u=>
        rcases hO b with z|⟨ob,xs,z⟩
        .rw[q]at z;cases z
        .let#[e1,_]:=aD b _ z;let#[e2,_]:=ahA b _<|un.pV b ob _ z;rw[e]at e1;cases e1;show e2
    |_=>show False.elim h
 cases hk:K.lookup a with
 |some o=>
   have e:=KX a o hk;rw[ha]at e;cases e;refine core (λ_=>ag) (λ_=>.inl zc) (.inr #[_,vs.toArray,_,hk,rfl,rfl,rfl,by rw[bY,hi.length];show hl,by simpa using rv]) (λb u z=>by cases z) (λb z=>absurd rfl z) λz=>absurd rfl z
 |none=>
   refine core (λb=>if b=a then ae (.bM { cls:=.type "list",data:=.seq vs.toArray }<|.lst<|ns.map V.int) else ag) (λb=>?_) (.inl<|.inr #[{ cls:=.type "list",data:=.seq vs.toArray },if_pos zc]) (λb u z=>?_) (λb z=>?_) λ_=>hk
   .by_cases hb:b=a
    .show .inr #[_,_,if_pos hb]
    .show .inl<|if_neg hb
   .by_cases hb:b=a
    .cases ((if_pos hb).symm.trans z);subst hb;show#[ha,by rw[aR];show hl,vs,_,rv,ha]
    .cases ((if_neg hb).symm.trans z)
   .by_cases hb:b=a
    .show hb
    .show absurd (if_neg hb) z
noncomputable abbrev alA (_:K.In h):PySem.W.Frag:=K
noncomputable def jr (s:cb):Arguments:=match s with
 |.FunctionDef _ a _ _ _ _ _ _ _ _=>a
 |_=>{ posonlyargs:=[],args:=[],vararg:=ag,kwonlyargs:=[],kw_defaults:=[],kwarg:=ag,defaults:=[] }
noncomputable def g6 (s:cb):List cb:=match s with
 |.FunctionDef _ _ b _ _ _ _ _ _ _=>b
 |_=>[]
noncomputable def fP (s:cb):bT:=match s with
 |.FunctionDef _ _ _ _ _ _ sc _ _ _=>sc
 |_=>{ kind:=.function,names:=[],isGenerator:=af,isCoroutine:=af }
abbrev yY:qw:=λ_ _ _ _ _ _=>False
noncomputable abbrev E0:XK:=λ_ _ _=>False
structure qx (K:PySem.W.Frag) (x qual:Str) (st:cb) (f:aj) (fd:FuncData):zk where
 ex:∃ (oc:ai) (od:Option aj) (kV doc pm:ai) (an:Option aj) (bO ct:ai) (qN:Array<|Option ai),
  fd=PySem.W.fnOf x qual (jr st) (g6 st) (fP st) .none kV doc pm an bO ct /\ K.lookup f=ae #[oc,od,.func fd,qN] /\ PySem.W.codeIn K bO qual=ah
 kp:PySem.W.keepIn K (.ref f)=ah
theorem qx.ok {qual:Str}{f:aj}{ps:List Str}{k:Nat}{sp:Sp}(F:qx K x qual st f fd) (S:xH N ps<|fP st) (len:∀ vs H Q E,sp vs H Q E->vs.length=ps.length)
 (vS:∀ (bO:ai) (A:eN) (outer:List Env) (s:au) (H:Hp) (vs:List V) (Q:VK) (E:XK),dE k (A.deeper<|envOfC qual (fP st) s.heap.objs.size f bO)->sp vs H Q E ->
  ∃ t,kE (vR yY P w K mg base N qual (fP st) f bO A outer s H E).xE (g6 st) t /\ t { nx:=λ_ H'=>Q .non H',rt:=Q } (start N vs) H):kR P w K mg base yY (k+1) f fd ps sp:=by
 let#[oc,od,kV,doc,pm,an,bO,ct,qN,rfl,lk,pX]:=F.ex;refine Wl lk pX S len λA outer s H vs Q E hr xI=>?_;let#[t,h,q]:=vS bO A outer s H vs Q E hr xI;show#[t,h.xE,q]
theorem qx.binds {qual:Str}{f:aj}{ps:List Str}(F:qx K x qual st f fd)
 (h:∀ (kV doc pm:ai) (an:Option aj) (bO ct:ai) (us:List ai),us.length=ps.length->bindArgs (PySem.W.fnOf x qual (jr st) (g6 st) (fP st) .none kV doc pm an bO ct) #[us,[]]=pure (ps.zip us)):Binds K fd ps []:=by
 let#[oc,od,kV,doc,pm,an,bO,ct,qN,rfl,lk,pX]:=F.ex;show .all<|h kV doc pm an bO ct
theorem LP {qual:Str}{f:aj}{oc:ai}{od an:Option aj}{kV doc pm bO ct:ai}(l:K.lookup f=ae #[oc,od,.func<|PySem.W.fnOf x qual (jr st) (g6 st) (fP st) .none kV doc pm an bO ct,qN])
 (c:PySem.W.codeIn K bO qual=ah) (k:PySem.W.keepIn K (.ref f)=ah):qx K x qual st f (PySem.W.fnOf x qual (jr st) (g6 st) (fP st) .none kV doc pm an bO ct):=#[#[oc,od,kV,doc,pm,an,bO,ct,qN,rfl,l,c],k]
noncomputable def eP (cells:List<|Str×aj):List (Str×NameKind)->List (Str×aj)->List (Str×aj)
 |[],acc=>acc
 |(n,k)::r,acc=>eP cells r (if k==.free then (match cells.lookup n with|some c=>(n,c)::acc|none=>acc) else acc)
theorem jM {env:Env}:∀ (names:List<|Str×NameKind) (acc:List<|Str×aj),(∀ y∈names,y.2=.free->∃ c,env.cells.lookup y.1=ae c) ->
 (forIn names acc λ(x:Str×NameKind) (r:List<|Str×aj)=>(match x with
  |(name,kind)=>if (kind==NameKind.free)=ah then (do let a <-cellOf env name;pure (ForInStep.yield ((name,a)::r))) else pure (ForInStep.yield r):Sem<|ForInStep<|List<|Str×aj))=(pure (eP env.cells names acc):Sem _)
 |[],acc,_=>rfl
 | (n,k)::r,acc,h=>by
   rw[xg];by_cases hk:k=.free
   .subst hk;let#[c,e]:=h (n,.free) bD zc;have e':=e;have e1:cellOf env n=pure c:=by unfold cellOf;rw[e']
    dsimp only;rw[if_pos ze,e1];have z:eP env.cells ((n,NameKind.free)::r) acc=eP env.cells r ((n,c)::acc):=by
     change eP env.cells r _=_;rw[if_pos ze,e']
    rw[z,<-(jM r _ λy hy=>h y<|bE _ hy)];rfl
   .dsimp only;have hb:(k==NameKind.free)=af:=by simpa using hk
    rw[if_neg (by rw[hb];decide)];have z:eP env.cells ((n,k)::r) acc=eP env.cells r acc:=by
     change eP env.cells r _=_;rw[if_neg (by rw[hb];decide)]
    rw[z,<-(jM r acc λy hy=>h y<|bE _ hy)];rfl
theorem AE {scope:bT}{env:Env}(h:∀ y∈scope.names,y.2=.free->∃ c,env.cells.lookup y.1=ae c):closureFor scope env=pure (eP env.cells scope.names []):=by
 have q:=jM scope.names [] h;unfold closureFor;first
  |show q
  |(dsimp only;rw[q];rfl)
  |(rfl)
theorem CU {cells:List (Str×aj)}:∀ (names:List<|Str×NameKind) (acc:List<|Str×aj),(∀ x c,acc.lookup x=ae c->cells.lookup x=ae c)->∀ x c,(eP cells names acc).lookup x=ae c->cells.lookup x=ae c
 |[],_,h=>h
 | (n,k)::r,acc,h=>by
   refine CU r _ ?_;intro x c e;by_cases hk:(k==NameKind.free)=ah
   .rw[if_pos hk]at e;cases q:cells.lookup n with
    |none=>rw[q]at e;show h x c e
    |some a=>
      rw[q]at e;have e':=e;rw[kM]at e';cases hx:x==n with
      |true=>rw[hx]at e';rw[eq_of_beq hx,q];show e'
      |false=>rw[hx]at e';show h x c e'
   .rw[if_neg hk]at e;show h x c e
theorem CV {cells:List (Str×aj)}:∀ (names:List<|Str×NameKind) (acc:List<|Str×aj) (x:Str),((∃ c,acc.lookup x=ae c) \/ ((x,NameKind.free)∈names /\ ∃ c,cells.lookup x=ae c))->∃ c,(eP cells names acc).lookup x=ae c
 |[],_,x,h=>h.elim id λz=>nomatch z.1
 | (n,k)::r,acc,x,h=>by
   refine CV r _ x ?_;rcases h with⟨c,e⟩|⟨hm,c,e⟩
   .left;by_cases hk:(k==NameKind.free)=ah
    .rw[if_pos hk];cases q:cells.lookup n with
     |none=>show#[c,e]
     |some a=>
       rw[kM];cases hx:x==n with
       |true=>show#[a,rfl]
       |false=>show#[c,e]
    .rw[if_neg hk];show#[c,e]
   .rcases bw.mp hm with z|z
    .have z1:=congrArg Prod.fst z;have z2:NameKind.free=k:=congrArg Prod.snd z;subst z1;subst z2;left;rw[if_pos ze,e];show#[c,by rw[kM,beq_self_eq_true]]
    .show .inr #[z,c,e]
theorem mf {env:Env}:∀ (names:List<|Str×NameKind) (x:Str) (k':NameKind),
 (names.map λ(n,k)=>if zt then (n,NameKind.cell) else (n,k)).lookup x=ae k' ->
 ∃ k,names.lookup x=ae k /\ (k'=k \/ (k=.free /\ k'=.cell))
 |[],_,_,h=>by simp at h
 | (n,k)::r,x,k',h=>by
   have h':List.lookup x ((if zt=ah then (n,NameKind.cell) else (n,k))::(r.map λ(n,k)=>if zt then (n,NameKind.cell) else (n,k)))=ae k':=h;by_cases hc:zt=ah
   .rw[if_pos hc,kM]at h';rw[kM];cases hx:x==n with
    |true=>
      rw[hx]at h';have hk:k=.free:=by
       cases hq:(k==NameKind.free) with
       |true=>show eq_of_beq hq
       |false=>rw[hq]at hc;simp at hc
      show#[k,rfl,.inr #[hk,(Option.some.inj h').symm]]
    |false=>rw[hx]at h';show mf r x k' h'
   .rw[if_neg hc,kM]at h';rw[kM];cases hx:x==n with
    |true=>rw[hx]at h';show#[k,rfl,.inl (Option.some.inj h').symm]
    |false=>rw[hx]at h';show mf r x k' h'
theorem jN {env:Env}:∀ (names:List<|Str×NameKind) (x:Str),names.lookup x=ae .free ->
 (names.map λ(n,k)=>if zt then (n,NameKind.cell) else (n,k)).lookup x=ae .cell \/
 (names.map λ(n,k)=>if zt then (n,NameKind.cell) else (n,k)).lookup x=ae .free
 |[],_,h=>by simp at h
 | (n,k)::r,x,h=>by
   change List.lookup x ((if zt=ah then (n,NameKind.cell) else (n,k))::_)=_ \/ List.lookup x ((if zt=ah then (n,NameKind.cell) else (n,k))::_)=_;rw[kM]at h;by_cases hc:zt=ah
   .rw[if_pos hc,kM];cases hx:x==n with
    |true=>show .inl zc
    |false=>rw[hx]at h;show jN r x h
   .rw[if_neg hc,kM];cases hx:x==n with
    |true=>rw[hx]at h;show .inr h
    |false=>rw[hx]at h;show jN r x h
theorem iB:∀ (names:List<|Str×NameKind) (n:Nat) (acc:List<|Str×aj),cellsFrom n names acc=cellsFrom n names []++acc
 |[],_,_=>rfl
 | (x,k)::r,n,acc=>by
   unfold cellsFrom;split
   .rw[iB r _ _,iB r _ [(x,n)],pO];rfl
   .show iB r n acc
theorem oA:∀ (names:List<|Str×NameKind) (n:Nat) {x:Str}{c:aj},(x,c)∈cellsFrom n names []->(x,NameKind.cell)∈names
 |[],_,_,_,h=>nomatch h
 | (y,k)::r,n,x,c,h=>by
   unfold cellsFrom at h;split at h
   .ext hk;rw[iB]at h;rcases List.mem_append.mp h with h|h
    .show bE _<|oA r _ h
    .cases kN.mp h;rw[<-eq_of_beq hk];show bD
   .show bE _<|oA r _ h
theorem AF {α:Type}:∀ {l:List (Str×α)}{x:Str}{a b:α},(l.map (·.1)).Nodup->(x,a)∈l->(x,b)∈l->a=b
 | (y,c)::l,x,a,b,h,ha,hb=>by
   rw[aL,se]at h;rcases bw.mp ha with e|ha<;>rcases bw.mp hb with e'|hb
   .rw[<-e']at e;show(Prod.mk.inj e).2
   .show absurd (bp.mpr #[_,hb,(Prod.mk.inj e).1]) h.1
   .show absurd (bp.mpr #[_,ha,(Prod.mk.inj e').1]) h.1
   .show AF h.2 ha hb
theorem jO {α:Type}{x:Str}:∀ {l m:List (Str×α)},(l++m).lookup x=match l.lookup x with|some a=>ae a|none=>m.lookup x
 |[],m=>rfl
 | (y,a)::l,m=>by
   rw[Hr,kM,kM];cases x==y with
   |true=>rfl
   |false=>show jO
theorem AG {s:au}{scope:bT}{globals:aj}{cl:List (Str×aj)}{qual:Str}{env:Env}{Q:Env->au->zk}
 (h:Q { scope:=scope,locals:=s.heap.objs.size,globals:=globals,cells:=cellsFrom zX scope.names cl,qual:=qual,func:=ag,code:=env.code,frame:=env.frame,builtins:=env.builtins }
  { s with heap:=pushCells (s.heap.push { cls:=.type "dict",data:=.dict #[] }) scope.names }) :
 wpAny M A (newFunctionEnv scope globals cl [] qual ag .none<|ae env) Q E s:=by
 refine ak<|aa2<|ak<|wpAny_layCells _ (λname kind cells=>by cases hk:kind==NameKind.cell<;>simp[hk]) _ _ _ _ ?_;rw[uc ..];show ak<|az<|az h
noncomputable abbrev Cx.comp (X:Cx) (N:List Str) (scope:bT) (cl:List<|Str×aj) (s:au) (H:Hp) (C:aj) (fp:List aj):Cx:=
 { X with N:=N,s₀:=s,H₀:=H,env:=compEnvC scope cl C X.env,outer:=X.stack,stack:=X.stack,ex:=fp,fn:=λx=>decide (scope.names.lookup x=ae .cell),pn:=[],xe:=λ_ _=>False }
structure sI (X:Cx) (N:List Str) (src:List<|Option Nat) (scope:bT):zk where
 kind:scope.kind=.function
 nk:(scope.names.map (·.1)).Nodup
 names:∀ y∈scope.names,y.2=.local->scope.names.lookup y.1=ae .local
 has:∀ y∈scope.names,y.2=.free->X.env.kindOf y.1=ae .cell \/ X.env.kindOf y.1=ae .free
 ahB:src.length=N.length
 ahC:∀ (j i:Nat) (x:Str),src[j]?=ae (ae i)->N[j]?=ae x->X.N[i]?=ae x /\ scope.names.lookup x=ae .free
noncomputable def uX (src:List<|Option Nat) (σ:St):St:=src.map λo=>o.bind λi=>(σ[i]?).bind id
def PF (X:Cx) (ifs:List aq) (t:TT):zk:=
 ∀ (pins:List<|aj×aZ) (s:au) (σ:St) (H:Hp) (Q:Bool->Hp->zk),Inv X pins σ H s->t σ H Q ->
  wpAny zf X.A (forIn ifs ah λc r=>if r=ah then do let ok <-isTrue c X.env (eval c X.env);pure (ForInStep.yield ok) else pure (ForInStep.yield r)) (TP X pins σ Q) X.xe s
theorem T3:PF X [] (λ_ H Q=>Q ah H):=λ_ _ _ H _ I h=>wpAny_tests_nil #[H,I,h]
theorem T4 {c:aq}{t:TT}(h:PT X c t):PF X [c] t:=λpins s σ H Q I hw=>wpAny_tests_one<|h pins s σ H Q I hw
def adF (J:It) (g:TG) (tf:TT) (te:TE) (D:aj) (Q:VK) (σ0:St) (H0:Hp):zk:=
 ∃ W:Nat->Nat->St->Hp->zk,(∃ m,W 0 m σ0 H0) /\ ∀ i m σ' H',W i m σ' H' ->
  (J.stop i H' /\ Q (.ref D) H') \/ (J.go i H' /\ ∃ N:St->Hp->zk,(∀ σ2 H2,N σ2 H2->∃ m',m'<m /\ W (i+1) m' σ2 H2) /\ ∀ x H2,J.yQ i H' x H2->g x σ' H2 λσ2 H3=>tf σ2 H3 λb H4=>
   if b=ah then te σ2 H4 λy H5=>∃ ys,H5 D=ae (.lst ys) /\ ys.length<sizeLine /\ N σ2 (upd H5 D<|.lst<|ys++[y]) else N σ2 H4)
def Iz (src:List<|Option Nat) (wi:TI) (g:TG) (tf:TT) (te:TE):TE:=λσ H Q=>wi σ H λJ H1=>∀ D,H1 D=ag->adF J g tf te D Q (uX src σ) (upd H1 D<|.lst [])
section
variable {s:au}
noncomputable abbrev xM (P:dD) (w:cw) (A:eN) (env:Env) (R:Result->au->zk):ai->au->zk:=
 notedBy (model P w) A env λx z=>R (.error x) z
noncomputable abbrev ahD (ifs:List aq) (env:Env):Sem Bool:=
 forIn ifs ah λc r=>if r=ah then do let ok <-isTrue c env (eval c env);pure (ForInStep.yield ok) else pure (ForInStep.yield r)
theorem mR {elt:aq}{scope:bT}{pos:aC}{it acc:ai}{env:Env}
 (J:Nat->au->zk) (N:ai->Nat->au->zk)
 (hN:∀ v n z,N v n z->wpAny zh A (letOwnedTupleGo tg it v) (λ_ z1=>
  wpAny zh A (assign tg env v) (λ_ z2=>
  wpAny zh A (ahD ifs env) (λb z3=>
   if b=ah then wpAny zh A (eval elt env) (λy z4=>
    wpAny zh A (call (.builtin "list.append") [acc,y])
     (λ_ z5=>∃ k,k<n /\ J k z5) (xM prog w A env R) z4) (xM prog w A env R) z3
   else ∃ k,k<n /\ J k z3)
   (xM prog w A env R) z2) (xM prog w A env R) z1) (xM prog w A env R) z)
 (go:∀ n z,J n z->wpAny zh A (pyNext it)
  (λr z1=>match r with|none=>R (.ok .next) z1|some v=>N v n z1) (xM prog w A env R) z)
 (n:Nat) (h:J n s) :
 codeAny zh A (.compLoop zy 0 it acc env) R s:=by
 refine codeAny_loop zc J (λk z hz=>?_) n h;refine wpAny_noted ?_;rw[compTurn_list];refine ak<|yu<|ak ?_;refine k9 (go k z hz) (λr z1 h1=>?_) λ_ _ q=>q;cases r with
 |none=>show az h1
 |some v=>
   refine ak<|k9 (hN v k z1 h1) (λ_ z2 h2=>ak ?_) λ_ _ q=>q;refine k9 h2 (λ_ z3 h3=>ak ?_) λ_ _ q=>q;refine k9 h3 (λb z4 h4=>?_) λ_ _ q=>q;cases b with
   |false=>show az #[rfl,h4]
   |true=>
     show ak<|ak<|k9 h4 (λy z5 h5=>ak<|k9 h5 (λ_ z6 h6=>az<|az #[rfl,h6]) λ_ _ q=>q) λ_ _ q=>q
end
theorem sI.cells {N:List Str}{src:List (Option Nat)}{scope:bT}(S:sI X N src scope) (ok:X.Ok):∀ y∈scope.names,y.2=.free->∃ c,X.env.cells.lookup y.1=ae c:=
 λy hy hf=>ok.has y.1<|S.has y hy hf
theorem CW {cells:List (Str×aj)}{x:Str}{c:aj}:∀ (names:List<|Str×NameKind) (acc:List<|Str×aj),(x,c)∉acc->(x,c)∈eP cells names acc->(x,NameKind.free)∈names
 |[],_,h,e=>absurd e h
 | (n,k)::r,acc,h,e=>by
   by_cases hx:x=n /\ k=.free
   .let#[rfl,rfl]:=hx;show bD
   .refine bE _<|CW r _ ?_ e;by_cases hk:(k==NameKind.free)=ah
    .rw[if_pos hk];cases q:cells.lookup n with
     |none=>show h
     |some a=>
       intro z;rcases bw.mp z with z|z
       .show hx #[(Prod.mk.inj z).1,eq_of_beq hk]
       .show h z
    .rw[if_neg hk];show h
theorem CY {src:List (Option Nat)}{scope:bT}{s s':au} 
 (S:sI X N src scope) (I:Inv X pins σ H s) (Y6:∀ b∈fp,n6 X pins H b /\ b<s.heap.objs.size) (hh:s'={ s with heap:=pushCells (s.heap.push { cls:=.type "dict",data:=.dict #[] }) scope.names }) :
 Inv (X.comp N scope (cellsFrom zX scope.names<|eP X.env.cells scope.names []) s H s.heap.objs.size fp) [] (uX src σ) H s':=by
 subst hh;have hk:∀ b o,s.heap.get? b=ae o->(pushCells (s.heap.push { cls:=.type "dict",data:=.dict #[] }) scope.names).get? b=ae o:=λb o e=>Hc _ _ b o<|aN _ e;have ok:=cellsFrom_ok scope.names (s.heap.push { cls:=.type "dict",data:=.dict #[] }) _ [] #[λ_ _ hm=>(nomatch hm),List.Pairwise.nil] (by rw[uc];show aE _);rw[uc]at ok;have split:∀ x c,(cellsFrom _ scope.names<|eP X.env.cells scope.names []).lookup x=ae c->(cellsFrom _ scope.names []).lookup x=ae c \/ (eP X.env.cells scope.names []).lookup x=ae c:=λx c e=>by
  rw[iB,jO]at e;cases q:(cellsFrom zX scope.names []).lookup x with
  |some a=>rw[q]at e;show .inl e
  |none=>rw[q]at e;show .inr e
 have own:∀ x c,(cellsFrom _ scope.names []).lookup x=ae c->s.heap.objs.size<c /\ (pushCells _ scope.names).IsCell c ag:=λx c e=>by
  let#[a,b]:=ok.empty x c<|nV e;show#[b,a]
 have adG:∀ x,scope.names.lookup x=ae .free->(cellsFrom _ scope.names<|eP X.env.cells scope.names []).lookup x=(eP X.env.cells scope.names []).lookup x:=λx e=>by
  rw[iB,jO];cases q:(cellsFrom zX scope.names []).lookup x with
  |some a=>show absurd (AF S.nk (nV e)<|oA _ _<|nV q) ze
  |none=>rfl
 have low:∀ x c,X.env.cells.lookup x=ae c->c<s.heap.objs.size:=λx c e=>by
  let#[v,o,ho,_]:=I.cell x c e;show a9 ho
 have sub:=CU (cells:=X.env.cells) scope.names [] (λx c e=>by simp at e);have ahE:∀ x,((relabel scope X.env).names.lookup x=ae .cell \/ (relabel scope X.env).names.lookup x=ae .free)->scope.names.lookup x=ae .free \/ scope.names.lookup x=ae .cell:=λx hx=>by
  have go:∀ k',(k'=NameKind.cell \/ k'=NameKind.free)->(relabel scope X.env).names.lookup x=ae k'->scope.names.lookup x=ae .free \/ scope.names.lookup x=ae .cell:=λk' uk e=>by
   let#[k,e1,q]:=mf scope.names x k' e;rcases q with q|⟨q,_⟩
   .subst q;rcases uk with z|z
    .subst z;show .inr e1
    .subst z;show .inl e1
   .subst q;show .inl e1
  show hx.elim (go _<|.inl zc)<|go _<|.inr zc
 have adH:∀ x,scope.names.lookup x=ae .free->∃ c,(eP X.env.cells scope.names []).lookup x=ae c /\ X.env.cells.lookup x=ae c:=λx e=>by
  have hm:=nV e;let#[c,e1]:=CV scope.names [] x<|.inr #[hm,S.cells I.ok (x,.free) hm zc];show#[c,e1,sub x c e1]
 refine#[#[I.ok.mod,(S.kind),I.ok.glob,I.ok.blt,aE _,λx y c e1 e2=>?_,λx hx=>?_,λx c e=>?_,I.ok.hd,I.ok.frames,.inl zc,λb hb=>?_,I.bs,cB I.ok.vJ I.sz,λb o e hb=>?_,λb hb=>?_,I.stack,I.acR],
  rfl,I.bare,Un.kept hk,#[_,((Heap.Ns.new s.heap<|.type "dict").keeps<|Hc _ _),λj x v e1 e2 e3=>?_],λx c e=>?_,I.aD.fresh<|aE _,λx c e=>?_,λp hp=>absurd (hp) zj,I.aD.kept hk,?_]
 .rcases split x c e1 with q1|q1<;>rcases split y c e2 with q2|q2
  .show aaW ok.apart (nV q1)<|nV q2
  .show absurd (vB (own x c q1).1<|low y c<|sub y c q2)<|hV _
  .show absurd (vB (own y c q2).1<|low x c<|sub x c q1)<|hV _
  .show I.ok.inj x y c (sub x c q1)<|sub y c q2
 .rcases ahE x hx with k|k
  .let#[c,e1,_]:=adH x k;show#[c,(adG x k).trans e1]
  .let#[c,e1]:=Az k;refine#[c,?_];change (cellsFrom zX scope.names<|eP X.env.cells scope.names []).lookup x=ae c;rw[iB,jO,e1]
 .intro hl;rcases split x c hl with q|q
  .show nh (own x c q).1
  .show absurd (AF S.nk (nV<|of_decide_eq_true e)<|CW _ _ zj<|nV q) ze
 .let#[f,hl]:=Y6 b hb;refine#[bI hl,λx c e=>?_];rcases split x c e with q|q
  .show uP<|vB hl (own x c q).1
  .show f.2.2.2.2.1 x c<|sub x c q
 .let#[f,_]:=Y6 b hb;let#[_,_,_,f4,_]:=f;rcases f4 with z|z
  .show I.ok.yO b o e z
  .show absurd (kB (a9 (I.ok.bs b o e).1) z)<|hV _
 .let#[f,_]:=Y6 b hb;intro hz;rcases bw.mp (I.XS b hz) with e|e
  .show f.2.1 e
  .show f.2.2.1 e
 .have hs:∃ i,src[j]?=ae (ae i) /\ σ[i]?=ae (ae v):=by
   have uo:(src.map λo=>o.bind λi=>(σ[i]?).bind id)[j]?=ae (ae v):=e2;rw[kL]at uo;cases q:src[j]? with
   |none=>rw[q]at uo;cases uo
   |some o=>
     rw[q]at uo;cases o with
     |none=>cases uo
     |some i=>
       refine#[i,rfl,?_];have IC:(σ[i]?).bind id=ae v:=Option.some.inj uo;cases z:σ[i]? with
       |none=>rw[z]at IC;cases IC
       |some o'=>
         rw[z]at IC;have:o'=ae v:=IC;rw[this]
  let#[i,ahF,hσ]:=hs;let#[hN,ID]:=S.ahC j i x ahF e1;have adI:=S.has (x,.free) (nV ID) zc;let#[m,_,hl]:=I.loc;let#[u,r,lk]:=hl i x v hN hσ<|.inr adI;refine#[u,r,?_];rcases lk with⟨k,_⟩|⟨_,c,ec,xD⟩
  .rcases adI with z|z
   .rw[z]at k;cases k
   .rw[z]at k;cases k
  .let#[c',vZ,uo]:=adH x ID;have:c'=c:=by rw[ec]at uo;show(Option.some.inj uo).symm
   subst this;refine .inr #[(jN scope.names x ID),c',(adG x ID).trans vZ,?_]
   .let#[o,ho,hd]:=xD;show#[o,hk _ _ ho,hd]
 .rcases split x c e with q|q
  .show#[ag,(own x c q).2]
  .let#[v,o,ho,hd]:=I.cell x c<|sub x c q;show#[v,o,hk _ _ ho,hd]
 .rcases split x c e with q|q
  .show I.aD.fresh<|nh (own x c q).1
  .show I.qt x c<|sub x c q
 .change (uX src σ).length=N.length;unfold uX;rw[aR];show S.ahB
theorem OG {src:List (Option Nat)}{elt:aq}{scope:bT}{pos:aC}{wi:TI}{g:TG}{tf:TT}{te:TE}
 (hc:X.calm=ah) (S:sI X N src scope) (hi:PI X tg iter wi)
 (hg:∀ cl s H C fp,PG zN tg g) (hf:∀ cl s H C fp,PF zN ifs tf) (he:∀ cl s H C fp,PE zN elt te)
 (hs:∀ x,foldedSetIterable iter X.env x=pure x:=by intro _;rfl):PE X zy (Iz src wi g tf te):=by
 intro pins s σ H Q I h;rw[eval_ListComp];refine aa3 zc hs (AE<|S.cells I.ok) S.kind S.names<|cg (hi pins s σ H _ I h) λxv s1 h1=>cg h1 λIe s2 h2=>?_;let#[it,fp,tn,J,H2,e,I2,T,vN,f2,hW]:=h2;subst e;refine eV ?_;generalize hD:s2.heap.objs.size=D;have I3:Inv X pins σ (upd H2 D<|.lst []) { s2 with heap:=s2.heap.push { cls:=.type "list",dict:=ag,data:=.seq ([]).toArray } }:=by
  subst hD;show I2.laid (λb u e=>aN _ e) (aE _) #[eC _,[],0,.nil,bB _ zc]
 let#[W,#[m0,w0],turn]:=hW D<|I2.aD.fresh<|xa hD;have up:∀ b o,s2.heap.get? b=ae o->(s2.heap.push { cls:=.type "list",dict:=ag,data:=.seq ([]).toArray }).get? b=ae o:=λb u e=>aN _ e;have uV:=T.keep _ _ _ vN λb _ o e=>up b o e;have yZ:∀ b∈fp,b<s2.heap.objs.size:=λb hb=>by let#[o,e,_]:=(T.obj _ _ vN) b hb;show a9 e
 have f3:∀ b∈fp,n6 X pins (upd H2 D<|.lst []) b:=λb hb=>#[by rw[fC (by rw[<-hD];show bI (yZ b hb))];show(f2 b hb).1,(f2 b hb).2];generalize Y7:({ s2 with heap:=s2.heap.push { cls:=.type "list",dict:=ag,data:=.seq ([]).toArray } })=s3 at I3 ⊢;have Ea:s3.heap=s2.heap.push { cls:=.type "list",dict:=ag,data:=.seq ([]).toArray }:=by rw[<-Y7]
 rw[<-Ea]at uV;have Y8:∀ b∈fp,b<s3.heap.objs.size:=λb hb=>by rw[Ea,uc];show pM<|yZ b hb
 generalize ahG:upd H2 D (.lst [])=H3 at I3 f3 w0;refine AG ?_;generalize Eb:pushCells (s3.heap.push { cls:=.type "dict",data:=.dict #[] }) scope.names=h₁;have k1:∀ b o,s3.heap.get? b=ae o->h₁.get? b=ae o:=λb o e=>by rw[<-Eb];show Hc _ _ b o<|aN _ e
 have IY:=CY S I3 (λb hb=>#[f3 b hb,Y8 b hb]) (by rw[Eb]);have Ec:=T.keep _ _ _ uV λb _ o e=>k1 b o e;generalize xO:cellsFrom (s3.heap.objs.size+1) scope.names (eP X.env.cells scope.names [])=cl at IY ⊢;generalize hC:s3.heap.objs.size=C at IY ⊢;have v3:∀ {H'},(∀ b∈fp,H' b=ag)->∀ b∈fp,n6 zV [] H' b:=λhn b hb=>by
  refine#[hn b hb,((IY.ok.xy b hb).1),(IY.ok.xA b hb),.inl hb,?_,λp hp=>absurd (hp) zj]
  .intro x c e z;show(IY.ok.xy b hb).2 x c e z
 have fin:∀ (σ') (H') (s'),Inv zV [] σ' H' s'->∀ h',Heap.SameBut C s'.heap h'->Inv X pins σ H' { s' with heap:=h' }:=λσ' H' s' I' h' v8=>by
  have Ed:H' C=ag:=I'.free;have kp:∀ b o,b≠C->s'.heap.get? b=ae o->h'.get? b=ae o:=λb o hb e=>v8.extBut b o hb e;have Y9:s3.heap.get? C=ag:=by rw[<-hC];show Xm<|aE _
  have qu:∀ b o,s3.heap.get? b=ae o->b≠C:=λb o e z=>by rw[z,Y9]at e;cases e
  have U:=I'.base;refine I3.ac0 I'.os #[λb o e n hb hx=>kp b o (qu b o e)<|U.keep b o e n hb hx,λb o e n hb hx=>?_,U.free,λb o e hx=>?_,U.nZ,U.pV,U.qW] ?_ I'.bare λb hb=>(#[(f3 b hb).2.2.2.1,(f3 b hb).2.1,λx c e=>(f3 b hb).2.2.2.2.1 x c e,(f3 b hb).2.2.2.2.2])
  .let#[sl,e1]:=U.slot b o e n hb hx;show#[sl,kp b _ (qu b o e) e1]
  .let#[o',e1]:=U.there b o e hx;show#[o',kp b o' (qu b o e) e1]
  .intro b ob e;refine(I'.aD b ob e).stay (λc w' dM q=>kp c w' (λz=>?_) q) (λ_ q=>q) λ_ _ q=>q;rcases dM with z1|z1
   .rw[<-z1,z,Ed]at e;cases e
   .rw[z,Ed]at z1;cases z1
 have loop:∀ s4:au,s4={ s3 with heap:=h₁ } ->
  codeAny zf X.A (.compLoop zy 0 (.ref it) (.ref D)<|compEnvC scope cl C X.env) (compPost zf X.A X.xe ag (EP X pins σ Q) (.ref D) C) s4:=by
  rintro s4 rfl;refine mR (λn s'=>∃ i σ' H',Inv zV [] σ' H' s' /\ tn i s'.heap /\ (∀ b∈fp,H' b=ag) /\ W i n σ' H') _ (λ_ _ _ q=>q) ?_ m0 #[0,_,H3,IY,Ec,λb hb=>(f3 b hb).1,w0];rintro n s5 ⟨i,σ5,H5,I5,ui,vO,w5⟩;have nI:∀ {α:Type}{t:Sem α}{Q1:α->au->zk}{E1:ai->au->zk}{ss:au},wpAny zf X.A t Q1 (λ_ _=>False) ss->wpAny zf X.A t Q1 E1 ss:=λhw=>k9 hw (λ_ _ q=>q) λ_ _ z=>False.elim z;rcases turn i n σ5 H5 w5 with⟨stop,q5⟩|⟨go,NN,hN,step⟩
  .refine nI<|cg (T.done (X.comp N scope cl s3 H3 C fp) zc zc zc hc i [] s5 σ5 H5 (λ_ _=>False) I5 (v3 vO) ui stop) ?_;rintro r s6 ⟨hr,I6⟩;subst hr;let#[m6,Za,_]:=I6.loc;show#[m6,Za,λh' v8=>#[.ref D,H5,fin σ5 H5 s6 I6 h' v8,rfl,q5]]
  .refine nI<|cg (T.item zV zc zc zc hc i [] s5 σ5 H5 (λ_ _=>False) I5 (v3 vO) ui go) ?_;rintro r s6 ⟨u,hr,h6⟩;subst hr;refine nI<|cg h6 ?_;rintro _ s7 ⟨x,H7,I7,r7,y7,wa,Zb⟩;refine nI<|cg (hg cl s3 H3 C fp _ s7 σ5 H7 x u _ (I7.pinned (v3 Zb)<|T.obj _ _ wa) r7<|step x H7 y7) ?_;rintro _ s8 ⟨σ8,H8,I8,q8⟩;refine nI<|tT (hf cl s3 H3 C fp _ s8 σ8 H8 _ I8 q8) λb s9 H9 I9 q9=>?_;have again:∀ {σ9:St}{HA:Hp}{sA:au},Inv zV ([]++yR fp s7.heap) σ9 HA sA->NN σ9 HA->∃ m,m<n /\ ∃ i σ' H',Inv zV [] σ' H' sA /\ tn i sA.heap /\ (∀ b∈fp,H' b=ag) /\ W i m σ' H':=λ{σ9 HA sA} IA nA=>by
    let#[m',hm,wA]:=hN σ9 HA nA;refine#[m',hm,i+1,σ9,HA,IA.yS,T.keep _ _ _ wa λb hb o e=>(IA.pin (b,o)<|hZ _<|hZ _<|iA hb e).1,λb hb=>?_,wA];let#[o,e,d]:=T.obj _ _ wa b hb;show(IA.pin (b,o)<|hZ _<|hZ _<|iA hb e).2.1
   cases b with
   |false=>
     rw[if_neg ze]at q9;rw[if_neg ze];show again I9 q9
   |true=>
     rw[if_pos rfl]at q9;rw[if_pos rfl];refine nI<|tE (he cl s3 H3 C fp _ s9 σ8 H9 _ I9 q9) λyv sA y HA IA rA hh=>?_;let#[ys,Zc,Zd,nA]:=hh;refine nI<|cg (oz _ sA σ8 HA (.ref D) [y] (.ref D) [yv] (λ_ HB=>NN σ8 HB) IA zc (.cons rA .nil) #[D,ys,y,rfl,rfl,Zc,Zd,nA]) λr sB hB=>?_;let#[_,HB,IB,_,nB]:=hB;show again IB nB
 show aa4 (loop _ zc)<|T.self _ 0 _ _ _ Ec<|loop _ zc
open PySem.W PySem.Builtin PySem.Builtin.ObjectAttr PySem.Builtin.Getset_descriptor
section
variable {x C:aj}
def adJ (x C:aj) (h:aI):zk:=∃ ox,h.get? x=ae ox /\ ox.cls=.ref C
theorem adJ.type (I:adJ x C h):Looks M h (typeOf<|.ref x) (.ref C):=by
 let#[ox,e,hc]:=I;show hc▸(Looks.ld e).andThen .now
structure alB (K:Frag) (C:aj):zk where
 ga:findIn K (.ref C) "__getattribute__"=ae (ae<|.builtin "BaseException.__getattribute__")
 gt:findIn K (.ref C) "__getattr__"=ae ag
 cl:findIn K (.ref C) "__class__"=ae (ae<|.builtin "object.__class__")
 gs:specialIn K (.builtin "object.__class__") "__get__"=ae (ae<|.builtin "getset_descriptor.__get__")
 tk:takesIn K (.builtin "object.__class__")=ae ah
 mo:mroIn K C (.type "object")=ae ah
 mb:mroIn K C (.type "BaseException")=ae ah
 cd:(clsIn K C).isSome=ah
end
def ahH (B:aI) (l:List Env) (ea:aj) (cls a0:ai) (h:aI):zk:=
 Heap.FlyingW B l ea cls a0 h \/ (B.StaysIn h /\ B.get? ea=ag /\ h.FunFrames B l /\
  h.get? ea=ae { cls:=cls,data:=.fields (List.toArray [a0,.none,.none,.none,.bool af,.none]) })
section
variable {s:au} {B:aI} {env:Env} {outer:List Env} {L ea:aj} {cls a0:ai} {Q:Unit -> au -> zk}
end
def qy (P:dD) (w:cw):qw:=λouter H s E e s'=>∃ (ea C:aj) (a0:ai) (B:aI) (H':Hp),
 e=.ref ea /\ s'.os=s.os /\ AllBare s'.gens /\ Un (pW outer) [] H H' s.heap s'.heap /\ cM P w H' s'.heap /\ ahH B outer ea (.ref C) a0 s'.heap /\
 (∀ b u o,H' b=ae u->s'.heap.get? b=ae o->B.get? b=ae o) /\ (∀ b o,s.heap.get? b=ae o->b∉pW outer->∃ o',B.get? b=ae o') /\ E (.ref C) ag H'
section
variable {k:Nat} {f C:aj} {ps:List Str} {sp:Sp} {vQ:List V} {ds:List ai} {E:XK} {m:Str} {p pos:aC} {o:aq} {ta:TE} {t:TA}
inductive adK (K:Frag) (H:Hp):V->ai->zk where
 |of {x:V}{t:ai}(h:n9 K H x t):adK K H x t
noncomputable def ahI:V->ai->zk
 |.ref a,c=>c=.ref a
 |.ty n,c=>c=.type n
 |_,_=>False
def ahJ (K:Frag):List V->Hp->VK->zk:=λvs H Q=>∃ x c t cv b,vs=[x,c] /\ adK K H x t /\ ahI c cv /\ kitOne K t cv=ae b /\ Q (.bl b) H
theorem Jq:eE X (.builtin "isinstance") (ahJ X.K):=by
 intro pins s σ H xs us Q I rv h;let#[x,c,t,cv,b,rfl,ty,hc,e,q]:=h;cases rv with
 |cons r1 r2=>
   cases r2 with
   |cons r3 r4=>
     cases r4;ext u1 u2;have ec:u2=cv:=by
      cases c with
      |ref a=>show(r3).trans (hc).symm
      |ty n=>show(r3).trans (hc).symm
      |_=>show hc.elim
     subst ec;cases ty with
     |of ty=>show Jj I r1 ty e λtk=>#[.bl b,H,I.tok tk,rfl,q]
end
end L2
namespace L2.DL
inductive D where
 |non|bl (b:Bool)|int (i:Int)|str (x:Str)|tup (l:List D)|lst (l:List D)|aB (l:List<|Key×D)
inductive W where
 |d (x:D)|b (n:Nat)|s (l:List Int)|x (i:Nat)|t (l:List Nat)|m (l:List<|Str×Nat)
inductive Bx where
 |lst (l:List D)|aB (l:List<|Key×D)|dead|dT (l:List<|List Key×D)|fD (l:List<|Key×D)
mutual
noncomputable def Den (F:Hp):D->V->zk
 |.non,v=>v=.non
 |.bl b,v=>v=.bl b
 |.int i,v=>v=.int i
 |.str x,v=>v=.str x
 |.tup l,v=>∃ a vs,v=.ref a /\ F a=ae (.tup vs) /\ aG F l vs
 |.lst l,v=>∃ a vs,v=.ref a /\ F a=ae (.lst vs) /\ aG F l vs
 |.aB l,v=>∃ a ao,v=.ref a /\ F a=ae zam /\ aK F l ao
noncomputable def aG (F:Hp):List D->List V->zk
 |[],vs=>vs=[]
 |d::l,vs=>∃ v r,vs=v::r /\ Den F d v /\ aG F l r
noncomputable def aK (F:Hp):List (Key×D)->List (Key×V)->zk
 |[],r=>r=[]
 |(k,d)::l,r=>∃ v r',r=(k,v)::r' /\ Den F d v /\ aK F l r'
end
def Sub (F F':Hp):zk:=∀ a u,F a=ae u->F' a=ae u
theorem Sub.refl (F:Hp):Sub F F:=λ_ _ h=>h
theorem Sub.trans {G:Hp}(a:Sub F G) (b:Sub G H):Sub F H:=λx u h=>b x u<|a x u h
def xQ (F F':Hp):zk:=∀ a u,(∀ o v,u≠.bM o v)->F a=ae u->F' a=ae u
theorem Sub.d (s:Sub F F'):xQ F F':=λa u _ h=>s a u h
mutual
theorem Den.eF {F F':Hp}(s:xQ F F'):∀ (d:D) {v:V},Den F d v->Den F' d v
 |.non,_,h=>h
 |.bl _,_,h=>h
 |.int _,_,h=>h
 |.str _,_,h=>h
 | .tup l,_,h=>by
   let#[a,vs,e,h1,h2]:=h;show#[a,vs,e,s _ _ (λ_ _ z=>nomatch z) h1,aG.eF s l h2]
 | .lst l,_,h=>by
   let#[a,vs,e,h1,h2]:=h;show#[a,vs,e,s _ _ (λ_ _ z=>nomatch z) h1,aG.eF s l h2]
 | .aB l,_,h=>by
   let#[a,vs,e,h1,h2]:=h;show#[a,vs,e,s _ _ (λ_ _ z=>nomatch z) h1,aK.eF s l h2]
theorem aG.eF {F F':Hp}(s:xQ F F'):∀ (l:List D) {vs:List V},aG F l vs->aG F' l vs
 |[],_,h=>h
 | d::l,_,h=>by
   let#[v,r,e,h1,h2]:=h;show#[v,r,e,Den.eF s d h1,aG.eF s l h2]
theorem aK.eF {F F':Hp}(s:xQ F F'):∀ (l:List<|Key×D) {vs:List (Key×V)},aK F l vs->aK F' l vs
 |[],_,h=>h
 | (k,d)::l,_,h=>by
   let#[v,r,e,h1,h2]:=h;show#[v,r,e,Den.eF s d h1,aK.eF s l h2]
end
theorem Den.mono (s:Sub F F') (d:D) (h:Den F d v):Den F' d v:=Den.eF s.d d h
theorem aG.mono (s:Sub F F') (l:List D) {vs:List V}(h:aG F l vs):aG F' l vs:=aG.eF s.d l h
theorem aK.mono (s:Sub F F') (l:List<|Key×D) {vs:List (Key×V)}(h:aK F l vs):aK F' l vs:=aK.eF s.d l h
theorem aG.length {F:Hp}:∀ {l:List D}{vs:List V},aG F l vs->l.length=vs.length
 | [],_,h=>by
   rw[h];rfl
 | d::l,_,h=>by
   let#[v,r,e,_,h2]:=h;rw[e,bz,bz,h2.length]
theorem aG.get {F:Hp}:∀ {l:List D}{vs:List V}{i:Nat}{d:D},aG F l vs->l[i]?=ae d->∃ v,vs[i]?=ae v /\ Den F d v
 |[],_,_,_,_,e=>by simp at e
 | x::l,_,0,d,h,e=>by
   let#[v,r,q,h1,_]:=h;simp at e;subst e;subst q;show#[v,rfl,h1]
 | x::l,_,i+1,d,h,e=>by
   let#[v,r,q,_,h2]:=h;subst q;let#[u,e1,e2]:=aG.get h2 (by simpa using e);show#[u,by simpa using e1,e2]
theorem aG.nil:aG F [] []:=rfl
theorem aG.cons {F:Hp}{d:D}{v:V}{l:List D}{vs:List V}(h:Den F d v) (t:aG F l vs):aG F (d::l) (v::vs):=#[v,vs,rfl,h,t]
theorem aG.append {F:Hp}:∀ {l l':List D}{vs Ee:List V},aG F l vs->aG F l' Ee->aG F (l++l') (vs++Ee)
 | [],_,_,_,h,t=>by
   rw[h];show t
 | d::l,_,_,_,h,t=>by
   let#[v,r,q,h1,h2]:=h;subst q;show .cons h1<|h2.append t
theorem aG.take {F:Hp}:∀ {l:List D}{vs:List V}(n:Nat),aG F l vs->aG F (l.take n) (vs.take n)
 |l,_,0,_=>by rfl
 | [],_,n+1,h=>by
   rw[h];show rfl
 | d::l,_,n+1,h=>by
   let#[v,r,q,h1,h2]:=h;subst q;show .cons h1<|h2.take n
theorem aG.drop {F:Hp}:∀ {l:List D}{vs:List V}(n:Nat),aG F l vs->aG F (l.drop n) (vs.drop n)
 |l,_,0,h=>h
 | [],_,n+1,h=>by
   rw[h];show rfl
 | d::l,_,n+1,h=>by
   let#[v,r,q,h1,h2]:=h;subst q;show h2.drop n
theorem aG.reverse {F:Hp}:∀ {l:List D}{vs:List V},aG F l vs->aG F l.reverse vs.reverse
 | [],_,h=>by
   rw[h];show rfl
 | d::l,_,h=>by
   let#[v,r,q,h1,h2]:=h;subst q;rw[Hq,Hq];show h2.reverse.append<|.cons h1 .nil
theorem aG.set {F:Hp}{d:D}{v:V}(hd:Den F d v):∀ {l:List D}{vs:List V}(i:Nat),aG F l vs->aG F (l.set i d) (vs.set i v)
 | [],_,_,h=>by
   rw[h];show rfl
 | _::l,_,0,h=>by
   let#[v',r,q,h1,h2]:=h;subst q;show .cons hd h2
 | _::l,_,i+1,h=>by
   let#[v',r,q,h1,h2]:=h;subst q;show .cons h1<|aG.set hd i h2
theorem aG.eraseIdx {F:Hp}:∀ {l:List D}{vs:List V}(i:Nat),aG F l vs->aG F (l.eraseIdx i) (vs.eraseIdx i)
 | [],_,_,h=>by
   rw[h];show rfl
 | _::l,_,0,h=>by
   let#[v',r,q,h1,h2]:=h;subst q;show h2
 | _::l,_,i+1,h=>by
   let#[v',r,q,h1,h2]:=h;subst q;show .cons h1<|h2.eraseIdx i
structure Fr where
 H₀:Hp
 n₀:Nat
 F₀:Hp
noncomputable def uY (r:List aj):List Nat->List aj->zk
 |[],as=>as=[]
 |n::l,as=>∃ a t,as=a::t /\ r[n]?=ae a /\ uY r l t
theorem uY.mono {r r':List aj}(p:r <+: r'):∀ {l:List Nat}{as:List aj},uY r l as->uY r' l as
 |[],_,h=>h
 | n::l,_,h=>by
   let#[a,t,e,h1,h2]:=h;refine#[a,t,e,?_,h2.mono p];let#[u,rfl]:=p;rw[eK (List.getElem?_eq_some_iff.mp h1).1];show h1
def bP (F:Hp):List (List Key×D)->List (List Key×V)->zk
 |[],r=>r=[]
 |(k,d)::l,r=>∃ v r',r=(k,v)::r' /\ Den F d v /\ bP F l r'
theorem bP.eF {F F':Hp}(s:xQ F F'):∀ (l:List<|List Key×D) {vs:List (List Key×V)},bP F l vs->bP F' l vs
 |[],_,h=>h
 | (k,d)::l,_,h=>by
   let#[v,r,e,h1,h2]:=h;show#[v,r,e,Den.eF s d h1,bP.eF s l h2]
theorem bP.mono (s:Sub F F') (l:List<|List Key×D) {vs:List (List Key×V)}(h:bP F l vs):bP F' l vs:=bP.eF s.d l h
def bW (F:Hp) (Ze:List aj):W->V->zk
 |.d x,v=>Den F x v
 |.b n,v=>∃ a,v=.ref a /\ Ze[n]?=ae a
 |.s l,v=>∃ a o,v=.ref a /\ F a=ae (.bM o<|.lst<|l.map V.int)
 |.x _,_=>False
 |.t l,v=>∃ c as,v=.ref c /\ F c=ae (.tup<|as.map V.ref) /\ uY Ze l as
 |.m l,v=>∃ c as,v=.ref c /\ F c=ae (.dK<|List.zipWith (λk a=>(.inr k.1,V.ref a)) l as) /\ uY Ze (l.map (·.2)) as
theorem bW.mono {F F':Hp}{r r':List aj}(s:Sub F F') (p:r <+: r'):∀ (w:W) {v:V},bW F r w v->bW F' r' w v
 |.d x,_,h=>Den.mono s x h
 | .b n,_,h=>by
   let#[a,e,h]:=h;refine#[a,e,?_];let#[t,rfl]:=p;rw[eK (List.getElem?_eq_some_iff.mp h).1];show h
 |.s l,_,h=>let ⟨a,o,e,h⟩:=h;#[a,o,e,s _ _ h]
 |.x _,_,h=>h
 |.t l,_,h=>let ⟨c,as,e,h1,h2⟩:=h;#[c,as,e,s _ _ h1,h2.mono p]
 |.m l,_,h=>let ⟨c,as,e,h1,h2⟩:=h;#[c,as,e,s _ _ h1,h2.mono p]
def sJ (F H:Hp) (a:aj):Bx->zk
 |.lst l=>F a=ag /\ ∃ vs,H a=ae (.lst vs) /\ aG F l vs
 |.aB l=>F a=ag /\ ∃ ao,H a=ae zam /\ aK F l ao
 |.dead=>∃ u,H a=ae u
 |.dT l=>F a=ag /\ ∃ ao,H a=ae (.dT ao) /\ bP F l ao
 |.fD l=>∃ o ao,F a=ae (.bM o zam) /\ H a=ae (.bM o zam) /\ aK F l ao
noncomputable abbrev aQ:=List<|Option W
noncomputable abbrev xB (n:Nat):Option W:=ae<|.b n
noncomputable abbrev xN (i:Int):Option W:=ae<|.d<|.int i
noncomputable abbrev xJ (l:List Int):Option W:=ae<|.d<|.lst<|l.map D.int
structure Rel (T:Fr) (F:Hp) (r:List aj) (σ:St) (H:Hp) (env:aQ) (bx:List Bx):zk where
 fh:Sub F H
 slot:∀ (i:Nat) (w:W),env[i]?=ae (ae w)->∃ v,σ[i]?=ae (ae v) /\ bW F r w v
 len:r.length=bx.length
 nd:r.Nodup
 box:∀ (n:Nat) (c:Bx) (a:aj),bx[n]?=ae c->r[n]?=ae a->sJ F H a c
 keep:∀ a u,T.H₀ a=ae u->a∉r->H a=ae u
 new:∀ (n:Nat) (a:aj),T.n₀<=n->r[n]?=ae a->T.H₀ a=ag
 n0:T.n₀<=r.length
 sl:env.length<=σ.length
 fs:∀ a u,F a=ae u->(∃ vs,u=.tup vs) \/ T.F₀ a=ae u \/ T.H₀ a=ag \/ a∈r
structure bA (F:Hp) (r:List aj) (F':Hp) (r':List aj):zk where
 s:Sub F F'
 p:r <+: r'
theorem bA.refl (F:Hp) (r:List aj):bA F r F r:=#[Sub.refl F,pP r]
theorem bA.trans {F F' adL:Hp}{r r' adM:List aj}(a:bA F r F' r') (b:bA F' r' adL adM):bA F r adL adM:=#[a.s.trans b.s,a.p.trans b.p]
theorem bA.den {r':List aj}(g:bA F r F' r') {w:W}(h:bW F r w v):bW F' r' w v:=h.mono g.s g.p w
inductive O (α:Type) where
 |val (a:α) (bx:List Bx)|exc (c:Nat) (bx:List Bx)|bad
abbrev DE (α:Type):=aQ->List Bx->O α
noncomputable def fA {β:Type}(m:O α) (k:α->List Bx->O β):O β:=
 match m with
 |.val a bx=>k a bx
 |.exc c bx=>.exc c bx
 |.bad=>.bad
structure Xs where
 E:XK
 cl:Nat->aj
noncomputable def End {β:Type}(T:Fr) (Z:Xs) (Rl:Hp->List aj->α->β->zk) (F:Hp) (r:List aj) (σ:St) (env:aQ) (Q:β->Hp->zk):O α->zk
 |.val d bx'=>∀ F' r' v H',bA F r F' r'->Rel T F' r' σ H' env bx'->Rl F' r' d v->Q v H'
 |.exc c bx'=>∀ F' r' H',bA F r F' r'->Rel T F' r' [] H' [] bx'->Z.E (.ref<|Z.cl c) ag H'
 |.bad=>False
theorem End.weak {β:Type}{T:Fr}{Z:Xs}{Rl:Hp->List aj->α->β->zk}{r':List aj}{env:aQ}{Q:β->Hp->zk}(g:bA F r F' r'):∀ {o:O α},End T Z Rl F r σ env Q o->End T Z Rl F' r' σ env Q o
 |.val _ _,h=>λF2 r2 v H2 g2=>h F2 r2 v H2<|g.trans g2
 |.exc _ _,h=>λF2 r2 H2 g2=>h F2 r2 H2<|g.trans g2
 |.bad,h=>h
theorem End.bind {β α' β':Type}{T:Fr}{Z:Xs}{R1:Hp->List aj->α->β->zk}{R2:Hp->List aj->α'->β'->zk}{env:aQ}{Q:β'->Hp->zk}{Q1:β->Hp->zk}
 {m:O α}{k:α->List Bx->O α'}(h:End T Z R2 F r σ env Q<|fA m k)
 (c:∀ d bx1 F1 r1 v H1,bA F r F1 r1->Rel T F1 r1 σ H1 env bx1->R1 F1 r1 d v->End T Z R2 F1 r1 σ env Q (k d bx1)->Q1 v H1):End T Z R1 F r σ env Q1 m:=by
 cases m with
 |val d bx=>show λF' r' v H' g R q=>c d bx F' r' v H' g R q<|End.weak g h
 |exc n bx=>show h
 |bad=>show h
theorem Rel.drop {T:Fr}{env:aQ}{bx:List Bx}(R:Rel T F r σ H env bx):Rel T F r [] H [] bx:=
 #[R.fh,λi w e=>by simp at e,R.len,R.nd,R.box,R.keep,R.new,R.n0,aE _,R.fs]
def tD (T:Fr) (Z:Xs) (m:DE W):TE:=λσ H Q=>∃ F r env bx,Rel T F r σ H env bx /\ End T Z bW F r σ env Q zD
def PD (X:Cx) (T:Fr) (Z:Xs) (e:aq) (m:DE W):zk:=PE X e<|tD T Z m
abbrev ahK:Hp->List aj->Bool->Bool->zk:=λ_ _ a b=>a=b
def sL (T:Fr) (Z:Xs) (m:DE Bool):TT:=λσ H Q=>∃ F r env bx,Rel T F r σ H env bx /\ End T Z ahK F r σ env Q zD
def eQ (X:Cx) (T:Fr) (Z:Xs) (e:aq) (m:DE Bool):zk:=PT X e<|sL T Z m
def kT (F:Hp) (r:List aj):List W->List V->zk
 |[],vs=>vs=[]
 |w::l,vs=>∃ v t,vs=v::t /\ bW F r w v /\ kT F r l t
theorem kT.mono {F F':Hp}{r r':List aj}(g:bA F r F' r'):∀ {l:List W}{vs:List V},kT F r l vs->kT F' r' l vs
 |[],_,h=>h
 | w::l,_,h=>by
   let#[v,t,e,h1,h2]:=h;show#[v,t,e,g.den h1,h2.mono g]
def IE (T:Fr) (Z:Xs) (m:DE zaf):TA:=λσ H Q=>∃ F r env bx,Rel T F r σ H env bx /\ End T Z kT F r σ env Q zD
def dH (X:Cx) (T:Fr) (Z:Xs) (es:List aq) (m:DE zaf):zk:=PA X es<|IE T Z m
theorem x4 {T:Fr}{B:Hp->List aj->aQ->List Bx->zk}{G:zk}(k:∀ F r env bx,Rel T F r σ H env bx->B F r env bx->G):(∃ F r env bx,Rel T F r σ H env bx /\ B F r env bx)->G:=λ⟨F,r,env,bx,R,h⟩=>k F r env bx R h
theorem x5 {δ:Type}{T:Fr}{C:Hp->List aj->δ->zk}{B:Hp->List aj->aQ->List Bx->δ->zk}{G:zk}(k:∀ F r env bx w,Rel T F r σ H env bx->C F r w->B F r env bx w->G):(∃ F r env bx w,Rel T F r σ H env bx /\ C F r w /\ B F r env bx w)->G:=λ⟨F,r,env,bx,w,R,d,h⟩=>k F r env bx w R d h
theorem PE.imp {t t':TE}(h:PE X e t) (f:∀ σ H Q,t' σ H Q->t σ H Q):PE X e t':=λpins s σ H Q I q=>h pins s σ H Q I<|f σ H Q q
theorem PT.imp {t t':TT}(h:PT X e t) (f:∀ σ H Q,t' σ H Q->t σ H Q):PT X e t':=λpins s σ H Q I q=>h pins s σ H Q I<|f σ H Q q
theorem PW.imp {t t':TT}(h:PW X e t) (f:∀ σ H Q,t' σ H Q->t σ H Q):PW X e t':=λwhole pins s σ H Q I q=>h whole pins s σ H Q I<|f σ H Q q
theorem PA.imp {e:List aq}{t t':TA}(h:PA X e t) (f:∀ σ H Q,t' σ H Q->t σ H Q):PA X e t':=λpos pins s σ H Q I q=>h pos pins s σ H Q I<|f σ H Q q
theorem PS.imp {e:cb}{t t':TS}(h:PS X e t) (f:∀ Q σ H,t' Q σ H->t Q σ H):PS X e t':=λpins s σ H Q I q=>h pins s σ H Q I<|f Q σ H q
theorem kE.imp {e:List cb}{t t':TS}(h:kE X e t) (f:∀ Q σ H,t' Q σ H->t Q σ H):kE X e t':=λpins s σ H Q I q=>h pins s σ H Q I<|f Q σ H q
section
variable {T:Fr} {Z:Xs} {a b c:aq} {ma mb mc:DE W} {pos:aC}
noncomputable def dV (i:Nat):DE W:=λenv bx=>match env[i]? with|some (ae w)=>.val w bx|_=>.bad
theorem LQ (i:Nat) (hN:X.N[i]?=ae x:=by rfl) (hv:xx X.env.scope x:=by first|show Or.inl zc|show Or.inr (Or.inl zc)|show Or.inr (Or.inr zc)) (hd:(x==("__debug__":Str))=af:=by decide)
 (pX:(x==("__classdict__":Str))=af:=by decide):PD X T Z (.Name x pos) (dV i):=by
 refine PE.imp (Lp hN hv hd pX) λσ H Q=>x4 λF r env bx R h=>?_;unfold dV at h;split at h
 .ext w e;let#[v,e1,e2]:=R.slot i w e;show#[v,e1,h F r v H (.refl F r) R e2]
 .show h.elim
noncomputable def dC (d:D):DE W:=λ_ bx=>.val (.d d) bx
theorem CZ {d:D}(h:PE X e<|tC v) (hd:∀ F,Den F d v):PD X T Z e (dC d):=
 PE.imp h λσ H Q=>x4 λF r env bx R h=>h F r v H (.refl F r) R<|hd F
theorem T5 {i:Int}{j}:PD X T Z (.Constant (.int i) j pos) (dC<|.int i):=CZ Lq λ_=>rfl
theorem Wm {i:Bool}{j}:PD X T Z (.Constant (.bool i) j pos) (dC<|.bl i):=CZ Wb λ_=>rfl
theorem T6 {j}:PD X T Z (.Constant .none j pos) (dC .non):=CZ Tq λ_=>rfl
theorem T7 {j}:PD X T Z (.Constant (.str x) j pos) (dC<|.str x):=CZ Av λ_=>rfl
noncomputable def ff:DE zaf:=λ_ bx=>.val [] bx
def fc (m:DE W) (k:DE zaf):DE zaf:=λenv bx=>fA zD λw bx1=>fA (k env bx1) λl bx2=>.val (w::l) bx2
theorem jP:dH X T Z [] ff:=PA.imp lu λσ H Q=>x4 λF r env bx R h=>h F r [] H (.refl F r) R zc
theorem LR {k:DE zaf}(ha:PD X T Z e ma) (hr:dH X T Z es k) (hs:starEach (e::es) X.env=(af,eval e X.env)::starEach es X.env:=by rfl):dH X T Z (e::es) (fc ma k):=by
 refine PA.imp (jq ha hr hs) λσ H Q=>x4 λF r env bx R h=>?_;refine#[F,r,env,bx,R,End.bind h λw bx1 F1 r1 v H1 g1 R1 d1 h1=>?_];show#[F1,r1,env,bx1,R1,End.bind h1 λl bx2 F2 r2 vs H2 g2 R2 d2 h2=>(h2 F2 r2 _ H2 (.refl F2 r2) R2 #[v,vs,rfl,g2.den d1,d2])]
end
end L2.DL
variable {te m mb ma mc:L2.DL.DE L2.DL.W}{ks rs:List L2.DL.D}{T:L2.DL.Fr}{env:L2.DL.aQ}{tf:L2.DL.DE Bool}{B bx bx1:List L2.DL.Bx}{Z:L2.DL.Xs}{fn:List L2.DL.W -> List L2.DL.Bx -> L2.DL.O L2.DL.W}{mi:L2.DL.DE (List L2.DL.W)}{hd:L2.DL.D}{dr:List (List L2.Key × L2.DL.D)}
namespace L2.DL
theorem iJ {o:HO}(h:F p=ag):Sub F (upd F p o):=λa u e=>by rw[fC<|f8 e h];show e
theorem Rel.rh (R:Rel T F r σ H env bx) (h:H p=ag):F p=ag:=by
 cases e:F p with
 |none=>rfl
 |some u=>rw[R.fh p u e]at h;cases h
theorem sJ.there:∀ {c:Bx},sJ F H a c->∃ u,H a=ae u
 |.lst _,h=>let ⟨_,vs,e,_⟩:=h;#[_,e]
 |.aB _,h=>let ⟨_,vs,e,_⟩:=h;#[_,e]
 |.dead,h=>h
 |.dT _,h=>let ⟨_,vs,e,_⟩:=h;#[_,e]
 |.fD _,h=>let ⟨_,_,_,e,_⟩:=h;#[_,e]
theorem Rel.eX (R:Rel T F r σ H env bx) (e:r[n]?=ae a):∃ c,bx[n]?=ae c /\ sJ F H a c:=by
 have h:=(List.getElem?_eq_some_iff.mp e).1;rw[R.len]at h;show#[_,cL h,R.box n _ a (cL h) e]
theorem Rel.xR (R:Rel T F r σ H env bx) (h:H p=ag):p∉r:=λhp=>by
 let#[n,e]:=List.mem_iff_getElem?.mp hp;let#[c,_,k]:=R.eX e;let#[u,k]:=k.there;rw[h]at k;cases k
theorem sJ.grow (s:Sub F F') (hf:F a=ag->F' a=ag) (hh:∀ u,H a=ae u->H' a=ae u):∀ {c:Bx},sJ F H a c->sJ F' H' a c
 |.lst _,h=>let ⟨h1,vs,h2,h3⟩:=h;#[hf h1,vs,hh _ h2,aG.mono s _ h3]
 |.aB _,h=>let ⟨h1,vs,h2,h3⟩:=h;#[hf h1,vs,hh _ h2,aK.mono s _ h3]
 |.dead,h=>let ⟨u,h⟩:=h;#[u,hh u h]
 |.dT _,h=>let ⟨h1,vs,h2,h3⟩:=h;#[hf h1,vs,hh _ h2,bP.mono s _ h3]
 |.fD _,h=>let ⟨o,vs,h1,h2,h3⟩:=h;#[o,vs,s _ _ h1,hh _ h2,aK.mono s _ h3]
theorem Rel.xS (R:Rel T F r σ H env bx) {o:HO}(h:H p=ag):Rel T (upd F p o) r σ (upd H p o) env bx:=by
 have s:=iJ (o:=o)<|R.rh h;refine#[λa u e=>?_,λi w e=>?_,R.len,R.nd,λn c a e1 e2=>?_,λa u e hn=>?_,R.new,R.n0,R.sl,λa u e=>?_]
 .by_cases ha:a=p
  .subst ha;rw[fw]at e ⊢;show e
  .rw[fC ha]at e ⊢;show R.fh a u e
 .let#[v,e1,e2]:=R.slot i w e;show#[v,e1,e2.mono s<|pP r]
 .have k:=R.box n c a e1 e2;let#[u,hu]:=k.there;have ha:=f8 hu h;show k.grow s (λz=>by rw[fC ha];show z) (λu z=>by rw[fC ha];show z)
 .have k:=R.keep a u e hn;rw[fC<|f8 k h];show k
 .by_cases ha:a=p
  .subst ha;refine .inr<|.inr<|.inl ?_;cases q:T.H₀ a with
   |none=>rfl
   |some u=>rw[R.keep a u q<|R.xR h]at h;cases h
  .rw[fC ha]at e;show R.fs a u e
theorem Rel.uq (R:Rel T F r σ H env bx) {o:HO}(h:H p=ag):bA F r (upd F p o) r:=#[iJ<|R.rh h,pP r]
theorem Rel.IG (R:Rel T F r σ H env bx) {o:HO}{c:Bx}(h:H p=ag) (hc:sJ F (upd H p o) p c):Rel T F (r++[p]) σ (upd H p o) env (bx++[c]):=by
 have hs:∀ a u,H a=ae u->upd H p o a=ae u:=λa u e=>by rw[fC<|f8 e h];show e
 refine#[λa u e=>hs a u<|R.fh a u e,λi w e=>?_,by rw[cX,cX,R.len];rfl,?_,λn c' a e1 e2=>?_,λa u e hn=>(hs a u<|R.keep a u e λz=>hn<|qP _ z),λn a hn e=>?_,by rw[cX];show cB R.n0 (vC _ _),R.sl,λa u e=>(R.fs a u e).imp id<|Or.imp id<|Or.imp id λz=>qP _ z]
 .let#[v,e1,e2]:=R.slot i w e;show#[v,e1,e2.mono (Sub.refl F)<|xh r [p]]
 .rw[uR];refine#[R.nd,by simp,λa ha b hb=>?_];rw[kN]at hb;subst hb;show λz=>R.xR h<|z▸ha
 .by_cases hn:n<r.length
  .rw[eK hn]at e2;rw[eK (by rw[<-R.len];show hn)]at e1;show(R.box n c' a e1 e2).grow (Sub.refl F) id (hs a)
  .rw[nF za]at e2;rw[nF (by rw[<-R.len];lia)]at e1;have hl:n-r.length=0:=by
    cases q:n-r.length with
    |zero=>rfl
    |succ k=>rw[q]at e2;simp at e2
   have kU:n-bx.length=0:=by rw[<-R.len];show hl
   rw[hl]at e2;rw[kU]at e1;simp at e1 e2;subst e1 e2;show hc
 .by_cases hl:n<r.length
  .rw[eK hl]at e;show R.new n a hn e
  .have hp:a=p:=by
    rw[nF za]at e;cases q:n-r.length with
    |zero=>rw[q]at e;simp at e;show e.symm
    |succ k=>rw[q]at e;simp at e
   subst hp;cases q:T.H₀ a with
   |none=>rfl
   |some u=>rw[R.keep a u q<|R.xR h]at h;cases h
theorem lA {l:List α}(h:l.Nodup) {i:Nat}{x:α}(a:l[i]?=ae x) (b:l[j]?=ae x):i=j:=(List.getElem?_inj (List.getElem?_eq_some_iff.mp a).1 h).mp<|a.trans b.symm
theorem Rel.write (R:Rel T F r σ H env bx) {o:HO}{c:Bx}(e:r[n]?=ae a) (hF:F a=ag) (hc:sJ F (upd H a o) a c):Rel T F r σ (upd H a o) env (bx.set n c):=by
 refine#[λb u q=>?_,R.slot,by rw[qo];show R.len,R.nd,λm c' b e1 e2=>?_,λb u q hn=>?_,R.new,R.n0,R.sl,R.fs]
 .by_cases hb:b=a
  .subst hb;rw[hF]at q;cases q
  .rw[fC hb];show R.fh b u q
 .by_cases hm:m=n
  .subst hm;rw[e]at e2;cases e2;rw[pN (by rw[<-R.len];show(List.getElem?_eq_some_iff.mp e).1)]at e1;cases e1;show hc
  .rw[tV<|Ne.symm hm]at e1;have hb:b≠a:=λz=>hm<|lA R.nd e2<|z▸e;show(R.box m c' b e1 e2).grow (Sub.refl F) id λu z=>by rw[fC hb];show z
 .rw[fC λz=>hn (by rw[z];show(List.mem_iff_getElem?.mpr #[n,e]))];show R.keep b u q hn
theorem Rel.freeze (R:Rel T F r σ H env bx) {o:HO}(e:r[n]?=ae a) (hF:F a=ag) (hH:H a=ae o):Rel T (upd F a o) r σ H env (bx.set n .dead) /\ bA F r (upd F a o) r:=by
 have s:=iJ (o:=o) hF;refine#[#[λb u q=>?_,λi w q=>?_,by rw[qo];show R.len,R.nd,λm c' b e1 e2=>?_,R.keep,R.new,R.n0,R.sl,λb u q=>?_],s,pP r]
 .by_cases hb:b=a
  .subst hb;rw[fw]at q;cases q;show hH
  .rw[fC hb]at q;show R.fh b u q
 .let#[v,e1,e2]:=R.slot i w q;show#[v,e1,e2.mono s<|pP r]
 .by_cases hm:m=n
  .subst hm;rw[e]at e2;cases e2;rw[pN (by rw[<-R.len];show(List.getElem?_eq_some_iff.mp e).1)]at e1;cases e1;show#[_,hH]
  .rw[tV<|Ne.symm hm]at e1;have hb:b≠a:=λz=>hm<|lA R.nd e2<|z▸e;show(R.box m c' b e1 e2).grow s (λz=>by rw[fC hb];show z) λu z=>z
 .by_cases hb:b=a
  .subst hb;show .inr<|.inr<|.inr<|List.mem_iff_getElem?.mpr #[n,e]
  .rw[fC hb]at q;show R.fs b u q
def pb (F H:Hp):D->V->zk
 |.lst l,v=>∃ a vs,v=.ref a /\ H a=ae (.lst vs) /\ aG F l vs
 |.aB l,v=>∃ a ao,v=.ref a /\ H a=ae zam /\ aK F l ao
 |.tup l,v=>∃ a vs,v=.ref a /\ F a=ae (.tup vs) /\ aG F l vs
 |.non,v=>v=.non
 |.bl b,v=>v=.bl b
 |.int i,v=>v=.int i
 |.str x,v=>v=.str x
noncomputable def bU (bx:List Bx):W->Option D
 |.d x=>ae x
 | .b n=>match bx[n]? with
   |some (.lst l)=>ae<|.lst l
   |some (.aB l)=>ae<|.aB l
   |_=>ag
 |_=>ag
theorem Den.rj (s:Sub F H):∀ {d:D}{v:V},Den F d v->pb F H d v
 |.non,_,h=>h
 |.bl _,_,h=>h
 |.int _,_,h=>h
 |.str _,_,h=>h
 |.tup l,_,h=>h
 |.lst l,_,h=>let ⟨a,vs,e,h1,h2⟩:=h;#[a,vs,e,s _ _ h1,h2]
 |.aB l,_,h=>let ⟨a,vs,e,h1,h2⟩:=h;#[a,vs,e,s _ _ h1,h2]
theorem Rel.rj (R:Rel T F r σ H env bx) {w:W}{v:V}{d:D}(h:bW F r w v) (e:bU bx w=ae d):pb F H d v:=by
 cases w with
 |d x=>
   cases e;show Den.rj R.fh h
 |b n=>
   let#[a,rfl,ha]:=h;let#[c,hc,k]:=R.eX ha;simp[bU,hc]at e;cases c with
   |lst l=>cases e;let#[_,vs,k1,k2]:=k;show#[a,vs,rfl,k1,k2]
   |aB l=>cases e;let#[_,vs,k1,k2]:=k;show#[a,vs,rfl,k1,k2]
   |_=>cases e
 |s l=>cases e
 |x i=>show h.elim
 |_=>cases e
def Zf (F H:Hp):List D->List V->zk
 |[],vs=>vs=[]
 |d::l,vs=>∃ v t,vs=v::t /\ pb F H d v /\ Zf F H l t
def kh (bx:List Bx):List W->Option (List D)
 |[]=>ae []
 |w::l=>(bU bx w).bind λd=>(kh bx l).map λt=>d::t
theorem Rel.adN (R:Rel T F r σ H env bx):∀ {ws:List W}{vs:List V}{ds:List D},kT F r ws vs->kh bx ws=ae ds->Zf F H ds vs
 |[],_,_,h,e=>by cases e;show h
 | w::l,_,ds,h,e=>by
   let#[v,t,q,h1,h2]:=h;unfold kh at e;cases e1:bU bx w with
   |none=>rw[e1]at e;cases e
   |some d=>
     rw[e1]at e;cases e2:kh bx l with
     |none=>rw[e2]at e;cases e
     |some t'=>
       rw[e2]at e;cases e;show#[v,t,q,R.rj h1 e1,R.adN h2 e2]
inductive Res where
 |old (d:D)|tup (l:List D)|lst (l:List D)|aB (l:List<|Key×D)
noncomputable def Res.toD:Res->D
 |.old d=>d|.tup l=>.tup l|.lst l=>.lst l|.aB l=>.aB l
def wb (F H:Hp):Res->V->Hp->zk
 |.old d,v,H'=>H'=H /\ Den F d v
 |.tup l,v,H'=>(H'=H /\ Den F (.tup l) v) \/ ∃ p vs,v=.ref p /\ H p=ag /\ H'=upd H p (.tup vs) /\ aG F l vs
 |.lst l,v,H'=>∃ p vs,v=.ref p /\ H p=ag /\ H'=upd H p (.lst vs) /\ aG F l vs
 |.aB l,v,H'=>∃ p vs,v=.ref p /\ H p=ag /\ H'=upd H p (.dK vs) /\ aK F l vs
theorem Rel.res (R:Rel T F r σ H env bx):∀ {q:Res},wb F H q v H'->∃ F',bA F r F' r /\ Rel T F' r σ H' env bx /\ Den F' q.toD v
 | .old d,h=>by
   let#[rfl,h]:=h;show#[F,.refl F r,R,h]
 | .tup l,h=>by
   rcases h with⟨rfl,h⟩|⟨p,vs,rfl,hp,rfl,h⟩
   .show#[F,.refl F r,R,h]
   show#[_,R.uq hp,R.xS hp,p,vs,rfl,fw,aG.mono (R.uq hp).s l h]
 | .lst l,h=>by
   let#[p,vs,rfl,hp,rfl,h]:=h;show#[_,R.uq hp,R.xS hp,p,vs,rfl,fw,aG.mono (R.uq hp).s l h]
 | .aB l,h=>by
   let#[p,vs,rfl,hp,rfl,h]:=h;show#[_,R.uq hp,R.xS hp,p,vs,rfl,fw,aK.mono (R.uq hp).s l h]
theorem Rel.resB (R:Rel T F r σ H env bx) {l:List D}(h:wb F H (.lst l) v H'):∃ r',bA F r F r' /\ Rel T F r' σ H' env (bx++[.lst l]) /\ bW F r' (.b bx.length) v:=by
 let#[p,vs,rfl,hp,rfl,h]:=h;refine#[r++[p],#[Sub.refl F,xh r [p]],R.IG hp #[R.rh hp,vs,fw,h],p,rfl,?_];rw[<-R.len,nF<|aE _,tU];rfl
theorem Rel.ahL (R:Rel T F r σ H env bx) {l:List (Key×D)}(h:wb F H (.aB l) v H'):∃ r',bA F r F r' /\ Rel T F r' σ H' env (bx++[.aB l]) /\ bW F r' (.b bx.length) v:=by
 let#[p,vs,rfl,hp,rfl,h]:=h;refine#[r++[p],#[Sub.refl F,xh r [p]],R.IG hp #[R.rh hp,vs,fw,h],p,rfl,?_];rw[<-R.len,nF<|aE _,tU];rfl
def cj (b:Bool):Option Res->List Bx->O W
 |none,_=>.bad
 | some q,bx=>match b,q with
   |true,.lst l=>.val (.b bx.length)<|bx++[.lst l]
   |true,.aB l=>.val (.b bx.length)<|bx++[.aB l]
   |_,_=>.val (.d q.toD) bx
theorem g9 {Q:VK}{b:Bool}{q:Res}(R:Rel T F r σ H env bx) (h:End T Z bW F r σ env Q<|cj b (ae q) bx) (k:wb F H q v H'):Q v H':=by
 have one:End T Z bW F r σ env Q (.val (.d q.toD) bx)->Q v H':=λh=>by
  let#[F',g,R',d]:=R.res k;show h F' r v H' g R' d
 cases b with
 |false=>show one h
 |true=>
   cases q with
   |old d=>show one h
   |tup l=>show one h
   |lst l=>
     let#[r',g,R',d]:=R.resB k;show h F r' v H' g R' d
   |aB l=>
     let#[r',g,R',d]:=R.ahL k;show h F r' v H' g R' d
def cx (q:R2) (g:D->D->Option Res):zk:=∀ (F H:Hp) (x y:D) (v w:V) (Q:VK) (s:Res),Sub F H->pb F H x v->pb F H y w->g x y=ae s->(∀ u H',wb F H s u H'->Q u H')->q v w H Q
def km (q:List V->Hp->VK->zk) (g:List D->Option Res):zk:=∀ (F H:Hp) (xs:List D) (vs:List V) (Q:VK) (s:Res),Sub F H->Zf F H xs vs->g xs=ae s->(∀ u H',wb F H s u H'->Q u H')->q vs H Q
def d2 (b:Bool) (g:D->D->Option Res) (ma mb:DE W):DE W:=λenv bx=>fA (ma env bx) λx bx1=>fA (mb env bx1) λy bx2=>cj b ((bU bx2 x).bind λp=>(bU bx2 y).bind λq=>g p q) bx2
theorem Ge {q:R2}{g:D->D->Option Res}{b:Bool}(hg:cx q g) (σ:St) (H:Hp) (Q:VK) (h:tD T Z (d2 b g ma mb) σ H Q):yT q (tD T Z ma) (tD T Z mb) σ H Q:=by
 let#[F,r,env,bx,R,h]:=h;refine#[F,r,env,bx,R,End.bind h λx bx1 F1 r1 v H1 g1 R1 d1 h1=>?_];refine#[F1,r1,env,bx1,R1,End.bind h1 λy bx2 F2 r2 w H2 g2 R2 Zg h2=>?_];cases e1:bU bx2 x with
 |none=>rw[e1]at h2;show h2.elim
 |some p=>
   cases e2:bU bx2 y with
   |none=>rw[e1,e2]at h2;show h2.elim
   |some z=>
     cases e3:g p z with
     |none=>rw[e1,e2]at h2;simp[bS,e3]at h2;show h2.elim
     |some s=>
       rw[e1,e2]at h2;simp[bS,e3]at h2;show hg F2 H2 p z v w Q s R2.fh (R2.rj (g2.den d1) e1) (R2.rj Zg e2) e3 λu H' k=>g9 R2 h2 k
def dN (b:Bool) (g:List D->Option Res) (k:DE zaf):DE W:=λenv bx=>fA (k env bx) λws bx1=>cj b ((kh bx1 ws).bind g) bx1
theorem LS {q:List V->Hp->VK->zk}{g:List D->Option Res}{b:Bool}{k:DE zaf}(hg:km q g) (σ:St) (H:Hp) (Q:VK) (h:tD T Z (dN b g k) σ H Q):Io q (IE T Z k) σ H Q:=by
 let#[F,r,env,bx,R,h]:=h;refine#[F,r,env,bx,R,End.bind h λws bx1 F1 r1 vs H1 g1 R1 d1 h1=>?_];cases e1:kh bx1 ws with
 |none=>rw[e1]at h1;show h1.elim
 |some ds=>
   rw[e1]at h1;cases e2:g ds with
   |none=>simp[bS,e2]at h1;show h1.elim
   |some s=>
     simp[bS,e2]at h1;show hg F1 H1 ds vs Q s R1.fh (R1.adN d1 e1) e2 λu H' k=>g9 R1 h1 k
end L2.DL
variable {g:L2.DL.D -> L2.DL.D -> Option L2.DL.Res}
namespace L2.DL
section
variable {a b c:aq} {pos p:aC}
theorem T8 {op:Operator}{q:R2}(bo:Bool) (ho:bc X (binaryOp op) q) (hg:cx q g) (ha:PD X T Z a ma) (hb:PD X T Z b mb):PD X T Z (.BinOp a op b pos) (d2 bo g ma mb):=
 PE.imp (We ho ha hb) (Ge hg)
theorem T9 {q:R2}(ho:bc X (compareOp op) q) (hg:cx q g) (ha:PD X T Z a ma) (hb:PD X T Z b mb) (hm:behindInMarks op b=af):PD X T Z (.Compare a [op] [b] pos) (d2 af g ma mb):=
 PE.imp (Ow ho ha hb hm) (Ge hg)
theorem Wn {q:R2}(ho:sD X q) (hg:cx q g) (ha:PD X T Z a ma) (hb:PD X T Z b mb) (hs:Iq b):PD X T Z (.Subscript a b pos) (d2 af g ma mb):=
 PE.imp (SL ho ha hb hs) (Ge hg)
def dB (m:DE W):DE Bool:=λenv bx=>fA zD λw bx1=>match w with|.d (.bl k)=>.val k bx1|_=>.bad
theorem LU {Q:Bool->Hp->zk}(h:sL T Z (dB ma) σ H Q):tB (tD T Z ma) σ H Q:=by
 let#[F,r,env,bx,R,h]:=h;refine#[F,r,env,bx,R,End.bind h λw bx1 F1 r1 v H1 g1 R1 d1 h1=>?_];split at h1
 .ext k;show#[k,d1,h1 F1 r1 k H1 zU R1 zc]
 .show h1.elim
theorem OH (h:PD X T Z e ma) (he:∀ whole,isTrue e X.env whole=(do let v <-whole;standAt e.pos;holding [v] (truthy v)):=by intro _;rfl):eQ X T Z e (dB ma):=
 PT.imp (Tr h he) λσ H Q h=>LU h
theorem OI {q:R2}(ho:bc X (compareOp op) q) (hg:cx q g) (ha:PD X T Z a ma) (hb:PD X T Z b mb) (hm:behindInMarks op b=af):eQ X T Z (.Compare a [op] [b] pos) (dB<|d2 af g ma mb):=by
 refine PT.imp (Ox ho ha hb hm) λσ H Q h=>?_;let#[F,r,env,bx,R,h]:=h;refine Ge hg σ H _ #[F,r,env,bx,R,End.bind h λw bx1 F1 r1 v H1 g1 R1 d1 h1=>?_];split at h1
 .ext k;show#[k,d1,h1 F1 r1 k H1 zU R1 zc]
 .show h1.elim
theorem aG.isEmpty {F:Hp}{l:List D}{vs:List V}(h:aG F l vs):l.isEmpty=vs.isEmpty:=by
 have:=h.length;cases l<;>cases vs<;>simp_all
theorem aK.length {F:Hp}:∀ {l:List (Key×D)}{vs:List (Key×V)},aK F l vs->l.length=vs.length
 | [],_,h=>by
   rw[h];rfl
 | (k,d)::l,_,h=>by
   let#[v,r,e,_,h2]:=h;rw[e,bz,bz,h2.length]
def d3 (g g':D->D->Option Res) (ma mb mc:DE W):DE W:=λenv bx=>fA (ma env bx) λx bx1=>fA (mb env bx1) λy bx2=>
 fA (cj af ((bU bx2 x).bind λp=>(bU bx2 y).bind λq=>g p q) bx2) λz bQ=>match z with
  |.d (.bl ah)=>fA (mc env bQ) λw c8=>cj af ((bU c8 y).bind λp=>(bU c8 w).bind λq=>g' p q) c8
  |.d (.bl af)=>.val (.d<|.bl af) bQ
  |_=>.bad
theorem adO {q:R2}(hg:cx q g) {x y:W}{w:V}{Q:VK}(R:Rel T F r σ H env bx) (dx:bW F r x v) (dy:bW F r y w)
 (h:End T Z bW F r σ env Q<|cj af ((bU bx x).bind λp=>(bU bx y).bind λq=>g p q) bx):q v w H Q:=by
 cases e1:bU bx x with
 |none=>rw[e1]at h;show h.elim
 |some p=>
   cases e2:bU bx y with
   |none=>rw[e1,e2]at h;show h.elim
   |some z=>
     cases e3:g p z with
     |none=>rw[e1,e2]at h;simp[bS,e3]at h;show h.elim
     |some s=>
       rw[e1,e2]at h;simp[bS,e3]at h;show hg F H p z v w Q s R.fh (R.rj dx e1) (R.rj dy e2) e3 λu H' k=>g9 R h k
theorem Gf {q q':R2}{g':D->D->Option Res}(hg:cx q g) (xT:cx q' g') {Q:VK}(h:tD T Z (d3 g g' ma mb mc) σ H Q):X3 q q' (tD T Z ma) (tD T Z mb) (tD T Z mc) σ H Q:=by
 let#[F,r,env,bx,R,h]:=h;refine#[F,r,env,bx,R,End.bind h λx bx1 F1 r1 v H1 g1 R1 d1 h1=>?_];refine#[F1,r1,env,bx1,R1,End.bind h1 λy bx2 F2 r2 w H2 g2 R2 d2 h2=>?_];refine adO hg R2 (g2.den d1) d2<|End.bind h2 λz bQ F3 r3 u H3 g3 R3 d3 h3=>?_;split at h3
 .refine#[ah,d3,?_];show#[F3,r3,env,bQ,R3,End.bind h3 λt c8 F4 r4 s H4 g4 R4 d4 h4=>(adO xT R4 (g4.den<|g3.den d2) d4 h4)]
 .show#[af,d3,(h3 F3 r3 _ H3 (.refl F3 r3) R3 zc)]
 .show h3.elim
theorem LV {cZ:CmpOp}{q q':R2}{g':D->D->Option Res}(ho:bc X (compareOp op) q) (kD:bc X (compareOp cZ) q') (hg:cx q g) (xT:cx q' g') (ha:PD X T Z a ma) (hb:PD X T Z b mb) (hc:PD X T Z c mc)
 (hm:lastMarks [op,cZ] [b,c]=af:=by with_unfolding_all rfl):PD X T Z (.Compare a [op,cZ] [b,c] pos) (d3 g g' ma mb mc):=
 PE.imp (LD ho kD ha hb hc hm) λσ H Q h=>Gf hg xT h
theorem Jr {cZ:CmpOp}{q q':R2}{g':D->D->Option Res}(ho:bc X (compareOp op) q) (kD:bc X (compareOp cZ) q') (hg:cx q g) (xT:cx q' g') (ha:PD X T Z a ma) (hb:PD X T Z b mb) (hc:PD X T Z c mc)
 (hm:lastMarks [op,cZ] [b,c]=af:=by with_unfolding_all rfl):eQ X T Z (.Compare a [op,cZ] [b,c] pos) (dB<|d3 g g' ma mb mc):=by
 refine PT.imp (LF ho kD ha hb hc hm) λσ H Q h=>?_;let#[F,r,env,bx,R,h]:=h;refine Gf hg xT #[F,r,env,bx,R,End.bind h λw bx1 F1 r1 v H1 g1 R1 d1 h1=>?_];split at h1
 .ext k;show#[k,d1,h1 F1 r1 k H1 zU R1 zc]
 .show h1.elim
def nJ (m k:DE Bool):DE Bool:=λenv bx=>fA zD λb bx1=>match b with|true=>k env bx1|false=>.val af bx1
def pd (m k:DE Bool):DE Bool:=λenv bx=>fA zD λb bx1=>match b with|true=>.val ah bx1|false=>k env bx1
def eG (m:DE Bool):DE Bool:=λenv bx=>fA zD λb bx1=>.val (!b) bx1
def sM (X:Cx) (T:Fr) (Z:Xs) (e:aq) (m:DE Bool):zk:=PW X e<|sL T Z m
variable {ta tb:DE Bool} {rest:List aq}
theorem LW (h:eQ X T Z a ta):sM X T Z (.BoolOp .And [a] pos) ta:=Oo h
theorem OJ (h:eQ X T Z a ta):sM X T Z (.BoolOp .Or [a] pos) ta:=Ts h
theorem OK (ha:eQ X T Z a ta) (hb:sM X T Z (.BoolOp .And (b::rest) pos) tb):sM X T Z (.BoolOp .And (a::b::rest) pos) (nJ ta tb):=by
 refine PW.imp (Tt ha hb) λσ H Q=>x4 λF r env bx R h=>?_;refine#[F,r,env,bx,R,End.bind h λk bx1 F1 r1 v H1 g1 R1 d1 h1=>?_];subst d1;cases k with
 |true=>show#[F1,r1,env,bx1,R1,h1]
 |false=>show h1 F1 r1 _ H1 zU R1 zc
theorem Ua (ha:eQ X T Z a ta) (hb:sM X T Z (.BoolOp .Or (b::rest) pos) tb):sM X T Z (.BoolOp .Or (a::b::rest) pos) (pd ta tb):=by
 refine PW.imp (Wc ha hb) λσ H Q=>x4 λF r env bx R h=>?_;refine#[F,r,env,bx,R,End.bind h λk bx1 F1 r1 v H1 g1 R1 d1 h1=>?_];subst d1;cases k with
 |false=>show#[F1,r1,env,bx1,R1,h1]
 |true=>show h1 F1 r1 _ H1 zU R1 zc
theorem SM (h:sM X T Z e ta):eQ X T Z e ta:=h.pt
theorem OL (h:eQ X T Z a ta):eQ X T Z (.UnaryOp .Not a pos) (eG ta):=by
 refine PT.imp (Tu h) λσ H Q=>x4 λF r env bx R h=>?_;refine#[F,r,env,bx,R,End.bind h λk bx1 F1 r1 v H1 g1 R1 d1 h1=>?_];subst d1;show h1 F1 r1 _ H1 zU R1 zc
def gC (m k:DE W):DE W:=λenv bx=>fA zD λw bx1=>match w with|.d (.bl ah)=>k env bx1|.d (.bl af)=>.val (.d<|.bl af) bx1|_=>.bad
def IH (m:DE W):DE W:=λenv bx=>fA zD λw bx1=>match w with|.d (.bl k)=>.val (.d<|.bl<|!k) bx1|_=>.bad
theorem Ub {op}(h:PD X T Z a ma):PD X T Z (.BoolOp op [a] pos) ma:=Tv h
theorem Uc (ha:PD X T Z a ma) (hb:PD X T Z (.BoolOp .And (b::rest) pos) mb):PD X T Z (.BoolOp .And (a::b::rest) pos) (gC ma mb):=by
 refine PE.imp (Tw ha hb) λσ H Q=>x4 λF r env bx R h=>?_;refine#[F,r,env,bx,R,End.bind h λw bx1 F1 r1 v H1 g1 R1 d1 h1=>?_];split at h1
 .show#[ah,d1,(#[F1,r1,env,bx1,R1,h1])]
 .show#[af,d1,(h1 F1 r1 _ H1 zU R1 zc)]
 .show h1.elim
theorem Ud (ha:PD X T Z a ma):PD X T Z (.UnaryOp .Not a pos) (IH ma):=by
 refine PE.imp (Tz ha) λσ H Q=>x4 λF r env bx R h=>?_;refine#[F,r,env,bx,R,End.bind h λw bx1 F1 r1 v H1 g1 R1 d1 h1=>?_];split at h1
 .ext k;show#[k,d1,h1 F1 r1 _ H1 zU R1 zc]
 .show h1.elim
def ph (t:DE Bool) (m k:DE W):DE W:=λenv bx=>fA (t env bx) λb bx1=>match b with|true=>m env bx1|false=>k env bx1
theorem Ue (hc:eQ X T Z c ta) (ha:PD X T Z a ma) (hb:PD X T Z b mb):PD X T Z (.IfExp c a b pos) (ph ta ma mb):=by
 refine PE.imp (Ls hc ha hb) λσ H Q=>x4 λF r env bx R h=>?_;refine#[F,r,env,bx,R,End.bind h λk bx1 F1 r1 v H1 g1 R1 d1 h1=>?_];subst d1;cases k with
 |_=>show#[F1,r1,env,bx1,R1,h1]
noncomputable def pw:List W->Option (List D)
 |[]=>ae []
 |.d x::l=>(pw l).map λt=>x::t
 |_=>ag
theorem kT.ds {F:Hp}{r:List aj}:∀ {ws:List W}{vs:List V}{ds:List D},kT F r ws vs->pw ws=ae ds->aG F ds vs
 |[],_,_,h,e=>by cases e;show h
 | .d x::l,_,ds,h,e=>by
   let#[v,t,q,h1,h2]:=h;unfold pw at e;cases e2:pw l with
   |none=>rw[e2]at e;cases e
   |some t'=>
     rw[e2]at e;cases e;show#[v,t,q,h1,h2.ds e2]
 |.b _::l,_,ds,h,e=>by cases e
 |.s _::l,_,ds,h,e=>by cases e
 |.x _::l,_,ds,h,e=>by cases e
 |.t _::l,_,ds,h,e=>by cases e
 |.m _::l,_,ds,h,e=>by cases e
def fO (k:DE zaf):DE W:=λenv bx=>fA (k env bx) λws bx1=>cj af ((pw ws).bind λl=>if l.length<=sizeLine then ae (.tup l) else ag) bx1
def gN (bo:Bool) (k:DE zaf):DE W:=λenv bx=>fA (k env bx) λws bx1=>cj bo ((pw ws).bind λl=>if l.length<=sizeLine then ae (.lst l) else ag) bx1
theorem Uf {x1}{k:DE zaf}(h:dH X T Z es k):PD X T Z (.Tuple es x1 pos) (fO k):=by
 refine PE.imp (LG h) λσ H Q=>x4 λF r env bx R h=>?_;refine#[F,r,env,bx,R,End.bind h λws bx1 F1 r1 vs H1 g1 R1 d1 h1=>?_];cases e:pw ws with
 |none=>rw[e]at h1;show h1.elim
 |some l=>
   rw[e]at h1;simp[bS]at h1;split at h1
   .have dl:=d1.ds e;refine#[by rw[<-dl.length];assumption,λp hp=>g9 R1 h1<|.inr #[p,vs,rfl,hp,rfl,dl]]
   .show h1.elim
theorem Ug {k:DE zaf}(bo:Bool) (h:dH X T Z es k):PD X T Z (.List es pos) (gN bo k):=by
 refine PE.imp (LH h) λσ H Q=>x4 λF r env bx R h=>?_;refine#[F,r,env,bx,R,End.bind h λws bx1 F1 r1 vs H1 g1 R1 d1 h1=>?_];cases e:pw ws with
 |none=>rw[e]at h1;show h1.elim
 |some l=>
   rw[e]at h1;simp[bS]at h1;split at h1
   .have dl:=d1.ds e;refine#[by rw[<-dl.length];assumption,λp hp=>g9 R1 h1 #[p,vs,rfl,hp,rfl,dl]]
   .show h1.elim
theorem LX {id:String}{q:List V->Hp->VK->zk}{g:List D->Option Res}{k:DE zaf}(bo:Bool) (hc:eE X (.builtin id) q) (hk:km q g) (hg:Gl X x) (hm:X.mg x=ag) (hv:bootBuiltins x=ae (.builtin id)) (ha:dH X T Z (e::es) k)
 (hn:x ≠ "__name__":=by decide) (dO:(x==("__debug__":Str))=af:=by decide)
 (he:starEach (e::es) X.env=(af,eval e X.env)::starEach es X.env:=by rfl) (nu:(backTo pos<|starEach es X.env).any (·.1)=af:=by rfl):PD X T Z z7 (dN bo g k):=
 PE.imp (mN hc hg hm hv ha hn dO he nu) (LS hk)
theorem Js {id:String}{q:List V->Hp->VK->zk}{g:List D->Option Res}{k:DE zaf}(bo:Bool) (hc:eE X (.type id) q) (hk:km q g) (hg:Gl X x) (hm:X.mg x=ag) (hv:bootBuiltins x=ae (.type id)) (ha:dH X T Z (e::es) k)
 (hn:x ≠ "__name__":=by decide) (dO:(x==("__debug__":Str))=af:=by decide)
 (he:starEach (e::es) X.env=(af,eval e X.env)::starEach es X.env:=by rfl) (nu:(backTo pos<|starEach es X.env).any (·.1)=af:=by rfl):PD X T Z z7 (dN bo g k):=
 PE.imp (Jl hc hg hm hv ha hn dO he nu) (LS hk)
def ur (cl:Nat->aj) (n:Nat) (fn:List W->List Bx->O W):Sp:=λvs H Q E=>∃ F r ws bx,Rel #[H,r.length,F] F r [] H [] bx /\ kT F r ws vs /\ ws.length=n /\ End #[H,r.length,F] #[E,cl] bW F r [] [] Q (fn ws bx)
theorem kT.length {F:Hp}{r:List aj}:∀ {ws:List W}{vs:List V},kT F r ws vs->ws.length=vs.length
 | [],_,h=>by
   rw[h];rfl
 | d::l,_,h=>by
   let#[v,t,e,_,h2]:=h;rw[e,bz,bz,h2.length]
theorem Rel.enter (R:Rel T F r σ H env bx):Rel #[H,r.length,F] F r [] H [] bx:=
 #[R.fh,λi w e=>by simp at e,R.len,R.nd,R.box,λa u e _=>e,λn a hn e=>(by rw[rX hn]at e;cases e),aE _,aE _,λa u e=>.inr<|.inl e]
theorem Rel.after {r':List aj}{bx':List Bx}(R:Rel T F r σ H env bx) (g:bA F r F' r') (R':Rel #[H,r.length,F] F' r' [] H' [] bx'):Rel T F' r' σ H' env bx':=by
 have pre:∀ (n) (a),r[n]?=ae a->r'[n]?=ae a:=λn a e=>by
  let#[t,rfl]:=g.p;rw[eK (List.getElem?_eq_some_iff.mp e).1];show e
 have sub:∀ a,a∈r->a∈r':=λa h=>g.p.subset h;refine#[R'.fh,λi w e=>?_,R'.len,R'.nd,R'.box,λa u e hn=>(R'.keep a u (R.keep a u e λz=>hn<|sub a z) hn),λn a hn e=>?_,cB R.n0 g.p.length_le,R.sl,λa u e=>?_]
 .let#[v,e1,e2]:=R.slot i w e;show#[v,e1,g.den e2]
 .by_cases hl:n<r.length
  .have q:=pre n _<|cL hl;rw[e]at q;cases q;show R.new n _ hn<|cL hl
  .have q:H a=ag:=R'.new n a (vA hl) e;cases z:T.H₀ a with
   |none=>rfl
   |some u=>
     have hr:a∉r:=λha=>by
      let#[m,em]:=List.mem_iff_getElem?.mp ha;have:=lA R'.nd (pre m a em) e;show hl (by rw[<-this];show(List.getElem?_eq_some_iff.mp em).1)
     rw[R.keep a u z hr]at q;cases q
 .rcases R'.fs a u e with z|z|z|z
  .show .inl z
  .show(R.fs a u z).imp id (Or.imp id<|Or.imp id<|sub a)
  .by_cases ha:a∈r
   .show .inr<|.inr<|.inr<|sub a ha
   .refine .inr<|.inr<|.inl ?_;cases y:T.H₀ a with
    |none=>rfl
    |some u=>
      have z':H a=ag:=z;rw[R.keep a u y ha]at z';cases z'
  .show .inr<|.inr<|.inr z
def fj (fn:List W->List Bx->O W) (n:Nat) (k:DE zaf):DE W:=λenv bx=>fA (k env bx) λws bx1=>if ws.length=n then fn ws bx1 else .bad
theorem Uh {k:DE zaf}{Q:VK}(h:tD T Z (fj fn n k) σ H Q):adk (ur Z.cl n fn) [] Z.E (IE T Z k) σ H Q:=by
 let#[F,r,env,bx,R,h]:=h;refine#[F,r,env,bx,R,End.bind h λws bx1 F1 r1 vs H1 g1 R1 d1 h1=>?_];split at h1
 .ext hl;refine#[F1,r1,ws,bx1,R1.enter,by rw[tW];show d1,hl,?_];cases e:fn ws bx1 with
  |val w bx'=>rw[e]at h1;show λF' r' v H' g R' d=>h1 F' r' v H' g (R1.after g R') d
  |exc c bx'=>rw[e]at h1;show λF' r' H' g R'=>h1 F' r' H' g (R1.after g R').drop
  |bad=>rw[e]at h1;show h1
 .show h1.elim
theorem OM {f:aj}{ps:List Str}{k:Nat}{m:DE zaf}(G:kR X.prog X.w X.K X.mg X.base (qy X.prog X.w) k f fd ps<|ur Z.cl ps.length fn) (hr:dE k X.A) (hg:Gl X x) (hm:X.mg x=ae (.ref f))
 (hk:PySem.W.keepIn X.K (.ref f)=ah) (hb:Binds X.K fd ps []) (hx:Passes (qy X.prog X.w) X Z.E) (ha:dH X T Z (e::es) m) (dO:(x==("__debug__":Str))=af:=by decide)
 (he:starEach (e::es) X.env=(af,eval e X.env)::starEach es X.env:=by rfl) (nu:(backTo pos<|starEach es X.env).any (·.1)=af:=by rfl):PD X T Z z7 (fj fn ps.length m):=
 PE.imp (Oz G hr hg hm hk hb .nil hx ha dO he nu) λσ H Q h=>Uh h
end
inductive OS where
 |nx (env:aQ) (bx:List Bx)|rt (w:W) (bx:List Bx)|bk (env:aQ) (bx:List Bx)|ct (env:aQ) (bx:List Bx)|exc (c:Nat) (bx:List Bx)|bad
abbrev aA:=aQ->List Bx->OS
def cU (T:Fr) (Z:Xs) (F:Hp) (r:List aj) (D:Ends):OS->zk
 |.nx aT bx'=>∀ F' r' σ' H',bA F r F' r'->Rel T F' r' σ' H' aT bx'->D.nx σ' H'
 |.rt w bx'=>∀ F' r' v H',bA F r F' r'->Rel T F' r' [] H' [] bx'->bW F' r' w v->D.rt v H'
 |.bk aT bx'=>∀ F' r' σ' H',bA F r F' r'->Rel T F' r' σ' H' aT bx'->D.bk σ' H'
 |.ct aT bx'=>∀ F' r' σ' H',bA F r F' r'->Rel T F' r' σ' H' aT bx'->D.ct σ' H'
 |.exc c bx'=>∀ F' r' H',bA F r F' r'->Rel T F' r' [] H' [] bx'->Z.E (.ref<|Z.cl c) ag H'
 |.bad=>False
theorem cU.weak {r':List aj}{D:Ends}(g:bA F r F' r'):∀ {o:OS},cU T Z F r D o->cU T Z F' r' D o
 |.nx _ _,h=>λF2 r2 s2 H2 g2=>h F2 r2 s2 H2<|g.trans g2
 |.rt _ _,h=>λF2 r2 s2 H2 g2=>h F2 r2 s2 H2<|g.trans g2
 |.bk _ _,h=>λF2 r2 s2 H2 g2=>h F2 r2 s2 H2<|g.trans g2
 |.ct _ _,h=>λF2 r2 s2 H2 g2=>h F2 r2 s2 H2<|g.trans g2
 |.exc _ _,h=>λF2 r2 H2 g2=>h F2 r2 H2<|g.trans g2
 |.bad,h=>h
noncomputable def bC (m:O α) (k:α->List Bx->OS):OS:=
 match m with
 |.val a bx=>k a bx
 |.exc c bx=>.exc c bx
 |.bad=>.bad
theorem End.bC {β:Type}{R1:Hp->List aj->α->β->zk}{D:Ends}{Q1:β->Hp->zk}
 {m:O α}{k:α->List Bx->OS}(h:cU T Z F r D<|DL.bC m k)
 (c:∀ d bx1 F1 r1 v H1,bA F r F1 r1->Rel T F1 r1 σ H1 env bx1->R1 F1 r1 d v->cU T Z F1 r1 D (k d bx1)->Q1 v H1):End T Z R1 F r σ env Q1 m:=by
 cases m with
 |val d bx=>show λF' r' v H' g R q=>c d bx F' r' v H' g R q<|cU.weak g h
 |exc n bx=>show h
 |bad=>show h
def tS (T:Fr) (Z:Xs) (m:aA):TS:=λD σ H=>∃ F r env bx,Rel T F r σ H env bx /\ cU T Z F r D zD
def cD (X:Cx) (T:Fr) (Z:Xs) (s:cb) (m:aA):zk:=PS X s<|tS T Z m
def qz (X:Cx) (T:Fr) (Z:Xs) (s:List cb) (m:aA):zk:=kE X s<|tS T Z m
section
variable {a b c:aq} {pos p:aC} {rest:List cb} {m k:aA} {tc:DE Bool}
noncomputable def aU:aA:=λenv bx=>.nx env bx
noncomputable def fu (m k:aA):aA:=λenv bx=>match m env bx with|.nx env1 bx1=>k env1 bx1|o=>o
theorem ON:qz X T Z [] aU:=kE.imp Op λD σ H=>x4 λF r env bx R h=>h F r σ H (.refl F r) R
theorem LY (h1:cD X T Z st m) (h2:qz X T Z rest k):qz X T Z (st::rest) (fu m k):=by
 refine kE.imp (Lu h1 h2) λD σ H=>x4 λF r env bx R h=>#[F,r,env,bx,R,?_];unfold fu at h;cases e:m env bx with
 |nx env1 bx1=>rw[e]at h;show λF1 r1 σ1 H1 g R1=>#[F1,r1,env1,bx1,R1,cU.weak g h]
 |rt w bx1=>rw[e]at h;show h
 |bk env1 bx1=>rw[e]at h;show h
 |ct env1 bx1=>rw[e]at h;show h
 |exc c bx1=>rw[e]at h;show h
 |bad=>rw[e]at h;show h
theorem OP (h1:cD X T Z st m):qz X T Z [st] m:=Oq h1
noncomputable def II:aA:=λenv bx=>.bk env bx
noncomputable def IJ:aA:=λenv bx=>.ct env bx
theorem Jt:cD X T Z (.Break pos) II:=PS.imp Lv λD σ H=>x4 λF r env bx R h=>h F r σ H (.refl F r) R
theorem LZ:cD X T Z (.Continue pos) IJ:=PS.imp CS λD σ H=>x4 λF r env bx R h=>h F r σ H (.refl F r) R
def gj (m:DE W):aA:=λenv bx=>bC zD λ_ bx1=>.nx env bx1
theorem L0 (h:PD X T Z e ma) (hs:swapsWith e ag pos.line X.env=pure af:=by rfl):cD X T Z (.Expr e pos) (gj ma):=by
 show PS.imp (Os h hs) λD σ H=>x4 λF r env bx R h=>(#[F,r,env,bx,R,End.bC h λw bx1 F1 r1 v H1 g1 R1 d1 h1=>h1 F1 r1 σ H1 zU R1])
def fJ (m:DE W):aA:=λenv bx=>bC zD λw bx1=>.rt w bx1
theorem OQ (h:PD X T Z e ma):cD X T Z (.Return (ae e) pos) (fJ ma):=by
 show PS.imp (TB h) λD σ H=>x4 λF r env bx R h=>(#[F,r,env,bx,R,End.bC h λw bx1 F1 r1 v H1 g1 R1 d1 h1=>h1 F1 r1 v H1 zU R1.drop d1])
def aM (t:DE Bool) (m k:aA):aA:=λenv bx=>bC (t env bx) λb bx1=>match b with|true=>m env bx1|false=>k env bx1
theorem Ui {sa sb:List cb}(hc:eQ X T Z c tc) (ha:qz X T Z sa m) (hb:qz X T Z sb k):cD X T Z (.If c sa sb pos) (aM tc m k):=by
 refine PS.imp (Wd hc ha hb) λD σ H=>x4 λF r env bx R h=>?_;refine#[F,r,env,bx,R,End.bC h λw bx1 F1 r1 v H1 g1 R1 d1 h1=>?_];subst d1;cases w with
 |_=>show#[F1,r1,env,bx1,R1,h1]
abbrev DG:=W->aQ->List Bx->Option (aQ×List Bx)
abbrev pB:=List W->aQ->List Bx->Option (aQ×List Bx)
noncomputable def adP (T:Fr) (F:Hp) (r:List aj) (Q:St->Hp->zk):Option (aQ×List Bx)->zk
 |none=>False
 |some (aT,bx')=>∀ F' r' σ' H',bA F r F' r'->Rel T F' r' σ' H' aT bx'->Q σ' H'
def tG (T:Fr) (g:DG):TG:=λv σ H Q=>∃ F r env bx w,Rel T F r σ H env bx /\ bW F r w v /\ adP T F r Q (g w env bx)
def ahM (T:Fr) (g:pB):ug:=λvs σ H Q=>∃ F r env bx ws,Rel T F r σ H env bx /\ kT F r ws vs /\ adP T F r Q (g ws env bx)
def kW (X:Cx) (T:Fr) (tg:aq) (g:DG):zk:=PG X tg<|tG T g
def uu (X:Cx) (T:Fr) (tg:List aq) (g:pB):zk:=sr X tg<|ahM T g
theorem PG.imp {t t':TG}(h:PG X tg t) (f:∀ v σ H Q,t' v σ H Q->t v σ H Q):PG X tg t':=λpins s σ H v u Q I r q=>h pins s σ H v u Q I r<|f v σ H Q q
theorem sr.imp {tg:List aq}{t t':ug}(h:sr X tg t) (f:∀ v σ H Q,t' v σ H Q->t v σ H Q):sr X tg t':=λpins s σ H v u Q I r q=>h pins s σ H v u Q I r<|f v σ H Q q
noncomputable def fe (i:Nat):DG:=λw env bx=>ae (env.set i<|ae w,bx)
theorem Rel.set {F H:Hp}{r:List aj}{σ:St}{env:aQ}{bx:List Bx}(R:Rel T F r σ H env bx) {w:W}{v:V}(d:bW F r w v) (i:Nat):Rel T F r (σ.set i<|ae v) H (env.set i<|ae w) bx:=by
 refine#[R.fh,λj w' e=>?_,R.len,R.nd,R.box,R.keep,R.new,R.n0,by rw[qo,qo];show R.sl,R.fs];by_cases hj:j=i
 .subst hj;have hl:j<env.length:=by
   have:=(List.getElem?_eq_some_iff.mp e).1;rw[qo]at this;show this
  rw[pN hl]at e;cases e;show#[v,pN<|kB hl R.sl,d]
 .rw[tV<|Ne.symm hj]at e;let#[u,e1,e2]:=R.slot j w' e;show#[u,by rw[tV<|Ne.symm hj];show e1,e2]
theorem L1 (i:Nat) (hN:X.N.Nodup) (hi:X.N[i]?=ae x:=by rfl) (hx:Loc X.env.scope x:=by first|show Or.inl zc|show Or.inr zc) (hf:X.fn x=ah \/ X.env.scope.names.lookup x=ae .local:=by first|show .inl zc|show .inr zc|assumption):kW X T (.Name x pos) (fe i):=
 PG.imp (Ce hN hi hx hf) λv σ H Q=>x5 λF r env bx w R d h=>h F r _ H (.refl F r)<|R.set d i
noncomputable def fS:pB:=λws env bx=>match ws with|[]=>ae (env,bx)|_=>ag
noncomputable def fq (g:DG) (k:pB):pB:=λws env bx=>match ws with|w::l=>(g w env bx).bind λ(env1,bx1)=>k l env1 bx1|_=>ag
theorem L3:uu X T [] fS:=sr.imp F7 λv σ H Q=>x5 λF r env bx w R d h=>by
 cases w with
 |nil=>show#[d,h F r σ H (.refl F r) R]
 |cons _ _=>show h.elim
theorem Ju {g:DG}{k:pB}(h1:kW X T e g) (h2:uu X T es k) (hs:(assignEach (e::es) X.env).map (·.2)=assign e X.env::(assignEach es X.env).map (·.2):=by rfl):uu X T (e::es) (fq g k):=by
 refine sr.imp (Ax h1 h2 hs) λv σ H Q=>x5 λF r env bx ws R d h=>?_;cases ws with
 |nil=>show h.elim
 |cons w l=>
   let#[u,t,rfl,d1,d2]:=d;refine#[u,t,rfl,F,r,env,bx,w,R,d1,?_];unfold fq at h;cases eg:g w env bx with
   |none=>simp[eg]at h;show h.elim
   |some o=>
     let#[env1,bx1]:=o;simp[eg,bS]at h;intro F1 r1 σ1 H1 g1 R1;refine#[F1,r1,env1,bx1,l,R1,d2.mono g1,?_];cases ek:k l env1 bx1 with
     |none=>simp[ek]at h;show h.elim
     |some o2=>
       simp[ek]at h;show λF2 r2 σ2 H2 g2 R2=>h F2 r2 σ2 H2 (g1.trans g2) R2
theorem aG.ws {F:Hp}{r:List aj}:∀ {l:List D}{vs:List V},aG F l vs->kT F r (l.map W.d) vs
 |[],_,h=>h
 | d::l,_,h=>by
   let#[v,t,e,h1,h2]:=h;show#[v,t,e,h1,h2.ws]
noncomputable def fR (n:Nat) (k:pB):DG:=λw env bx=>match w with|.d (.tup l)=>if l.length=n then k (l.map W.d) env bx else ag|_=>ag
theorem OR {k:pB}{i:Nat}(hc:X.calm=ah) (h:uu X T es k) (hn:(assignEach es X.env).length=n:=by rfl) (yP:(assignEach es X.env).findIdx? (·.1)=ag:=by rfl):kW X T (.Tuple es i pos) (fR n k):=by
 refine PG.imp (Lw hc h hn yP) λv σ H Q=>x5 λF r env bx w R d h=>?_;unfold fR at h;split at h
 .split at h
  .ext hl;let#[p,vs,rfl,h1,h2]:=d;show#[p,vs,rfl,.of<|R.fh _ _ h1,by rw[<-h2.length];show hl,F,r,env,bx,_,R,h2.ws,h]
  .show h.elim
 .show h.elim
def fF (m:DE W) (g:DG):aA:=λenv bx=>bC zD λw bx1=>match g w env bx1 with|some (env1,bx2)=>.nx env1 bx2|none=>.bad
theorem Wo {g:DG}{D:Ends}(h:tS T Z (fF ma g) D σ H):Ic (tD T Z ma) (tG T g) D σ H:=by
 let#[F,r,env,bx,R,h]:=h;refine#[F,r,env,bx,R,End.bC h λw bx1 F1 r1 v H1 g1 R1 d1 h1=>#[F1,r1,env,bx1,w,R1,d1,?_]];cases eg:g w env bx1 with
 |none=>simp[eg]at h1;show h1.elim
 |some o=>simp[eg]at h1;show h1
theorem Gg {g:DG}(he:PD X T Z e ma) (hg:kW X T tg g) (hs:swapsWithSole [tg] e pos.line X.env=pure af:=by rfl) (hw:swappedStores [tg] e X.env=pure ag:=by rfl)
 (h1:(assignEach [tg] X.env).map (·.2)=[assign tg X.env]:=by rfl):cD X T Z (.Assign [tg] e pos) (fF ma g):=
 PS.imp (Lx he hg hs hw h1) λD σ H h=>Wo h
theorem OT (i:Nat) (he:PD X T Z e ma) (hN:X.N.Nodup) (hi:X.N[i]?=ae x:=by rfl) (hx:Loc X.env.scope x:=by first|show Or.inl zc|show Or.inr zc) (hs:swapsWith e (ae<|.Name x pos') pos.line X.env=pure af:=by rfl) (hf:X.fn x=ah \/ X.env.scope.names.lookup x=ae .local:=by first|show .inl zc|show .inr zc|assumption) :
 cD X T Z (.Assign [.Name x pos'] e pos) (fF ma<|fe i):=by
 show PS.imp (TD hN hi hx he hs hf) λD σ H=>x4 λF r env bx R h=>(#[F,r,env,bx,R,End.bC h λw bx1 F1 r1 v H1 g1 R1 d1 h1=>h1 F1 r1 _ H1 zU<|R1.set d1 i])
def dQ (i j:Nat) (m:DE zaf):aA:=λenv bx=>bC zD λws bx1=>match ws with|[x,y]=>.nx ((env.set i<|ae x).set j<|ae y) bx1|_=>.bad
theorem Wp {i:Nat}{m:DE zaf}{D:Ends}(h:tS T Z (dQ i j m) D σ H):ac8 i j (IE T Z m) D σ H:=by
 let#[F,r,env,bx,R,h]:=h;refine#[F,r,env,bx,R,End.bC h λws bx1 F1 r1 vs H1 g1 R1 d1 h1=>?_];split at h1
 .let#[v,t,rfl,q1,u,t2,rfl,q2,q3]:=d1;cases (q3);show#[v,u,rfl,h1 F1 r1 _ H1 zU<|(R1.set q1 i).set q2 j]
 .show h1.elim
def uZ (F:Hp) (r:List aj) (ds:List W) (J:It):zk:=
 ∀ (T:Fr) (i:Nat) (F1:Hp) (r1:List aj) (σ1:St) (H1:Hp) (env1:aQ) (bx1:List Bx),bA F r F1 r1->Rel T F1 r1 σ1 H1 env1 bx1 ->
  (ds.length=i->J.stop i H1) /\ ∀ w,ds[i]?=ae w->J.go i H1 /\ ∀ x H2,J.yQ i H1 x H2->∃ F2,bA F1 r1 F2 r1 /\ Rel T F2 r1 σ1 H2 env1 bx1 /\ bW F2 r1 w x
def tI (T:Fr) (Z:Xs) (m:DE zaf):TI:=λσ H R=>∃ F r env bx,Rel T F r σ H env bx /\ End T Z uZ F r σ env R zD
def uv (X:Cx) (T:Fr) (Z:Xs) (tg iter:aq) (m:DE zaf):zk:=PI X tg iter<|tI T Z m
theorem PI.imp {t t':TI}(h:PI X tg iter t) (f:∀ σ H Q,t' σ H Q->t σ H Q):PI X tg iter t':=λpins s σ H R I q=>h pins s σ H R I<|f σ H R q
noncomputable def bX (g:DG) (body:aA):List W->aA
 |[],env,bx=>.nx env bx
 | w::l,env,bx=>match g w env bx with
   |none=>.bad
   | some (env1,bx1)=>match body env1 bx1 with
     |.nx bL bx2=>bX g body l bL bx2
     |.ct bL bx2=>bX g body l bL bx2
     |.bk bL bx2=>.nx bL bx2
     |o=>o
def iX (m:DE zaf) (g:DG) (body:aA):aA:=λenv bx=>bC zD λds bx1=>bX g body ds env bx1
theorem L4 {g:DG}{D:Ends}{H1 F1:Hp}{r1:List aj}{ds:List W}{J:It}(R1:Rel T F1 r1 σ H1 env bx1) (y1:uZ F1 r1 ds J) (h1:cU T Z F1 r1 D<|bX g m ds env bx1) :
 ∃ W:Nat->Nat->St->Hp->zk,(∃ m,W 0 m σ H1) /\ ∀ i n σ H,W i n σ H->(J.stop i H /\ D.nx σ H) \/ (J.go i H /\ ∃ N:St->Hp->zk,(∀ σ' H',N σ' H'->∃ n',n'<n /\ W (i+1) n' σ' H') /\ ∀ x H',J.yQ i H x H'->tG T g x σ H' λσ2 H2=>tS T Z m { D with nx:=N,ct:=N,bk:=D.nx } σ2 H2):=by
 refine#[λi n σ' H'=>∃ pre l F' r' aT bx',ds=pre++l /\ pre.length=i /\ n=l.length /\ bA F1 r1 F' r' /\ Rel T F' r' σ' H' aT bx' /\ cU T Z F' r' D (bX g m l aT bx'),#[ds.length,[],ds,F1,r1,env,bx1,rfl,rfl,rfl,.refl F1 r1,R1,h1],?_];rintro i n σ' H' ⟨pre,l,F',r',aT,bx',pY,hi,hn,g',R',h'⟩;let#[ys,yg]:=y1 T i F' r' σ' H' aT bx' g' R';cases l with
 |nil=>show .inl #[ys (by rw[pY,tW];lia),h' F' r' σ' H' (.refl F' r') R']
 |cons w l=>
   let#[go,yl]:=yg w (by rw[pY,nF za,hi,tU];rfl);refine .inr #[go,λσ2 H2=>∃ F2 r2 bL bx2,bA F1 r1 F2 r2 /\ Rel T F2 r2 σ2 H2 bL bx2 /\ cU T Z F2 r2 D _,λσ2 H2 ⟨F2,r2,bL,bx2,g2,R2,h2⟩=>#[l.length,by rw[hn];show nE _,pre++[w],l,F2,r2,bL,bx2,by rw[pY,pO];rfl,by rw[cX,hi];rfl,rfl,g2,R2,h2],λx H2 hy=>?_];let#[F2,g2,R2,d2]:=yl x H2 hy;refine#[F2,r',aT,bx',w,R2,d2,?_];simp[bX]at h';cases eg:g w aT bx' with
   |none=>simp[eg]at h';show h'.elim
   |some o=>
     let#[qA,bQ]:=o;simp[eg]at h';intro F3 r3 σ3 H3 g3 R3;refine#[F3,r3,qA,bQ,R3,?_];have gg:=(g'.trans g2).trans g3;cases em:m qA bQ with
     |nx uw c8=>simp[em]at h';show λF4 r4 σ4 H4 g4 R4=>#[F4,r4,uw,c8,gg.trans g4,R4,cU.weak ((g2.trans g3).trans g4) h']
     |ct uw c8=>simp[em]at h';show λF4 r4 σ4 H4 g4 R4=>#[F4,r4,uw,c8,gg.trans g4,R4,cU.weak ((g2.trans g3).trans g4) h']
     |bk uw c8=>simp[em]at h';show λF4 r4 σ4 H4 g4 R4=>h' F4 r4 σ4 H4 ((g2.trans g3).trans g4) R4
     |rt w c8=>simp[em]at h';show cU.weak (g2.trans g3) h'
     |exc c c8=>simp[em]at h';show cU.weak (g2.trans g3) h'
     |bad=>simp[em]at h';show h'
theorem Wq {g:DG}{D:Ends}(h:tS T Z (iX mi g m) D σ H):Ih (tI T Z mi) (tG T g) (tS T Z m) D σ H:=by
 let#[F,r,env,bx,R,h]:=h;show#[F,r,env,bx,R,End.bC h λds bx1 F1 r1 J H1 g1 R1 y1 h1=>L4 R1 y1 h1]
theorem OU {body:List cb}{g:DG}(hp:PassesOwn zf X.A X.env X.xe) (hc:X.calm=ah) (hi:uv X T Z tg iter mi) (hg:kW X T tg g) (hb:qz X T Z body m)
 (hs:∀ x,foldedSetIterable iter X.env x=pure x:=by intro _;rfl):cD X T Z (.For tg iter body [] pos) (iX mi g m):=
 PS.imp (D8 hp hc hi hg hb hs) λD σ H h=>Wq h
def bq (m:DE W):DE zaf:=λenv bx=>fA zD λw bx1=>match w with|.d (.lst l)=>.val (l.map W.d) bx1|.d (.tup l)=>.val (l.map W.d) bx1|_=>.bad
end
noncomputable def pC:OS->O W
 |.rt w bx=>.val w bx
 |.nx _ bx=>.val (.d .non) bx
 |.exc c bx=>.exc c bx
 |_=>.bad
noncomputable def pD (n:Nat):O W->O W
 |.val (.d x) bx=>.val (.d x)<|bx.take n
 |.val w bx=>.val w bx
 |.exc c bx=>.exc c<|bx.take n
 |.bad=>.bad
noncomputable def envOf (n:Nat) (ws:List W):aQ:=ws.map ae++List.replicate (n-ws.length) ag
def aX (n:Nat) (m:aA):List W->List Bx->O W:=λws bx=>pD bx.length<|pC<|m (envOf n ws) bx
noncomputable def aP (m:aA):aA:=λenv bx=>match m env bx with|.exc _ _=>.bad|o=>o
theorem kT.get {F:Hp}{r:List aj}:∀ {l:List W}{vs:List V}{i:Nat}{d:W},kT F r l vs->l[i]?=ae d->∃ v,vs[i]?=ae v /\ bW F r d v
 |[],_,_,_,_,e=>by simp at e
 | x::l,_,0,d,h,e=>by
   let#[v,t,q,h1,_]:=h;simp at e;subst e;subst q;show#[v,rfl,h1]
 | x::l,_,i+1,d,h,e=>by
   let#[v,t,q,_,h2]:=h;subst q;let#[u,e1,e2]:=kT.get h2 (by simpa using e);show#[u,by simpa using e1,e2]
theorem Rel.start {T:Fr}{F H:Hp}{r:List aj}{bx:List Bx}{N:List Str}{ws:List W}{vs:List V}(R:Rel T F r [] H [] bx) (d:kT F r ws vs):Rel T F r (start N vs) H (envOf N.length ws) bx:=by
 have hl:=d.length;refine#[R.fh,λi w e=>?_,R.len,R.nd,R.box,R.keep,R.new,R.n0,?_,R.fs]
 .unfold envOf at e;unfold L2.start;by_cases hi:i<ws.length
  .rw[eK (by rw[aR];show hi),kL]at e;cases q:ws[i]? with
   |none=>rw[q]at e;cases e
   |some w'=>
     rw[q]at e;cases e;let#[v,e1,e2]:=d.get q;refine#[v,?_,e2];rw[eK (by rw[aR,<-hl];show hi),kL,e1];rfl
  .rw[nF (by rw[aR];lia)]at e;rw[abu]at e;split at e<;>cases e
 .unfold envOf L2.start;rw[cX,cX,aR,aR,xf,xf,hl];show aE _
theorem Wr {l l':List α}(h:l <+: l'):l'.take l.length=l:=by
 let#[t,rfl]:=h;simp
theorem Rel.cut {r':List aj}{bx':List Bx}(g:bA F r F' r') (R:Rel #[H,r.length,F] F' r' [] H' [] bx'):Rel #[H,r.length,F] F' r [] H' [] (bx'.take r.length):=by
 have hle:=g.p.length_le;have pre:∀ (n) (a),r[n]?=ae a->r'[n]?=ae a:=λn a e=>by
  let#[t,rfl]:=g.p;rw[eK (List.getElem?_eq_some_iff.mp e).1];show e
 refine#[R.fh,λi w e=>by simp at e,?_,(List.Sublist.nodup (List.IsPrefix.sublist g.p) R.nd),λn c a e1 e2=>?_,λa u e hn=>?_,λn a hn e=>?_,aE _,aE _,λa u e=>?_]
 .rw[vD,<-R.len];lia
 .rw[abv (List.getElem?_eq_some_iff.mp e2).1]at e1;show R.box n c a e1<|pre n a e2
 .refine R.keep a u e λz=>?_;let#[m,em]:=List.mem_iff_getElem?.mp z;by_cases hm:m<r.length
  .have q:=pre m _<|cL hm;rw[em]at q;cases q;show hn<|nG hm
  .have q':=(R.new m a (vA hm) em);rw[e]at q';cases q'
 .rw[rX hn]at e;cases e
 .rcases R.fs a u e with y|z|z|z
  .show .inl y
  .show .inr<|.inl z
  .show .inr<|.inr<|.inl z
  .let#[m,em]:=List.mem_iff_getElem?.mp z;by_cases hm:m<r.length
   .have q:=pre m _<|cL hm;rw[em]at q;cases q;show .inr<|.inr<|.inr<|nG hm
   .show .inr<|.inr<|.inl<|R.new m a (vA hm) em
theorem OV {Q:VK}(hb:bx.length=r.length) {o:O W}(h:End #[H,r.length,F] Z bW F r [] [] Q<|pD bx.length o):End #[H,r.length,F] Z bW F r [] [] Q o:=by
 rw[hb]at h;cases o with
 |bad=>show h
 |exc c bx1=>show λF' r' H' g R=>h F' r H' #[g.s,pP r]<|R.cut g
 |val w bx1=>
   cases w with
   |d x=>show λF' r' v H' g R d=>h F' r v H' #[g.s,pP r] (R.cut g) d
   |b n=>show h
   |s l=>show h
   |x i=>show h
   |_=>show h
theorem OW {Q:VK}{o:OS}(h:End T Z bW F r [] [] Q<|pC o):cU T Z F r { nx:=λ_ H'=>Q .non H',rt:=Q } o:=by
 cases o with
 |nx env bx=>show λF' r' σ' H' g R=>h F' r' .non H' g R.drop zc
 |rt w bx=>show λF' r' v H' g R d=>h F' r' v H' g R d
 |exc c bx=>show h
 |bk env bx=>show(h).elim
 |ct env bx=>show(h).elim
 |bad=>show h
section
variable {qual:Str} {f:aj} {ps:List Str} {k:Nat} {m:aA} 
theorem Ws {sp:Sp}(G:kR P w K mg base yY k f fd ps sp):kR P w K mg base CX k f fd ps sp:=
 #[G.len,λA outer s H args us vs Q E hr e0 hb hv hs=>wU (G.run A outer s H args us vs Q E hr e0 hb hv hs) λr s' h=>by
  cases r with
  |error e=>show False.elim h
  |ok fl=>
    cases fl with
    |ret u=>show h
    |next=>show h
    |brk=>show h
    |cont=>show h]
theorem Wt (F:qx K x qual st f fd) (S:xH N ps<|fP st)
 (vS:∀ (bO:ai) (A:eN) (outer:List Env) (s:au) (H:Hp) (E:XK) (n:Nat) (F0:Hp),dE k (A.deeper<|envOfC qual (fP st) s.heap.objs.size f bO) ->
  qz (vR yY P w K mg base N qual (fP st) f bO A outer s H E).xE #[H,n,F0] #[E0,cl] (g6 st) m):kR P w K mg base (qy P w) (k+1) f fd ps (ur cl ps.length<|aX N.length<|aP m):=by
 refine Ws<|F.ok S (λvs H Q E h=>?_) λbO A outer s H vs Q E hr h=>?_
 .let#[F,r,ws,bx,_,d,hl,_]:=h;rw[<-d.length];show hl
 .let#[F,r,ws,bx,R,d,hl,h]:=h;refine#[_,vS bO A outer s H E r.length F hr,F,r,envOf N.length ws,bx,R.start d,?_];have h':=OW<|OV R.len.symm h;unfold aP at h';cases e:m _ bx with
  |nx env bx1=>simp[e]at h';show h'
  |rt w bx1=>simp[e]at h';show h'
  |bk env bx1=>simp[e]at h';show h'
  |ct env bx1=>simp[e]at h';show h'
  |exc c bx1=>simp[e]at h';show h'.elim
  |bad=>simp[e]at h';show h'
end
theorem Gh:Passes (qy X.prog X.w) X E0:=λ_ _ _ _ _ _ _ h=>by
 let#[_,_,_,_,_,_,_,_,_,_,_,_,_,h]:=h;show h.elim
section
variable {m:aA} {alC:List cb}
end
noncomputable def bindB {β:Type}(m:O α) (k:α->List Bx->O β):O β:=
 match m with
 |.val a bx=>k a bx
 |_=>.bad
def bK (g:DG) (tf:DE Bool) (te:DE W):List W->aQ->List Bx->List D->O (List D)
 |[],_,bx,acc=>.val acc bx
 | w::l,env,bx,acc=>match g w env bx with
   |none=>.bad
   | some (env1,bx1)=>bindB (tf env1 bx1) λb bx2=>match b with
     |false=>bK g tf te l env1 bx2 acc
     | true=>bindB (te env1 bx2) λy bQ=>match y with
       |.d d=>if acc.length<sizeLine then bK g tf te l env1 bQ (acc++[d]) else .bad
       |_=>.bad
noncomputable def eR (src:List<|Option Nat) (env:aQ):aQ:=src.map λo=>o.bind λi=>(env[i]?).bind id
def fL (bo:Bool) (src:List<|Option Nat) (mi:DE zaf) (g:DG) (tf:DE Bool) (te:DE W):DE W:=λenv bx=>
 fA (mi env bx) λds bx1=>fA (bK g tf te ds (eR src env) bx1 []) λl bx2=>cj bo (ae<|.lst l) bx2
theorem Rel.src {T:Fr}{F H:Hp}{r:List aj}{σ:St}{env:aQ}{bx:List Bx}(R:Rel T F r σ H env bx) (src:List<|Option Nat):Rel T F r (uX src σ) H (eR src env) bx:=by
 refine#[R.fh,λj w e=>?_,R.len,R.nd,R.box,R.keep,R.new,R.n0,?_,R.fs]
 .unfold eR at e;unfold L2.uX;rw[kL]at e ⊢;cases q:src[j]? with
  |none=>rw[q]at e;cases e
  |some o=>
    rw[q]at e;cases o with
    |none=>cases e
    |some i=>
      have e':(env[i]?).bind id=ae w:=Option.some.inj e;cases z:env[i]? with
      |none=>rw[z]at e';cases e'
      |some o'=>
        rw[z]at e';have e2:=e';subst e2;let#[v,e1,e2]:=R.slot i w z;show#[v,by simp[e1],e2]
 .unfold eR L2.uX;rw[aR,aR];show aE _
theorem Rel.inner {r':List aj}{σ':St}{aT:aQ}{bx':List Bx}(R:Rel T F r σ H env bx) (g:bA F r F' r') (R':Rel #[H,r.length,F] F' r' σ' H' aT bx'):Rel T F' r' σ' H' aT bx':=by
 have q:=R.after g R'.drop;show#[q.fh,R'.slot,q.len,q.nd,q.box,q.keep,q.new,q.n0,R'.sl,q.fs]
theorem Rel.again (R:Rel T F r σ H env bx):Rel #[H,r.length,F] F r σ H env bx:=
 #[R.fh,R.slot,R.len,R.nd,R.box,λa u e _=>e,λn a hn e=>(by rw[rX hn]at e;cases e),aE _,R.sl,λa u e=>.inr<|.inl e]
structure Own (F:Hp) (r:List aj) (H:Hp) (a:aj) (vs:List V):zk where
 h:H a=ae (.lst vs)
 f:F a=ag
 b:a∉r
theorem Own.inner {r':List aj}{σ':St}{aT:aQ}{bx':List Bx}{vs:List V}(o:Own F r H a vs) (g:bA F r F' r') (R':Rel #[H,r.length,F] F' r' σ' H' aT bx'):Own F' r' H' a vs:=by
 have hb:a∉r':=λz=>by
  let#[m,em]:=List.mem_iff_getElem?.mp z;by_cases hm:m<r.length
  .let#[t,e]:=g.p;rw[<-e,eK hm]at em;show o.b<|List.mem_iff_getElem?.mpr #[m,em]
  .have q:H a=ag:=R'.new m a (vA hm) em;rw[o.h]at q;cases q
 refine#[R'.keep a _ o.h hb,?_,hb];cases q:F' a with
 |none=>rfl
 |some u=>
   rcases R'.fs a u q with⟨Ee,rfl⟩|z|z|z
   .have:=R'.fh a _ q;rw[R'.keep a _ o.h hb]at this;cases this
   .have z':F a=ae u:=z;rw[o.f]at z';cases z'
   .have z':H a=ag:=z;rw[o.h]at z';cases z'
   .show absurd z hb
end L2.DL
namespace L2
theorem Jv (it:aj) (lo:Int) (n:Nat):Turn P w K tg (vM lo n) [it] it (λi h=>IsLongIter h it (lo+(i:Nat)*1) ((n:Int)-(i:Nat)) 1) where
 mem:=by simp
 obj:=λi h st b hb=>by
  have e:b=it:=by simpa using hb
  subst e;show#[_,st,λv z=>by
   cases z]
 keep:=λi h h' st k=>k it zj _ st
 item:=by
  intro X hP hw hK hc i pins s σ H E I hf st hg;subst hP hw hK;let#[f0,f1,f2,f3,f4,f5]:=hf it zj;refine(Walks.longrange (prog:=X.prog) (w:=X.w) (I.ok.hd hc) it lo 1 n).item i s _ _ hg st λv h' tk hv n8 kk=>?_;let#[t,rfl]:=hv;refine#[_,rfl,CT n8 zc zc (rfl) #[.int _,H,(I.turned (λb o hb e=>kk b o (by simpa using hb) e) f0 f1 f3 f4 f5),#[t,?_],#[rfl,rfl],n8,λb hb=>(hf b hb).1]];rw[HN]
 done:=by
  intro X hP hw hK hc i pins s σ H E I hf st hg;subst hP hw hK;let#[f0,f1,f2,f3,f4,f5]:=hf it zj;show wpAny_pyNext_long_end (I.ok.hd hc) st (by have:n<=i:=hg;lia) λh' eb=>#[rfl,I.turned (λb o hb e=>eb b o hb e) f0 f1 f3 f4 f5]
 self:=λ_ _ _ _ _ st h=>wpAny_pyIter_longiter st h
theorem oB {s:au}{R:It->Hp->zk}{lo hi:Int}{t u v:Tok}{tk:Nat}(I:Inv X pins σ H s)
 (q:R (vM lo (hi-lo).toNat) H):wpAny zf X.A (pyIter zab) (XZ X pins σ tg R) E { s with heap:=s.heap.push { cls:=.type "range",data:=.fields (List.toArray [.int lo t,.int hi u,.int 1 v]) },toks:=tk }:=by
 have e1:lo+((0))*1=lo:=by simp
 have e2:(((hi-lo).toNat))-((0))=Builtin.Range.rangeSize lo hi 1:=by rw[aaU];split<;>lia
 have I1:Inv X pins σ H { s with heap:=s.heap.push { cls:=.type "range",data:=.fields (List.toArray [.int lo t,.int hi u,.int 1 v]) },toks:=tk }:=I.kept λb o e=>aN _ e;have hf:∀ b∈[(s.heap.push { cls:=.type "range",data:=.fields (List.toArray [.int lo t,.int hi u,.int 1 v]) }).objs.size],n6 X pins H b:=λb hb=>by
  have e:b=(s.heap.push { cls:=.type "range",data:=.fields (List.toArray [.int lo t,.int hi u,.int 1 v]) }).objs.size:=by simpa using hb
  subst e;show I1.vL (aE _)<|I1.aD.fresh<|aE _
 cases hb:Builtin.Range.small lo hi 1 with
 |true=>
   refine aaT (IsRange.new ..) hb ?_;refine#[_,_,_,_,H,rfl,I1.kept λb o e=>aN _ e,Ay _ lo (hi-lo).toNat,?_,hf,q];change IsRangeIter _ _ (lo+((0))*1) ((((hi-lo).toNat))-((0))) 1;rw[e1,e2];show bB _ zc
 |false=>
   refine wpAny_pyIter_longrange (IsRange.new ..) hb ?_;refine#[_,_,_,_,H,rfl,I1.kept λb o e=>aN _ e,Jv _ lo (hi-lo).toNat,?_,hf,q];change IsLongIter _ _ (lo+((0))*1) ((((hi-lo).toNat))-((0))) 1;rw[e1,e2];show bB _ zc
def ahN (ta:TA):TI:=λσ H R=>ta σ H λvs H1=>∃ i j:Int,vs=[.int i,.int j] /\ R (vM i (j-i).toNat) H1
theorem Jw {a b:aq}{ta:TA}{p pos:aC}(hg:Gl X "range") (hm:X.mg "range"=ag) (ha:PA X [a,b] ta) (hs:starEach [a,b] X.env=[(af,eval a X.env),(af,eval b X.env)]:=by rfl) (nv:starEach [b] X.env=[(af,eval b X.env)]:=by rfl) :
 PI X tg (.Call (.Name "range" p) [a,b] [] pos) (ahN ta):=by
 intro pins s σ H R I h;refine Call_<|jj I hg hm boot_range<|Hy (tA (ha pos pins s σ H _ I h) λus s1 vs H1 I1 r1 q1=>?_) (by rw[hs,nv]) (by rw[nv];rfl);let#[i,j,e,q]:=q1;subst e;cases r1 with
 |cons r rr=>
   cases rr with
   |cons r' rr=>
     cases rr;let#[t,rfl]:=r;let#[t',rfl]:=r';show call_range_2<|oB I1 q
end L2
namespace L2.DL
theorem Rel.adQ (R:Rel T F r σ H env bx) {o:HO}(h:H p=ag):Rel T F r σ (upd H p o) env bx:=by
 have hs:∀ a u,H a=ae u->upd H p o a=ae u:=λa u e=>by rw[fC<|f8 e h];show e
 show#[λa u e=>hs a u<|R.fh a u e,R.slot,R.len,R.nd,λn c a e1 e2=>(R.box n c a e1 e2).grow (Sub.refl F) id<|hs a,λa u e hn=>hs a u<|R.keep a u e hn,R.new,R.n0,R.sl,R.fs]
theorem Rel.ahO (R:Rel T F r σ H env bx) {vs:List V}{o:HO}(w:Own F r H p vs) (hT:T.H₀ p=ag):Rel T F r σ (upd H p o) env bx:=by
 refine#[λa u e=>?_,R.slot,R.len,R.nd,λn c a e1 e2=>?_,λa u e hn=>?_,R.new,R.n0,R.sl,R.fs]
 .rw[fC (λz=>by rw[z,w.f]at e;cases e)];show R.fh a u e
 .have ha:a≠p:=λz=>w.b<|List.mem_iff_getElem?.mpr #[n,z▸e2];show(R.box n c a e1 e2).grow (Sub.refl F) id λu z=>by rw[fC ha];show z
 .rw[fC (λz=>by rw[z,hT]at e;cases e)];show R.keep a u e hn
theorem Rel.ahP (R:Rel T F r σ H env bx) {vs:List V}(w:Own F r H p vs) (hT:T.H₀ p=ag):Rel T (upd F p<|.lst vs) r σ H env bx /\ bA F r (upd F p<|.lst vs) r:=by
 have s:=iJ (o:=.lst vs) w.f;refine#[#[λa u e=>?_,λi w e=>?_,R.len,R.nd,λn c a e1 e2=>?_,R.keep,R.new,R.n0,R.sl,λa u e=>?_],s,pP r]
 .by_cases ha:a=p
  .subst ha;rw[fw]at e;cases e;show w.h
  .rw[fC ha]at e;show R.fh a u e
 .let#[v,e1,e2]:=R.slot i w e;show#[v,e1,e2.mono s<|pP r]
 .have ha:a≠p:=λz=>w.b<|List.mem_iff_getElem?.mpr #[n,z▸e2];show(R.box n c a e1 e2).grow s (λz=>by rw[fC ha];show z) λu z=>z
 .by_cases ha:a=p
  .subst ha;show .inr<|.inr<|.inl hT
  .rw[fC ha]at e;show R.fs a u e
theorem Rel.ahQ (R:Rel T F r σ H env bx) {vs:List V}{l:List D}(w:Own F r H p vs) (hT:T.H₀ p=ag) (d:aG F l vs):Rel T F (r++[p]) σ H env (bx++[.lst l]) /\ bA F r F (r++[p]) /\ (r++[p])[bx.length]?=ae p:=by
 have g:bA F r F _:=#[Sub.refl F,xh r [p]];refine#[#[R.fh,λi w e=>?_,by rw[cX,cX,R.len];rfl,?_,λn c' a e1 e2=>?_,λa u e hn=>R.keep a u e λz=>hn<|qP _ z,λn a hn e=>?_,by rw[cX];show cB R.n0 (vC _ _),R.sl,λa u e=>(R.fs a u e).imp id<|Or.imp id<|Or.imp id λz=>qP _ z],g,(by rw[<-R.len,nF<|aE _,tU];rfl)]
 .let#[v,e1,e2]:=R.slot i w e;show#[v,e1,g.den e2]
 .rw[uR];refine#[R.nd,by simp,λa ha b hb=>?_];rw[kN]at hb;subst hb;show λz=>w.b<|z▸ha
 .by_cases hn:n<r.length
  .rw[eK hn]at e2;rw[eK (by rw[<-R.len];show hn)]at e1;show R.box n c' a e1 e2
  .rw[nF za]at e2;rw[nF (by rw[<-R.len];lia)]at e1;have hl:n-r.length=0:=by
    cases q:n-r.length with
    |zero=>rfl
    |succ k=>rw[q]at e2;simp at e2
   have kU:n-bx.length=0:=by rw[<-R.len];show hl
   rw[hl]at e2;rw[kU]at e1;simp at e1 e2;subst e1 e2;show#[w.f,vs,w.h,d]
 .by_cases hl:n<r.length
  .rw[eK hl]at e;show R.new n a hn e
  .have hp:a=p:=by
    rw[nF za]at e;cases q:n-r.length with
    |zero=>rw[q]at e;simp at e;show e.symm
    |succ k=>rw[q]at e;simp at e
   subst hp;show hT
section
variable {src:List (Option Nat)} {elt:aq} {scope:bT} {pos:aC} {g:DG} 
abbrev Ef (g:DG):TG:=λv σ H Q=>∃ T,tG T g v σ H Q
abbrev Eg (Z:Xs) (tf:DE Bool):TT:=λσ H Q=>∃ T,sL T Z tf σ H Q
abbrev Eh (Z:Xs) (te:DE W):TE:=λσ H Q=>∃ T,tD T Z te σ H Q
theorem Rel.slots {T':Fr}{r':List aj}{σ':St}{aT:aQ}{bx':List Bx}(R:Rel T F r σ H env bx) (g:bA F r F' r') (R':Rel T' F' r' σ' H' aT bx'):Rel T' F' r' σ H' env bx' :=
 #[R'.fh,λi w e=>let ⟨v,e1,e2⟩:=R.slot i w e;#[v,e1,g.den e2],R'.len,R'.nd,R'.box,R'.keep,R'.new,R'.n0,R.sl,R'.fs]
theorem Fd {Q:VK}{F1 H1:Hp}{r1:List aj}{ds:List W}{J:It}(R1:Rel T F1 r1 σ H1 env bx1) (y1:uZ F1 r1 ds J)
 (h1:End T Z bW F1 r1 σ env Q<|fA (bK g tf te ds (eR src env) bx1 []) λl bx2=>cj bo (ae<|.lst l) bx2) (Da:aj) (hD:H1 Da=ag):adF J (Ef g) (Eg #[E0,Z.cl] tf) (Eh #[E0,Z.cl] te) Da Q (uX src σ) (upd H1 Da<|.lst []):=by
 have hT:T.H₀ Da=ag:=by
  cases q:T.H₀ Da with
  |none=>rfl
  |some u=>rw[R1.keep Da u q<|R1.xR hD]at hD;cases hD
 refine#[λi n σ' H'=>∃ pre l F' r' aT bx' acc vs,ds=pre++l /\ pre.length=i /\ n=l.length /\ bA F1 r1 F' r' /\ Rel T F' r' σ' H' aT bx' /\ Own F' r' H' Da vs /\ aG F' acc vs /\
  End T Z bW F' r' σ env Q (fA (bK g tf te l aT bx' acc) λl bx2=>cj bo (ae<|.lst l) bx2),
  #[ds.length,[],ds,F1,r1,_,bx1,[],[],rfl,rfl,rfl,.refl F1 r1,(R1.adQ hD).src src,#[fw,R1.rh hD,R1.xR hD],.nil,h1],?_]
 rintro i n σ' H' ⟨pre,l,F',r',aT,bx',acc,vs,pY,hi,hn,g',R',o',da,h'⟩;let#[ys,yg]:=y1 _ i F' r' σ' H' aT bx' g' R'.again;cases l with
 |nil=>
   refine .inl #[ys (by rw[pY,tW];lia),?_];have RO:=R1.slots g' R';cases bo with
   | false=>show(λh'=>by
     let#[RA,gA]:=RO.ahP o' hT;show h' _ r' _ H' gA RA #[Da,vs,rfl,fw,aG.mono gA.s acc da]) h'
   |true=>
     let#[RB,gB,hx]:=RO.ahQ o' hT da;show h' F' _ _ H' gB RB #[Da,rfl,hx]
 |cons w l=>
   let#[go,yl]:=yg w (by rw[pY,nF za,hi,tU];rfl);refine .inr #[go,λσ2 H2=>∃ F2 r2 bL bx2 IK Ei,bA F1 r1 F2 r2 /\ Rel T F2 r2 σ2 H2 bL bx2 /\ Own F2 r2 H2 Da Ei /\ aG F2 IK Ei /\
    End T Z bW F2 r2 σ env Q (fA (bK g tf te l bL bx2 IK) λl bx2=>cj bo (ae<|.lst l) bx2),
    λσ2 H2 ⟨F2,r2,bL,bx2,IK,Ei,g2,R2,o2,d2,h2⟩=>#[l.length,by rw[hn];show nE _,pre++[w],l,F2,r2,bL,bx2,IK,Ei,by rw[pY,pO];rfl,by rw[cX,hi];rfl,rfl,g2,R2,o2,d2,h2],λx H2 hy=>?_]
   let#[F2,g2,R2,d2]:=yl x H2 hy;have adR:=R'.inner g2 R2;refine#[#[H2,r'.length,F2],F2,r',aT,bx',w,adR.again,d2,?_];simp[bK]at h';cases eg:g w aT bx' with
   |none=>simp[eg]at h';show h'.elim
   |some o=>
     let#[qA,bQ]:=o;simp[eg]at h';intro F3 r3 σ3 H3 g3 R3;have adS:=adR.inner g3 R3;refine#[#[H3,r3.length,F3],F3,r3,qA,bQ,adS.again,?_];cases ef:tf qA bQ with
     |bad=>simp[ef]at h';show h'.elim
     |exc c c8=>simp[ef]at h';show h'.elim
     |val b c8=>
       simp[ef,bindB]at h';intro F4 r4 b' H4 g4 R4 eb;subst eb;have Zh:=adS.inner g4 R4;have o4:=((o'.inner g2 R2).inner g3 R3).inner g4 R4;have adT:=((g'.trans g2).trans g3).trans g4;have Zi:=(g2.trans g3).trans g4;cases b with
       |false=>
         rw[if_neg ze];show#[F4,r4,qA,c8,acc,vs,adT,Zh,o4,aG.mono Zi.s acc da,End.weak Zi h']
       |true=>
         rw[if_pos rfl];refine#[#[H4,r4.length,F4],F4,r4,qA,c8,Zh.again,?_];cases ee:te qA c8 with
         |bad=>simp[ee]at h';show h'.elim
         |exc c adU=>simp[ee]at h';show h'.elim
         |val y adU=>
           simp[ee]at h';intro F5 r5 v H5 g5 R5 d5;have o5:=o4.inner g5 R5;have adV:=Zi.trans g5;cases y with
           |d d=>
             simp at h';split at h'
             .ext hz;refine#[vs,o5.h,by rw[<-da.length];show hz,F5,r5,qA,adU,acc++[d],vs++[v],adT.trans g5,(Zh.inner g5 R5).ahO o5 hT,#[fw,o5.f,o5.b],(aG.mono adV.s acc da).append<|.cons d5 .nil,End.weak adV h']
             .show h'.elim
           |b n=>show h'.elim
           |s l=>show h'.elim
           |x i=>show h'.elim
           |_=>show h'.elim
theorem L5 {Q:VK}(h:tD T Z (fL bo src mi g tf te) σ H Q):Iz src (tI T Z mi) (Ef g) (Eg #[E0,Z.cl] tf) (Eh #[E0,Z.cl] te) σ H Q:=by
 let#[F,r,env,bx,R,h]:=h;show#[F,r,env,bx,R,End.bind h λds bx1 F1 r1 J H1 g1 R1 y1 h1=>Fd R1 y1 h1]
theorem OX (bo:Bool) (hc:X.calm=ah) (S:sI X N src scope) (hi:uv X T Z tg iter mi)
 (hg:∀ T cl s H C fp,kW zN T tg g) (hf:∀ T cl s H C fp,PF zN ifs<|sL T #[E0,Z.cl] tf) (he:∀ T cl s H C fp,PD zN T #[E0,Z.cl] elt te)
 (hs:∀ x,foldedSetIterable iter X.env x=pure x:=by intro _;rfl):PD X T Z zy (fL bo src mi g tf te):=
 PE.imp (OG hc S hi (λcl s H C fp pins s' σ' H' v u Q I rv ⟨T,q⟩=>hg T cl s H C fp pins s' σ' H' v u Q I rv q)
  (λcl s H C fp pins s' σ' H' Q I ⟨T,q⟩=>hf T cl s H C fp pins s' σ' H' Q I q) (λcl s H C fp pins s' σ' H' Q I ⟨T,q⟩=>he T cl s H C fp pins s' σ' H' Q I q) hs) λσ H Q h=>L5 h
noncomputable def fM:DE Bool:=λ_ bx=>.val ah bx
theorem OY:PF X [] (sL T Z fM):=λpins s σ H Q I ⟨F,r,env,bx,R,h⟩=>T3 pins s σ H Q I<|h F r ah H (.refl F r) R zc
theorem OZ {c:aq}{t:DE Bool}(h:eQ X T Z c t):PF X [c] (sL T Z t):=T4 h
theorem BL {l:List D}{i:Nat}{w:W}(e:(l.map W.d)[i]?=ae w):∃ d,l[i]?=ae d /\ w=.d d:=by
 rw[kL]at e;cases q:l[i]? with
 |none=>rw[q]at e;cases e
 |some d=>rw[q]at e;cases e;show#[d,rfl,rfl]
noncomputable def fQ (lo:Int) (n:Nat):List W:=(List.range n).map λ(i:Nat)=>W.d<|.int<|lo+i
theorem mS (lo:Int) (n:Nat):uZ F r (fQ lo n) (vM lo n):=λT i F1 r1 σ1 H1 env1 bx1 g R=>by
 unfold fQ;refine#[λhl=>?_,λw e=>?_]
 .rw[aR,vE]at hl;show xa hl
 .rw[kL]at e;cases q:(List.range n)[i]? with
  |none=>rw[q]at e;cases e
  |some j=>
    rw[q]at e;cases e;let#[h1,h2]:=List.getElem?_eq_some_iff.mp q;rw[List.getElem_range]at h2;subst h2;rw[vE]at h1;refine#[h1,λx H2 ⟨e1,e2⟩=>?_];subst e1 e2;show#[F1,.refl F1 r1,R,rfl]
def dR (k:DE zaf):DE zaf:=λenv bx=>fA (k env bx) λws bx1=>match ws with
 |[.d<|.int j]=>if -(2 ^ 62)<=j /\ j<2 ^ 62 then .val (fQ 0 j.toNat) bx1 else .bad
 |_=>.bad
theorem Fe {a:aq}{p pos:aC}{k:DE zaf}(hg:Gl X "range") (hm:X.mg "range"=ag) (ha:dH X T Z [a] k) (hs:starEach [a] X.env=[(af,eval a X.env)]:=by rfl):uv X T Z tg (.Call (.Name "range" p) [a] [] pos) (dR k):=by
 refine PI.imp (Jd hg hm ha hs) λσ H Q=>x4 λF r env bx R h=>?_;refine#[F,r,env,bx,R,End.bind h λws bx1 F1 r1 vs H1 g1 R1 d1 h1=>?_];split at h1
 .ext j;split at h1
  .ext hj;let#[v,t,rfl,e1,e2]:=d1;cases (e2);cases (e1);show#[j,rfl,hj.1,hj.2,h1 F1 r1 _ H1 zU R1<|mS 0 j.toNat]
  .show h1.elim
 .show h1.elim
def sN (k:DE zaf):DE zaf:=λenv bx=>fA (k env bx) λws bx1=>match ws with
 |[.d<|.int i,.d<|.int j]=>.val (fQ i (j-i).toNat) bx1
 |_=>.bad
theorem Ff {a b:aq}{p pos:aC}{k:DE zaf}(hg:Gl X "range") (hm:X.mg "range"=ag) (ha:dH X T Z [a,b] k) (hs:starEach [a,b] X.env=[(af,eval a X.env),(af,eval b X.env)]:=by rfl) (nv:starEach [b] X.env=[(af,eval b X.env)]:=by rfl) :
 uv X T Z tg (.Call (.Name "range" p) [a,b] [] pos) (sN k):=by
 refine PI.imp (Jw hg hm ha hs nv) λσ H Q=>x4 λF r env bx R h=>?_;refine#[F,r,env,bx,R,End.bind h λws bx1 F1 r1 vs H1 g1 R1 d1 h1=>?_];split at h1
 .ext i j;let#[v,t,rfl,e1,v2,t2,rfl,e2,e3]:=d1;cases (e3);cases (e1);cases (e2);show#[i,j,rfl,h1 F1 r1 _ H1 zU R1<|mS i _]
 .show h1.elim
end
section
variable {a b c:aq} {pos p:aC}
def adW (K:PySem.W.Frag):R2:=λx y H Q=>∃ a b ys,x=.ref a /\ y=.ref b /\ cP K H a [] /\ cP K H b ys /\ Q (.ref b) H
theorem L6:bc X (binaryOp .Add) (adW X.K):=by
 intro pins s σ H x y v u Q I rx ry h;let#[a,b,ys,rfl,rfl,ha,hb,q]:=h;cases rx;cases ry;let#[its,r1,p1,_]:=I.tuple ha;let#[sC,r2,p2,_]:=I.tuple hb;cases r1;let#[#[cls,dd,data,sl],ho,hc,n,hd]:=id p1;let#[#[adm,uW,data2,sx],sy,kS,n2,hd2]:=id p2;subst hc hd kS hd2
 show QN #[_,ho,rfl] #[_,sy,rfl] QO QP XB XC (XD _ _)
  (tuple_addW0 a b ([]).toArray sC.toArray n n2 dd uW sl sx<|rfl) #[ho,sy,#[.ref b,H,I,rfl,q]]
def adX (K:PySem.W.Frag):R2:=λx y H Q=>kQ (λi j=>.int<|i+j) x y H Q \/ ado K x y H Q \/ adW K x y H Q \/ adB x y H Q \/ ∃ i j,x=.str i /\ y=.str j /\ i.length+j.length<=sizeLine /\ Q (.str<|i++j) H
theorem O0:bc X (binaryOp .Add) (adX X.K):=TL.or<|OD.or<|L6.or<|T0.or D9
noncomputable def fK:D->D->Option Res
 |.int i,.int j=>ae<|.old<|.int<|i+j
 |.tup a,.tup b=>if a.length+b.length<=sizeLine then ae (.tup<|a++b) else ag
 |.lst a,.lst b=>if a.length+b.length<=sizeLine then ae (.lst<|a++b) else ag
 |.str a,.str b=>if a.length+b.length<=sizeLine then ae (.old<|.str<|a++b) else ag
 |_,_=>ag
theorem aG.eq_nil {l:List D}{vs:List V}(h:aG F l vs):vs=[] ↔ l=[]:=by
 have:=h.length;cases l<;>cases vs<;>simp_all
theorem ahR:cx (adX K) fK:=by
 intro F H x y v w Q s sub rx ry e k;unfold fK at e;split at e
 .ext i j;cases e;show .inl #[i,j,rx,ry,k _ _ #[rfl,rfl]]
 .split at e
  .ext hz;cases e;let#[a,vs,rfl,h1,h2]:=rx;let#[b,ws,rfl,h3,h4]:=ry;by_cases hv:vs=[]
   .subst hv;have hl:=h2.eq_nil.mp zc;subst hl;show .inr<|.inr<|.inl #[a,b,ws,rfl,rfl,.of<|sub _ _ h1,.of<|sub _ _ h3,k _ _<|.inl #[rfl,b,ws,rfl,h3,h4]]
   .refine .inr (.inl #[a,b,vs,ws,rfl,rfl,.of<|sub _ _ h1,.of<|sub _ _ h3,hv,by rw[<-h2.length,<-h4.length];show hz,λhw=>?_,λhw p hp=>k _ _<|.inr #[p,vs++ws,rfl,hp,rfl,h2.append h4]]);have hl:=h4.eq_nil.mp hw;subst hl;show k _ _ (.inl #[rfl,a,vs,rfl,h1,by rw[tW];show h2])
  .cases e
 .split at e
  .ext hz;cases e;let#[a,vs,rfl,h1,h2]:=rx;let#[b,ws,rfl,h3,h4]:=ry;show .inr<|.inr<|.inr (.inl #[a,b,vs,ws,rfl,rfl,h1,h3,by rw[<-h2.length,<-h4.length];show hz,λp hp=>k _ _ #[p,vs++ws,rfl,hp,rfl,h2.append h4]])
  .cases e
 .ext i j;split at e
  .ext hz;cases e;show .inr<|.inr<|.inr<|.inr #[i,j,rx,ry,hz,k _ _ #[rfl,rfl]]
  .cases e
 .cases e
theorem Zj {C:Int->Int->zk} [∀ i j,Decidable<|C i j] {g:Int->Int->D}{gv:Int->Int->V}(hg:∀ i j F,Den F (g i j)<|gv i j):cx (rI C gv) λx y=>match x,y with|.int i,.int j=>if C i j then ae (.old<|g i j) else ag|_,_=>ag:=by
 intro F H x y v w Q s sub rx ry e k;dsimp only at e;split at e
 .ext i j;split at e
  .ext hc;cases e;show#[i,j,rx,ry,hc,k _ _ #[rfl,hg i j F]]
  .cases e
 .cases e
theorem IL {g:Int->Int->D}{gv:Int->Int->V}(hg:∀ i j F,Den F (g i j)<|gv i j):cx (kQ gv) λx y=>match x,y with|.int i,.int j=>ae (.old<|g i j)|_,_=>ag:=by
 intro F H x y v w Q s sub rx ry e k;dsimp only at e;split at e
 .ext i j;cases e;show#[i,j,rx,ry,k _ _ #[rfl,hg i j F]]
 .cases e
noncomputable def cE:D->D->Option Res:=λx y=>match x,y with|.int i,.int j=>ae (.old<|.int<|i-j)|_,_=>ag
theorem ahS:cx (kQ λi j=>.int<|i-j) cE:=IL λ_ _ _=>rfl
instance (i j:Int):Decidable (vP i j):=by unfold vP;show inferInstance
def sO (i j:Int):zk:=0<j /\ j<10 ^ 40
theorem L7:bc X (binaryOp .FloorDiv) (rI sO λi j=>.int<|i / j):=Ii λi j _ _ _ _ _ hc q=>by
 have h1:=hc.1;have h2:=hc.2;refine floordiv_int za (by rw[Int.fdiv_eq_ediv_of_nonneg i za];show q)<|.inl<|PyProof.noPylong_of_log2 ?_;have h3:j.natAbs.log2<133:=(Nat.log2_lt za).mpr za;lia
instance (i j:Int):Decidable (sO i j):=by unfold sO;show inferInstance
instance (i j:Int):Decidable (xG i j):=by unfold xG;show inferInstance
noncomputable def nK:D->D->Option Res:=λx y=>match x,y with|.int i,.int j=>if sO i j then ae (.old<|.int<|i / j) else ag|_,_=>ag
theorem ahT:cx (rI sO λi j=>.int<|i / j) nK:=Zj λ_ _ _=>rfl
noncomputable def pE:D->D->Option Res:=λx y=>match x,y with|.int i,.int j=>if 0<j then ae (.old<|.int<|i % j) else ag|_,_=>ag
theorem ahU:cx (rI (λ_ j=>0<j) λi j=>.int<|i % j) pE:=Zj λ_ _ _=>rfl
noncomputable def dS:D->D->Option Res:=λx y=>match x,y with|.int i,.int j=>if xG i j then ae (.old<|.int<|i ^ j.toNat) else ag|_,_=>ag
theorem ahV:cx (rI xG λi j=>.int<|i ^ j.toNat) dS:=Zj λ_ _ _=>rfl
noncomputable def intsOf:List D->Option (List Int)
 |[]=>ae []
 |.int i::l=>(intsOf l).map λt=>i::t
 |_=>ag
theorem aG.ints {F:Hp}:∀ {l:List D}{vs:List V}{ns:List Int},aG F l vs->intsOf l=ae ns->vs=ns.map V.int
 |[],_,_,h,e=>by cases e;show h
 | .int i::l,_,ns,h,e=>by
   let#[v,r,q,h1,h2]:=h;unfold intsOf at e;cases e2:intsOf l with
   |none=>rw[e2]at e;cases e
   |some t=>
     rw[e2]at e;cases e;rw[q,h2.ints e2,h1];rfl
 |.non::l,_,_,_,e=>by cases e
 |.bl _::l,_,_,_,e=>by cases e
 |.str _::l,_,_,_,e=>by cases e
 |.tup _::l,_,_,_,e=>by cases e
 |.lst _::l,_,_,_,e=>by cases e
 |.aB _::l,_,_,_,e=>by cases e
noncomputable def nL:D->D->Option Res:=λx y=>match x,y with|.int i,.int j=>ae (.old<|.bl<|decide (j<i))|_,_=>ag
theorem ahW:cx (kQ λi j=>.bl<|decide (j<i)) nL:=IL λ_ _ _=>rfl
noncomputable def ny:D->D->Option Res:=λx y=>match x,y with|.int i,.int j=>ae (.old<|.bl<|decide (j<=i))|_,_=>ag
theorem ahX:cx (kQ λi j=>.bl<|decide (j<=i)) ny:=IL λ_ _ _=>rfl
def ax:D->D->Option Res
 |.lst l,.int i=>(bF l i).map Res.old
 |.tup l,.int i=>(bF l i).map Res.old
 |_,_=>ag
theorem Gi {l:List D}{vs:List V}{i:Int}{d:D}(h:aG F l vs) (e:bF l i=ae d):∃ v,bF vs i=ae v /\ Den F d v:=by
 unfold bF at e ⊢;rw[<-h.length];cases q:cA l.length i with
 |none=>rw[q]at e;cases e
 |some j=>rw[q]at e;show h.get e
theorem ahY:cx (adt K) ax:=by
 intro F H x y v w Q s sub rx ry e k;unfold ax at e;split at e
 .ext l i;let#[a,vs,rfl,h1,h2]:=rx;cases e1:bF l i with
  |none=>rw[e1]at e;cases e
  |some d=>
    rw[e1]at e;cases e;let#[u,e2,du]:=Gi h2 e1;show .inl #[a,vs,i,u,rfl,ry,.of h1,e2,k _ _ #[rfl,du]]
 .ext l i;let#[a,vs,rfl,h1,h2]:=rx;cases e1:bF l i with
  |none=>rw[e1]at e;cases e
  |some d=>
    rw[e1]at e;cases e;let#[u,e2,du]:=Gi h2 e1;show .inr<|.inl #[a,vs,i,u,rfl,ry,.of<|sub _ _ h1,e2,k _ _ #[rfl,du]]
 .cases e
noncomputable def bV:List D->Option Res
 |[.lst l]=>ae<|.old<|.int l.length
 |[.tup l]=>ae<|.old<|.int l.length
 |_=>ag
theorem ahZ:km (λxs H Q=>∃ p ys,xs=[.ref p] /\ (bN K H p ys \/ cP K H p ys) /\ Q (.int ys.length) H) bV:=by
 intro F H xs vs Q s sub rx e k;unfold bV at e;split at e
 .cases e;let#[v,t,rfl,#[a,us,rfl,h1,h2],rt]:=rx;cases (rt);show#[a,us,rfl,.inl<|.of h1,k _ _ #[rfl,by rw[<-h2.length];rfl]]
 .cases e;let#[v,t,rfl,#[a,us,rfl,h1,h2],rt]:=rx;cases (rt);show#[a,us,rfl,.inr<|.of<|sub _ _ h1,k _ _ #[rfl,by rw[<-h2.length];rfl]]
 .cases e
noncomputable def rm:D->String
 |.non=>"NoneType"|.bl _=>"bool"|.int _=>"int"|.str _=>"str"|.tup _=>"tuple"|.lst _=>"list"|.aB _=>"dict"
noncomputable def u4 (S T:String):Bool:=S==T||(S == "bool"&&T == "int")
def pZ (K:PySem.W.Frag) (T:String):zk:=∀ d:D,PySem.W.kitOne K (.type<|rm d) (.type T)=ae (u4 (rm d) T)
theorem Wu (sub:Sub F H):∀ {d:D}{v:V},pb F H d v->n9 K H v (.type<|rm d)
 |.non,_,h=>by cases (h);show .non
 |.bl b,_,h=>by cases (h);show .bl b
 |.int b,_,h=>by cases (h);show .int b
 |.str b,_,h=>by cases (h);show .str b
 |.tup l,_,h=>by let#[a,vs,rfl,h1,h2]:=h;show .tup<|sub _ _ h1
 |.lst l,_,h=>by let#[a,vs,rfl,h1,h2]:=h;show .lst h1
 |.aB l,_,h=>by let#[a,vs,rfl,h1,h2]:=h;show .dK h1
def lC (n:String) (m:DE W):DE W:=λenv bx=>fA zD λw bx1=>match bU bx1 w with|some d=>.val (.d<|.bl<|u4 (rm d) n) bx1|none=>.bad
theorem O3 {n:String}{p p1:aC}(hT:pZ X.K n) (hg:Gl X "isinstance") (hm:X.mg "isinstance"=ag) (wc:Gl X x) (we:X.mg x=ag) (hv:bootBuiltins x=ae (.type n)) (ha:PD X T Z a ma)
 (hn:x ≠ "__name__":=by decide) (dO:(x==("__debug__":Str))=af:=by decide)
 (adY:starEach [a,.Name x p1] X.env=(af,eval a X.env)::starEach [.Name x p1] X.env:=by rfl) (ah0:starEach [.Name x p1] X.env=(af,eval (.Name x p1) X.env)::starEach [] X.env:=by rfl)
 (nu:(backTo pos<|starEach [.Name x p1] X.env).any (·.1)=af:=by rfl):PD X T Z (.Call (.Name "isinstance" p) [a,.Name x p1] [] pos) (lC n ma):=by
 refine PE.imp (mN Jq hg hm (by decide +kernel) (jq ha (jq (On wc we hv (v:=.ty n) zc hn dO) lu ah0) adY) ze (rfl) adY nu) λσ H Q=>x4 λF r env bx R h=>?_;refine#[F,r,env,bx,R,End.bind h λw bx1 F1 r1 v H1 g1 R1 d1 h1=>?_];cases e:bU bx1 w with
 |none=>simp[e]at h1;show h1.elim
 |some d=>
   simp[e]at h1;show#[v,.ty n,_,.type n,_,rfl,.of<|Wu R1.fh<|R1.rj d1 e,rfl,hT d,h1 F1 r1 _ H1 zU R1 zc]
end
section
variable {a b c:aq} {pos p:aC}
def adZ (K:PySem.W.Frag):R2:=λx y H Q=>∃ a b xs,x=.ref a /\ y=.ref b /\ cP K H a xs /\ cP K H b [] /\ Q (.bl xs.isEmpty) H
theorem Uj (hu:X.A.units<cLine):bc X (compareOp .Eq) (adZ X.K):=by
 intro pins s σ H x y v u Q I rx ry h;let#[a,b,xs,rfl,rfl,h1,h2,q]:=h;cases rx;cases ry;let#[i1,r1,p1,z1]:=I.tuple h1;let#[i2,r2,p2,z2]:=I.tuple h2;cases r2;refine SeqAt.eq_tupleAt (e:=λ_=>ah) p1 p2 hu (λj h1 h2=>absurd h2 zj) #[.bl xs.isEmpty,H,I,?_,q];have:=r1.length;cases xs<;>cases i1<;>simp_all[RelV]
def ad0 (K:PySem.W.Frag):R2:=λx y H Q=>∃ (a b:aj) (ns ms:List Int),x=.ref a /\ y=.ref b /\ bN K H a (ns.map V.int) /\ bN K H b (ms.map V.int) /\ Q (.bl<|decide (ns=ms)) H
theorem Jx {ms:List Int}(h:ns.length=ms.length):((List.range ns.length).all λj=>(ns.getD j 0==ms.getD j 0))=decide (ns=ms):=by
 rw[kK,cY,decide_eq_true_iff];constructor
 .intro q;refine List.ext_getElem h λj h1 h2=>?_;have:=q j<|List.mem_range.mpr h1;simpa[h1,h2] using this
 .rintro rfl j _;simp
theorem Uk (hu:X.A.units<cLine):bc X (compareOp .Eq) (ad0 X.K):=by
 intro pins s σ H x y v u Q I rx ry h;let#[a,b,ns,ms,rfl,rfl,h1,h2,q]:=h;cases rx;cases ry;let#[i1,r1,p1,z1]:=I.list h1;let#[i2,r2,p2,z2]:=I.list h2;have l1:ns.length=i1.length:=by have:=r1.length;simpa using this
 have l2:ms.length=i2.length:=by have:=r2.length;simpa using this
 by_cases hl:ns.length=ms.length
 .refine SeqAt.eq_listAt (e:=λj=>ns.getD j 0==ms.getD j 0) p1.isList p2.isList zg hu (λj h1 h2=>?_) ?_
  .have g1:j<i1.length:=by simpa using h1
   have g2:j<i2.length:=by simpa using h2
   let#[w1,e1,q1]:=r1.get (i:=j) (x:=V.int<|ns[j]'(by lia)) zj;let#[w2,e2,q2]:=r2.get (i:=j) (x:=V.int<|ms[j]'(by lia)) zj;have k1:i1[j]=w1:=by rw[cL g1]at e1;show Option.some.inj e1
   have k2:i2[j]=w2:=by rw[cL g2]at e2;show Option.some.inj e2
   change SeqAt.EqAt _ _ i1[j] i2[j] _;rw[k1,k2];let#[t,rfl]:=q1;let#[t',rfl]:=q2;have d1:ns.getD j 0=ns[j]'(by lia):=by simp[show j<ns.length by lia]
   have d2:ms.getD j 0=ms[j]'(by lia):=by simp[show j<ms.length by lia]
   rw[d1,d2];show XI _ _ _ _
  .rw[show i1.toArray.size=ns.length by simp;lia,Jx hl];show#[.bl _,H,I,rfl,q]
 .refine SeqAt.eq_list_lengthsAt p1.isList p2.isList zg hu #[.bl af,H,I,rfl,?_];rw[decide_eq_false λz=>hl (by rw[z])]at q;show q
def IM (K:PySem.W.Frag):R2:=λx y H Q=>adg x y H Q \/ adZ K x y H Q \/ ad0 K x y H Q
theorem O4 (hu:X.A.units<cLine):bc X (compareOp .Eq) (IM X.K):=Wf.or<|(Uj hu).or<|Uk hu
def Zk:D->D->Option Res
 |.int i,.int j=>ae<|.old<|.bl<|decide (i=j)
 |.str i,.str j=>ae<|.old<|.bl<|decide (i=j)
 |.tup l,.tup []=>ae<|.old<|.bl l.isEmpty
 |.lst a,.lst b=>(intsOf a).bind λns=>(intsOf b).map λms=>.old<|.bl<|decide (ns=ms)
 |_,_=>ag
theorem ah1:cx (IM K) Zk:=by
 intro F H x y v w Q s sub rx ry e k;unfold Zk at e;split at e
 .cases e;cases (rx);cases (ry);show .inl #[rfl,k _ _ #[rfl,by change _=_;simp]]
 .cases e;cases (rx);cases (ry);show .inl #[rfl,k _ _ #[rfl,by change _=_;simp]]
 .cases e;let#[a,vs,rfl,h1,h2]:=rx;let#[b,ws,rfl,h3,h4]:=ry;cases (h4);show .inr (.inl #[a,b,vs,rfl,rfl,.of<|sub _ _ h1,.of<|sub _ _ h3,k _ _ #[rfl,by change _=_;rw[h2.isEmpty]]])
 .ext l l';cases e1:intsOf l with
  |none=>rw[e1]at e;cases e
  |some ns=>
    cases e2:intsOf l' with
    |none=>rw[e1,e2]at e;cases e
    |some ms=>
      rw[e1,e2]at e;cases e;let#[a,vs,rfl,h1,h2]:=rx;let#[b,ws,rfl,h3,h4]:=ry;have q1:=h2.ints e1;have q2:=h4.ints e2;subst q1 q2;show .inr<|.inr #[a,b,ns,ms,rfl,rfl,.of h1,.of h3,k _ _ #[rfl,rfl]]
 .cases e
def ad1 (K:PySem.W.Frag):R2:=λx y H Q=>∃ a b xs,x=.ref a /\ y=.ref b /\ bN K H a xs /\ bN K H b [] /\ Q (.bl<|!xs.isEmpty) H
theorem Ul (hu:X.A.units<cLine):bc X (compareOp .NotEq) (ad1 X.K):=by
 intro pins s σ H x y v u Q I rx ry h;let#[a,b,xs,rfl,rfl,h1,h2,q]:=h;cases rx;cases ry;let#[i1,r1,p1,z1]:=I.list h1;let#[i2,r2,p2,z2]:=I.list h2;cases r2;cases r1 with
 |nil=>show SeqAt.RcNeAt.lists (e:=λ_=>ah) p1.isList p2.isList zc hu (λj h1 h2=>absurd h2 zj) X.prog X.w X.xe _ #[.bl af,H,I,rfl,q]
 |cons _ _=>show agI p1.isList p2.isList (rfl) hu X.prog X.w X.xe _ #[.bl ah,H,I,rfl,q]
def IP (K:PySem.W.Frag):R2:=λx y H Q=>adh x y H Q \/ ad1 K x y H Q
theorem O5 (hu:X.A.units<cLine):bc X (compareOp .NotEq) (IP X.K):=Wg.or<|Ul hu
noncomputable def Zl:D->D->Option Res
 |.int i,.int j=>ae<|.old<|.bl<|!decide (i=j)
 |.str i,.str j=>ae<|.old<|.bl<|!decide (i=j)
 |.lst l,.lst []=>ae<|.old<|.bl<|!l.isEmpty
 |_,_=>ag
theorem ah2:cx (IP K) Zl:=by
 intro F H x y v w Q s sub rx ry e k;unfold Zl at e;split at e
 .cases e;cases (rx);cases (ry);show .inl #[rfl,k _ _ #[rfl,by change _=_;simp]]
 .cases e;cases (rx);cases (ry);show .inl #[rfl,k _ _ #[rfl,by change _=_;simp]]
 .cases e;let#[a,vs,rfl,h1,h2]:=rx;let#[b,ws,rfl,h3,h4]:=ry;cases (h4);show .inr #[a,b,vs,rfl,rfl,.of h1,.of h3,k _ _ #[rfl,by change _=_;rw[h2.isEmpty]]]
 .cases e
def ad2 (K:PySem.W.Frag) (vs:List V) (H:Hp) (Q:VK):zk:=∃ (p:aj) (bs:List Bool),vs=[.ref p] /\ H p=ae (.lst<|bs.map V.bl) /\ Q (.bl<|bs.all id) H
theorem Jy (hc:X.calm=ah):eE X (.builtin "all") (ad2 X.K):=by
 intro pins s σ H xs us Q I rv h;let#[p,bs,rfl,hp,q]:=h;let#[u,rfl,ru]:=Vals.one rv;cases ru;let#[its,r1,p1,z1]:=I.list<|bN.of hp;have hl:=p1.isList;have hlen:bs.length=its.length:=by have:=r1.length;simpa using this
 refine call_all_walk<|wR hl ?_
 refine#[s.heap.objs.size,[s.heap.objs.size,p],[s.heap.objs.size],its.toArray.size,_,_,λi=>(bs[i]?).getD ah,rfl,Walks.list (A:=X.A.in1) (I.ok.hd hc) _ p (bI (by let#[_,e,_]:=hl;show a9 e)) its.toArray,
  #[#[_,bB _ zc,rfl,rfl],hl.push _],λi v s' Q' E' hP hQ=>?_,λh' tk hk=>?_]
 .have Ej:its[i]?=ae v:=by simpa using hP
  have hi:i<bs.length:=by rw[hlen];show(List.getElem?_eq_some_iff.mp Ej).1
  let#[w,e1,e2]:=r1.get (i:=i) (x:=V.bl bs[i]) zj;rw[Ej]at e1;cases e1;cases e2;simp[cL hi]at hQ;show qi hQ
 .have e:((List.range its.toArray.size).all λi=>(bs[i]?).getD ah)=bs.all id:=by
   rw[bY,<-hlen];show LSm.range_all bs
  rw[e];show#[.bl _,H,I.kept<|acJ hk,rfl,q]
noncomputable def p5:List D->Option (List Bool)
 |[]=>ae []
 |.bl i::l=>(p5 l).map λt=>i::t
 |_=>ag
theorem aG.Zm {F:Hp}:∀ {l:List D}{vs:List V}{ns:List Bool},aG F l vs->p5 l=ae ns->vs=ns.map V.bl
 |[],_,_,h,e=>by cases e;show h
 | .bl i::l,_,ns,h,e=>by
   let#[v,r,q,h1,h2]:=h;unfold p5 at e;cases e2:p5 l with
   |none=>rw[e2]at e;cases e
   |some t=>
     rw[e2]at e;cases e;rw[q,h2.Zm e2,h1];rfl
 |.non::l,_,_,_,e=>by cases e
 |.int _::l,_,_,_,e=>by cases e
 |.str _::l,_,_,_,e=>by cases e
 |.tup _::l,_,_,_,e=>by cases e
 |.lst _::l,_,_,_,e=>by cases e
 |.aB _::l,_,_,_,e=>by cases e
def dI:List D->Option Res
 |[.lst l]=>(p5 l).map λbs=>.old<|.bl<|bs.all id
 |_=>ag
theorem ah3:km (ad2 K) dI:=by
 intro F H xs vs Q s sub rx e k;unfold dI at e;split at e
 .ext l;let#[v,t,rfl,#[a,us,rfl,h1,h2],rt]:=rx;cases (rt);cases e1:p5 l with
  |none=>rw[e1]at e;cases e
  |some bs=>
    rw[e1]at e;cases e;have q1:=h2.Zm e1;subst q1;show#[a,bs,rfl,h1,k _ _ #[rfl,rfl]]
 .cases e
theorem ah4:km (λxs H Q=>∃ p ys,xs=[.ref p] /\ ((bN K H p ys /\ ∀ l,H l=ag->Q (.ref l) (upd H l<|.tup ys)) \/ (cP K H p ys /\ Q (.ref p) H)))
 (λxs=>match xs with|[.lst l]=>ae (.tup l)|[.tup l]=>ae (.tup l)|_=>ag):=by
 intro F H xs vs Q s sub rx e k;dsimp only at e;split at e
 .cases e;let#[v,t,rfl,#[a,us,rfl,h1,h2],rt]:=rx;cases (rt);show#[a,us,rfl,.inl #[.of h1,λp hp=>k _ _<|.inr #[p,us,rfl,hp,rfl,h2]]]
 .cases e;let#[v,t,rfl,#[a,us,rfl,h1,h2],rt]:=rx;cases (rt);show#[a,us,rfl,.inr #[.of<|sub _ _ h1,k _ _<|.inl #[rfl,a,us,rfl,h1,h2]]]
 .cases e
noncomputable def rn:List D->Option Res:=λxs=>match xs with|[.lst l]=>ae (.tup l)|[.tup l]=>ae (.tup l)|_=>ag
noncomputable def xV:List D->Option Res:=λxs=>match xs with|[.lst l]=>ae (.lst l)|[.tup l]=>ae (.lst l)|_=>ag
theorem ah5:km (λxs H Q=>∃ p ys,xs=[.ref p] /\ (bN K H p ys \/ cP K H p ys) /\ ∀ l,H l=ag->Q (.ref l) (upd H l<|.lst ys)) xV:=by
 intro F H xs vs Q s sub rx e k;unfold xV at e;split at e
 .cases e;let#[v,t,rfl,#[a,us,rfl,h1,h2],rt]:=rx;cases (rt);show#[a,us,rfl,.inl<|.of h1,λp hp=>k _ _ #[p,us,rfl,hp,rfl,h2]]
 .cases e;let#[v,t,rfl,#[a,us,rfl,h1,h2],rt]:=rx;cases (rt);show#[a,us,rfl,.inr<|.of<|sub _ _ h1,λp hp=>k _ _ #[p,us,rfl,hp,rfl,h2]]
 .cases e
noncomputable def maxD:List D->Option Res:=λxs=>match xs with|[.int i,.int j]=>ae (.old<|.int (if j>i then j else i))|_=>ag
theorem ah6:km (λxs H Q=>∃ i j,xs=[.int i,.int j] /\ Q (.int (if j>i then j else i)) H) maxD:=by
 intro F H xs vs Q s sub rx e k;unfold maxD at e;split at e
 .ext i j;cases e;let#[v,t,rfl,h1,v2,t2,rfl,h2,rt]:=rx;cases (rt);cases (h1);cases (h2);show#[i,j,rfl,k _ _ #[rfl,rfl]]
 .cases e
noncomputable def minD:List D->Option Res:=λxs=>match xs with|[.int i,.int j]=>ae (.old<|.int (if j<i then j else i))|_=>ag
theorem ah7:km (λxs H Q=>∃ i j,xs=[.int i,.int j] /\ Q (.int (if j<i then j else i)) H) minD:=by
 intro F H xs vs Q s sub rx e k;unfold minD at e;split at e
 .ext i j;cases e;let#[v,t,rfl,h1,v2,t2,rfl,h2,rt]:=rx;cases (rt);cases (h1);cases (h2);show#[i,j,rfl,k _ _ #[rfl,rfl]]
 .cases e
end
end L2.DL
namespace HT
section
variable {s:au}
theorem mT {t sl:aj}{vl vu:ai}{lo hi:Option Int}(ht:IsTup s.heap t items) (hs:s.heap.IsSliceOf sl vl vu .none) (pl:IsPart vl lo) (pu:IsPart vu hi)
 (hw:ba items.size 0 lo=0 /\ ba items.size items.size hi=items.size) (h:Q (.ref t) s):wpAny zh A (getItem (.ref t)<|.ref sl) Q E s:=by
 let#[os,vT,Ip,pY]:=id hs;unfold getItem;try with_reducible refine eB ?_
 first|refine ak (az ?_)|skip
 refine ak<|aaX ht.typeIs (rfl) ?_;refine ak (qO ht.typeIs xq
  (eW xq ht.typeIs ab0 ?_<|ab1 _ _))
 change wpAny _ _ (Builtin.Tuple.tupleItemsOf _ >>= _) _ _ s;refine ak<|ab2 ht ?_;refine ak<|tQ #[os,vT,Ip] ?_;refine ak<|jC hs pl pu ?_;have ah8:((((ba items.size 0 lo):Int)==0&&(1:Int)==1&&zal==items.size)=ah):=by
  rw[hw.1,hw.2];simp
 change wpAny _ _ (if (((ba items.size 0 lo):Int)==0&&(1)==1&&zal==items.size)=ah then _ else _) _ _ s;rw[if_pos ah8];refine ak ?_;refine ak<|tQ ht.typeIs<|az ?_;rw[if_pos ze];show ak<|nU<|az #[_,rfl,az h]
theorem AH {β:Type}{f g:α->Option β}:∀ {l:List α},(∀ x∈l,f x=g x)->l.filterMap f=l.filterMap g:=by
 intro l_;induction l_ with
 |nil=>show λ_=>rfl
 |cons x l ay=>
   intro h;rw[qk,qk,h x bD,ay λy hy=>h y<|bE _ hy]
theorem AI (n:Nat):sliceRange ((n:Int)-1) (-1) (-1)=(List.range n).map λk=>n-1-k:=by
 have e:(if (-1)>0 then (if (n:Int)-1 < -1 then (-1-((n:Int)-1)+-1-1) / -1 else 0) else (if (n:Int)-1>-1 then ((n)-1 - -1 - -1-1) / (- -1) else 0)).toNat=n:=by
  rw[if_neg ze];split
  .have:((n:Int)-1 - -1 - -1-1) / (- -1)=n:=by
    rw[show (- -1)=1 by decide,Int.ediv_one];lia
   rw[this];rfl
  .lia
 change (List.range (if (-1)>0 then (if (n:Int)-1 < -1 then (-1-((n:Int)-1)+-1-1) / -1 else 0) else (if (n:Int)-1>-1 then ((n)-1 - -1 - -1-1) / (- -1) else 0)).toNat).map _=_;rw[e];refine rY λk hk=>?_;lia
theorem Bt (its:List ai):slicePick its.toArray ag ag (ae<|-1)=its.reverse.toArray:=by
 unfold slicePick;congr 1;change (sliceRange ((its.length)-1) (-1)<|-1).filterMap _=_;rw[AI,abx];apply xi;intro i;have h1:(List.range its.length).filterMap ((λx=>its.toArray[x]?)∘λk=>its.length-1-k)=(List.range its.length).map λk=>(its[its.length-1-k]?).getD .none:=by
  rw[<-List.filterMap_eq_map];refine AH λk hk=>?_;have uk:=List.mem_range.mp hk;have Ek:its.length-1-k<its.length:=by lia
  simp[Ek]
 rw[h1,kL];by_cases hi:i<its.length
 .have Ek:its.length-1-i<its.length:=by lia
  rw[List.getElem?_range hi,List.getElem?_reverse hi];simp[Ek]
 .rw[rX (by simpa using vA hi),rX (by simpa using vA hi)];rfl
end
end HT
namespace L2.DL
section
variable {a b c:aq} {pos p p2:aC} {lo hi:Option aq}
def ad3 (K:PySem.W.Frag):V->Option Int->Option Int->Hp->VK->zk:=λx lo hi H Q=>∃ a xs,x=.ref a /\ cP K H a xs /\
 (HT.ba xs.length 0 lo=0 /\ HT.ba xs.length xs.length hi=xs.length) /\ Q (.ref a) H
theorem O6:uj X (ad3 X.K):=by
 intro pins s σ H x v vl vu lo hi sl Q I rx hs pl pu h;let#[a,xs,rfl,hx,hw,q]:=h;cases rx;let#[its,r,ht,hz]:=I.tuple hx;have hlen:its.toArray.size=xs.length:=r.length.symm;show#["tuple",_,xq.lookup,ht.typeIs,HT.mT ht hs pl pu (by rw[hlen];show hw) #[.ref a,H,I,rfl,q]]
def ad4 (K:PySem.W.Frag):V->Option Int->Option Int->Hp->VK->zk:=λx lo hi H Q=>adn K x lo hi H Q \/ ad3 K x lo hi H Q \/ adu K x lo hi H Q
theorem Um:uj X (ad4 X.K):=TV.or<|O6.or OE
def cutD (xs:List D) (lo hi:Option Int):List D:=(xs.drop<|HT.ba xs.length 0 lo).take<|HT.ba xs.length xs.length hi-HT.ba xs.length 0 lo
theorem Gj {l:List D}{vs:List V}(h:aG F l vs) (lo hi:Option Int):aG F (cutD l lo hi) (xK vs lo hi):=by
 unfold cutD xK;rw[h.length];show(h.drop _).take _
def pF:D->Option Int->Option Int->Option Res
 |.tup l,lo,hi=>ae<|.tup<|cutD l lo hi
 |.lst l,lo,hi=>ae<|.lst<|cutD l lo hi
 |_,_,_=>ag
theorem ah9 {x:D}{lo hi:Option Int}{Q:VK}{s:Res}(sub:Sub F H) (rx:pb F H x v) (e:pF x lo hi=ae s) (k:∀ u H',wb F H s u H'->Q u H'):ad4 K v lo hi H Q:=by
 cases x with
 |tup l=>
   cases e;let#[a,vs,rfl,h1,h2]:=rx;by_cases hw:HT.ba vs.length 0 lo=0 /\ HT.ba vs.length vs.length hi=vs.length
   .refine .inr<|.inl #[a,vs,rfl,.of<|sub _ _ h1,hw,k _ _<|.inl #[rfl,?_]];have e:cutD l lo hi=l:=by
     unfold cutD;rw[h2.length,hw.1,hw.2,Hh,Xc,<-h2.length,Xd]
    rw[e];show#[a,vs,rfl,h1,h2]
   .show .inl #[a,vs,rfl,.of<|sub _ _ h1,hw,λp hp=>k _ _<|.inr #[p,_,rfl,hp,rfl,Gj h2 lo hi]]
 |lst l=>
   cases e;let#[a,vs,rfl,h1,h2]:=rx;show .inr<|.inr #[a,vs,rfl,.of h1,λp hp=>k _ _ #[p,_,rfl,hp,rfl,Gj h2 lo hi]]
 |_=>cases e
abbrev aia:Hp->List aj->Option Int->Option Int->zk:=λ_ _ a b=>a=b
def aib (T:Fr) (Z:Xs) (m:DE<|Option Int):TO:=λσ H Q=>∃ F r env bx,Rel T F r σ H env bx /\ End T Z aia F r σ env Q zD
def El (X:Cx) (T:Fr) (Z:Xs) (e:Option aq) (m:DE<|Option Int):zk:=PO X e<|aib T Z m
theorem PO.imp {e:Option aq}{t t':TO}(h:PO X e t) (f:∀ σ H Q,t' σ H Q->t σ H Q):PO X e t':=λpins s σ H Q I q=>h pins s σ H Q I<|f σ H Q q
noncomputable def cQ:DE (Option Int):=λ_ bx=>.val ag bx
def cG (m:DE W):DE (Option Int):=λenv bx=>fA zD λw bx1=>match w with|.d (.int i)=>.val (ae i) bx1|_=>.bad
theorem Uo:El X T Z ag cQ:=PO.imp OB λσ H Q=>x4 λF r env bx R h=>h F r ag H (.refl F r) R zc
theorem L8 (h:PD X T Z e ma):El X T Z (ae e) (cG ma):=by
 refine PO.imp (OC h) λσ H Q=>x4 λF r env bx R h=>?_;refine#[F,r,env,bx,R,End.bind h λw bx1 F1 r1 v H1 g1 R1 d1 h1=>?_];split at h1
 .ext i;show#[i,d1,h1 F1 r1 _ H1 zU R1 zc]
 .show h1.elim
def cH (bo:Bool) (m:DE W) (l u:DE<|Option Int):DE W:=λenv bx=>fA zD λx bx1=>fA (l env bx1) λi bx2=>fA (u env bx2) λj bQ=>cj bo ((bU bQ x).bind λd=>pF d i j) bQ
theorem L9 {l u:DE (Option Int)}(bo:Bool) (ha:PD X T Z e ma) (hl:El X T Z lo l) (hu:El X T Z hi u):PD X T Z (.Subscript e (.Slice lo hi ag p2) pos) (cH bo ma l u):=by
 refine PE.imp (LJ Um ha hl hu) λσ H Q=>x4 λF r env bx R h=>?_;refine#[F,r,env,bx,R,End.bind h λx bx1 F1 r1 v H1 g1 R1 d1 h1=>?_];refine#[F1,r1,env,bx1,R1,End.bind h1 λi bx2 F2 r2 i' H2 g2 R2 d2 h2=>?_];refine#[F2,r2,env,bx2,R2,End.bind h2 λj bQ F3 r3 j' H3 g3 R3 d3 h3=>?_];subst d2 d3;cases e1:bU bQ x with
 |none=>rw[e1]at h3;show h3.elim
 |some d=>
   rw[e1]at h3;simp[bS]at h3;cases e2:pF d i j with
   |none=>rw[e2]at h3;show h3.elim
   |some s=>
     rw[e2]at h3;show ah9 R3.fh (R3.rj (g3.den<|g2.den d1) e1) e2 λu H' k=>g9 R3 h3 k
theorem Uq {te:TE}{i:Int}{q1 q2:aC}(he:PE X e te):PE X (.Subscript e (.Slice ag ag (ae<|.UnaryOp .USub (.Constant (.int 1) j q1) q2) p2) pos)
 (λσ H Q=>te σ H λx H1=>∃ a xs,x=.ref a /\ bN X.K H1 a xs /\ ∀ p,H1 p=ag->Q (.ref p) (upd H1 p<|.lst xs.reverse)):=by
 intro pins s σ H Q I h;refine Subscript_<|tE (he pins s σ H _ I h) λv s1 x H1 I1 r1 q1=>?_;refine aaY ?_;refine az<|az ?_;refine tE (SK LB Lq pins s1 σ H1 (λy H2=>y=.int (-1) /\ H2=H1) I1 #[1,rfl,rfl,rfl]) λvs s3 y H3 I3 r3 hh=>?_;let#[e1,e2]:=hh;subst e1 e2;let#[t,rfl]:=r3;let#[a,xs,rfl,hx,q]:=q1;cases r1;have I4:Inv X pins σ H3 { s3 with heap:=s3.heap.push { cls:=.type "slice",data:=.fields (List.toArray [.none,.none,.int (-1) t]) } }:=I3.kept λb ob q=>aN _ q;let#[its,r,ht,hz]:=I4.list hx;have hlen:=r.length;have hg:wpAny zf X.A (getItem (.ref a)<|.ref s3.heap.objs.size) (EP X pins σ Q) X.xe { s3 with heap:=s3.heap.push { cls:=.type "slice",data:=.fields (List.toArray [.none,.none,.int (-1) t]) } }:=by
  refine aaZ ht.isList (Heap.IsSliceOf.new ..) .none .none (.int (-1) t) zj ?_ (by rw[bY]<;>lia);rw[HT.Bt];refine#[.ref _,_,I4.laid (λb ob q=>aN _ q) (aE _) ?_,rfl,q _<|I4.aD.fresh<|aE _];show#[by rw[List.length_reverse];show hz,_,0,r.reverse,bB _ zc]
 change wpAny zf X.A (subscriptTail e (.Slice ag ag (ae<|.UnaryOp .USub (.Constant (.int 1) j _) q2) p2) (.ref a)<|.ref s3.heap.objs.size) (EP X pins σ Q) X.xe _;show Xp ht.isList.typeIs slot_list_getitem.lookup hg (by with_unfolding_all rfl)
def IQ (bo:Bool) (m:DE W):DE W:=λenv bx=>fA zD λx bx1=>cj bo ((bU bx1 x).bind λd=>match d with|.lst l=>ae (.lst l.reverse)|_=>ag) bx1
theorem Ur {q1 q2:aC}(bo:Bool) (ha:PD X T Z e ma):PD X T Z (.Subscript e (.Slice ag ag (ae<|.UnaryOp .USub (.Constant (.int 1) j q1) q2) p2) pos) (IQ bo ma):=by
 refine PE.imp (Uq (i:=0) ha) λσ H Q=>x4 λF r env bx R h=>?_;refine#[F,r,env,bx,R,End.bind h λx bx1 F1 r1 v H1 g1 R1 d1 h1=>?_];cases e1:bU bx1 x with
 |none=>rw[e1]at h1;show h1.elim
 |some d=>
   rw[e1]at h1;cases d with
   |lst l=>
     let#[a,vs,rfl,k1,k2]:=R1.rj d1 e1;show#[a,vs,rfl,.of k1,λp hp=>g9 R1 h1 #[p,_,rfl,hp,rfl,k2.reverse]]
   |_=>show h1.elim
def wg (m:DE W):DE W:=λenv bx=>fA zD λw bx1=>match w with|.d (.int i)=>.val (.d<|.int<|-i) bx1|_=>.bad
theorem Us (ha:PD X T Z a ma):PD X T Z (.UnaryOp .USub a pos) (wg ma):=by
 refine PE.imp (SK LB ha) λσ H Q=>x4 λF r env bx R h=>?_;refine#[F,r,env,bx,R,End.bind h λw bx1 F1 r1 v H1 g1 R1 d1 h1=>?_];split at h1
 .ext i;show#[i,d1,h1 F1 r1 _ H1 zU R1 zc]
 .show h1.elim
end
end L2.DL
namespace HT
section
variable {s:au}
theorem C0 {l:aj}{Q:List ai->au->zk}(hl:IsTup s.heap l vs.toArray) (hz:vs.length<=sizeLine)
 (h:Q vs { s with heap:=(s.heap.push<|seqObj "list" #[] 0).update s.heap.objs.size (Obj.mapSeq (·++vs.toArray)) }):wpAny zh A (collect<|.ref l) Q E s:=by
 let#[ob,ho,xO,k,rq]:=id hl;refine ak<|QT<|rS entry_proto_collect'<|ak<|wW<|az #[acK _ (by decide +kernel),rS entry_list_iadd' ?_];change wpAny _ _ (Builtin.List.listExtendWith _ _ _) _ _ { s with heap:=s.heap.push _ };have rz:(s.heap.push<|seqObj "list" #[] 0).get? l=ae ob:=aN _ ho;refine ak<|tQ #[ob,rz,xO] ?_;rw[if_pos (by rw[show (Value.type "tuple"==Value.type "tuple")=ah by decide,Bool.or_true])];refine ak<|xn rz rq<|ak<|xn (bB _ zc) zc ?_;rw[if_neg zj];refine ak<|Hz (bB _ zc) zc (az ?_) (eC _) (by change (#[]++vs.toArray).size<=sizeLine+1;simp[Array.size_append,bY,pQ];lia);refine ak<|wQ (ab4 (bB _ zc) _) (show wpAny _ _ (pure ((#[])++vs.toArray).toList) Q E _ from ?_);rw[show ((#[]:Array ai)++vs.toArray).toList=vs by simp];show az h
theorem AJ {l:aj}(hl:IsTup s.heap l vs.toArray) (hI:IntsAre vs ns) (c5:vs.length<64)
 (h:∀ (out:Array ai) (pG:List Int),IntsAre out.toList pG->pG.Perm ns->pG.Pairwise (·<=·)->Q (.ref zX) { s with heap:=sortedAll s.heap vs out }):wpAny zh A (call (.builtin "sorted") [.ref l]) Q E s:=by
 refine HS HC HD HE (HF _) ?_;refine ak<|az<|ak<|C0 hl (cB (nh c5) ze)<|ak<|wW ?_;have qZ:((s.heap.push<|seqObj "list" #[] 0).update s.heap.objs.size (Obj.mapSeq (·++vs.toArray))).objs.size=s.heap.objs.size+1:=by rw[abX,ud]
 have uT:(((s.heap.push<|seqObj "list" #[] 0).update s.heap.objs.size (Obj.mapSeq (·++vs.toArray))).push<|seqObj "list" vs.toArray 0).get? zX=ae (seqObj "list" vs.toArray 0):=by rw[<-qZ];show bB _ zc
 rw[qZ];show ak<|eB<|eW HG #[_,uT,rfl] HI (ab5 uT hI c5 λout pG a1 a2 a3=>#[_,rfl,az #[_,rfl,h out pG a1 a2 a3]])<|HJ _
end
end HT
namespace L2.DL
noncomputable def sortI (ns:List Int):List Int:=ns.mergeSort λa b=>decide (a<=b)
theorem f9 (ns:List Int):(sortI ns).Perm ns:=abA ns _
theorem gJ (ns:List Int):(sortI ns).Pairwise (·<=·):=(abB (le:=λa b:Int=>decide _) (λa b c h1 h2=>by simp at *;lia) (λa b=>by simp;lia) ns).imp λq=>by simpa using q
theorem oX {a b:List Int}(p:a.Perm b) (ha:a.Pairwise (·<=·)) (hb:b.Pairwise (·<=·)):a=b:=
 p.eq_of_pairwise (λx y _ _ h1 h2=>acb h1 h2) ha hb
section
variable {a b c:aq} {pos p p2:aC}
def IT (K:PySem.W.Frag) (vs:List V) (H:Hp) (Q:VK):zk:=∃ (p:aj) (ns:List Int),vs=[.ref p] /\ (bN K H p (ns.map V.int) \/ cP K H p (ns.map V.int)) /\ ns.length<64 /\ ∀ l,H l=ag->Q (.ref l) (upd H l<|.lst<|(sortI ns).map V.int)
theorem oC:∀ {us:List ai}{ns:List Int},IntsAre us ns->Vals (ns.map V.int) us
 |_,_,.nil=>.nil
 |_,_,.cons n t h=>.cons #[t,rfl]<|oC h
theorem Jz:eE X (.builtin "sorted") (IT X.K):=by
 intro pins s σ H xs us Q I rv h;let#[p,ns,rfl,hp,c5,q]:=h;let#[u,rfl,ru]:=Vals.one rv;cases ru;have fin:∀ (its) (out) (pG),IntsAre out.toList pG->pG.Perm ns->pG.Pairwise _->EP X pins σ Q _ { s with heap:=sortedAll s.heap its out }:=λits out pG a1 a2 a3=>by
  let#[k,he]:=ab6 s.heap its out;have e:=oX (a2.trans (f9 ns).symm) a3<|gJ ns;subst e;have ll:((sortI ns).map V.int).length<=sizeLine:=by
   rw[aR,(f9 ns).length_eq];show cB (nh c5) ze
  refine#[.ref _,_,I.laid (λb ob q=>ab7 q) (qj _) ?_,rfl,q _<|I.aD.fresh<|qj _];show#[ll,out.toList,k,oC a1,he]
 rcases hp with hp|hp
 .let#[its,r1,p1,z1]:=I.list hp;have hl:ns.length=its.length:=by have:=r1.length;simpa using this
  show sorted_ints p1.isList (AC r1) za λout pG=>fin its out pG
 .let#[its,r1,p1,z1]:=I.tuple hp;have hl:ns.length=its.length:=by have:=r1.length;simpa using this
  show HT.AJ p1 (AC r1) za λout pG=>fin its out pG
def sP:List D->Option Res
 |[.lst l]=>(intsOf l).bind λns=>if ns.length<64 then ae (.lst<|(sortI ns).map D.int) else ag
 |[.tup l]=>(intsOf l).bind λns=>if ns.length<64 then ae (.lst<|(sortI ns).map D.int) else ag
 |_=>ag
theorem AK:∀ (ns:List Int),aG F (ns.map D.int) (ns.map V.int):=by
 intro l_;induction l_ with
 |nil=>show rfl
 |cons n ns ay=>show .cons zc<|ay
theorem aic:km (IT K) sP:=by
 intro F H xs vs Q s sub rx e k;unfold sP at e;split at e
 .ext l;let#[v,t,rfl,#[a,us,rfl,h1,h2],rt]:=rx;cases (rt);cases e1:intsOf l with
  |none=>rw[e1]at e;cases e
  |some ns=>
    rw[e1]at e;erw[bS]at e;split at e
    .ext c5;cases e;have q1:=h2.ints e1;subst q1;show#[a,ns,rfl,.inl<|.of h1,c5,λl hl=>k _ _ #[l,_,rfl,hl,rfl,AK _]]
    .cases e
 .ext l;let#[v,t,rfl,#[a,us,rfl,h1,h2],rt]:=rx;cases (rt);cases e1:intsOf l with
  |none=>rw[e1]at e;cases e
  |some ns=>
    rw[e1]at e;erw[bS]at e;split at e
    .ext c5;cases e;have q1:=h2.ints e1;subst q1;show#[a,ns,rfl,.inr<|.of<|sub _ _ h1,c5,λl hl=>k _ _ #[l,_,rfl,hl,rfl,AK _]]
    .cases e
 .cases e
def kX (m:DE W) (k:DE W):DE W:=λenv bx=>fA zD λx bx1=>match x with
 | .b n=>(match bx1[n]? with
   | some (.lst _)=>fA (k env bx1) λy bx2=>(match y,bx2[n]? with
     |.d d,ae (.lst l)=>if l.length<sizeLine then .val (.d .non) (bx2.set n<|.lst<|l++[d]) else .bad
     |_,_=>.bad)
   |_=>.bad)
 |_=>.bad
theorem Wv {Q:VK}(h:tD T Z (kX ma mb) σ H Q):Iv X.K "list" ady (tD T Z ma) (Im (tD T Z mb) Il) σ H Q:=by
 let#[F,r,env,bx,R,h]:=h;refine#[F,r,env,bx,R,End.bind h λx bx1 F1 r1 v H1 g1 R1 d1 h1=>?_];cases x with
 |b n=>
   simp at h1;let#[a,rfl,ha]:=d1;let#[c,hc,kc]:=R1.eX ha;rw[hc]at h1;cases c with
   |lst l0=>
     let#[_,sQ,k0,_]:=kc;refine#[.inl #[rfl,sQ,bN.of k0],?_];refine#[F1,r1,env,bx1,R1,End.bind h1 λy bx2 F2 r2 u H2 g2 R2 d2 h2=>?_];let#[t,et]:=g2.p;have rC:r2[n]?=ae a:=by rw[<-et,eK (List.getElem?_eq_some_iff.mp ha).1];show ha
     let#[c2,kS,rD]:=R2.eX rC;rw[kS]at h2;cases y with
     |d dd=>
       cases c2 with
       |lst l=>
         simp at h2;split at h2
         .ext hz;let#[hF,vs,k1,k2]:=rD;show#[a,vs,u,rfl,rfl,k1,by rw[<-k2.length];show hz,(h2 F2 r2 _ _ (.refl F2 r2) (R2.write rC hF #[hF,vs++[u],fw,k2.append<|.cons d2 .nil]) zc)]
         .show h2.elim
       |_=>show h2.elim
     |_=>show h2.elim
   |_=>show h1.elim
 |_=>show h1.elim
end
end L2.DL
namespace L2
section
variable {κ:Type} [DecidableEq κ]
noncomputable def eI (ao:List<|κ×V) (k:κ):Option V:=(ao.find? λkv=>decide (kv.1=k)).map (·.2)
noncomputable def putK (ao:List<|κ×V) (k:κ) (v:V):List (κ×V):=
 if (ao.any λkv=>decide (kv.1=k))=ah then ao.map (λkv=>if kv.1=k then (kv.1,v) else kv) else ao++[(k,v)]
noncomputable def qB (ao:List<|κ×V) (k:κ):List (κ×V):=ao.filter λkv=>decide (kv.1≠k)
theorem jD {p:κ×V}{r:List (κ×V)}{k:κ}(e:p.1=k):eI (p::r) k=ae p.2:=by simp[eI,e]
theorem jk {p:κ×V}{r:List (κ×V)}{k:κ}(e:¬ p.1=k):eI (p::r) k=eI r k:=by simp[eI,e]
theorem Ma (k:κ):∀ ao:List (κ×V),(ao.any λkv=>decide (kv.1=k))=(eI ao k).isSome:=by
 intro l_;induction l_ with
 |nil=>show rfl
 |cons p r ay=>
   rw[rW];by_cases e:p.1=k
   .simp[jD e,decide_eq_true e,abr,Option.isSome_some]
   .rw[jk e,decide_eq_false e,Q8];show ay
theorem lD (ao:List<|κ×V) (k:κ) (v:V):(putK ao k v).length<=ao.length+1:=by
 unfold putK;split
 .rw[aR];lia
 .rw[cX,bz,pQ];lia
theorem nY.xW {o:Option V}{u:Option ai}(r:nY o u):o.isSome=u.isSome:=by
 cases o with
 | none=>cases u with
   |none=>rfl
   |some _=>show(r).elim
 | some _=>cases u with
   |none=>show(r).elim
   |some _=>rfl
theorem nY.getD {o:Option V}{u:Option ai}{d:V}{d':ai}(r:nY o u) (rd:RelV d d'):RelV (o.getD d) (u.getD d'):=by
 cases o with
 | none=>cases u with
   |none=>show rd
   |some _=>show(r).elim
 | some _=>cases u with
   |none=>show(r).elim
   |some _=>show r
theorem KV.val {ao:List (κ×V)}{vs:List (κ×ai)}(r:KV ao vs) (k:κ):nY (eI ao k) (valueAt vs k):=by
 induction r with
 |nil=>show True.intro
 |@cons p q ps qs h t ih=>
   let#[h1,h2]:=h;by_cases e:p.1=k
   .have b:valueAt (q::qs) k=ae q.2:=by simp[valueAt,(h1.symm.trans e)]
    rw[jD e,b];show h2
   .have e':¬ q.1=k:=λz=>e<|h1.trans z;have b:valueAt (q::qs) k=valueAt qs k:=by simp[valueAt,e']
    rw[jk e,b];show ih
theorem KV.any {ao:List (κ×V)}{vs:List (κ×ai)}(r:KV ao vs) (k:κ):(ao.any λkv=>decide (kv.1=k))=vs.any λkv=>decide (kv.1=k):=by
 induction r with
 |nil=>rfl
 |cons h t ih=>rw[rW,rW,ih,h.1]
theorem KV.repl {ao:List (κ×V)}{vs:List (κ×ai)}(r:KV ao vs) (k:κ) {y:V}(ry:RelV y u) :
 KV (ao.map λkv=>if kv.1=k then (kv.1,y) else kv) (vs.map λkv=>if kv.1=k then (kv.1,u) else kv):=by
 induction r with
 |nil=>show .nil
 |@cons p q ps qs h t ih=>
   rw[aL,aL];refine .cons ?_ ih;let#[h1,h2]:=h;by_cases e:p.1=k
   .rw[if_pos e,if_pos<|h1.symm.trans e];show#[h1,ry]
   .rw[if_neg e,if_neg λz=>e<|h1.trans z];show#[h1,h2]
theorem KV.put {ao:List (κ×V)}{vs:List (κ×ai)}(r:KV ao vs) (k:κ) {y:V}(ry:RelV y u):KV (putK ao k y) (stored vs k u):=by
 unfold putK stored;rw[r.any k];by_cases e:(vs.any λkv=>decide (kv.1=k))=ah
 .rw[if_pos e,if_pos e];show r.repl k ry
 .rw[if_neg e,if_neg e];show Paired.snoc r #[rfl,ry]
theorem KV.drop {ao:List (κ×V)}{vs:List (κ×ai)}(r:KV ao vs) (k:κ):KV (qB ao k) (without vs k):=by
 unfold qB without;induction r with
 |nil=>show .nil
 |@cons p q ps qs h t ih=>
   let#[h1,h2]:=h;rw[Ht,Ht];by_cases e:p.1=k
   .rw[if_neg (by simp[e]),if_neg (by simp[h1.symm.trans e])];show ih
   .have e':¬ q.1=k:=λz=>e<|h1.trans z;rw[if_pos (by simp[e]),if_pos (by simp[e'])];show .cons #[h1,h2] ih
theorem KV.length {ao:List (κ×V)}{vs:List (κ×ai)}(r:KV ao vs):ao.length=vs.length:=Paired.length r
theorem C1 (ao:List<|κ×V) (k:κ):(qB ao k).length<=ao.length:=tY _ _
end
theorem mU {k:Key}(r:RelV (kV k) u):(c6 P w).is k u=ah:=by
 cases k with
 |inl i=>let#[t,e]:=(r);subst e;show CO P w i t
 |inr x=>let#[t,e]:=(r);subst e;show CP P w x t
theorem JA:∀ {ks:List Key}{us:List ai},Vals (ks.map kV) us->ItemsAre (c6 P w) ks us:=by
 intro l_;induction l_ with
 |nil=>(intro _ r;cases r;show .nil)
 |cons k ks ay=>
   intro _ r;cases r with
   |cons h t=>show .cons (mU h)<|ay t
abbrev KT (H:Hp):List (List Key×V)->List (List Key×aj×ai)->zk:=Paired λp q=>p.1=q.1 /\ H q.2.1=ae (.tup<|p.1.map kV) /\ RelV p.2 q.2.2
theorem KT.val (r:KT H ao xs) (k:List Key):nY (eI ao k) ((atKey xs k).map (·.2)):=by
 induction r with
 |nil=>show True.intro
 |@cons p q ps qs h t ih=>
   let#[h1,_,h2]:=h;by_cases e:p.1=k
   .have b:atKey (q::qs) k=ae q.2:=by simp[atKey,(h1.symm.trans e)]
    rw[jD e,b];show h2
   .have e':¬ q.1=k:=λz=>e<|h1.trans z;have b:atKey (q::qs) k=atKey qs k:=by simp[atKey,e']
    rw[jk e,b];show ih
theorem KT.repl (r:KT H ao xs) (k:List Key) {y:V}(ry:RelV y u) :
 KT H (ao.map λkv=>if kv.1=k then (kv.1,y) else kv) (xs.map<|putAt k u):=by
 induction r with
 |nil=>show .nil
 |@cons p q ps qs h t ih=>
   rw[aL,aL];refine .cons ?_ ih;let#[h1,h2,h3]:=h;unfold putAt;by_cases e:p.1=k
   .rw[if_pos e,if_pos<|h1.symm.trans e];show#[h1,h2,ry]
   .rw[if_neg e,if_neg λz=>e<|h1.trans z];show#[h1,h2,h3]
theorem KT.put (r:KT H ao xs) (k:List Key) {b:aj}{y:V}(hb:H b=ae (.tup<|k.map kV)) (ry:RelV y u) :
 KT H (putK ao k y) (storedH xs k b u):=by
 have e:(ao.any λkv=>decide (kv.1=k))=(atKey xs k).isSome:=by
  rw[Ma,(r.val k).xW,pS]
 unfold putK storedH;rw[e];by_cases q:(atKey xs k).isSome=ah
 .rw[if_pos q,if_pos q];show r.repl k ry
 .rw[if_neg q,if_neg q];show Paired.snoc r #[rfl,hb,ry]
theorem KT.keeps (r:KT H ao xs) (ht:∀ b ys,H b=ae (.tup ys)->H' b=ae (.tup ys)):KT H' ao xs:=
 Paired.XO r λ_ _ z=>#[z.1,ht _ _ z.2.1,z.2.2]
theorem SN {u:HO}(ok:cM P w H h) (e:Rd H a u):cz P w H h a u:=e.ok ok
theorem mV {ao:List (Key×V)}(ok:cM P w H h) (e:Rd H a zam):ao.length<=sizeLine /\ (a==sysModules)=af /\ ∃ vs,KV ao vs /\ h.DictOf (c6 P w) a vs:=
 SN ok e
theorem Gk {ao:List (Key×V)}(ok:cM P w H h) (e:H a=ae zam):ao.length<=sizeLine /\ (a==sysModules)=af /\ ∃ vs,KV ao vs /\ h.DictOf (c6 P w) a vs:=mV ok<|.inl e
theorem oD {ks:List Key}(ok:cM P w H h) (e:H a=ae (.tup<|ks.map kV)):(tupleKind<|c6 P w).is h ks a:=by
 let#[_,its,r,o,h1,h2,n,h3]:=(ok a _ e);show#[o,its.toArray,n,h1,h2,h3,by simpa using JA r]
theorem AL (ok:cM P w H h) (e:Rd H a<|.dT ao):ao.length<=sizeLine /\ (a==sysModules)=af /\
 ∃ xs,KT H ao xs /\ h.DictOfH (tupleKind<|c6 P w) a xs:=by
 let#[z,y,xs,r,o,es,ep,h1,h2,h3,h4,h5]:=(SN ok e);refine#[z,y,xs,r,o,es,ep,h1,h2,h3,h4,λx hx=>?_,h5];have all:∀ {l}{m},KT H l m->∀ x∈m,(tupleKind<|c6 P w).is h x.1 x.2.1:=by
  intro l m q;induction q with
  |nil=>intro x hx;show nomatch hx
  |@cons p q ps qs hq t ih=>
    intro x hx;rcases bw.mp hx with e|hx
    .subst e;show oD ok (by rw[<-hq.1];show hq.2.1)
    .show ih x hx
 show all r x hx
theorem SO (ok:cM P w H h) (e:H a=ae (.dT ao)):ao.length<=sizeLine /\ (a==sysModules)=af /\
 ∃ xs,KT H ao xs /\ h.DictOfH (tupleKind<|c6 P w) a xs:=AL ok<|.inl e
def qC (H:Hp) (a:aj) (y:V) (r:Option V):zk:=
 (∃ ao k,Rd H a zam /\ y=kV k /\ r=eI ao k) \/ ∃ ao k b,Rd H a (.dT ao) /\ y=.ref b /\ H b=ae (.tup<|k.map kV) /\ r=eI ao k
def ad5 (H:Hp) (a:aj) (y v:V) (H':Hp):zk:=
 (∃ ao k,H a=ae zam /\ y=kV k /\ ao.length<sizeLine /\ H'=upd H a (.dK<|putK ao k v)) \/
 ∃ ao k b,H a=ae (.dT ao) /\ y=.ref b /\ H b=ae (.tup<|k.map kV) /\ ao.length<sizeLine /\ H'=upd H a (.dT<|putK ao k v)
theorem qC.k {H:Hp}{a:aj}{ao:List (Key×V)}{k:Key}(e:H a=ae zam):qC H a (kV k) (eI ao k):=.inl #[ao,k,.inl e,rfl,rfl]
section
variable {s:au} {y:V} {r:ai} {o:Option V} 
theorem Inv.big (I:Inv X pins σ H s):sysModules<s.heap.objs.size:=vB ze (I.mod.glob.keeps I.bk).lt
theorem JB (hu:A.units+1<cLine) (I:Inv X pins σ H s) (g:qC H a y<|ae v) (ry:RelV y u) (h:∀ w' s',Inv X pins σ H s'->RelV v w'->Q w' s') :
 wpAny zf A (getItem (.ref a) u) Q E s:=by
 rcases g with⟨ao,k,e,ey,l⟩|⟨ao,k,b,e,ey,eb,l⟩
 .subst ey;let#[z,hd,vs,rel,dd]:=mV I.aD e;let#[w',hw,eO]:=nY.some_of (by rw[l];show rel.val k);show wpAny_getItem_of (mU ry) dd.mapOf hw<|h w' _ (I.tok _) eO
 .subst ey;cases (ry);let#[z,hd,xs,rel,dd]:=AL I.aD e;let#[w',hw,eO]:=nY.some_of (by rw[l];show rel.val k);let#[p,hp,aid]:=Option.map_eq_some_iff.mp hw;refine wpAny_getItem_heap (yy hu) (oD I.aD eb) dd hp ?_;rw[aid];show h w' _ (I.tok _) eO
theorem YD (hu:A.units+1<cLine) (I:Inv X pins σ H s) (g:qC H a y o) (ry:RelV y u) (h:∀ s',Inv X pins σ H s'->Q (.bool o.isSome) s') :
 wpAny zf A (compareOp .In u<|.ref a) Q E s:=by
 rcases g with⟨ao,k,e,ey,l⟩|⟨ao,k,b,e,ey,eb,l⟩
 .subst ey;let#[z,hd,vs,rel,dd]:=mV I.aD e;refine wpAny_in_of (mU ry) hd dd.mapOf ?_;rw[<-(rel.val k).xW,<-l];show h _<|I.tok _
 .subst ey;cases (ry);let#[z,hd,xs,rel,dd]:=AL I.aD e;refine wpAny_in_heap (yy hu) (oD I.aD eb) hd dd ?_;have q:=(rel.val k).xW;rw[pS]at q;rw[<-q,<-l];show h _<|I.tok _
theorem O7 (hu:A.units+1<cLine) (I:Inv X pins σ H s) (g:qC H a y o) (ry:RelV y u) (h:∀ s',Inv X pins σ H s'->Q (.bool<|!o.isSome) s') :
 wpAny zf A (compareOp .NotIn u<|.ref a) Q E s:=by
 rcases g with⟨ao,k,e,ey,l⟩|⟨ao,k,b,e,ey,eb,l⟩
 .subst ey;let#[z,hd,vs,rel,dd]:=mV I.aD e;refine wpAny_notIn_of (mU ry) hd dd.mapOf ?_;rw[<-(rel.val k).xW,<-l];show h _<|I.tok _
 .subst ey;cases (ry);let#[z,hd,xs,rel,dd]:=AL I.aD e;refine wpAny_notIn_heap (yy hu) (oD I.aD eb) hd dd ?_;have q:=(rel.val k).xW;rw[pS]at q;rw[<-q,<-l];show h _<|I.tok _
theorem mW {ob:HO}(I:Inv X pins σ H s) (mu:yM<|H a) (hs:Heap.SameBut a s.heap h') (he:∃ q,h'.get? a=ae q) (new:cz X.prog X.w (upd H a ob) h' a ob) :
 Inv X pins σ (upd H a ob) { s with heap:=h',toks:=t' }:=
 I.write mu (.inl zc) (λb q hb z=>(hs.2 b hb).trans z) he new
theorem Co {ao:List (Key×V)}{vs:List (Key×ai)}(z:ao.length<=sizeLine) (hd:(a==sysModules)=af) (rel:KV ao vs) (dd:h'.DictOf (c6 P w) a vs) :
 cz P w H' h' a zam:=#[z,hd,vs,rel,dd]
theorem JC {Q:Unit->au->zk}(hu:A.units+1<cLine) (I:Inv X pins σ H s) (g:ad5 H a y v H') (ry:RelV y u) (rv:RelV v r) (h:∀ s',Inv X pins σ H' s'->Q () s') :
 wpAny zf A (setItem (.ref a) u r) Q E s:=by
 rcases g with⟨ao,k,e,ey,l,eH⟩|⟨ao,k,b,e,ey,eb,l,eH⟩
 .subst ey eH;let#[z,hd,vs,rel,dd]:=Gk I.aD e;have hz:vs.length<=sizeLine:=by rw[<-rel.length];show z
  refine wpAny_setItem_pairs (mU ry) dd λh' nM hs=>h _ ?_;show mW I (by rw[e];show True.intro) hs (let ⟨q,_,_,hq,_⟩:=nM;#[q,hq])<|Co (by have:=lD ao k v;lia) hd (rel.put k rv) nM
 .subst ey eH;cases (ry);let#[z,hd,xs,rel,dd]:=SO I.aD e;have hz:xs.length<=sizeLine:=by rw[<-Paired.length rel];show z
  refine wpAny_setItem_heap (yy hu) (oD I.aD eb) dd λh' nM hs=>h _ ?_;let#[q,es,ep,hq,h2,h3,h4,_,h5]:=nM;refine mW I (by rw[e];show True.intro) hs #[q,hq] #[(by have:=lD ao k v;lia),hd,_,(rel.put k eb rv).keeps λc ys ec=>?_,q,es,ep,hq,h2,h3,h4,h5];rw[fC<|Wa ec e λz=>nomatch z];show ec
end
section
variable {s:au} {ao:List (Key × V)} {k:Key} 
theorem JD {Q:Unit->au->zk}(I:Inv X pins σ H s) (e:H a=ae zam) (ry:RelV (kV k) u) (l:(eI ao k).isSome=ah) (h:∀ s',Inv X pins σ (upd H a<|.dK<|qB ao k) s'->Q () s') :
 wpAny zf A (delItem (.ref a) u) Q E s:=by
 let#[z,hd,vs,rel,dd]:=Gk I.aD e;refine wpAny_delItem_slot dd.typeIs (rfl) acu
  (yz acu dd.typeIs PySem.F.entry_dict_delitem (PySem.F.args_dict_delitem_2 _ _) (meets_dict_delitem_pairs _ a<|mU ry) #[vs,dd,by rw[<-rel.length];show z,by rw[<-(rel.val k).xW];show l,λh' nM hs=>h _ ?_])
 show mW I (by rw[e];show True.intro) hs (let ⟨q,_,_,hq,_⟩:=nM;#[q,hq])<|Co (cB (C1 ao k) z) hd (rel.drop k) nM
theorem Ww {more:List ai}(I:Inv X pins σ H s) (e:H a=ae zam) (ry:RelV (kV k) u) (l:eI ao k=ae v) (hm:more=[] \/ ∃ x,more=[x])
 (h:∀ w' s',Inv X pins σ (upd H a<|.dK<|qB ao k) s'->RelV v w'->Q w' s'):wpAny zf A (call (.builtin "dict.pop") (.ref a::u::more)) Q E s:=by
 let#[z,hd,vs,rel,dd]:=Gk I.aD e;let#[w',hw,eO]:=nY.some_of (by rw[<-l];show rel.val k);have hp:(keyPart u).isSome=ah:=by
  cases k with
  |inl i=>let#[t,q]:=(ry);subst q;rfl
  |inr x=>let#[t,q]:=(ry);subst q;rfl
 have ha:argsOk "dict.pop" #[.ref a::u::more,[]]:=by
  rcases hm with q|⟨x,q⟩
  .subst q;show PySem.F.args_dict_pop_2 _ _
  .subst q;show PySem.F.args_dict_pop_3 _ _ _
 refine yz acv dd.typeIs PySem.F.entry_dict_pop ha (meets_dict_pop_there _ a (mU ry) more hm hp)
  #[vs,w',dd,by rw[<-rel.length];show z,hw,λh' nM hs=>h w' _ ?_ eO]
 show mW I (by rw[e];show True.intro) hs (let ⟨q,_,_,hq,_⟩:=nM;#[q,hq])<|Co (cB (C1 ao k) z) hd (rel.drop k) nM
end
def IU (i:aq):zk:=∀ ov iv,subscripted i af ov iv=operate [ov,iv] (getItem ov iv)
theorem O8 {s:au}{env:Env}{value slice:aq}{pos:aC}{T id:String} 
 (hl:typeLookup (.type T) "__getitem__"=pure (ae<|.builtin id)) (hs:IU slice)
 (h:wpAny zh A (eval value env) (λo s₁=>wpAny zh A (eval slice env) (λi s₂=>s₂.TypeIs o T /\ wpAny zh A (getItem o i) Q E s₂) E s₁) E s) :
 wpAny zh A (eval (.Subscript value slice pos) env) Q E s:=by
 refine Subscript_<|k9 h (λo s₁ h₁=>k9 h₁ (λi s₂ h₂=>?_) λ_ _ x=>x) λ_ _ x=>x;let#[hT,h₂]:=h₂;refine ak ?_;refine ak<|aa5 hT hl ?_;have fin:wpAny zh A (subscripted slice af o i) (λr s₃=>wpAny zh A (letTemporaryGo value o r >>= λ_=>pure r) Q E s₃) E s₂:=by
  rw[hs o i];show wpAny_operating<|k9 h₂ (λr s₃ h₃=>ak<|wpAny_letTemporaryGo<|az h₃) λ_ _ x=>x
 first
  |show az<|ak fin
  |show ak _
  |show ak fin
theorem C2 {s:au}{y:V}{o:Option V}(I:Inv X pins σ H s) (g:qC H a y o):s.TypeIs (.ref a) "dict":=by
 rcases g with⟨ao,k,e,_,_⟩|⟨ao,k,b,e,_,_,_⟩
 .let#[_,_,vs,_,dd]:=mV I.aD e;show dd.typeIs
 .let#[_,_,xs,_,dd]:=AL I.aD e;show dd.typeIs
def ad6 (td ty:TE):TE:=λσ H Q=>td σ H λx H1=>ty σ H1 λy H2=>∃ a v,x=.ref a /\ qC H2 a y (ae v) /\ Q v H2
def Zn (ty td:TE):TE:=λσ H Q=>ty σ H λy H1=>td σ H1 λx H2=>∃ a o,x=.ref a /\ qC H2 a y o /\ Q (.bl o.isSome) H2
def ad7 (ty td:TE):TE:=λσ H Q=>ty σ H λy H1=>td σ H1 λx H2=>∃ a o,x=.ref a /\ qC H2 a y o /\ Q (.bl<|!o.isSome) H2
def ad8 (td ty tv:TE):TS:=λD σ H=>tv σ H λv H1=>td σ H1 λx H2=>ty σ H2 λy H3=>∃ a H4,x=.ref a /\ ad5 H3 a y v H4 /\ D.nx σ H4
def ad9 (td ty:TE):TS:=λD σ H=>td σ H λx H1=>ty σ H1 λy H2=>∃ a ao k,x=.ref a /\ H2 a=ae zam /\ y=kV k /\ (eI ao k).isSome=ah /\ D.nx σ (upd H2 a<|.dK<|qB ao k)
section
variable {o i value:aq} {pos Ik:aC} {td ty tv:TE}
theorem Gm (hu:X.A.units+1<cLine) (ho:PE X o td) (hi:PE X i ty) (hs:IU i):PE X (.Subscript o i pos) (ad6 td ty):=by
 intro pins s σ H Q I h;refine O8 PySem.F.slot_dict_getitem.lookup hs<|tE (ho pins s σ H _ I h) λu s1 x H1 I1 rx q1=>tE (hi pins s1 σ H1 _ I1 q1) λiv s2 y H2 I2 ry hh=>?_;let#[a,v,ex,g,q2]:=hh;subst ex;obtain rfl:u=Value.ref a:=rx;show#[C2 I2 g,JB hu I2 g ry λw' s3 I3 eO=>#[v,H2,I3,eO,q2]]
theorem Fg (hu:X.A.units+1<cLine) (hi:PE X i ty) (ho:PE X o td):PC X .In i o (Zn ty td):=by
 intro pins s σ H Q I h;refine tE (hi pins s σ H _ I h) λiv s1 y H1 I1 ry q1=>tE (ho pins s1 σ H1 _ I1 q1) λu s2 x H2 I2 rx hh=>?_;let#[a,ov,ex,g,q2]:=hh;subst ex;obtain rfl:u=Value.ref a:=rx;show YD hu I2 g ry λs3 I3=>#[.bl ov.isSome,H2,I3,rfl,q2]
theorem BM (hu:X.A.units+1<cLine) (hi:PE X i ty) (ho:PE X o td):PC X .NotIn i o (ad7 ty td):=by
 intro pins s σ H Q I h;refine tE (hi pins s σ H _ I h) λiv s1 y H1 I1 ry q1=>tE (ho pins s1 σ H1 _ I1 q1) λu s2 x H2 I2 rx hh=>?_;let#[a,ov,ex,g,q2]:=hh;subst ex;obtain rfl:u=Value.ref a:=rx;show O7 hu I2 g ry λs3 I3=>#[.bl _,H2,I3,rfl,q2]
theorem Gn (hu:X.A.units+1<cLine) (ho:PE X o td) (hi:PE X i ty) (hv:PE X value tv) (hs:swapsWith value (ae<|.Subscript o i pos') pos.line X.env=pure af) :
 PS X (.Assign [.Subscript o i pos'] value pos) (ad8 td ty tv):=by
 intro pins s σ H D I h;refine wpAny_Assign_Subscript (tE (hv pins s σ H _ I h) λr s1 v H1 I1 rv q1=>tE (ho pins s1 σ H1 _ I1 q1) λu s2 x H2 I2 rx q2=>tE (hi pins s2 σ H2 _ I2 q2) λiv s3 y H3 I3 ry hh=>?_) hs;let#[a,H4,ex,g,q3]:=hh;subst ex;obtain rfl:u=Value.ref a:=rx;show JC hu I3 g ry rv λs4 I4=>#[σ,H4,I4,q3]
theorem O9 (ho:PE X o td) (hi:PE X i ty):PS X (.Delete [.Subscript o i Ik] pos) (ad9 td ty):=by
 intro pins s σ H D I h;refine wpAny_Delete<|wpAny_deleteEach_cons<|wpAny_delete_Subscript<|tE (ho pins s σ H _ I h) λu s1 x H1 I1 rx q1=>tE (hi pins s1 σ H1 _ I1 q1) λiv s2 y H2 I2 ry hh=>?_;let#[a,ao,k,ex,e,ey,l,q2]:=hh;subst ex ey;obtain rfl:u=Value.ref a:=rx;show JD I2 e ry l λs3 I3=>wpAny_deleteEach_nil #[σ,_,I3,q2]
end
theorem C3 (h:aI) (hb:sysModules<h.objs.size):cz P w H (h.push { cls:=.type "dict",data:=.dict #[] }) h.objs.size (.dK []):=
 #[eC _,beq_eq_false_iff_ne.mpr<|Ne.symm<|bI hb,[],.nil,Heap.DictOf.new h]
theorem Mb (h:aI) (hb:sysModules<h.objs.size):cz P w H (h.push { cls:=.type "dict",data:=.dict #[] }) h.objs.size (.dT []):=
 #[eC _,beq_eq_false_iff_ne.mpr<|Ne.symm<|bI hb,[],.nil,_,#[],0,bB _ zc,#[rfl,rfl,rfl],rfl,rfl,abC]
def aie:TE:=λ_ H Q=>∀ p,H p=ag->Q (.ref p) (upd H p<|.dK [])
def aif:TE:=λ_ H Q=>∀ p,H p=ag->Q (.ref p) (upd H p<|.dT [])
section
variable {pos:aC}
theorem C4:PE X (.Dict [] [] pos) aie:=λpins s σ H Q I h=>
 aa6 #[.ref s.heap.objs.size,_,I.laid (λ_ _ q=>aN _ q) (aE _)<|C3 s.heap I.big,rfl,h _<|I.aD.fresh<|aE _]
theorem C5:PE X (.Dict [] [] pos) aif:=λpins s σ H Q I h=>
 aa6 #[.ref s.heap.objs.size,_,I.laid (λ_ _ q=>aN _ q) (aE _)<|Mb s.heap I.big,rfl,h _<|I.aD.fresh<|aE _]
end
noncomputable def IV:List (TE×TE)->St->Hp->(List (V×V)->Hp->zk)->zk
 |[],_,H,Q=>Q [] H
 |(tk,tv)::r,σ,H,Q=>tk σ H λx H1=>tv σ H1 λy H2=>IV r σ H2 λps H3=>Q ((x,y)::ps) H3
abbrev VV:List (V×V)->List (ai×ai)->zk:=Paired λp q=>RelV p.1 q.1 /\ RelV p.2 q.2
def xX (X:Cx) (pos:aC) (keys:List<|Option aq) (values:List aq) (ux:List<|TE×TE):zk:=
 ∀ (pins:List<|aj×aZ) (s:au) (σ:St) (H:Hp) (Q:List (V×V)->Hp->zk),Inv X pins σ H s->IV ux σ H Q ->
  wpAny zf X.A (evalPairs<|pairTrees keys values X.env pos) (λvs s'=>∃ ps H',Inv X pins σ H' s' /\ VV ps vs /\ Q ps H') X.xe s
theorem Pa {pos:aC}:xX X pos [] [] []:=λpins s σ H Q I h=>pairTrees_nil_walk #[[],H,I,.nil,h]
theorem AM {pos:aC}{k v:aq}{ks:List (Option aq)}{vs:List aq}{tk tv:TE}{ux:List (TE×TE)}(hk:PE X k tk) (hv:PE X v tv) (hr:xX X pos ks vs ux) :
 xX X pos (ae k::ks) (v::vs) ((tk,tv)::ux):=λpins s σ H Q I h=>
 pairTrees_cons_walk (tE (hk pins s σ H _ I h) λu s1 x H1 I1 rx q1=>tE (hv pins s1 σ H1 _ I1 q1) λw2 s2 y H2 I2 ry q2=>tP (hr pins s2 σ H2 _ I2 q2) λws s3 ps H3 I3 rel q3=>#[(x,y)::ps,H3,I3,.cons #[rx,ry] rel,q3])
def wm (ao more:List<|Key×V):List (Key×V):=more.foldl (λacc kv=>putK acc kv.1 kv.2) ao
theorem KV.merge:∀ {more:List (Key×V)}{rs:List (Key×ai)}{ao:List (Key×V)}{vs:List (Key×ai)},KV more rs->KV ao vs->KV (wm ao more) (merged vs rs):=by
 intro more rs ao vs r;induction r generalizing ao vs with
 |nil=>intro q;show q
 |@cons p q ps qs h t ih=>
   intro r0;have e:KV (putK ao p.1 p.2) (stored vs q.1 q.2):=by
    have:=r0.put p.1 h.2;rw[<-h.1];show this
   show ih e
theorem Bu:∀ (more ao:List<|Key×V),(wm ao more).length<=ao.length+more.length:=by
 intro l_;induction l_ with
 |nil=>(intro ao;change ao.length<=ao.length+0;lia)
 |cons p r ay=>
   intro ao;have h1:=ay<|putK ao p.1 p.2;have h2:=lD ao p.1 p.2;change (wm (putK ao p.1 p.2) r).length<=_;rw[bz];lia
theorem Fh:∀ {ao:List (Key×V)}{ws:List (ai×ai)},VV (ao.map λkv=>(kV kv.1,kv.2)) ws->∃ rs,Carries (c6 P w) ws rs /\ KV ao rs:=by
 intro l_;induction l_ with
 |nil=>(intro _ r;cases r;show#[[],True.intro,.nil])
 |cons p ao ay=>
   intro _ r;cases r with
   |@cons a b as bs h t=>
     let#[rs,c,q]:=ay t;let#[b1,b2]:=b;show#[(p.1,b2)::rs,#[mU h.1,rfl,c],.cons #[rfl,h.2] q]
def aih (ux:List<|TE×TE):TE:=λσ H Q=>∀ p,H p=ag->IV ux σ (upd H p<|.dK []) λps H2=>H2 p=ae (.dK []) /\ ∃ ao:List (Key×V),ps=ao.map (λkv=>(kV kv.1,kv.2)) /\ ao.length<=15 /\ Q (.ref p) (upd H2 p<|.dK<|wm [] ao)
theorem Pb {pos:aC}{keys:List (Option aq)}{values:List aq}{ux:List (TE×TE)}(h:xX X pos keys values ux) (yX:keys.all (·.isSome)=ah) (hl:keys.length=values.length) (h0:keys≠[])
 (Zo:keys.length<=15):PE X (.Dict keys values pos) (aih ux):=by
 intro pins s σ H Q I q;refine wpAny_Dict_walk (knd:=c6 X.prog X.w) yX hl h0 Zo<|tP (h pins _ σ _ _ (I.laid (t':=s.toks) (λ_ _ q=>aN _ q) (aE _)<|C3 s.heap I.big)<|q _<|I.aD.fresh<|aE s.heap.objs.size) λws s2 ps H2 I2 rel ⟨e,ao,ep,lk,q2⟩=>?_;subst ep;let#[rs,c,rk]:=Fh rel;let#[z,hd,sQ,r0,dd]:=Gk I2.aD e;cases r0;refine#[rs,c,dd,λh' nM hs=>#[.ref s.heap.objs.size,_,?_,rfl,q2]];have hz:(wm [] ao).length<=sizeLine:=by
  have h1:=Bu ao [];rw[pQ]at h1;rw[bf];lia
 show mW I2 (by rw[e];show True.intro) hs (let ⟨q,_,_,hq,_⟩:=nM;#[q,hq])<|Co hz hd (rk.merge .nil) nM
structure M1 (X:Cx) (o:aq) (m:Str) (apos:aC) (e:aq) (cR:aC):zk where
 base:attributeBase o m X.env (eval o X.env)=eval o X.env
 few:((backTo cR<|starEach [e] X.env).all (λx=>!x.1)&&(backToKw cR<|keywordEach [] X.env).all (λx=>x.1.isSome)
  && decide (([e]:List aq).length+([]:List Keyword).length+(if ([]:List Keyword).isEmpty then 0 else 1)<30))=ah
 line:(apos.endLine==cR.line)=ah
 trees:backTo cR (starEach [e] X.env)=[(af,eval e X.env)]
def Zp (H:Hp) (a:aj):zk:=(∃ ao,Rd H a zam) \/ ∃ ao,Rd H a (.dT ao)
theorem Fi {s:au}(I:Inv X pins σ H s) (d:Zp H a) :
 s.TypeIs (.ref a) "dict" /\ (∀ b,Value.ref a=.ref b->∃ ob,s.heap.get? b=ae ob /\ ob.dict=ag) /\ (a==sysModules)=af:=by
 rcases d with⟨ao,e⟩|⟨ao,e⟩
 .let#[_,hd,vs,_,dd]:=mV I.aD e;refine#[dd.typeIs,λb q=>?_,hd];cases q;let#[ob,_,_,h1,h2,_]:=dd;show#[ob,h1,h2.2.1]
 .let#[_,hd,xs,_,dd]:=AL I.aD e;refine#[dd.typeIs,λb q=>?_,hd];cases q;let#[ob,_,_,h1,h2,_]:=dd;show#[ob,h1,h2.2.1]
section
variable {s:au} {y d:V} {r:ai} {o:Option V} 
theorem Ut (hu:A.units+1<cLine) (I:Inv X pins σ H s) (g:qC H a y o) (ry:RelV y u) (h:∀ w' s',Inv X pins σ H s'->RelV (o.getD .non) w'->Q w' s') :
 wpAny zf A (call (.builtin "dict.get") [.ref a,u]) Q E s:=by
 rcases g with⟨ao,k,e,ey,l⟩|⟨ao,k,b,e,ey,eb,l⟩
 .subst ey;let#[z,hd,vs,rel,dd]:=mV I.aD e;refine yz XE dd.typeIs acw (acx _ _) (meets_dict_get _ a (mU ry) hd) #[_,dd.mapOf,h _ _ (I.tok _) ?_];rw[l];show(rel.val k).getD zc
 .subst ey;cases (ry);let#[z,hd,xs,rel,dd]:=AL I.aD e;refine yz XE dd.typeIs acw (acx _ _) (meetsH_dict_get _ a b hd) #[yy hu,k,xs,oD I.aD eb,dd,h _ _ (I.tok _) ?_];rw[l];show(rel.val k).getD zc
end
def aea (td ty:TE):TE:=λσ H Q=>td σ H λx H1=>∃ a,x=.ref a /\ Zp H1 a /\ ty σ H1 λy H2=>∃ o,qC H2 a y o /\ Q (o.getD .non) H2
def aeb (td ty:TE):TE:=λσ H Q=>td σ H λx H1=>∃ a,x=.ref a /\ Zp H1 a /\ ty σ H1 λy H2=>∃ ao k v,H2 a=ae zam /\ y=kV k /\ eI ao k=ae v /\ Q v (upd H2 a<|.dK<|qB ao k)
section
variable {o f:aq} {cR:aC} {td ty tx:TE}
theorem Mc (hu:X.A.units+1<cLine) (ho:PE X o td) (he:PE X e ty) (m:M1 X o "get" apos e cR):PE X (.Call (.Attribute o "get" apos) [e] [] cR) (aea td ty):=by
 intro pins s σ H Q I h;refine QU m.base m.few m.line XF XE PySem.F.type_dict_get<|tE (ho pins s σ H _ I h) λu s1 x H1 I1 rx hh=>?_;let#[a,ex,d,q1]:=hh;subst ex;obtain rfl:u=Value.ref a:=rx;let#[t1,t2,_]:=Fi I1 d;refine#[t1,t2,?_];rw[m.trees];show HR zc<|XA<|vH<|tE (he pins s1 σ H1 _ I1 q1) λiv s2 y H2 I2 ry ⟨ov,g,q2⟩=>vG<|Ut hu I2 g ry λw' s3 I3 eO=>#[_,H2,I3,eO,q2]
theorem Md (ho:PE X o td) (he:PE X e ty) (m:M1 X o "pop" apos e cR):PE X (.Call (.Attribute o "pop" apos) [e] [] cR) (aeb td ty):=by
 intro pins s σ H Q I h;refine QU m.base m.few m.line XF acv PySem.F.type_dict_pop<|tE (ho pins s σ H _ I h) λu s1 x H1 I1 rx hh=>?_;let#[a,ex,d,q1]:=hh;subst ex;obtain rfl:u=Value.ref a:=rx;let#[t1,t2,_]:=Fi I1 d;refine#[t1,t2,?_];rw[m.trees];refine HR zc<|XA<|vH<|tE (he pins s1 σ H1 _ I1 q1) λiv s2 y H2 I2 ry ⟨ao,k,v,ea,ey,l,q2⟩=>vG ?_;subst ey;show Ww I2 ea ry l (.inl zc) λw' s3 I3 eO=>#[v,_,I3,eO,q2]
end
section
variable {s:au} {ao:List (Key × V)} 
end
section
variable {s:au} {y:V} 
end
end L2
namespace L2.DL
noncomputable def kn:Key->PyData
 |.inl i=>.int i
 |.inr x=>.str x
mutual
noncomputable def toPy:D->PyData
 |.non=>.none
 |.bl b=>.bool b
 |.int i=>.int i
 |.str x=>.str x
 |.tup l=>.tuple<|bZ l
 |.lst l=>.list<|bZ l
 |.aB l=>.dict<|c9 l
noncomputable def bZ:List D->List PyData
 |[]=>[]
 |d::l=>toPy d::bZ l
noncomputable def c9:List (Key×D)->List (PyData×PyData)
 |[]=>[]
 |(k,d)::l=>(kn k,toPy d)::c9 l
end
section
variable {s:au}
theorem oF {h:aI}:∀ {es:List DictEntry}{vs:List (Key×ai)}{l:List (Key×D)}{ao:List (Key×V)},PySem.Pairs (c6 X.prog X.w) es vs->KV ao vs->aK F l ao->ReadsAll h (es.map (·.key)) ((c9 l).map (·.1)) []
 | _,_,[],_,p,k,d=>by
   cases (d);cases k;cases p;show .nil
 | _,_,(k,x)::l,_,p,q,d=>by
   let#[v,r,e,_,d2]:=d;subst e;cases q with
   |cons q1 q2=>
     cases p with
     |@cons de _ _ _ p1 p2 p3=>
       have e1:=q1.1;simp at e1;rw[<-e1]at p1;have hk:Reads h de.key (kn k) []:=by
        rcases fV (p1) with⟨i,t,e2,e3⟩|⟨y,t,e2,e3⟩
        .rw[e2,e3];show .int i t
        .rw[e2,e3];show .str y t
       show ReadsAll.cons hk<|oF (h:=h) p3 q2 d2
mutual
theorem gk (I:Inv X pins σ H s) (sub:Sub F H):∀ {d:D}{v:V}{u:ai},Den F d v->RelV v u->∃ as,Reads s.heap u (toPy d) as
 |.non,_,_,h,r=>by cases (show _=V.non from h);cases r;show#[[],.none]
 |.bl b,_,_,h,r=>by cases (show _=V.bl b from h);cases r;show#[[],.bool b]
 |.int i,_,_,h,r=>by cases (show _=V.int i from h);let#[t,rfl]:=r;show#[[],.int i t]
 |.str x,_,_,h,r=>by cases (show _=V.str x from h);let#[t,rfl]:=r;show#[[],.str x t]
 | .tup l,_,_,h,r=>by
   let#[a,vs,rfl,h1,h2]:=h;cases r;let#[_,its,rv,ob,e1,e2,n,e3]:=(show cz X.prog X.w H s.heap a (.tup vs) from I.aD a _ (sub _ _ h1));let#[as,ra]:=jQ I sub h2 rv;show#[as,.tuple e1 e2 e3 (by simpa using ra)]
 | .lst l,_,_,h,r=>by
   let#[a,vs,rfl,h1,h2]:=h;cases r;let#[_,its,n,rv,e1]:=(show cz X.prog X.w H s.heap a (.lst vs) from I.aD a _ (sub _ _ h1));let#[as,ra]:=jQ I sub h2 rv;show#[a::as,.list e1 zc zc (by simpa using ra)]
 | .aB l,_,_,h,r=>by
   let#[a,ao,rfl,h1,h2]:=h;cases r;let#[_,_,vs,rk,ob,es,ep,e1,e2,e3,_,pr,_]:=(show cz X.prog X.w H s.heap a zam from I.aD a _ (sub _ _ h1));let#[as,ra]:=mj I sub h2 rk pr;show#[a::[]++as,.dict e1 e2.1 e3 (oF (X:=X) pr rk h2) ra]
theorem jQ (I:Inv X pins σ H s) (sub:Sub F H):∀ {l:List D}{vs:List V}{us:List ai},aG F l vs->Vals vs us->∃ as,ReadsAll s.heap us (bZ l) as
 |[],_,_,h,r=>by cases (show _=[] from h);cases r;show#[[],.nil]
 | d::l,_,_,h,r=>by
   let#[v,t,e,h1,h2]:=h;subst e;cases r with
   |cons r1 r2=>
     let#[as,ra]:=gk I sub h1 r1;let#[bs,rb]:=jQ I sub h2 r2;show#[as++bs,.cons ra rb]
theorem mj (I:Inv X pins σ H s) (sub:Sub F H):∀ {l:List (Key×D)}{ao:List (Key×V)}{vs:List (Key×ai)}{es:List DictEntry},aK F l ao->KV ao vs->PySem.Pairs (c6 X.prog X.w) es vs->∃ as,ReadsAll s.heap (es.map (·.val)) ((c9 l).map (·.2)) as
 |[],_,_,_,h,r,p=>by cases (show _=[] from h);cases r;cases p;show#[[],.nil]
 | (k,d)::l,_,_,_,h,r,p=>by
   let#[v,t,e,h1,h2]:=h;subst e;cases r with
   |cons r1 r2=>
     cases p with
     |cons p1 p2 p3=>
       let#[as,ra]:=gk I sub h1 r1.2;let#[bs,rb]:=mj I sub h2 r2 p3;rw[<-p2]at ra;show#[as++bs,.cons ra rb]
end
abbrev Em (ts:List Str):zk:=∀ t∈ts,t.length<=sizeLine
theorem Me {k:Key}{y:ai}(e:ue k y=ah) (hs:(kn k).showable=ah) (hz:(kn k).shown.length<=sizeLine) (n:Nat):ReprK X.prog X.w [] h n y (kn k).shown:=by
 rcases fV e with⟨i,t,e2,e3⟩|⟨x,t,e2,e3⟩
 .subst e2;subst e3;show .of_is (ReprIs.int t (by simpa[kn,PyData.showable] using hs)) _ _ _
 .subst e2;subst e3;show .of_is (ReprIs.str x t (by simpa only[kn,PyData.shown] using hz)) _ _ _
theorem oG {h:aI}{n:Nat}:∀ {es:List DictEntry}{vs:List (Key×ai)}{l:List (Key×D)}{ao:List (Key×V)},PySem.Pairs (c6 X.prog X.w) es vs->KV ao vs->aK F l ao->PyData.showableKv (c9 l)=ah->Em (PyData.shownKv<|c9 l) ->
 ReprAllK X.prog X.w [] h n (es.map (·.key)) (PyData.shownAll ((c9 l).map (·.1)))
 | _,_,[],_,p,k,d,_,_=>by
   cases (d);cases k;cases p;show .nil
 | _,_,(k,x)::l,_,p,q,d,hs,hz=>by
   let#[v,r,e,_,d2]:=d;subst e;simp[c9,PyData.showableKv,aJ]at hs;have z1:=hz _<|bD ..;rw[Hd,Hd]at z1;cases q with
   |cons q1 q2=>
     cases p with
     |@cons de _ _ _ p1 p2 p3=>
       have e1:=q1.1;simp at e1;rw[<-e1]at p1;show .cons (Me (p1) hs.1.1 za n)<|oG p3 q2 d2 hs.2 λt m=>hz t<|bE _ m
mutual
theorem C6 (I:Inv X pins σ H s) (sub:Sub F H):∀ {d:D}{v:V}{u:ai},Den F d v->RelV v u->(toPy d).showable=ah->(toPy d).shown.length<=sizeLine->∃ bs,ReadAtMost s.heap (toPy d).depth bs /\ ReprK X.prog X.w bs s.heap (toPy d).depth u (toPy d).shown
 |.non,_,_,h,r,_,_=>by cases (show _=V.non from h);cases r;show#[[],(λ_ z=>nomatch z),.of_is ReprIs.none _ _ _]
 |.bl b,_,_,h,r,_,_=>by cases (show _=V.bl b from h);cases r;show#[[],(λ_ z=>nomatch z),.of_is (ReprIs.bool b) _ _ _]
 |.int i,_,_,h,r,hs,_=>by cases (show _=V.int i from h);let#[t,rfl]:=r;show#[[],(λ_ z=>nomatch z),.of_is (ReprIs.int t<|of_decide_eq_true hs) _ _ _]
 |.str x,_,_,h,r,_,hz=>by cases (show _=V.str x from h);let#[t,rfl]:=r;show#[[],(λ_ z=>nomatch z),.of_is (ReprIs.str x t hz) _ _ _]
 | .tup l,_,_,h,r,hs,hz=>by
   let#[as,rd]:=gk I sub h r;let#[a,vs,rfl,h1,h2]:=h;cases r;let#[_,its,rv,ob,e1,e2,n,e3]:=(show cz X.prog X.w H s.heap a (.tup vs) from I.aD a _ (sub _ _ h1));have nN:(tupleText<|PyData.shownAll<|bZ l).length<=sizeLine:=by simpa only[toPy,PyData.shown] using hz
   let#[bs,hb,hk]:=jE I sub h2 rv (by simpa[toPy,PyData.showable] using hs) λt m=>cB (aa7 m) nN;erw[toPy,PyData.depth,PyData.shown]at rd ⊢;show#[a::bs,ReadAtMost.cons rd (qj _) hb,ReprK.tuple e1 e2 e3 (wX rd (nE _) hb) (by simpa using hk)]
 | .lst l,_,_,h,r,hs,hz=>by
   let#[as,rd]:=gk I sub h r;let#[a,vs,rfl,h1,h2]:=h;cases r;let#[_,its,n,rv,e1]:=(show cz X.prog X.w H s.heap a (.lst vs) from I.aD a _ (sub _ _ h1));have nN:(listText<|PyData.shownAll<|bZ l).length<=sizeLine:=by simpa only[toPy,PyData.shown] using hz
   let#[bs,hb,hk]:=jE I sub h2 rv (by simpa[toPy,PyData.showable] using hs) λt m=>cB (aa8 m) nN;erw[toPy,PyData.depth,PyData.shown]at rd ⊢;refine#[a::bs,ReadAtMost.cons rd (qj _) hb,?_];cases its with
   |nil=>
     have e:bZ l=[]:=by
      cases l with
      |nil=>rfl
      |cons x l=>let#[v,t,e,_]:=h2;subst e;cases rv
     rw[e];erw[PyData.shownAll,aa9];show ReprK.listEmpty e1 zc zc
   |cons x its=>show ReprK.list e1 zc zc (wX rd (nE _) hb) (by simpa using hk.length_eq) λi y q=>hk.item i y (by simpa using q)
 | .aB l,_,_,h,r,hs,hz=>by
   let#[as,rd]:=gk I sub h r;let#[a,ao,rfl,h1,h2]:=h;cases r;let#[_,hy,vs,rk,ob,es,ep,e1,e2,e3,_,pr,_]:=(show cz X.prog X.w H s.heap a zam from I.aD a _ (sub _ _ h1));have nN:(dictText<|PyData.shownKv<|c9 l).length<=sizeLine:=by simpa only[toPy,PyData.shown] using hz
   have fit:Em (PyData.shownKv<|c9 l):=λt m=>cB (aba m) nN;have En:PyData.showableKv (c9 l)=ah:=by simpa[toPy,PyData.showable] using hs
   let#[bs,hb,hk]:=oH I sub h2 rk pr En fit;have hK:=oG (X:=X) (h:=s.heap) (n:=PyData.depthKv<|c9 l) pr rk h2 En fit;erw[toPy,PyData.depth,PyData.shown]at rd ⊢;rw[XM];show#[a::bs,ReadAtMost.cons rd (qj _) hb,ReprK.dict e1 e2.1 e3 hy (wX rd (nE _) hb)<|acL _ _ _ (hK.more_le (λ_ z=>by cases z)<|aE _) hk]
theorem jE (I:Inv X pins σ H s) (sub:Sub F H):∀ {l:List D}{vs:List V}{us:List ai},aG F l vs->Vals vs us->PyData.showableAll (bZ l)=ah->Em (PyData.shownAll<|bZ l)->∃ bs,ReadAtMost s.heap (PyData.depthAll<|bZ l) bs /\ ReprAllK X.prog X.w bs s.heap (PyData.depthAll<|bZ l) us (PyData.shownAll<|bZ l)
 |[],_,_,h,r,_,_=>by cases (show _=[] from h);cases r;show#[[],(λ_ z=>nomatch z),.nil]
 | d::l,_,_,h,r,hs,hz=>by
   let#[v,t,e,h1,h2]:=h;subst e;erw[bZ,PyData.showableAll,aJ]at hs;erw[bZ,PyData.shownAll]at hz;cases r with
   |cons r1 r2=>
     let#[as,ha,ka]:=C6 I sub h1 r1 hs.1<|hz _<|bD ..;let#[bs,hb,kb]:=jE I sub h2 r2 hs.2 λt m=>hz t<|bE _ m;erw[bZ,PyData.depthAll,PyData.shownAll];have la:=Nat.le_max_left (toPy d).depth<|PyData.depthAll<|bZ l;have lb:=Nat.le_max_right (toPy d).depth<|PyData.depthAll<|bZ l;show#[as++bs,(ha.mono la).append<|hb.mono lb,.cons ((ka.more λ_ m=>qP _ m).level_le la)<|kb.more_le (λ_ m=>hZ _ m) lb]
theorem oH (I:Inv X pins σ H s) (sub:Sub F H):∀ {l:List (Key×D)}{ao:List (Key×V)}{vs:List (Key×ai)}{es:List DictEntry},aK F l ao->KV ao vs->PySem.Pairs (c6 X.prog X.w) es vs->PyData.showableKv (c9 l)=ah->Em (PyData.shownKv<|c9 l) ->
 ∃ bs,ReadAtMost s.heap (PyData.depthKv<|c9 l) bs /\ ReprAllK X.prog X.w bs s.heap (PyData.depthKv<|c9 l) (es.map (·.val)) (PyData.shownAll ((c9 l).map (·.2)))
 |[],_,_,_,h,r,p,_,_=>by cases (show _=[] from h);cases r;cases p;show#[[],(λ_ z=>nomatch z),.nil]
 | (k,d)::l,_,_,_,h,r,p,hs,hz=>by
   let#[v,t,e,h1,h2]:=h;subst e;erw[c9,PyData.showableKv,aJ]at hs;erw[c9,PyData.shownKv]at hz;have z1:=hz _<|bD ..;rw[Hd,Hd]at z1;cases r with
   |cons r1 r2=>
     cases p with
     |cons p1 p2 p3=>
       let#[as,ha,ka]:=C6 I sub h1 r1.2 hs.1.2 za;let#[bs,hb,kb]:=oH I sub h2 r2 p3 hs.2 λt m=>hz t<|bE _ m;rw[<-p2]at ka;erw[c9,PyData.depthKv,aL,PyData.shownAll];have la:(toPy d).depth<=max (max (kn k).depth (toPy d).depth) (PyData.depthKv<|c9 l):=by lia
       have lb:PyData.depthKv (c9 l)<=max (max (kn k).depth (toPy d).depth) (PyData.depthKv<|c9 l):=by lia
       show#[as++bs,(ha.mono la).append<|hb.mono lb,.cons ((ka.more λ_ m=>qP _ m).level_le la)<|kb.more_le (λ_ m=>hZ _ m) lb]
end
end
section
variable {a b c:aq} {pos p p2:aC}
def aii (vs:List V) (H:Hp) (Q:VK):zk:=∃ (F:Hp) (d:D) (v:V),vs=[v] /\ Sub F H /\ Den F d v /\ (toPy d).showable=ah /\ (toPy d).depth<=60 /\ (toPy d).shown.length<=sizeLine /\ Q (.str (toPy d).shown) H
theorem JE {k:Nat}(hr:dE k X.A):eE X (.builtin "repr") aii:=by
 intro pins s σ H xs us Q I rv h;let#[F,d,v,rfl,sub,hd,h1,h2,h3,q]:=h;let#[u,rfl,ru]:=Vals.one rv;have fin:∀ (t:Tok) (tk:Nat),EP X pins σ Q (.str (toPy d).shown t) { s with toks:=tk }:=λt tk=>#[.str _,H,I.tok tk,#[t,rfl],q];have IW:∀ (t':Str),t'=(toPy d).shown->∀ h' u tk,(∀ b o,s.heap.get? b=ae o->h'.get? b=ae o)->∃ x t,Value.str t' u=.str x t /\ EP X pins σ Q (.str t' u) { s with heap:=h',toks:=tk }:=λt' et h' t tk hk=>by
  subst et;show#[_,_,rfl,.str _,H,I.kept hk,#[t,rfl],q]
 have hu:=hr.units;cases d with
 |non=>cases (show v=.non from hd);cases ru;show P.repr_of_none<|fin _ _
 |bl b=>cases (show v=.bl b from hd);cases ru;show P.repr_of_bool<|fin _ _
 |int i=>cases (show v=.int i from hd);let#[t,rfl]:=ru;show P.repr_of_int (of_decide_eq_true h1)<|fin _ _
 |str x=>cases (show v=.str x from hd);let#[t,rfl]:=ru;show P.repr_of_str<|fin _ _
 |tup l=>
   let#[as,rd]:=gk I sub hd ru;let#[a,vs,rfl,k1,k2]:=hd;cases ru;let#[_,its,rv,ob,e1,e2,n,e3]:=(show cz X.prog X.w H s.heap a (.tup vs) from I.aD a _ (sub _ _ k1));have nN:(tupleText<|PyData.shownAll<|bZ l).length<=sizeLine:=by simpa only[toPy,PyData.shown] using h3
   let#[bs,hb,hk]:=jE I sub k2 rv (by simpa[toPy,PyData.showable] using h1) λt m=>cB (aa7 m) nN;simp[toPy,PyData.depth]at rd h2;show QV za #[ob,e1,e2] PySem.F.slot_tuple_repr<|call_tuple_reprK e1 e2 e3 (wX rd (nE _) hb) (by simpa using hk) hr.gd (λb _=>Clear.nil b) (by change X.A.units+1+_<cLine;lia) (λ_ _ z=>z) (IW _<|rfl) nN
 |lst l=>
   let#[as,rd]:=gk I sub hd ru;let#[a,vs,rfl,k1,k2]:=hd;cases ru;let#[_,its,n,rv,e1]:=(show cz X.prog X.w H s.heap a (.lst vs) from I.aD a _ (sub _ _ k1));have nN:(listText<|PyData.shownAll<|bZ l).length<=sizeLine:=by simpa only[toPy,PyData.shown] using h3
   let#[bs,hb,hk]:=jE I sub k2 rv (by simpa[toPy,PyData.showable] using h1) λt m=>cB (aa8 m) nN;simp[toPy,PyData.depth]at rd h2;refine QV za #[_,e1,rfl] PySem.F.slot_list_repr.toG ?_;cases its with
   |nil=>
     have e:bZ l=[]:=by
      cases l with
      |nil=>rfl
      |cons x l=>let#[v,t,e,_]:=k2;subst e;cases rv
     show call_list_repr_empty #[_,e1,rfl] e1 zc<|IW "[]" (by simp[toPy,PyData.shown,e,PyData.shownAll,aa9]) s.heap _ _ λ_ _ z=>z
   |cons x its=>show call_list_reprK e1 zc zc (wX rd (nE _) hb) (by simpa using hk.length_eq) (λi y q=>hk.item i y (by simpa using q)) hr.gd (λb _=>Clear.nil b) (by change X.A.units+1+_<cLine;lia) (λ_ _ z=>z) (IW _<|rfl) nN
 |aB l=>
   let#[as,rd]:=gk I sub hd ru;let#[a,ao,rfl,k1,k2]:=hd;cases ru;let#[_,hy,vs,rk,ob,es,ep,e1,e2,e3,_,pr,_]:=(show cz X.prog X.w H s.heap a zam from I.aD a _ (sub _ _ k1));have nN:(dictText<|PyData.shownKv<|c9 l).length<=sizeLine:=by simpa only[toPy,PyData.shown] using h3
   have fit:Em (PyData.shownKv<|c9 l):=λt m=>cB (aba m) nN;have En:PyData.showableKv (c9 l)=ah:=by simpa[toPy,PyData.showable] using h1
   let#[bs,hb,hk]:=oH I sub k2 rk pr En fit;erw[toPy,PyData.depth]at rd h2;rw[XM]at nN;show QV za #[ob,e1,e2.1] PySem.F.slot_dict_repr<|call_dict_reprK e1 e2.1 e3 hy (wX rd (nE _) hb) (acL _ _ _ ((oG (X:=X) (h:=s.heap) (n:=PyData.depthKv<|c9 l) pr rk k2 En fit).more_le (λ_ z=>by cases z)<|aE _) hk) hr.gd (λb _=>Clear.nil b) (by change X.A.units+1+_<cLine;lia) (λ_ _ z=>z) (IW _ (by erw[toPy,PyData.shown,XM])) nN
def aec (d:D):Bool:=(toPy d).showable&&decide ((toPy d).depth<=60)&&decide ((toPy d).shown.length<=sizeLine)
theorem Pc (s:Sub F H):∀ {d:D}{v:V},pb F H d v->∃ F',Sub F' H /\ Den F' d v
 | .lst l,_,h=>by
   let#[a,vs,rfl,h1,h2]:=h;refine#[upd F a _,λb u e=>?_,a,vs,rfl,fw,aG.mono (λb u e=>?_) l h2]
   .by_cases z:b=a
    .subst z;rw[fw]at e;rw[h1,e]
    .rw[fC z]at e;show s b u e
   .by_cases z:b=a
    .subst z;rw[s b u e]at h1;rw[fw,h1]
    .rw[fC z];show e
 | .aB l,_,h=>by
   let#[a,vs,rfl,h1,h2]:=h;refine#[upd F a _,λb u e=>?_,a,vs,rfl,fw,aK.mono (λb u e=>?_) l h2]
   .by_cases z:b=a
    .subst z;rw[fw]at e;rw[h1,e]
    .rw[fC z]at e;show s b u e
   .by_cases z:b=a
    .subst z;rw[s b u e]at h1;rw[fw,h1]
    .rw[fC z];show e
 |.tup _,_,h=>#[F,s,h]
 |.non,_,h=>#[F,s,h]
 |.bl _,_,h=>#[F,s,h]
 |.int _,_,h=>#[F,s,h]
 |.str _,_,h=>#[F,s,h]
def aed (m:DE W):DE W:=λenv bx=>fA zD λw bx1=>match bU bx1 w with
 |some d=>if aec d=ah then .val (.d<|.str (toPy d).shown) bx1 else .bad
 |none=>.bad
theorem Pd {k:Nat}(hr:dE k X.A) (hg:Gl X "repr") (hm:X.mg "repr"=ag) (ha:PD X T Z a ma) (he:starEach [a] X.env=(af,eval a X.env)::starEach [] X.env:=by rfl) :
 PD X T Z (.Call (.Name "repr" p) [a] [] pos) (aed ma):=by
 refine PE.imp (mN (JE hr) hg hm (by decide +kernel) (jq ha lu he) ze (rfl) he (by rfl)) λσ H Q=>x4 λF r env bx R h=>?_;refine#[F,r,env,bx,R,End.bind h λw bx1 F1 r1 v H1 g1 R1 d1 h1=>?_];split at h1
 .ext d er;let#[F2,sub,d2]:=Pc R1.fh<|R1.rj d1 er;split at h1
  .ext hc;unfold aec at hc;rw[aJ,aJ]at hc;show#[F2,d,v,rfl,sub,d2,hc.1.1,of_decide_eq_true hc.1.2,of_decide_eq_true hc.2,h1 F1 r1 _ H1 zU R1 zc]
  .show h1.elim
 .show h1.elim
end
theorem gW {s:au}(I:Inv X pins σ H s) (sub:Sub F H) {d:D}(h:pb F H d v) (r:RelV v u):∃ as,Reads s.heap u (toPy d) as:=by
 cases d with
 |lst l=>
   let#[a,vs,rfl,h1,h2]:=h;cases r;let#[_,its,n,rv,e1]:=(I.aD a _ h1);let#[as,ra]:=jQ I sub h2 rv;show#[a::as,.list e1 zc zc (by simpa using ra)]
 |aB l=>
   let#[a,ao,rfl,h1,h2]:=h;cases r;let#[_,_,vs,rk,ob,es,ep,e1,e2,e3,_,pr,_]:=(I.aD a _ h1);let#[as,ra]:=mj I sub h2 rk pr;show#[a::[]++as,.dict e1 e2.1 e3 (oF pr rk h2) ra]
 |tup l=>show gk I sub h r
 |non=>show gk I sub h r
 |bl b=>show gk I sub h r
 |int i=>show gk I sub h r
 |str x=>show gk I sub h r
def kq (d:D):Bool:=(toPy d).canLay0&&decide ((toPy d).depth<=60)
def eqv (x y:D):Bool:=PyData.eqv (toPy x)<|toPy y
theorem jR {d:D}(h:kq d=ah):(toPy d).canLay0=ah /\ (toPy d).depth<=60:=by
 unfold kq at h
 rwa [aJ,decide_eq_true_eq]at h
def wo (neg:Bool):R2:=λx y H Q=>∃ F dx dy,Sub F H /\ pb F H dx x /\ pb F H dy y /\ kq dx=ah /\ kq dy=ah /\ Q (.bl (if neg then !eqv dx dy else eqv dx dy)) H
theorem Uu (hu:X.A.units+100<cLine):bc X (compareOp .Eq) (wo af):=by
 intro pins s σ H x y v u Q I rx ry h;let#[F,dx,dy,sub,hx,hy,ox,oy,q]:=h;let#[as,ra]:=gW I sub hx rx;let#[bs,rb]:=gW I sub hy ry;let#[x1,x2]:=jR ox;let#[y1,y2]:=jR oy;show SeqAt.compareEq_reads ra rb x1 y1 za #[.bl _,H,I,rfl,q]
theorem Uv (hu:X.A.units+100<cLine):bc X (compareOp .NotEq) (wo ah):=by
 intro pins s σ H x y v u Q I rx ry h;let#[F,dx,dy,sub,hx,hy,ox,oy,q]:=h;let#[as,ra]:=gW I sub hx rx;let#[bs,rb]:=gW I sub hy ry;let#[x1,x2]:=jR ox;let#[y1,y2]:=jR oy;show SeqAt.compareNe_reads ra rb x1 y1 za #[.bl _,H,I,rfl,q]
def uz (neg:Bool) (x y:D):Option Res:=if kq x&&kq y then ae (.old<|.bl (if neg then !eqv x y else eqv x y)) else ag
theorem aee (neg:Bool):cx (wo neg) (uz neg):=by
 intro F H x y v w Q s sub rx ry e k;unfold uz at e;split at e
 .ext c;rw[aJ]at c;cases e;show#[F,x,y,sub,rx,ry,c.1,c.2,k _ _ #[rfl,rfl]]
 .cases e
def aY:D->D->Option Res
 |.int i,.int j=>ae<|.old<|.bl<|decide (i=j)
 |.str i,.str j=>ae<|.old<|.bl<|decide (i=j)
 |.tup l,.tup []=>ae<|.old<|.bl l.isEmpty
 | .lst a,.lst b=>(match intsOf a,intsOf b with
   |some ns,ae ms=>ae<|.old<|.bl<|decide (ns=ms)
   |_,_=>uz af (.lst a)<|.lst b)
 |x,y=>uz af x y
def dF:D->D->Option Res
 |.int i,.int j=>ae<|.old<|.bl<|!decide (i=j)
 |.str i,.str j=>ae<|.old<|.bl<|!decide (i=j)
 |.lst l,.lst []=>ae<|.old<|.bl<|!l.isEmpty
 |x,y=>uz ah x y
theorem Uw {x y:D}{s:Res}(h:aY x y=ae s):Zk x y=ae s \/ uz af x y=ae s:=by
 unfold aY at h;split at h
 .show .inl h
 .show .inl h
 .show .inl h
 .ext a b;split at h
  .ext ns ms e1 e2;left;change ((intsOf a).bind λns=>(intsOf b).map λms=>Res.old _)=_;rw[e1,e2];show h
  .show .inr h
 .show .inr h
theorem Ux {x y:D}{s:Res}(h:dF x y=ae s):Zl x y=ae s \/ uz ah x y=ae s:=by
 unfold dF at h;split at h
 .show .inl h
 .show .inl h
 .show .inl h
 .show .inr h
theorem Uy (hu:X.A.units+100<cLine):bc X (compareOp .Eq) (λx y H Q=>IM X.K x y H Q \/ wo af x y H Q):=(O4 za).or<|Uu hu
theorem Uz (hu:X.A.units+100<cLine):bc X (compareOp .NotEq) (λx y H Q=>IP X.K x y H Q \/ wo ah x y H Q):=(O5 za).or<|Uv hu
theorem aij:cx (λx y H Q=>IM K x y H Q \/ wo af x y H Q) aY:=λF H x y v w Q s sub rx ry e k=>(Uw e).imp (λe=>ah1 F H x y v w Q s sub rx ry e k) λe=>aee af F H x y v w Q s sub rx ry e k
theorem aik:cx (λx y H Q=>IP K x y H Q \/ wo ah x y H Q) dF:=λF H x y v w Q s sub rx ry e k=>(Ux e).imp (λe=>ah2 F H x y v w Q s sub rx ry e k) λe=>aee ah F H x y v w Q s sub rx ry e k
end L2.DL
namespace HT
section
open PySem.SeqAt
open PySem.AutoSeq1 (wpAny_loadPart')
open PySem.MeetsSeq PySem.MeetsSeq2 PySem.MeetsSeq3
end
section
variable {s:au}
open PySem.AutoSeq1 (wpAny_loadPart')
end
end HT
namespace L2.DL
section
variable {a b c:aq} {pos p p2:aC}
def aef:R2:=λx y H Q=>rI vP (λi j=>.int<|i*j) x y H Q \/ adC x y H Q
theorem Pe:bc X (binaryOp .Mult) aef:=TN.or T1
noncomputable def ck:D->D->Option Res
 |.int i,.int j=>if vP i j then ae (.old<|.int<|i*j) else ag
 |.lst l,.int k=>if -(2 ^ 63)<=k /\ k<2 ^ 63 /\ l.length*k.toNat<=sizeLine then ae (.lst (List.replicate k.toNat l).flatten) else ag
 |_,_=>ag
theorem aG.rep {F:Hp}{l:List D}{vs:List V}(h:aG F l vs):∀ k:Nat,aG F (List.replicate k l).flatten (List.replicate k vs).flatten
 |0=>rfl
 |k+1=>h.append<|h.rep k
theorem ail:cx aef ck:=by
 intro F H x y v w Q s sub rx ry e k;unfold ck at e;split at e
 .ext i j;split at e
  .ext hc;cases e;show .inl #[i,j,rx,ry,hc,k _ _ #[rfl,rfl]]
  .cases e
 .ext l j;split at e
  .ext hc;cases e;let#[a,vs,rfl,h1,h2]:=rx;show .inr #[a,j,vs,rfl,ry,h1,hc.1,hc.2.1,by rw[<-h2.length];show hc.2.2,λp hp=>k _ _ #[p,_,rfl,hp,rfl,h2.rep _]]
  .cases e
 .cases e
theorem UA (hu:X.A.units<cLine):bc X (compareOp .LtE) (kQ λi j=>.bl<|decide (i<=j)):=Wi
noncomputable def nO:D->D->Option Res:=λx y=>match x,y with|.int i,.int j=>ae (.old<|.bl<|decide (i<=j))|_,_=>ag
theorem aim:cx (kQ λi j=>.bl<|decide (i<=j)) nO:=IL λ_ _ _=>rfl
theorem JF {o:aq}(ho:PD X T Z o ma) (ha:PD X T Z e mb)
 (vV:attributeBase o "append" X.env (eval o X.env)=eval o X.env:=by rfl)
 (vW:((backTo pos<|starEach [e] X.env).all (λx=>!x.1)&&(backToKw pos<|keywordEach [] X.env).all (λx=>x.1.isSome)
  && decide zad)=ah:=by rfl)
 (vX:(apos.endLine==pos.line)=ah:=by rfl) (hs:starEach [e] X.env=(af,eval e X.env)::starEach [] X.env:=by rfl) :
 PD X T Z (.Call (.Attribute o "append" apos) [e] [] pos) (kX ma mb):=
 PE.imp (LM XG PySem.F.slot_list_append PySem.F.type_list_append oz ho (jq ha lu hs) vV vW vX hs (by rfl)) λσ H Q h=>Wv h
def Eo (mo mi:DE W):DG:=λw env bx=>match mo env bx with
 | .val (.b n) bx1=>(match mi env bx1 with
   | .val (.d<|.int k) bx2=>(match w,bx2[n]? with
     |.d d,ae (.lst l)=>(cA l.length k).map λj=>(env,bx2.set n<|.lst<|l.set j d)
     |_,_=>ag)
   |_=>ag)
 |_=>ag
theorem Pf {o i:aq}{mo mi:DE W}(ho:PD X T Z o mo) (hi:PD X T Z i mi)
 (ha:∀ v,assign (.Subscript o i pos) X.env v=(do
  let ov <-holding [v] (eval o X.env)
  let iv <-holding [v,ov] (eval i X.env)
  standAt pos
  holding [v,ov,iv] (setItem ov iv v)
  release [v,ov,iv] []):=by intro _;rfl):kW X T (.Subscript o i pos) (Eo mo mi):=by
 refine PG.imp (TC ho hi LK ha) λv σ H Q=>x5 λF r env bx w R dw h=>?_;unfold Eo at h;refine#[F,r,env,bx,R,?_];cases eo:mo env bx with
 |bad=>simp[eo]at h;show h.elim
 |exc c bx1=>simp[eo]at h;show h.elim
 |val ow bx1=>
   simp[eo]at h;intro F1 r1 ov H1 g1 R1 d1;cases ow with
   |b n=>
     refine#[F1,r1,env,bx1,R1,?_];cases ei:mi env bx1 with
     |bad=>simp[ei]at h;show h.elim
     |exc c bx2=>simp[ei]at h;show h.elim
     |val iw bx2=>
       simp[ei]at h;intro F2 r2 iv H2 g2 R2 d2;cases iw with
       |d id=>
         cases id with
         |int k=>
           simp at h;let#[a,rfl,ha]:=g2.den d1;let#[c2,kS,rD]:=R2.eX ha;rw[kS]at h;cases w with
           |d dd=>
             cases c2 with
             |lst l=>
               simp at h;cases ej:cA l.length k with
               |none=>rw[ej]at h;show h.elim
               |some j=>
                 rw[ej]at h;let#[hF,vs,k1,k2]:=rD;show#[a,vs,k,j,rfl,d2,k1,by rw[<-k2.length];show ej,(h F2 r2 σ _ (g1.trans g2)<|R2.write ha hF #[hF,_,fw,aG.set (Den.mono (g1.trans g2).s dd dw) j k2])]
             |_=>show h.elim
           |_=>show h.elim
         |_=>show h.elim
       |_=>show h.elim
   |_=>show h.elim
noncomputable def sR (i:Nat):DE W:=λenv bx=>match env[i]? with
 | some (ae<|.b n)=>(match bx[n]? with
   |some (.lst l)=>.val (.d<|.lst l)<|bx.set n .dead
   |some (.aB l)=>.val (.d<|.aB l)<|bx.set n .dead
   |_=>.bad)
 |_=>.bad
theorem UB (i:Nat) (hN:X.N[i]?=ae x:=by rfl) (hv:xx X.env.scope x:=by first|show Or.inl zc|show Or.inr (Or.inl zc)|show Or.inr (Or.inr zc)) (hd:(x==("__debug__":Str))=af:=by decide)
 (pX:(x==("__classdict__":Str))=af:=by decide):PD X T Z (.Name x pos) (sR i):=by
 refine PE.imp (Lp hN hv hd pX) λσ H Q=>x4 λF r env bx R h=>?_;unfold sR at h;split at h
 .ext n e;let#[v,e1,a,rfl,ha]:=R.slot i _ e;let#[c,hc,kc]:=R.eX ha;rw[hc]at h;cases c with
  |lst l=>
    let#[hF,vs,k1,k2]:=kc;let#[R',g]:=R.freeze ha hF k1;show#[_,e1,h _ r _ H g R' #[a,vs,rfl,fw,aG.mono g.s l k2]]
  |aB l=>
    let#[hF,vs,k1,k2]:=kc;let#[R',g]:=R.freeze ha hF k1;show#[_,e1,h _ r _ H g R' #[a,vs,rfl,fw,aK.mono g.s l k2]]
  |_=>show h.elim
 .show h.elim
def uA (m:DE W):DE W:=λenv bx=>fA zD λw bx1=>match w with|.s l=>.val (.d<|.int l.length) bx1|_=>.bad
theorem Ph (hg:Gl X "len") (hm:X.mg "len"=ag) (ha:PD X T Z a ma) (he:starEach [a] X.env=(af,eval a X.env)::starEach [] X.env:=by rfl):PD X T Z (.Call (.Name "len" p) [a] [] pos) (uA ma):=by
 refine PE.imp (mN mQ hg hm PySem.boot_len (jq ha lu he) ze (rfl) he (by rfl)) λσ H Q=>x4 λF r env bx R h=>?_;refine#[F,r,env,bx,R,End.bind h λw bx1 F1 r1 v H1 g1 R1 d1 h1=>?_];cases w with
 |s l=>
   let#[q,o,rfl,k]:=d1;refine#[q,_,rfl,.inl<|.inl<|.inr #[o,R1.fh _ _ k],?_];rw[aR];show h1 F1 r1 _ H1 zU R1 zc
 |_=>show h1.elim
def Ep (m k:DE W):DE W:=λenv bx=>fA zD λw bx1=>fA (k env bx1) λu bx2=>match w,u with
 |.s l,.d (.int i)=>(match bF l i with|some n=>.val (.d<|.int n) bx2|none=>.bad)
 |_,_=>.bad
theorem UC (ha:PD X T Z a ma) (hb:PD X T Z b mb) (hs:Iq b):PD X T Z (.Subscript a b pos) (Ep ma mb):=by
 refine PE.imp (SL Gc ha hb hs) λσ H Q=>x4 λF r env bx R h=>?_;refine#[F,r,env,bx,R,End.bind h λw bx1 F1 r1 v H1 g1 R1 d1 h1=>?_];refine#[F1,r1,env,bx1,R1,End.bind h1 λu bx2 F2 r2 y H2 g2 R2 d2 h2=>?_];cases w with
 |s l=>
   cases u with
   |d d=>
     cases d with
     |int i=>
       let#[q,o,rfl,k]:=d1;simp at h2;cases e:bF l i with
       |none=>rw[e]at h2;show h2.elim
       |some n=>
         rw[e]at h2;refine#[q,l.map V.int,i,.int n,rfl,d2,.inl<|.inr #[o,R2.fh _ _<|g2.s _ _ k],?_,h2 F2 r2 _ H2 (.refl F2 r2) R2 zc];unfold bF at e ⊢;rw[aR];cases ej:cA l.length i with
         |none=>rw[ej]at e;cases e
         |some j=>rw[ej]at e;erw[bS]at e ⊢;rw[kL,e];rfl
     |_=>show h2.elim
   |_=>show h2.elim
 |_=>show h2.elim
def p6 (bo:Bool) (l:List<|Key×D):DE W:=λ_ bx=>cj bo (ae<|.aB l) bx
theorem Pi (bo:Bool):PD X T Z (.Dict [] [] pos) (p6 bo []):=by
 show PE.imp (C4) λσ H Q=>x4 λF r env bx R h=>(λp hp=>g9 R h #[p,[],rfl,hp,rfl,rfl])
end
end L2.DL
namespace HT
section
variable {s:au}
theorem Fj {t:aj}{i:Nat}{x:ai}(hit:s.heap.IsTupleIter it t i) (ht:s.heap.IsTuple t items) (hx:items[i]?=ae x)
 (hQ:∀ h',h'.IsTupleIter it t (i+1)->Heap.SameBut it s.heap h'->Q x { s with heap:=h' }):wpAny zh A (Builtin.SmallTypes.nextOf<|.ref it) Q E s:=by
 let#[ob,rz,xO,rq]:=id hit;let#[ot,Er,_,nt,Zq]:=ht;refine ak<|qO hit.typeIs HW<|eW HW hit.typeIs acy (show wpAny _ _ (field _ 0 >>= _) _ _ s from ak (ng rz rq zc ?_))<|acz _
 change wpAny _ _ _ _ _ s;refine ak<|ng rz rq zc<|ak<|tR Er Zq ?_
 simp[nq,hx];refine ak<|rT rz rq zj<|az #[x,rfl,az<|hQ _ #[_,sf _ rz<|xr<|qr rq _,(yK ..).trans xO,?_]<|Heap.SameBut.update ..];rw[qr rq];simp[rawInt]
theorem JG {t:aj}{i:Nat}(hh:A.handled=ag) (hit:s.heap.IsTupleIter it t i) (ht:s.heap.IsTuple t items) (hx:items[i]?=ag)
 (hE:∀ h' e,Heap.ExtBut it s.heap h'->(∃ o,h'.get? e=ae o /\ o.cls=.type "StopIteration")->E (.ref e) { s with heap:=h' }):wpAny zh A (Builtin.SmallTypes.nextOf<|.ref it) Q E s:=by
 let#[ob,rz,xO,rq]:=id hit;let#[ot,Er,_,nt,Zq]:=ht;refine ak<|qO hit.typeIs HW<|eW HW hit.typeIs acy (show wpAny _ _ (field _ 0 >>= _) _ _ s from ak (ng rz rq zc ?_))<|acz _;refine ak<|ng rz rq zc<|ak<|tR Er Zq ?_;simp[nq,hx];refine ak<|nU<|ak<|rT rz rq zj<|ak ?_;refine ak<|eV (ak<|yA (by first|rfl|(rfl))<|eV ?_ (by size_fits)) (by size_fits);refine ak<|He ?_;first|rw[hh]|rw[hh]
 show ak<|az<|Hf<|hE _ _ (((Heap.SameBut.update ..).extBut.push _).push _) #[_,bB _ zc,rfl]
theorem JH (hh:A.handled=ag) (it l:aj) (eS:l≠it) (items:Array ai) :
 Draws prog w A it [it,l] items.size (λi v=>items[i]?=ae v) (λi h=>h.IsTupleIter it l i /\ h.IsTuple l items) where
 live:=λ_ _ st=>let ⟨o,ho,_⟩:=st.1;#[o,ho]
 frame:=λ_ _ _ st hk=>#[st.1.at λo e=>hk it zj o e,st.2.at λo e=>hk l zj o e]
 item:=λi s Q E hi st hQ=>Fj st.1 st.2 (x:=items[i]) zj λh' a b=>hQ _ h' s.toks zj #[a,st.2.at λo e=>b.extBut _ _ eS e] b
 done:=λs Q E st hE=>JG hh st.1 st.2 zj hE
structure Es (z TI TO i1 i2:aj) (qD qH:List aj):zk where
 a:TI≠z /\ TO≠z /\ i1≠z /\ i2≠z /\ TI≠TO /\ TI≠i1 /\ TI≠i2 /\ TO≠i1 /\ TO≠i2 /\ i1≠i2
 f1:z∉qD /\ TO∉qD /\ i2∉qD
 f2:z∉qH /\ TO∉qH /\ i1∉qH
variable {z TI TO i1 i2:aj} {qD qH:List aj} {n1 n2:Nat} {P1 P2:Nat -> ai -> zk} {S1 S2:Nat -> aI -> zk}
theorem Draws.same {P:Nat->ai->zk}{S:Nat->aI->zk}(D:Draws prog w A it fp n P S) {c:aj}{k:Nat}(x:Heap.SameBut c h h') (hc:c∉fp) (st:S k h):S k h' :=
 D.frame k h h' st λb hb o e=>x.extBut _ _ (λq=>hc<|q▸hb) e
abbrev uB (h:aI) (z TI TO:aj) (f0 f1:ai):zk:=h.get? z=ae { cls:=.type "zip",dict:=ag,data:=.fields (List.toArray [f0,f1,.bool af,.ref TI,.ref TO]),slots:=#[] }
def sU (h:aI) (z TI TO:aj):zk:=∃ f0 f1,(f0=.none \/ ∃ a,f0=rawInt a) /\ uB h z TI TO f0 f1
theorem ain {Q:Option aZ->au->zk}(h:Q (s.heap.get? a) s):wpAny zh A (loadIfAlive a) Q E s:=λΓ p _=>by simpa[loadIfAlive] using h
theorem AN {f0 f1:ai}{Q:Bool->au->zk}(hf:f0=.none \/ ∃ a,f0=rawInt a) (hz:uB s.heap z TI TO f0 f1) (h:∀ r h' aio,uB h' z TI TO f0 aio->Heap.SameBut z s.heap h'->Q r { s with heap:=h' }) :
 wpAny zh A (Builtin.SmallTypes.ownedTupleIsFree<|.ref z) Q E s:=by
 have hs:Heap.SameBut z s.heap s.heap:=#[rfl,λ_ _=>rfl];rcases hf with rfl|⟨a,rfl⟩
 .show ak<|ng hz zc zc<|az<|h _ _ f1 hz hs
 .refine ak<|ng hz zc zc<|ak<|ain ?_;cases s.heap.get? a.toNat with
  |none=>show az<|h _ _ f1 hz hs
  |some o=>
    refine ak<|ng hz zc (x:=f1) zc ?_;by_cases q:(f1 != Value.bool ah)=ah
    .rw[if_pos q];show ak<|uM hz zj λg1 wq e1=>az<|h _ g1 _ wq e1
    .rw[if_neg q];show ak<|az<|az<|h _ _ f1 hz hs
theorem Mf (D1:Draws prog w A i1 qD n1 P1 S1) (D2:Draws prog w A i2 qH n2 P2 S2) (R:Es z TI TO i1 i2 qD qH) {k:Nat}{a b:ai}(k1:k<n1) (k2:k<n2)
 (hz:sU s.heap z TI TO) (wt:IsPair s.heap TI (.ref i1)<|.ref i2) (u5:IsPair s.heap TO a b) (s1:S1 k s.heap) (s2:S2 k s.heap)
 (hQ:∀ x y h' tk,P1 k x->P2 k y->sU h' z TI TO->(∃ u v,IsPair h' TO u v)->S1 (k+1) h'->S2 (k+1) h'->IsPair h' s.heap.objs.size x y ->
  zan->Q zab { s with heap:=h',toks:=tk }) :
 wpAny zh A (Builtin.«zip.__next__» #[[.ref z],[]]) (λfin s'=>∃ v,fin=.done (.ret v) /\ Q v s') E s:=by
 let#[#[r1,r2,r3,r4,r5,r6,r7,r8,r9,IX],#[f1,f2,f3],#[f4,f5,f6]]:=R;let#[o0,o1,ho,hz]:=hz
 change wpAny _ _ (field _ 2 >>= _) _ _ _;refine ak<|ng hz zc (x:=.bool af) zc ?_
 change wpAny _ _ _ _ _ _;refine ak<|ng hz zc zc<|ak<|tR wt zc ?_
 change wpAny _ _ _ _ _ _
 refine ak<|AN ho hz λr g0 o2 xY e0=>?_;cases r with
 |true=>
   simp only;refine ak<|nU<|ak<|ng xY zc zc<|ak<|uM xY zj λg1 wq vZ=>?_;have e1:Heap.SameBut z s.heap g1:=#[vZ.1.trans e0.1,λc hc=>(vZ.2 c hc).trans<|e0.2 c hc];refine ak ?_;erw[Xe,abD,xg,yI];refine ak<|ak<|yB (show wpAny _ _ (Builtin.SmallTypes.nextOf (.ref i1) >>= _) _ _ _ from ak (D1.item k _ _ _ k1 (Draws.same D1 e1 f1 s1) λx g2 t2 px Et e2=>az ?_));have Eu:IsPair g2 TO a b:=e2.extBut _ _ r8<|e1.extBut _ _ r2 u5;refine ak<|tR Eu zc<|ak<|QW Eu λg3 aeg e3=>ak<|QX<|az ?_;refine ak<|ak<|yB (show wpAny _ _ (Builtin.SmallTypes.nextOf (.ref i2) >>= _) _ _ _ from ak (D2.item k _ _ _ k2 (Draws.same D2 e3 f5<|Draws.same D2 e2 f6<|Draws.same D2 e1 f4 s2) λy g4 t4 py Zr e4=>az ?_));have aeh:IsPair g4 TO x b:=e4.extBut _ _ r9 aeg;refine ak<|tR aeh zc<|ak<|QW aeh λg5 aip e5=>ak<|QX<|az<|az ?_;have aei:IsPair g5 TO x y:=aip;refine ak<|tR aei zc<|ak<|QY ?_;have qZ:g5.objs.size=s.heap.objs.size:=by rw[e5.1,e4.1,e3.1,e2.1,e1.1]
   have aej:uB g5 z TI TO .ellipsis o2:=e5.extBut _ _ r2.symm<|e4.extBut _ _ r4.symm<|e3.extBut _ _ r2.symm<|e2.extBut _ _ r3.symm wq;have Ew:z<g5.objs.size:=a9 aej
   change wpAny _ _ (Builtin.SmallTypes.ownedTupleHandOut (.ref z) (.ref g5.objs.size) >>= _) _ _ _;refine ak ?_
   unfold Builtin.SmallTypes.ownedTupleHandOut;refine ak<|uM (aN _ aej) zj λg7 aiq e7=>uM (show uB g7 z TI TO (rawInt g5.objs.size) o2 from aiq) zj λg8 air e8=>?_;have up:∀ c o,c≠z->g5.get? c=ae o->g8.get? c=ae o:=λc o c1 q=>e8.extBut _ _ c1<|e7.extBut _ _ c1<|aN _ q;have aek:IsPair g8 g5.objs.size x y:=e8.extBut _ _ (uP Ew)<|e7.extBut _ _ (uP Ew)<|bB _ zc;refine az #[_,rfl,(show Q (.ref g5.objs.size) _ from ?_)];rw[qZ]at aek ⊢;show hQ x y g8 _ px py #[_,_,.inr #[_,rfl],show uB g8 z TI TO (rawInt g5.objs.size) (.bool af) from air] #[_,_,up _ _ r2 aei] (D1.frame _ _ _ (Draws.same D1 e5 f2<|Draws.same D1 e4 f3<|Draws.same D1 e3 f2 Et) λc hc o q=>up c o (λw=>f1<|w▸hc) q) (D2.frame _ _ _ (Draws.same D2 e5 f5 Zr) λc hc o q=>up c o (λw=>f4<|w▸hc) q) aek λc o c1 c2 c3 c4 q=>up c o c1<|(λc o c1 c2 c3 c4 q=>e5.extBut _ _ c2<|e4.extBut _ _ c4<|e3.extBut _ _ c2<|e2.extBut _ _ c3<|e1.extBut _ _ c1 q) c o c1 c2 c3 c4 q
 |false=>
   erw[yH,if_false];rw[show ((List.toArray [Value.ref i1,Value.ref i2]):Array ai)=[Value.ref i1,Value.ref i2].toArray from rfl];erw[abE,xg,yI];refine ak<|ak<|ak<|eB (show wpAny _ _ (Builtin.SmallTypes.nextOf (.ref i1) >>= _) _ _ _ from ak (D1.item k _ _ _ k1 (Draws.same D1 e0 f1 s1) λx g2 t2 px Et e2=>az ?_));refine az<|ak<|ak<|eB (show wpAny _ _ (Builtin.SmallTypes.nextOf (.ref i2) >>= _) _ _ _ from ak (D2.item k _ _ _ k2 (Draws.same D2 e2 f6<|Draws.same D2 e0 f4 s2) λy g4 t4 py Zr e4=>az ?_));refine az<|az<|ak<|QY (az #[_,rfl,?_]) (show 2<=sizeLine by decide);have qZ:g4.objs.size=s.heap.objs.size:=by rw[e4.1,e2.1,e0.1]
   have up:∀ c o,g4.get? c=ae o->(g4.push { cls:=.type "tuple",data:=.seq (List.toArray [x,y]) }).get? c=ae o:=λc o q=>aN _ q;have hT:IsPair (g4.push { cls:=.type "tuple",data:=.seq (List.toArray [x,y]) }) g4.objs.size x y:=bB _ zc;change Q (.ref g4.objs.size) _;rw[qZ]at hT ⊢;show hQ x y _ _ px py #[o0,o2,ho,up _ _<|e4.extBut _ _ r4.symm<|e2.extBut _ _ r3.symm xY] #[a,b,up _ _<|e4.extBut _ _ r9<|e2.extBut _ _ r8<|e0.extBut _ _ r2 u5] (D1.frame _ _ _ (Draws.same D1 e4 f3 Et) λc hc o q=>up c o q) (D2.frame _ _ _ Zr λc hc o q=>up c o q) hT
    λc o c1 c2 c3 c4 q=>up c o<|e4.extBut _ _ c4<|e2.extBut _ _ c3<|e0.extBut _ _ c1 q
theorem Mg (D1:Draws prog w A i1 qD n1 P1 S1) (D2:Draws prog w A i2 qH n2 P2 S2) (R:Es z TI TO i1 i2 qD qH) {k:Nat}{a b:ai}{Q:Fin->au->zk}(hk:k=n1 \/ (k<n1 /\ k=n2))
 (hz:sU s.heap z TI TO) (wt:IsPair s.heap TI (.ref i1)<|.ref i2) (u5:IsPair s.heap TO a b) (s1:S1 k s.heap) (s2:S2 k s.heap)
 (hE:∀ h' e tk,zan->(∃ o,h'.get? e=ae o /\ o.cls=.type "StopIteration")->E (.ref e) { s with heap:=h',toks:=tk }) :
 wpAny zh A (Builtin.«zip.__next__» #[[.ref z],[]]) Q E s:=by
 let#[#[r1,r2,r3,r4,r5,r6,r7,r8,r9,IX],#[f1,f2,f3],#[f4,f5,f6]]:=R;let#[o0,o1,ho,hz]:=hz
 change wpAny _ _ (field _ 2 >>= _) _ _ _;refine ak<|ng hz zc (x:=.bool af) zc ?_
 change wpAny _ _ _ _ _ _;refine ak<|ng hz zc zc<|ak<|tR wt zc ?_
 change wpAny _ _ _ _ _ _
 refine ak<|AN ho hz λr g0 o2 xY e0=>?_;cases r with
 |true=>
   simp only;refine ak<|nU<|ak<|ng xY zc zc<|ak<|uM xY zj λg1 wq vZ=>?_;have e1:Heap.SameBut z s.heap g1:=#[vZ.1.trans e0.1,λc hc=>(vZ.2 c hc).trans<|e0.2 c hc];have ael:uB g1 z TI TO .ellipsis o2:=wq;refine ak ?_;erw[Xe,abD,xg,yI];rcases hk with hk|⟨Zs,u6⟩
   .refine ak<|ak<|yB (show wpAny _ _ _ _ _ _ from ak (D1.done _ _ _ (hk▸Draws.same D1 e1 f1 s1) λg2 ex e2 hx=>?_));let#[oe,wu,Ex]:=hx;have IZ:uB g2 z TI TO .ellipsis o2:=e2 _ _ r3.symm ael;show uM IZ zj λg3 _ e3=>hE g3 ex _ (λc o c1 _ c3 _ q=>e3.extBut _ _ c1<|e2 _ _ c3<|e1.extBut _ _ c1 q) #[oe,e3.extBut _ _ (λq=>by subst q;rw[IZ]at wu;cases wu;simp at Ex) wu,Ex]
   .refine ak<|ak<|yB (show wpAny _ _ (Builtin.SmallTypes.nextOf (.ref i1) >>= _) _ _ _ from ak (D1.item k _ _ _ Zs (Draws.same D1 e1 f1 s1) λx g2 t2 px Et e2=>az ?_));have Eu:IsPair g2 TO a b:=e2.extBut _ _ r8<|e1.extBut _ _ r2 u5;refine ak<|tR Eu zc<|ak<|QW Eu λg3 aeg e3=>ak<|QX<|az ?_;refine ak<|ak<|yB (show wpAny _ _ (Builtin.SmallTypes.nextOf (.ref i2) >>= _) _ _ _ from ak (D2.done _ _ _ (u6▸Draws.same D2 e3 f5 (Draws.same D2 e2 f6<|Draws.same D2 e1 f4 s2)) λg4 ex e4 hx=>?_));let#[oe,wu,Ex]:=hx;have aem:uB g4 z TI TO .ellipsis o2:=e4 _ _ r4.symm<|e3.extBut _ _ r2.symm<|e2.extBut _ _ r3.symm ael;show uM aem zj λg5 _ e5=>hE g5 ex _ (λc o c1 c2 c3 c4 q=>e5.extBut _ _ c1<|e4 _ _ c4<|e3.extBut _ _ c2<|e2.extBut _ _ c3<|e1.extBut _ _ c1 q) #[oe,e5.extBut _ _ (λq=>by subst q;rw[aem]at wu;cases wu;simp at Ex) wu,Ex]
 |false=>
   erw[yH,if_false];rw[show ((List.toArray [Value.ref i1,Value.ref i2]):Array ai)=[Value.ref i1,Value.ref i2].toArray from rfl];erw[abE,xg,yI];rcases hk with hk|⟨Zs,u6⟩
   .show ak<|ak<|ak<|eB (show wpAny _ _ (Builtin.SmallTypes.nextOf (.ref i1) >>= _) _ _ _ from ak (D1.done _ _ _ (hk▸Draws.same D1 e0 f1 s1) λg2 ex e2 hx=>(hE g2 ex _ (λc o c1 _ c3 _ q=>e2 _ _ c3<|e0.extBut _ _ c1 q) hx)))
   .refine ak<|ak<|ak<|eB (show wpAny _ _ (Builtin.SmallTypes.nextOf (.ref i1) >>= _) _ _ _ from ak (D1.item k _ _ _ Zs (Draws.same D1 e0 f1 s1) λx g2 t2 px Et e2=>az ?_));show az<|ak<|ak<|eB (show wpAny _ _ (Builtin.SmallTypes.nextOf (.ref i2) >>= _) _ _ _ from ak (D2.done _ _ _ (u6▸Draws.same D2 e2 f6 (Draws.same D2 e0 f4 s2)) λg4 ex e4 hx=>(hE g4 ex _ (λc o c1 _ c3 c4 q=>e4 _ _ c4<|e2.extBut _ _ c3<|e0.extBut _ _ c1 q) hx)))
theorem Mh (hz:sU s.heap z TI TO) (h:Q (.ref z) s):wpAny zh A (pyIter<|.ref z) Q E s:=by
 have ty:s.TypeIs (.ref z) "zip":=let ⟨_,_,_,hz⟩:=hz;#[_,hz,rfl]
 show yC ty acA<|eW acA ty F.entry_zip_iter (az #[_,rfl, "zip",_,ty,yL.lookup,h])<|F.args_zip_iter_1 _
theorem Bv (D1:Draws prog w A.in1 i1 qD n1 P1 S1) (D2:Draws prog w A.in1 i2 qH n2 P2 S2) (R:Es z TI TO i1 i2 qD qH) {k:Nat}{a b:ai}{Q:Option ai->au->zk}(k1:k<n1) (k2:k<n2)
 (hz:sU s.heap z TI TO) (wt:IsPair s.heap TI (.ref i1)<|.ref i2) (u5:IsPair s.heap TO a b) (s1:S1 k s.heap) (s2:S2 k s.heap)
 (hQ:∀ x y h' tk,P1 k x->P2 k y->sU h' z TI TO->(∃ u v,IsPair h' TO u v)->S1 (k+1) h'->S2 (k+1) h'->IsPair h' s.heap.objs.size x y ->
  zan->Q (ae zab) { s with heap:=h',toks:=tk }):wpAny zh A (pyNext<|.ref z) Q E s:=by
 have hT:s.TypeIs (.ref z) "zip":=let ⟨_,_,_,hz⟩:=hz;#[_,hz,rfl]
 show ak<|uN<|qO hT yL<|eW yL hT acB (Mf D1 D2 R k1 k2 hz wt u5 s1 s2 λx y h' tk b1 b2 b3 b4 b5 b6 b7 b8=>az<|hQ x y h' tk b1 b2 b3 b4 b5 b6 b7 b8)<|acC _
theorem UD {Q:Unit->au->zk}(hz:sU s.heap z TI TO) (h:∀ h',sU h' z TI TO->Heap.SameBut z s.heap h'->Q () { s with heap:=h' }):wpAny zh A (letOwnedTupleGo tg (.ref z)<|.ref p) Q E s:=by
 have same:=h _ hz #[rfl,λ_ _=>rfl];let#[f0,f1,hf,hz]:=id hz
 have tup:wpAny zh A (do
  let o <-load z
  match o.cls,o.data with
  |.type n,.fields vs=>
    if ["enumerate","zip","dict_itemiterator","dict_reverseitemiterator","odict_iterator","itertools.zip_longest","itertools.pairwise"].contains n&&vs[0]?==ae (rawInt p) then
     rule "for.unpacks-the-owned-tuple"
     updateField z 0 .none
  |_,_=>pure ()) Q E s:=by
  refine ak<|wQ hz ?_;dsimp only;split
  .refine ak<|nU<|uM hz zj λg1 wq e1=>h g1 #[.none,f1,.inl zc,wq] e1
  .show az same
 cases tg with
 |Tuple es n q=>show tup
 |List es q=>show tup
 |_=>show az same
theorem Bw (D1:Draws prog w A.in1 i1 qD n1 P1 S1) (D2:Draws prog w A.in1 i2 qH n2 P2 S2) (R:Es z TI TO i1 i2 qD qH) {k:Nat}{a b:ai}{Q:Option ai->au->zk}(hk:k=n1 \/ (k<n1 /\ k=n2))
 (hz:sU s.heap z TI TO) (wt:IsPair s.heap TI (.ref i1)<|.ref i2) (u5:IsPair s.heap TO a b) (s1:S1 k s.heap) (s2:S2 k s.heap)
 (hQ:∀ h' tk,zan->Q ag { s with heap:=h',toks:=tk }):wpAny zh A (pyNext<|.ref z) Q E s:=by
 have hT:s.TypeIs (.ref z) "zip":=let ⟨_,_,_,hz⟩:=hz;#[_,hz,rfl]
 refine ak<|uN<|qO hT yL<|eW yL hT acB (Mg D1 D2 R hk hz wt u5 s1 s2 λh' e tk q1 q2=>?_)<|acC _;let#[o,ho,hc]:=q2;show ak<|yD #[o,ho,hc] Hg<|az<|hQ h' tk q1
noncomputable def Ey (h:aI) (l1:aj):aI:=h.push { cls:=.type "tuple_iterator",data:=.fields (List.toArray [.ref l1,.int 0 0]) }
def xZ (h:aI) (l1 l2:aj):aI:=(Ey h l1).push { cls:=.type "tuple_iterator",data:=.fields (List.toArray [.ref l2,.int 0 0]) }
def ya (h:aI) (l1 l2:aj):aI:=(xZ h l1 l2).push { cls:=.type "tuple",data:=.seq (List.toArray [.ref h.objs.size,.ref (Ey h l1).objs.size]) }
def Ez (h:aI) (l1 l2:aj):aI:=(ya h l1 l2).push { cls:=.type "tuple",data:=.seq (List.toArray [.none,.none]) }
def EA (h:aI) (l1 l2:aj):aI:=(Ez h l1 l2).push { cls:=.type "zip",data:=.fields (List.toArray [.none,.bool af,.bool af,.ref (xZ h l1 l2).objs.size,.ref (ya h l1 l2).objs.size]) }
theorem Fk (l1 l2:aj) (xs ys:Array ai) :
 Meets (Builtin.«zip.__new__» #[[.type "zip",.ref l1,.ref l2],[]]) (λ_ R s=>s.heap.IsTuple l1 xs /\ s.heap.IsTuple l2 ys /\ R (.ok<|.ret<|.ref (Ez s.heap l1 l2).objs.size) { s with heap:=EA s.heap l1 l2 }):=
 .of_wp λprog w A R s h=>by
  let#[hp,g,d,tk,os]:=s;let#[yb,rf,h]:=h;have alD:=sub_zip
  wp_walk using QZ yb,QZ (rf.at λo e=>aN _ e)
  show#[_,rfl,h]
theorem JI {l1 l2:aj}{xs ys:Array ai}(yb:s.heap.IsTuple l1 xs) (rf:s.heap.IsTuple l2 ys)
 (h:∀ h',IsZip h' (s.heap.objs.size+4) (s.heap.objs.size+2) (s.heap.objs.size+3) .none->IsPair h' (s.heap.objs.size+2) zab (.ref zX)->IsPair h' (s.heap.objs.size+3) .none .none ->
  h'.IsTupleIter s.heap.objs.size l1 0->h'.IsTupleIter zX l2 0->(∀ c o,s.heap.get? c=ae o->h'.get? c=ae o)->Q (.ref<|s.heap.objs.size+4) { s with heap:=h' }):wpAny zh A (call (.type "zip") [.ref l1,.ref l2]) Q E s:=by
 refine callType_new F.called_zip (rfl) (F.typeCall_zip_2 _ _) (F.newCall_zip_2 _ _) (λobj=>F.args_object_init_3 obj _ _) F.entry_zip_new (Fk l1 l2 xs ys) #[yb,rf,?_];have z1:(Ey s.heap l1).objs.size=s.heap.objs.size+1:=uc ..;have z2:(xZ s.heap l1 l2).objs.size=s.heap.objs.size+2:=by rw[xZ,uc,z1]
 have z3:(ya s.heap l1 l2).objs.size=s.heap.objs.size+3:=by rw[ya,uc,z2]
 have z4:(Ez s.heap l1 l2).objs.size=s.heap.objs.size+4:=by rw[Ez,uc,z3]
 have g5:(EA s.heap l1 l2).get? (Ez s.heap l1 l2).objs.size=ae { cls:=.type "zip",data:=.fields (List.toArray [.none,.bool af,.bool af,.ref (xZ s.heap l1 l2).objs.size,.ref (ya s.heap l1 l2).objs.size]) }:=bB _ zc;have g4:(EA s.heap l1 l2).get? (ya s.heap l1 l2).objs.size=ae { cls:=.type "tuple",data:=.seq (List.toArray [.none,.none]) }:=aN _<|bB _ zc;have g3:(EA s.heap l1 l2).get? (xZ s.heap l1 l2).objs.size=ae { cls:=.type "tuple",data:=.seq (List.toArray [.ref s.heap.objs.size,.ref (Ey s.heap l1).objs.size]) }:=aN _<|aN _<|bB _ zc;have g2:(EA s.heap l1 l2).get? (Ey s.heap l1).objs.size=ae { cls:=.type "tuple_iterator",data:=.fields (List.toArray [.ref l2,.int 0 0]) }:=aN _<|aN _<|aN _<|bB _ zc
 change _ /\ _
 rw[z2,z3,z4]at g5;rw[z1,z2]at g3;rw[z3]at g4;rw[z1]at g2;rw[z4];show#[#[_,g5,rfl],h _ g5 g3 g4 #[_,(aN _<|aN _<|aN _<|aN _<|bB _ zc),rfl,rfl] #[_,g2,rfl,rfl] λc o q=>aN _<|aN _<|aN _<|aN _<|aN _ q]
end
end HT
namespace L2
section
variable {s:au} 
theorem Inv.ais {o:HO}(I:Inv X pins σ H s) (hf:∀ b∈ch,n6 X pins H b) (k:∀ b o,b∉ch->s.heap.get? b=ae o->h'.get? b=ae o) (hp:s.heap.objs.size<=p)
 (new:cz X.prog X.w (upd H p o) h' p o):Inv X pins σ (upd H p o) { s with heap:=h',toks:=t' }:=by
 have qY:∀ b u,H b=ae u->b∉ch:=λb u e z=>by rw[(hf b z).1]at e;cases e
 have stay:∀ b u,H b=ae u->upd H p o b=ae u:=λb u e=>by rw[fC<|(λb u e=>f8 e<|I.aD.fresh hp) b u e];show e
 refine I.step (λb hb=>?_) (λb o _ _ hc e _=>k b o hc e) (λb o _ _ hc e _=>#[o.slots,k b o hc e]) (λb ob _ e n=>?_)
  (λb o hc e=>#[o,k b o hc e]) (λb _ e=>stay b _ e) (λb _ _ e=>stay b _ e) (λb ps e=>#[#[],by rw[stay b _ e];simp]) (λm hm=>?_) ?_ I.bare
 .let#[f0,f1,f2,f3,f4,f5]:=hf b hb;show#[f3,f1,f4,f5]
 .rw[fC λz=>hV _<|kB (a9 e) (by rw[z];show hp)];show n
 .let#[ob,es,ep,ho,r]:=hm;show#[ob,es,ep,k _ ob (λz=>(hf _ z).2.1 zc) ho,r]
 .intro b u e;by_cases hb:b=p
  .subst hb;rw[fw]at e;cases e;show new
  .rw[fC hb]at e;refine(I.aD b u e).stay (λc v hc q=>k c v ?_ q) (λc q=>stay c _ q) λc xs q=>stay c _ q;rcases hc with z|z
   .rw[z];show qY b u e
   .show qY c _ z
theorem Inv.ait (I:Inv X pins σ H s) (hf:∀ b∈ch,n6 X pins H b) (k:∀ b o,b∉ch->s.heap.get? b=ae o->h'.get? b=ae o):Inv X pins σ H { s with heap:=h',toks:=t' }:=by
 have qY:∀ b u,H b=ae u->b∉ch:=λb u e z=>by rw[(hf b z).1]at e;cases e
 refine I.step (λb hb=>?_) (λb o _ _ hc e _=>k b o hc e) (λb o _ _ hc e _=>#[o.slots,k b o hc e]) (λb ob _ e n=>n)
  (λb o hc e=>#[o,k b o hc e]) (λb _ e=>e) (λb _ _ e=>e) (λb ps e=>#[#[],by rw[e];simp]) (λm hm=>?_) ?_ I.bare
 .let#[f0,f1,f2,f3,f4,f5]:=hf b hb;show#[f3,f1,f4,f5]
 .let#[ob,es,ep,ho,r]:=hm;show#[ob,es,ep,k _ ob (λz=>(hf _ z).2.1 zc) ho,r]
 .intro b u e;refine(I.aD b u e).stay (λc v hc q=>k c v ?_ q) (λc q=>q) λc xs q=>q;rcases hc with z|z
  .rw[z];show qY b u e
  .show qY c _ z
end
def kY (t:Bool) (K:PySem.W.Frag) (H:Hp) (a:aj) (xs:List V):zk:=match t with|true=>cP K H a xs|false=>bN K H a xs
def PX (t:Bool) (h:aI) (a:aj) (xs:Array ai):zk:=match t with|true=>h.IsTuple a xs|false=>h.IsList a xs
def sV (t:Bool) (h:aI) (it l:aj) (i:Nat):zk:=match t with|true=>h.IsTupleIter it l i|false=>h.IsListIter it l i
section
variable {s:au} {t:Bool} 
theorem yc {xs:List V}(I:Inv X pins σ H s) (q:kY t X.K H a xs):∃ its:List ai,Vals xs its /\ PX t s.heap a its.toArray /\ a<s.heap.objs.size:=by
 cases t with
 |true=>let#[its,r,p,_]:=I.tuple q;show#[its,r,p,let ⟨_,e,_⟩:=p;a9 e]
 |false=>let#[its,r,p,_]:=I.list q;show#[its,r,p.isList,let ⟨_,_,e,_⟩:=p;a9 e]
theorem aen {xs ys:List V}(I:Inv X pins σ H s) (q:kY t X.K H a xs) (q':kY t X.K H a ys):xs=ys:=by
 cases t with
 |true=>show I.ac6 q q'
 |false=>show I.ac5 q q'
theorem sV.ob {l:aj}{i:Nat}(x:sV t h it l i):∃ o fs,h.get? it=ae o /\ o.data=.fields fs:=by
 cases t with
 |_=>let#[o,e,_,d]:=x;show#[o,_,e,d]
theorem sV.at {h h':aI}{it l:aj}{i:Nat}(x:sV t h it l i) (k:∀ o,h.get? it=ae o->h'.get? it=ae o):sV t h' it l i:=by
 cases t with
 |true=>show Heap.IsTupleIter.at x k
 |false=>show Heap.IsListIter.at x k
theorem I0 (hh:A.handled=ag) (it l:aj) (eS:l≠it) (items:Array ai) :
 Draws prog w A it [it,l] items.size (λi v=>items[i]?=ae v) (λi h=>sV t h it l i /\ PX t h l items):=by
 cases t with
 |true=>show HT.JH hh it l eS items
 |false=>show Draws.list hh it l eS items
theorem JJ {l1 l2:aj}{xs ys:Array ai}(yb:PX t s.heap l1 xs) (rf:PX t s.heap l2 ys)
 (h:∀ h',IsZip h' (s.heap.objs.size+4) (s.heap.objs.size+2) (s.heap.objs.size+3) .none->IsPair h' (s.heap.objs.size+2) zab (.ref zX)->IsPair h' (s.heap.objs.size+3) .none .none ->
  sV t h' s.heap.objs.size l1 0->sV t h' zX l2 0->(∀ c o,s.heap.get? c=ae o->h'.get? c=ae o)->Q (.ref<|s.heap.objs.size+4) { s with heap:=h' }):wpAny zh A (call (.type "zip") [.ref l1,.ref l2]) Q E s:=by
 cases t with
 |true=>show HT.JI yb rf h
 |false=>show call_zip_2 yb rf λh' b1 b2 b3 b4 b5 _ b6=>h h' b1 b2 b3 b4 b5 b6
end
def Zt (t:Bool) (K:PySem.W.Frag) (a b:aj):It:=
 #[λi H=>∃ (xs ys:List V) (x y:V),kY t K H a xs /\ kY t K H b ys /\ xs[i]?=ae x /\ ys[i]?=ae y,
  λi H w H'=>∀ (xs ys:List V),kY t K H a xs->kY t K H b ys->∃ (p:aj) (x y:V),xs[i]?=ae x /\ ys[i]?=ae y /\ H p=ag /\ w=.ref p /\ H'=upd H p (.tup [x,y]),
  λi H=>∃ (xs ys:List V),kY t K H a xs /\ kY t K H b ys /\ (i=xs.length \/ (i<xs.length /\ i=ys.length))]
theorem BN {b:Nat}(k:Nat) (h:b<n):b≠n+k:=by lia
theorem BO {m:Nat}(h:n+4<m):m≠n /\ m≠n+1 /\ m≠n+2 /\ m≠n+3 /\ m≠n+4:=by lia
theorem Go {n b:aj}(ha:a<n) (hb:b<n):HT.Es (n+4) (n+2) (n+3) n (n+1) [n,a] [n+1,b] where
 a:=by refine#[?_,?_,?_,?_,?_,?_,?_,?_,?_,?_]<;>show λz=>by have z':(_:Nat)=_:=z;lia
 f1:=by
  have e1:∀ k,n+k≠a:=λk z=>hV _<|yG (vC n k)<|z▸ha;refine#[?_,?_,?_]<;>(rw[bw,kN];rintro(z|z))
  .have z':(_:Nat)=_:=z;lia
  .show e1 4 z
  .have z':(_:Nat)=_:=z;lia
  .show e1 3 z
  .have z':(_:Nat)=_:=z;lia
  .show e1 1 z
 f2:=by
  have e1:∀ k,n+k≠b:=λk z=>hV _<|yG (vC n k)<|z▸hb;refine#[?_,?_,?_]<;>(rw[bw,kN];rintro(z|z))
  .have z':(_:Nat)=_:=z;lia
  .show e1 4 z
  .have z':(_:Nat)=_:=z;lia
  .show e1 3 z
  .have z':(_:Nat)=_:=z;lia
  .show e1 0 z
theorem Mi {t:Bool}{n b:aj}(ha:a<n) (hb:b<n) :
 Turn P w K tg (Zt t K a b) [n+4,n+2,n+3,n,n+1] (n+4)
  (λi h=>HT.sU h (n+4) (n+2) (n+3) /\ IsPair h (n+2) (.ref n) (.ref<|n+1) /\ (∃ u v,IsPair h (n+3) u v) /\ sV t h n a i /\ sV t h (n+1) b i) where
 mem:=by simp
 obj:=λi h st c hc=>by
  let#[#[_,_,_,z1],z2,#[u,v,z3],z4,z5]:=st;let#[o4,_,e4,d4]:=z4.ob;let#[o5,_,e5,d5]:=z5.ob;simp[bw,nX,or_false]at hc;rcases hc with rfl|rfl|rfl|rfl|rfl
  .show#[_,z1,λv z=>by cases z]
  .show#[_,z2,λv z=>by cases z]
  .show#[_,z3,λv z=>by cases z]
  .show#[o4,e4,λv z=>by rw[d4]at z;cases z]
  .show#[o5,e5,λv z=>by rw[d5]at z;cases z]
 keep:=λi h h' st k=>by
  let#[z1,z2,#[u,v,z3],z4,z5]:=st;let#[w0,w1,w2,z1]:=z1;show#[#[w0,w1,w2,k _ zj _ z1],k _ zj _ z2,#[u,v,k _ zj _ z3],z4.at λo e=>k _ zj o e,z5.at λo e=>k _ zj o e]
 item:=by
  intro X hP hw hK hc i pins s σ H E I hf st hg;subst hP hw hK;let#[xs,ys,x,y,q1,q2,e1,e2]:=hg;let#[z1,z2,#[u,v,z3],z4,z5]:=st;let#[i1,r1,p1,l1]:=yc I q1;let#[i2,r2,p2,l2]:=yc I q2;have R:=Go ha hb;refine HT.Bv (I0 (t:=t) (prog:=X.prog) (w:=X.w) (A:=X.A.in1) (I.ok.hd hc) n a (bI ha) i1.toArray) (I0 (t:=t) (prog:=X.prog) (w:=X.w) (A:=X.A.in1) (I.ok.hd hc) _ b (BN 1 hb) i2.toArray) R (by rw[bY,<-r1.length];show(List.getElem?_eq_some_iff.mp e1).1) (by rw[bY,<-r2.length];show(List.getElem?_eq_some_iff.mp e2).1) z1 z2 z3 #[z4,p1] #[z5,p2] λvx vy h' tk b1 b2 b3 b4 b5 b6 b7 b8=>#[_,rfl,?_];refine HT.UD b3 λh2 IZ nv=>?_;let#[w1,f1,g1]:=r1.get e1;let#[w2,f2,g2]:=r2.get e2;have aeo:i1[i]?=ae vx:=by simpa using b1
  have aep:i2[i]?=ae vy:=by simpa using b2
  rw[f1]at aeo;cases aeo;rw[f2]at aep;cases aep;have Ew:(n+4)<s.heap.objs.size:=let ⟨_,_,_,z1⟩:=z1;a9 z1
  have I2:Inv X pins σ (upd H s.heap.objs.size<|.tup [x,y]) { s with heap:=h2,toks:=tk }:=by
   refine I.ais hf (λc o dM e=>?_) (aE _) (#[by change 2<=sizeLine;decide,[vx,vy],.cons g1<|.cons g2 .nil,#[_,(nv.extBut _ _ (BO Ew).2.2.2.2 b7),rfl,_,rfl]])
   .simp[bw,nX,or_false,not_or]at dM;show nv.extBut _ _ dM.1<|b8 c o dM.1 dM.2.2.1 dM.2.2.2.1 dM.2.2.2.2 e
  refine#[.ref s.heap.objs.size,_,I2,rfl,λalE alF y1 y2=>#[_,x,y,by rw[aen I y1 q1];show e1,by rw[aen I y2 q2];show e2,(I.aD.fresh<|aE _),rfl,rfl],#[IZ,(nv.extBut _ _ R.a.1<|b8 _ _ R.a.1 R.a.2.2.2.2.1 R.a.2.2.2.2.2.1 R.a.2.2.2.2.2.2.1 z2),(let ⟨u,v,b4⟩:=b4;#[u,v,nv.extBut _ _ R.a.2.1 b4]),(b5.1.at λo e=>nv.extBut _ _ R.a.2.2.1 e),(b6.1.at λo e=>nv.extBut _ _ R.a.2.2.2.1 e)],λc dM=>?_]
  .rw[fC]
   .show(hf c dM).1
   .intro z;subst z;simp[bw,nX,or_false]at dM;let#[m1,m2,m3,m4,m5]:=BO Ew;rcases dM with q|q|q|q|q
    .show m5 q
    .show m3 q
    .show m4 q
    .show m1 q
    .show m2 q
 done:=by
  intro X hP hw hK hc i pins s σ H E I hf st hg;subst hP hw hK;let#[xs,ys,q1,q2,hk]:=hg;let#[z1,z2,#[u,v,z3],z4,z5]:=st;let#[i1,r1,p1,l1]:=yc I q1;let#[i2,r2,p2,l2]:=yc I q2;refine HT.Bw (I0 (t:=t) (prog:=X.prog) (w:=X.w) (A:=X.A.in1) (I.ok.hd hc) n a (bI ha) i1.toArray) (I0 (t:=t) (prog:=X.prog) (w:=X.w) (A:=X.A.in1) (I.ok.hd hc) (n+1) b (BN 1 hb) i2.toArray) (Go ha hb) (k:=i) (by rw[bY,bY,<-r1.length,<-r2.length];show hk) z1 z2 z3 #[z4,p1] #[z5,p2] λh' tk b8=>#[rfl,I.ait (ch:=[n+4,n+2,n+3,n,n+1]) hf λc o dM e=>?_];simp[bw,nX,or_false,not_or]at dM;show b8 c o dM.1 dM.2.2.1 dM.2.2.2.1 dM.2.2.2.2 e
 self:=λA i s Q E st h=>HT.Mh st.1 h
def aiu (K:PySem.W.Frag) (ta:TA):TI:=λσ H R=>ta σ H λvs H2=>∃ (t:Bool) (p q:aj) (xs ys:List V),vs=[.ref p,.ref q] /\ kY t K H2 p xs /\ kY t K H2 q ys /\ R (Zt t K p q) H2
theorem UE {a b:aq}{ta:TA}{p pos:aC}(hg:Gl X "zip") (hm:X.mg "zip"=ag) (ha:PA X [a,b] ta) (hs:starEach [a,b] X.env=[(af,eval a X.env),(af,eval b X.env)]:=by rfl) (nv:starEach [b] X.env=[(af,eval b X.env)]:=by rfl) :
 PI X tg (.Call (.Name "zip" p) [a,b] [] pos) (aiu X.K ta):=by
 intro pins s σ H R I h;refine tO<|jj I hg hm (by decide +kernel:bootBuiltins "zip"=ae (.type "zip")) ?_;refine Hy (tA (ha pos pins s σ H _ I h) λus s1 vs H2 I2 r2 q=>?_) (by rw[hs,nv]) (by rw[nv];rfl);let#[t,x,y,xs,ys,rfl,hx,hy,q]:=q;let#[u,v,rfl,ru,rv]:=Vals.two r2;cases ru;cases rv;let#[i1,r1,p1,l1]:=yc I2 hx;let#[i2,r2,p2,l2]:=yc I2 hy;refine JJ p1 p2 λh' b1 b2 b3 b4 b5 b6=>?_;refine wpAny_pyIter_zip b1 ?_;refine#[s1.heap.objs.size+4,_,_,_,H2,rfl,I2.kept b6,Mi l1 l2,#[#[_,_,.inl zc,b1],b2,#[_,_,b3],b4,b5],λc hc=>?_,q];have hle:s1.heap.objs.size<=c:=by
  simp[bw,nX,or_false]at hc;rcases hc with z|z|z|z|z<;>(rw[z];first|show aE _|show vC _ _)
 show I2.vL hle<|I2.aD.fresh hle
end L2
namespace L2.DL
section
variable {a b:aq} {p pos:aC} {k:DE (List W)}
noncomputable def kF:List D->List D->List W
 |x::l,y::r=>.d (.tup [x,y])::kF l r
 |_,_=>[]
theorem C7:∀ (l r:List D),(kF l r).length=min l.length r.length
 |[],_=>rfl
 |_::_,[]=>rfl
 |_::l,_::r=>by erw[kF,bz,C7 l r];lia
theorem C8:∀ {l r:List D}{i:Nat}{w:W},(kF l r)[i]?=ae w->∃ x y,l[i]?=ae x /\ r[i]?=ae y /\ w=.d (.tup [x,y])
 |[],_,_,_,e=>by simp[kF]at e
 |_::_,[],_,_,e=>by simp[kF]at e
 |x::l,y::r,0,w,e=>by simp[kF]at e;show#[x,y,rfl,rfl,e.symm]
 | x::l,y::r,i+1,w,e=>by
   let#[x',y',h1,h2,h3]:=C8 (by simpa[kF] using e);show#[x',y',by simpa using h1,by simpa using h2,h3]
def p7 (k:DE zaf):DE zaf:=λenv bx=>fA (k env bx) λws bx1=>match ws with
 |[.d<|.tup l,.d<|.tup r]=>.val (kF l r) bx1
 |[.d<|.lst l,.d<|.lst r]=>.val (kF l r) bx1
 |_=>.bad
theorem AO {t:Bool}{p q:aj}{vs us:List V}{l m:List D}(hp:∀ H,Sub F H->kY t K H p vs) (hq:∀ H,Sub F H->kY t K H q us) (dl:aG F l vs) (dm:aG F m us):uZ F r (kF l m) (Zt t K p q):=by
 intro T i F1 r1 σ1 H1 env1 bx1 g R;have s1:=hp _<|g.s.trans R.fh;have s2:=hq _<|g.s.trans R.fh;have e1:=dl.length;have e2:=dm.length;refine#[λhl=>?_,λw e=>?_]
 .rw[C7]at hl;show#[vs,us,s1,s2,by lia]
 .let#[x,y,h1,h2,rfl]:=C8 e;let#[v,f1,d1]:=dl.get h1;let#[u,f2,d2]:=dm.get h2;refine#[#[vs,us,v,u,s1,s2,f1,f2],λw H2 hy=>?_];let#[a,v',u',g1,g2,ha,rfl,rfl]:=hy vs us s1 s2;rw[f1]at g1;cases g1;rw[f2]at g2;cases g2;have gr:=R.uq (o:=.tup [v,u]) ha;show#[_,gr,R.xS ha,a,[v,u],rfl,fw,.cons (Den.mono (g.trans gr).s x d1)<|.cons (Den.mono (g.trans gr).s y d2) .nil]
theorem Pj (hg:Gl X "zip") (hm:X.mg "zip"=ag) (ha:dH X T Z [a,b] k) (hs:starEach [a,b] X.env=[(af,eval a X.env),(af,eval b X.env)]:=by rfl) (nv:starEach [b] X.env=[(af,eval b X.env)]:=by rfl) :
 uv X T Z tg (.Call (.Name "zip" p) [a,b] [] pos) (p7 k):=by
 refine PI.imp (UE hg hm ha hs nv) λσ H Q=>x4 λF r env bx R h=>?_;refine#[F,r,env,bx,R,End.bind h λws bx1 F1 r1 vs H1 g1 R1 d1 h1=>?_];split at h1
 .let#[v,t,rfl,#[p,us,rfl,k1,k2],v2,t2,rfl,#[q,EB,rfl,k3,k4],rt]:=d1;cases (rt);have z1:∀ H,Sub F1 H->kY ah X.K H p us:=λH s=>.of<|s _ _ k1;have z2:∀ H,Sub F1 H->kY ah X.K H q EB:=λH s=>.of<|s _ _ k3;show#[ah,p,q,us,EB,rfl,z1 _ R1.fh,z2 _ R1.fh,h1 F1 r1 _ H1 zU R1<|AO z1 z2 k2 k4]
 .ext l m;let#[v,t,rfl,#[p,us,rfl,k1,k2],v2,t2,rfl,#[q,EB,rfl,k3,k4],rt]:=d1;cases (rt);have z1:∀ H,Sub F1 H->kY af X.K H p us:=λH s=>.of<|s _ _ k1;have z2:∀ H,Sub F1 H->kY af X.K H q EB:=λH s=>.of<|s _ _ k3;show#[af,p,q,us,EB,rfl,z1 _ R1.fh,z2 _ R1.fh,h1 F1 r1 _ H1 zU R1<|AO z1 z2 k2 k4]
 .show h1.elim
end
section
variable {a:aq} {pos p:aC}
def aiv (K:PySem.W.Frag) (tl:TE):TI:=λσ H R=>tl σ H λx H1=>(∃ a,x=.ref a /\ (∃ xs,bN K H1 a xs) /\ R (Ig K a) H1) \/ ∃ a,x=.ref a /\ (∃ xs,cP K H1 a xs) /\ R (X0 K a) H1
theorem UF {l:aq}{tl:TE}(hl:PE X l tl):PI X tg l (aiv X.K tl):=by
 intro pins s σ H R I h;refine tE (hl pins s σ H _ I h) λv s1 x H1 I1 r1 q1=>?_;rcases q1 with⟨a,rfl,⟨xs,hq⟩,q⟩|⟨a,rfl,⟨xs,hq⟩,q⟩
 .cases r1;let#[its,rv,p,hz]:=I1.list hq;refine wR p.isList #[s1.heap.objs.size,[s1.heap.objs.size],_,_,H1,rfl,I1.kept λb o e=>aN _ e,BD a _,#[_,bB _ zc,rfl,rfl],λb hb=>?_,q];cases kN.mp hb;show I1.vL (aE _)<|I1.aD.fresh<|aE _
 .cases r1;let#[its,rv,p,hz]:=I1.tuple hq;refine QZ (p) #[s1.heap.objs.size,[s1.heap.objs.size],_,_,H1,rfl,I1.kept λb o e=>aN _ e,D7 a _,#[_,bB _ zc,rfl,rfl],λb hb=>?_,q];cases kN.mp hb;show I1.vL (aE _)<|I1.aD.fresh<|aE _
theorem C9 {a:aj}{vs:List V}{l:List D}(k1:F a=ae (.lst vs)) (k2:aG F l vs):uZ F r (l.map W.d) (Ig K a):=λT' i F2 r2 σ2 H2 bL bx2 g2 R2=>by
 have hq:bN K H2 a vs:=.of<|R2.fh _ _<|g2.s _ _ k1;refine#[λhl=>?_,λw e=>?_]
 .rw[aR,k2.length]at hl;show#[vs,hq,xa hl]
 .let#[d,e1,rfl]:=BL e;let#[u,e2,du]:=k2.get e1;refine#[#[vs,u,hq,e2],λx H3 ⟨e3,hy⟩=>?_];subst e3;have e4:=hy vs hq;rw[e2]at e4;cases e4;show#[F2,.refl F2 r2,R2,Den.mono g2.s d du]
theorem Fl {a:aj}{vs:List V}{l:List D}(k1:F a=ae (.tup vs)) (k2:aG F l vs):uZ F r (l.map W.d) (X0 K a):=λT' i F2 r2 σ2 H2 bL bx2 g2 R2=>by
 have hq:cP K H2 a vs:=.of<|R2.fh _ _<|g2.s _ _ k1;refine#[λhl=>?_,λw e=>?_]
 .rw[aR,k2.length]at hl;show#[vs,hq,xa hl]
 .let#[d,e1,rfl]:=BL e;let#[u,e2,du]:=k2.get e1;refine#[#[vs,u,hq,e2],λx H3 ⟨e3,hy⟩=>?_];subst e3;have e4:=hy vs hq;rw[e2]at e4;cases e4;show#[F2,.refl F2 r2,R2,Den.mono g2.s d du]
theorem mX (ha:PD X T Z a ma):uv X T Z tg a (bq ma):=by
 refine PI.imp (UF ha) λσ H Q=>x4 λF r env bx R h=>?_;refine#[F,r,env,bx,R,End.bind h λw bx1 F1 r1 v H1 g1 R1 d1 h1=>?_];split at h1
 .let#[p,vs,rfl,k1,k2]:=d1;show .inl #[p,rfl,#[vs,.of<|R1.fh _ _ k1],h1 F1 r1 _ H1 zU R1<|C9 k1 k2]
 .let#[p,vs,rfl,k1,k2]:=d1;show .inr #[p,rfl,#[vs,.of<|R1.fh _ _ k1],h1 F1 r1 _ H1 zU R1<|Fl k1 k2]
 .show h1.elim
theorem Pk {v:Int}(hg:Gl X x) (hm:∃ t,X.mg x=ae (.int v t)) (hd:(x==("__debug__":Str))=af:=by decide):PD X T Z (.Name x pos) (dC<|.int v):=by
 let#[t,hm]:=hm;show CZ (Om (v:=.int v) hg hm #[t,rfl] hd) λ_=>rfl
end
noncomputable def Zu (XN:List Str) (sc cs:bT) (N:List Str) (src:List<|Option Nat):Bool:=
 decide (cs.kind=.function)&&decide (cs.names.map (·.1)).Nodup&&cs.names.all (λy=>decide (y.2=.local->cs.names.lookup y.1=ae .local)) &&
 cs.names.all (λy=>decide (y.2=.free->(sc.names.lookup y.1=ae .cell \/ sc.names.lookup y.1=ae .free)))&&decide (src.length=N.length) &&
 (List.range src.length).all λj=>match src[j]?,N[j]? with
  |some (ae i),ae x=>decide (XN[i]?=ae x /\ cs.names.lookup x=ae .free)
  |_,_=>ah
theorem Fm {XN:List Str}{src:List (Option Nat)}{sc cs:bT}(hX:∀ x,X.env.kindOf x=sc.names.lookup x) (hN:X.N=XN) (h:Zu XN sc cs N src=ah):sI X N src cs:=by
 subst hN;unfold Zu at h;erw[aJ,decide_eq_true_eq,cY]at h;let#[#[#[#[#[h1,h2],h3],h4],h5],h6]:=h;refine#[h1,h2,λy hy=>h3 y hy,λy hy hf=>?_,h5,λj i x e1 e2=>?_]
 .rw[hX];show h4 y hy hf
 .have q:=h6 j<|List.mem_range.mpr (List.getElem?_eq_some_iff.mp e1).1;rw[e1,e2]at q;show of_decide_eq_true q
section
variable (P:dD) (w:cw) (K:PySem.W.Frag) (mg:Str -> Option ai) (base:aI) (cl:Nat -> aj)
def sW (k:Nat) (x:Str) (ps:List Str) (fn:List W->List Bx->O W):zk:=
 ∃ (f:aj) (fd:FuncData),kR P w K mg base (qy P w) k f fd ps (ur cl ps.length fn) /\ mg x=ae (.ref f) /\ PySem.W.keepIn K (.ref f)=ah /\ Binds K fd ps [] /\ ∃ o:aZ,K.lookup f=ae o /\ o.data=.func fd
def Def (x:Str) (st:cb) (ps:List Str):zk:=∃ (f:aj) (fd:FuncData),qx K x x st f fd /\ mg x=ae (.ref f) /\ Binds K fd ps []
end
section
variable {k:Nat} {ps:List Str} {m:aA} {nn kk:Nat}
theorem _root_.L2.qx.obj {qual:Str}{f:aj}(F:qx K x qual st f fd):∃ o:aZ,K.lookup f=ae o /\ o.data=.func fd:=by
 let#[#[oc,od,kV,doc,pm,an,bO,ct,qN,_,l,_],_]:=F;show#[_,l,rfl]
theorem UG (d:Def K mg x st ps) (S:xH N ps<|fP st)
 (vS:∀ (f:aj) (bO:ai) (A:eN) (outer:List Env) (s:au) (H:Hp) (E:XK) (n:Nat) (F0:Hp),dE k (A.deeper<|envOfC x (fP st) s.heap.objs.size f bO) ->
  qz (vR yY P w K mg base N x (fP st) f bO A outer s H E).xE #[H,n,F0] #[E0,cl] (g6 st) m) (hn:N.length=nn:=by rfl) (Zv:k+1=kk:=by rfl):sW P w K mg base cl kk x ps (aX nn<|aP m):=by
 subst hn Zv;let#[f,fd,F,hm,hb]:=d;show#[f,fd,Wt F S λbO A outer s H E n F0 hr=>vS f bO A outer s H E n F0 hr,hm,F.kp,hb,F.obj]
end
section
variable {pos p:aC} {k k':Nat} {ps:List Str} {m:DE (List W)} {nn:Nat}
theorem UH (h:sW X.prog X.w X.K X.mg X.base Z.cl k x ps fn) (hr:dE k' X.A) (hk:k<=k') (hg:Gl X x) (hx:Passes (qy X.prog X.w) X Z.E) (ha:dH X T Z (e::es) m) (dO:(x==("__debug__":Str))=af:=by decide)
 (he:starEach (e::es) X.env=(af,eval e X.env)::starEach es X.env:=by rfl) (nu:(backTo pos<|starEach es X.env).any (·.1)=af:=by rfl) (hn:ps.length=nn:=by rfl):PD X T Z z7 (fj fn nn m):=by
 subst hn;let#[f,fd,G,hm,aiw,hb,_]:=h;show OM G (hr.mono hk) hg hm aiw hb hx ha dO he nu
end
end L2.DL
namespace HT
structure SB (kd:SortKind) (b:Array Keyed) (z:SortSt):zk where
 pm:(arrOf z).Perm b
 kd:kindOf z=kd
 fl:failedOf z=ag
 pn:pendingOf z=#[]
theorem SB.len {kd:SortKind}{b:Array Keyed}{z:SortSt}(g:SB kd b z):(arrOf z).size=b.size:=g.pm.size_eq
theorem SB.put {kd:SortKind}{b:Array Keyed}{z:SortSt}(g:SB kd b z) {c:Array Keyed}(q:c.Perm<|arrOf z):SB kd b (setArr z c):=#[q.trans g.pm,g.kd,g.fl,g.pn]
section
variable {s:au}
def uC (prog:dD) (w:cw) (A:eN) (E:ai->au->zk) (s:au) (κ:KeyKind) (kd:SortKind) (b:Array Keyed):zk:=
 ∀ (x y:Keyed),x∈b.toList->y∈b.toList->∀ (Q:Bool->au->zk) (E':ai->au->zk),Q (κ.blt ((κ.keyOf x.1).getD κ.dflt)<|(κ.keyOf y.1).getD κ.dflt) s->wpAny zh A (keyLt' kd x.1 y.1) Q E' s
variable {κ:KeyKind} {kd:SortKind} {b:Array Keyed}
noncomputable abbrev kx (κ:KeyKind) (z:SortSt) (i:Nat):κ.α:=KK κ (arrOf z) i
theorem SB.item {z:SortSt}(g:SB kd b z) {i:Nat}(hi:i<b.size):∃ x,(arrOf z)[i]?=ae x /\ x∈b.toList /\ kx κ z i=(κ.keyOf x.1).getD κ.dflt:=by
 have hz:=g.len▸hi;refine#[(arrOf z)[i],getElem?_pos _ i hz,(Array.perm_iff_toList_perm.mp g.pm).mem_iff.mp zj,?_];simp[KK,getElem?_pos (arrOf z) i hz]
theorem ask (C:uC prog w A E s κ kd b) {z:SortSt}(g:SB kd b z) {i:Nat}(hi:i<b.size) (hj:j<b.size) {Q:Option Bool->SortSt->zk}
 (q:Q (ae<|κ.blt (kx κ z i)<|kx κ z j) z):wpS zh A E s (ltAt' i j) Q z:=by
 let#[x,ex,mx,aix]:=g.item hi;let#[y,ey,my,aiy]:=g.item hj;rw[aix,aiy]at q;rw[ltAt'_eq];refine cC<|xo ?_;dsimp only;rw[elem'_eq,elem'_eq,ex,ey];refine cC<|eD<|cC<|eD ?_;rw[lt'_eq];refine cC<|xo ?_;rw[g.kd];show cC<|Xq<|uN<|C x y mx my _ _ #[rfl,eD q]
def Up (κ:KeyKind) (z:SortSt) (n:Nat):zk:=∀ i j,i<=j->j<n->κ.kle (kx κ z i) (kx κ z j)
def Dn (κ:KeyKind) (z:SortSt) (n:Nat):zk:=∀ i j,i<=j->j<n->κ.kle (kx κ z j) (kx κ z i)
theorem Up.one {z:SortSt}(h:n<=1):Up κ z n:=λi j a c=>by
 have e:i=j:=by lia
 subst e;show xt _
theorem Up.more {z:SortSt}(u:Up κ z n) (h:1<=n) (l:κ.kle (kx κ z<|n-1)<|kx κ z n):Up κ z (n+1):=λi j a c=>by
 rcases xb j n with c'|c'
 .show u i j a c'
 obtain rfl:j=n:=by lia
 rcases xb i j with a'|a'
 .show HU (u i _ za za) l
 .obtain rfl:i=j:=by lia
  show xt _
theorem Dn.more {z:SortSt}(u:Dn κ z n) (h:1<=n) (l:κ.kle (kx κ z n)<|kx κ z<|n-1):Dn κ z (n+1):=λi j a c=>by
 rcases xb j n with c'|c'
 .show u i j a c'
 obtain rfl:j=n:=by lia
 rcases xb i j with a'|a'
 .show HU l<|u i _ za za
 .obtain rfl:i=j:=by lia
  show xt _
theorem asc (C:uC prog w A E s κ kd b) {z:SortSt}(g:SB kd b z) {a:Nat}(hn:n<=b.size) (h1:1<=a) (h2:a<=n) (u:Up κ z a) {Q:AscSt->SortSt->zk}
 (q:∀ m,a<=m->m<=n->Up κ z m->(m<n->κ.klt (kx κ z m) (kx κ z<|m-1))->Q (ag,m) z):wpS zh A E s (ascLoop a n) Q z:=by
 refine xp (I:=λm c y=>y=z /\ c=(ag,m) /\ Up κ z m) ?_ ?_ #[rfl,rfl,u]
 .intro m c y g1 g2 ⟨e1,e2,u'⟩;subst e1;subst e2;refine cC<|ask C g za za ?_;cases e:κ.blt _ _ with
  |true=>show eD<|q m g1 (nh g2) u' λ_=>e
  |false=>show eD #[rfl,rfl,u'.more za e]
 .intro c y ⟨e1,e2,u'⟩;subst e1;subst e2;rw[abo h2]at u' ⊢;show q n h2 (aE n) u' λh=>absurd h<|hV n
theorem Gp {z:SortSt}{i k:Nat}(hj:j<=(arrOf z).size):kx κ (setArr z<|mirror (arrOf z) i j<|(j-i) / 2) k=if i<=k /\ k<j then kx κ z (i+j-1-k) else kx κ z k:=KK_mirror hj k
theorem lT {z:SortSt}{i:Nat}(hj:j<=(arrOf z).size) (e:∀ k,i<=k->k<j->kx κ z k=kx κ z (j-1)) (k:Nat):kx κ (setArr z<|mirror (arrOf z) i j<|(j-i) / 2) k=kx κ z k:=KK_mirror_equal hj e k
def Ends (prog:dD) (w:cw) (A:eN) (E:ai->au->zk) (s:au) (κ:KeyKind) (kd:SortKind) (b:Array Keyed) (n:Nat) (Q:Option Nat->SortSt->zk):zk:=
 ∀ m y,SB kd b y->1<=m->m<=n->Up κ y m->Q (ae m) y
theorem turned (C:uC prog w A E s κ kd b) {z:SortSt}(g:SB kd b z) {a:Nat}(hn:n<=b.size) (h1:1<=a) (h2:a<=n) (d:Dn κ z a) {Q:Option Nat->SortSt->zk}(q:Ends prog w A E s κ kd b n Q) :
 wpS zh A E s (tail3 a n) Q z:=by
 have hz:=g.len▸cB h2 hn;have g':SB kd b (setArr z<|mirror _ 0 a<|(a-0) / 2):=g.put<|HK _ _ _ _;refine cC<|HL<|cC<|asc C g' hn h1 h2 (λi j c1 c2=>?_) λm m1 m2 um _=>eD<|q m _ g' (cB h1 m1) m2 um;rw[Gp hz,Gp hz,if_pos #[eC i,by lia],if_pos #[eC j,c2]];show d _ _ za za
def Alike (κ:KeyKind) (z:SortSt) (m e:Nat):zk:=e+1<=m /\ ∀ i,m-(e+1)<=i->i<m->kx κ z i=kx κ z (m-1)
theorem Alike.zero {z:SortSt}{m:Nat}(h:1<=m):Alike κ z m 0:=#[h,λi h1 h2=>by rw[show i=m-1 by lia]]
theorem desc (C:uC prog w A E s κ kd b) {z:SortSt}(g:SB kd b z) {a:Nat}(hn:n<=b.size) (h1:1<=a) (h2:a<=n) (d:Dn κ z a) {Q:DescSt->SortSt->zk}
 (q:∀ m e y,SB kd b y->a<=m->m<=n->Dn κ y m->Alike κ y m e->Q (ag,m,e) y):wpS zh A E s (descLoop a n) Q z:=by
 refine xp (I:=λm c y=>∃ e,c=(ag,m,e) /\ SB kd b y /\ Dn κ y m /\ Alike κ y m e) ?_ ?_ #[0,rfl,g,d,.zero h1]
 .intro m c y g1 g2 ⟨e,ec,gy,dy,al⟩;subst ec;have hm:m<=(arrOf y).size:=by rw[gy.len];lia
  refine cC<|ask C gy (show m<b.size by lia) (show m-1<b.size by lia) ?_;cases t:κ.blt _ _ with
  |true=>
    have d':=dy.more za<|HV t;dsimp only;by_cases he:e>0
    .rw[if_pos he];refine cC<|HL<|eD #[0,rfl,gy.put<|HK _ _ _ _,λi j c1 c2=>?_,.zero za];rw[lT hm al.2,lT hm al.2];show d' i j c1 c2
    .rw[if_neg he];show eD #[0,rfl,gy,d',.zero za]
  |false=>
    dsimp only;rw[if_neg zj];refine cC<|ask C gy za za ?_;cases t2:κ.blt _ _ with
    |true=>show eD<|q m e y gy g1 za dy al
    |false=>
      refine eD #[e+1,rfl,gy,dy.more za t2,by have:=al.1;lia,λi c1 c2=>?_];rw[show m+1-1=m by lia];by_cases hi:i=m
      .rw[hi]
      .rw[(acr t2 t)];show al.2 i za za
 .intro c y ⟨e,ec,gy,dy,al⟩;subst ec;rw[abo h2]at dy al ⊢;show q n e y gy h2 (aE n) dy al
theorem fall (C:uC prog w A E s κ kd b) {z:SortSt}(g:SB kd b z) {a:Nat}(hn:n<=b.size) (h2:a+1<=n) (d:Dn κ z<|a+1) {Q:Option Nat->SortSt->zk}(q:Ends prog w A E s κ kd b n Q) :
 wpS zh A E s (descPart a n) Q z:=by
 refine cC<|Xq<|nU #[rfl,cC<|desc C g hn (Nat.succ_pos a) h2 d λm e y gy m1 m2 dy al=>?_];by_cases he:e>0
 .rw[if_pos he];have hm:m<=(arrOf y).size:=by rw[gy.len];lia
  refine cC<|HL<|turned C (gy.put<|HK _ _ _ _) hn za m2 (λi j c1 c2=>?_) q;rw[lT hm al.2,lT hm al.2];show dy i j c1 c2
 .rw[if_neg he];show turned C gy hn za m2 dy q
theorem count (C:uC prog w A E s κ kd b) {z:SortSt}(g:SB kd b z) (hn:n<=b.size) (h1:1<=n) {Q:Option Nat->SortSt->zk}(q:Ends prog w A E s κ kd b n Q) :
 wpS zh A E s (countRun' 0 n) Q z:=by
 rw[countRun0_eq];refine cC<|asc C g hn (aE 1) h1 (.one<|aE 1) λm m1 m2 um last=>?_;by_cases hm:m=n
 .rw[if_pos (by simp[hm])];show eD<|q m z g m1 m2 um
 rw[if_neg (by simp[hm])];have lt:=last za;by_cases h3:m>1
 .rw[if_pos h3];refine cC<|ask C g za za ?_;cases t:κ.blt _ _ with
  |true=>show eD<|q m z g m1 m2 um
  |false=>
    dsimp only;have al:∀ k,0<=k->k<m->kx κ z k=kx κ z _:=λk _ hk=>
     acr (um k _ za za) (HU t<|um 0 k (eC k) hk)
    have hz:m<=(arrOf z).size:=by rw[g.len];lia
    refine cC<|HL<|fall C (g.put<|HK _ _ _ _) hn za (λi j c1 c2=>?_) q;rw[lT hz al,lT hz al];have d0:Dn κ z m:=λi j c1 c2=>by rw[al i (eC _) za,al j (eC _) c2];show xt _
    show d0.more m1 (HV lt) i j c1 c2
 .rw[if_neg h3];obtain rfl:m=1:=by lia
  have d0:Dn κ z 1:=λi j c1 c2=>by
   obtain rfl:i=j:=by lia
   show xt _
  show fall C g hn za (d0.more (aE 1)<|HV lt) q
end
section
variable {s:au} {κ:KeyKind} {kd:SortKind} {b:Array Keyed}
def Fits (κ:KeyKind) (z:SortSt) (k l r:Nat):zk:=(∀ i,i<l->κ.kle (kx κ z i) (kx κ z k)) /\ ∀ i,r<=i->i<k->κ.klt (kx κ z k) (kx κ z i)
theorem Gq {z:SortSt}{k l i:Nat}(hk:k<(arrOf z).size) (hl:l<=k):kx κ (setArr z<|bubble (arrOf z) k<|k-l) i=if i=l then kx κ z k else if l<i /\ i<=k then kx κ z (i-1) else kx κ z i:=by
 have e:=KK_bubble (κ:=κ) hk (Nat.sub_le k l) i;rw[show k-(k-l)=l by lia]at e;show e
theorem Up.insert {z:SortSt}{k l:Nat}(u:Up κ z k) (hk:k<(arrOf z).size) (hl:l<=k) (f:Fits κ z k l l):Up κ (setArr z<|bubble (arrOf z) k<|k-l) (k+1):=by
 intro i j c1 c2;rw[Gq hk hl,Gq hk hl];by_cases i1:i=l
 .rw[if_pos i1];by_cases j1:j=l
  .rw[if_pos j1];show xt _
  .rw[if_neg j1,if_pos #[by lia,by lia]];show HV<|f.2 _ za za
 .rw[if_neg i1];by_cases i2:l<i /\ i<=k
  .rw[if_pos i2,if_neg za,if_pos #[by lia,by lia]];show u _ _ za za
  .rw[if_neg i2];by_cases j1:j=l
   .rw[if_pos j1];show f.1 i za
   .rw[if_neg j1];by_cases j2:l<j /\ j<=k
    .rw[if_pos j2];show u _ _ za za
    .rw[if_neg j2];show u _ _ c1 za
theorem aiz (C:uC prog w A E s κ kd b) {z:SortSt}(g:SB kd b z) {m:Nat}(hn:n<=b.size) (hm:m<=n) (u:Up κ z m) {Q:Bool->SortSt->zk}(q:∀ y,SB kd b y->Up κ y n->Q ah y) :
 wpS zh A E s (binarySort' 0 n m) Q z:=by
 rw[binarySort'_eq];erw[Q6];refine cC<|HM (Q:=λc y=>c=(ag,()) /\ SB kd b y /\ Up κ y n) (xp (I:=λk c y=>c=(ag,()) /\ SB kd b y /\ Up κ y (min k n)) ?_ ?_ ?_) ?_
 .intro k c y k1 k2 ⟨ec,gy,uy⟩;rw[Hi<|nh k2]at uy;have kb:k<b.size:=by lia
  refine cC<|HM (Q:=λc y'=>y'=y /\ ∃ l r,c=(ag,l,r) /\ l<=k /\ Fits κ y k l l) (xp (I:=λx c y'=>y'=y /\ ∃ l r,c=(ag,l,r) /\ l<=r /\ r<=k /\ r-l<=k-x /\ Fits κ y k l r) ?_ ?_<|#[rfl,0,k,rfl,eC k,aE k,aE _,λi hi=>absurd hi<|Q7 i,λi i1 i2=>absurd i2 za]) ?_
  .intro x c y' _ x2 ⟨ey,l,r,ec,p1,p2,p3,f⟩;subst ey;subst ec;dsimp only;by_cases lr:l>=r
   .rw[if_pos lr];obtain rfl:l=r:=by lia
    show eD #[rfl,l,l,rfl,p2,f]
   rw[if_neg lr];refine cC<|ask C gy kb za ?_;cases t:κ.blt _ _ with
   |true=>show eD #[rfl,l,(l+r) / 2,rfl,by lia,by lia,by lia,f.1,λi i1 i2=>KeyOrd.klt_of_klt_of_kle t<|uy _ _ i1 i2]
   |false=>show eD #[rfl,(l+r) / 2+1,r,rfl,by lia,by lia,by lia,λi i1=>HU (uy i _ za za) t,f.2]
  .intro c y' ⟨ey,l,r,ec,p1,p2,p3,f⟩;obtain rfl:l=r:=by lia
   show#[ey,l,l,ec,p2,f]
  .intro c y' ⟨ey,l,r,ec,p,f⟩;subst ey;subst ec;change wpS _ _ _ _ _ _ _;rw[moveDown'_eq];refine cC<|Xr<|eD #[rfl,gy.put<|bubble_perm _ _ _,?_];rw[Hi k2];show uy.insert (by rw[gy.len];show kb) p f
 .intro c y ⟨ec,gy,uy⟩;rw[show min _ n=n by lia]at uy;show#[ec,gy,uy]
 .refine#[rfl,g,?_];rcases xb m 1 with m0|m0
  .show .one za
  .rw[show min (max m 1) n=m by lia];show u
 .intro c y ⟨ec,gy,uy⟩;subst ec;show eD<|q y gy uy
def Ka (κ:KeyKind) (b:Array Keyed) (y:SortSt):zk:=(arrOf y).Perm b /\ failedOf y=ag /\ pendingOf y=(List.toArray [(0,b.size,0)]) /\ Up κ y b.size
theorem SB.fin {y:SortSt}(g:SB kd b y) (u:Up κ y b.size):Ka κ b (setPending y<|(pendingOf y).push (0,b.size,0)):=#[g.pm,g.fl,by rw[g.pn];rfl,u]
theorem runs (C:uC prog w A E s κ kd b) {z:SortSt}(g:SB kd b z) (h2:2<=b.size) (c5:b.size<64) {Q:Unit->SortSt->zk}(q:∀ y,(arrOf y).Perm b->failedOf y=ag->Up κ y b.size->Q () y) :
 wpS zh A E s sortRuns' Q z:=by
 have mr:minRun' b.size b.size 0=b.size:=by
  let#[f,e]:=Nat.exists_eq_add_of_lt (show 0<b.size by lia);have:minRun' (0+f+1) b.size 0=b.size:=by rw[minRun'_succ,if_pos c5];rfl
  rw[<-e]at this;show this
 rw[sortRuns'_eq];refine cC<|xo ?_;dsimp only;erw[g.len,mr];refine cC (HM (Q:=λc y=>c=(ag,b.size) /\ Ka κ b y)
  (xp (I:=λx c y=>if x=0 then c=(ag,0) /\ SB kd b y else c=(ag,b.size) /\ Ka κ b y) ?_ ?_ (by rw[if_pos rfl];show#[rfl,g])) ?_)
 .intro x c y _ x2 I;by_cases x0:x=0
  .rw[if_pos x0]at I;let#[ec,gy]:=I;subst ec;subst x0;dsimp only;rw[if_neg za];erw[Hh,Nat.min_self,Q6];have fin:∀ y',SB kd b y'->Up κ y' b.size->(if (1)=0 then ((ag:Option PUnit),b.size)=(ag,0) /\ SB kd b (setPending y'<|(pendingOf y').push (0,b.size,0)) else ((ag:Option PUnit),b.size)=(ag,b.size) /\ Ka κ b _):=
    λy' g' u'=>by rw[if_neg za];show#[rfl,g'.fin u']
   refine cC<|count C gy (aE _) za λm y1 g1 m1 m2 u1=>?_;dsimp only;by_cases lt:m<b.size
   .rw[if_pos lt];refine cC<|Xq<|nU #[rfl,cC<|aiz C g1 (aE _) m2 u1 λy3 g3 u3=>?_];rw[if_neg zj];refine cC<|xo ?_;rw[show (pendingOf y3).back?=ag by rw[g3.pn];rfl];show cC<|Xr<|eD<|fin y3 g3 u3
   .rw[if_neg lt];obtain rfl:m=b.size:=by lia
    refine cC<|xo ?_;rw[show (pendingOf y1).back?=ag by rw[g1.pn];rfl];show cC<|Xr<|eD<|fin y1 g1 u1
  .rw[if_neg x0]at I;let#[ec,fy]:=I;subst ec;dsimp only;rw[if_pos<|aE _];show eD #[rfl,fy]
 .intro c y I;rw[if_neg za]at I;show I
 .intro c y ⟨ec,fy⟩;subst ec;dsimp only;refine cC (HM (xp (I:=λ_ c y'=>y'=y /\ c=(ag,())) ?_ (λ_ _ h=>h) #[rfl,rfl]) ?_)
  .intro x c y' _ _ ⟨e1,e2⟩;subst e1;subst e2;refine cC<|xo ?_;rw[if_pos (by rw[fy.2.2.1];show aE 1)];show eD #[rfl,rfl]
  .intro c y' ⟨e1,e2⟩;subst e1;subst e2;show eD<|q _ fy.1 fy.2.1 fy.2.2.2
end
theorem jF:∀ a,lexLt a a=af
 |[]=>rfl
 |x::a=>by rw[gD,if_pos rfl];show jF a
theorem mY:∀ a b c,lexLt a b=ah->lexLt b c=ah->lexLt a c=ah
 |[],[],_,h,_=>by cases h
 |[],_::_,[],_,h=>by cases h
 |[],_::_,_::_,_,_=>rfl
 |_::_,[],_,h,_=>by cases h
 |_::_,_::_,[],_,h=>by cases h
 | x::a,y::b,z::c,h,g=>by
   rw[gD]at *;by_cases e1:x=y
   .subst e1;rw[if_pos rfl]at h;by_cases e2:x=z
    .subst e2;rw[if_pos rfl]at g ⊢;show mY a b c h g
    .rw[if_neg e2]at g ⊢;show g
   .rw[if_neg e1]at h;by_cases e2:y=z
    .subst e2;rw[if_neg e1];show h
    .rw[if_neg e2]at g;have h':=of_decide_eq_true h;have g':=of_decide_eq_true g;rw[if_neg za];show decide_eq_true za
theorem jh:∀ a b,lexLt a b=af->lexLt b a=af->a=b
 |[],[],_,_=>rfl
 |[],_::_,h,_=>by cases h
 |_::_,[],_,h=>by cases h
 | x::a,y::b,h,g=>by
   rw[gD]at *;by_cases e:x=y
   .subst e;rw[if_pos rfl]at h g;rw[jh a b h g]
   .rw[if_neg e]at h;rw[if_neg<|Ne.symm e]at g;have h':=of_decide_eq_false h;have g':=of_decide_eq_false g;lia
theorem BP (a b c:List Int) (h:lexLt a c=ah):lexLt a b=ah \/ lexLt b c=ah:=by
 cases e:lexLt a b with
 |true=>show .inl zc
 |false=>
   refine .inr ?_;cases f:lexLt b a with
   |true=>show mY b a c f h
   |false=>rw[<-jh a b e f];show h
section
variable {s:au}
theorem Fn {x y:Int}{t u:Tok}(k:Bool) {Q:Bool->au->zk}(h:Q (decide (x<y)) s):wpAny zh A (oneLt' k (.int x t)<|.int y u) Q E s:=by
 cases k with
 |true=>show oneLt_int h
 |false=>
   show ak<|(ab8<|qi h)
theorem Cp (f:Bool) (x y:ai):keyLt' (tuples' f) x y=(do
 let xs <-Builtin.List.listItems x
 let ys <-Builtin.List.listItems y
 for ((p,q),i) in (xs.toList.zip ys.toList).zipIdx do
  if !(<-eqBool p q) then return <-oneLt' (f&&i==0) p q
 return decide (xs.size<ys.size)):=rfl
end
structure KP (P:aI->ai->List Int->zk):zk where
 inj:∀ {h:aI}{v:ai}{ns ms:List Int},P h v ns->P h v ms->ns=ms
 push:∀ {h:aI}{v:ai}{ns:List Int},P h v ns->∀ o:aZ,P (h.push o) v ns
 upd:∀ {h:aI}{v:ai}{ns:List Int},P h v ns->∀ {l:aj}{xs:Array ai}{n:Nat},h.get? l=ae (seqObj "list" xs n)->∀ f:aZ->aZ,P (h.update l f) v ns
section
variable {s:au} {P:aI -> ai -> List Int -> zk} (KQ:KP P)
open Classical in
noncomputable def u7 (P:aI->ai->List Int->zk) (h:aI):KeyKind where
 α:=List Int
 blt:=lexLt
 irrefl:=jF
 trans:=mY
 negTrans:=BP
 total:=jh
 keyOf v:=if p:∃ ns,P h v ns then ae p.choose else ag
 dflt:=[]
include KQ in
open Classical in
theorem Am {v:ai}(p:P h v ns):((u7 P h).keyOf v).getD []=ns:=by
 have e:∃ ns,P h v ns:=#[ns,p];change (if p:∃ ns,P h v ns then ae p.choose else ag).getD []=ns;rw[dif_pos e];show KQ.inj e.choose_spec p
def u9 (P:aI->ai->List Int->zk) (h:aI) (vs:List ai):zk:=vs.Pairwise λx y=>∀ ns ms,P h x ns->P h y ms->lexLt ms ns=af
def Zw (P:aI->ai->List Int->zk) (prog:dD) (w:cw) (U:Nat) (s:au) (vs:List ai):zk:=∀ (A:eN) (h':aI),A.units<=U->(∀ v ns,P s.heap v ns->P h' v ns) ->
 (∀ {Q:SortKind->au->zk}{E:ai->au->zk},Q (tuples' ah) { s with heap:=h' }->wpAny zh A (keyKind' vs.toArray) Q E { s with heap:=h' }) /\ ∀ E,uC prog w A E { s with heap:=h' } (u7 P h') (tuples' ah) (pairsOf vs)
include KQ
theorem Mj (H:∀ v∈vs,∃ ns,P h v ns) (up:∀ v ns,P h v ns->P h' v ns) {z:SortSt}(pm:(arrOf z).Perm<|pairsOf vs) (u:Up (u7 P h') z (pairsOf vs).size) :
 ((arrOf z).map (·.2)).toList.Perm vs /\ u9 P h ((arrOf z).map (·.2)).toList:=by
 have hl:(arrOf z).toList.Perm (vs.zip vs):=by rw[<-ab9];show Array.perm_iff_toList_perm.mp pm
 have me:∀ p∈(arrOf z).toList,p.1=p.2 /\ p.1∈vs:=λp hp=>Xt<|hl.mem_iff.mp hp;rw[Array.toList_map];constructor
 .have:=hl.map (·.2);rw[Xf<|aE _]at this;show this
 .unfold u9;rw[qp,List.pairwise_iff_getElem];intro i j hi hj uh ns ms p q;have aeq:j<(arrOf z).size:=by simpa using hj
  have g:=u i j (nh uh) (by rw[<-pm.size_eq];show aeq);have ki:kx (u7 P h') z i=ns:=by
   simp[KK,getElem?_pos (arrOf z) i (by simpa using hi)];rw[acm,<-(me _ zj).1]at p;show Am KQ<|up _ _ p
  have kj:kx (u7 P h') z j=ms:=by
   simp[KK,getElem?_pos (arrOf z) j aeq];rw[acm,<-(me _ zj).1]at q;show Am KQ<|up _ _ q
  rw[ki,kj]at g;show g
theorem Gr {R:Fin->au->zk}(ho:s.heap.get? a=ae (seqObj "list" vs.toArray n)) (H:∀ v∈vs,∃ ns,P s.heap v ns) {U:Nat}(hU:A.units<=U) (S:vs≠[]->Zw P prog w U s vs) (c5:vs.length<64)
 (h:∀ out:Array ai,out.toList.Perm vs->u9 P s.heap out.toList->R (.done<|.ret .none) { s with heap:=sortedHeap s.heap a vs out }):wpAny zh A (Builtin.«list.sort» #[[.ref a],[]]) R E s:=by
 rw[list_sort_plain];have la:=a9 ho;refine ak<|xn ho zc<|ak<|Hz ho zc ?_;obtain⟨k,EC⟩:∃ k,(s.heap.update a _).get? a=ae (seqObj "list" #[] k):=#[_,ab4 ho λ_=>#[]];refine ak<|Xu EC zc<|ak<|QY<|ak<|wW<|eB ?_;generalize eh:((s.heap.update a _).push _).push _=h6;have up:∀ v ns,P s.heap v ns->P h6 v ns:=λv ns p=>eh▸KQ.push (KQ.push (KQ.upd p ho _) _) _;have Kb:h6.get? a=ae (seqObj "list" #[] k):=by
  rw[<-eh];show aN _<|aN _ EC
 have fin:∀ out:Array ai,out.toList.Perm vs->u9 P s.heap out.toList->R _ { s with heap:=h6.update a _ }:=λout p q=>by
  rw[<-eh];show h out p q
 change wpAny _ A _ R E { s with heap:=h6 };dsimp only;by_cases h2:vs.toArray.size<2
 .rw[if_pos h2,if_pos h2];refine ak<|az ?_;rw[StateT.run_pure];refine ak<|az ?_;dsimp only;have em:(Array.map (λx=>x.2)<|vs.toArray.zip vs.toArray)=vs.toArray:=by
   apply Array.toList_inj.mp;simp[Xf]
  rw[em];refine ak<|Xu Kb zc<|ak<|Hz Kb zc ?_;rw[bne_self_eq_false];refine az<|fin vs.toArray (List.Perm.refl _) ?_;rw[bY]at h2;unfold u9;match vs,h2 with
  |[],_=>show List.Pairwise.nil
  |[x],_=>show List.pairwise_singleton _ _
 .rw[if_neg h2,if_neg h2];rw[bY]at h2;have ne:vs≠[]:=λe=>by rw[e]at h2;simp at h2
  have H6:∀ v∈vs,∃ ns,P h6 v ns:=λv m=>let ⟨ns,p⟩:=H v m;#[ns,up v ns p]
  refine ak<|(S ne A h6 hU up).1 ?_;refine ak<|k9 (runs
   (Q:=λ_ y=>(arrOf y).Perm (pairsOf vs) /\ failedOf y=ag /\ Up (u7 P h6) y (pairsOf vs).size) ((S ne A h6 hU up).2 _) #[Array.Perm.refl _,rfl,rfl,rfl] (by rw[Xv];lia) (by rw[Xv];show c5) λy a1 a2 a3=>#[a1,a2,a3]) ?_ λ_ _ e=>e
  rintro⟨⟨⟩,y⟩ s' ⟨es,pm,fl,u⟩;subst es;dsimp only;let#[o1,o2]:=Mj KQ H up pm u;refine ak<|Xu Kb zc<|ak<|Hz Kb zc ?_ (hsz2:=by rw[Array.size_map,pm.size_eq,Xv];show(by rw[bf];lia));rw[fl,bne_self_eq_false];show az<|fin _ o1 o2
theorem JK {l:aj}(hl:s.heap.IsList l vs.toArray) (H:∀ v∈vs,∃ ns,P s.heap v ns) {U:Nat}(hU:A.units+8<=U) (S:vs≠[]->Zw P prog w U s vs) (c5:vs.length<64)
 (h:∀ out:Array ai,out.toList.Perm vs->u9 P s.heap out.toList->Q (.ref zX) { s with heap:=sortedAll s.heap vs out }):wpAny zh A (call (.builtin "sorted") [.ref l]) Q E s:=by
 refine HS HC HD HE (HF _) ?_;refine ak<|az<|ak<|collect_list hl<|ak<|wW ?_;generalize eg:(s.heap.push _).update s.heap.objs.size _=g;have sg:g.objs.size=s.heap.objs.size+1:=by rw[<-eg,abX,ud]
 have up:∀ v ns,P s.heap v ns->P (g.push<|seqObj "list" vs.toArray 0) v ns:=λv ns p=>by
  rw[<-eg];show KQ.push (KQ.upd (KQ.push p _) (bB _ zc) _) _
 have gl:(g.push<|seqObj "list" vs.toArray 0).get? zX=ae (seqObj "list" vs.toArray 0):=by rw[<-sg];show bB _ zc
 rw[sg];refine ak<|eB<|eW HG #[_,gl,rfl] HI (Gr KQ gl (λv m=>let ⟨ns,p⟩:=H v m;#[ns,up v ns p]) (show A.units+1+1<=U by lia) (λne A h2 hu k=>S ne A h2 hu λv ns p=>k v ns<|up v ns p) c5 λout o1 o2=>#[_,rfl,az #[_,rfl,?_]])<|HJ _;have:=h out o1<|List.Pairwise.imp (λ{x y} r ns ms p q=>r ns ms (up _ _ p)<|up _ _ q) o2;unfold sortedAll at this;rw[eg]at this;show this
omit KQ
end
end HT
namespace L2.DL
theorem Db:∀ {rs:List aj}{us:List ai},Vals (rs.map V.ref) us->us=rs.map Value.ref
 |[],_,.nil=>rfl
 | r::rs,_,.cons q t=>by
   cases q;rw[Db t];rfl
end L2.DL
namespace HT
inductive aF where
 |i (n:Int)|s (x:Str)
 deriving DecidableEq
noncomputable def aF.code:aF->List Int
 |.i n=>[n]
 |.s x=>x.cps.toList.map (λ(c:Nat)=>(c:Int)+1)++[0]
noncomputable def aF.like:aF->aF->Bool
 |.i _,.i _=>ah
 |.s _,.s _=>ah
 |_,_=>af
def bu (l:List aF):List Int:=l.flatMap (λd=>1::d.code)++[0]
def eT (l m:List aF):Bool:=(l.zip m).all λp=>p.1.like p.2
theorem Dc (r q:List Int):∀ (a b:List Nat),a≠b->lexLt ((a.map λ(c:Nat)=>(c:Int)+1)++[0]++r) ((b.map λ(c:Nat)=>(c:Int)+1)++[0]++q)=decide (a<b)
 |[],[],h=>absurd zc h
 | [],y::b,_=>by
   change lexLt (0::_) (((y)+1)::_)=_;rw[gD,if_neg za,decide_eq_true za,decide_eq_true zj]
 | x::a,[],_=>by
   change lexLt (((x)+1)::_) (0::_)=_;rw[gD,if_neg za,decide_eq_false za,decide_eq_false zj]
 | x::a,y::b,h=>by
   change lexLt (((x)+1)::_) (((y)+1)::_)=_;rw[gD];by_cases e:x=y
   .subst e;rw[if_pos rfl];refine(Dc r q a b λz=>h (by rw[z])).trans ?_;by_cases c:a<b
    .rw[decide_eq_true c,decide_eq_true (by simpa using c)]
    .rw[decide_eq_false c,decide_eq_false (by simpa using c)]
   .rw[if_neg za];by_cases c:x<y
    .rw[decide_eq_true za,decide_eq_true<|List.cons_lt_cons_iff.mpr<|.inl c]
    .rw[decide_eq_false za,decide_eq_false ?_];intro z;rcases List.cons_lt_cons_iff.mp z with z|z
     .lia
     .lia
noncomputable def aF.lt:aF->aF->Bool
 |.i n,.i m=>decide (n<m)
 |.s x,.s y=>decide (x.cps.toList<y.cps.toList)
 |_,_=>af
theorem aF.app (r q:List Int):∀ {a b:aF},a.like b=ah->a≠b->lexLt (a.code++r) (b.code++q)=a.lt b
 | .i n,.i m,_,h=>by
   change lexLt (n::r) (m::q)=_;rw[gD,if_neg λz=>h (by rw[z])];rfl
 |.s x,.s y,_,h=>Dc r q _ _ λz=>h (by
  let#[#[a]]:=x;let#[#[b]]:=y;have z':a=b:=z;rw[z'])
theorem Mk (a r q:List Int):lexLt (a++r) (a++q)=lexLt r q:=by
 induction a with
 |nil=>rfl
 |cons x a ih=>rw[Hr,Hr,gD,if_pos rfl,ih]
def bR:List aF->List aF->Bool
 |[],m=>!m.isEmpty
 |_::_,[]=>af
 |a::l,b::m=>if a=b then bR l m else a.lt b
theorem Cq:∀ (l m:List aF),eT l m=ah->lexLt (bu l) (bu m)=bR l m
 |[],[],_=>rfl
 | [],b::m,_=>by
   change lexLt _ _=_;rfl
 | a::l,[],_=>by
   change lexLt _ _=_;rfl
 | a::l,b::m,h=>by
   have h':(a.like b&&eT l m)=ah:=h;rw[aJ]at h';have e1:bu (a::l)=1::(a.code++bu l):=by simp[bu]
   have e2:bu (b::m)=1::(b.code++bu m):=by simp[bu]
   rw[e1,e2,gD,if_pos rfl];unfold bR;by_cases c:a=b
   .rw[if_pos c,c,Mk];show Cq l m h'.2
   .rw[if_neg c];show aF.app _ _ h'.1 c
noncomputable def nz (h:aI) (v:ai):aF->zk
 |.i n=>∃ t,v=.int n t
 |.s x=>∃ t,v=.str x t
inductive dU (h:aI):List ai->List aF->zk
 |nil:dU h [] []
 |cons {v:ai}{d:aF}{vs:List ai}{l:List aF}:nz h v d->dU h vs l->dU h (v::vs) (d::l)
def rF (L:List<|List aF) (h:aI) (v:ai) (ns:List Int):zk:=∃ a vs n l,v=.ref a /\ IsTup h a vs.toArray /\ dU h vs (.i n::l) /\ .i n::l∈L /\ ns=bu (.i n::l)
theorem nz.inj {v:ai}:∀ {a b:aF},nz h v a->nz h v b->a=b
 |.i n,.i m,⟨t,e⟩,⟨u,f⟩=>by rw[e]at f;cases f;rfl
 |.s n,.s m,⟨t,e⟩,⟨u,f⟩=>by rw[e]at f;cases f;rfl
 |.i n,.s m,⟨t,e⟩,⟨u,f⟩=>by rw[e]at f;cases f
 |.s n,.i m,⟨t,e⟩,⟨u,f⟩=>by rw[e]at f;cases f
theorem dU.inj {h:aI}{vs:List ai}{l m:List aF}(p:dU h vs l) (q:dU h vs m):l=m:=by
 induction p generalizing m with
 |nil=>cases q;rfl
 |cons a _ ih=>cases q with|cons b q=>rw[a.inj b,ih q]
theorem nz.keep {v:ai}{d:aF}(p:nz h v d):nz h' v d:=by
 cases d with
 |i n=>show p
 |s x=>show p
theorem dU.keep {h h':aI}{vs:List ai}{l:List aF}(p:dU h vs l):dU h' vs l:=by
 induction p with
 |nil=>show .nil
 |cons a _ ih=>show .cons a.keep ih
theorem Ml (o:aZ):∀ a vs,IsTup h a vs->IsTup (h.push o) a vs:=λa vs ⟨u,e1,e2⟩=>#[u,aN _ e1,e2]
theorem Pl {l:aj}{xs:Array ai}(hl:h.get? l=ae (seqObj "list" xs n)) (f:aZ->aZ):∀ a vs,IsTup h a vs->IsTup (h.update l f) a vs:=λa vs ⟨u,e1,e2,e3⟩=>by
 refine#[u,?_,e2,e3];by_cases q:l=a
 .subst q;rw[hl]at e1;cases e1;injection (e2) with e4;show absurd e4 ze
 .rw[Heap.get?_update_ne _ _ _ _<|Ne.symm q];show e1
theorem b9 (L:List<|List aF):KP (rF L) where
 inj:=by
  rintro h v ns ms ⟨a,vs,n,l,rfl,⟨o,e1,_,k,e2⟩,i1,_,rfl⟩ ⟨a',Ee,n',l',e,⟨o',f1,_,k',f2⟩,i2,_,rfl⟩;cases e;rw[e1]at f1;cases f1;rw[e2]at f2;injection f2 with g _;have:vs=Ee:=by simpa using g
  subst this;rw[i1.inj i2]
 push:=λ⟨a,vs,n,l,e,t,i,m,c⟩ o=>#[a,vs,n,l,e,Ml o _ _ t,i.keep,m,c]
 upd:=λ⟨a,vs,n,l,e,t,i,m,c⟩ _ _ _ hl f=>#[a,vs,n,l,e,Pl hl f _ _ t,i.keep,m,c]
section
variable {s:au}
theorem Wx {v:ai}{a b:aF}(hu:A.units<cLine) (p:nz s.heap v a) (q:nz s.heap u b) (hl:a.like b=ah) {Q:Bool->au->zk}(h:Q (decide (a=b)) s):wpAny zh A (eqBool v u) Q E s:=by
 cases a with
 |i n=>
   cases b with
   |i m=>
     let#[t,rfl]:=p;let#[t',rfl]:=q;refine aaK ?_;rw[show (n==m)=decide (aF.i n=aF.i m) by by_cases e:n=m<;>simp[e]];show h
   |_=>cases hl
 |s x=>
   cases b with
   |s y=>
     let#[t,rfl]:=p;let#[t',rfl]:=q;refine XJ x t y t' prog w E Q ?_;rw[show (x==y)=decide (aF.s x=aF.s y) by by_cases e:x=y<;>simp[e]];show h
   |_=>cases hl
theorem Wy {v:ai}{a b:aF}(hu:A.units<cLine) (k:Bool) (hk:k=ah->∃ n,a=.i n) (p:nz s.heap v a) (q:nz s.heap u b) (hl:a.like b=ah) {Q:Bool->au->zk}(h:Q (a.lt b) s):wpAny zh A (oneLt' k v u) Q E s:=by
 have gen:∀ {v u}{c},k=af->(∀ {R},R (.bool c) s->wpAny _ A (compareOp .Lt v u) R E s)->Q c s->wpAny zh A (oneLt' k v u) Q E s:=λ{v u c} z f h=>by
  rw[oneLt'_eq,z,if_neg zj];show ak<|f<|qi h
 cases a with
 |i n=>
   cases b with
   |i m=>let#[t,rfl]:=p;let#[t',rfl]:=q;show Fn k h
   |_=>cases hl
 |s x=>
   cases b with
   |s y=>let#[t,rfl]:=p;let#[t',rfl]:=q;show gen (by cases k with|true=>let#[n,e]:=hk zc;cases e|false=>rfl) (λr=>lt_str r) h
   |_=>cases hl
theorem dU.length {h:aI}{vs:List ai}{l:List aF}(p:dU h vs l):vs.length=l.length:=by
 induction p with
 |nil=>rfl
 |cons _ _ ih=>rw[bz,bz,ih]
theorem Pm (hu:A.units<cLine) {l m:List aF}(p:dU s.heap vs l) (q:dU s.heap us m) (hl:eT l m=ah) (i:Nat) (h0:i=0->∀ d r,l=d::r->∃ n,d=.i n) {R:(Option Bool×PUnit)->au->zk}
 (k:∀ r,(r=(ae<|bR l m,PUnit.unit) \/ (r=(ag,PUnit.unit) /\ bR l m=decide (vs.length<us.length)))->R r s) :
 wpAny zh A (forIn ((vs.zip us).zipIdx i) ((ag,PUnit.unit):Option Bool×PUnit) λ(z:(ai×ai)×Nat) _=>(do
  let z1 <-eqBool z.1.1 z.1.2
  if (!z1)=ah then do
   let r <-oneLt' (ah&&z.2==0) z.1.1 z.1.2
   pure (ForInStep.done (ae r,PUnit.unit))
  else pure (ForInStep.yield (ag,PUnit.unit)))) R E s:=by
 induction p generalizing us m i with
 |nil=>
   refine az<|k _<|.inr #[rfl,?_];cases q with
   |nil=>rfl
   |cons _ q=>unfold bR;simp
 |@cons v d vs l pa p ih=>
   cases q with
   |nil=>
     show az<|k _ (.inr #[rfl,by unfold bR;simp])
   |@cons u e us m qa q=>
     have kU:(d.like e&&eT l m)=ah:=hl;rw[aJ]at kU;rw[uQ,Xe,xg];refine ak<|ak<|Wx hu pa qa kU.1 ?_;by_cases c:d=e
     .subst c;rw[if_neg zj];refine az<|ih q kU.2 _ (λz=>by lia) λr hr=>k r ?_;have:bR (d::l) (d::m)=bR l m:=by conv=>lhs;unfold bR;rw[if_pos rfl]
      rw[this];rcases hr with hr|⟨hr,ED⟩
      .show .inl hr
      .show .inr #[hr,by rw[ED];simp]
     .rw[if_pos (by simp[c])];refine ak (Wy hu _ (λz=>?_) pa qa kU.1<|az<|az<|k _<|.inl ?_)
      .have:i=0:=by simpa using z
       show h0 this d l zc
      .have:bR (d::l) (e::m)=d.lt e:=by conv=>lhs;unfold bR;rw[if_neg c]
       rw[this]
theorem BQ {L:List (List aF)}(C:∀ l∈L,∀ m∈L,eT l m=ah) {U:Nat}(hU:U<cLine) (H:∀ v∈vs,∃ ns,rF L s.heap v ns) (ne:vs≠[]):Zw (rF L) prog w U s vs:=λA h' hu up=>by
 have H':∀ v∈vs,∃ ns,rF L h' v ns:=λv m=>let ⟨ns,p⟩:=H v m;#[ns,up v ns p]
 refine#[λ{Q E} h=>?_,λE=>?_]
 .have aiA:∀ (us:List ai),(∀ v∈us,∃ ns,rF L h' v ns)->∀ {Q}{E},(∀ (ws) (is),ws.length=us.length->IntsAre ws is->Q (ws.map ae) { s with heap:=h' })->wpAny zh A (us.mapM firstOfTuple') Q E { s with heap:=h' }:=by
   intro us;induction us with
   |nil=>intro _ Q E k;rw[List.mapM_nil];show az<|k [] [] zc .nil
   |cons u us ih=>
     intro G Q E k;let#[ns,a,xs,n,l,rfl,#[o,e1,e3,c,e2],it,_,_]:=G u<|bD ..;rw[List.mapM_cons];refine ak<|?_;refine ak<|tQ #[o,e1,e3] ?_;rw[if_neg ze];refine ak<|xn e1 e2<|az ?_;cases it with
     |cons hv _=>
       let#[t,rfl]:=hv;show ak<|ih (λv m=>G v<|bE _ m) λws is e q=>az<|k _ _ (by simp[e])<|.cons n t q
  rw[keyKind'_eq,abF];refine ak<|?_;rw[<-bind_pure_comp];refine ak<|aiA vs H' λus is e k=>az ?_;rw[if_pos zj];refine ak<|nU ?_;have e1:((us.map ae).toArray.filterMap id)=us.toArray:=by simp
  rw[e1,oneTypeOnly'_eq,abF,mapM_typeOf_ints k];cases us with
  |nil=>show absurd (xj e.symm) ne
  |cons u us=>
    erw[map_pure,pure_bind];rw[show ((u::us).map λ_=>Value.type "int").toArray[0]?=ae (Value.type "int") by simp];dsimp only;rw[if_pos zj];show ak<|az<|az h
 .intro x y mx my Q E' q;rw[ab9]at mx my;let#[ns,hx]:=H' _ (Xt mx).2;let#[ms,hy]:=H' _ (Xt my).2
  change Q (lexLt (((u7 (rF L) h').keyOf x.1).getD [])<|((u7 (rF L) h').keyOf y.1).getD []) _ at q
  rw[(Am (b9 L) hx),(Am (b9 L) hy)]at q;let#[a,alG,n1,l1,e1,#[o1,x1,x2,c1,x3],i1,m1,rfl]:=hx;let#[b,Ei,n2,l2,e2,#[o2,y1,y2,c2,y3],i2,m2,rfl]:=hy;have lk:=C _ m1 _ m2;rw[Cq _ _ lk]at q;rw[e1,e2,Cp];refine ak<|xn x1 x3<|ak<|xn y1 y3 ?_;refine ak<|Pm (yG hu hU) i1 i2 lk 0 (λ_ d r z=>by cases z;show#[n1,rfl]) λr hr=>?_;rcases hr with rfl|⟨rfl,e⟩
  .show az q
  .refine az ?_;rw[bY,bY,<-e];show q
end
end HT
namespace L2.DL
open HT (aF bu eT lexLt)
noncomputable def Kc:D->Option aF
 |.int i=>ae<|.i i
 |.str x=>ae<|.s x
 |_=>ag
noncomputable def kG:aF->D
 |.i n=>.int n
 |.s x=>.str x
def sX:List D->Option (List aF)
 |[]=>ae []
 |d::l=>(Kc d).bind λa=>(sX l).map λr=>a::r
def rowOf:D->Option (List aF)
 |.tup (.int i::l)=>(sX l).map λr=>.i i::r
 |_=>ag
def rowsOf:List D->Option (List<|List aF)
 |[]=>ae []
 |d::l=>(rowOf d).bind λa=>(rowsOf l).map λr=>a::r
def dG (l:List aF):D:=.tup<|l.map kG
theorem Pn {d:D}{a:aF}(e:Kc d=ae a):d=kG a:=by
 cases d with
 |int i=>cases e;rfl
 |str x=>cases e;rfl
 |_=>cases e
theorem AQ:∀ {l:List D}{r:List aF},sX l=ae r->l=r.map kG:=by
 intro l_;induction l_ with
 |nil=>(intro _ e;cases e;rfl)
 |cons d l ay=>
   intro r e;unfold sX at e;cases q:Kc d with
   |none=>rw[q]at e;cases e
   |some a=>
     cases q2:sX l with
     |none=>rw[q,q2]at e;cases e
     |some t=>rw[q,q2]at e;cases e;rw[Pn q,ay q2];rfl
theorem Mm {d:D}{r:List aF}(e:rowOf d=ae r):d=dG r /\ ∃ n l,r=.i n::l:=by
 unfold rowOf at e;split at e
 .ext i l;cases q:sX l with
  |none=>rw[q]at e;cases e
  |some t=>rw[q]at e;cases e;rw[AQ q];show#[rfl,i,t,rfl]
 .cases e
theorem JL:∀ {l:List D}{rs:List (List aF)},rowsOf l=ae rs->l=rs.map dG /\ ∀ r∈rs,∃ n l,r=.i n::l:=by
 intro l_;induction l_ with
 |nil=>(intro _ e;cases e;show#[rfl,λr m=>nomatch m])
 |cons d l ay=>
   intro rs e;unfold rowsOf at e;cases q:rowOf d with
   |none=>rw[q]at e;cases e
   |some a=>
     cases q2:rowsOf l with
     |none=>rw[q,q2]at e;cases e
     |some t=>
       rw[q,q2]at e;cases e;let#[h1,h2]:=Mm q;let#[h3,h4]:=ay q2;refine#[by rw[h1,h3];rfl,λr m=>?_];rcases bw.mp m with rfl|m
       .show h2
       .show h4 r m
def nP (rs:List<|List aF):List (List aF):=rs.mergeSort λa b=>!lexLt (bu b) (bu a)
theorem gX (rs:List<|List aF):(nP rs).Perm rs:=abA rs _
theorem iL (rs:List<|List aF):(nP rs).Pairwise (λa b=>lexLt (bu b) (bu a)=af):=(abB (le:=λa b:List aF=>!lexLt _ (bu a)) (λa b c h1 h2=>by
 cases e:lexLt _ (bu a) with
 |false=>rfl
 |true=>
   rcases HT.BP _ _ _ e with z|z
   .rw[z]at h2;cases h2
   .rw[z]at h1;cases h1) (λa b=>by
 rw[xc,rV,rV];cases e:lexLt _ (bu a) with
 |false=>show .inl zc
 |true=>
   cases f:lexLt _ (bu b) with
   |false=>show .inr zc
   |true=>have:=HT.mY _ _ _ e f;rw[HT.jF]at this;cases this) rs).imp λ{a b} z=>by simpa using z
theorem JM {a b:aF}(h:a.like b=ah):b.like a=ah:=by cases a<;>cases b<;>first|rfl|cases h
theorem AR:∀ {a b:List Nat},¬ a<b->¬ b<a->a=b
 |[],[],_,_=>rfl
 |[],y::b,h,_=>absurd zj h
 |x::a,[],_,h=>absurd zj h
 | x::a,y::b,h,g=>by
   rw[List.cons_lt_cons_iff]at h g;have e:x=y:=by
    rcases Nat.lt_trichotomy x y with z|z|z
    .show absurd (.inl z) h
    .show z
    .show absurd (.inl z) g
   subst e;rw[AR (λz=>h<|.inr #[rfl,z]) λz=>g<|.inr #[rfl,z]]
theorem UI:∀ {a b:aF},a.like b=ah->a.lt b=af->b.lt a=af->a=b
 | .i n,.i m,_,h,g=>by
   have h':=of_decide_eq_false h;have g':=of_decide_eq_false g;rw[show n=m by lia]
 | .s x,.s y,_,h,g=>by
   have:=AR (of_decide_eq_false h)<|of_decide_eq_false g;let#[#[a]]:=x;let#[#[b]]:=y;have z':a=b:=this;rw[z']
theorem code_inj:∀ {l m:List aF},eT l m=ah->bu l=bu m->l=m
 |[],[],_,_=>rfl
 | [],b::m,_,e=>by
   have e':([0])=1::(b.code++bu m):=by rw[show (1::(b.code++bu m))=bu (b::m) by simp[bu]];show e
   simp at e'
 | a::l,[],_,e=>by
   have e':1::(a.code++bu l)=([0]):=by rw[show (1::(a.code++bu l))=bu (a::l) by simp[bu]];show e
   simp at e'
 | a::l,b::m,h,e=>by
   have h':(a.like b&&eT l m)=ah:=h;rw[aJ]at h';have e':a.code++bu l=b.code++bu m:=by
    have:1::(a.code++bu l)=1::(b.code++bu m):=by rw[show (1::(a.code++bu l))=bu (a::l) by simp[bu],show (1::(b.code++bu m))=bu (b::m) by simp[bu]];show e
    show(List.cons.inj this).2
   have ab:a=b:=by
    by_cases c:a=b
    .show c
    .have x1:=HT.aF.app (bu l) (bu m) h'.1 c;have x2:=HT.aF.app (bu m) (bu l) (JM h'.1) λz=>c z.symm;rw[e',HT.jF]at x1;rw[<-e',HT.jF]at x2;show UI h'.1 x1.symm x2.symm
   subst ab;rw[code_inj h'.2<|List.append_cancel_left e']
theorem EE {β:Type}{f:α->β}{l n:List β}(h:l.Perm n):∀ {m:List α},n=m.map f->∃ m':List α,l=m'.map f /\ m'.Perm m:=by
 induction h with
 |nil=>intro m e;cases m with|nil=>show⟨[],rfl,.nil⟩|cons _ _=>cases e
 |cons x _ ih=>
   intro m e;cases m with
   |nil=>cases e
   |cons a m=>
     let#[e1,e2]:=List.cons.inj e;let#[m',q1,q2]:=ih e2;show#[a::m',by rw[aL,<-q1,e1],q2.cons a]
 |swap x y l=>
   intro m e;match m,e with
   |a::b::m,e=>
     let#[e1,e2]:=List.cons.inj e;let#[e2,e3]:=List.cons.inj e2;show#[b::a::m,by rw[aL,aL,<-e1,<-e2,<-e3],.swap ..]
 |trans _ _ Zx Zy=>
   intro m e;let#[m2,q1,q2]:=Zy e;let#[m1,q3,q4]:=Zx q1;show#[m1,q3,q4.trans q2]
def vb (rs:List<|List aF):Bool:=rs.all λa=>rs.all λb=>eT a b
theorem lE {rs a:List (List aF)}(hl:vb rs=ah) (p:a.Perm rs) (ha:a.Pairwise λa b=>lexLt (bu b) (bu a)=af):a=nP rs:=by
 refine(p.trans (gX rs).symm).eq_of_pairwise (λx y mx my h1 h2=>code_inj ((λx mx y my=>cY.mp (cY.mp hl x mx) y my) x (p.mem_iff.mp mx) y<|(gX rs).mem_iff.mp my)<|HT.jh _ _ h2 h1) ha (iL rs)
section
variable {s:au}
theorem Wz (I:Inv X pins σ H s) (sub:Sub F H) {a:aF}(h:Den F (kG a) v) (r:RelV v u):HT.nz s.heap u a:=by
 cases a with
 |i n=>cases (h);show r
 |s x=>cases (h);show r
theorem Fo (I:Inv X pins σ H s) (sub:Sub F H):∀ {l:List aF}{vs:List V}{us:List ai},aG F (l.map kG) vs->Vals vs us->HT.dU s.heap us l:=by
 intro l_;induction l_ with
 |nil=>(intro _ _ h r;cases (h);cases r;show .nil)
 |cons a l ay=>
   intro _ _ h r;let#[v,t,rfl,h1,h2]:=h;cases r with
   |cons r1 r2=>show .cons (Wz I sub h1 r1)<|ay h2 r2
theorem Po:∀ {rs:List (List aF)}{vs:List V},aG F (rs.map dG) vs->∃ ps:List (aj×List aF),vs=ps.map (λp=>V.ref p.1) /\ rs=ps.map (·.2) /\ ∀ p∈ps,Den F (dG p.2) (.ref p.1):=by
 intro l_;induction l_ with
 |nil=>(intro _ h;show#[[],h,rfl,λp m=>nomatch m])
 |cons r rs ay=>
   intro _ h;let#[v,t,rfl,h1,h2]:=h;let#[ps,e1,e2,e3]:=ay h2;let#[a,ws,rfl,h3,h4]:=id h1;refine#[(a,r)::ps,by rw[e1];rfl,by rw[e2];rfl,λp m=>?_];rcases bw.mp m with rfl|m
   .show h1
   .show e3 p m
theorem Mn:∀ {ps:List (aj×List aF)},(∀ p∈ps,Den F (dG p.2)<|.ref p.1)->aG F ((ps.map (·.2)).map dG) (ps.map λp=>V.ref p.1):=by
 intro l_;induction l_ with
 |nil=>show λ_=>rfl
 |cons p ps ay=>show λh=>.cons (h p<|bD ..)<|ay λq m=>h q<|bE _ m
end
def Zz (K:PySem.W.Frag) (vs:List V) (H:Hp) (Q:VK):zk:=∃ (F:Hp) (p:aj) (xs:List V) (rs:List<|List aF),vs=[.ref p] /\ Sub F H /\ bN K H p xs /\ aG F (rs.map dG) xs /\ (∀ r∈rs,∃ n l,r=.i n::l) /\ rs.length<64 /\ vb rs=ah /\
 ∀ (q:aj) (ys:List V),H q=ag->aG F ((nP rs).map dG) ys->Q (.ref q) (upd H q<|.lst ys)
theorem Fp (hu:X.A.units+100<cLine):eE X (.builtin "sorted") (Zz X.K):=by
 intro pins s σ H xs us Q I rv h;let#[F,p,vs,rs,rfl,sub,hp,hd,hf,c5,aer,q]:=h;let#[u,rfl,ru]:=Vals.one rv;cases ru;let#[its,r1,p1,z1]:=I.list hp;let#[ps,e1,e2,e3]:=Po hd;subst e1;have ei:its=ps.map λp=>Value.ref p.1:=by
  have:=Db (by rw[bj];show r1);rw[this,bj];rfl
 subst ei;have row:∀ p∈ps,HT.rF rs s.heap _ (bu p.2):=λp m=>by
  have mr:p.2∈rs:=by rw[e2];show bp.mpr #[p,m,rfl]
  let#[n,l,el]:=hf _ mr;let#[b,ws,eb,h3,h4]:=(e3 p m);cases eb;let#[us,r',pl,_]:=I.tuple<|.of<|sub _ _ h3;rw[el]at h4 mr;show#[p.1,us,n,l,rfl,pl,Fo I sub h4 r',mr,by rw[el]]
 have HH:∀ v∈ps.map (λp=>Value.ref p.1),∃ ns,HT.rF rs s.heap v ns:=λv m=>by
  let#[r,mr,rfl]:=bp.mp m;show#[_,row r mr]
 have ln:ps.length=rs.length:=by rw[e2,aR]
 refine HT.JK (HT.b9 rs) p1.isList HH (aE _) (λne=>HT.BQ (λx mx y my=>cY.mp (cY.mp aer x mx) y my) za HH ne) (by rw[aR,ln];show c5) λout o1 o2=>?_;let#[vc,q1,q2]:=EE o1 zc;let#[k,he]:=ab6 s.heap _ out;have ord:(vc.map (·.2)).Pairwise (λa b=>lexLt (bu b) (bu a)=af):=by
  unfold HT.u9 at o2;rw[q1,qp]at o2;rw[qp];show acM (λ{a b} ma mb r=>r _ _ (row a<|q2.mem_iff.mp ma)<|row b<|q2.mem_iff.mp mb) o2
 have ll:(vc.map λp=>V.ref p.1).length<=sizeLine:=by
  rw[aR,q2.length_eq,ln];show cB (nh c5) ze
 refine#[.ref _,_,I.laid (λb ob q=>ab7 q) (qj _) ?_,rfl,q _ _ (I.aD.fresh<|qj _) (by rw[<-(lE aer (by rw[e2];show q2.map _) ord)];show Mn λp m=>e3 p<|q2.mem_iff.mp m)];refine#[ll,out.toList,k,?_,he];rw[q1];have:∀ l:List (aj×List aF),Vals (l.map λp=>V.ref p.1) (l.map λp=>Value.ref p.1):=λl=>by
  induction l with
  |nil=>show .nil
  |cons a l ih=>show .cons zc ih
 show this vc
def dW:List D->Option Res:=λxs=>match sP xs with
 |some r=>ae r
 | none=>match xs with
   |[.lst l]=>(rowsOf l).bind λrs=>if rs.length<64 /\ vb rs=ah then ae (.lst<|(nP rs).map dG) else ag
   |_=>ag
theorem Fq (hu:X.A.units+100<cLine):eE X (.builtin "sorted") (λvs H Q=>IT X.K vs H Q \/ Zz X.K vs H Q):=λpins s σ H xs us Q I rv h=>h.elim (Jz pins s σ H xs us Q I rv)<|Fp hu pins s σ H xs us Q I rv
theorem aiB:km (λvs H Q=>IT K vs H Q \/ Zz K vs H Q) dW:=by
 intro F H xs vs Q s sub rx e k;unfold dW at e;cases er:sP xs with
 |some r=>
   rw[er]at e;cases e;show .inl<|aic F H xs vs Q s sub rx er k
 |none=>
   rw[er]at e;dsimp only at e;split at e
   .ext l;cases e1:rowsOf l with
    |none=>rw[e1]at e;cases e
    |some rs=>
      rw[e1]at e;erw[bS]at e;split at e
      .ext hc;cases e;let#[v,t,rfl,#[a,us,rfl,h1,h2],rt]:=rx;cases (rt);let#[b1,b2]:=JL e1;subst b1;show .inr #[F,a,us,rs,rfl,sub,.of h1,h2,b2,hc.1,hc.2,λq ys hq hy=>k _ _ #[q,ys,rfl,hq,rfl,hy]]
      .cases e
   .cases e
end L2.DL
namespace L2
theorem Gu {src:List (Option Nat)}{elt:aq}{scope:bT}{pos vd:aC}{wi:TI}{g:TG}{tf:TT}{te:TE}{ii:Nat} 
 (hc:X.calm=ah) (S:sI X N src scope) (hi:PI X tg iter wi)
 (hg:∀ cl s H C fp,PG zN tg g) (hf:∀ cl s H C fp,PF zN ifs tf) (he:∀ cl s H C fp,PE zN elt te)
 (hN:X.N.Nodup) (wx:X.N[ii]?=ae x) (hx:Loc X.env.scope x) (EF:swapsWith zy (ae<|.Name x pos') vd.line X.env=pure ah)
 (EG:X.fn x=ah \/ X.env.scope.names.lookup x=ae .local)
 (hs:∀ x,foldedSetIterable iter X.env x=pure x:=by intro _;rfl):PS X (.Assign [.Name x pos'] zy vd) (Ic (Iz src wi g tf te)<|XX ii):=by
 intro pins s σ H Dn I h;rw[exec_Assign_Name_used _ _ _ _ EF];refine ak<|yu<|ak ?_
 change wpAny _ X.A _ _ _ s
 refine ak<|k9 (aa3 zc hs (AE<|S.cells I.ok) S.kind S.names<|cg (hi pins s σ H _ I h) λxv s1 h1=>cg h1 λIe s2 h2=>?_) (λ_ s' hq=>az<|az hq) λ_ _ q=>q;let#[it,fp,tn,J,H2,e,I2,T,vN,f2,hW]:=h2;subst e;refine eV ?_;generalize hD:s2.heap.objs.size=D;have I3:Inv X pins σ (upd H2 D<|.lst []) { s2 with heap:=s2.heap.push { cls:=.type "list",dict:=ag,data:=.seq ([]).toArray } }:=by
  subst hD;show I2.laid (λb u e=>aN _ e) (aE _) #[eC _,[],0,.nil,bB _ zc]
 let#[W,#[m0,w0],turn]:=hW D<|I2.aD.fresh<|xa hD;have up:∀ b o,s2.heap.get? b=ae o->(s2.heap.push { cls:=.type "list",dict:=ag,data:=.seq ([]).toArray }).get? b=ae o:=λb u e=>aN _ e;have uV:=T.keep _ _ _ vN λb _ o e=>up b o e;have yZ:∀ b∈fp,b<s2.heap.objs.size:=λb hb=>by let#[o,e,_]:=(T.obj _ _ vN) b hb;show a9 e
 have f3:∀ b∈fp,n6 X pins (upd H2 D<|.lst []) b:=λb hb=>#[by rw[fC (by rw[<-hD];show bI (yZ b hb))];show(f2 b hb).1,(f2 b hb).2];generalize Y7:({ s2 with heap:=s2.heap.push { cls:=.type "list",dict:=ag,data:=.seq ([]).toArray } })=s3 at I3 ⊢;have Ea:s3.heap=s2.heap.push { cls:=.type "list",dict:=ag,data:=.seq ([]).toArray }:=by rw[<-Y7]
 rw[<-Ea]at uV;have Y8:∀ b∈fp,b<s3.heap.objs.size:=λb hb=>by rw[Ea,uc];show pM<|yZ b hb
 generalize ahG:upd H2 D (.lst [])=H3 at I3 f3 w0;refine AG ?_;generalize Eb:pushCells (s3.heap.push { cls:=.type "dict",data:=.dict #[] }) scope.names=h₁;have k1:∀ b o,s3.heap.get? b=ae o->h₁.get? b=ae o:=λb o e=>by rw[<-Eb];show Hc _ _ b o<|aN _ e
 have IY:=CY S I3 (λb hb=>#[f3 b hb,Y8 b hb]) (by rw[Eb]);have Ec:=T.keep _ _ _ uV λb _ o e=>k1 b o e;generalize xO:cellsFrom (s3.heap.objs.size+1) scope.names (eP X.env.cells scope.names [])=cl at IY ⊢;generalize hC:s3.heap.objs.size=C at IY ⊢;have v3:∀ {H'},(∀ b∈fp,H' b=ag)->∀ b∈fp,n6 zV [] H' b:=λhn b hb=>by
  refine#[hn b hb,((IY.ok.xy b hb).1),(IY.ok.xA b hb),.inl hb,?_,λp hp=>absurd (hp) zj]
  .intro x c e z;show(IY.ok.xy b hb).2 x c e z
 have fin:∀ (σ') (H') (s':au),Inv zV [] σ' H' s'->∀ h',Heap.SameBut C s'.heap h'->Inv X pins σ H' { s' with heap:=h' }:=λσ' H' s' I' h' v8=>by
  have Ed:H' C=ag:=I'.free;have kp:∀ b o,b≠C->s'.heap.get? b=ae o->h'.get? b=ae o:=λb o hb e=>v8.extBut b o hb e;have Y9:s3.heap.get? C=ag:=by rw[<-hC];show Xm<|aE _
  have qu:∀ b o,s3.heap.get? b=ae o->b≠C:=λb o e z=>by rw[z,Y9]at e;cases e
  have U:=I'.base;refine I3.ac0 I'.os #[λb o e n hb hx=>kp b o (qu b o e)<|U.keep b o e n hb hx,λb o e n hb hx=>?_,U.free,λb o e hx=>?_,U.nZ,U.pV,U.qW] ?_ I'.bare λb hb=>(#[(f3 b hb).2.2.2.1,(f3 b hb).2.1,λx c e=>(f3 b hb).2.2.2.2.1 x c e,(f3 b hb).2.2.2.2.2])
  .let#[sl,e1]:=U.slot b o e n hb hx;show#[sl,kp b _ (qu b o e) e1]
  .let#[o',e1]:=U.there b o e hx;show#[o',kp b o' (qu b o e) e1]
  .intro b ob e;refine(I'.aD b ob e).stay (λc w' dM q=>kp c w' (λz=>?_) q) (λ_ q=>q) λ_ _ q=>q;rcases dM with z1|z1
   .rw[<-z1,z,Ed]at e;cases e
   .rw[z,Ed]at z1;cases z1
 have loop:∀ s4:au,s4={ s3 with heap:=h₁ } ->
  codeAny zf X.A (.compLoop zy 0 (.ref it) (.ref D)<|compEnvC scope cl C X.env) (compPost zf X.A X.xe (ae<|assign (.Name x pos') X.env) (λ_ s'=>SP X pins Dn .next s') (.ref D) C) s4:=by
  rintro s4 rfl;refine mR (λn s'=>∃ i σ' H',Inv zV [] σ' H' s' /\ tn i s'.heap /\ (∀ b∈fp,H' b=ag) /\ W i n σ' H') _ (λ_ _ _ q=>q) ?_ m0 #[0,_,H3,IY,Ec,λb hb=>(f3 b hb).1,w0];rintro n s5 ⟨i,σ5,H5,I5,ui,vO,w5⟩;have nI:∀ {α:Type}{t:Sem α}{Q1:α->au->zk}{E1:ai->au->zk}{ss:au},wpAny zf X.A t Q1 (λ_ _=>False) ss->wpAny zf X.A t Q1 E1 ss:=λhw=>k9 hw (λ_ _ q=>q) λ_ _ z=>False.elim z;rcases turn i n σ5 H5 w5 with⟨stop,q5⟩|⟨go,NN,hN,step⟩
  .refine nI<|cg (T.done (X.comp N scope cl s3 H3 C fp) zc zc zc hc i [] s5 σ5 H5 (λ_ _=>False) I5 (v3 vO) ui stop) ?_;rintro r s6 ⟨hr,I6⟩;subst hr;let#[m6,Za,_]:=I6.loc
   change wpAny _ X.A (assign (.Name x pos') X.env<|.ref D) _ _ s6
   refine aaQ<|BC (v:=.ref D) (fin σ5 H5 s6 I6 s6.heap<|Heap.SameBut.refl ..) hN wx hx zc (λs7 I7 ⟨a,sb,ha⟩=>?_) EG;refine#[m6,Za.sameBut sb (λz=>by
    rcases ha with w1|w1
    .have l1:X.env.locals<s3.heap.objs.size:=I3.lt;rw[<-w1,<-z,<-hC]at l1;show hV _ l1
    .let#[v1,o1,w2,_]:=I3.cell x a w1;have l1:=a9 w2;rw[<-z,<-hC]at l1;show hV _ l1),λh' v8=>?_]
   refine#[σ.set ii<|ae<|.ref D,H5,?_,q5];refine I7.turned (λb o hb e=>v8.extBut b o hb e) I6.free (Ne.symm (λz=>by have l1:=I3.lt;rw[z,<-hC]at l1;show hV _ l1)) (.inr ?_) (λy c e z=>?_) λp hp z=>?_
   .rw[<-hC];show I3.sz
   .let#[v1,o1,w2,_]:=I3.cell y c e;have l1:=a9 w2;rw[z,<-hC]at l1;show hV _ l1
   .have l1:=a9 (I3.pin p hp).1;rw[z,<-hC]at l1;show hV _ l1
  .refine nI<|cg (T.item zV zc zc zc hc i [] s5 σ5 H5 (λ_ _=>False) I5 (v3 vO) ui go) ?_;rintro r s6 ⟨u,hr,h6⟩;subst hr;refine nI<|cg h6 ?_;rintro _ s7 ⟨x,H7,I7,r7,y7,wa,Zb⟩;refine nI<|cg (hg cl s3 H3 C fp _ s7 σ5 H7 x u _ (I7.pinned (v3 Zb)<|T.obj _ _ wa) r7<|step x H7 y7) ?_;rintro _ s8 ⟨σ8,H8,I8,q8⟩;refine nI<|tT (hf cl s3 H3 C fp _ s8 σ8 H8 _ I8 q8) λb s9 H9 I9 q9=>?_;have again:∀ {σ9:St}{HA:Hp}{sA:au},Inv zV ([]++yR fp s7.heap) σ9 HA sA->NN σ9 HA->∃ m,m<n /\ ∃ i σ' H',Inv zV [] σ' H' sA /\ tn i sA.heap /\ (∀ b∈fp,H' b=ag) /\ W i m σ' H':=λ{σ9 HA sA} IA nA=>by
    let#[m',hm,wA]:=hN σ9 HA nA;refine#[m',hm,i+1,σ9,HA,IA.yS,T.keep _ _ _ wa λb hb o e=>(IA.pin (b,o)<|hZ _<|hZ _<|iA hb e).1,λb hb=>?_,wA];let#[o,e,d]:=T.obj _ _ wa b hb;show(IA.pin (b,o)<|hZ _<|hZ _<|iA hb e).2.1
   cases b with
   |false=>
     rw[if_neg ze]at q9;rw[if_neg ze];show again I9 q9
   |true=>
     rw[if_pos rfl]at q9;rw[if_pos rfl];refine nI<|tE (he cl s3 H3 C fp _ s9 σ8 H9 _ I9 q9) λyv sA y HA IA rA hh=>?_;let#[ys,Zc,Zd,nA]:=hh;refine nI<|cg (oz _ sA σ8 HA (.ref D) [y] (.ref D) [yv] (λ_ HB=>NN σ8 HB) IA zc (.cons rA .nil) #[D,ys,y,rfl,rfl,Zc,Zd,nA]) λr sB hB=>?_;let#[_,HB,IB,_,nB]:=hB;show again IB nB
 show aa4 (loop _ zc)<|T.self _ 0 _ _ _ Ec<|loop _ zc
end L2
namespace L2.DL
section
variable {src:List (Option Nat)} {elt:aq} {scope:bT} {pos vd:aC} {g:DG} 
theorem Mo (i:Nat) (bo:Bool) (hc:X.calm=ah) (S:sI X N src scope) (hi:uv X T Z tg iter mi)
 (hg:∀ T cl s H C fp,kW zN T tg g) (hf:∀ T cl s H C fp,PF zN ifs<|sL T #[E0,Z.cl] tf) (he:∀ T cl s H C fp,PD zN T #[E0,Z.cl] elt te)
 (hN:X.N.Nodup) (wx:X.N[i]?=ae x:=by rfl) (hx:Loc X.env.scope x:=by first|show Or.inl zc|show Or.inr zc) (EF:swapsWith zy (ae<|.Name x pos') vd.line X.env=pure ah:=by rfl)
 (EG:X.fn x=ah \/ X.env.scope.names.lookup x=ae .local:=by first|show .inl zc|show .inr zc|assumption)
 (hs:∀ x,foldedSetIterable iter X.env x=pure x:=by intro _;rfl):cD X T Z (.Assign [.Name x pos'] zy vd) (fF (fL bo src mi g tf te)<|fe i):=by
 refine PS.imp (Gu (g:=Ef g) (tf:=Eg _ tf) (te:=Eh _ te) hc S hi (λcl s H C fp pins s' σ' H' v u Q I rv ⟨T,q⟩=>hg T cl s H C fp pins s' σ' H' v u Q I rv q)
  (λcl s H C fp pins s' σ' H' Q I ⟨T,q⟩=>hf T cl s H C fp pins s' σ' H' Q I q) (λcl s H C fp pins s' σ' H' Q I ⟨T,q⟩=>he T cl s H C fp pins s' σ' H' Q I q) hN wx hx EF EG hs) λD σ H=>x4 λF r env bx R h=>(L5 #[F,r,env,bx,R,End.bC h λw bx1 F1 r1 v H1 g1 R1 d1 h1=>h1 F1 r1 _ H1 zU<|R1.set d1 i])
end
noncomputable def bJ:aq->Bool
 |.Starred _ _=>af
 |_=>ah
def pH:List aq->Bool
 |[]=>ah
 |e::es=>bJ e&&pH es
theorem fH (h:bJ e=ah) (es:List aq) (env:Env):starEach (e::es) env=(af,eval e env)::starEach es env:=by
 cases e<;>first|rfl|cases h
theorem jG {env:Env}{pos:aC}:∀ {es:List aq},pH es=ah->(backTo pos<|starEach es env).any (·.1)=af:=by
 intro l_;induction l_ with
 |nil=>show λ_=>rfl
 |cons e es ay=>
   intro h;have h':(bJ e&&pH es)=ah:=h;rw[aJ]at h';rw[fH h'.1];change (af||(backTo pos _).any _)=af;rw[ay h'.2];rfl
theorem iC (h:pH (e::es)=ah):bJ e=ah /\ pH es=ah:=by
 have h':(bJ e&&pH es)=ah:=h
 rwa [aJ]at h'
theorem lF (h:bJ e=ah) (es:List aq) (env:Env):assignEach (e::es) env=(af,assign e env)::assignEach es env:=by
 cases e<;>first|rfl|cases h
theorem AS {env:Env}:∀ {es:List aq},pH es=ah->(assignEach es env).length=es.length /\ (assignEach es env).findIdx? (·.1)=ag:=by
 intro l_;induction l_ with
 |nil=>show λ_=>#[rfl,rfl]
 |cons e es ay=>
   intro h;let#[h1,h2]:=iC h;let#[a,b]:=ay h2;rw[lF h1];show#[by rw[bz,bz,a],by rw[List.findIdx?_cons,b];rfl]
section
variable {a b c:aq} {pos p p1:aC} {k k' nn:Nat} {ps:List Str} {m:DE (List W)}
theorem lj (ha:PD X T Z e ma) (hr:dH X T Z es m) (hn:bJ e=ah:=by rfl):dH X T Z (e::es) (fc ma m):=LR ha hr<|fH hn es X.env
theorem WA {id:String}{q:List V->Hp->VK->zk}{g:List D->Option Res}(bo:Bool) (hc:eE X (.builtin id) q) (hk:km q g) (hg:Gl X x) (hm:X.mg x=ag) (hv:bootBuiltins x=ae (.builtin id)) (ha:dH X T Z (e::es) m)
 (kg:pH (e::es)=ah:=by rfl) (hn:x ≠ "__name__":=by decide) (dO:(x==("__debug__":Str))=af:=by decide):PD X T Z z7 (dN bo g m):=
 LX bo hc hk hg hm hv ha hn dO (fH (iC kg).1 es X.env) (jG (iC kg).2)
theorem UJ {id:String}{q:List V->Hp->VK->zk}{g:List D->Option Res}(bo:Bool) (hc:eE X (.type id) q) (hk:km q g) (hg:Gl X x) (hm:X.mg x=ag) (hv:bootBuiltins x=ae (.type id)) (ha:dH X T Z (e::es) m)
 (kg:pH (e::es)=ah:=by rfl) (hn:x ≠ "__name__":=by decide) (dO:(x==("__debug__":Str))=af:=by decide):PD X T Z z7 (dN bo g m):=
 Js bo hc hk hg hm hv ha hn dO (fH (iC kg).1 es X.env) (jG (iC kg).2)
theorem WB (h:sW X.prog X.w X.K X.mg X.base Z.cl k x ps fn) (hr:dE k' X.A) (hk:k<=k') (hg:Gl X x) (hx:Passes (qy X.prog X.w) X Z.E) (ha:dH X T Z (e::es) m)
 (kg:pH (e::es)=ah:=by rfl) (hn:ps.length=nn:=by rfl) (dO:(x==("__debug__":Str))=af:=by decide):PD X T Z z7 (fj fn nn m):=
 UH h hr hk hg hx ha dO (fH (iC kg).1 es X.env) (jG (iC kg).2) hn
theorem WC {n:String}(hT:pZ X.K n) (hg:Gl X "isinstance") (hm:X.mg "isinstance"=ag) (wc:Gl X x) (we:X.mg x=ag) (hv:bootBuiltins x=ae (.type n)) (ha:PD X T Z a ma) (hs:bJ a=ah:=by rfl)
 (hn:x ≠ "__name__":=by decide) (dO:(x==("__debug__":Str))=af:=by decide):PD X T Z (.Call (.Name "isinstance" p) [a,.Name x p1] [] pos) (lC n ma):=
 O3 hT hg hm wc we hv ha hn dO (fH hs _ X.env) (fH zc _ X.env) (jG zc)
theorem UK {g:DG}{q:pB}(h1:kW X T e g) (h2:uu X T es q) (hn:bJ e=ah:=by rfl):uu X T (e::es) (fq g q):=Ju h1 h2 (by rw[lF hn];rfl)
theorem WD {q:pB}{i:Nat}(hc:X.calm=ah) (h:uu X T es q) (kg:pH es=ah:=by rfl) (hn:es.length=nn:=by rfl):kW X T (.Tuple es i pos) (fR nn q):=
 OR hc h ((AS kg).1.trans hn) (AS kg).2
end
open PySem.W
section
variable {a b:aq} {pos p np cR rp alH:aC} {body:List cb} {m k:aA} {n:Str} {c i:Nat} {R:aj}
noncomputable def dj:aA:=λ_ _=>.bad
theorem fU:cD X T Z st dj:=λ_ _ _ _ _ _ h=>by
 let#[_,_,_,_,_,h]:=h;show h.elim
end
section
variable {k:Nat} {ps:List Str} {m:aA} {nn kk:Nat}
end
section
variable {a:aq} {p p2 pos uD:aC} {ta:TA} {ks:DE (List W)}
theorem Pp {b:aq}{y:Str}{px py pt:aC}{kt k2 c7}(i j:Nat) (hc:X.calm=ah) (hN:X.N.Nodup) (ha:dH X T Z [a,b] ks) (hi:X.N[i]?=ae x:=by rfl) (hj:X.N[j]?=ae y:=by rfl) (uh:i≠j:=by decide)
 (hx:X.env.scope.names.lookup x=ae .local:=by rfl) (hy:X.env.scope.names.lookup y=ae .local:=by rfl)
 (hw:swappedStores [.Tuple [.Name x px,.Name y py] kt pt] (.Tuple [a,b] k2 c7) X.env=pure (ae [x,y]):=by rfl)
 (hs:swapsWithSole [.Tuple [.Name x px,.Name y py] kt pt] (.Tuple [a,b] k2 c7) pos.line X.env=pure af:=by rfl) :
 cD X T Z zaq (dQ i j ks):=
 PS.imp (TF hc hN hi hj uh hx hy ha hw hs) λD σ H h=>Wp h
end
noncomputable def wy:D->V
 |.non=>.non
 |.bl b=>.bl b
 |.int i=>.int i
 |.str x=>.str x
 |_=>.ty ""
noncomputable def kZ:D->Bool
 |.non=>ah
 |.bl _=>ah
 |.int _=>ah
 |.str _=>ah
 |_=>af
def Kd (a b:D):Bool:=sH (wy a)<|wy b
theorem AT {d:D}(f:kZ d=ah) (h:Den F d v):v=wy d /\ sF v=ah:=by
 cases d with
 |non=>cases (h);show#[rfl,rfl]
 |bl b=>cases (h);show#[rfl,rfl]
 |int i=>cases (h);show#[rfl,rfl]
 |str x=>cases (h);show#[rfl,rfl]
 |_=>cases f
theorem BR:∀ {l:List D}{vs:List V},l.all kZ=ah->aG F l vs->vs=l.map wy /\ vs.all sF=ah:=by
 intro l_;induction l_ with
 |nil=>(intro _ _ h;cases (h);show#[rfl,rfl])
 |cons d l ay=>
   intro _ f h;let#[v,r,e,h1,h2]:=h;subst e;rw[tX,aJ]at f;let#[e1,f1]:=AT f.1 h1;let#[e2,f2]:=ay f.2 h2;subst e1;subst e2;show#[rfl,by rw[tX,f1,f2];rfl]
def nQ (x:D) (l:List D):Bool:=l.any λy=>Kd y x
theorem Gv (x:D) (l:List D):Ir (wy x) (l.map wy)=nQ x l:=by
 unfold Ir nQ;rw[Hu];rfl
def Ke (neg:Bool):D->D->Option Res:=λx y=>match y with
 |.lst l=>if kZ x=ah /\ l.all kZ=ah then ae (.old<|.bl (if neg then !nQ x l else nQ x l)) else ag
 |.tup l=>if kZ x=ah /\ l.all kZ=ah then ae (.old<|.bl (if neg then !nQ x l else nQ x l)) else ag
 |_=>ag
theorem aes (neg:Bool):cx (Iu K neg) (Ke neg):=by
 intro F H x y v w Q s sub hx hy e k;unfold Ke at e;have fx:∀ {d},kZ d=ah->pb F H d v->Den F d v:=λ{d} f h=>by
  cases d with
  |non=>show h
  |bl b=>show h
  |int i=>show h
  |str z=>show h
  |_=>cases f
 cases y with
 |lst l=>
   simp only at e;split at e
   .ext f;cases e;let#[a,vs,rfl,h1,h2]:=hy;let#[e1,f1]:=AT f.1<|fx f.1 hx;let#[e2,f2]:=BR f.2 h2;subst e1;subst e2;refine#[a,_,rfl,.inl<|bN.of h1,f1,f2,?_];rw[Gv];show k _ _ #[rfl,rfl]
   .cases e
 |tup l=>
   simp only at e;split at e
   .ext f;cases e;let#[a,vs,rfl,h1,h2]:=hy;let#[e1,f1]:=AT f.1<|fx f.1 hx;let#[e2,f2]:=BR f.2 h2;subst e1;subst e2;refine#[a,_,rfl,.inr<|cP.of<|sub _ _ h1,f1,f2,?_];rw[Gv];show k _ _ #[rfl,rfl]
   .cases e
 |_=>cases e
def Kf (neg:Bool):R2:=λx y H Q=>∃ F dx dy,Sub F H /\ pb F H dx x /\ pb F H dy y /\ kq dx=ah /\ kq dy=ah /\ ∃ l,(dy=.lst l \/ dy=.tup l) /\ Q (.bl (if neg then !(l.any λz=>eqv z dx) else l.any λz=>eqv z dx)) H
theorem lU (dx:D):∀ l:List D,((bZ l).any λy=>PyData.eqv y<|toPy dx)=l.any λz=>eqv z dx:=by
 intro l_;induction l_ with
 |nil=>show rfl
 |cons z l ay=>
   change (PyData.eqv _ _||_)=_;rw[ay];rfl
theorem UL (hu:X.A.units+100<cLine):bc X (compareOp .In) (Kf af):=by
 intro pins s σ H x y v u Q I rx ry h;let#[F,dx,dy,sub,hx,hy,ox,oy,l,hl,q]:=h;let#[as,ra]:=gW I sub hx rx;let#[bs,rb]:=gW I sub hy ry;let#[x1,x2]:=jR ox;let#[y1,y2]:=jR oy;rcases hl with rfl|rfl
 .show SeqAt.in_list_reads rb ra y1 x1 za (by rw[lU];show#[.bl _,H,I,rfl,q])
 .show SeqAt.in_tuple_reads rb ra y1 x1 za (by rw[lU];show#[.bl _,H,I,rfl,q])
theorem JN (hu:X.A.units+100<cLine):bc X (compareOp .NotIn) (Kf ah):=by
 intro pins s σ H x y v u Q I rx ry h;let#[F,dx,dy,sub,hx,hy,ox,oy,l,hl,q]:=h;let#[as,ra]:=gW I sub hx rx;let#[bs,rb]:=gW I sub hy ry;let#[x1,x2]:=jR ox;let#[y1,y2]:=jR oy;rcases hl with rfl|rfl
 .show SeqAt.notIn_list_reads rb ra y1 x1 za (by rw[lU];show#[.bl _,H,I,rfl,q])
 .show SeqAt.notIn_tuple_reads rb ra y1 x1 za (by rw[lU];show#[.bl _,H,I,rfl,q])
def wz (neg:Bool) (x y:D) (l:List D):Option Res:=if kq x&&kq y then ae (.old<|.bl (if neg then !(l.any λz=>eqv z x) else l.any λz=>eqv z x)) else ag
def inD (neg:Bool):D->D->Option Res:=λx y=>match y with
 |.lst l=>if kZ x=ah /\ l.all kZ=ah then ae (.old<|.bl (if neg then !nQ x l else nQ x l)) else wz neg x y l
 |.tup l=>if kZ x=ah /\ l.all kZ=ah then ae (.old<|.bl (if neg then !nQ x l else nQ x l)) else wz neg x y l
 |_=>ag
theorem okIn (neg:Bool):cx (λx y H Q=>Iu K neg x y H Q \/ Kf neg x y H Q) (inD neg):=by
 intro F H x y v w Q s sub hx hy e k;have g:∀ l,(y=.lst l \/ y=.tup l)->wz neg x y l=ae s->Kf neg v w H Q:=λl hl e=>by
  unfold wz at e;split at e
  .ext c;rw[aJ]at c;cases e;show#[F,x,y,sub,hx,hy,c.1,c.2,l,hl,k _ _ #[rfl,rfl]]
  .cases e
 unfold inD at e;split at e
 .ext l;split at e
  .ext f;show .inl<|aes neg F H x _ v w Q s sub hx hy (by unfold Ke;simp only;rw[if_pos f];show e) k
  .show .inr<|g l (.inl zc) e
 .ext l;split at e
  .ext f;show .inl<|aes neg F H x _ v w Q s sub hx hy (by unfold Ke;simp only;rw[if_pos f];show e) k
  .show .inr<|g l (.inr zc) e
 .cases e
noncomputable def intD:List D->Option Res:=λxs=>match xs with
 |[.int i]=>ae<|.old<|.int i
 |[.bl b]=>ae<|.old<|.int (if b then 1 else 0)
 |_=>ag
theorem aiC:km (λxs H Q=>(∃ i,xs=[.int i] /\ Q (.int i) H) \/ ∃ k,xs=[.bl k] /\ Q (.int (if k then 1 else 0)) H) intD:=by
 intro F H xs vs Q s sub rx e k;unfold intD at e;split at e
 .cases e;let#[v,t,rfl,hv,rt]:=rx;cases (rt);cases (hv);show .inl #[_,rfl,k _ _ #[rfl,rfl]]
 .cases e;let#[v,t,rfl,hv,rt]:=rx;cases (rt);cases (hv);show .inr #[_,rfl,k _ _ #[rfl,rfl]]
 .cases e
section
variable {a b o:aq} {pos p:aC}
def wB (m k:DE W):DE W:=λenv bx=>fA zD λx bx1=>match x with
 | .b n=>(match bx1[n]? with
   | some (.lst _)=>fA (k env bx1) λy bx2=>(match y,bx2[n]? with
     | .d (.int i),ae (.lst l)=>if -(2 ^ 63)<=i /\ i<2 ^ 63 then (match cA l.length i with
       |some j=>(match l[j]? with|some d=>.val (.d d) (bx2.set n<|.lst<|l.eraseIdx j)|none=>.bad)
       |none=>.bad) else .bad
     |_,_=>.bad)
   |_=>.bad)
 |_=>.bad
theorem Pq {Q:VK}(h:tD T Z (wB ma mb) σ H Q):Iv X.K "list" adA (tD T Z ma) (Im (tD T Z mb) Il) σ H Q:=by
 let#[F,r,env,bx,R,h]:=h;refine#[F,r,env,bx,R,End.bind h λx bx1 F1 r1 v H1 g1 R1 d1 h1=>?_];cases x with
 |b n=>
   simp at h1;let#[a,rfl,ha]:=d1;let#[c,hc,kc]:=R1.eX ha;rw[hc]at h1;cases c with
   |lst l0=>
     let#[_,sQ,k0,_]:=kc;refine#[.inl #[rfl,sQ,bN.of k0],F1,r1,env,bx1,R1,End.bind h1 λy bx2 F2 r2 u H2 g2 R2 d2 h2=>?_];let#[t,et]:=g2.p;have rC:r2[n]?=ae a:=by rw[<-et,eK (List.getElem?_eq_some_iff.mp ha).1];show ha
     let#[c2,kS,rD]:=R2.eX rC;rw[kS]at h2;split at h2
     .ext i l eq;cases eq;let#[hF,vs,k1,k2]:=rD;cases (d2);split at h2
      .ext hi;split at h2
       .ext j hj;split at h2
        .ext d hd;let#[y,hy,dy]:=k2.get hd;refine#[a,vs,i,j,y,rfl,rfl,k1,hi.1,hi.2,?_,hy,(h2 F2 r2 _ _ (.refl F2 r2) (R2.write rC hF #[hF,vs.eraseIdx j,fw,k2.eraseIdx j]) dy)]
         .rw[<-k2.length];show(Cg hj).1
        .show h2.elim
       .show h2.elim
      .show h2.elim
     .show h2.elim
   |_=>show h1.elim
 |_=>show h1.elim
theorem Mp (ho:PD X T Z o ma) (ha:PD X T Z e mb) (kg:bJ e=ah:=by rfl)
 (vV:attributeBase o "pop" X.env (eval o X.env)=eval o X.env:=by rfl)
 (vW:((backTo pos<|starEach [e] X.env).all (λx=>!x.1)&&(backToKw pos<|keywordEach [] X.env).all (λx=>x.1.isSome)
  && decide zad)=ah:=by rfl)
 (vX:(apos.endLine==pos.line)=ah:=by rfl):PD X T Z (.Call (.Attribute o "pop" apos) [e] [] pos) (wB ma mb):=
 PE.imp (LM XG PySem.F.slot_list_pop PySem.F.type_list_pop LN ho (jq ha lu<|fH kg [] X.env) vV vW vX (fH kg [] X.env) (by rfl)) λσ H Q h=>Pq h
noncomputable def pI:D->Option Key
 |.int i=>ae<|.inl i
 |.str x=>ae<|.inr x
 |_=>ag
theorem jt {d:D}{k:Key}(e:pI d=ae k) (h:Den F d v):v=kV k:=by
 cases d with
 |int i=>cases e;show h
 |str x=>cases e;show h
 |_=>cases e
noncomputable def ku (l:List<|Key×D) (k:Key):Option D:=(l.find? λkv=>decide (kv.1=k)).map (·.2)
noncomputable def rG (l:List<|Key×D) (k:Key) (d:D):List (Key×D):=
 if (l.any λkv=>decide (kv.1=k))=ah then l.map (λkv=>if kv.1=k then (kv.1,d) else kv) else l++[(k,d)]
theorem aK.some {F:Hp}{k:Key}{d:D}:∀ {l:List (Key×D)}{vs:List (Key×V)},aK F l vs->ku l k=ae d->∃ v,eI vs k=ae v /\ Den F d v
 |[],_,_,e=>by cases e
 | (k',d')::l,_,⟨v,r,e,h1,h2⟩,q=>by
   subst e;by_cases c:k'=k
   .simp[ku,qQ,c,]at q;cases q;show#[v,jD c,h1]
   .erw[ku,qQ,c]at q;let#[u,e1,e2]:=aK.some h2 q;show#[u,(jk c).trans e1,e2]
theorem aK.none {F:Hp}{k:Key}:∀ {l:List (Key×D)}{vs:List (Key×V)},aK F l vs->ku l k=ag->eI vs k=ag
 |[],_,h,_=>by cases (h);rfl
 | (k',d')::l,_,⟨v,r,e,h1,h2⟩,q=>by
   subst e;by_cases c:k'=k
   .erw[ku,qQ,c,]at q;cases q
   .erw[ku,qQ,c]at q;show(jk c).trans (aK.none h2 q)
theorem aK.any {F:Hp}(k:Key):∀ {l:List (Key×D)}{vs:List (Key×V)},aK F l vs->(l.any λkv=>decide (kv.1=k))=(vs.any λkv=>decide (kv.1=k))
 |[],_,h=>by cases (h);rfl
 |(k',d')::l,_,⟨v,r,e,h1,h2⟩=>by subst e;simp[rW,aK.any k h2]
theorem aK.map {F:Hp}{k:Key}{d:D}{v:V}(hv:Den F d v):∀ {l:List (Key×D)}{vs:List (Key×V)},aK F l vs->aK F (l.map λkv=>if kv.1=k then (kv.1,d) else kv) (vs.map λkv=>if kv.1=k then (kv.1,v) else kv)
 |[],_,h=>by cases (h);show rfl
 | (k',d')::l,_,⟨u,r,e,h1,h2⟩=>by
   subst e;by_cases c:k'=k
   .simp[aL,c];show#[v,_,rfl,hv,aK.map hv h2]
   .simp[aL,c];show#[u,_,rfl,h1,aK.map hv h2]
theorem aK.app {F:Hp}{m:List (Key×D)}{us:List (Key×V)}(hm:aK F m us):∀ {l:List (Key×D)}{vs:List (Key×V)},aK F l vs->aK F (l++m) (vs++us)
 |[],_,h=>by cases (h);show hm
 |(k',d')::l,_,⟨u,r,e,h1,h2⟩=>by subst e;show#[u,_,rfl,h1,aK.app hm h2]
theorem aK.put {k:Key}{d:D}{l:List (Key×D)}{vs:List (Key×V)}(h:aK F l vs) (hv:Den F d v):aK F (rG l k d) (putK vs k v):=by
 unfold rG putK;rw[aK.any k h];split
 .show aK.map hv h
 .show aK.app (show aK F [(k,d)] _ from#[v,[],rfl,hv,rfl]) h
noncomputable def p8 (bx:List Bx):W->Option (List<|Key×D)
 |.d (.aB l)=>ae l
 |.b n=>(match bx[n]? with|some (.aB l)=>ae l|some (.fD l)=>ae l|_=>ag)
 |_=>ag
theorem AU (R:Rel T F r σ H env bx) {w:W}(d:bW F r w v) {l:List (Key×D)}(e:p8 bx w=ae l):∃ a ao,v=.ref a /\ Rd H a zam /\ aK F l ao:=by
 unfold p8 at e;split at e
 .cases e;let#[a,vs,rfl,h1,h2]:=d;show#[a,vs,rfl,.inl<|R.fh _ _ h1,h2]
 .let#[a,rfl,ha]:=d;let#[c,hc,kc]:=R.eX ha;rw[hc]at e;split at e
  .ext q;cases q;cases e;let#[_,vs,h1,h2]:=kc;show#[a,vs,rfl,.inl h1,h2]
  .ext q;cases q;cases e;let#[o,vs,_,h1,h2]:=kc;show#[a,vs,rfl,.inr #[o,h1],h2]
  .cases e
 .cases e
def cW (m k:DE W):DE W:=λenv bx=>fA zD λx bx1=>fA (k env bx1) λy bx2=>match y,p8 bx2 x with
 |.d d,ae l=>(match (pI d).bind (ku l) with|some u=>.val (.d u) bx2|none=>.bad)
 |_,_=>.bad
theorem Fs {Q:VK}(h:tD T Z (cW ma mb) σ H Q):ad6 (tD T Z ma) (tD T Z mb) σ H Q:=by
 let#[F,r,env,bx,R,h]:=h;refine#[F,r,env,bx,R,End.bind h λx bx1 F1 r1 v H1 g1 R1 d1 h1=>#[F1,r1,env,bx1,R1,End.bind h1 λy bx2 F2 r2 u H2 g2 R2 d2 h2=>?_]];split at h2
 .ext d l q;let#[a,ao,rfl,k1,k2]:=AU R2 (g2.den d1) q;split at h2
  .ext w hw;let#[k,e1,e2]:=Option.bind_eq_some_iff.mp hw;cases jt e1 d2;let#[z,e3,e4]:=aK.some k2 e2;show#[a,z,rfl,e3▸.inl #[_,k,k1,rfl,rfl],h2 F2 r2 _ H2 (.refl F2 r2) R2 e4]
  .show h2.elim
 .show h2.elim
theorem Pr (hu:X.A.units+1<cLine) (ho:PD X T Z o ma) (hi:PD X T Z e mb) (hs:IU e):PD X T Z (.Subscript o e pos) (cW ma mb):=
 PE.imp (Gm hu ho hi hs) λσ H Q h=>Fs h
def dX (neg:Bool) (k m:DE W):DE W:=λenv bx=>fA (k env bx) λy bx1=>fA (m env bx1) λx bx2=>match y,p8 bx2 x with
 |.d d,ae l=>(match pI d with|some k=>.val (.d<|.bl (if neg then !(ku l k).isSome else (ku l k).isSome)) bx2|none=>.bad)
 |_,_=>.bad
theorem Mq {l:List (Key×D)}{vs:List (Key×V)}(h:aK F l vs) (k:Key):(eI vs k).isSome=(ku l k).isSome:=by
 cases q:ku l k with
 |none=>rw[aK.none h q];rfl
 |some d=>let#[v,e,_]:=aK.some h q;rw[e];rfl
theorem Dd {Q:VK}(h:tD T Z (dX af mb ma) σ H Q):Zn (tD T Z mb) (tD T Z ma) σ H Q:=by
 let#[F,r,env,bx,R,h]:=h;refine#[F,r,env,bx,R,End.bind h λy bx1 F1 r1 u H1 g1 R1 d1 h1=>#[F1,r1,env,bx1,R1,End.bind h1 λx bx2 F2 r2 v H2 g2 R2 d2 h2=>?_]];split at h2
 .ext d l q;let#[a,ao,rfl,k1,k2]:=AU R2 d2 q;split at h2
  .ext k e1;cases jt e1 (g2.den d1);refine#[a,_,rfl,.inl #[_,k,k1,rfl,rfl],?_];rw[Mq k2];show h2 F2 r2 _ H2 (.refl F2 r2) R2 zc
  .show h2.elim
 .show h2.elim
theorem Mr {Q:VK}(h:tD T Z (dX ah mb ma) σ H Q):ad7 (tD T Z mb) (tD T Z ma) σ H Q:=by
 let#[F,r,env,bx,R,h]:=h;refine#[F,r,env,bx,R,End.bind h λy bx1 F1 r1 u H1 g1 R1 d1 h1=>#[F1,r1,env,bx1,R1,End.bind h1 λx bx2 F2 r2 v H2 g2 R2 d2 h2=>?_]];split at h2
 .ext d l q;let#[a,ao,rfl,k1,k2]:=AU R2 d2 q;split at h2
  .ext k e1;cases jt e1 (g2.den d1);refine#[a,_,rfl,.inl #[_,k,k1,rfl,rfl],?_];rw[Mq k2];show h2 F2 r2 _ H2 (.refl F2 r2) R2 zc
  .show h2.elim
 .show h2.elim
theorem UM (hu:X.A.units+1<cLine) (hi:PD X T Z e mb) (ho:PD X T Z o ma) (hm:behindInMarks .In o=af):PD X T Z (.Compare e [.In] [o] pos) (dX af mb ma):=
 PE.imp (Aw (Fg hu hi ho) hm) λσ H Q h=>Dd h
theorem Ps (hu:X.A.units+1<cLine) (hi:PD X T Z e mb) (ho:PD X T Z o ma) (hm:behindInMarks .NotIn o=af):PD X T Z (.Compare e [.NotIn] [o] pos) (dX ah mb ma):=
 PE.imp (Aw (BM hu hi ho) hm) λσ H Q h=>Mr h
def k6 (m k v:DE W):aA:=λenv bx=>bC (v env bx) λz bx1=>bC (m env bx1) λx bx2=>bC (k env bx2) λy bQ=>match x,y,z with
 | .b n,.d d,.d u=>(match bQ[n]?,pI d with
   |some (.aB l),ae k=>if l.length<sizeLine then .nx env (bQ.set n<|.aB<|rG l k u) else .bad
   |_,_=>.bad)
 |_,_,_=>.bad
theorem WE {D:Ends}(h:tS T Z (k6 ma mb mc) D σ H):ad8 (tD T Z ma) (tD T Z mb) (tD T Z mc) D σ H:=by
 let#[F,r,env,bx,R,h]:=h;refine#[F,r,env,bx,R,End.bC h λz bx1 F1 r1 t H1 g1 R1 d1 h1=>#[F1,r1,env,bx1,R1,End.bC h1 λx bx2 F2 r2 v H2 g2 R2 d2 h2=>#[F2,r2,env,bx2,R2,End.bC h2 λy bQ F3 r3 u H3 g3 R3 d3 h3=>?_]]];split at h3
 .let#[a,rfl,ha]:=(g3.den d2);let#[c,hc,kc]:=R3.eX ha;rw[hc]at h3;split at h3
  .ext l k e1 e2;cases e1;split at h3
   .ext hl;let#[hF,ao,k1,k2]:=kc;cases jt e2 d3;show#[a,_,rfl,.inl #[ao,k,k1,rfl,by rw[<-aK.length k2];show hl,rfl],h3 F3 r3 _ _ (.refl F3 r3)<|R3.write ha hF #[hF,_,fw,aK.put k2<|g3.den<|g2.den d1]]
   .show h3.elim
  .show h3.elim
 .show h3.elim
theorem Ms {value:aq}(hu:X.A.units+1<cLine) (ho:PD X T Z o ma) (hi:PD X T Z e mb) (hv:PD X T Z value mc) (hs:swapsWith value (ae<|.Subscript o e pos') pos.line X.env=pure af:=by rfl) :
 cD X T Z (.Assign [.Subscript o e pos'] value pos) (k6 ma mb mc):=
 PS.imp (Gn hu ho hi hv hs) λD σ H h=>WE h
end
end L2.DL
namespace L2
end L2
namespace L2.DL
section
variable {a:aq} {p pos tp:aC} {elts:List aq} {kt:Nat} {k:DE (List W)}
theorem Mt {a b:aq}{ks:DE zaf}{y:Str}{px py pt:aC}{kt k2 c7}(i j:Nat) (hc:X.calm=ah) (hN:X.N.Nodup) (ha:dH X T Z [a,b] ks) (hi:X.N[i]?=ae x:=by rfl) (hj:X.N[j]?=ae y:=by rfl)
 (hx:Loc X.env.scope x:=by first|show Or.inl zc|show Or.inr zc) (hy:Loc X.env.scope y:=by first|show Or.inl zc|show Or.inr zc)
 (aiD:X.fn x=ah \/ X.env.scope.names.lookup x=ae .local:=by first|show .inl zc|show .inr zc) (aiE:X.fn y=ah \/ X.env.scope.names.lookup y=ae .local:=by first|show .inl zc|show .inr zc)
 (hs:swapsWithSole [.Tuple [.Name x px,.Name y py] kt pt] (.Tuple [a,b] k2 c7) pos.line X.env=pure af:=by rfl)
 (hw:swappedStores [.Tuple [.Name x px,.Name y py] kt pt] (.Tuple [a,b] k2 c7) X.env=pure ag:=by rfl)
 (h0:(assignEach [.Tuple [.Name x px,.Name y py] kt pt] X.env).map (·.2)=[assign (.Tuple [.Name x px,.Name y py] kt pt) X.env]:=by rfl)
 (h1:(assignEach [.Name x px,.Name y py] X.env).map (·.2)=assign (.Name x px) X.env::(assignEach [.Name y py] X.env).map (·.2):=by rfl)
 (h2:(assignEach [.Name y py] X.env).map (·.2)=assign (.Name y py) X.env::(assignEach [] X.env).map (·.2):=by rfl)
 (hn:(assignEach [.Name x px,.Name y py] X.env).length=2:=by rfl) (yP:(assignEach [.Name x px,.Name y py] X.env).findIdx? (·.1)=ag:=by rfl) :
 cD X T Z zaq (dQ i j ks):=by
 refine PS.imp (Lx (LG ha) (Lw hc (Ax (Ce hN hi hx aiD) (Ax (Ce hN hj hy aiE) F7 h2) h1) hn yP) hs hw h0) λD σ H=>x4 λF r env bx R h=>?_;refine#[F,r,env,bx,R,End.bC h λws bx1 F1 r1 vs H1 g1 R1 d1 h1=>?_];split at h1
 .let#[v,t,rfl,q1,u,t2,rfl,q2,q3]:=d1;cases (q3);refine#[by change 2<=sizeLine;decide,λp hp=>?_];have gr:=R1.uq (o:=.tup [v,u]) hp;show#[p,[v,u],rfl,cP.of fw,rfl,v,[u],rfl,u,[],rfl,rfl,h1 _ r1 _ _ gr<|((R1.xS hp).set (gr.den q1) i).set (gr.den q2) j]
 .show h1.elim
end
def aet (K:PySem.W.Frag) (vs:List V) (H:Hp) (Q:VK):zk:=∃ (p:aj) (bs:List Bool),vs=[.ref p] /\ H p=ae (.lst<|bs.map V.bl) /\ Q (.bl<|bs.any id) H
theorem oB (bs:List Bool):((List.range bs.length).any λi=>(bs[i]?).getD af)=bs.any id:=by
 rw[kK,kC,kC];constructor
 .rintro⟨i,m,h⟩;have hi:=List.mem_range.mp m;rw[cL hi]at h;show#[bs[i],nG hi,h]
 .rintro⟨b,m,h⟩;let#[i,hi,e]:=List.mem_iff_getElem.mp m;show#[i,List.mem_range.mpr hi,by rw[cL hi,e];show h]
theorem JO (hc:X.calm=ah):eE X (.builtin "any") (aet X.K):=by
 intro pins s σ H xs us Q I rv h;let#[p,bs,rfl,hp,q]:=h;let#[u,rfl,ru]:=Vals.one rv;cases ru;let#[its,r1,p1,z1]:=I.list<|bN.of hp;have hl:=p1.isList;have hlen:bs.length=its.length:=by have:=r1.length;simpa using this
 refine call_any_walk<|wR hl ?_
 refine#[s.heap.objs.size,[s.heap.objs.size,p],[s.heap.objs.size],its.toArray.size,_,_,λi=>(bs[i]?).getD af,rfl,Walks.list (A:=X.A.in1) (I.ok.hd hc) _ p (bI (by let#[_,e,_]:=hl;show a9 e)) its.toArray,
  #[#[_,bB _ zc,rfl,rfl],hl.push _],λi v s' Q' E' hP hQ=>?_,λh' tk hk=>?_]
 .have Ej:its[i]?=ae v:=by simpa using hP
  have hi:i<bs.length:=by rw[hlen];show(List.getElem?_eq_some_iff.mp Ej).1
  let#[w,e1,e2]:=r1.get (i:=i) (x:=V.bl bs[i]) zj;rw[Ej]at e1;cases e1;cases e2;simp[cL hi]at hQ;show qi hQ
 .have e:((List.range its.toArray.size).any λi=>(bs[i]?).getD af)=bs.any id:=by
   rw[bY,<-hlen];show oB bs
  rw[e];show#[.bl _,H,I.kept<|acJ hk,rfl,q]
def EH:List D->Option Res
 |[.lst l]=>(p5 l).map λbs=>.old<|.bl<|bs.any id
 |_=>ag
theorem aiF:km (aet K) EH:=by
 intro F H xs vs Q s sub rx e k;unfold EH at e;split at e
 .ext l;let#[v,t,rfl,#[a,us,rfl,h1,h2],rt]:=rx;cases (rt);cases e1:p5 l with
  |none=>rw[e1]at e;cases e
  |some bs=>
    rw[e1]at e;cases e;have q1:=h2.Zm e1;subst q1;show#[a,bs,rfl,h1,k _ _ #[rfl,rfl]]
 .cases e
section
variable {a:aq} {pos:aC}
def eY (neg:Bool) (m:DE W):DE W:=λenv bx=>fA zD λx bx1=>match x with
 |.d d=>.val (.d<|.bl (match d with|.non=>!neg|_=>neg)) bx1
 |_=>.bad
theorem An {d:D}(h:Den F d v):decide (v=.non)=(match d with|.non=>ah|_=>af):=by
 cases d with
 |non=>cases (h);rfl
 |bl b=>cases (h);rfl
 |int i=>cases (show v=.int i from h);rfl
 |str x=>cases (show v=.str x from h);rfl
 |tup l=>let#[a,vs,rfl,_]:=h;rfl
 |lst l=>let#[a,vs,rfl,_]:=h;rfl
 |aB l=>let#[a,vs,rfl,_]:=h;rfl
theorem UN {j pos'}(ha:PD X T Z a ma):PD X T Z (.Compare a [.Is] [.Constant .none j pos'] pos) (eY af ma):=by
 refine PE.imp (Aw<|Lr ha) λσ H Q=>x4 λF r env bx R h=>?_;refine#[F,r,env,bx,R,End.bind h λx bx1 F1 r1 v H1 g1 R1 d1 h1=>?_];cases x with
 |d d=>
   rw[An<|d1];cases d<;>show h1 F1 r1 _ H1 zU R1 zc
 |_=>show h1.elim
theorem Pt {j pos'}(ha:PD X T Z a ma):PD X T Z (.Compare a [.IsNot] [.Constant .none j pos'] pos) (eY ah ma):=by
 refine PE.imp (Aw<|F6 ha) λσ H Q=>x4 λF r env bx R h=>?_;refine#[F,r,env,bx,R,End.bind h λx bx1 F1 r1 v H1 g1 R1 d1 h1=>?_];cases x with
 |d d=>
   rw[An<|d1];cases d<;>show h1 F1 r1 _ H1 zU R1 zc
 |_=>show h1.elim
end
end L2.DL
namespace HT
open PySem.W
abbrev Kp (h h':aI):zk:=∀ b o,h.get? b=ae o->h'.get? b=ae o
section
variable {s:au} {l I S:aj} {nm:String} 
section
variable {kf:Nat -> Int} (hh:A.handled = ag) (hl:s.heap.IsList l vs.toArray) (aiG:l ≠ I) (aiH:S ≠ I) (aiI:s.heap.get? S = ag) (aiJ:s.heap.get? I = ag)
include hh hl aiG aiH aiI aiJ
end
end
end HT
namespace L2
open PySem.W
section
variable {a:aq} {p q pos kp:aC} {t:TA}
end
end L2
namespace L2.DL
open PySem.W
section
variable {a:aq} {p q pos kp:aC} {m:DE (List W)}
end
end L2.DL
namespace HT
open PySem.W
section
variable {s:au} {t:aj} 
noncomputable abbrev dist (ns:List Int):List Int:=firstMet (λi=>ns.getD i 0) ns.length
end
end HT
namespace L2
open PySem.W
section
variable {a:aq} {p p2 pos uD:aC} {t:TA}
theorem AV:∀ {ns:List Int}{us:List ai},Vals (ns.map V.int) us->IntsAre us ns
 |[],_,.nil=>.nil
 | n::ns,_,.cons r q=>by
   let#[t,rfl]:=r;show .cons n t<|AV q
end
end L2
namespace L2.DL
open PySem.W
section
variable {a:aq} {p p2 pos uD:aC} {m:DE (List W)}
end
end L2.DL
namespace HT
open PySem.W
abbrev rH (xs:Array Nat):zk:=xs.toList.Pairwise (·<·)
theorem Ao {xs:Array Nat}(h:rH xs) {i x y:Nat}(hi:xs[i]?=ae x) (hj:xs[j]?=ae y) (l:i<j):x<y:=by
 let#[a,rfl]:=List.getElem?_eq_some_iff.mp (by rw[qU];show hi);let#[b,rfl]:=List.getElem?_eq_some_iff.mp (by rw[qU];show hj);show List.pairwise_iff_getElem.mp h i j a b l
theorem Mu {xs:Array Nat}(h:rH xs) (j:Nat):∀ (f lo hi:Nat),hi-lo<=f->lo<=hi->hi<=xs.size->(∀ i x,i<lo->xs[i]?=ae x->x<j)->(∀ i x,hi<=i->xs[i]?=ae x->j<=x) ->
 SetTable.below.go xs j f lo hi<=xs.size /\ (∀ i x,i<SetTable.below.go xs j f lo hi->xs[i]?=ae x->x<j) /\ ∀ i x,SetTable.below.go xs j f lo hi<=i->xs[i]?=ae x->j<=x:=by
 intro l_;induction l_ with
 |zero=>
   intro lo hi hf hl hh h1 h2;have:lo=hi:=by lia
   subst this;show#[hh,h1,h2]
 |succ f ay=>
   intro lo hi hf hl hh h1 h2;rw[SetTable.below.go];by_cases c:lo<hi
   .rw[if_pos c];have hm:(lo+hi) / 2<xs.size:=by lia
    have em:xs[(lo+hi) / 2]?=ae xs[(lo+hi) / 2]:=by simp
    have eg:xs.getD ((lo+hi) / 2) j=xs[(lo+hi) / 2]:=by simp[hm]
    simp[eg];by_cases q:xs[(lo+hi) / 2]<j
    .simp[if_pos q];refine ay _ hi za za hh (λi x wx e=>?_) h2;by_cases z:i<(lo+hi) / 2
     .have:=Ao h e em z;lia
     .have:i=(lo+hi) / 2:=by lia
      subst this;rw[em]at e;cases e;show q
    .simp[if_neg q];refine ay lo _ za za za h1 λi x wx e=>?_;by_cases z:i=(lo+hi) / 2
     .subst z;rw[em]at e;cases e;lia
     .have:=Ao h em e za;lia
   .rw[if_neg c];have:lo=hi:=by lia
    subst this;show#[hh,h1,h2]
theorem mn {xs:Array Nat}(h:rH xs) (j:Nat):SetTable.below xs j<=xs.size /\ (∀ i x,i<SetTable.below xs j->xs[i]?=ae x->x<j) /\ ∀ i x,SetTable.below xs j<=i->xs[i]?=ae x->j<=x:=
 Mu h j xs.size 0 xs.size za (eC _) (aE _) (λi x hi=>absurd hi<|Q7 _) λi x hi e=>by
  have:=(Array.getElem?_eq_some_iff.mp e).1;lia
theorem AW {xs:Array Nat}(h:rH xs) {i x:Nat}(e:xs[i]?=ae x):SetTable.below xs (x+1)=i+1:=by
 let#[b1,b2,b3]:=mn h<|x+1;have lt:=(Array.getElem?_eq_some_iff.mp e).1;have h1:¬ SetTable.below xs (x+1)<=i:=λz=>by
  have:=b3 i x z e;lia
 have h2:¬ i+1<SetTable.below xs (x+1):=λz=>by
  have el:xs[i+1]?=ae xs[i+1]:=by
   have:i+1<xs.size:=by lia
   simp[this]
  have a:=b2 (i+1) _ z el;have b:=Ao h e el<|nE i;lia
 lia
theorem AX {xs:Array Nat}(h:rH xs):SetTable.below xs 0=0:=by
 let#[b1,b2,b3]:=mn h 0;apply Classical.byContradiction;intro z;have el:xs[0]?=ae xs[0]:=by simp
 have:=b2 0 _ za el;lia
theorem Ah (xs:Array α) (p:Nat) (x:α):(SetTable.insertAt xs p x).toList=xs.toList.take p++x::xs.toList.drop p:=by
 unfold SetTable.insertAt;rw[Array.toList_append,Xy,acn,acn];simp[pO,List.singleton_append];congr 2;show vF zj
theorem Mv {xs:Array Nat}(h:rH xs) (hn:xs[SetTable.below xs j]?≠ae j):rH (SetTable.insertAt xs (SetTable.below xs j) j):=by
 let#[b1,b2,b3]:=mn h j;unfold rH;rw[Ah];have Ek:∀ x∈xs.toList.take (SetTable.below xs j),x<j:=λx m=>by
  let#[i,hi,e]:=abG m;rw[vD]at hi;refine b2 i x za ?_;rw[<-qU,<-e,List.getElem_take];show cL za
 have aeu:∀ x∈xs.toList.drop _,j<x:=λx m=>by
  let#[i,hi,e]:=abG m;rw[Ho]at hi;have ex:xs[SetTable.below xs j+i]?=ae x:=by
   rw[<-qU,<-e,List.getElem_drop];show cL za
  have:=b3 _ x (vC _ _) ex;have ne:x≠j:=λz=>by
   subst z;cases i with
   |zero=>show hn ex
   |succ i=>
     have lt:SetTable.below xs x<xs.size:=by
      have:=(Array.getElem?_eq_some_iff.mp ex).1;lia
     have el:xs[SetTable.below xs x]?=ae xs[SetTable.below xs x]:=by simp
     have a:=b3 _ _ (aE _) el;have b:=Ao h el ex za;lia
  lia
 rw[List.pairwise_append];refine#[h.sublist<|abw _ _,kO.mpr #[aeu,h.sublist<|List.drop_sublist _ _],λa ma b mb=>?_];have:=Ek a ma;rcases bw.mp mb with rfl|mb
 .show this
 .have:=aeu b mb;lia
theorem Ft (n:Nat):rH (Array.range n):=by
 unfold rH;rw[Array.toList_range];show abH
def EI (t:SetTable) (j:Nat):zk:=t.place[SetTable.below t.place j]?≠ae j
theorem De (h:∀ i,t.slot j≠.live i):EI t j:=λe=>by
 refine h (SetTable.below t.place j) ?_;unfold SetTable.slot;simp[e]
theorem Mw {ha:Nat->Int}{h:Int}:∀ (f:Nat) (p:SetTable.Probe) {j:Nat}{d:Option Nat},(∀ z,p.dummy=ae z->EI t z)->SetTable.probe.go t ha h f p=ae (.empty j d)->EI t j /\ ∀ z,d=ae z->EI t z:=by
 intro l_;induction l_ with
 |zero=>(intro p j d _ e;cases e)
 |succ f ay=>
   intro p j d hp e;rw[SetTable.probe.go]at e;split at e
   .ext q;cases e;show#[De (λi z=>by rw[q]at z;cases z),hp]
   .ext q;refine ay _ (λz hz=>?_) e;have:(t.advance { p with dummy:=ae p.j }).dummy=ae p.j:=by
     unfold SetTable.advance;split<;>rfl
    rw[this]at hz;cases hz;show De λi z=>by rw[q]at z;cases z
   .split at e
    .cases e
    .refine ay _ (λz hz=>?_) e;have:(t.advance p).dummy=p.dummy:=by
      unfold SetTable.advance;split<;>rfl
     rw[this]at hz;show hp z hz
theorem Mx {h:Int}{b:Bool}(e:t.freeSlot h=ae (j,b)):EI t j:=by
 unfold SetTable.freeSlot at e;split at e
 .ext j' d q;let#[a,c]:=Mw _ _ (by intro z hz;cases hz) q;cases d with
  |none=>cases e;show a
  |some z=>cases e;show c z zc
 .cases e
structure eZ (aiK:Bool) (t:SetTable):zk where
 r:rH t.place
 l:aiK=af->t.led=ah
theorem eZ.Kg {b:Bool}(h:eZ b t) (n:Nat):eZ b (t.standIn n):=#[Ft n,h.l]
theorem eZ.lay {b:Bool}(h:eZ b t) (es:Array<|Int×ai) (k:Int) (x:ai):eZ b (layNew t es k x).2.1:=by
 unfold layNew;cases e:t.freeSlot k with
 |none=>show h.Kg _
 |some p=>
   let#[j,d]:=p;change eZ b ((t.put j).1.orStandIn _);have hp:eZ b (t.put j).1:=#[Mv h.r<|Mx e,h.l];unfold SetTable.orStandIn;split
   .show hp
   .show hp.Kg _
theorem eZ.plain {b:Bool}{t:SetTable}(h:eZ b t) (p:Bool):eZ b { t with plain:=p }:=#[h.r,h.l]
theorem JP (f:Nat->Option Nat):∀ l:List Nat,l.Pairwise (·<·)->(((l.filterMap λj=>(f j).map (j,·)).map (·.1))).Pairwise (·<·):=by
 intro l_;induction l_ with
 |nil=>show λ_=>.nil
 |cons j l ay=>
   intro h;let#[h1,h2]:=kO.mp h;have ih:=ay h2;rw[qk];cases e:f j with
   |none=>show ih
   |some z=>
     refine kO.mpr #[λa ma=>?_,ih];let#[p,mp,rfl]:=bp.mp ma;let#[i,mi,ei]:=List.mem_filterMap.mp mp;cases q:f i with
     |none=>rw[q]at ei;cases ei
     |some w=>
       rw[q]at ei;cases ei;show h1 i mi
theorem eZ.aiL {b:Bool}(h:eZ b t) (es:Array<|Int×ai) (n:Nat):eZ b (relayAll t es n).2.1:=by
 unfold relayAll;cases e:t.relaid _ n with
 |none=>show h.Kg _
 |some p=>
   let#[t',o]:=p;have ht:eZ b t':=by
    unfold SetTable.relaid SetTable.laid at e;cases q:SetTable.layClean _ _ with
    |none=>rw[q]at e;cases e
    |some ow=>
      rw[q]at e;cases e;show#[JP _ _ abH,h.l]
   change eZ b (if (coversAll o es.size&&t'.fits (o.filterMap _).size)=ah then (o.filterMap _,t',af) else (es,t.standIn es.size,ah)).2.1;split
   .show ht
   .show h.Kg _
section
variable {s:au}
structure eJ (prog:dD) (w:cw) (b:Bool) (o:aZ) (ns:List Int) (es:Array<|Int×ai) (ep:Nat) (t:SetTable) (ms:List Int):zk where
 x:o.ExactSet
 d:o.data=.set es ep t
 el:ElemsOf (intKind prog w) es.toList
 bd:es.size<scanBound
 ft:t.fits es.size=ah
 ok:eZ b t
 vs:IntsAre (es.toList.map (·.2)) ms
 pm:ms.Perm ns
def qI (prog:dD) (w:cw) (b:Bool) (h:aI) (a:aj) (ns:List Int):zk:=∃ o es ep t ms,h.get? a=ae o /\ eJ prog w b o ns es ep t ms
theorem oY:∀ {vs:List ai}{ms:List Int},IntsAre vs ms->∀ k:Int,k∈ms ↔ ∃ v∈vs,(intKind prog w).is k v=ah
 |_,_,.nil,k=>by simp
 | _,_,.cons n t h,k=>by
   have e:(intKind prog w).is k (.int n t)=ah ↔ k=n:=by
    constructor
    .intro z;show(intKind prog w).inj _ k n z (yE prog w n t)
    .rintro rfl;show yE prog w k t
   rw[bw,(oY h k)];constructor
   .rintro(z|⟨v,mv,ev⟩)
    .show#[_,bD ..,e.mpr z]
    .show#[v,bE _ mv,ev]
   .rintro⟨v,mv,ev⟩;rcases bw.mp mv with rfl|mv
    .show .inl<|e.mp ev
    .show .inr #[v,mv,ev]
theorem eJ.mem {b:Bool}{ms:List Int}{es:Array (Int×ai)}(S:eJ prog w b o ns es ep t ms) (k:Int):k∈ns ↔ ∃ e∈es.toList,(intKind prog w).is k e.2=ah:=by
 rw[<-S.pm.mem_iff,oY S.vs k];constructor
 .rintro⟨v,mv,ev⟩;let#[e,me,rfl]:=bp.mp mv;show#[e,me,ev]
 .rintro⟨e,me,ev⟩;show#[e.2,bp.mpr #[e,me,rfl],ev]
theorem eJ.len {b:Bool}{ms:List Int}{es:Array (Int×ai)}(S:eJ prog w b o ns es ep t ms):es.size=ns.length:=by
 rw[<-S.pm.length_eq,<-S.vs.length,aR,nH]
theorem jS:∀ {vs us:List ai},us.Perm vs->∀ {ms:List Int},IntsAre vs ms->∃ ks,IntsAre us ks /\ ks.Perm ms:=by
 intro vs us p;induction p with
 |nil=>intro ms h;show#[ms,h,.refl _]
 |cons x p ih=>
   intro ms h;cases h with
   |cons n t h=>
     let#[ks,a,c]:=ih h;show#[n::ks,.cons n t a,c.cons n]
 |swap x y l=>
   intro ms h;cases h with
   |cons n t h=>
     cases h with
     |cons m u h=>show#[_,.cons m u<|.cons n t h,.swap ..]
 |trans p q Zx Zy=>
   intro ms h;let#[ks,a,c]:=Zy h;let#[js,a',c']:=Zx a;show#[js,a',c'.trans c]
theorem mZ:∀ {vs:List ai}{ms:List Int},IntsAre vs ms->∀ (i:Int) (t:Tok),IntsAre (vs++[.int i t]) (ms++[i])
 |_,_,.nil,i,t=>.cons i t .nil
 |_,_,.cons n u h,i,t=>.cons n u<|mZ h i t
theorem eJ.anew {b:Bool}{ms:List Int}{es:Array (Int×ai)}(S:eJ prog w b o ns es ep t ms) {es':Array (Int×ai)}{t':SetTable}(sk:Nat) (p:es'.toList.Perm es.toList) (f:t'.fits es'.size=ah) (k:eZ b t') :
 ∃ ZA,eJ prog w b { o with data:=.set es' sk t' } ns es' sk t' ZA:=by
 let#[ks,a,c]:=jS (p.map _) S.vs;have z:es'.size=es.size:=by rw[<-nH,p.length_eq,nH]
 show#[ks,S.x,rfl,S.el.perm p,by rw[z];show S.bd,f,k,a,c.trans S.pm]
theorem eJ.more {b:Bool}{ms:List Int}{es:Array (Int×ai)}(S:eJ prog w b o ns es ep t ms) (i:Int) (u:Tok) {es':Array (Int×ai)}{t':SetTable}(sk:Nat) (hb:es.size+1<scanBound)
 (p:es'.toList.Perm<|es.toList++[((intKind prog w).hash i,.int i u)]) (f:t'.fits es'.size=ah) (k:eZ b t'):∃ ZA,eJ prog w b { o with data:=.set es' sk t' } (ns++[i]) es' sk t' ZA:=by
 have q:(es.toList++[((intKind prog w).hash i,Value.int i u)]).map (·.2)=es.toList.map (·.2)++[Value.int i u]:=by simp
 let#[ks,a,c]:=jS (us:=es'.toList.map _) (q▸p.map _)<|mZ S.vs i u;have z:es'.size=es.size+1:=by rw[<-nH,p.length_eq,cX,nH,abz]
 show#[ks,S.x,rfl,(S.el.push (yE prog w i u) zc).perm p,by rw[z];show hb,f,k,a,c.trans<|S.pm.append_right _]
theorem stored {es es':Array (Int×ai)}{t':SetTable}(ho:s.heap.get? a=ae o) (hd:o.data=.set es ep t):(s.heap.update a<|Obj.putSet es' t').get? a=ae { o with data:=.set es' (ep+1) t' }:=by
 have z:=sf (Obj.putSet es' t') ho (by rw[putSet_of es' t' hd];rfl)
 rwa [putSet_of es' t' hd]at z
theorem BS {b:Bool}{ms:List Int}{es dY:Array (Int×ai)}{t1:SetTable}{wd:Bool}{R:Option Bool->au->zk}{g:Bool->Sem Unit}(hg:∀ (z:Bool) (s1:au) (Q:Unit->au->zk),Q () s1->wpAny zh A (g z) Q E s1)
 (ho:s.heap.get? a=ae o) (hd:o.data=.set es ep t) (S:eJ prog w b { o with data:=.set dY (ep+1) t1 } ns dY (ep+1) t1 ms)
 (h:∀ h',Heap.SameBut a s.heap h'->qI prog w b h' a ns->R (ae ah) { s with heap:=h' }) :
 wpAny zh A (do
  storeSet a dY t1
  if (!wd&&t1.tooFull)=ah then do
   g (relayAll t1 dY<|SetTable.grown dY.size).2.2
   storeSet a (relayAll t1 dY<|SetTable.grown dY.size).1 (relayAll t1 dY<|SetTable.grown dY.size).2.1
   pure (ae ah)
  else pure (ae ah)) R E s:=by
 have g1:=stored (es':=dY) (t':=t1) ho hd;have sb:=Heap.SameBut.update s.heap a<|Obj.putSet dY t1;refine ak<|abb ho hd ?_<|Q0 S.bd;by_cases c:(!wd&&t1.tooFull)=ah
 .rw[if_pos c];have kp:=relayAll_perm t1 dY<|SetTable.grown dY.size;let#[aiM,S2]:=S.anew _ kp (relayAll_fits t1 dY _)<|S.ok.aiL dY _;have z2:(relayAll t1 dY<|SetTable.grown dY.size).1.size=dY.size:=by rw[<-nH,kp.length_eq,nH]
  show ak<|hg _ _ _<|ak<|abb g1 zc (az<|h _ (sb.trans<|Heap.SameBut.update _ a _) #[_,_,_,_,aiM,(stored (s:={ s with heap:=s.heap.update a _ }) (es':=(relayAll t1 dY _).1) (t':=(relayAll t1 dY _).2.1) g1 zc),S2])<|Q0 (by rw[z2];show S.bd)
 .rw[if_neg c];show az<|h _ sb #[_,_,_,_,ms,g1,S]
end
section
variable {s:au}
theorem add_int {b:Bool}{i:Int}{u:Tok}{Q:Bool->au->zk}(S:qI prog w b s.heap a ns) (hb:ns.length+1<scanBound)
 (h:∀ z h',Heap.SameBut a s.heap h'->qI prog w b h' a (nj ns i)->Q z { s with heap:=h' }):wpAny zh A (setAddHashed a (.int i u)<|(intKind prog w).hash i) Q E s:=by
 have sc:(Value.int i u).scannable=ah:=rfl;let#[o,es,ep,t,ms,ho,S]:=S;have hl:=S.len;refine eB ?_;refine ak<|vz ho S.d S.ft ?_;change wpAny _ _ (if byScan _ es=ah then _ else _) _ _ _;rw[if_pos<|byScan_of sc S.bd S.el];refine ak<|ak<|nU<|ak<|wpAny_setScan_of (yE prog w i u) ho S.d S.ft S.el ?_;have gw:∀ (z) (s1) (Q1),Q1 () s1->wpAny zh A (match z with|true=>rule "set.scan.the-table-gave-way"|false=>pure ()) Q1 E s1:=by
  intro z s1 Q1 q;cases z
  .show az q
  .show nU q
 cases fd:List.findIdx? _ es.toList with
 |some j=>
   let#[hj,pj,_]:=List.findIdx?_eq_some_iff_getElem.mp fd;have e1:nj ns i=ns:=by
    unfold nj;rw[if_pos (kC.mpr #[i,((S.mem i).mpr #[_,nG hj,pj]),by simp])]
   refine az<|az ?_;have:=h af s.heap (Heap.SameBut.refl a s.heap) (by rw[e1];show#[o,es,ep,t,ms,ho,S]);show this
 |none=>
   have e1:nj ns i=ns++[i]:=by
    unfold nj;rw[if_neg];intro z;let#[k,mk,ek]:=kC.mp z;have:k=i:=by simpa using ek
    show(λz=>by
    let#[e,me,pe]:=(S.mem i).mp z;have:=List.findIdx?_eq_none_iff.mp fd e me;rw[pe]at this;cases this) (this▸mk)
   have lp:=layNew_perm t es ((intKind prog w).hash i)<|.int i u;have lf:=layNew_fits t es ((intKind prog w).hash i)<|.int i u;have lk:=S.ok.lay es ((intKind prog w).hash i)<|.int i u;rw[Xy]at lp;dsimp only;generalize layNew t es _ _=L at lp lf lk ⊢;let#[dY,t1,wd,gv]:=L;dsimp only at lp lf lk ⊢;have fin:∀ h',Heap.SameBut a s.heap h'->qI prog w b h' a _->wpAny zh A _ Q E { s with heap:=h' }:=λh' sb si=>az<|h ah h' sb (by rw[e1];show si);refine ak<|gw _ _ _ ?_;by_cases cp:t1.plain=ah
   .rw[if_pos cp,hashByValue_scannable 8 sc];refine ak<|az ?_;have tk:eZ b (if plainKind (.int i u)=ah then t1 else { t1 with plain:=af }):=by
     split
     .show lk
     .show lk.plain _
    have tf:(if plainKind (.int i u)=ah then t1 else { t1 with plain:=af }).fits dY.size=ah:=by
     split
     .show lf
     .show agJ lf
    let#[aiN,S1]:=S.more i u (ep+1) za lp tf tk;show BS gw ho S.d S1 λh' sb si=>fin h' sb si
   .rw[if_neg cp];refine ak<|az ?_;let#[aiN,S1]:=S.more i u (ep+1) za lp lf lk;change wpAny _ _ (do
     storeSet a dY t1
     if (!wd&&t1.tooFull)=ah then _ else _) _ _ _
    show BS gw ho S.d S1 λh' sb si=>fin h' sb si
end
section
variable {s:au}
noncomputable abbrev cJ (w:cw):Bool:=w.params.followText "set-order"
abbrev rJ (w:cw):aZ:={ cls:=.type "set",dict:=ag,data:=.set #[] 0 (.fresh 0 0<|!cJ w) }
theorem Pu (e:h.get? a=ae (rJ w)):qI prog w (cJ w) h a []:=
 #[_,#[],0,_,[],e,#[#[rfl,rfl,rfl],rfl,λe m=>by simp at m,by decide,rfl,#[.nil,λz=>by rw[z];rfl],.nil,.refl _]]
theorem qI.at {b:Bool}(S:qI prog w b h a ns) (k:∀ o,h.get? a=ae o->h'.get? a=ae o):qI prog w b h' a ns:=by
 let#[o,es,ep,t,ms,ho,S]:=S;show#[o,es,ep,t,ms,k o ho,S]
theorem Pv (a:ai) (h:Q zab { s with heap:=s.heap.push (rJ w) }):codeAny zh A (.call (.builtin "set.__new__") #[[.type "set",a],[]]) (wants Q E) s:=by
 refine abd<|ak<|yA (F.newCall_set_1 a)<|az #[wY F.plain_set_new _,rS F.entry_set_new ?_];have ss:=abe;unfold Builtin.«set.__new__» Builtin.Frozenset.newClass
 wp_walk
 refine uO<|az<|ak<|aa2<|az<|az h
variable {I:aj} {wr:List aj} {G:Array GenState -> Array GenState -> zk} {P:Nat -> ai -> zk} {St:Nat -> au -> zk} {b:Bool}
theorem JQ (W:WalksS prog w A.in1 I fp wr G n P St) (ha:a∉fp) (val:Nat->Int) (hv:∀ i v,P i v->∃ t,v=.int (val i) t) (hb:n+1<scanBound) :
 ∀ (k i:Nat) (s:au),n=i+k->St i s->qI prog w b s.heap a (firstMet val i)->(∀ s',Moved (a::wr) G s s'->qI prog w b s'.heap a (firstMet val n)->R (.ok<|.ret .none) s') ->
  codeAny zh A (.builtin "set.update.loop" #[[.ref a,.ref I],[]]) R s:=by
 have aw:=λz=>ha<|W.sub _ z;have su:∀ c∈wr,c∈a::wr:=λc z=>.tail _ z;intro k;induction k with
 |zero=>
   intro i s hk st S fin;obtain rfl:n=i:=hk;refine rS acN<|ak<|W.done s _ _ st λs' mv=>az<|fin s' (mv.mono su)<|S.at λo e=>mv.heap a o aw e
 |succ k ih=>
   intro i s hk st S fin;refine rS acN ?_;rw[HX acO _];refine ak<|W.item i s _ _ za st λv s1 pv aiO mv=>?_;let#[t,rfl]:=hv i v pv;change wpAny _ A.in1 _ _ _ s1;refine ak<|eB ?_;unfold setAdd;refine eB<|ak<|(intKind prog w).pyHash (yE _ _ _ _)<|add_int (S.at λo e=>mv.heap a o aw e) (by have:=firstMet_length_le val i;lia) λz h' sb S2=>?_;have ne:∀ c,c∈fp->c≠a:=λc m z=>ha<|z▸m;refine az #[wY acO _,ih (i+1) _ za (W.frame _ s1 _ _ aiO (qj _) λc hc o e=>(sb.2 c<|ne c hc).trans e) (by rw[firstMet_succ];show S2) λs2 m2 S4=>fin s2 ?_ S4];show Moved.trans W.gtrans ((mv.mono su).then_heap (qj _) λc o hc e=>((sb.2 c λz=>hc<|z▸.head _).trans e)) m2
end
section
variable {s:au} {t:aj} 
def Kh (prog:dD) (w:cw) (s:au) (ns:List Int) (s':au):zk:=∃ h' tk,s'={ s with heap:=h',toks:=tk } /\ qI prog w (cJ w) h' s.heap.objs.size (dist ns) /\ Kp s.heap h'
theorem Pw {I:aj}{St:Nat->au->zk}{P:Nat->ai->zk}{it:aZ}(W:WalksS prog w A.in1 zX [s.heap.objs.size+1,t] [s.heap.objs.size+1] (λa b=>b=a) ns.length P St) (lt:t<s.heap.objs.size)
 (hv:∀ i v,P i v->∃ u,v=.int (ns.getD i 0) u) (hb:ns.length+1<scanBound) (st:St 0 { s with heap:=(s.heap.push<|rJ w).push it }) (hf:it.isFreed=af)
 {F:Result->au->zk}(h:∀ s',Kh prog w s ns s'->F (.ok<|.ret .none) s') :
 codeAny zh A (.builtin "set.update.loop" #[[.ref s.heap.objs.size,.ref zX],[]]) F { s with heap:=(s.heap.push<|rJ w).push it }:=by
 refine JQ W ?_ _ hv hb ns.length 0 _ za st (Pu<|aN _<|bB _ zc) λs' mv S=>?_
 .erw[bw,nX,or_false,not_or];show#[bI<|nE _,uP lt]
 .let#[h',g',d',Ki,X8]:=s';have e1:=mv.gens;have e2:=mv.drawn;have e3:X8=s.os:=mv.os;subst e1 e2 e3;refine h _ #[h',Ki,rfl,S,λc o e=>mv.heap c o ?_<|aN _<|aN _ e];have cl:=a9 e;simp[bw,nX,or_false,not_or];show#[bI cl,bI<|pM cl]
theorem My (hh:A.handled=ag) (ht:s.heap.IsList t vs.toArray) (hi:IntsAre vs ns) (hb:ns.length+1<scanBound) {F:Fin->au->zk}(h:∀ s',Kh prog w s ns s'->F (.done<|.ret .none) s') :
 wpAny zh A (Builtin.«set.__init__» #[[.ref s.heap.objs.size,.ref t],[]]) F E { s with heap:=s.heap.push (rJ w) }:=by
 have gS:(s.heap.push _).get? s.heap.objs.size=ae (rJ w):=bB _ zc;have aev:(s.heap.push<|rJ w).IsList t vs.toArray:=ht.at λo e=>aN _ e;let#[ot,Er,_]:=id ht;have lt:=a9 Er;let#[#[oc,od,alI,qN],g1,g2,n,g3]:=id aev;simp at g2 g3;subst g2;subst g3;have y1:=PySem.F.sub_list_set;have y2:=PySem.F.sub_list_frozenset;have y3:(Value.type "list"==Value.type "dict")=af:=rfl;have sz:(s.heap.push<|rJ w).objs.size=s.heap.objs.size+1:=ud ..;unfold Builtin.«set.__init__» noKeywords Builtin.Frozenset.updateFrom;generalize hP:pyIter=P
 wp_walk
 subst hP;refine wR aev<|ak<|QT ?_;rw[sz];have gI:((s.heap.push<|rJ w).push { cls:=.type "list_iterator",data:=.fields (List.toArray [.ref t,.int 0 0]) }).get? zX=ae { cls:=.type "list_iterator",data:=.fields (List.toArray [.ref t,.int 0 0]) }:=by
  rw[<-sz];show bB _ zc
 have W:=(Walks.list (prog:=prog) (w:=w) (A:=A.in1) hh zX t (bI<|pM lt) vs.toArray).toS;rw[show vs.toArray.size=ns.length by simpa using hi.length]at W;show Pw (I:=0) W lt (λi v e=>IntsAre.int_at hi i v (by simpa using e)) hb #[#[_,gI,rfl,rfl],ht.at λo e=>aN _<|aN _ e] zc λs' e=>az<|az<|h s' e
theorem Mz (hh:A.handled=ag) (ht:s.heap.IsList t vs.toArray) (hi:IntsAre vs ns) (hb:ns.length+1<scanBound) (h:∀ s',Kh prog w s ns s'->Q zab s') :
 wpAny zh A (call (.type "set") [.ref t]) Q E s:=by
 let#[c,tl,f1]:=PySem.F.called_set.mro;have f2:=PySem.F.called_set.made;have f3:=PySem.F.called_set.sub;have f4:=PySem.F.called_set.notType;have f5:=PySem.F.called_set.canCreate;have f6:=PySem.F.typeCall_set_1<|.ref t;refine wpAny_call<|abd<|az #[acK _ (by decide +kernel),rS PySem.F.entry_type_call ?_];rw[Around.under_plain (weight_type_call_type "set" [.ref t] []) rfl]
 repeat (any_goals (first|assumption|wp_step))
 refine wU (Pv (.ref t) (E:=E) (Q:=λo s1=>o=.ref s.heap.objs.size /\ s1={ s with heap:=s.heap.push (rJ w) }) #[rfl,rfl]) λr s1 hr=>?_;match r,hr with
 |.error e,hr=>show hr
 |.ok (.ret o),⟨e1,e2⟩=>
   subst e1;subst e2;have ty:Shared.TypeIs { s with heap:=s.heap.push (rJ w) } zab "set":=#[_,(bB _ zc),rfl];have k1:=PySem.F.called_set.init.lookup;have k2:=PySem.F.called_set.init.bind zab
   repeat (any_goals (first|assumption|wp_step))
   refine wU (codeAny_call_builtin (R:=wants (λr s2=>r=.none /\ Kh prog w s ns s2) E) PySem.F.called_set.init.plain PySem.F.entry_set_init<|check_set_init_1 ty ?_) λr2 s2 ED=>?_
   .show My (by simp[hh]) ht hi hb λs' e=>#[rfl,e]
   .match r2,ED with
    |.error e,ED=>show ED
    |.ok (.ret r),⟨e3,e4⟩=>
      subst e3
      repeat (any_goals (first|assumption|wp_step))
      show h _ e4
end
theorem gO:Slot "set_iterator" "__next__" "set_iterator.__next__":=.of (owner:="set_iterator") (n:="__next__") (by kernel_rfl) (rfl) (rfl) (rfl) (.inl<|rfl) (by kernel_rfl)
theorem Ap:Slot "set_iterator" "__iter__" "set_iterator.__iter__":=.of (owner:="set_iterator") (n:="__iter__") (by kernel_rfl) (rfl) (rfl) (rfl) (.inl<|rfl) (by kernel_rfl)
theorem lV:entryFor table "set_iterator.__next__"=ae Builtin.«set_iterator.__next__»:=abf (by kernel_rfl)
theorem BU:entryFor table "set_iterator.__iter__"=ae Builtin.«dict_keyiterator.__iter__»:=abg (id':="dict_keyiterator.__iter__") (by kernel_rfl) zc (by decide +kernel) (by kernel_rfl)
theorem Fu:entryFor table "set.__iter__"=ae Builtin.«frozenset.__iter__»:=abg (id':="frozenset.__iter__") (by kernel_rfl) zc (by decide +kernel) (by kernel_rfl)
theorem lW (a:ai):argsOk "set_iterator.__next__" #[[a],[]]:=by
 kernel_rfl
theorem BV (a:ai):argsOk "set_iterator.__iter__" #[[a],[]]:=by
 kernel_rfl
section
variable {s:au}
theorem mz {α:Type}:∀ (l:List α) {i:Nat}(h:i<l.length),(l[i]::l.eraseIdx i).Perm l
 |[],i,h=>absurd h<|Q7 _
 |x::l,0,h=>.refl _
 |x::l,i+1,h=>(List.Perm.swap ..).trans<|(mz l _).cons x
theorem Px (nx:Nat->Nat):∀ (f k:Nat) (l:List α) (out:Array α),l.length=f->(pickOrder.go nx f k l out).toList.Perm (out.toList++l):=by
 intro l_;induction l_ with
 |zero=>
   intro k l out h;have:=xj h;subst this;simp[pickOrder.go]
 |succ f ay=>
   intro k l out h;have lt:nx k % l.length<l.length:=abp _ za;rw[pickOrder.go,cL lt];refine(ay _ _ _ (by rw[Xg lt];lia)).trans ?_;rw[Xy,pO];show agg _<|mz l lt
theorem BW (nx:Nat->Nat) (xs:Array α):(pickOrder nx xs).toList.Perm xs.toList:=by
 have:=Px nx xs.size 0 xs.toList #[]<|rfl;simpa[pickOrder] using this
def kH (w:cw) (t:SetTable):Nat->Nat
 |0=>0
 |i+1=>if cJ w then 0 else t.place.getD i 0+1
def given (w:cw) (a:aj) (ep:Nat) (es:Array<|Int×ai):List ai:=(if cJ w then (pickOrder (w.params.setOrder a ep) es).toList else es.toList).map (·.2)
theorem mB (a:aj) (ep:Nat) (es:Array<|Int×ai):(given w a ep es).Perm (es.toList.map (·.2)):=by
 unfold given;split
 .show(BW _ es).map _
 .show .refl _
theorem Fv (h:cJ w=ah) (t:SetTable) (i:Nat):kH w t i=0:=by
 cases i with
 |zero=>rfl
 |succ i=>show if_pos h
theorem UO {ms:List Int}{es:Array (Int×ai)}(ho:s.heap.get? a=ae o) (S:eJ prog w (cJ w) o ns es ep t ms) (hp:cJ w=af->(!t.plain&&decide (es.size>1))=af) {i:Nat}{x:ai}(hx:(given w a ep es)[i]?=ae x)
 {Q:Option (ai×Nat)->au->zk}(h:Q (ae (x,kH w t<|i+1)) s):wpAny zh A (setNext a (kH w t i) i ep) Q E s:=by
 have il:i<es.size:=by
  have:=(List.getElem?_eq_some_iff.mp hx).1;rw[(mB a ep es).length_eq,aR,nH]at this;show this
 refine ak<|vz ho S.d S.ft ?_;refine ak<|ak<|uO<|az ?_;cases bt:cJ w with
 |true=>
   change wpAny _ _ (if cJ w=ah then _ else _) _ _ _;rw[if_pos bt];rw[if_neg zj];unfold setWalk setsByText;refine ak<|ak<|vz ho S.d S.ft<|ak<|ak<|uO<|az ?_;change wpAny _ _ (if cJ w=ah then _ else _) _ _ _;rw[if_pos bt];refine ak<|uO<|az<|az ?_;unfold given at hx;rw[if_pos bt,kL,qU]at hx;rw[Fv bt]at h ⊢;change Q (((pickOrder (w.params.setOrder a ep) es)[i]?).map λe=>(e.2,0)) s;cases q:(pickOrder _ es)[i]? with
   |none=>rw[q]at hx;cases hx
   |some e=>
     rw[q]at hx;cases hx;show h
 |false=>
   change wpAny _ _ (if cJ w=ah then _ else _) _ _ _;rw[if_neg (by rw[bt];decide)];unfold given at hx;rw[if_neg (by rw[bt];decide),kL,qU]at hx;have pl:t.place.size=es.size:=by
    have:=S.ft;simp[SetTable.fits,aJ,beq_iff_eq]at this;show this.1
   have pi:t.place[i]?=ae (t.place.getD i 0):=by
    have:i<t.place.size:=by lia
    simp[this]
   have sl:SetTable.below t.place (kH w t i)=i:=by
    cases i with
    |zero=>show AX S.ok.r
    |succ i=>
      have e1:kH w t (i+1)=t.place.getD i 0+1:=if_neg (by rw[bt];decide);rw[e1];refine AW S.ok.r ?_;have:i<t.place.size:=by lia
      simp[this]
   split
   .ext c;show absurd ((c).symm.trans<|hp bt) ze
   .refine ak ?_;change wpAny _ _ (if (!t.led&&!es.isEmpty)=ah then _ else _) _ _ _;rw[if_neg (by rw[(S.ok.l bt)];simp)];refine az<|az ?_;rw[sl];cases q:es[i]? with
    |none=>rw[q]at hx;cases hx
    |some e=>
      rw[q]at hx;cases hx;rw[pi];have e1:kH w t (i+1)=t.place.getD i 0+1:=if_neg (by rw[bt];decide);rw[e1]at h;show h
end
section
variable {s:au}
def uE (h:aI) (it a:aj) (k i n ep:Nat):zk:=∃ o u0 u1 u2 u3,h.get? it=ae o /\ o.cls=.type "set_iterator" /\ o.data=.fields (List.toArray [.int (k:Nat) u0,.int (i:Nat) u1,.ref a,.int (n:Nat) u2,.int (ep:Nat) u3])
theorem uE.typeIs {k i:Nat}(h:uE s.heap it a k i n ep):s.TypeIs (.ref it) "set_iterator":=by
 let#[o,_,_,_,_,e,c,_]:=h;show#[o,e,c]
theorem uE.at {k i:Nat}(x:uE h it a k i n ep) (e:∀ o,h.get? it=ae o->h'.get? it=ae o):uE h' it a k i n ep:=by
 let#[o,u0,u1,u2,u3,ho,r]:=x;show#[o,u0,u1,u2,u3,e o ho,r]
theorem Py {ms:List Int}{es:Array (Int×ai)}{i:Nat}{x:ai}{Q:Option ai->au->zk}(eS:a≠it) (hi:uE s.heap it a (kH w t i) i es.size ep) (ho:s.heap.get? a=ae o) (S:eJ prog w (cJ w) o ns es ep t ms)
 (hp:cJ w=af->(!t.plain&&decide (es.size>1))=af) (hx:(given w a ep es)[i]?=ae x)
 (hQ:∀ h',uE h' it a (kH w t<|i+1) (i+1) es.size ep->Heap.SameBut it s.heap h'->Q (ae x) { s with heap:=h' }):wpAny zh A (pyNext<|.ref it) Q E s:=by
 have ty:=hi.typeIs;let#[oi,u0,u1,u2,u3,pJ,hc,hd]:=hi;unfold pyNext;refine ak<|uN<|qO ty gO<|eW gO ty lV ?_<|lW _;unfold Builtin.«set_iterator.__next__»;refine ak<|az ?_;refine ak<|wZ pJ hd ?_;change wpAny _ _ _ _ _ s;refine ak<|yF ho S.d S.ft ?_;rw[if_neg zj];change wpAny _ _ (setNext a ((kH w t i):Int).toNat ((i):Int).toNat ((ep):Int).toNat >>= λr=>_) _ _ s;rw[nq,nq,nq];refine ak<|UO ho S hp hx ?_;change wpAny _ _ _ _ _ s;have h1:(s.heap.update it _).get? it=ae (Obj.mapFields (·.setIfInBounds 0 (rawInt ((kH w t (i+1):Nat):Int))) oi):=sf _ pJ<|xr<|qr hd _;have d1:(Obj.mapFields (·.setIfInBounds 0 (rawInt ((kH w t (i+1):Nat):Int))) oi).data=.fields (List.toArray [rawInt ((kH w t (i+1):Nat):Int),.int (i:Nat) u1,.ref a,.int (es.size:Nat) u2,.int (ep:Nat) u3]):=by rw[qr hd];simp
 refine ak<|rT pJ hd zj ?_;change wpAny _ _ _ _ _ _;refine ak<|rT h1 d1 zj ?_;refine az #[_,rfl,az<|hQ _ #[_,0,0,u2,u3,sf _ h1<|xr<|qr d1 _,((yK ..).trans<|(yK ..).trans hc),?_]<|(Heap.SameBut.update ..).trans<|Heap.SameBut.update ..]
 .rw[qr d1];simp[rawInt]
end
section
variable {s:au}
theorem UP {ms:List Int}{es:Array (Int×ai)}(ho:s.heap.get? a=ae o) (S:eJ prog w (cJ w) o ns es ep t ms) (hp:cJ w=af->(!t.plain&&decide (es.size>1))=af)
 {Q:Option (ai×Nat)->au->zk}(h:Q ag s):wpAny zh A (setNext a (kH w t es.size) es.size ep) Q E s:=by
 refine ak<|vz ho S.d S.ft ?_;refine ak<|ak<|uO<|az ?_;cases bt:cJ w with
 |true=>
   change wpAny _ _ (if cJ w=ah then _ else _) _ _ _;rw[if_pos bt,if_neg zj];refine ak<|ak<|vz ho S.d S.ft<|ak<|ak<|uO<|az ?_;change wpAny _ _ (if cJ w=ah then _ else _) _ _ _;rw[if_pos bt];refine ak<|uO<|az<|az ?_;have e1:(pickOrder (w.params.setOrder a ep) es)[es.size]?=ag:=by
    have:=(BW (w.params.setOrder a ep) es).length_eq;rw[nH,nH]at this;rw[<-this];simp
   change Q (((pickOrder (w.params.setOrder a ep) es)[es.size]?).map λe=>(e.2,kH w t es.size)) s;rw[e1];show h
 |false=>
   change wpAny _ _ (if cJ w=ah then _ else _) _ _ _;rw[if_neg (by rw[bt];decide)];have pl:t.place.size=es.size:=by
    have:=S.ft;simp[SetTable.fits,aJ,beq_iff_eq]at this;show this.1
   have sl:SetTable.below t.place (kH w t es.size)=es.size:=by
    cases q:es.size with
    |zero=>show AX S.ok.r
    |succ i=>
      have e1:kH w t (i+1)=t.place.getD i 0+1:=if_neg (by rw[bt];decide);rw[e1];refine AW S.ok.r ?_;have:i<t.place.size:=by lia
      simp[this]
   split
   .ext c;show absurd ((c).symm.trans<|hp bt) ze
   .refine ak ?_;change wpAny _ _ (if (!t.led&&!es.isEmpty)=ah then _ else _) _ _ _;rw[if_neg (by rw[(S.ok.l bt)];simp)];refine az<|az ?_;rw[sl];have e2:es[es.size]?=ag:=by simp
    rw[e2];show h
theorem UQ {ms:List Int}{es:Array (Int×ai)}{Q:Option ai->au->zk}(hh:A.handled=ag) (hi:uE s.heap it a (kH w t es.size) es.size es.size ep) (ho:s.heap.get? a=ae o) (S:eJ prog w (cJ w) o ns es ep t ms)
 (hp:cJ w=af->(!t.plain&&decide (es.size>1))=af) (hQ:∀ h',Heap.ExtBut it s.heap h'->Q ag { s with heap:=h' }):wpAny zh A (pyNext<|.ref it) Q E s:=by
 have ty:=hi.typeIs;let#[oi,u0,u1,u2,u3,pJ,hc,hd]:=hi;refine ak<|uN<|qO ty gO<|eW gO ty lV ?_<|lW _;refine ak<|az ?_;refine ak<|wZ pJ hd ?_;refine ak<|yF ho S.d S.ft ?_;rw[if_neg zj];change wpAny _ _ _ _ _ s;refine ak<|UP ho S hp ?_;refine ak (rT pJ hd zj (ak (by
  refine ak<|eV (ak<|yA (by first|rfl|(rfl))<|eV ?_ (by size_fits)) (by size_fits);refine ak<|He ?_;rw[hh];refine ak<|az<|Hf ?_;show ak (yD #[_,bB _ zc,rfl] Hg<|az<|hQ _<|((Heap.SameBut.update ..).extBut.push _).push _))))
theorem MA (hh:A.handled=ag) (eS:a≠it) {ms:List Int}{es:Array (Int×ai)}(S:eJ prog w (cJ w) o ns es ep t ms) (hp:cJ w=af->(!t.plain&&decide (es.size>1))=af) :
 Walks prog w A it [it,a] [it] es.size (λi v=>(given w a ep es)[i]?=ae v) (λi h=>uE h it a (kH w t i) i es.size ep /\ h.get? a=ae o) where
 sub:=λb hb=>by simp at hb;simp[hb]
 frame:=λ_ _ _ st hk=>#[st.1.at λo e=>hk it zj o e,hk a zj _ st.2]
 item:=λi s Q E hi st hQ=>by
  obtain⟨x,hx⟩:∃ x,(given w a ep es)[i]?=ae x:=by
   have:i<(given w a ep es).length:=by rw[(mB a ep es).length_eq,aR,nH];show hi
   show#[_,cL this]
  show Py eS st.1 st.2 S hp hx λh' i' sb=>(hQ x h' s.toks hx #[i',(sb.2 a eS).trans st.2] λb o hb e=>(sb.2 b λz=>hb (by simp[z])).trans e)
 done:=λs Q E st hQ=>UQ hh st.1 st.2 S hp λh' he=>hQ h' s.toks λb o hb e=>he b o (λz=>hb (by simp[z])) e
 self:=λi s Q E st hQ=>by
  have ty:=st.1.typeIs;show yC ty Ap<|eW Ap ty BU (az #[_,rfl, "set_iterator",_,ty,gO.lookup,hQ])<|BV _
end
section
variable {s:au}
theorem MB {src:Source}{Q:Nat->au->zk}(hn:n≠0) (h:∀ i,i<n->Q i { s with drawn:=s.drawn.bump src }):wpAny zh A (choose src n) Q E s:=λ_ _ _=>#[hn,h _<|abp _<|Nat.pos_of_ne_zero hn]
theorem Df {α:Type}:∀ (n:Nat) (l:List α) (s:au) {Q:List α->au->zk},l.length=n->(∀ l' d,l'.Perm l->Q l' { s with drawn:=d })->wpAny zh A (drawOrder n l) Q E s
 | 0,l,s,Q,hl,h=>by
   have:=xj hl;subst this;show az<|h [] s.drawn<|.refl _
 |n+1,[],s,Q,hl,h=>by cases hl
 | n+1,x::l,s,Q,hl,h=>by
   refine ak<|MB zj λi hi=>?_;rw[cL hi];show ak<|Df n _ _ (by rw[Xg hi];lia) λl' d p=>az<|h _ d<|(p.cons _).trans<|mz _ hi
def uF (h:aI) (it a q:aj) (i n ep:Nat):zk:=∃ o u1 u2 u3,h.get? it=ae o /\ o.cls=.type "set_iterator" /\ o.data=.fields (List.toArray [.ref q,.int (i:Nat) u1,.ref a,.int (n:Nat) u2,.int (ep:Nat) u3])
theorem uF.typeIs {q:aj}{i:Nat}(h:uF s.heap it a q i n ep):s.TypeIs (.ref it) "set_iterator":=by
 let#[o,_,_,_,e,c,_]:=h;show#[o,e,c]
theorem uF.at {q:aj}{i:Nat}(x:uF h it a q i n ep) (e:∀ o,h.get? it=ae o->h'.get? it=ae o):uF h' it a q i n ep:=by
 let#[o,u1,u2,u3,ho,r]:=x;show#[o,u1,u2,u3,e o ho,r]
theorem Pz {q:aj}{oq:aZ}{ms:List Int}{es:Array (Int×ai)}{c:Nat}{ps:List Nat}{i:Nat}{e:Int×ai}{Q:Option ai->au->zk}(hi:uF s.heap it a q i es.size ep) (ho:s.heap.get? a=ae o) (S:eJ prog w (cJ w) o ns es ep t ms)
 (hq:s.heap.get? q=ae oq) (yd:oq.data=.seq (ps.map λ(k:Nat)=>rawInt (k:Int)).toArray c) (hj:ps[i]?=ae j) (hx:es[j]?=ae e)
 (hQ:∀ h',uF h' it a q (i+1) es.size ep->Heap.SameBut it s.heap h'->Q (ae e.2) { s with heap:=h' }):wpAny zh A (pyNext<|.ref it) Q E s:=by
 have ty:=hi.typeIs;let#[oi,u1,u2,u3,pJ,hc,hd]:=hi;unfold pyNext;refine ak<|uN<|qO ty gO<|eW gO ty lV ?_<|lW _;unfold Builtin.«set_iterator.__next__»;refine ak<|az ?_;refine ak<|wZ pJ hd ?_;change wpAny _ _ _ _ _ s;refine ak<|yF ho S.d S.ft ?_;rw[if_neg zj];change wpAny _ _ _ _ _ s;unfold seqItems?;refine ak<|ak<|wQ hq ?_;rw[yd];refine az ?_;dsimp only;rw[nq,show (ps.map λ(k:Nat)=>rawInt<|k).toArray[i]?=ae (rawInt<|j) by simp[hj]];change wpAny _ _ (setNextDrawn a ((j):Int).toNat ((ep):Int).toNat >>= λr=>_) _ _ s;rw[nq,nq];unfold setNextDrawn;refine ak<|ak<|vz ho S.d S.ft ?_;dsimp only;rw[if_neg zj,hx];refine az ?_;change wpAny _ _ _ _ _ _;refine ak<|rT pJ hd zj ?_;refine az #[_,rfl,az<|hQ _ #[_,0,u2,u3,sf _ pJ<|xr<|qr hd _,(yK ..).trans hc,?_]<|Heap.SameBut.update ..];rw[qr hd];simp[rawInt]
end
section
variable {s:au}
theorem UR {q:aj}{oq:aZ}{ms:List Int}{es:Array (Int×ai)}{c:Nat}{ps:List Nat}{i:Nat}{Q:Option ai->au->zk}(hh:A.handled=ag) (hi:uF s.heap it a q i es.size ep) (ho:s.heap.get? a=ae o) (S:eJ prog w (cJ w) o ns es ep t ms)
 (hq:s.heap.get? q=ae oq) (yd:oq.data=.seq (ps.map λ(k:Nat)=>rawInt (k:Int)).toArray c) (hj:ps[i]?=ag)
 (hQ:∀ h',Heap.ExtBut it s.heap h'->Q ag { s with heap:=h' }):wpAny zh A (pyNext<|.ref it) Q E s:=by
 have ty:=hi.typeIs;let#[oi,u1,u2,u3,pJ,hc,hd]:=hi;refine ak<|uN<|qO ty gO<|eW gO ty lV ?_<|lW _;refine ak<|az ?_;refine ak<|wZ pJ hd ?_;refine ak<|yF ho S.d S.ft ?_;rw[if_neg zj];refine ak<|ak<|wQ hq ?_;rw[yd];refine az ?_;dsimp only;rw[nq,show (ps.map λ(k:Nat)=>rawInt<|k).toArray[i]?=ag by simpa using hj];have d1:(Obj.mapFields (·.setIfInBounds 0 (rawInt 0)) oi).data=.fields (List.toArray [rawInt 0,.int (i) u1,.ref a,.int (es.size) u2,.int (ep) u3]):=by rw[qr hd];simp
 refine ak<|rT pJ hd zj ?_;refine ak (rT (sf _ pJ<|xr<|qr hd _) d1 zj (ak (by
  refine ak<|eV (ak<|yA (by first|rfl|(simp;rfl))<|eV ?_ (by size_fits)) (by size_fits);refine ak<|He ?_;rw[hh];refine ak<|az<|Hf ?_;show ak (yD #[_,bB _ zc,rfl] Hg<|az<|hQ _<|(((Heap.SameBut.update ..).trans<|Heap.SameBut.update ..).extBut.push _).push _))))
noncomputable def Kj (es:Array<|Int×ai) (ps:List Nat):List ai:=ps.map λk=>(es.getD k (0,.none)).2
theorem Dg {es:Array (Int×ai)}{ps:List Nat}(p:ps.Perm<|List.range es.size):(Kj es ps).Perm (es.toList.map (·.2)):=by
 refine(p.map _).trans (agh ?_);apply xi;intro i;by_cases h:i<es.size
 .simp[h]
 .simp[h]
theorem PB (hh:A.handled=ag) {q:aj}(eS:a≠it) (aiP:q≠it) {oq:aZ}{ms:List Int}{es:Array (Int×ai)}{c:Nat}{ps:List Nat}(S:eJ prog w (cJ w) o ns es ep t ms)
 (yd:oq.data=.seq (ps.map λ(k:Nat)=>rawInt (k:Int)).toArray c) (p:ps.Perm<|List.range es.size) :
 Walks prog w A it [it,a,q] [it] es.size (λi v=>(Kj es ps)[i]?=ae v) (λi h=>uF h it a q i es.size ep /\ h.get? a=ae o /\ h.get? q=ae oq) where
 sub:=λb hb=>by simp at hb;simp[hb]
 frame:=λ_ _ _ st hk=>#[st.1.at λo e=>hk it zj o e,hk a zj _ st.2.1,hk q zj _ st.2.2]
 item:=λi s Q E hi st hQ=>by
  have il:i<ps.length:=by rw[p.length_eq,vE];show hi
  have ej:=cL il;have jl:=List.mem_range.mp<|p.mem_iff.mp<|nG il;have ex:es[ps[i]]?=ae es[ps[i]]:=by simp
  refine Pz st.1 st.2.1 S st.2.2 yd ej ex λh' i' sb=>?_;refine hQ _ h' s.toks ?_ #[i',(sb.2 a eS).trans st.2.1,(sb.2 q aiP).trans st.2.2] λb o hb e=>(sb.2 b λz=>hb (by simp[z])).trans e;unfold Kj;rw[kL,ej];simp[jl]
 done:=λs Q E st hQ=>UR hh st.1 st.2.1 S st.2.2 yd (rX (by rw[p.length_eq,vE];show aE _)) λh' he=>hQ h' s.toks λb o hb e=>he b o (λz=>hb (by simp[z])) e
 self:=λi s Q E st hQ=>by
  have ty:=st.1.typeIs;refine yC ty Ap<|eW Ap ty BU ?_<|BV _;change wpAny _ _ _ _ _ s;show az #[_,rfl, "set_iterator",_,ty,gO.lookup,hQ]
end
section
variable {s:au}
def aiQ (prog:dD) (w:cw) (A:eN) (s:au) (a:aj) (es:Array<|Int×ai) (it:aj) (s':au):zk:=
 ∃ (h':aI) (d:Drawn) (us:List ai) (fp:List aj) (St:Nat->aI->zk),s'={ s with heap:=h',drawn:=d } /\ Kp s.heap h' /\ us.Perm (es.toList.map (·.2)) /\ it∈fp /\ (∀ b∈fp,b<h'.objs.size /\ (b=a \/ s.heap.objs.size<=b)) /\ s.heap.objs.size<=it /\
  Walks prog w A it fp [it] es.size (λi v=>us[i]?=ae v) St /\ St 0 h' /\ ∀ i h,St i h->∃ o,h.get? it=ae o /\ o.cls=.type "set_iterator"
theorem MC (hh:A.handled=ag) {ms:List Int}{es:Array (Int×ai)}(ho:s.heap.get? a=ae o) (S:eJ prog w (cJ w) o ns es ep t ms)
 (h:∀ it s',aiQ prog w A s a es it s'->Q (.ref it) s'):wpAny zh A (pyIter<|.ref a) Q E s:=by
 have ty:s.TypeIs (.ref a) "set":=#[o,ho,S.x.1];have al:=a9 ho;refine yC ty acD<|eW acD ty Fu ?_<|F.args_set_iter_1 _;unfold Builtin.«frozenset.__iter__»;change wpAny _ _ (Builtin.Frozenset.sizeOf a >>= λn=>_) _ _ s;unfold Builtin.Frozenset.sizeOf;refine ak<|ak<|yF ho S.d S.ft<|az ?_;unfold setDrawn setsByText;refine ak<|ak<|vz ho S.d S.ft<|ak<|ak<|uO<|az<|az ?_;dsimp only;split
 .ext c;have c':(!cJ w&&(!t.plain&&decide _))=ah:=c;refine ak<|Df es.size _ s zj λps d p=>?_;unfold newTuple;refine ak (eV ?_ ?_)
  .have EC:(s.heap.push { cls:=.type "tuple",data:=.seq (ps.map λ(k:Nat)=>rawInt<|k).toArray }).get? a=ae o:=aN _ ho;refine ak<|abh EC S.d S.ft ?_;unfold newFields;refine ak<|eV (az ?_) (by size_fits);have sz:(s.heap.push { cls:=.type "tuple",data:=.seq (ps.map λ(k:Nat)=>rawInt<|k).toArray }).objs.size=s.heap.objs.size+1:=ud ..;have gi:=bB (s.heap.push { cls:=.type "tuple",data:=.seq (ps.map λ(k:Nat)=>rawInt<|k).toArray }) (o:={ cls:=.type "set_iterator",data:=.fields [.ref s.heap.objs.size,rawInt 0,.ref a,rawInt (es.size:Nat),rawInt (ep:Nat)].toArray }) zc
   refine#[_,rfl, "set_iterator",_,#[_,gi,rfl],gO.lookup,h _ _ #[_,d,Kj es ps,[_,a,s.heap.objs.size],_,rfl,λb o e=>aN _<|aN _ e,Dg p,.head _,λb hb=>?_,by rw[sz];show qj _,
    PB hh (by rw[sz];show bI (pM al)) (by rw[sz];show bI (nE _)) S zc p,#[#[_,_,_,_,gi,rfl,rfl],aN _ EC,aN _<|bB _ zc],λi h st=>?_]]
   .rw[ud,sz];erw[bw,nX,or_false]at hb;rcases hb with rfl|rfl|rfl
    .rw[sz];show#[nE _,.inr<|qj _]
    .show#[pM<|pM al,.inl zc]
    .show#[pM<|nE _,.inr<|aE _]
   .let#[#[oi,_,_,_,e,cl,_],_]:=st;show#[oi,e,cl]
  .change (ps.map λ(k:Nat)=>rawInt (k:Int)).toArray.size<=sizeLine;have l1:=p.length_eq;have bd:=S.bd;have sb:scanBound=4096:=rfl;have sl:sizeLine=16777216:=bf;rw[vE]at l1;simp;lia
 .ext c;refine ak<|az ?_;change wpAny _ _ (setEpoch a >>= λe=>_) _ _ s;refine ak<|abh ho S.d S.ft ?_;change wpAny _ _ (newFields "set_iterator" [rawInt 0,rawInt 0,.ref a,rawInt (es.size:Nat),rawInt (ep:Nat)] >>= λv=>ret v) _ _ s;unfold newFields;refine ak<|eV (az ?_) (by size_fits);have gi:(s.heap.push { cls:=.type "set_iterator",data:=.fields [rawInt 0,rawInt 0,.ref a,rawInt (es.size:Nat),rawInt (ep:Nat)].toArray }).get? s.heap.objs.size=ae { cls:=.type "set_iterator",data:=.fields [rawInt 0,rawInt 0,.ref a,rawInt (es.size:Nat),rawInt (ep:Nat)].toArray }:=bB _ zc;refine#[_,rfl, "set_iterator",_,#[_,gi,rfl],gO.lookup,h _ _ #[_,s.drawn,given w a ep es,[s.heap.objs.size,a],_,rfl,λb o e=>aN _ e,mB a ep es,.head _,λb hb=>?_,aE _,MA hh (bI al) S (λz=>by
   have c':¬ ((!cJ w&&(!t.plain&&decide (es.size>1)))=ah):=c;rw[z]at c';simpa using c'),#[#[_,_,_,_,_,gi,rfl,rfl],aN _ ho],λi h st=>?_]]
  .rw[ud];simp at hb;rcases hb with rfl|rfl
   .show#[nE _,.inr<|aE _]
   .show#[pM al,.inl zc]
  .let#[#[oi,_,_,_,_,e,cl,_],_]:=st;show#[oi,e,cl]
end
section
variable {s:au}
noncomputable abbrev ZC:aZ:={ cls:=.type "list",data:=.seq ([]:List ai).toArray }
def aiR (s:au) (s':au):zk:=∃ h' d tk,s'={ s with heap:=h',drawn:=d,toks:=tk } /\ Kp s.heap h' /\ s.heap.objs.size<=h'.objs.size
theorem Dh (hh:A.handled=ag) {ms:List Int}{es:Array (Int×ai)}{Q:List ai->au->zk}(ho:s.heap.get? a=ae o) (S:eJ prog w (cJ w) o ns es ep t ms)
 (h:∀ us s',us.Perm (es.toList.map (·.2))->aiR s s'->Q us s'):wpAny zh A (collect<|.ref a) Q E s:=by
 have nl:s.heap.objs.size≠a:=uP<|a9 ho;have ty:∀ h' d tk,Kp s.heap h'->Shared.TypeIs { s with heap:=h',drawn:=d,toks:=tk } (.ref a) "set":=λh' d tk k=>#[o,k a o ho,S.x.1];unfold collect;refine ak (QT (rS F.entry_proto_collect (by
  rw[HX F.plain_proto_collect _];refine ak<|eV (az #[wY acE _,rS F.entry_list_iadd ?_]) (by size_fits);rw[HX acE _];change wpAny _ A.in1 (Builtin.List.listExtendWith _ _ _) _ _ _;unfold Builtin.List.listExtendWith;have k1:Kp s.heap (s.heap.push ZC):=λb ob e=>aN _ e;refine ak<|tQ (ty _ s.drawn s.toks k1) ?_;rw[if_neg (by simp[Builtin.List.listSameRef,nl])];refine ak<|MC (by simp[hh]) (k1 a o ho) S λit s1 bg=>?_;let#[h1,d,us,fp,St,rfl,k2,pu,mi,fl,ge,W,aiS,cl]:=bg;have k3:Kp s.heap h1:=λb ob e=>k2 b ob<|k1 b ob e;have g0:h1.get? s.heap.objs.size=ae ZC:=k2 _ _<|bB _ zc;refine ak<|eB ?_;unfold Builtin.List.listLengthHint;refine ak<|aa5 (ty h1 d s.toks k3) F.slot_set_len.lookup ?_;dsimp only;rw[show splitId "set.__len__"=ae ("set","__len__") by decide +kernel];dsimp only;refine ak<|yD (b:=ah) (ty h1 d s.toks k3) abe ?_;rw[if_neg ze];rw[if_pos (by decide +kernel)];refine ak<|tQ (ty h1 d s.toks k3) ?_;refine az ?_;rw[if_pos (by decide +kernel)];refine ak<|nU<|ak ?_;change wpAny _ A.in1 _ _ _ _;have g1:=sf (Obj.mapSeq (·.push Value.none)) g0 zc;have z1:(s.heap.push ZC).objs.size=s.heap.objs.size+1:=ud ..;have aiT:s.heap.objs.size+1<=it:=z1▸ge;have nf:s.heap.objs.size∉fp:=λm=>by
   rcases(fl _ m).2 with z|z
   .show nl z
   .show absurd (z1▸z:s.heap.objs.size+1<=s.heap.objs.size)<|Nat.not_succ_le_self _
  have aew:∀ b ob,b≠s.heap.objs.size->h1.get? b=ae ob->((h1.update s.heap.objs.size (Obj.mapSeq (·.push Value.none))).update s.heap.objs.size (Obj.mapSeq (·.pop))).get? b=ae ob:=λb ob ne e=>(Hx _ _<|Ne.symm ne).trans<|(Hx _ _<|Ne.symm ne).trans e;refine ak (abi g0 zc (abi g1 zc (az #[wY F.plain_extend_loop _,codeAny_extend_loopS W.toS (Q0 S.bd) _ nf _ es.size 0 _ _ _ zc (eC _) (W.frame 0 h1 _ aiS λb hb ob e=>aew b ob (λz=>nf<|z▸hb) e) (sf (Obj.mapSeq (·.pop)) g1 zc) (ItemsOf.nil _) λs2 acc c mv gs Kk=>?_])));refine ak<|wQ gs<|az<|h _ s2 ?_ ?_
  .have e1:acc.toList=us:=by
    have ul:us.length=es.size:=by rw[pu.length_eq,aR,nH]
    apply xi;intro j;by_cases hj:j<acc.size
    .have ej:acc[j]?=ae acc[j]:=by simp
     rw[qU,ej];show(Kk.2 j _ ej).symm
    .have h3:=Kk.1;rw[qU,Xz za,rX za]
   rw[e1];show pu
  .let#[h2,gg,dd,tk,os]:=s2;have q1:gg=s.gens:=mv.gens;have q2:dd=d:=mv.drawn;have q3:os=s.os:=mv.os;subst q1 q2 q3;refine#[h2,dd,tk,rfl,λb ob e=>?_,nh<|a9 gs];have bl:=a9 e;refine mv.heap b ob ?_<|aew b ob (bI bl)<|k3 b ob e;simp[bw,nX,or_false,not_or];show#[bI bl,bI<|kB (pM bl) aiT])))
end
section
variable {s:au}
theorem Fw (hh:A.handled=ag) (S:qI prog w (cJ w) s.heap a ns) (c5:ns.length<64)
 (h:∀ (l:aj) (out:Array ai) (ks:List Int) (c:Nat) (h':aI) (d:Drawn) (tk:Nat),IntsAre out.toList ks->ks.Perm ns->ks.Pairwise (·<=·)->Kp s.heap h'->s.heap.objs.size<=l->h'.get? l=ae (seqObj "list" out c)->Q (.ref l) { s with heap:=h',drawn:=d,toks:=tk }) :
 wpAny zh A (call (.builtin "sorted") [.ref a]) Q E s:=by
 let#[o,es,ep,t,ms,ho,S]:=S;refine HS HC HD HE (HF _) ?_;refine ak<|az<|ak<|Dh (by simp[hh]) ho S λus s1 pu wk=>?_;let#[h1,d,tk,rfl,k1,le]:=wk;let#[ks,ik,pk]:=jS pu S.vs;have ul:us.length<64:=by
  rw[ik.length,pk.length_eq,S.pm.length_eq];show c5
 refine ak<|wW ?_;have gl:(h1.push _).get? h1.objs.size=ae (seqObj "list" us.toArray 0):=bB _ zc;refine ak<|eB<|eW HG #[_,gl,rfl] HI (ab5 gl ik ul λout js a1 a2 a3=>#[_,rfl,az #[_,rfl,?_]])<|HJ _;let#[c,gc]:=aca gl;show h _ out js c _ d tk a1 ((a2.trans pk).trans S.pm) a3 (λb ob e=>by
  have bl:=a9<|k1 b ob e;rw[Xw (bI bl) (by rw[ud];show pM bl)];show aN _ (k1 b ob e)) le gc
end
end HT
namespace L2
open PySem.W
section
variable {a:aq} {p p2 pos uD:aC} {t:TA}
def aex (K:Frag) (vs:List V) (H:Hp) (Q:VK):zk:=∃ (p:aj) (ns:List Int),vs=[.ref p] /\ bN K H p (ns.map V.int) /\ ns.length<4000 /\ (HT.dist ns).length<64 /\ ∀ l,H l=ag->Q (.ref l) (upd H l<|.lst<|(DL.sortI<|HT.dist ns).map V.int)
theorem Fx (hc:X.calm=ah) (hg:Gl X "sorted") (hm:X.mg "sorted"=ag) (wc:Gl X "set") (we:X.mg "set"=ag) (ha:PA X [a] t) (hs:DL.bJ a=ah) :
 PE X (.Call (.Name "sorted" p) [.Call (.Name "set" p2) [a] [] uD] [] pos) (Io (aex X.K) t):=by
 intro pins s σ H Q I h;have st:=DL.fH (e:=.Call (.Name "set" p2) [a] [] uD) zc [] X.env;refine tO<|jj I hg hm (by decide +kernel:bootBuiltins "sorted"=ae (.builtin "sorted")) ?_ ze<|rfl;refine callWith_builtin1 ?_ st<|DL.jG zc;rw[st];change wpAny _ _ (spliced ((af,eval (.Call (.Name "set" p2) [a] [] uD) X.env)::backTo pos (starEach [] X.env))) _ _ s;refine vH<|tO<|jj I wc we (rfl:bootBuiltins "set"=ae (.type "set")) ?_ ze<|rfl;refine callWith_type1 (tA (ha uD pins s σ H _ I h) λus s1 vs H1 I1 r1 q1=>?_) (DL.fH hs [] X.env) zc;let#[l,ns,rfl,hl,hn,c5,q]:=q1;let#[u,rfl,ru]:=Vals.one r1;cases ru;have sb:scanBound=4096:=rfl;have hd:=I1.ok.hd hc;let#[its,r',pl,hz]:=I1.list hl;show HT.Mz hd pl.isList (AV r') za (λs' e=>by
  let#[h',tk,rfl,S,hk]:=e;have lz:s1.heap.objs.size<=h'.objs.size:=by
   let#[o,_,_,_,_,ho,_]:=S;show nh<|a9 ho
  refine vG<|HT.Fw hd S c5 λL out ks c h2 d ZD a1 a2 a3 k2 le gL=>?_;have e:=DL.oX (a2.trans (DL.f9 _).symm) a3<|DL.gJ _;subst e;have ll:((DL.sortI<|HT.dist ns).map V.int).length<=sizeLine:=by
   rw[aR,(DL.f9 _).length_eq];show cB (nh c5) ze
  have I2:=I1.laid (t':=ZD) (o:=.lst<|(DL.sortI<|HT.dist ns).map V.int) (λb u e=>k2 b u<|hk b u e) (cB lz le) #[ll,out.toList,c,DL.oC a1,gL];show#[.ref L,_,#[I2.ok,I2.os,I2.bare,I2.base,I2.loc,I2.cell,I2.free,I2.qt,I2.pin,I2.aD,I2.len],rfl,q L<|I1.aD.fresh<|cB lz le])
end
end L2
namespace L2.DL
open PySem.W
def sY:List D->Option Res:=λxs=>match xs with
 |[.lst l]=>(intsOf l).bind λns=>if ns.length<4000 /\ (HT.dist ns).length<64 then ae (.lst<|(sortI<|HT.dist ns).map D.int) else ag
 |_=>ag
theorem aiU:km (aex K) sY:=by
 intro F H xs vs Q s sub rx e k;unfold sY at e;split at e
 .ext l;let#[v,t,rfl,#[a,ws,rfl,h3,h4],h2]:=rx;cases (h2);cases e1:intsOf l with
  |none=>rw[e1]at e;cases e
  |some ns=>
    rw[e1]at e;erw[bS]at e;split at e
    .ext hn;cases e;have q1:=h4.ints e1;subst q1;show#[a,ns,rfl,.of h3,hn.1,hn.2,λp hp=>k _ _ #[p,_,rfl,hp,rfl,AK _]]
    .cases e
 .cases e
section
variable {a:aq} {p p2 pos uD:aC} {m:DE (List W)}
theorem Fy (bo:Bool) (hc:X.calm=ah) (hg:Gl X "sorted") (hm:X.mg "sorted"=ag) (wc:Gl X "set") (we:X.mg "set"=ag) (ha:dH X T Z [a] m) (hs:bJ a=ah) :
 PD X T Z (.Call (.Name "sorted" p) [.Call (.Name "set" p2) [a] [] uD] [] pos) (dN bo sY m):=PE.imp (Fx hc hg hm wc we ha hs)<|LS aiU
end
end L2.DL
namespace HT
open PySem.W
section
variable {s:au} {v d:aj} {i:Nat}
end
section
variable {K:Type} [DecidableEq K] {knd:HeapKind prog w K} {s:au} {d:aj} {k:K} {xs:List (K × aj × ai)} {v:ai}
end
end HT
namespace L2
open PySem.W
section
variable {o f:aq} {cR p:aC} {td ty tx:TE}
end
section
variable {elt it aiV Kk:aq} {aiW:List aq} {scope:bT} {pos:aC} {i acc:ai} {env:Env}
end
section
variable {s:au}
end
abbrev TK:=St->Hp->List Int->(St->Hp->List Int->zk)->zk
section
variable {s:au} {D:aj} 
end
section
variable {src:List (Option Nat)} {elt:aq} {rest:List Comprehension} {scope:bT} {pos cR p:aC} {wi:TI} {g:TG} {tf:TT} {k:TK} {body:ai -> Env -> Sem Unit}
end
end L2
namespace L2.DL
section
variable {a:aq} {pos p p1:aC}
end
noncomputable def aiX (bx:List Bx) (k:Nat):Nat:=match bx[k]? with|some (.lst l)=>l.length|_=>0
section
variable {src:List (Option Nat)} {elt:aq} {scope:bT} {pos:aC} {g:DG} 
end
open PySem.W
abbrev DK:=aQ->List Bx->List Int->Option (aQ×List Bx×List Int)
section
variable {g:DG} {k:DK}
end
section
variable {src:List (Option Nat)} {elt aiV Kk:aq} {aiW:List aq} {scope:bT} {pos cR p:aC} {alJ:DE (List W)} {g g2:DG} {alK:DE Bool} 
end
def ve:List D->Option (List Key)
 |[]=>ae []
 |d::l=>(pI d).bind λk=>(ve l).map λt=>k::t
theorem Gw:∀ {l:List D}{ks:List Key}{vs:List V},ve l=ae ks->aG F l vs->vs=ks.map kV:=by
 intro l_;induction l_ with
 |nil=>(intro _ _ e h;cases e;show h)
 |cons d l ay=>
   intro ks _ e h;let#[v,t,rfl,h1,h2]:=h;unfold ve at e;cases e1:pI d with
   |none=>rw[e1]at e;cases e
   |some k=>
     cases e2:ve l with
     |none=>rw[e1,e2]at e;cases e
     |some t'=>
       rw[e1,e2]at e;cases e;rw[jt e1 h1,ay e2 h2];rfl
noncomputable def kI (l:List<|List Key×D) (k:List Key):Option D:=(l.find? λx=>decide (x.1=k)).map (·.2)
theorem bP.length {F:Hp}:∀ {l:List (List Key×D)}{r:List (List Key×V)},bP F l r->l.length=r.length
 |[],_,h=>by cases (h);rfl
 | (k,d)::l,_,h=>by
   let#[v,t,rfl,_,h2]:=h;simp[h2.length]
theorem bP.get {F:Hp}{k:List Key}:∀ {l:List (List Key×D)}{r:List (List Key×V)},bP F l r->(∀ d,kI l k=ae d->∃ v,eI r k=ae v /\ Den F d v) /\ (kI l k=ag->eI r k=ag)
 |[],_,h=>by cases (h);show#[λd e=>by simp[kI]at e,λ_=>rfl]
 | (k',d)::l,_,h=>by
   let#[v,t,rfl,h1,h2]:=h;by_cases e:k'=k
   .have g:kI ((k',d)::l) k=ae d:=by simp[kI,e]
    rw[g,jD e];show#[λd' z=>by cases z;show#[v,rfl,h1],λz=>by cases z]
   .have g:kI ((k',d)::l) k=kI l k:=by simp[kI,e]
    rw[g,jk e];show h2.get
section
variable {o f:aq} {pos p cR:aC} 
noncomputable def ye:DE W:=λ_ bx=>.val (.b bx.length)<|bx++[.dT []]
theorem PH:PD X T Z (.Dict [] [] pos) ye:=by
 refine PE.imp C5 λσ H Q=>x4 λF r env bx R h=>λq hq=>?_;refine h F _ _ _ #[Sub.refl F,xh r [q]] (R.IG hq #[R.rh hq,[],fw,rfl]) #[q,rfl,?_];rw[<-R.len,nF<|aE _,tU];rfl
end
section
variable {o f:aq} {pos Ik:aC}
noncomputable def uG (l:List<|Key×D) (k:Key):List (Key×D):=l.filter λkv=>decide (kv.1≠k)
theorem aK.drop {F:Hp}(k:Key):∀ {l:List (Key×D)}{vs:List (Key×V)},aK F l vs->aK F (uG l k) (qB vs k)
 | [],_,h=>by
   cases (h);show rfl
 | (k',d)::l,_,h=>by
   let#[v,t,rfl,h1,h2]:=h;have ih:=aK.drop k h2;by_cases c:k'=k
   .have e1:uG ((k',d)::l) k=uG l k:=tZ (by simp[c]);have e2:qB ((k',v)::t) k=qB t k:=tZ (by simp[c]);rw[e1,e2];show ih
   .have e1:uG _ k=(k',d)::uG l k:=ua (by simp[c]);have e2:qB _ k=(k',v)::qB t k:=ua (by simp[c]);rw[e1,e2];show#[v,_,rfl,h1,ih]
theorem bA.at {r':List aj}(g:bA F r F' r') (h:r[n]?=ae a):r'[n]?=ae a:=by
 let#[t,e]:=g.p;rw[<-e,eK (List.getElem?_eq_some_iff.mp h).1];show h
def vf (m k:DE W):DE W:=λenv bx=>fA zD λx bx1=>match x with
 | .b n=>(match bx1[n]? with
   | some (.aB _)=>fA (k env bx1) λy bx2=>(match y,bx2[n]? with
     |.d d,ae (.aB l)=>(match pI d with|some k=>.val (.d<|(ku l k).getD .non) bx2|none=>.bad)
     |_,_=>.bad)
   |_=>.bad)
 |_=>.bad
theorem PJ {Q:VK}(h:tD T Z (vf ma mb) σ H Q):aea (tD T Z ma) (tD T Z mb) σ H Q:=by
 let#[F,r,env,bx,R,h]:=h;refine#[F,r,env,bx,R,End.bind h λx bx1 F1 r1 v H1 g1 R1 d1 h1=>?_];cases x with
 |b n=>
   simp at h1;let#[a,rfl,ha]:=d1;let#[c,hc,kc]:=R1.eX ha;rw[hc]at h1;cases c with
   |aB l0=>
     let#[_,sQ,k0,_]:=kc;refine#[a,rfl,.inl #[sQ,.inl k0],F1,r1,env,bx1,R1,End.bind h1 λy bx2 F2 r2 u H2 g2 R2 d2 h2=>?_];let#[c2,kS,rD]:=R2.eX<|g2.at ha;rw[kS]at h2;split at h2
     .ext d l eq;cases eq;let#[hF,vs,k1,k2]:=rD;split at h2
      .ext k e1;cases jt e1 d2;refine#[_,qC.k k1,?_];cases q:ku l k with
       |none=>
         rw[q]at h2;rw[aK.none k2 q];show h2 F2 r2 _ H2 (.refl F2 r2) R2 zc
       |some w=>
         rw[q]at h2;let#[z,e3,e4]:=aK.some k2 q;rw[e3];show h2 F2 r2 _ H2 (.refl F2 r2) R2 e4
      .show h2.elim
     .show h2.elim
   |_=>show h1.elim
 |_=>show h1.elim
theorem MD (hu:X.A.units+1<cLine) (ho:PD X T Z o ma) (ha:PD X T Z e mb) (m:M1 X o "get" apos e pos):PD X T Z (.Call (.Attribute o "get" apos) [e] [] pos) (vf ma mb):=
 PE.imp (Mc hu ho ha m) λσ H Q h=>PJ h
def yf (m k:DE W):DE W:=λenv bx=>fA zD λx bx1=>match x with
 | .b n=>(match bx1[n]? with
   | some (.aB _)=>fA (k env bx1) λy bx2=>(match y,bx2[n]? with
     |.d d,ae (.aB l)=>(match pI d with|some k=>(match ku l k with|some u=>.val (.d u) (bx2.set n<|.aB<|uG l k)|none=>.bad)|none=>.bad)
     |_,_=>.bad)
   |_=>.bad)
 |_=>.bad
theorem US {Q:VK}(h:tD T Z (yf ma mb) σ H Q):aeb (tD T Z ma) (tD T Z mb) σ H Q:=by
 let#[F,r,env,bx,R,h]:=h;refine#[F,r,env,bx,R,End.bind h λx bx1 F1 r1 v H1 g1 R1 d1 h1=>?_];cases x with
 |b n=>
   simp at h1;let#[a,rfl,ha]:=d1;let#[c,hc,kc]:=R1.eX ha;rw[hc]at h1;cases c with
   |aB l0=>
     let#[_,sQ,k0,_]:=kc;refine#[a,rfl,.inl #[sQ,.inl k0],F1,r1,env,bx1,R1,End.bind h1 λy bx2 F2 r2 u H2 g2 R2 d2 h2=>?_];have rC:=g2.at ha;let#[c2,kS,rD]:=R2.eX rC;rw[kS]at h2;split at h2
     .ext d l eq;cases eq;let#[hF,vs,k1,k2]:=rD;split at h2
      .ext k e1;cases jt e1 d2;split at h2
       .ext w q;let#[z,e3,e4]:=aK.some k2 q;show#[vs,k,z,k1,rfl,e3,h2 F2 r2 _ _ (.refl F2 r2) (R2.write rC hF #[hF,_,fw,aK.drop k k2]) e4]
       .show h2.elim
      .show h2.elim
     .show h2.elim
   |_=>show h1.elim
 |_=>show h1.elim
theorem PK (ho:PD X T Z o ma) (ha:PD X T Z e mb) (m:M1 X o "pop" apos e pos):PD X T Z (.Call (.Attribute o "pop" apos) [e] [] pos) (yf ma mb):=
 PE.imp (Md ho ha m) λσ H Q h=>US h
def uH (m k:DE W):aA:=λenv bx=>bC zD λx bx1=>bC (k env bx1) λy bx2=>match x,y with
 | .b n,.d d=>(match bx2[n]?,pI d with
   |some (.aB l),ae k=>if (ku l k).isSome then .nx env (bx2.set n<|.aB<|uG l k) else .bad
   |_,_=>.bad)
 |_,_=>.bad
theorem WF {D:Ends}(h:tS T Z (uH ma mb) D σ H):ad9 (tD T Z ma) (tD T Z mb) D σ H:=by
 let#[F,r,env,bx,R,h]:=h;refine#[F,r,env,bx,R,End.bC h λx bx2 F2 r2 v H2 g2 R2 d2 h2=>#[F2,r2,env,bx2,R2,End.bC h2 λy bQ F3 r3 u H3 g3 R3 d3 h3=>?_]];split at h3
 .let#[a,rfl,ha]:=(g3.den d2);let#[c,hc,kc]:=R3.eX ha;rw[hc]at h3;split at h3
  .ext l k e1 e2;cases e1;split at h3
   .ext hl;let#[hF,ao,k1,k2]:=kc;cases jt e2 d3;show#[a,ao,k,rfl,k1,rfl,by rw[Mq k2];show hl,h3 F3 r3 _ _ (.refl F3 r3)<|R3.write ha hF #[hF,_,fw,aK.drop k k2]]
   .show h3.elim
  .show h3.elim
 .show h3.elim
theorem PL (ho:PD X T Z o ma) (hi:PD X T Z e mb):cD X T Z (.Delete [.Subscript o e Ik] pos) (uH ma mb):=
 PS.imp (O9 ho hi) λD σ H h=>WF h
def rK (m:DE W) (k:DE W):DE W:=λenv bx=>fA zD λx bx1=>match x with
 | .b n=>(match bx1[n]? with
   | some (.lst _)=>fA (k env bx1) λy bx2=>(match y,bx2[n]? with
     |.d (.lst r),ae (.lst l)=>if l.length+r.length<=sizeLine then .val (.d .non) (bx2.set n<|.lst<|l++r) else .bad
     |_,_=>.bad)
   |_=>.bad)
 |_=>.bad
theorem WG {Q:VK}(h:tD T Z (rK ma mb) σ H Q):Iv X.K "list" adz (tD T Z ma) (Im (tD T Z mb) Il) σ H Q:=by
 let#[F,r,env,bx,R,h]:=h;refine#[F,r,env,bx,R,End.bind h λx bx1 F1 r1 v H1 g1 R1 d1 h1=>?_];cases x with
 |b n=>
   simp at h1;let#[a,rfl,ha]:=d1;let#[c,hc,kc]:=R1.eX ha;rw[hc]at h1;cases c with
   |lst l0=>
     let#[_,sQ,k0,_]:=kc;refine#[.inl #[rfl,sQ,bN.of k0],F1,r1,env,bx1,R1,End.bind h1 λy bx2 F2 r2 u H2 g2 R2 d2 h2=>?_];have rC:=g2.at ha;let#[c2,kS,rD]:=R2.eX rC;rw[kS]at h2;split at h2
     .ext q l eq;cases eq;let#[hF,vs,k1,k2]:=rD;let#[b,zs,rfl,k3,k4]:=d2;split at h2
      .ext hz;show#[a,b,vs,zs,rfl,rfl,k1,R2.fh _ _ k3,by rw[<-k2.length,<-k4.length];show hz,h2 F2 r2 _ _ (.refl F2 r2) (R2.write rC hF #[hF,vs++zs,fw,k2.append k4]) zc]
      .show h2.elim
     .show h2.elim
   |_=>show h1.elim
 |_=>show h1.elim
theorem JR (ho:PD X T Z o ma) (ha:PD X T Z e mb)
 (vV:attributeBase o "extend" X.env (eval o X.env)=eval o X.env:=by rfl)
 (vW:((backTo pos<|starEach [e] X.env).all (λx=>!x.1)&&(backToKw pos<|keywordEach [] X.env).all (λx=>x.1.isSome)
  && decide zad)=ah:=by rfl)
 (vX:(apos.endLine==pos.line)=ah:=by rfl) (hs:starEach [e] X.env=(af,eval e X.env)::starEach [] X.env:=by rfl) :
 PD X T Z (.Call (.Attribute o "extend" apos) [e] [] pos) (rK ma mb):=
 PE.imp (LM XG PySem.F.slot_list_extend PySem.F.type_list_extend Jn ho (jq ha lu hs) vV vW vX hs (by rfl)) λσ H Q h=>WG h
end
section
variable {i:Nat} {l:List D} {vs:List V}
end
end L2.DL
namespace L2
end L2
namespace L2.DL
section
variable {a b c f o:aq} {pos p:aC} {k k' nn:Nat} {ps:List Str} {m:DE (List W)}
end
end L2.DL
namespace L2
open PySem.W
section
variable {s:au} {ao:List (Key × V)} 
theorem Inv.aey (I:Inv X pins σ H s) {u0 u:HO}(h:H a=ae u0) (n1:∀ xs,u0≠.tup xs) (n2:∀ o v,X.H₀ a≠ae (.bM o v)) (n3:∀ ps,u0≠.uf ps) (n4:∀ y,u0≠.own y) (new:cz X.prog X.w (upd H a u) s.heap a u):Inv X pins σ (upd H a u) s:=by
 have ne:∀ {b},H b=ag->upd H a u b=ag:=λ{b} e=>by rw[fC (λz=>by rw[z,h]at e;cases e)];show e
 have ke:∀ {b v},H b=ae v->v≠u0->upd H a u b=ae v:=λ{b v} e n=>by rw[fC (λz=>by rw[z,h]at e;cases e;show n rfl)];show e
 refine#[I.ok,I.os,I.bare,#[I.base.keep,I.base.slot,λb o e n x=>ne<|I.base.free b o e n x,I.base.there,λb xs e=>ke (I.base.nZ b xs e) λz=>n1 xs z.symm,λb o v e=>?_,λb ps e=>?_],I.loc,I.cell,ne I.free,λx c e=>ne<|I.qt x c e,λp hp=>?_,λb v e=>?_,I.len]
 .rw[fC λz=>n2 o v (by rw[<-z];show e)];show I.base.pV b o v e
 .let#[m,q]:=I.base.qW b ps e;show#[m,ke q λz=>n3 _ z.symm]
 .let#[q1,q2,q3]:=I.pin p hp;show#[q1,ne q2,q3]
 .by_cases z:b=a
  .subst z;rw[fw]at e;cases e;show new
  .rw[fC z]at e;show(I.aD b v e).stay (λ_ _ _ q=>q) (λc q=>ke q λz=>n4 _ z.symm) λc xs q=>ke q λz=>n1 _ z.symm
theorem Inv.freeze (I:Inv X pins σ H s) (h:H a=ae zam):∃ o,s.heap.get? a=ae o /\ (∀ o v,X.H₀ a≠ae (.bM o v)) /\ Inv X pins σ (upd H a<|.bM o zam) s:=by
 let#[z,y,vs,r,ob,es,ep,e,c]:=I.aD a _ h;have nf:∀ o v,X.H₀ a≠ae _:=λo v q=>by have:=I.base.pV a o v q;rw[h]at this;cases this
 show#[ob,e,nf,I.aey h (λ_ q=>nomatch q) nf (λ_ q=>nomatch q) (λ_ q=>nomatch q) #[e,z,y,vs,r,ob,es,ep,e,c]]
theorem Inv.sZ (I:Inv X pins σ H s) (h:H a=ae (.bM o zam)) (nf:∀ o v,X.H₀ a≠ae (.bM o v)):Inv X pins σ (upd H a zam) s:=by
 let#[_,q]:=I.aD a _ h;show I.aey h (λ_ q=>nomatch q) nf (λ_ q=>nomatch q) (λ_ q=>nomatch q) q
def EJ (a:aj) (o:aZ) (ao:List<|Key×V):It:=
 #[λi H=>H a=ae (.bM o zam) /\ i<ao.length,λi H x H'=>H'=H /\ ∃ k v,ao[i]?=ae (k,v) /\ x=kV k,λi H=>H a=ae (.bM o zam) /\ ao.length<=i]
theorem Paired.at_ {α β:Type}{F:α->β->zk}:∀ {l:List α}{m:List β}{i:Nat}{x:α},Paired F l m->l[i]?=ae x->∃ y,m[i]?=ae y /\ F x y
 |_,_,_,_,.nil,e=>by simp at e
 |_,_,0,_,.cons r t,e=>by simp at e;subst e;show#[_,rfl,r]
 |_,_,i+1,_,.cons r t,e=>by let#[y,q,f]:=Paired.at_ t (by simpa using e);show#[y,by simpa using q,f]
theorem PM {k:Key}{v:ai}(h:(c6 P w).is k v=ah):RelV (kV k) v:=by
 rcases fV h with⟨i,t,rfl,rfl⟩|⟨x,t,rfl,rfl⟩
 .show#[t,rfl]
 .show#[t,rfl]
theorem Cr {es:Array DictEntry}(q:cz P w H h a<|.bM o zam) (ed:o.data=.dict es ep):∃ vs,KV ao vs /\ h.DictAt (c6 P w) a vs ep:=by
 let#[e,_,_,vs,r,ob,es',sk,e',c1,c2,c3]:=q;rw[e]at e';cases e';rw[ed]at c2;cases c2;show#[vs,r,o,es,e,c1,ed,c3]
theorem JS (it:aj) {es:Array DictEntry}(ed:o.data=.dict es ep) (ne:a≠it):Turn P w K tg (EJ a o ao) [it] it (λi h=>h.IsKeyIter it a i ao.length ep) where
 mem:=by simp
 obj:=λi h st b hb=>by
  have e:b=it:=by simpa using hb
  subst e;let#[o,e,c,d]:=st;show#[o,e,λv z=>by rw[d]at z;cases z]
 keep:=λi h h' st k=>st.at λo e=>k it zj o e
 item:=by
  intro X hP hw hK hc i pins s σ H E I hf st hg;subst hP hw hK;let#[ha,hi]:=hg;let#[vs,r,da]:=Cr (I.aD a _ ha) ed;have hl:=Paired.length r;obtain⟨⟨k,v⟩,hx⟩:∃ p,ao[i]?=ae p:=#[ao[i],by simp];let#[#[k',v'],hy,e1,_]:=Paired.at_ r hx;cases (e1);let#[f0,f1,f2,f3,f4,f5]:=hf it zj;rw[hl]at st;refine wpAny_pyNext_dict_item st da hy λkey h' X5 n8 sb=>?_;let#[o,e,c,d]:=id n8;show#[key,rfl,CT e c d (rfl) #[kV k,H,(I.turned (λb o hb e=>(sb.2 b hb).trans e) f0 f1 f3 f4 f5),PM X5,#[rfl,k,v,hx,rfl],by rw[hl];show n8,λb hb=>(hf b hb).1]]
 done:=by
  intro X hP hw hK hc i pins s σ H E I hf st hg;subst hP hw hK;let#[ha,hi]:=hg;let#[vs,r,da]:=Cr (I.aD a _ ha) ed;have hl:=Paired.length r;let#[f0,f1,f2,f3,f4,f5]:=hf it zj;rw[hl]at st;show wpAny_pyNext_dict_end (I.ok.hd hc) st da (rX za) λh' eb=>#[rfl,I.turned (λb o hb e=>eb b o hb e) f0 f1 f3 f4 f5]
 self:=λ_ _ _ _ _ st h=>abj st h
def NF (H₀:Hp) (a:aj):zk:=∀ o v,H₀ a≠ae (.bM o v)
def ZE (H₀:Hp) (tl:TE):TI:=λσ H R=>tl σ H λx H1=>∃ a ao,x=.ref a /\ ((H1 a=ae zam /\ ∀ o,NF H₀ a->R (EJ a o ao) (upd H1 a<|.bM o zam)) \/ ∃ o,H1 a=ae (.bM o zam) /\ R (EJ a o ao) H1)
theorem ME {l:aq}{tl:TE}(hl:PE X l tl):PI X tg l (ZE X.H₀ tl):=by
 intro pins s σ H R I h;refine tE (hl pins s σ H _ I h) λv s1 x H1 I1 r1 q1=>?_;let#[a,ao,e,q]:=q1;subst e;cases r1;obtain⟨o,H2,I2,e2,q2⟩:∃ o H2,Inv X pins σ H2 s1 /\ H2 a=ae (.bM o _) /\ R (EJ a o ao) H2:=by
  rcases q with⟨e,q⟩|⟨o,e,q⟩
  .let#[o,_,nf,I2]:=I1.freeze e;show#[o,_,I2,fw,q o nf]
  .show#[o,H1,I1,e,q]
 let#[e3,_,y,_,_,ob,es,ep,e4,_,ed,_]:=id<|I2.aD a _ e2;rw[e3]at e4;cases e4;let#[vs,r,da]:=Cr (I2.aD a _ e2) ed;refine wpAny_pyIter_dict y da ?_;refine#[s1.heap.objs.size,[s1.heap.objs.size],_,_,H2,rfl,I2.kept λb o e=>aN _ e,JS _ ed<|bI<|I2.aD.lt e2,#[_,bB _ zc,rfl,by rw[(Paired.length r)];rfl],λb hb=>?_,q2];have e:b=s1.heap.objs.size:=by simpa using hb
 subst e;show I2.vL (aE _)<|I2.aD.fresh<|aE _
def vg (H₀:Hp) (Q:α->Hp->zk):α->Hp->zk:=λx H=>Q x H \/ ∃ a o ao,H a=ae (.bM o zam) /\ NF H₀ a /\ Q x (upd H a zam)
noncomputable def Ends.sZ (H₀:Hp) (D:Ends):Ends:=#[vg H₀ D.nx,vg H₀ D.rt,vg H₀ D.bk,vg H₀ D.ct]
theorem Cs {s:au}{Q:α->Hp->zk}{x:α}(I:Inv X pins σ H s) (q:vg X.H₀ Q x H):∃ H',Inv X pins σ H' s /\ Q x H':=by
 rcases q with q|⟨a,o,ao,e,nf,q⟩
 .show#[H,I,q]
 .show#[_,I.sZ e nf,q]
theorem Gx {t:TS}(h:PS X st t):PS X st (λD=>t<|D.sZ X.H₀):=λpins s σ H D I q=>cg (h pins s σ H _ I q) λf s' q'=>by
 cases f with
 |ret v=>let#[x,σ',H',I',r,q']:=q';let#[H2,I2,q2]:=Cs I' q';show#[x,σ',H2,I2,r,q2]
 |_=>let#[σ',H',I',q']:=q';let#[H2,I2,q2]:=Cs I' q';show#[σ',H2,I2,q2]
end
end L2
namespace L2.DL
open PySem.W
noncomputable def Kl:Key->D
 |.inl i=>.int i
 |.inr x=>.str x
noncomputable def vh (F:Hp) (a:aj):Hp:=λb=>if b=a then ag else F b
theorem jT {b:aj}(h:b≠a):vh F a b=F b:=if_neg h
section
variable {l:List (Key × D)} {ao:List (Key × V)}
theorem Gy:∀ {l:List (Key×D)}{ao:List (Key×V)}{i:Nat}{k:Key}{v:V},aK F l ao->ao[i]?=ae (k,v)->∃ d,l[i]?=ae (k,d) /\ Den F d v
 |[],_,i,_,_,h,e=>by cases (h);simp at e
 | (k',d)::l,_,0,_,_,h,e=>by
   let#[u,t,rfl,h1,_]:=h;let#[rfl,rfl]:=e;show#[d,rfl,h1]
 | (k',d)::l,_,i+1,_,_,h,e=>by
   let#[u,t,rfl,_,h2]:=h;show Gy (i:=i) h2 (by simpa using e)
theorem Aq (h:F a=ae (.bM o zam)):xQ F (vh F a):=λb u n e=>by
 rw[jT (λz=>by rw[z,h]at e;cases e;show n _ _ rfl)];show e
theorem bW.off (h:F a=ae (.bM o zam)):∀ {w:W}{v:V},bW F r w v->bW (vh F a) r w v
 |.d x,_,q=>Den.eF (Aq h) x q
 |.b _,_,q=>q
 |.s _,_,q=>let ⟨b,ob,e,q⟩:=q;#[b,ob,e,by rw[jT (λz=>by rw[z,h]at q;cases q)];show q]
 |.x _,_,q=>q
 |.t _,_,q=>let ⟨c,as,e,h1,h2⟩:=q;#[c,as,e,Aq h _ _ (λ_ _ z=>nomatch z) h1,h2]
 |.m _,_,q=>let ⟨c,as,e,h1,h2⟩:=q;#[c,as,e,Aq h _ _ (λ_ _ z=>nomatch z) h1,h2]
theorem Rel.bM (R:Rel T F r σ H env bx) (hb:bx[n]?=ae (.aB l)) (ha:r[n]?=ae a) (k0:F a=ag) (k2:aK F l ao) :
 Rel T (upd F a<|.bM o zam) r σ (upd H a<|.bM o zam) env (bx.set n<|.fD l):=by
 have s:=iJ (o:=.bM o zam) k0;have ma:=List.mem_iff_getElem?.mpr #[n,ha];refine#[λb u e=>?_,λi w e=>?_,by rw[qo];show R.len,R.nd,λm c b e1 e2=>?_,λb u e hn=>?_,R.new,R.n0,R.sl,λb u e=>?_]
 .by_cases z:b=a
  .subst z;rw[fw]at e ⊢;show e
  .rw[fC z]at e ⊢;show R.fh b u e
 .let#[v,e1,e2]:=R.slot i w e;show#[v,e1,e2.mono s<|pP r]
 .by_cases z:m=n
  .subst z;rw[pN (List.getElem?_eq_some_iff.mp hb).1]at e1;cases e1;rw[ha]at e2;cases e2;show#[o,ao,fw,fw,aK.mono s _ k2]
  .rw[tV λq=>z q.symm]at e1;have nb:b≠a:=λq=>z<|lA R.nd e2<|q▸ha;show(R.box m c b e1 e2).grow s (λq=>by rw[fC nb];show q) (λu q=>by rw[fC nb];show q)
 .rw[fC λz=>hn (by rw[z];show ma)];show R.keep b u e hn
 .by_cases z:b=a
  .subst z;show .inr<|.inr<|.inr ma
  .rw[fC z]at e;show R.fs b u e
theorem Rel.ZF (R:Rel T F r σ H env bx) (hb:bx[n]?=ae (.fD l)) (ha:r[n]?=ae a) :
 ∃ o ao,F a=ae (.bM o zam) /\ H a=ae (.bM o zam) /\ Rel T (vh F a) r σ (upd H a zam) env (bx.set n<|.aB l):=by
 let#[o,ao,f1,h1,dk]:=R.box n _ a hb ha;have sd:=Aq f1;refine#[o,ao,f1,h1,λb u e=>?_,λi w e=>?_,by rw[qo];show R.len,R.nd,λm c b e1 e2=>?_,λb u e hn=>?_,R.new,R.n0,R.sl,λb u e=>?_]
 .by_cases z:b=a
  .subst z;unfold vh at e;rw[if_pos rfl]at e;cases e
  .rw[jT z]at e;rw[fC z];show R.fh b u e
 .let#[v,e1,e2]:=R.slot i w e;show#[v,e1,e2.off f1]
 .by_cases z:m=n
  .subst z;rw[pN (List.getElem?_eq_some_iff.mp hb).1]at e1;cases e1;rw[ha]at e2;cases e2;show#[if_pos zc,ao,fw,aK.eF sd _ dk]
  .rw[tV λq=>z q.symm]at e1;have nb:b≠a:=λq=>z<|lA R.nd e2<|q▸ha;have q:=R.box m c b e1 e2;have fo:F b=ag->vh F a b=ag:=λz=>by rw[jT nb];show z
   have ho:∀ {u},H b=ae u->upd H a zam b=ae u:=λz=>by rw[fC nb];show z
   cases c with
   |lst _=>let#[q1,vs,q2,q3]:=q;show#[fo q1,vs,ho q2,aG.eF sd _ q3]
   |aB _=>let#[q1,vs,q2,q3]:=q;show#[fo q1,vs,ho q2,aK.eF sd _ q3]
   |dead=>let#[u,q]:=q;show#[u,ho q]
   |dT _=>let#[q1,vs,q2,q3]:=q;show#[fo q1,vs,ho q2,bP.eF sd _ q3]
   |fD _=>let#[o2,vs,q1,q2,q3]:=q;show#[o2,vs,by rw[jT nb];show q1,ho q2,aK.eF sd _ q3]
 .rw[fC λz=>hn (by rw[z];show(List.mem_iff_getElem?.mpr #[n,ha]))];show R.keep b u e hn
 .by_cases z:b=a
  .subst z;unfold vh at e;rw[if_pos rfl]at e;cases e
  .rw[jT z]at e;show R.fs b u e
theorem bA.off {r':List aj}{u:HO}(g:bA (upd F a u) r F' r') (k0:F a=ag):bA F r (vh F' a) r':=#[λb v e=>by
 have nb:=f8 e k0;rw[jT nb];show g.s b v (by rw[fC nb];show e),g.p]
def rL (l:List<|Key×D):List W:=l.map λp=>.d<|Kl p.1
theorem jU (g:F' a=ae (.bM o zam)) (k2:aK F l ao):uZ F' r (rL l) (EJ a o ao):=λT' i F1 r1 σ1 H1 env1 bx1 g1 R1=>by
 have h:=R1.fh a _<|g1.s a _ g;have hl:=k2.length;refine#[λe=>#[h,by rw[<-hl,<-e];simp[rL]],λw e=>?_];unfold rL at e;rw[kL]at e;have hi:i<ao.length:=by
  rw[<-hl];cases q:l[i]? with
  |none=>rw[q]at e;cases e
  |some p=>show(List.getElem?_eq_some_iff.mp q).1
 refine#[#[h,hi],λx H2 ⟨e2,k,v,e3,e4⟩=>?_];subst e2 e4;let#[d,e5,_]:=Gy k2 e3;rw[e5]at e;cases e;refine#[F1,.refl F1 r1,R1,?_];cases k<;>show rfl
noncomputable def qJ (n:Nat) (bx:List Bx):Option (List Bx):=match bx[n]? with|some (.fD l)=>ae (bx.set n<|.aB l)|_=>ag
def vi (n:Nat):OS->OS
 |.nx env bx=>(match qJ n bx with|some b=>.nx env b|none=>.bad)
 |.rt w bx=>(match qJ n bx with|some b=>.rt w b|none=>.bad)
 |.exc c bx=>.exc c bx
 |_=>.bad
def yh (n:Nat):O W->O W
 |.val w bx=>(match qJ n bx with|some b=>.val w b|none=>.bad)
 |o=>o
theorem Fz {b:List Bx}(h:qJ n bx=ae b):∃ l,bx[n]?=ae (.fD l) /\ b=bx.set n (.aB l):=by
 unfold qJ at h;split at h
 .cases h;show#[_,by assumption,rfl]
 .cases h
theorem PN {H₀:Hp}{u:HO}{D:Ends}(k0:F a=ag) (ha:r[n]?=ae a) (nf:NF H₀ a):∀ {q:OS},cU T Z F r D (vi n q)->cU T Z (upd F a u) r (D.sZ H₀) q
 | .nx e b,h=>λF2 r2 σ2 H2 g2 R2=>by
   cases q:qJ n b with
   |none=>simp[vi,q]at h;show h.elim
   |some b2=>
     simp[vi,q]at h;let#[l,hl,rfl]:=Fz q;let#[o,ao,f1,h1,R3]:=R2.ZF hl<|g2.at ha;show .inr #[a,o,ao,h1,nf,h _ r2 σ2 _ (g2.off k0) R3]
 | .rt w b,h=>λF2 r2 v H2 g2 R2 dv=>by
   cases q:qJ n b with
   |none=>simp[vi,q]at h;show h.elim
   |some b2=>
     simp[vi,q]at h;let#[l,hl,rfl]:=Fz q;let#[o,ao,f1,h1,R3]:=R2.ZF hl<|g2.at ha;show .inr #[a,o,ao,h1,nf,h _ r2 v _ (g2.off k0) R3<|dv.off f1]
 |.exc c b,h=>λF2 r2 H2 g2 R2=>h F2 r2 H2 #[(iJ k0).trans g2.s,g2.p] R2
 |.bk _ _,h=>h.elim
 |.ct _ _,h=>h.elim
 |.bad,h=>h.elim
theorem PP {H₀:Hp}{u:HO}{Q:VK}(k0:F a=ag) (ha:r[n]?=ae a) (nf:NF H₀ a):∀ {q:O W},End T Z bW F r σ env Q (yh n q)->End T Z bW (upd F a u) r σ env (vg H₀ Q) q
 | .val w b,h=>λF2 r2 v H2 g2 R2 dv=>by
   cases q:qJ n b with
   |none=>simp[yh,q]at h;show h.elim
   |some b2=>
     simp[yh,q]at h;let#[l,hl,rfl]:=Fz q;let#[o,ao,f1,h1,R3]:=R2.ZF hl<|g2.at ha;show .inr #[a,o,ao,h1,nf,h _ r2 v _ (g2.off k0) R3<|dv.off f1]
 |.exc c b,h=>λF2 r2 H2 g2 R2=>h F2 r2 H2 #[(iJ k0).trans g2.s,g2.p] R2
 |.bad,h=>h.elim
theorem cU.sZ {H₀:Hp}{D:Ends}:∀ {q:OS},cU T Z F r D q->cU T Z F r (D.sZ H₀) q
 |.nx _ _,h=>λF2 r2 σ2 H2 g2 R2=>.inl<|h F2 r2 σ2 H2 g2 R2
 |.rt _ _,h=>λF2 r2 σ2 H2 g2 R2 d=>.inl<|h F2 r2 σ2 H2 g2 R2 d
 |.bk _ _,h=>λF2 r2 σ2 H2 g2 R2=>.inl<|h F2 r2 σ2 H2 g2 R2
 |.ct _ _,h=>λF2 r2 σ2 H2 g2 R2=>.inl<|h F2 r2 σ2 H2 g2 R2
 |.exc _ _,h=>h
 |.bad,h=>h
theorem End.sZ {H₀:Hp}{Q:VK}:∀ {q:O W},End T Z bW F r σ env Q q->End T Z bW F r σ env (vg H₀ Q) q
 |.val _ _,h=>λF2 r2 σ2 H2 g2 R2 d=>.inl<|h F2 r2 σ2 H2 g2 R2 d
 |.exc _ _,h=>h
 |.bad,h=>h
def wC (i:Nat) (g:DG) (body:aA):aA:=λenv bx=>match env[i]? with
 | some (ae<|.b n)=>(match bx[n]? with
   |some (.aB l)=>vi n<|bX g body (rL l) env<|bx.set n<|.fD l
   |some (.fD l)=>bX g body (rL l) env bx
   |_=>.bad)
 |_=>.bad
theorem MF {i:Nat}{Q:VK}(e:env[i]?=ae (ae<|.b n)) (h:∀ F' r' a H',bA F r F' r'->Rel T F' r' σ H' env bx->r'[n]?=ae a->Q (.ref a) H'):End T Z bW F r σ env Q (dV i env bx):=by
 unfold dV;rw[e];intro F' r' v H' g R d;let#[a,rfl,ha]:=d;show h F' r' a H' g R ha
theorem UT {i:Nat}{g:DG}{m:aA}{D:Ends}{H₀:Hp}(h:tS T Z (wC i g m) D σ H):Ih (ZE H₀<|tD T Z<|dV i) (tG T g) (tS T Z m) (D.sZ H₀) σ H:=by
 let#[F,r,env,bx,R,h]:=h;unfold wC at h;split at h
 case h_2=>show h.elim
 ext n e;refine#[F,r,env,bx,R,MF e λF' r' a H' g' R' ha=>?_];split at h
 .ext l hb;let#[k0,ao,k1,k2]:=R'.box n _ a hb ha;show#[a,ao,rfl,.inl #[k1,λo nf=>L4 (R'.bM hb ha k0 k2) (jU fw k2)<|PN k0 ha nf<|cU.weak g' h]]
 .ext l hb;let#[o,ao,k0,k1,k2]:=R'.box n _ a hb ha;show#[a,ao,rfl,.inr #[o,k1,L4 R' (jU k0 k2) (cU.weak g' h).sZ]]
 .show h.elim
theorem MG {body:List cb}{g:DG}{m:aA}{i:Nat}{pos:aC}(hp:PassesOwn zf X.A X.env X.xe) (hc:X.calm=ah) (hi:PD X T Z iter<|dV i) (hg:kW X T tg g) (hb:qz X T Z body m)
 (hs:∀ x,foldedSetIterable iter X.env x=pure x:=by intro _;rfl):cD X T Z (.For tg iter body [] pos) (wC i g m):=
 PS.imp (Gx<|D8 hp hc (ME hi) hg hb hs) λD σ H h=>UT h
def wD (bo:Bool) (src:List<|Option Nat) (i:Nat) (g:DG) (tf:DE Bool) (te:DE W):DE W:=λenv bx=>match env[i]? with
 | some (ae<|.b n)=>(match bx[n]? with
   |some (.aB l)=>yh n<|fA (bK g tf te (rL l) (eR src env) (bx.set n<|.fD l) []) λl bx2=>cj bo (ae<|.lst l) bx2
   |some (.fD l)=>fA (bK g tf te (rL l) (eR src env) bx []) λl bx2=>cj bo (ae<|.lst l) bx2
   |_=>.bad)
 |_=>.bad
theorem PQ {i:Nat}{src:List (Option Nat)}{g:DG}{Q:VK}{H₀:Hp}(h:tD T Z (wD bo src i g tf te) σ H Q) :
 Iz src (ZE H₀<|tD T Z<|dV i) (Ef g) (Eg #[E0,Z.cl] tf) (Eh #[E0,Z.cl] te) σ H (vg H₀ Q):=by
 let#[F,r,env,bx,R,h]:=h;unfold wD at h;split at h
 case h_2=>show h.elim
 ext n e;refine#[F,r,env,bx,R,MF e λF' r' a H' g' R' ha=>?_];split at h
 .ext l hb;let#[k0,ao,k1,k2]:=R'.box n _ a hb ha;show#[a,ao,rfl,.inl #[k1,λo nf=>Fd (R'.bM hb ha k0 k2) (jU fw k2)<|PP k0 ha nf<|End.weak g' h]]
 .ext l hb;let#[o,ao,k0,k1,k2]:=R'.box n _ a hb ha;show#[a,ao,rfl,.inr #[o,k1,Fd R' (jU k0 k2) (End.weak g' h).sZ]]
 .show h.elim
theorem JT {src:List (Option Nat)}{elt:aq}{scope:bT}{pos vd:aC}{g:DG}(i:Nat) (bo:Bool) (hc:X.calm=ah) (S:sI X N src scope) (hi:PD X T Z iter<|dV j)
 (hg:∀ T cl s H C fp,kW zN T tg g) (hf:∀ T cl s H C fp,PF zN ifs<|sL T #[E0,Z.cl] tf) (he:∀ T cl s H C fp,PD zN T #[E0,Z.cl] elt te)
 (hN:X.N.Nodup) (wx:X.N[i]?=ae x) (hx:Loc X.env.scope x) (EF:swapsWith zy (ae<|.Name x pos') vd.line X.env=pure ah)
 (EG:X.fn x=ah \/ X.env.scope.names.lookup x=ae .local) (hs:∀ x,foldedSetIterable iter X.env x=pure x):cD X T Z (.Assign [.Name x pos'] zy vd) (fF (wD bo src j g tf te)<|fe i):=by
 show PS.imp (Gx (Gu (g:=Ef g) (tf:=Eg _ tf) (te:=Eh _ te) hc S (ME hi) (λcl s H C fp pins s' σ' H' v u Q I rv ⟨T,q⟩=>hg T cl s H C fp pins s' σ' H' v u Q I rv q)
  (λcl s H C fp pins s' σ' H' Q I ⟨T,q⟩=>hf T cl s H C fp pins s' σ' H' Q I q) (λcl s H C fp pins s' σ' H' Q I ⟨T,q⟩=>he T cl s H C fp pins s' σ' H' Q I q) hN wx hx EF EG hs)) λD σ H=>x4 λF r env bx R h=>(PQ #[F,r,env,bx,R,End.bC h λw bx1 F1 r1 v H1 g1 R1 d1 h1=>h1 F1 r1 _ H1 zU<|R1.set d1 i])
end
end L2.DL
namespace HT
open PySem.W
def wF (h:aI) (d:aj) (vs:List ai) (ep:Nat):zk:=∃ o es,h.get? d=ae o /\ o.cls=.type "dict" /\ o.data=.dict es ep /\ es.toList.map (·.key)=vs
theorem wF.at {d:aj}(x:wF h d vs ep) (k:∀ o,h.get? d=ae o->h'.get? d=ae o):wF h' d vs ep:=let ⟨o,es,e,r⟩:=x;#[o,es,k o e,r]
section
variable {s:au} {v d:aj} {i:Nat}
theorem PR (y:(d==sysModules)=af) (hm:wF s.heap d vs ep)
 (q:Q zab { s with heap:=s.heap.push { cls:=.type "dict_keyiterator",data:=.fields (List.toArray [.ref d,.int 0 0,.int vs.length 0,.int ep 0]) } }):wpAny zh A (pyIter<|.ref d) Q E s:=by
 let#[o,es,e2,c2,d2,ev]:=id hm;have sz:es.size=vs.length:=by rw[<-ev];simp
 have ty:s.TypeIs (.ref d) "dict":=#[o,e2,c2];refine yC ty acF<|eW acF ty PySem.F.entry_dict_iter ?_<|PySem.F.args_dict_iter_1 _;refine ak<|ak<|abk ty ?_;refine az ?_;change wpAny _ _ (Builtin.Dict.showsAll d >>= _) _ _ s;unfold Builtin.Dict.showsAll;rw[if_neg (by rw[y];show dA)];refine ak<|az<|ak<|abl e2 d2<|ak<|abm e2 d2<|ak<|eV<|az #[_,rfl, "dict_keyiterator",_,#[_,bB _ zc,rfl],XH.lookup,?_];simpa[rawInt,sz] using q
theorem Gz {Q:Option ai->au->zk}(hit:s.heap.IsKeyIter it d i vs.length ep) (hm:wF s.heap d vs ep) (hh:A.handled=ag)
 (q:∀ x h',vs[i]?=ae x->h'.IsKeyIter it d (i+1) vs.length ep->Heap.SameBut it s.heap h'->Q (ae x) { s with heap:=h' })
 (qe:∀ h',vs[i]?=ag->Heap.ExtBut it s.heap h'->Q ag { s with heap:=h' }):wpAny zh A (pyNext<|.ref it) Q E s:=by
 let#[o,e1,c1,d1]:=id hit;let#[od,es,e2,c2,d2,ev]:=id hm;have sz:es.size=vs.length:=by rw[<-ev];simp
 unfold pyNext;refine ak<|uN<|qO hit.typeIs XH<|eW XH hit.typeIs PySem.F.entry_dict_keyiterator_next ?_<|PySem.F.args_dict_keyiterator_next_1 _;refine ak<|az<|ak<|ak ?_;first|refine ak (Q3 hit.typeIs<|az<|ak<|wZ e1 d1 ?_)|refine ak<|Q4 hit.typeIs<|az<|ak<|wZ e1 d1 ?_
 simp only[];change wpAny _ _ (if (Value.ref d==Value.none)=ah then _ else _) _ _ s;rw[if_neg (show ¬ ((Value.ref d==Value.none)=ah) from dA)];refine ak<|az<|ak<|abl e2 d2 ?_;rw[if_neg (by rw[sz];simp)];refine ak<|az<|ak<|abm e2 d2 ?_;rw[if_neg zj];refine az ?_;rcases xb i vs.length with hl|hl
 .have kU:i<es.size:=by rw[sz];show hl
  simp[nq,Array.getElem?_eq_getElem kU];refine ak ?_;first|refine ak (Q3 hit.typeIs<|az<|ak<|Q5 hit.typeIs ?_)|refine ak<|Q4 hit.typeIs<|az<|ak<|Q5 hit.typeIs ?_
  change wpAny _ _ (setField (.ref it) 1 (rawInt<|(i)+1) >>= _) _ _ s;refine ak<|rT e1 d1 zj ?_;have h2:(s.heap.update it (Obj.mapFields (·.setIfInBounds 1 (rawInt<|(i)+1)))).IsKeyIter it d (i+1) vs.length ep:=
   #[_,sf _ e1<|xr<|qr d1 _,(yK ..).trans c1,by rw[qr d1];simp[rawInt]]
  refine ak (eB (ak (Q5 (s:={ s with heap:=s.heap.update it (Obj.mapFields (·.setIfInBounds 1 (rawInt<|(i:Int)+1))) }) h2.typeIs ?_)));change wpAny _ _ (pure es[i].key) _ _ _;show az<|az #[_,rfl,az<|q _ _ (by rw[<-ev];simp[kU]) h2<|Heap.SameBut.update ..]
 .simp[show ¬ ((i:Int)<0) from by lia,if_false,nq,Xz (show es.size<=i by rw[sz];show hl)];refine ak ?_;first|refine ak (Q3 hit.typeIs<|az ?_)|refine ak (Q4 hit.typeIs<|az ?_)
  change wpAny _ _ (setField (.ref it) 0 .none >>= _) _ _ s;refine ak<|rT e1 d1 zj ?_;change wpAny _ _ (newExc (.type "StopIteration") [] >>= _) _ _ _;refine ak ?_;simp[newExc,newTuple];refine ak<|eV (ak (m:=firstArgMember _ _)<|yA (a:=Value.none) (by first|rfl|(simp[firstArgMember];rfl))<|eV ?_ (by size_fits)) (by size_fits);erw[raiseNew];refine ak<|He ?_;rw[show A.in1.handled=ag from hh];refine ak<|az<|Hf ?_;show ak<|yD (T:="StopIteration") (b:=ah) #[_,bB _ zc,rfl] Hg<|az<|qe _ (rX hl)<|((Heap.SameBut.update ..).extBut.push _).push _
theorem PU (hh:A.handled=ag) (eS:d≠it) (vs:List ai) (ep:Nat):Walks prog w A it [it,d] [it] vs.length (λi v=>vs[i]?=ae v) (λi h=>h.IsKeyIter it d i vs.length ep /\ wF h d vs ep) where
 sub:=λb hb=>by simp at hb;simp[hb]
 frame:=λ_ _ _ st hk=>#[st.1.at λo e=>hk it zj o e,st.2.at λo e=>hk d zj o e]
 item:=λi s Q E hi st hQ=>Gz st.1 st.2 hh (λx h' hx h2 sb=>hQ x h' s.toks hx #[h2,st.2.at λo e=>sb.extBut d o eS e] λb o hb e=>sb.extBut b o (λz=>hb (by simp[z])) e) λh' hx _=>by rw[List.getElem?_eq_none_iff]at hx;lia
 done:=λs Q E st hQ=>Gz st.1 st.2 hh (λx h' hx _ _=>by simp at hx) λh' _ he=>hQ h' s.toks λb o hb e=>he b o (λz=>hb (by simp[z])) e
 self:=λ_ _ _ _ st hQ=>abj st.1 hQ
theorem UU (y:(d==sysModules)=af) (vs:List ai) (ep:Nat):KdlSrc prog w "dict" d d vs.length (λi v=>vs[i]?=ae v) (λh=>wF h d vs ep) where
 type:=λ_ hm=>let ⟨o,_,ho,hc,_⟩:=hm;#[o,ho,hc]
 there:=λ_ hm=>let ⟨_,_,ho,_⟩:=hm;#[a9 ho,a9 ho]
 keep:=λ_ _ hm hk=>hm.at λo e=>hk d (.inr zc) o e
 notList:=rfl
 notTuple:=rfl
 hint:=λ_ _ _ _ hm hq=>kdl_hint_dict (let ⟨o,_,ho,hc,_⟩:=hm;#[o,ho,hc]) hq
 iter:=λ_ _ hh hm=>#[_,_,(λ_ _ hq=>PR y hm hq),PU hh (bI (let ⟨_,_,ho,_⟩:=hm;a9 ho)) vs ep,#[#[_,bB _ zc,rfl,rfl],hm.at λo e=>aN _ e]]
end
end HT
namespace L2
open PySem.W
section
variable {o:aq} {p pos:aC} {td:TE}
def aiY (td:TE):TE:=λσ H Q=>td σ H λx H1=>∃ a ao,x=.ref a /\ H1 a=ae (.dT ao) /\ ∀ bs,Paired (λ(q:List Key×V) (b:aj)=>H1 b=ae (.tup<|q.1.map kV)) ao bs->∀ l,H1 l=ag->Q (.ref l) (upd H1 l<|.lst<|bs.map V.ref)
theorem PV (r:KT H ao xs):Paired (λ(q:List Key×V) (b:aj)=>H b=ae (.tup<|q.1.map kV)) ao (xs.map (·.2.1)):=by
 induction r with
 |nil=>show .nil
 |cons h t ih=>show .cons h.2.1 ih
theorem JU:∀ bs:List aj,Vals (bs.map V.ref) (bs.map Value.ref):=by
 intro l_;induction l_ with
 |nil=>show .nil
 |cons b bs ay=>show .cons zc<|ay
theorem MH (hc:X.calm=ah) (hg:Gl X "list") (hm:X.mg "list"=ag) (ho:PE X o td) (hs:DL.bJ o=ah):PE X (.Call (.Name "list" p) [o] [] pos) (aiY td):=by
 intro pins s σ H Q I h;refine tO<|jj I hg hm (by decide +kernel:bootBuiltins "list"=ae (.type "list")) ?_ ze<|rfl;refine callWith_type1 ?_ (DL.fH hs [] X.env) zc;rw[DL.fH hs [] X.env];change wpAny _ _ (spliced ((af,eval o X.env)::backTo pos _)) _ _ s;refine vH<|tE (ho pins s σ H _ I h) λu s1 x H1 I1 rx hh=>?_;let#[a,ao,ex,ea,q1]:=hh;subst ex;obtain rfl:u=Value.ref a:=rx;let#[zl,hd,xs,rel,dd]:=SO I1.aD ea;let#[ob,es,ep,hq,h2,h3,h4,_,h5]:=id dd;have lx:((xs.map (·.2.1)).map Value.ref).length<=sizeLine:=by rw[aR,aR,<-Paired.length rel];show zl
 refine vG (kdl_call (HT.UU hd _ ep) (I1.ok.hd hc) #[ob,es,hq,h2.1,h3,by rw[h4,bj,bj];rfl] lx λh' tk acc c hk hD aez=>?_);have ev:acc.toList=(xs.map (·.2.1)).map Value.ref:=by
  apply xi;intro j;by_cases hj:j<acc.size
  .have ej:acc[j]?=ae acc[j]:=by simp
   rw[qU,ej];show(aez.2 j _ ej).symm
  .have h3:=aez.1;rw[qU,Xz za,rX za]
 show#[.ref _,_,(I1.laid (t':=tk) (o:=.lst ((xs.map (·.2.1)).map V.ref)) (λb u e=>hk b u e) (aE _) #[by rw[aR];rw[aR]at lx;show lx,acc.toList,c,(by rw[ev];show JU _),by simpa using hD]),rfl,q1 _ (PV rel) _<|I1.aD.fresh<|aE _]
def aiZ (td:TE):TE:=λσ H Q=>td σ H λx H1=>∃ a ao,x=.ref a /\ Rd H1 a zam /\ ∀ l,H1 l=ag->Q (.ref l) (upd H1 l zam)
theorem JV (hg:Gl X "dict") (hm:X.mg "dict"=ag) (ho:PE X o td) (hs:DL.bJ o=ah):PE X (.Call (.Name "dict" p) [o] [] pos) (aiZ td):=by
 intro pins s σ H Q I h;refine tO<|jj I hg hm (by decide +kernel:bootBuiltins "dict"=ae (.type "dict")) ?_ ze<|rfl;refine callWith_type1 ?_ (DL.fH hs [] X.env) zc;rw[DL.fH hs [] X.env];change wpAny _ _ (spliced ((af,eval o X.env)::backTo pos _)) _ _ s;refine vH<|tE (ho pins s σ H _ I h) λu s1 x H1 I1 rx hh=>?_;let#[a,ao,ex,ea,q1]:=hh;subst ex;obtain rfl:u=Value.ref a:=rx;let#[zl,hd,vs,rel,dd]:=mV I1.aD ea;refine vG<|kt_call_dict hd dd (by rw[<-Paired.length rel];show zl) λh' nM sb=>?_;show#[.ref _,_,(I1.laid (t':=s1.toks) (o:=.dK ao) (λb u e=>(sb.2 b<|bI<|a9 e).trans<|aN _ e) (aE _) #[zl,(beq_eq_false_iff_ne.mpr<|uP I1.big),vs,rel,nM]),rfl,q1 _<|I1.aD.fresh<|aE _]
end
end L2
namespace L2.DL
open PySem.W
section
variable {o:aq} {p pos:aC} 
theorem Rel.ai0 (R:Rel T F r σ H env bx) {b:aj}{vs:List V}(hb:H b=ae (.tup vs)):∃ F',bA F r F' r /\ Rel T F' r σ H env bx /\ F' b=ae (.tup vs):=by
 cases q:F b with
 |some u=>
   have:=R.fh b u q;rw[hb]at this;cases this;show#[F,.refl F r,R,q]
 |none=>
   have s:=iJ (o:=.tup vs) q;refine#[upd F b _,#[s,pP r],#[λa u e=>?_,λi w e=>?_,R.len,R.nd,λn c a e1 e2=>?_,R.keep,R.new,R.n0,R.sl,λa u e=>?_],fw]
   .by_cases z:a=b
    .subst z;rw[fw]at e;cases e;show hb
    .rw[fC z]at e;show R.fh a u e
   .let#[v,e1,e2]:=R.slot i w e;show#[v,e1,e2.mono s<|pP r]
   .have k:=R.box n c a e1 e2;have ne:∀ {u},H a=ae u->(∀ ys,u≠.tup ys)->upd F b (.tup vs) a=F a:=λ{u} z y=>fC λq=>by rw[q,hb]at z;cases z;show y _ zc
    cases c with
    |lst _=>let#[q1,ws,q2,q3]:=k;show#[(ne q2 λ_ z=>nomatch z).trans q1,ws,q2,aG.mono s _ q3]
    |aB _=>let#[q1,ws,q2,q3]:=k;show#[(ne q2 λ_ z=>nomatch z).trans q1,ws,q2,aK.mono s _ q3]
    |dead=>show k
    |dT _=>let#[q1,ws,q2,q3]:=k;show#[(ne q2 λ_ z=>nomatch z).trans q1,ws,q2,bP.mono s _ q3]
    |fD _=>let#[o2,ws,q1,q2,q3]:=k;show#[o2,ws,s _ _ q1,q2,aK.mono s _ q3]
   .by_cases z:a=b
    .subst z;rw[fw]at e;cases e;show .inl #[_,rfl]
    .rw[fC z]at e;show R.fs a u e
theorem MI:∀ (k:List Key),aG F (k.map Kl) (k.map kV):=by
 intro l_;induction l_ with
 |nil=>show rfl
 |cons k t ay=>show#[_,_,rfl,by cases k<;>show rfl,ay]
abbrev Km (l:List<|List Key×D):List D:=l.map λq=>.tup<|q.1.map Kl
theorem Rel.nZ:∀ {l:List (List Key×D)}{ao:List (List Key×V)}{bs:List aj}{F:Hp},Rel T F r σ H env bx->bP F l ao->Paired (λ(q:List Key×V) (b:aj)=>H b=ae (.tup<|q.1.map kV)) ao bs->∃ F',bA F r F' r /\ Rel T F' r σ H env bx /\ aG F' (Km l) (bs.map V.ref)
 | [],_,_,F,R,h,q=>by
   cases (h);cases q;show#[F,.refl F r,R,rfl]
 | (k,d)::l,_,_,F,R,h,q=>by
   let#[v,t,rfl,_,h2]:=h;cases q with
   |@cons _ b _ bs q1 q2=>
     let#[F1,g1,R1,e1]:=R.ai0 q1;let#[F2,g2,R2,d2]:=Rel.nZ R1 (bP.mono g1.s _ h2) q2;show#[F2,g1.trans g2,R2,V.ref b,_,rfl,#[b,_,rfl,g2.s _ _ e1,MI k],d2]
def EK (bo:Bool) (m:DE W):DE W:=λenv bx=>fA zD λx bx1=>match x with
 | .b n=>(match bx1[n]? with
   |some (.dT l)=>cj bo (ae<|.lst<|Km l) bx1
   |_=>.bad)
 |_=>.bad
theorem MJ (bo:Bool) (hc:X.calm=ah) (hg:Gl X "list") (hm:X.mg "list"=ag) (ho:PD X T Z o ma) (hs:bJ o=ah):PD X T Z (.Call (.Name "list" p) [o] [] pos) (EK bo ma):=by
 refine PE.imp (MH hc hg hm ho hs) λσ H Q=>x4 λF r env bx R h=>#[F,r,env,bx,R,End.bind h λx bx1 F1 r1 v H1 g1 R1 d1 h1=>?_];split at h1
 case h_2=>show h1.elim
 let#[a,rfl,ha]:=d1;let#[c,hc,kc]:=R1.eX ha;rw[hc]at h1;split at h1
 case h_2=>show h1.elim
 ext l0 e0;cases e0;let#[_,ao,k1,k2]:=kc;refine#[a,ao,rfl,k1,λbs hb l hl=>?_];let#[F2,g2,R2,d2]:=Rel.nZ R1 k2 hb;show g9 R2 (End.weak g2 h1) #[l,_,rfl,hl,rfl,d2]
def wG (bo:Bool) (m:DE W):DE W:=λenv bx=>fA zD λx bx1=>match p8 bx1 x with
 |some l=>cj bo (ae<|.aB l) bx1
 |none=>.bad
theorem JW (bo:Bool) (hg:Gl X "dict") (hm:X.mg "dict"=ag) (ho:PD X T Z o ma) (hs:bJ o=ah):PD X T Z (.Call (.Name "dict" p) [o] [] pos) (wG bo ma):=by
 refine PE.imp (JV hg hm ho hs) λσ H Q=>x4 λF r env bx R h=>#[F,r,env,bx,R,End.bind h λx bx1 F1 r1 v H1 g1 R1 d1 h1=>?_];split at h1
 .ext l q;let#[a,ao,rfl,k1,k2]:=AU R1 d1 q;show#[a,ao,rfl,k1,λl hl=>g9 R1 h1 #[l,_,rfl,hl,rfl,k2]]
 .show h1.elim
noncomputable def tj (l:List<|List Key×D) (k:List Key) (d:D):List (List Key×D):=
 if (l.any λkv=>decide (kv.1=k))=ah then l.map (λkv=>if kv.1=k then (kv.1,d) else kv) else l++[(k,d)]
theorem bP.any {F:Hp}(k:List Key):∀ {l:List (List Key×D)}{vs:List (List Key×V)},bP F l vs->(l.any λkv=>decide (kv.1=k))=(vs.any λkv=>decide (kv.1=k))
 |[],_,h=>by cases (h);rfl
 |(k',d')::l,_,⟨v,r,e,h1,h2⟩=>by subst e;simp[rW,bP.any k h2]
theorem bP.map {F:Hp}{k:List Key}{d:D}{v:V}(hv:Den F d v):∀ {l:List (List Key×D)}{vs:List (List Key×V)},bP F l vs->bP F (l.map λkv=>if kv.1=k then (kv.1,d) else kv) (vs.map λkv=>if kv.1=k then (kv.1,v) else kv)
 |[],_,h=>by cases (h);rfl
 | (k',d')::l,_,⟨u,r,e,h1,h2⟩=>by
   subst e;by_cases c:k'=k
   .simp[aL,c];show#[v,_,rfl,hv,bP.map hv h2]
   .simp[aL,c];show#[u,_,rfl,h1,bP.map hv h2]
theorem bP.app {F:Hp}{m:List (List Key×D)}{us:List (List Key×V)}(hm:bP F m us):∀ {l:List (List Key×D)}{vs:List (List Key×V)},bP F l vs->bP F (l++m) (vs++us)
 |[],_,h=>by cases (h);show hm
 |(k',d')::l,_,⟨u,r,e,h1,h2⟩=>by subst e;show#[u,_,rfl,h1,bP.app hm h2]
theorem bP.put2 {k:List Key}{d:D}{l:List (List Key×D)}{vs:List (List Key×V)}(h:bP F l vs) (hv:Den F d v):bP F (tj l k d) (putK vs k v):=by
 unfold tj putK;rw[bP.any k h];split
 .show bP.map hv h
 .show bP.app (show bP F [(k,d)] _ from#[v,[],rfl,hv,rfl]) h
def rM (m k v:DE W):aA:=λenv bx=>bC (v env bx) λz bx1=>bC (m env bx1) λx bx2=>bC (k env bx2) λy bQ=>match x,y,z with
 | .b n,.d (.tup d),.d u=>(match bQ[n]?,ve d with
   |some (.dT l),ae k=>if l.length<sizeLine then .nx env (bQ.set n<|.dT<|tj l k u) else .bad
   |_,_=>.bad)
 |_,_,_=>.bad
theorem JX {value:aq}(hu:X.A.units+1<cLine) (ho:PD X T Z o ma) (hi:PD X T Z e mb) (hv:PD X T Z value mc) (hs:swapsWith value (ae<|.Subscript o e pos') pos.line X.env=pure af) :
 cD X T Z (.Assign [.Subscript o e pos'] value pos) (rM ma mb mc):=by
 refine PS.imp (Gn hu ho hi hv hs) λD σ H=>x4 λF r env bx R h=>?_;refine#[F,r,env,bx,R,End.bC h λz bx1 F1 r1 t H1 g1 R1 d1 h1=>#[F1,r1,env,bx1,R1,End.bC h1 λx bx2 F2 r2 v H2 g2 R2 d2 h2=>#[F2,r2,env,bx2,R2,End.bC h2 λy bQ F3 r3 u H3 g3 R3 d3 h3=>?_]]];split at h3
 .let#[a,rfl,ha]:=(g3.den d2);let#[c,hc,kc]:=R3.eX ha;rw[hc]at h3;split at h3
  .ext l k e1 e2;cases e1;split at h3
   .ext hl;let#[hF,ao,k1,k2]:=kc;let#[b,us,rfl,f1,f2]:=d3;cases Gw e2 f2;show#[a,_,rfl,.inr #[ao,k,b,k1,rfl,R3.fh _ _ f1,by rw[<-k2.length];show hl,rfl],h3 F3 r3 _ _ (.refl F3 r3)<|R3.write ha hF #[hF,_,fw,k2.put2<|g3.den<|g2.den d1]]
   .show h3.elim
  .show h3.elim
 .show h3.elim
def cS (m:DE W) (k:Str):DE W:=λenv bx=>fA zD λx bx1=>match x with
 |.m l=>(match l.lookup k with|some n=>.val (.b n) bx1|none=>.bad)
 |_=>.bad
theorem GA {k:Str}{n:Nat}:∀ {l:List (Str×Nat)}{as:List aj},uY r (l.map (·.2)) as->l.lookup k=ae n->∃ a,r[n]?=ae a /\ eI (List.zipWith (λk a=>((.inr k.1:Key),V.ref a)) l as) (.inr k)=ae (.ref a)
 |[],_,_,e=>by cases e
 | (x,m)::l,_,h,e=>by
   let#[a,t,rfl,h1,h2]:=h;rw[List.zipWith_cons_cons];rw[kM]at e;cases q:k==x with
   |true=>
     rw[q]at e;cases e;have:k=x:=by simpa using q
     subst this;show#[a,h1,jD zc]
   |false=>
     rw[q]at e;let#[b,e1,e2]:=GA h2 e;refine#[b,e1,?_];rw[jk (λz=>by cases z;simp at q)];show e2
theorem UV {k:Str}{q:aC}(hu:X.A.units+1<cLine) (ho:PD X T Z o ma):PD X T Z (.Subscript o (.Constant (.str k) j q) pos) (cS ma k):=by
 refine PE.imp (Gm hu ho Av λ_ _=>rfl) λσ H Q=>x4 λF r env bx R h=>#[F,r,env,bx,R,End.bind h λx bx1 F1 r1 v H1 g1 R1 d1 h1=>?_];split at h1
 .split at h1
  .ext n e;let#[c,as,rfl,f1,ad]:=d1;let#[a,e1,e2]:=GA ad e;show#[c,.ref a,rfl,.inl #[_,.inr k,.inl<|R1.fh _ _ f1,rfl,e2.symm],h1 F1 r1 _ H1 zU R1 #[a,rfl,e1]]
  .show h1.elim
 .show h1.elim
end
noncomputable def qK:Nat->Bx
 |0=>.lst []
 |1=>.aB []
 |_=>.dT []
noncomputable def aeA:Nat->HO
 |0=>.lst []
 |1=>.dK []
 |_=>.dT []
def ai1 (n:Nat):TE:=λ_ H Q=>∀ p,H p=ag->Q (.ref p) (upd H p<|aeA n)
noncomputable def ZG (q:Str×Nat):TE×TE:=(λ_ H Q=>Q (.str q.1) H,ai1 q.2)
noncomputable def Kn:List (Str×Nat)->Nat->List (Str×Nat)
 |[],_=>[]
 |q::l,n=>(q.1,n)::Kn l (n+1)
def yi (l:List<|Str×Nat):DE W:=λ_ bx=>if (l.map (·.1)).Nodup /\ l.length<=15 then .val (.m<|Kn l bx.length) (bx++l.map λq=>qK q.2) else .bad
section
variable {pos:aC}
noncomputable abbrev EL (l:List<|Str×Nat) (as:List aj):List (Key×V):=List.zipWith (λk a=>(.inr k.1,V.ref a)) l as
theorem BX {p:aj}:∀ {l:List (Str×Nat)}{r:List aj}{H:Hp}{bx:List Bx}{Q:List (V×V)->Hp->zk},Rel T F r σ H env bx->H p=ae (.dK [])->p∉r ->
 (∀ as H2,Rel T F (r++as) σ H2 env (bx++l.map λq=>qK q.2)->H2 p=ae (.dK [])->p∉r++as->as.length=l.length->Q ((EL l as).map λkv=>(kV kv.1,kv.2)) H2)->IV (l.map ZG) σ H Q
 |[],r,H,bx,Q,R,hp,hn,h=>h [] H (by simpa using R) hp (by simpa using hn) zc
 | (k,n)::l,r,H,bx,Q,R,hp,hn,h=>λq hq=>by
   have c:sJ F (upd H q<|aeA n) q (qK n):=by
    match n with
    |0=>show#[R.rh hq,[],fw,rfl]
    |1=>show#[R.rh hq,[],fw,rfl]
    |_+2=>show#[R.rh hq,[],fw,rfl]
   have ne:=f8 hp hq;refine BX (R.IG hq c) (by rw[fC ne];show hp) (by simp[hn,ne]) λas H2 R2 h2 n2 hl=>?_;show h _ H2 (by simpa using R2) h2 (by simpa using n2) (by simp[hl])
theorem JY:∀ {l:List (Key×V)}{acc:List (Key×V)},((acc++l).map (·.1)).Nodup->wm acc l=acc++l:=by
 intro l_;induction l_ with
 |nil=>(intro acc _;show(tW acc).symm)
 |cons q l ay=>
   intro acc h;have e:putK acc q.1 q.2=acc++[q]:=by
    unfold putK;rw[if_neg];intro z;let#[x,m,e]:=kC.mp z;rw[rZ,uR]at h;show h.2.2 x.1 (qT m) q.1 zj<|of_decide_eq_true e
   change wm (putK acc q.1 q.2) l=_;rw[e,ay (by simpa using h)];simp
theorem Di:∀ {l:List (Str×Nat)}{as r:List aj},as.length=l.length->uY (r++as) ((Kn l r.length).map (·.2)) as /\ List.zipWith (λk a=>((.inr k.1:Key),V.ref a)) (Kn l r.length) as=EL l as
 |[],[],_,_=>#[rfl,rfl]
 |[],_::_,_,h=>by cases h
 |q::l,[],_,h=>by cases h
 | q::l,a::as,r,h=>by
   let#[h1,h2]:=Di (r:=r++[a]) (by simpa using h);rw[cX,pO]at h1;rw[cX]at h2;refine#[#[a,as,rfl,?_,h1],(congrArg _ h2)]
   .rw[nF<|aE _,tU];rfl
theorem GB:∀ {l:List (Str×Nat)}{as:List aj},as.length=l.length->(EL l as).map (·.1)=l.map λq=>.inr q.1
 |[],_,_=>rfl
 |q::l,[],h=>by cases h
 |q::l,a::as,h=>congrArg _<|GB (by simpa using h)
theorem Rel.own (R:Rel T F r σ H env bx) {u:HO}(hf:F p=ag) (hn:p∉r) (hT:T.H₀ p=ag):Rel T (upd F p u) r σ (upd H p u) env bx:=by
 have s:=iJ (o:=u) hf;refine#[λa v e=>?_,λi w e=>?_,R.len,R.nd,λn c a e1 e2=>?_,λa v e m=>?_,R.new,R.n0,R.sl,λa v e=>?_]
 .by_cases z:a=p
  .subst z;rw[fw]at e ⊢;show e
  .rw[fC z]at e ⊢;show R.fh a v e
 .let#[v,e1,e2]:=R.slot i w e;show#[v,e1,e2.mono s<|pP r]
 .have ne:a≠p:=λz=>hn (by rw[<-z];show List.mem_iff_getElem?.mpr #[n,e2]);show(R.box n c a e1 e2).grow s (λz=>by rw[fC ne];show z) λu z=>by rw[fC ne];show z
 .rw[fC (λz=>by rw[z,hT]at e;cases e)];show R.keep a v e m
 .by_cases z:a=p
  .subst z;show .inr<|.inr<|.inl hT
  .rw[fC z]at e;show R.fs a v e
theorem MK {l:List (Str×Nat)}{ks:List (Option aq)}{vs:List aq}(h:xX X pos ks vs<|l.map ZG) (yX:ks.all (·.isSome)=ah) (hl:ks.length=vs.length) (h0:ks≠[]) (Zo:ks.length<=15):PD X T Z (.Dict ks vs pos) (yi l):=by
 refine PE.imp (Pb h yX hl h0 Zo) λσ H Q=>x4 λF r env bx R h=>λp hp=>?_;unfold yi at h;split at h
 case isFalse=>show h.elim
 ext nd;have hn:=R.xR hp;have hT:T.H₀ p=ag:=by
  cases q:T.H₀ p with
  |none=>rfl
  |some u=>rw[R.keep p u q hn]at hp;cases hp
 refine BX (R.adQ hp) fw hn λas H2 R2 h2 n2 hl=>#[h2,EL l as,rfl,by simp;lia,?_];have nk:((EL l as).map (·.1)).Nodup:=by
  rw[GB hl,List.Nodup,qp];show(qp.mp nd.1).imp λh z=>h<|Sum.inr.inj z
 rw[JY nk,nW];let#[a1,a2]:=Di hl;rw[R.len]at a1 a2;show h _ _ _ _ #[iJ<|R.rh hp,xh r as] (R2.own (R.rh hp) n2 hT) #[p,as,rfl,by rw[a2];show fw,a1]
noncomputable def aeB:Option aq->Option Str
 |some (.Constant (.str k) _ _)=>ae k
 |_=>ag
noncomputable def aeC:aq->Option Bool
 |.Dict [] [] _=>ae ah
 |.List [] _=>ae af
 |_=>ag
theorem PY {k:Option aq}(h:aeB k=ae x):∃ j p,k=ae (.Constant (.str x) j p):=by
 rcases k with _|e<;>try cases h
 cases e<;>try cases h
 rename_i v _ _;cases v<;>cases h;show#[_,_,rfl]
theorem PZ {v:aq}{b:Bool}(h:aeC v=ae b):∃ p,v=if b then .Dict [] [] p else .List [] p:=by
 cases v<;>try cases h
 .ext ks vs p;cases ks<;>cases vs<;>cases h;show#[p,rfl]
 .ext es p;cases es<;>cases h;show#[p,rfl]
def ZH (kd:Str->Bool):List (Option aq)->List aq->Option (List<|Str×Nat)
 |[],[]=>ae []
 |k::ks,v::vs=>(aeB k).bind λk=>(aeC v).bind λb=>(ZH kd ks vs).map ((k,if b then if kd k then 2 else 1 else 0)::·)
 |_,_=>ag
theorem GC {kd:Str->Bool}:∀ {ks:List (Option aq)}{vs:List aq}{l:List (Str×Nat)},ZH kd ks vs=ae l->xX X pos ks vs (l.map ZG) /\ ks.all (·.isSome)=ah /\ ks.length=vs.length /\ ks.length=l.length
 |[],[],_,h=>by cases h;show#[Pa,rfl,rfl,rfl]
 | k::ks,v::vs,l,h=>by
   let#[x,e1,h]:=Option.bind_eq_some_iff.mp h;let#[t,e2,h]:=Option.bind_eq_some_iff.mp h;let#[m,e,rfl]:=Option.map_eq_some_iff.mp h;let#[_,_,rfl]:=PY e1;let#[_,rfl]:=PZ e2;let#[a,b,c,d]:=GC e;refine#[?_,b,by simp[c],by simp[d]];cases t
   .show AM Av (PE.imp (LH lu) λσ H Q h=>#[eC _,h]) a
   cases kd x
   .show AM Av C4 a
   .show AM Av C5 a
end
end L2.DL
namespace HT
open PySem.W
theorem P0 (A:eN) (s:au) {v:ai}{a b:aF}(p:nz h v a) (q:nz h u b) (hl:a.like b=ah):∃ e,SeqAt.EqAt A s v u e /\ (e=ah ↔ a=b):=by
 cases a with
 |i n=>
   cases b with
   |i m=>let#[t,rfl]:=p;let#[t',rfl]:=q;show#[_,XI n t m t',by simp]
   |_=>cases hl
 |s x=>
   cases b with
   |s y=>let#[t,rfl]:=p;let#[t',rfl]:=q;show#[_,XJ x t y t',by simp]
   |_=>cases hl
theorem P3 (A:eN) (s:au) {v:ai}{a b:aF}(p:nz h v a) (q:nz h u b) (hl:a.like b=ah) (prog:dD) (w:cw) (E:ai->au->zk) (Q:ai->au->zk) (k:Q (.bool<|a.lt b) s) :
 wpAny zh A (richCompare .Lt v u) Q E s:=by
 cases a with
 |i n=>
   cases b with
   |i m=>let#[t,rfl]:=p;let#[t',rfl]:=q;show(ab8 k)
   |_=>cases hl
 |s x=>
   cases b with
   |s y=>let#[t,rfl]:=p;let#[t',rfl]:=q;show(lt_str k)
   |_=>cases hl
section
open PySem.SeqAt
open PySem.AutoSeq1 (wpAny_loadPart')
open PySem.MeetsSeq PySem.MeetsSeq2 PySem.MeetsSeq3
theorem By (l b:aj) (items tF:Array ai) (n n2:Nat) (dd uW:Option aj) (sl sx:Array<|Option ai) (h0:aI) (x y:List aF) (hi:dU h0 items.toList x) (hj:dU h0 tF.toList y) (hl:eT x y=ah) :
 Meets (Builtin.«tuple.__lt__» #[[.ref l,.ref b],[]])
  (λ_ R s=>s.heap.get? l=ae { cls:=.type "tuple",dict:=dd,data:=.seq items n,slots:=sl } /\ s.heap.get? b=ae { cls:=.type "tuple",dict:=uW,data:=.seq tF n2,slots:=sx } /\
   R (.ok<|.ret<|.bool<|bR x y) s):=
 .of_wp λprog w A R s h=>by
  let#[hp,g,d,tk,os]:=s;let#[kU,hb,h]:=h;have f2:=agF;have z1:items.size=x.length:=by rw[<-hi.length];simp
  have z2:tF.size=y.length:=by rw[<-hj.length];simp
  wp_walk using wpAny_loadPart' kU,wpAny_loadPart' hb,wpAny_forIn_list _ (λrest b s'=>b.1=ag /\ s'=#[hp,g,d,tk,os] /\ ∃ (vs ws:List ai) (p q:List aF),rest=vs.zip ws /\
   dU h0 vs p /\ dU h0 ws q /\ eT p q=ah /\ p.length+tF.size=q.length+items.size /\ R (.ok<|.ret<|.bool<|bR p q) #[hp,g,d,tk,os]) _
  case turn=>
   rintro⟨v,u⟩ rest b s' ⟨ZI,rfl,vs,ws,p,q,hz,hv,hw,hk,hlen,hR⟩;cases hv with
   |nil=>rw[abI]at hz;cases hz
   |@cons v' a vs p ha ai2=>
     cases hw with
     |nil=>rw[List.zip_nil_right]at hz;cases hz
     |@cons u' c ws q hc ai3=>
       rw[uQ]at hz;injection hz with ai4 ai5;injection ai4 with hy hx;subst hy hx;simp[bz]at hlen;have uk:(a.like c&&eT p q)=ah:=hk;rw[aJ]at uk;unfold bR at hR;let#[e,he,aeD]:=P0 A.in1 #[hp,g,d,tk,os] ha hc uk.1;refine ak<|he prog w _ _ ?_;cases e with
       |true=>
         rw[if_pos<|aeD.mp rfl]at hR
         wp_walk
         show#[rfl,rfl,_,_,_,_,ai5,ai2,ai3,uk.2,by lia,hR]
       |false=>
         rw[if_neg λq=>absurd (aeD.mpr q) dA]at hR
         wp_walk using (P3 A.in1 #[hp,g,d,tk,os] ha hc uk.1 prog w)
         show#[_,rfl,by simpa using hR]
  case fin=>
   rintro⟨b1,b2⟩ s' ⟨ZI,rfl,vs,ws,p,q,hz,hv,hw,hk,hlen,hR⟩;simp at ZI;subst ZI;have hx:bR p q=decide (items.size<tF.size):=by
    cases hv with
    |nil=>
      cases hw with
      |nil=>simp[pQ]at hlen;unfold bR;show(decide_eq_false za).symm
      |cons c hw=>simp[pQ,bz]at hlen;unfold bR;show(decide_eq_true za).symm
    |cons a hv=>
      cases hw with
      |nil=>simp[pQ,bz]at hlen;unfold bR;show(decide_eq_false za).symm
      |cons c hw=>rw[uQ]at hz;cases hz
   rw[hx]at hR
   wp_walk
   show#[_,rfl,by simpa[Builtin.Tuple.tupleCompareSizes] using hR]
  case h=>show⟨rfl,rfl,items.toList,tF.toList,x,y,rfl,hi,hj,hl,by lia,h⟩
end
theorem P4 {s:au}{l b:aj}{tF:Array ai}{x y:List aF}(hl:IsTup s.heap l items) (hb:IsTup s.heap b tF) (hi:dU s.heap items.toList x) (hj:dU s.heap tF.toList y)
 (hk:eT x y=ah) (hu:A.units<cLine) (h:Q (.bool<|bR x y) s):wpAny zh A (compareOp .Lt (.ref l)<|.ref b) Q E s:=by
 let#[#[cls,dd,data,sl],ho,hc,n,hd]:=id hl;let#[#[adm,uW,data2,sx],sy,kS,n2,hd2]:=id hb;subst hc hd kS hd2;show richCompare_meets_room (op:=.Lt) #[_,ho,rfl] #[_,sy,rfl] PySem.F.slot_tuple_lt PySem.F.entry_tuple_lt (PySem.F.args_tuple_lt_2 _ _) (By l b items tF n n2 dd uW sl sx s.heap x y hi hj hk)
  #[ho,sy,#[(λx=>nomatch x),h]] hu
end HT
namespace L2.DL
open PySem.W
open HT (aF eT bR)
def ZJ:R2:=λx y H Q=>∃ F a b vs us l m,x=.ref a /\ y=.ref b /\ Sub F H /\ F a=ae (.tup vs) /\ F b=ae (.tup us) /\ aG F (l.map kG) vs /\ aG F (m.map kG) us /\ eT l m=ah /\ Q (.bl<|bR l m) H
theorem UW (hu:X.A.units<cLine):bc X (compareOp .Lt) ZJ:=by
 intro pins s σ H x y v u Q I rx ry h;let#[F,a,b,vs,us,l,m,rfl,rfl,sub,fa,fb,da,db,k,q]:=h;cases rx;cases ry;let#[_,its,r1,p1]:=(I.aD a _<|sub _ _ fa);let#[_,sC,r2,p2]:=(I.aD b _<|sub _ _ fb);show HT.P4 p1 p2 (by simpa using Fo I sub da r1) (by simpa using Fo I sub db r2) k hu #[.bl _,H,I,rfl,q]
def dJ:D->D->Option Res
 |.int i,.int j=>ae<|.old<|.bl<|decide (i<j)
 | .tup a,.tup b=>(match sX a,sX b with
   |some l,ae m=>if eT l m=ah then ae (.old<|.bl<|bR l m) else ag
   |_,_=>ag)
 |_,_=>ag
theorem UX (hu:X.A.units<cLine):bc X (compareOp .Lt) (λx y H Q=>kQ (λi j=>.bl<|decide (i<j)) x y H Q \/ ZJ x y H Q):=Wh.or<|UW hu
theorem ai6:cx (λx y H Q=>kQ (λi j=>.bl<|decide (i<j)) x y H Q \/ ZJ x y H Q) dJ:=by
 intro F H x y v w Q s sub rx ry e k;unfold dJ at e;split at e
 .cases e;show .inl #[_,_,rx,ry,k _ _ #[rfl,rfl]]
 .split at e
  .ext l m e1 e2;split at e
   .ext c;cases e;rw[AQ e1]at rx;rw[AQ e2]at ry;let#[p,vs,rfl,h1,h2]:=rx;let#[q,us,rfl,h3,h4]:=ry;show .inr #[F,p,q,vs,us,l,m,rfl,rfl,sub,h1,h3,h2,h4,c,k _ _ #[rfl,rfl]]
   .cases e
  .cases e
 .cases e
noncomputable def forL (k:Nat) (g:DG) (body:aA):Nat->Nat->aA
 |0,_,_,_=>.bad
 | f+1,i,env,bx=>match bx[k]? with
   | some (.lst l)=>(match l[i]? with
     |none=>.nx env bx
     | some x=>match g (.d x) env bx with
       |none=>.bad
       | some (env1,bx1)=>match body env1 bx1 with
         |.nx bL bx2=>forL k g body f (i+1) bL bx2
         |.ct bL bx2=>forL k g body f (i+1) bL bx2
         |.bk bL bx2=>.nx bL bx2
         |o=>o)
   |_=>.bad
def ZK (m:DE W) (g:DG) (body:aA):aA:=λenv bx=>bC zD λw bx1=>match w with
 |.b k=>forL k g body (aiX bx1 k+1) 0 env bx1
 |_=>.bad
section
variable {body:List cb} {pos:aC} {mi:DE W} {g:DG} {m:aA}
theorem UY {D:Ends}(h:tS T Z (ZK mi g m) D σ H):Ih (ada K<|tD T Z mi) (tG T g) (tS T Z m) D σ H:=by
 let#[F,r,env,bx,R,h]:=h;refine#[F,r,env,bx,R,End.bC h λw bx1 F1 r1 v H1 g1 R1 d1 h1=>?_];split at h1
 case h_2=>show h1.elim
 ext k;let#[a,rfl,ha]:=d1;have at_:∀ {F'}{r'}{σ'}{H'}{aT}{bx'}{T'}{l},bA F1 r1 F' r'->Rel T' F' r' σ' H' aT bx'->bx'[k]?=ae (.lst l)->∃ vs,H' a=ae _ /\ aG F' l vs:=λ{F' r' σ' H' aT bx' T' l} g' R' e=>by
  let#[t,et]:=g'.p;let#[_,vs,k1,k2]:=R'.box k _ a e (by rw[<-et,eK (List.getElem?_eq_some_iff.mp ha).1];show ha);show#[vs,k1,k2]
 have q0:∃ xs,bN K H1 a xs:=by
  unfold forL at h1;split at h1
  .ext l e;let#[vs,k1,_]:=at_ zU R1 e;show#[vs,.of k1]
  .show h1.elim
 refine#[a,rfl,q0,λi n σ' H'=>∃ F' r' aT bx',bA F1 r1 F' r' /\ Rel T F' r' σ' H' aT bx' /\ cU T Z F' r' D (forL k g m n i aT bx'),#[_,F1,r1,env,bx1,.refl F1 r1,R1,h1],?_];rintro i n σ' H' ⟨F',r',aT,bx',g',R',h'⟩;cases n with
 |zero=>show h'.elim
 |succ n=>
 unfold forL at h';split at h'
 case h_2=>show h'.elim
 ext l el;let#[ws,k1,k2]:=at_ g' R' el;split at h'
 .ext ei;show .inl #[#[ws,.of k1,by rw[<-k2.length];show List.getElem?_eq_none_iff.mp ei],h' F' r' σ' H' (.refl F' r') R']
 .ext x ei;let#[u,e2,du]:=k2.get ei;refine .inr #[#[ws,u,.of k1,e2],λσ2 H2=>∃ F2 r2 bL bx2,bA F1 r1 F2 r2 /\ Rel T F2 r2 σ2 H2 bL bx2 /\ cU T Z F2 r2 D _,λσ2 H2 ⟨F2,r2,bL,bx2,g2,R2,h2⟩=>#[n,nE _,F2,r2,bL,bx2,g2,R2,h2],λy H2 hy=>?_];let#[rfl,hy]:=hy;have e4:=hy ws<|.of k1;rw[e2]at e4;cases e4;refine#[F',r',aT,bx',.d x,R',du,?_];cases eg:g _ aT bx' with
  |none=>simp[eg]at h';show h'.elim
  |some o=>
    let#[qA,bQ]:=o;simp[eg]at h';intro F3 r3 σ3 H3 g3 R3;refine#[F3,r3,qA,bQ,R3,?_];have gg:=g'.trans g3;cases em:m qA bQ with
    |nx uw c8=>simp[em]at h';show λF4 r4 σ4 H4 g4 R4=>#[F4,r4,uw,c8,gg.trans g4,R4,cU.weak (g3.trans g4) h']
    |ct uw c8=>simp[em]at h';show λF4 r4 σ4 H4 g4 R4=>#[F4,r4,uw,c8,gg.trans g4,R4,cU.weak (g3.trans g4) h']
    |bk uw c8=>simp[em]at h';show λF4 r4 σ4 H4 g4 R4=>h' F4 r4 σ4 H4 (g3.trans g4) R4
    |rt w c8=>simp[em]at h';show cU.weak g3 h'
    |exc c c8=>simp[em]at h';show cU.weak g3 h'
    |bad=>simp[em]at h';show h'
theorem ML (hp:PassesOwn zf X.A X.env X.xe) (hc:X.calm=ah) (hi:PD X T Z iter mi) (hg:kW X T tg g) (hb:qz X T Z body m)
 (hs:∀ x,foldedSetIterable iter X.env x=pure x:=by intro _;rfl):cD X T Z (.For tg iter body [] pos) (ZK mi g m):=
 PS.imp (D8 hp hc (Ov hi) hg hb hs) λD σ H h=>UY h
end
end L2.DL
namespace L2
open PySem.W
end L2
namespace L2.DL
open PySem.W
section
variable {o:aq} {pos:aC} 
def ZL (k m:DE W):DE W:=λenv bx=>fA (k env bx) λy bx1=>fA (m env bx1) λx bx2=>match y,x with
 | .d (.tup d),.b n=>(match bx2[n]?,ve d with
   |some (.dT l),ae k=>.val (.d<|.bl (kI l k).isSome) bx2
   |_,_=>.bad)
 |_,_=>.bad
theorem WH {Q:VK}(h:tD T Z (ZL mb ma) σ H Q):Zn (tD T Z mb) (tD T Z ma) σ H Q:=by
 let#[F,r,env,bx,R,h]:=h;refine#[F,r,env,bx,R,End.bind h λy bx1 F1 r1 u H1 g1 R1 d1 h1=>#[F1,r1,env,bx1,R1,End.bind h1 λx bx2 F2 r2 v H2 g2 R2 d2 h2=>?_]];split at h2
 .let#[a,rfl,ha]:=d2;let#[c,hc,kc]:=R2.eX ha;rw[hc]at h2;split at h2
  .ext l k e1 e2;cases e1;let#[hF,ao,k1,k2]:=kc;let#[b,us,rfl,f1,f2]:=(g2.den d1);cases Gw e2 f2;refine#[a,_,rfl,.inr #[ao,k,b,.inl k1,rfl,R2.fh _ _ f1,rfl],?_];have e:(eI ao k).isSome=(kI l k).isSome:=by
    cases q:kI l k with
    |none=>rw[k2.get.2 q];rfl
    |some w=>let#[v2,e3,_]:=k2.get.1 _ q;rw[e3];rfl
   rw[e];show h2 F2 r2 _ H2 (.refl F2 r2) R2 zc
  .show h2.elim
 .show h2.elim
theorem UZ (hu:X.A.units+1<cLine) (hi:PD X T Z e mb) (ho:PD X T Z o ma) (hm:behindInMarks .In o=af):PD X T Z (.Compare e [.In] [o] pos) (ZL mb ma):=
 PE.imp (Aw (Fg hu hi ho) hm) λσ H Q h=>WH h
end
section
variable {pos:aC} 
def vj (sub:Bool) (i:Nat) (m:DE W):aA:=λenv bx=>match env[i]? with
 |some (ae<|.d<|.int a)=>bC zD λw bx1=>(match w with|.d (.int b)=>.nx (env.set i<|ae<|.d<|.int (if sub then a-b else a+b)) bx1|_=>.bad)
 |_=>.bad
theorem SQ {i:Nat}{D:Ends}(sub:Bool) (h:tS T Z (vj sub i ma) D σ H):ac9 i (tD T Z ma) (XY λa b=>if sub then a-b else a+b) D σ H:=by
 let#[F,r,env,bx,R,h]:=h;unfold vj at h;split at h
 .ext a q;let#[v,e1,e2]:=R.slot i _ q;cases (e2);refine#[.int a,e1,F,r,env,bx,R,End.bC h λw bx1 F1 r1 u H1 g1 R1 d1 h1=>?_];split at h1
  .ext b;cases (d1);show#[a,b,rfl,rfl,h1 F1 r1 _ H1 zU<|R1.set (w:=.d<|.int _) zc i]
  .show h1.elim
 .show h.elim
theorem P5 (i:Nat) (he:PD X T Z e ma) (hN:X.N.Nodup) (hi:X.N[i]?=ae x) (hx:Loc X.env.scope x) (hf:X.fn x=ah \/ X.env.scope.names.lookup x=ae .local):cD X T Z (.AugAssign (.Name x pos') .Add e pos) (vj af i ma):=
 PS.imp (Ly hN hi hx he TH hf) λD σ H h=>SQ af h
theorem P6 (i:Nat) (he:PD X T Z e ma) (hN:X.N.Nodup) (hi:X.N[i]?=ae x) (hx:Loc X.env.scope x) (hf:X.fn x=ah \/ X.env.scope.names.lookup x=ae .local):cD X T Z (.AugAssign (.Name x pos') .Sub e pos) (vj ah i ma):=
 PS.imp (Ly hN hi hx he TJ hf) λD σ H h=>SQ ah h
end
end L2.DL
namespace K1
open L2 L2.DL
def AY:aA:=(fJ<|gC (lC "int"<|dV 0)<|IH<|lC "bool"<|dV 0)
def ju:List W->List Bx->O W:=aX 1<|aP AY
def oZ:aA:=(fJ<|gC (fj K1.ju 1 zas)<|d3 nO nO (dV 1) (dV 0)<|dV 2)
def fX:List W->List Bx->O W:=aX 3<|aP oZ
def AZ:aA:=(fJ<|gC (lC "tuple"<|dV 0)<|d3 nO nO (dV 1) (dN af bV zas)<|dV 2)
def gh:List W->List Bx->O W:=aX 3<|aP AZ
def o7:aA:=(fJ<|dN af dI<|fc (fL af [ag,ae 0] (sN<|fc zd<|fc (dN af bV zas) ff) (fe 0) fM<|d2 af dJ (d2 af ax (dV 1)<|d2 af cE (dV 0) zd)<|d2 af ax (dV 1)<|dV 0) ff)
def ia:List W->List Bx->O W:=aX 1<|aP o7
def Dj:aA:=(fJ<|gC (fj K1.gh 3<|fc (dV 0)<|fc zd<|fc (dC<|.int 5) ff)<|dN af dI<|fc (fL af [ag] (bq<|dV 0) (fe 0) fM<|fj K1.fX 3<|fc (dV 0)<|fc zi<|fc zq ff) ff)
def jV:List W->List Bx->O W:=aX 1<|aP Dj
def Dk:aA:=(fu (aM (pd (eG<|dB<|fj K1.gh 3<|fc (dV 0)<|fc (d2 af fK zq zd)<|fc (d2 af fK zq zd) ff)<|eG<|dB<|dN af dI<|fc (fL af [ag] (bq<|dV 0) (fe 0) fM<|fj K1.fX 3<|fc (dV 0)<|fc zi<|fc (dC<|.int 9) ff) ff) (fJ<|dC<|.bl af) aU)<|fJ<|dN af dI<|fc (fL af [ag,ag] (p7<|fc (dV 0)<|fc (cH af (dV 0) (cG zd) cQ) ff) (fR 2 zK) fM<|d2 af nO (dV 1)<|dV 0) ff)
def jW:List W->List Bx->O W:=aX 1<|aP Dk
def JZ:aA:=(fJ<|gC (fj K1.gh 3<|fc (dV 0)<|fc zA<|fc zA ff)<|gC (fj K1.fX 3<|fc (d2 af ax (dV 0) zi)<|fc zd<|fc (dC<|.int 999) ff)<|fj K1.jW 1<|fc (d2 af ax (dV 0) zd) ff)
def mC:List W->List Bx->O W:=aX 1<|aP JZ
def Dl:aA:=(fJ<|gC (fj K1.gh 3<|fc (dV 0)<|fc zd z9)<|dN af dI<|fc (fL af [ag] (bq<|dV 0) (fe 0) fM<|fj K1.mC 1 zas) ff)
def jX:List W->List Bx->O W:=aX 1<|aP Dl
def Ai:aA:=(fu (aM (eG<|dB<|fj K1.gh 3<|fc (dV 0)<|fc zA<|fc zA ff) (fJ<|dC<|.bl af) aU)<|fJ<|gC (dN af dI<|fc (fL af [ag,ae 1] (bq<|dV 0) (fe 0) fM<|fj K1.fX 3<|fc (dV 0)<|fc zi<|fc (d2 af cE (dV 1) zd) ff) ff)<|d2 af dJ (d2 af ax (dV 0) zi)<|d2 af ax (dV 0) zd)
def iD:List W->List Bx->O W:=aX 2<|aP Ai
def Dm:aA:=(fu (aM (eG<|dB<|lC "tuple"<|dV 0) (fJ<|dC<|.bl af) aU)<|fJ<|gC (dN af dI<|fc (fL af [ag,ae 1] (bq<|dV 0) (fe 0) fM<|fj K1.iD 2<|fc (dV 0) zI) ff)<|fj K1.ia 1 zas)
def jY:List W->List Bx->O W:=aX 2<|aP Dm
def FA:aA:=(fu (aM (eG<|dB<|fj K1.gh 3<|fc (dV 0)<|fc zai z9) (fJ<|dC<|.bl af) aU)<|fu (fF (dV 0)<|fR 4<|fq (fe 1)<|fq (fe 2)<|fq (fe 3)<|fq (fe 4) fS)<|fJ<|gC (fj K1.jV 1 zI)<|gC (fj K1.jX 1 zP)<|gC (fj K1.jY 2<|fc (dV 3)<|fc (dN af bV zP) ff)<|fj K1.fX 3<|fc (dV 4)<|fc zd<|fc (dC<|.int 9) ff)
def lG:List W->List Bx->O W:=aX 5<|aP FA
def jB:aA:=(fu (aM (dB<|d2 af dJ (dV 1)<|uA<|dV 0) (fJ<|Ep (dV 0)<|dV 1) aU)<|fJ zi)
def ib:List W->List Bx->O W:=aX 2<|aP jB
def jH:aA:=(fu (aM (dB<|d2 af ny (dV 0)<|d2 af dS (dC<|.int 10)<|dC<|.int 18) (fJ<|gN ah<|fc (d2 af cE (dV 0)<|d2 af dS (dC<|.int 10)<|dC<|.int 18) ff) aU)<|fu (fF zi<|fe 1)<|fu (iX (dR<|fc (dC<|.int 64) ff) (fe 2) zF)<|fJ<|gN ah zI)
def jZ:List W->List Bx->O W:=aX 4<|aP jH
def A0:aA:=(fu (fF (d2 af pE (d2 af ax (dV 0) zi)<|dV 1)<|fe 2)<|fu (fF (d2 af nK (d2 af ax (dV 0) zi)<|dV 1)<|Eo (dV 0) zi)<|fJ<|dV 2)
def fm:List W->List Bx->O W:=aX 3<|aP A0
def l6:aA:=(fu (fF (d2 af ax (gN af<|fc (dC<|.int 9)<|fc zq<|fc zd<|fc (dC<|.int 9) ff)<|fj K1.fm 2<|fc (dV 0) z9)<|fe 1)<|fu (fF (IQ af<|dN af dW<|fc (fL af [ag,ae 0,ae 1] (dR z9) (fe 0) fM<|fj K1.fm 2<|fc (dV 1)<|fc (d2 af fK (dV 2) zd) ff) ff)<|fe 2)<|fJ<|fO<|fc (d2 af ax (gN af<|fc (dC<|.int 30)<|fc (d2 af fK zd<|fj K1.fm 2<|fc (dV 0)<|fc (dC<|.int 20) ff)<|fc (dC<|.int 999)<|fc (dC<|.int 8) ff)<|fj K1.fm 2<|fc (dV 0) z9)<|fc (dN af rn zP) ff)
def ie:List W->List Bx->O W:=aX 3<|aP l6
end K1
namespace K2
open L2 L2.DL
def FB:aA:=(fu (dQ 2 3<|fc (gN ah ff)<|fc (fj K1.fm 2<|fc (dV 0) zI) ff)<|fu (iX (dR<|fc (d2 af ax (gN af<|fc zi<|fc zd<|fc zA z9)<|fj K1.fm 2<|fc (dV 0) z9) ff) (fe 4) zat)<|fJ<|dN af rn zP)
def jv:List W->List Bx->O W:=aX 5<|aP FB
def jw:aA:=(fJ<|dN af dI<|fc (fL af [ag,ag] (p7<|fc (dV 0)<|fc (cH af (dV 0) (cG zd) cQ) ff) (fR 2 zK) fM<|d2 af dJ (d2 af ax (dV 0) zd)<|d2 af ax (dV 1) zi) ff)
def j0:List W->List Bx->O W:=aX 1<|aP jw
def BY:aA:=(fJ<|gC (fj K1.ju 1 zas)<|d2 af ny (dV 0) zi)
def iE:List W->List Bx->O W:=aX 1<|aP BY
def MM:aA:=(fJ<|gC (fj K1.gh 3<|fc (dV 0)<|fc zA<|fc zA ff)<|gC (fj K2.iE 1<|fc (d2 af ax (dV 0) zi) ff)<|gC (fj K2.iE 1<|fc (d2 af ax (dV 0) zd) ff)<|d2 af dJ (d2 af ax (dV 0) zi)<|d2 af ax (dV 0) zd)
def oJ:List W->List Bx->O W:=aX 1<|aP MM
def jm:aA:=(fu (fF (d2 af ax (d2 af ax (dV 0) zi)<|dV 2)<|fe 4)<|fu (iX (bq<|dV 1) (fR 2<|fq (fe 5)<|fq (fe 6) fS)<|aM (dB<|d3 nO dJ (dV 5) (dV 3)<|dV 6) (fJ<|dN af maxD<|fc zi<|fc (d2 af cE (dV 4)<|d2 af nK (d2 af cE (dV 3)<|dV 5)<|d2 af ax (dV 0) zq) ff) aU)<|fJ<|dV 4)
def iU:List W->List Bx->O W:=aX 7<|aP jm
end K2
namespace bG
open L2 L2.DL
def j5:aA:=(aM (eG<|dB<|fj K1.lG 1 zas) dj aU)
def iM:List W->List Bx->O W:=aX 1<|aP j5
end bG
namespace aH
open L2 L2.DL
def Do:aA:=(fu (fF (dN af rn<|fc (fL af [ag,ae 0] (dR<|fc (d2 af fK zd<|fj K1.fm 2<|fc (dV 0)<|fc (dC<|.int 5) ff) ff) (fe 0) fM<|fj K1.fm 2<|fc (dV 1) z9) ff)<|fe 1)<|fu (fF (dN af rn<|fc (fL af [ag,ae 0] (dR<|fc (d2 af fK zd<|fj K1.fm 2<|fc (dV 0) z9) ff) (fe 0) fM<|fj K1.ie 1 zI) ff)<|fe 2)<|fu (fF (gN af ff)<|fe 3)<|fu (iX (dR<|fc (dN af bV zP) ff) (fe 4)<|fF (d2 af fK (dV 3)<|fL af [ag,ae 0,ae 4] (dR zar) (fe 0) (dB<|d2 af aY (fj K1.fm 2<|fc (dV 1)<|fc zq ff) zi)<|fO<|fc (dV 0) zP)<|fe 3)<|fJ<|fO<|fc (dV 1)<|fc (dV 2)<|fc (dN af rn<|fc (dN af dW<|fc (dV 3) ff) ff)<|fc (d2 af ax (gN af<|fc zd<|fc zA<|fc (dC<|.int 9)<|fc (d2 af fK zd<|fj K1.fm 2<|fc (dV 0)<|fc (dC<|.int 9) ff) ff)<|fj K1.fm 2<|fc (dV 0) z9) ff)
def iY:List W->List Bx->O W:=aX 5<|aP Do
def lH:aA:=(fu (fF (dN ah xV zI)<|fe 2)<|fJ<|fL af [ag,ae 0,ae 2] (bq<|dV 1) (fe 0) fM<|wB (dV 2)<|fj K1.fm 2<|fc (dV 1)<|fc (dN af bV zP) ff)
def j6:List W->List Bx->O W:=aX 3<|aP lH
def A3:aA:=(fu (dQ 3 4<|fc (fj K1.fm 2<|fc (dV 0) zP)<|fc (fj K1.fm 2<|fc (dV 0)<|fc (d2 af ax (gN af<|fc zq<|fc (dC<|.int 10) ff)<|fj K1.fm 2<|fc (dV 0)<|fc zA ff) ff) ff)<|fu (dQ 5 6<|fc (fj K1.fm 2<|fc (dV 0)<|fc (dN af bV<|fc (d2 af ax (dV 1) zi) ff) ff)<|fc (fj K1.fm 2<|fc (dV 0)<|fc (dC<|.int 5) ff) ff)<|fu (aM (dB<|d2 af aY (dV 6) zi) (fJ<|fO<|fc (dV 3)<|fc (dC<|.str "out") zar) aU)<|fu (aM (dB<|d2 af dJ (dV 6) zq) (fJ<|fO<|fc (dV 3)<|fc (dC<|.str "to")<|fc (dV 4)<|fc (dV 5) ff) aU)<|fu (fF (d2 af ax (gN af<|fc zi<|fc (fj K1.fm 2<|fc (dV 0)<|fc (dC<|.int 9) ff)<|fc (fj K1.fm 2<|fc (dV 0)<|fc (dC<|.int 40) ff)<|fc (dC<|.int 999) ff)<|fj K1.fm 2<|fc (dV 0) z9)<|fe 7)<|fJ<|fO<|fc (dV 3)<|fc zau<|fc (dV 4)<|fc (fj K1.fm 2<|fc (dV 0)<|fc (dN af bV<|fc (d2 af ax (dV 1) zd) ff) ff)<|fc (dV 5)<|fc (dV 7)<|fc (fj K1.fm 2<|fc (dV 0)<|fc (dC<|.int 100) ff) ff)
def gY:List W->List Bx->O W:=aX 8<|aP A3
def Dp:aA:=(fu (fF ye<|fe 4)<|fu (iX (dR<|fc (fj K1.fm 2<|fc (dV 0)<|fc (d2 af fK (dV 2) zd) ff) ff) (fe 5) zS)<|fJ<|fj aH.j6 2<|fc (dV 0)<|fc (EK af<|dV 4) ff)
def iZ:List W->List Bx->O W:=aX 7<|aP Dp
def o8:aA:=(fu (fF (gN ah ff)<|fe 3)<|fu (wC 1 (fe 4) z8)<|fJ<|sR 3)
def gK:List W->List Bx->O W:=aX 6<|aP o8
def ig:aA:=(fu (fF (cH af (dV 2) cQ<|cG zq)<|fR 3<|fq (fe 3)<|fq (fe 4)<|fq (fe 5) fS)<|fu (fF (cS (dV 1) "there")<|fe 6)<|fu (aM zap (fu (aM (dB<|dX af (dV 5)<|cS (dV 1) "came") (fJ<|dC<|.str "there") aU)<|fu (aM (dB<|d2 af (inD af) (d2 af ax (dV 2) zai)<|fL af [ag,ag] (bq<|fj aH.gK 3<|fc (dV 0)<|fc (dV 6)<|fc (d2 af ax (dV 2) zq) ff) (fR 2 zK) fM<|dV 1) (fJ<|dC<|.str "apart") aU)<|fu (k6 (cS (dV 1) "came") (dV 5)<|dV 2)<|fu (k6 (dV 6) (dV 5)<|fO<|fc (d2 af ax (dV 2) zq)<|fc (d2 af ax (dV 2) zai) ff)<|fu (rM (cS (dV 1) "doors") (fO<|fc (dV 3)<|fc (d2 af ax (dV 2) zai) ff)<|dC<|.bl ah)<|fJ<|dC<|.str "takes") aU)<|fu (aM (dB<|dX ah (dV 5)<|dV 6) (fJ<|dC<|.str "none") aU)<|fu (fF (cW (dV 6)<|dV 5)<|fR 2<|fq (fe 7)<|fq (fe 8) fS)<|fu (aM (dB<|d2 af aY (dV 4)<|dC<|.str "out") (fu (gj<|yf (dV 6)<|dV 5)<|k6 (cS (dV 1) "gone") (dV 5)<|dV 3)<|aM (dB<|d2 af aY (dV 8)<|d2 af ax (dV 2) zq) (fJ<|dC<|.str "same")<|aM (dB<|d2 af (inD af) (d2 af ax (dV 2) zq)<|fL af [ag,ag,ae 5] (bq<|fj aH.gK 3<|fc (dV 0)<|fc (dV 6)<|fc (dV 7) ff) (fR 2 zK) (dB<|d2 af dF (dV 0)<|dV 2)<|dV 1) (fJ<|dC<|.str "apart")<|fu (k6 (dV 6) (dV 5)<|fO<|fc (dV 7)<|fc (d2 af ax (dV 2) zq) ff)<|rM (cS (dV 1) "doors") (fO<|fc (dV 3)<|fc (d2 af ax (dV 2) zq) ff)<|dC<|.bl ah)<|fu (rM (cS (dV 1) "doors") (fO<|fc (dV 3)<|fc (dV 8) ff)<|dC<|.bl ah)<|fJ<|dC<|.str "takes")
def gG:List W->List Bx->O W:=aX 9<|aP ig
def mD:aA:=(fu (fF (yi [("there",1),("came",1),("gone",1),("doors",2),("at",0),("words",0)])<|fe 2)<|fu (iX (bq<|dN af dW zI) (fe 3)<|fu (gj<|kX (cS (dV 2) "words")<|fO<|fc (dV 3)<|fc (fj aH.gG 3<|fc (dV 0)<|fc (dV 2)<|fc (dV 3) ff) ff)<|gj<|kX (cS (dV 2) "at")<|fO<|fc (d2 af ax (dV 3) zi)<|fc (wG af<|cS (dV 2) "there") ff)<|fJ<|dV 2)
def jx:List W->List Bx->O W:=aX 4<|aP mD
def jI:aA:=(fu (dQ 2 3<|fc (d2 af cE (dN af bV<|fc (d2 af ax (dV 0) zd) ff) zd)<|fc (d2 af cE (dN af bV<|fc (d2 af ax (dV 0) zi) ff) zd) ff)<|fu (aM (dB<|d2 af aY (dV 1) zau) (fJ<|fO<|fc (dC<|.int 9)<|fc (dV 2)<|fc (dV 3)<|fc (dC<|.int 999)<|fc (dC<|.int 99) ff) aU)<|fu (aM (dB<|d2 af aY (dV 1)<|dC<|.str "out") (fJ<|fO<|fc (dC<|.int 9) ff) aU)<|fu (aM (dB<|d2 af aY (dV 1)<|dC<|.str "to") (fJ<|fO<|fc (dC<|.int 9)<|fc (dV 3) ff) aU)<|fJ<|fO ff)
def ij:List W->List Bx->O W:=aX 4<|aP jI
def J0:aA:=(fu (aM (pd (eG<|dB<|lC "tuple"<|dV 1)<|pd (dB<|d2 af dJ (dN af bV zI) zq)<|eG<|dB<|fj K2.iE 1<|fc (d2 af ax (dV 1) zi) ff) (fJ<|dC<|.bl af) aU)<|fu (fF (fj aH.ij 2<|fc (dV 0)<|fc (d2 af ax (dV 1) zd) ff)<|fe 2)<|fu (aM (dB<|d2 af dF (dN af bV zP)<|d2 af cE (dN af bV zI) zA) (fJ<|dC<|.bl af) aU)<|fJ<|dN af dI<|fc (fL af [ag,ag] (p7<|fc (cH af (dV 1) (cG zA) cQ) zP) (fR 2 zK) fM<|fj K1.fX 3<|fc (dV 0)<|fc zi zI) ff)
def j7:List W->List Bx->O W:=aX 3<|aP J0
def Dq:aA:=(fu (aM (pd (eG<|dB<|lC "list"<|dV 1)<|dB<|d2 af nL (dN af bV zI)<|dC<|.int 16) (fJ<|dC<|.bl af) aU)<|fJ<|gC (dN af dI<|fc (fL af [ag,ae 0] (bq<|dV 1) (fe 0) fM<|fj aH.j7 2<|fc (dV 1) zas) ff)<|fj K1.ia 1<|fc (dN af dW zI) ff)
def j8:List W->List Bx->O W:=aX 2<|aP Dq
def j9:aA:=(fu (gj<|fj bG.iM 1 zas)<|aM (eG<|dB<|fj aH.j8 2<|fc (dV 0) zI) dj aU)
def iN:List W->List Bx->O W:=aX 2<|aP j9
def lI:aA:=(fu (aM (dB<|d2 af aY (d2 af ax (dV 0) zd) zau) (fJ<|d2 af ax (dV 0) zai) aU)<|fu (aM (dB<|d2 af aY (d2 af ax (dV 0) zd)<|dC<|.str "to") (fJ<|d2 af ax (dV 0) zq) aU)<|fJ<|dC .non)
def fN:List W->List Bx->O W:=aX 1<|aP lI
def Ds:aA:=(fJ<|d2 af (inD ah) (fO<|fc (dN af minD<|fc (dV 1) zP)<|fc (dN af maxD<|fc (dV 1) zP) ff)<|d2 af ax (dV 0) zA)
def ja:List W->List Bx->O W:=aX 3<|aP Ds
def mE:aA:=(fu (dQ 4 5<|fc (d2 af ax (dV 3) zd)<|fc (d2 af ax (dV 3) zA) ff)<|fu (aM (nJ zap<|dB<|dX af (dV 5)<|dV 1) (fJ<|dC<|.str "there") aU)<|fu (aM (nJ (dB<|d2 af dF (dV 4) zau)<|dB<|dX ah (dV 5)<|dV 2) (fJ<|dC<|.str "none") aU)<|fu (aM (dB<|d2 af aY (dV 4)<|dC<|.str "out") (fJ<|dC<|.str "takes") aU)<|fu (fF (fj aH.fN 1<|fc (dV 3) ff)<|fe 6)<|fu (aM (nJ (dB<|d2 af aY (dV 4)<|dC<|.str "to")<|dB<|d2 af aY (cW (dV 2)<|dV 5)<|dV 6) (fJ<|dC<|.str "same") aU)<|fu (fF (ph zap (d2 af ax (dV 3) zq)<|cW (dV 1)<|dV 5)<|fe 7)<|fu (fF (wD af [ag,ae 2,ae 6] 2 (fe 0) (dB<|d2 af aY (cW (dV 1)<|dV 0)<|dV 2)<|dV 0)<|fe 8)<|fu (aM (dB<|dN af dI<|fc (fL af [ag,ae 0,ae 1,ae 7] (bq<|dV 8) (fe 0) fM<|fj aH.ja 3<|fc (dV 1)<|fc (dV 3)<|fc (cW (dV 2)<|dV 0) ff) ff) (fJ<|dC<|.str "takes") aU)<|fJ<|dC<|.str "apart")
def iS:List W->List Bx->O W:=aX 9<|aP mE
def MN:aA:=(fu (fF (gN ah ff)<|fe 2)<|fu (fF (p6 ah [])<|fe 3)<|fu (fF (p6 ah [])<|fe 4)<|fu (iX (bq<|dN af dW zI) (fe 5)<|fu (fF (d2 af ax (dV 5) zA)<|fe 6)<|fu (fF (fj aH.iS 4<|fc (dV 0)<|fc (dV 3)<|fc (dV 4)<|fc (dV 5) ff)<|fe 7) zC)<|fJ<|sR 2)
def Ct:List W->List Bx->O W:=aX 8<|aP MN
end aH
namespace cn
open L2 L2.DL
def lJ:aA:=(fu (fF (p6 ah [])<|fe 2)<|fu (iX (bq<|dV 0) (fR 3<|fq (fe 3)<|fq (fe 4)<|fq (fe 5) fS)<|fu (aM (dB<|d2 af nL (d2 af ax (dV 3) zi)<|dV 1) II aU)<|aM (dB<|eY af<|dV 5) (uH (dV 2)<|d2 af ax (dV 3) zA)<|k6 (dV 2) (d2 af ax (dV 3) zA)<|dV 5)<|fJ<|sR 2)
def gQ:List W->List Bx->O W:=aX 6<|aP lJ
def Bz:aA:=(fJ<|fL af [ag,ag,ag,ag] (bq<|fj aH.Ct 2<|fc (dV 0) zI) (fR 4<|fq (fe 0)<|fq (fe 1)<|fq (fe 2)<|fq (fe 3) fS) (dB<|d2 af aY (dV 1)<|dC<|.str "takes")<|fO<|fc (dV 0)<|fc (dV 2)<|fc (dV 3) ff)
def gq:List W->List Bx->O W:=aX 2<|aP Bz
end cn
namespace aS
open L2 L2.DL
noncomputable section
def A4:aA:=(fu (gj<|fj bG.iM 1 zas)<|fJ<|gC (fj K1.gh 3<|fc (dV 1)<|fc zi z9)<|gC (dN af dI<|fc (fL af [ag] (bq<|dV 1) (fe 0) fM<|fj K2.oJ 1 zas) ff)<|fj K2.j0 1 zI)
def lK:List W->List Bx->O W:=aX 2<|aP A4
def o9:aA:=(aM (eG<|dB<|fj aS.lK 2<|fc (dV 0) zI) dj aU)
def lc:List W->List Bx->O W:=aX 2<|aP o9
def BA:aA:=(fu (gj<|fj aS.lc 2<|fc (dV 0) zI)<|fu (gj<|fj aH.iN 2<|fc (dV 0) zP)<|aM (eG<|dB<|fj K1.fX 3<|fc (dV 3)<|fc zi<|fc (dC<|.int 9) ff) dj aU)
def im:List W->List Bx->O W:=aX 4<|aP BA
def Dt:aA:=(aM (eG<|dB<|fj K2.iE 1 zas) dj aU)
def io:List W->List Bx->O W:=aX 1<|aP Dt
def Du:aA:=(fu (iX (bq<|dV 0) (fR 3<|fq (fe 2)<|fq (fe 3)<|fq (fe 4) fS)<|aM (nJ (dB<|d2 af aY (d2 af ax (dV 2) zd) zau)<|dB<|d2 af aY (d2 af ax (dV 2) zA)<|dV 1) (fJ<|dV 2) aU)<|fJ<|dC .non)
def gM:List W->List Bx->O W:=aX 5<|aP Du
def ip:aA:=(fu (fF (gN ah ff)<|fe 2)<|fu (iX (bq<|dV 1) (fR 2<|fq (fe 3)<|fq (fe 4) fS)<|fu (gj<|rK (dV 2)<|gN af<|fc (dV 3) zar)<|gj<|rK (dV 2)<|fL af [ag,ae 0,ae 3] (sN<|fc zd<|fc (d2 af fK zq zd) ff) (fe 0) fM<|d2 af fK (dV 2)<|d2 af ck (dV 0)<|d2 af ax (dV 1) zq)<|fJ<|dV 2)
def gR:List W->List Bx->O W:=aX 5<|aP ip
def Dv:aA:=(fJ<|dN af EH<|fc (fL af [ag,ag,ag,ae 1,ae 2] (bq<|dV 0) (fR 3<|fq (fe 0)<|fq (fe 1)<|fq (fe 2) fS) fM<|gC (d2 af aY (d2 af ax (dV 0) zi)<|dV 4)<|d2 af (inD af) (dV 3)<|fO<|fc (dV 1) zP) ff)
def jb:List W->List Bx->O W:=aX 3<|aP Dv
def Dw:aA:=(fu (fF (fj cn.gQ 2<|fc (dV 2) zar)<|fe 5)<|fu (aM (dB<|dX ah (d2 af ax (dV 3) zA)<|dV 5) (fJ zi) aU)<|fu (fF (cW (dV 5)<|d2 af ax (dV 3) zA)<|fe 6)<|fu (fF (fj K2.iU 4<|fc (dV 0)<|fc (dV 1)<|fc (dV 6) zar)<|fe 7)<|fu (aM (dB<|fj aS.jb 3<|fc (dV 2)<|fc (dV 6) zar) (fF (dN af maxD<|fc zi<|fc (d2 af cE (dV 7) zd) ff)<|fe 7) aU)<|fJ<|d2 af ax (d2 af ax (d2 af ax (d2 af ax (dV 0) zd)<|d2 af ax (dV 3) zq) zd)<|dV 7)
def jc:List W->List Bx->O W:=aX 8<|aP Dw
def Dx:aA:=(fu (fF (fj aS.gR 2<|fc (dV 0) zI)<|fe 4)<|fu (iX (bq<|dV 2) (fR 3<|fq (fe 5)<|fq (fe 6)<|fq (fe 7) fS)<|gj<|rK (dV 4)<|gN af<|fc (d2 af ax (dV 5) zi)<|fc (d2 af fK (d2 af ax (dV 5) zi) zd) ff)<|fu (fF (fL af [ag,ae 3] (bq<|dN af sY zar) (fe 0) (dB<|d2 af ny (dV 0)<|d2 af ax (dV 1) zi)<|dV 0)<|fe 8)<|fu (fF (d2 af fK (cH af (dV 8) (cG zd) cQ)<|gN af<|fc (dC .non) ff)<|fe 9)<|fJ<|fL af [ag,ag,ae 0,ae 1,ae 2,ae 3] (p7<|fc (dV 8)<|fc (dV 9) ff) (fR 2 zK) fM<|fO<|fc (dV 0)<|fc (dV 1)<|fc (fj aS.jc 5<|fc (dV 2)<|fc (dV 3)<|fc (dV 4)<|fc (dV 5) zas) ff)
def lg:List W->List Bx->O W:=aX 10<|aP Dx
def J1:aA:=(fu (fF (d2 af ax (dV 3)<|dC<|.int 5)<|fe 5)<|fu (iX (bq<|fj aS.lg 4<|fc (dV 0)<|fc (dV 1)<|fc (dV 2)<|fc (dV 3) ff) (fR 3<|fq (fe 6)<|fq (fe 7)<|fq (fe 8) fS)<|fu (fF (ph (dB<|eY af<|dV 7) (dV 4)<|dN af minD<|fc (dV 7) zar)<|fe 9)<|vj af 5<|d2 af ck (dV 8)<|dN af maxD<|fc zi<|fc (d2 af cE (dV 9)<|dV 6) ff)<|fJ<|dV 5)
def mF:List W->List Bx->O W:=aX 10<|aP J1
def FC:aA:=(fu (gj<|fj aS.im 4<|fc (dV 0)<|fc (dV 1)<|fc (dV 2)<|fc (dV 3) ff)<|fu (gj<|fj aS.io 1 zar)<|fu (fF (fj cn.gq 2<|fc (dV 0) zP)<|fe 5)<|fu (fF (fj aS.gM 2<|fc (dV 5)<|fc (dV 3) ff)<|fe 6)<|fu (aM (pd (dB<|eY af<|dV 6)<|dB<|d2 af nL (d2 af ax (dV 6) zi)<|dV 4) (fJ<|dC .non) aU)<|fJ<|fj aS.mF 5<|fc (dV 0)<|fc (dV 1)<|fc (dV 5)<|fc (dV 6) zar)
def gn:List W->List Bx->O W:=aX 7<|aP FC
end
end aS
namespace L2.DL
section
variable {β:Type}
@[simp] theorem fT {a:α}{k:α->List Bx->O β}:fA (.val a bx) k=k a bx:=rfl
@[simp] theorem YU {k:α->List Bx->O β}:fA .bad k=.bad:=rfl
@[simp] theorem iT {a:α}{k:α->List Bx->OS}:bC (.val a bx) k=k a bx:=rfl
@[simp] theorem YV {k:α->List Bx->OS}:bC (.bad:O α) k=.bad:=rfl
@[simp] theorem oK {a:α}{k:α->List Bx->O β}:bindB (.val a bx) k=k a bx:=rfl
end
@[simp] theorem gH {i:Nat}:dV i env bx=match env[i]? with|some (ae w)=>.val w bx|_=>.bad:=rfl
@[simp] theorem WI {d:D}:dC d env bx=.val (.d d) bx:=rfl
@[simp] theorem U0:ff env bx=.val [] bx:=rfl
@[simp] theorem GD {k:DE zaf}:fc m k env bx=fA zD λw bx1=>fA (k env bx1) λl bx2=>.val (w::l) bx2:=rfl
@[simp] theorem P7 {k:DE zaf}:fj fn n k env bx=fA (k env bx) λws bx1=>if ws.length=n then fn ws bx1 else .bad:=rfl
@[simp] theorem YE:dB m env bx=fA zD λw bx1=>match w with|.d (.bl k)=>.val k bx1|_=>.bad:=rfl
@[simp] theorem MO {m k:DE Bool}:nJ m k env bx=fA zD λb bx1=>match b with|true=>k env bx1|false=>.val af bx1:=rfl
@[simp] theorem SR {m k:DE Bool}:pd m k env bx=fA zD λb bx1=>match b with|true=>.val ah bx1|false=>k env bx1:=rfl
@[simp] theorem U1 {m:DE Bool}:eG m env bx=fA zD λb bx1=>.val (!b) bx1:=rfl
@[simp] theorem P8 {k:DE W}:gC m k env bx=fA zD λw bx1=>match w with|.d (.bl ah)=>k env bx1|.d (.bl af)=>.val (.d<|.bl af) bx1|_=>.bad:=rfl
@[simp] theorem Yx:IH m env bx=fA zD λw bx1=>match w with|.d (.bl k)=>.val (.d<|.bl<|!k) bx1|_=>.bad:=rfl
@[simp] theorem GE:fM env bx=.val ah bx:=rfl
@[simp] theorem Yy {n:String}:lC n m env bx=fA zD λw bx1=>match bU bx1 w with|some d=>.val (.d<|.bl<|u4 (rm d) n) bx1|none=>.bad:=rfl
@[simp] theorem MP {b:Bool}:d2 b g ma mb env bx=fA (ma env bx) λx bx1=>fA (mb env bx1) λy bx2=>cj b ((bU bx2 x).bind λp=>(bU bx2 y).bind λq=>g p q) bx2:=rfl
@[simp] theorem J2 {b:Bool}{g:List D->Option Res}{k:DE zaf}:dN b g k env bx=fA (k env bx) λws bx1=>cj b ((kh bx1 ws).bind g) bx1:=rfl
@[simp] theorem YW {g':D->D->Option Res}:d3 g g' ma mb mc env bx=fA (ma env bx) λx bx1=>fA (mb env bx1) λy bx2=>
 fA (cj af ((bU bx2 x).bind λp=>(bU bx2 y).bind λq=>g p q) bx2) λz bQ=>match z with
  |.d (.bl ah)=>fA (mc env bQ) λw c8=>cj af ((bU c8 y).bind λp=>(bU c8 w).bind λq=>g' p q) c8
  |.d (.bl af)=>.val (.d<|.bl af) bQ
  |_=>.bad:=rfl
@[simp] theorem A5 {d:D}:bU bx (.d d)=ae d:=rfl
@[simp] theorem MQ:kh bx []=ae []:=rfl
@[simp] theorem MR {d:D}{l:List W}:kh bx (.d d::l)=(kh bx l).map λt=>d::t:=by
 erw[kh];cases kh bx l<;>rfl
@[simp] theorem V9 {b:Bool}:cj b ag bx=.bad:=rfl
@[simp] theorem jn {q:Res}:cj af (ae q) bx=.val (.d q.toD) bx:=by cases q<;>rfl
@[simp] theorem YF {l:List D}:cj ah (ae<|.lst l) bx=.val (.b bx.length) (bx++[.lst l]):=rfl
@[simp] theorem GF {d:D}:(Res.old d).toD=d:=rfl
@[simp] theorem P9 {l:List D}:(Res.tup l).toD=.tup l:=rfl
@[simp] theorem m7 {l:List D}:(Res.lst l).toD=.lst l:=rfl
@[simp] theorem Yz {l:List (Key×D)}:(Res.aB l).toD=.aB l:=rfl
@[simp] theorem YG:aU env bx=.nx env bx:=rfl
@[simp] theorem lM {m k:aA}:fu m k env bx=match m env bx with|.nx env1 bx1=>k env1 bx1|o=>o:=rfl
@[simp] theorem Ra:gj m env bx=bC zD λ_ bx1=>.nx env bx1:=rfl
@[simp] theorem MS:fJ m env bx=bC zD λw bx1=>.rt w bx1:=rfl
@[simp] theorem SS {t:DE Bool}{m k:aA}:aM t m k env bx=bC (t env bx) λb bx1=>match b with|true=>m env bx1|false=>k env bx1:=rfl
@[simp] theorem FD {g:DG}:fF m g env bx=bC zD λw bx1=>match g w env bx1 with|some (env1,bx2)=>.nx env1 bx2|none=>.bad:=rfl
@[simp] theorem U2 {m:DE zaf}{g:DG}{body:aA}:iX m g body env bx=bC zD λds bx1=>bX g body ds env bx1:=rfl
@[simp] theorem Dy {i:Nat}{w:W}:fe i w env bx=ae (env.set i<|ae w,bx):=rfl
@[simp] theorem YA:fS [] env bx=ae (env,bx):=rfl
@[simp] theorem WJ {g:DG}{k:pB}{w:W}{l:List W}:fq g k (w::l) env bx=(g w env bx).bind λ(env1,bx1)=>k l env1 bx1:=rfl
@[simp] theorem YB {k:pB}{l:List D}:fR n k (.d<|.tup l) env bx=if l.length=n then k (l.map W.d) env bx else ag:=rfl
@[simp] theorem Cu {src:List (Option Nat)}{g:DG}:fL bo src mi g tf te env bx=fA (mi env bx) λds bx1=>fA (bK g tf te ds (eR src env) bx1 []) λl bx2=>cj bo (ae<|.lst l) bx2:=rfl
@[simp] theorem A6:eR [] env=[]:=rfl
@[simp] theorem Aa {l:List (Option Nat)}:eR (ag::l) env=ag::eR l env:=rfl
@[simp] theorem Ab {i:Nat}{l:List (Option Nat)}:eR (ae i::l) env=((env[i]?).bind id)::eR l env:=rfl
@[simp] theorem GG:bq m env bx=fA zD λw bx1=>match w with|.d (.lst l)=>.val (l.map W.d) bx1|.d (.tup l)=>.val (l.map W.d) bx1|_=>.bad:=rfl
@[simp] theorem U3 {k:DE zaf}:fO k env bx=fA (k env bx) λws bx1=>cj af ((pw ws).bind λl=>if l.length<=sizeLine then ae (.tup l) else ag) bx1:=rfl
@[simp] theorem MT {k:DE zaf}:gN bo k env bx=fA (k env bx) λws bx1=>cj bo ((pw ws).bind λl=>if l.length<=sizeLine then ae (.lst l) else ag) bx1:=rfl
@[simp] theorem WK:pw []=ae []:=rfl
@[simp] theorem U4 {d:D}{l:List W}:pw (.d d::l)=(pw l).map λt=>d::t:=rfl
@[simp] theorem U5:wg m env bx=fA zD λw bx1=>match w with|.d (.int i)=>.val (.d<|.int<|-i) bx1|_=>.bad:=rfl
@[simp] theorem WL {l u:DE (Option Int)}:cH bo m l u env bx=fA zD λx bx1=>fA (l env bx1) λi bx2=>fA (u env bx2) λj bQ=>cj bo ((bU bQ x).bind λd=>pF d i j) bQ:=rfl
@[simp] theorem YT:cQ env bx=.val ag bx:=rfl
@[simp] theorem Rb:cG m env bx=fA zD λw bx1=>match w with|.d (.int i)=>.val (ae i) bx1|_=>.bad:=rfl
@[simp] theorem YH:IQ bo m env bx=fA zD λx bx1=>cj bo ((bU bx1 x).bind λd=>match d with|.lst l=>ae (.lst l.reverse)|_=>ag) bx1:=rfl
theorem fY {m:aA}{ws:List W}{d:D}(h:m (ws.map ae++List.replicate (n-ws.length) ag) bx=.rt (.d d) bx):aX n (aP m) ws bx=.val (.d d) bx:=by
 simp[aX,aP,DL.envOf,h,pC,pD,Xd]
end L2.DL
namespace K1
open L2 L2.DL
noncomputable def wh:D->Bool
 |.int _=>ah
 |_=>af
noncomputable def wi (d:D) (lo hi:Int):Bool:=match d with
 |.int i=>decide (lo<=i)&&decide (i<=hi)
 |_=>af
noncomputable def tl (d:D) (lo hi:Int):Bool:=match d with
 |.tup l=>decide (lo<=(l.length:Int))&&decide ((l.length:Int)<=hi)
 |_=>af
theorem U6 (d:D):u4 (rm d) "int"=(match d with|.int _=>ah|.bl _=>ah|_=>af):=by cases d<;>rfl
theorem Rc (d:D):u4 (rm d) "bool"=(match d with|.bl _=>ah|_=>af):=by cases d<;>rfl
theorem U7 (d:D):u4 (rm d) "tuple"=(match d with|.tup _=>ah|_=>af):=by cases d<;>rfl
theorem Dz (d:D) (bx:List Bx):ju [.d d] bx=.val (.d<|.bl<|wh d) bx:=
 fY (by cases d<;>simp[AY,U6,Rc,wh])
theorem oM (d:D) (lo hi:Int) (bx:List Bx):fX [.d d,.d<|.int lo,.d<|.int hi] bx=.val (.d<|.bl<|wi d lo hi) bx:=
 fY (by
  cases d<;>simp[oZ,Dz,wh,wi,nO];ext i;by_cases h:lo<=i<;>simp[h])
theorem MU (d:D) (lo hi:Int) (bx:List Bx):gh [.d d,.d<|.int lo,.d<|.int hi] bx=.val (.d<|.bl<|tl d lo hi) bx:=
 fY (by
  cases d<;>simp[AZ,U7,tl,nO,bV];ext l;by_cases h:lo<=(l.length)<;>simp[h])
theorem Re {g:DG}(J:aQ->zk) (p:D->Bool) (f:D->D):∀ (l:List D) (env:aQ) (acc:List D),J env ->
 (∀ d∈l,∀ env,J env->∃ aT,g (.d d) env bx=ae (aT,bx) /\ J aT /\ tf aT bx=.val (p d) bx /\ (p d=ah->te aT bx=.val (.d<|f d) bx))->acc.length+l.length<=sizeLine ->
 bK g tf te (l.map W.d) env bx acc=.val (acc++(l.filter p).map f) bx:=by
 intro l_;induction l_ with
 |nil=>(intro env acc _ _ _;simp[bK])
 |cons d l ay=>
   intro env acc j h n;let#[aT,e1,j',e2,e3]:=h d (bD ..) env j;have n':acc.length<sizeLine:=by simp[bz]at n;lia
   simp[aL,bK,e1,e2];have h':=λx (m)=>h x<|bE _ m;cases q:p d with
   |false=>
     simp[Ht,q];show ay aT acc j' h' (by simp[bz]at n;lia)
   |true=>
     simp[Ht,q,e3 q,oK,if_pos n'];rw[ay aT _ j' h' (by simp[cX,bz,pQ]at n ⊢;lia)];simp
theorem A7 {g:DG}(J:aQ->zk) (f:D->D) {l:List D}(j:J env) (h:∀ d∈l,∀ env,J env->∃ aT,g (.d d) env bx=ae (aT,bx) /\ J aT /\ te aT bx=.val (.d<|f d) bx) (n:l.length<=sizeLine) :
 bK g fM te (l.map W.d) env bx []=.val (l.map f) bx:=by
 rw[Re (tf:=fM) J _ f l env [] j (λd m e je=>let ⟨e',a,b,c⟩:=h d m e je;#[e',a,b,rfl,λ_=>c]) (by simpa using n)];rw[List.filter_eq_self.mpr λ_ _=>rfl];rfl
theorem MV (l:List D) (p:D->Bool):p5 (l.map λd=>D.bl<|p d)=ae (l.map p):=by
 induction l with
 |nil=>rfl
 |cons d l ih=>simp[p5,ih]
@[simp] theorem all_map (l:List D) (p:D->Bool):dI [.lst<|l.map λd=>D.bl<|p d]=ae (.old<|.bl<|l.all p):=by
 simp[dI,MV]
def rooms (d:D):Bool:=match d with
 |.tup l=>tl (.tup l) 1 5&&l.all λx=>wi x 0 3
 |_=>af
theorem aeE:(5:Nat)<=sizeLine:=by decide
theorem oN {l:List D}{lo hi:Int}(h:tl (.tup l) lo hi=ah):lo<=(l.length:Int) /\ (l.length:Int)<=hi:=by simpa[tl] using h
noncomputable def wH:List D->Bool
 |x::y::l=>(match x,y with|.int i,.int j=>decide (j<=i)|_,_=>af)&&wH (y::l)
 |_=>ah
def yj (d:D):Bool:=match d with
 |.tup l=>tl (.tup l) 4 4&&(l.all (λx=>wi x 0 9)&&wH l)
 |_=>af
theorem ai7 {l:List D}(h:tl (.tup l) 2 2=ah):∃ a b,l=[a,b]:=by
 have n:=oN h;obtain⟨a,l,rfl⟩:∃ a t,l=a::t:=xk za;obtain⟨b,l,rfl⟩:∃ a t,l=a::t:=xk (by simp at n;lia);have:l.length=0:=by simp at n;lia
 show#[a,b,by rw[xj this]]
theorem ai8 {l:List D}(h:tl (.tup l) 4 4=ah):∃ a b c e,l=[a,b,c,e]:=by
 have n:=oN h;obtain⟨a,l,rfl⟩:∃ a t,l=a::t:=xk za;obtain⟨b,l,rfl⟩:∃ a t,l=a::t:=xk (by simp at n;lia);obtain⟨c,l,rfl⟩:∃ a t,l=a::t:=xk (by simp at n;lia);obtain⟨e,l,rfl⟩:∃ a t,l=a::t:=xk (by simp at n;lia);have:l.length=0:=by simp at n;lia
 show#[a,b,c,e,by rw[xj this]]
theorem mG {x:D}{lo hi:Int}(h:wi x lo hi=ah):∃ i,x=.int i /\ lo<=i /\ i<=hi:=by
 cases x<;>simp[wi]at h;show#[_,rfl,h]
def kind (d:D):Bool:=match d with
 |.tup l=>tl (.tup l) 2 2&&(match l with|[a,b]=>wi a 1 999&&yj b|_=>af)
 |_=>af
def kinds (d:D):Bool:=match d with
 |.tup l=>tl (.tup l) 1 4&&l.all kind
 |_=>af
def yk (n:Int) (d:D):Bool:=match d with
 |.tup l=>tl (.tup l) 2 2&&(match l with|[.int a,.int b]=>decide (0<=a)&&decide (a<b)&&decide (b<=n-1)|_=>af)
 |_=>af
noncomputable abbrev dP (p:Int×Int):D:=.tup [.int p.1,.int p.2]
abbrev xP (l:List<|Int×Int):Option W:=ae<|.d<|.lst<|l.map dP
def p9 (p q:Int×Int):Bool:=HT.lexLt [p.1,p.2] [q.1,q.2]
noncomputable def rP (p:Int×Int):List HT.aF:=[.i p.1,.i p.2]
theorem WM (p q:Int×Int):HT.bR (rP p) (rP q)=p9 p q:=by simp[rP,p9,HT.bR,HT.lexLt,HT.aF.lt]
theorem WN (p q:Int×Int):dJ (dP p) (dP q)=ae (.old<|.bl<|p9 p q):=by
 rw[<-WM];change (if HT.eT (rP p) (rP q)=ah then ae _ else ag)=_;show if_pos zc
def vk:List (Int×Int)->Bool
 |p::q::r=>p9 p q&&vk (q::r)
 |_=>ah
theorem A8:∀ ps:List (Int×Int),vk ps=(List.range<|ps.length-1).all λi=>p9 (ps.getD i (0,0)) (ps.getD (i+1) (0,0))
 |[]=>rfl
 |[p]=>rfl
 | p::q::r=>by
   rw[vk,A8 _];simp[bz,abq];rw[List.range_succ_eq_map,tX,xl];rfl
theorem GH {i:Nat}(h:i<ps.length):bF zao (i:Int)=ae (dP<|ps.getD i (0,0)):=by
 unfold bF cA;simp[h]
theorem FE {k:DE zaf}{i j:Int}(e:k env bx=.val [.d<|.int i,.d<|.int j] bx1):sN k env bx=.val (fQ i (j-i).toNat) bx1:=by
 unfold sN;rw[e,fT]
theorem lN {k:DE zaf}{j:Int}(e:k env bx=.val [.d<|.int j] bx1) (h:-(2 ^ 62)<=j /\ j<2 ^ 62):dR k env bx=.val (fQ 0 j.toNat) bx1:=by
 unfold dR;rw[e,fT];show if_pos h
theorem Rf (lo:Int) (n:Nat):fQ lo n=((List.range n).map λ(i:Nat)=>D.int<|lo+(i:Int)).map W.d:=by
 rw[bj];rfl
theorem J3 (ps:List<|Int×Int) (n:ps.length<=sizeLine) (bx:List Bx):ia [.d<|.tup zao] bx=.val (.d<|.bl<|vk ps) bx:=
 fY (by
  have s2:sizeLine=16777216:=bf;have r:sN (fc zd<|fc (dN af bV zas) ff) [ae<|.d<|.tup zao] bx=.val (fQ 1 (((ps.length):Int)-1).toNat) bx:=FE (by simp[bV]);erw[o7,MS,J2,GD,Cu,aL,abJ,bz,pQ,tU,List.replicate_zero,tW,r,fT,Rf,Aa,Ab,A6,abK,bS,id];rw[A7 (λe=>∃ w,e=[w,ae _]) _ #[ag,rfl] ?_ (by rw[aR,vE];lia)]
  .erw[fT,U0,jn,m7,MR,MQ,pT,bS];rw[all_map,jn,GF,iT,xl,show ((ps.length:Int)-1).toNat=ps.length-1 by lia];have z:((λx:D=>match x with|.int i=>p9 (ps.getD (i.toNat-1) (0,0)) (ps.getD i.toNat (0,0))|_=>af)∘λ(i:Nat)=>D.int<|1+(i:Int))=λi=>p9 (ps.getD i (0,0)) (ps.getD (i+1) (0,0)):=by
    funext i;change p9 (ps.getD ((1+(i:Int)).toNat-1) (0,0)) (ps.getD (1+(i:Int)).toNat (0,0))=_;rw[show (1+(i:Int)).toNat=i+1 by lia,abq]
   rw[z,<-A8]
  .intro x m e ⟨w,je⟩;let#[i,mi,rfl]:=bp.mp m;have hi:i<((ps.length:Int)-1).toNat:=List.mem_range.mp mi;refine#[[xN<|1+(i:Int),ae<|.d<|.tup zao],by simp[je],#[_,rfl],?_];have a2:=GH (ps:=ps) (i:=i+1) za;rw[show ((i+1:Nat):Int)=1+(i:Int) by lia]at a2;erw[MP,gH,WI,abK,List.getElem?_cons_succ,fT,A5,bS,ax,cE,jn,GF,show 1+(i:Int)-1=(i:Int) by lia,(GH (ps:=ps) (i:=i) (by lia)),a2,pT,WN];rw[show (1+(i:Int)).toNat=i+1 by lia];rfl)
noncomputable def ZM:D->Option (Int×Int)
 |.tup [.int a,.int b]=>ae (a,b)
 |_=>ag
theorem GI (ps:List<|Int×Int):(ps.map dP).filterMap ZM=ps:=by
 induction ps with
 |nil=>rfl
 |cons p ps ih=>rw[aL,qk,ih];rfl
def apart (n:Int) (d:D):Bool:=match d with
 |.tup l=>l.all (yk n)&&vk (l.filterMap ZM)
 |_=>af
noncomputable def lenOf:D->Int
 |.tup l=>l.length
 |_=>0
def house (d:D):Bool:=match d with
 |.tup [r,k,p,h]=>rooms r&&(kinds k&&(apart (lenOf k) p&&wi h 1 9))
 |_=>af
end K1
namespace L2.DL
section
variable {env1 bL:aQ} {bx2 bQ:List Bx} {k:DE W} {ks:DE (List W)} {w u:W} {l:List W}
theorem fg (h1:m env bx=.val w bx1) (h2:ks env bx1=.val l bx2):fc m ks env bx=.val (w::l) bx2:=by rw[GD,h1,fT,h2,fT]
theorem Rg:∀ {ds:List D},kh bx (ds.map W.d)=ae ds:=by
 intro l_;induction l_ with
 |nil=>show rfl
 |cons d ds ay=>(rw[aL,MR,ay];rfl)
theorem Cv:∀ {ds:List D},pw (ds.map W.d)=ae ds:=by
 intro l_;induction l_ with
 |nil=>show rfl
 |cons d ds ay=>(rw[aL,U4,ay];rfl)
theorem iF {g:List D->Option Res}{r:Res}(ds:List D) (h:ks env bx=.val (ds.map W.d) bx1) (hg:g ds=ae r):dN af g ks env bx=.val (.d r.toD) bx1:=by rw[J2,h,fT,Rg,bS,hg,jn]
theorem gm (ds:List D) (h:ks env bx=.val (ds.map W.d) bx1) (hl:ds.length<=sizeLine):fO ks env bx=.val (.d<|.tup ds) bx1:=by rw[U3,h,fT,Cv,bS,if_pos hl,jn,P9]
theorem mH (ds:List D) (h:ks env bx=.val (ds.map W.d) bx1) (hl:ds.length<=sizeLine):gN af ks env bx=.val (.d<|.lst ds) bx1:=by rw[MT,h,fT,Cv,bS,if_pos hl,jn,m7]
theorem oO (ds:List D) (h:ks env bx=.val (ds.map W.d) bx1) (hl:ds.length<=sizeLine):gN ah ks env bx=.val (.b bx1.length) (bx1++[.lst ds]):=by rw[MT,h,fT,Cv,bS,if_pos hl];rfl
theorem fE {r:Res}{x y:D}(h1:m env bx=.val (.d x) bx1) (h2:k env bx1=.val (.d y) bx2) (hg:g x y=ae r):d2 af g m k env bx=.val (.d r.toD) bx2:=by rw[MP,h1,fT,h2,fT,A5,A5,bS,bS,hg,jn]
theorem fG (h:ks env bx=.val l bx1) (hn:l.length=n) (hf:fn l bx1=.val w bx2):fj fn n ks env bx=.val w bx2:=by rw[P7,h,fT,if_pos hn,hf]
theorem f7 {b:Bool}(h:m env bx=.val (.d<|.bl b) bx1):dB m env bx=.val b bx1:=by rw[YE,h,fT]
theorem iq {t:DE Bool}{b:Bool}(h:t env bx=.val b bx1):eG t env bx=.val (!b) bx1:=by rw[U1,h,fT]
theorem SU {t s:DE Bool}(h:t env bx=.val ah bx1):pd t s env bx=.val ah bx1:=by rw[SR,h,fT]
theorem l7 {t s:DE Bool}{b:Bool}(h:t env bx=.val af bx1) (h2:s env bx1=.val b bx2):pd t s env bx=.val b bx2:=by rw[SR,h,fT,h2]
theorem oP {t s:DE Bool}(h:t env bx=.val af bx1):nJ t s env bx=.val af bx1:=by rw[MO,h,fT]
theorem oQ {t s:DE Bool}{b:Bool}(h:t env bx=.val ah bx1) (h2:s env bx1=.val b bx2):nJ t s env bx=.val b bx2:=by rw[MO,h,fT,h2]
theorem Cw {b:Bool}(h:m env bx=.val (.d<|.bl b) bx1):gC m k env bx=if b then k env bx1 else .val (.d<|.bl af) bx1:=by rw[P8,h];cases b<;>rfl
theorem gp {src:List (Option Nat)}{g:DG}{ds:List D}{e2:aQ}(h1:mi env bx=.val l bx1) (he:eR src env=e2) (h2:bK g tf te l e2 bx1 []=.val ds bx2):fL af src mi g tf te env bx=.val (.d<|.lst ds) bx2:=by
 subst he;rw[Cu,h1,fT,h2,fT,jn,m7]
theorem A9 {x:D}{r:Res}{lo hi:DE (Option Int)}{i j:Option Int}(h1:m env bx=.val (.d x) bx1) (h2:lo env bx1=.val i bx2) (h3:hi env bx2=.val j bQ) (hs:pF x i j=ae r):cH af m lo hi env bx=.val (.d r.toD) bQ:=by
 rw[WL,h1,fT,h2,fT,h3,fT,A5,bS,hs,jn]
theorem GJ {i:Int}(h:m env bx=.val (.d<|.int i) bx1):cG m env bx=.val (ae i) bx1:=by rw[Rb,h,fT]
theorem gf {ds:List D}(h:m env bx=.val (.d<|.lst ds) bx1):bq m env bx=.val (ds.map W.d) bx1:=by rw[GG,h,fT]
theorem iO {ds:List D}(h:m env bx=.val (.d<|.tup ds) bx1):bq m env bx=.val (ds.map W.d) bx1:=by rw[GG,h,fT]
theorem U8 {i:Int}(h:m env bx=.val (.d<|.int i) bx1):wg m env bx=.val (.d<|.int<|-i) bx1:=by rw[U5,h,fT]
theorem fv {a b:aA}(h:a env bx=.nx env1 bx1):fu a b env bx=b env1 bx1:=by rw[lM,h]
theorem gT {a b:aA}(h:a env bx=.rt w bx1):fu a b env bx=.rt w bx1:=by rw[lM,h]
theorem gu {i:Nat}(h:m env bx=.val w bx1):fF m (fe i) env bx=.nx (env.set i<|ae w) bx1:=by rw[FD,h,iT,Dy]
theorem fZ (h:m env bx=.val w bx1):fJ m env bx=.rt w bx1:=by rw[MS,h,iT]
theorem ir (h:m env bx=.val w bx1):gj m env bx=.nx env bx1:=by rw[Ra,h,iT]
theorem iV {t:DE Bool}{a b:aA}(h:t env bx=.val ah bx1):aM t a b env bx=a env bx1:=by rw[SS,h,iT]
theorem gz {t:DE Bool}{a b:aA}(h:t env bx=.val af bx1):aM t a b env bx=b env bx1:=by rw[SS,h,iT]
theorem iW {g:DG}{body:aA}(h:mi env bx=.val l bx1):iX mi g body env bx=bX g body l env bx1:=by rw[U2,h,iT]
theorem iG {g:DG}{body:aA}(h1:g w env bx=ae (env1,bx1)) (h2:body env1 bx1=.nx bL bx2):bX g body (w::l) env bx=bX g body l bL bx2:=by
 rw[bX,h1];simp[h2]
theorem MW {g:DG}{body:aA}(h1:g w env bx=ae (env1,bx1)) (h2:body env1 bx1=.rt u bx2):bX g body (w::l) env bx=.rt u bx2:=by
 rw[bX,h1];simp[h2]
theorem lX {g:DG}{body:aA}(I:Nat->aQ->List Bx->zk):∀ (l:List W) (k:Nat) (env:aQ) (bx:List Bx),I k env bx ->
 (∀ i w env bx,l[i]?=ae w->I (k+i) env bx->∃ env1 bx1 bL bx2,g w env bx=ae (env1,bx1) /\ body env1 bx1=.nx bL bx2 /\ I (k+i+1) bL bx2) ->
 ∃ aT bx',bX g body l env bx=.nx aT bx' /\ I (k+l.length) aT bx':=by
 intro l;induction l with
 |nil=>intro k env bx h _;show#[env,bx,rfl,h]
 |cons w l ih=>
   intro k env bx h st;let#[env1,bx1,bL,bx2,e1,e2,h2]:=st 0 w env bx zc h;let#[aT,bx',e3,h3]:=ih _ bL bx2 h2 λi x env bx e hi=>by
    have:=st (i+1) x env bx (by simpa using e) (by rw[show k+(i+1)=k+1+i by lia];show hi);rw[show k+(i+1)+1=k+1+i+1 by lia]at this;show this
   show#[aT,bx',by rw[iG e1 e2,e3],by rw[bz,show k+(l.length+1)=k+1+l.length by lia];show h3]
section
variable {b c:aA} {o:OS} {i:Nat} {t:DE Bool} {g:DG} 
theorem qS (h:m env bx=.val w bx1) (k:b (env.set i<|ae w) bx1=o):fu (fF m<|fe i) b env bx=o:=(fv<|gu h).trans k
theorem qG (h:m env bx=.val w bx1) (hg:g w env bx1=ae (bL,bx2)) (k:b bL bx2=o):fu (fF m g) b env bx=o:=by
 rw[lM,FD,h,iT,hg];show k
theorem qF (h:t env bx=.val af bx1) (k:b env bx1=o):fu (aM t c aU) b env bx=o:=(fv<|(gz h)).trans k
theorem qR (h:t env bx=.val ah bx1) (k:m env bx1=.val w bx2):fu (aM t (fJ m) aU) b env bx=.rt w bx2:=gT<|(iV h).trans<|fZ k
theorem qE (h:m env bx=.val w bx1) (k:b env bx1=o):fu (gj m) b env bx=o:=(fv<|ir h).trans k
theorem cV (hf:fn l bx1=.val w bx2) (h:ks env bx=.val l bx1:=by rfl) (hn:l.length=n:=by rfl):fj fn n ks env bx=.val w bx2:=fG h hn hf
end
end
theorem vm {e:α->D}{g:DG}{E:α->aQ}{J:aQ->zk}(p:α->Bool) (f:α->D) (hJ:∀ a,J<|E a):∀ (l:List α) (env:aQ) (acc:List D),acc.length+l.length<=sizeLine->J env ->
 (∀ a∈l,∀ env,J env->g (.d<|e a) env B=ae (E a,B))->(∀ a∈l,tf (E a) B=.val (p a) B /\ (p a=ah->te (E a) B=.val (.d<|f a) B))->bK g tf te ((l.map e).map W.d) env B acc=.val (acc++(l.filter p).map f) B:=by
 intro l_;induction l_ with
 |nil=>(intro _ _ _ _ _ _;simp[bK])
 |cons a l ay=>
   intro env acc n j hg h;let#[h1,h2]:=h a<|bD ..;rw[bz]at n;have n':acc.length<sizeLine:=by lia
   have e0:=hg a (bD ..) env j;cases c:p a with
   |false=>
     rw[c]at h1;rw[tZ (by simp[c]),<-(ay _ acc za (hJ a) (λx m=>hg x<|bE _ m) λx m=>h x<|bE _ m)];simp[aL,bK,e0,h1,oK]
   |true=>
     rw[c]at h1;rw[ua c];erw[aL,bK,e0,h1,h2 c,oK,if_pos n',(ay _ (acc++[f a]) zg (hJ a) (λx m=>hg x<|bE _ m) λx m=>h x<|bE _ m)];simp
end L2.DL
namespace aH
open L2 L2.DL K1
open HT (aF bu eT bR lexLt)
inductive Pg where
 |aO (h l k r p w:Int)|to (h l r:Int)|out (h l:Int)
noncomputable def b9:Pg->List aF
 |.aO h l k r p w=>[.i h,.s "in",.i l,.i k,.i r,.i p,.i w]
 |.to h l r=>[.i h,.s "to",.i l,.i r]
 |.out h l=>[.i h,.s "out",.i l]
def enc (g:Pg):D:=dG<|b9 g
theorem Cy (g:Pg):rowOf (enc g)=ae (b9 g):=by cases g<;>rfl
theorem MX:∀ gs:List Pg,rowsOf (gs.map enc)=ae (gs.map b9):=by
 intro l_;induction l_ with
 |nil=>show rfl
 |cons g gs ay=>(simp[rowsOf,Cy,ay])
theorem GK {a b:Pg}(h:b9 a=b9 b):a=b:=by
 cases a<;>cases b<;>simp[b9]at h<;>simp_all
theorem Rh {a b:Pg}(h:enc a=enc b):a=b:=by
 have:=Cy a;rw[h,Cy]at this;show(GK<|Option.some.inj this).symm
theorem Ar (a b:Pg):eT (b9 a) (b9 b)=ah:=by cases a<;>cases b<;>rfl
theorem DA (gs:List Pg):vb (gs.map b9)=ah:=by
 erw[vb,cY,bp];rintro _ ⟨a,_,rfl⟩ _ ⟨b,_,rfl⟩;show Ar a b
theorem MY {g:Pg}{gs:List Pg}(h:(g::gs).length<64):dW [.lst<|(g::gs).map enc]=ae (.lst<|(nP<|(g::gs).map b9).map dG):=by
 have e:sP [.lst<|(g::gs).map enc]=ag:=by cases g<;>rfl
 unfold dW;rw[e];erw[MX,bS,DA,aR,and_true,if_pos h]
abbrev EM (gs:List Pg):zk:=gs.Pairwise λa b=>bR (b9 a) (b9 b)=ah
theorem U9 {gs:List Pg}(nd:gs.Nodup) (h:(gs.map b9).Pairwise λa b=>lexLt (bu b) (bu a)=af):EM gs:=by
 rw[qp]at h;refine List.Pairwise.imp₂ (λ{a b} (x) (y)=>?_) h nd;rw[<-HT.Cq _ _ (Ar a b)];cases e:lexLt _ (bu _) with
 |true=>rfl
 |false=>show absurd (GK<|code_inj (Ar a b)<|HT.jh _ _ e x) y
theorem Cz {gs:List Pg}(nd:gs.Nodup) (h:gs.length<64):∃ qs:List Pg,qs.Perm gs /\ EM qs /\ ∀ g2:List Pg,g2.Perm gs->dW [.lst<|g2.map enc]=ae (.lst<|qs.map enc):=by
 let#[qs,e,p]:=EE (gX _) zc;refine#[qs,p,U9 (p.nodup_iff.mpr nd) (by rw[<-e];show iL _),λg2 p2=>?_];cases g2 with
 |nil=>
   have z:=p2.length_eq;have:gs=[]:=by cases gs with|nil=>rfl|cons=>simp at z
   subst this;have:qs=[]:=by have:=p.length_eq;cases qs with|nil=>rfl|cons=>simp at this
   subst this;simp[dW,sP,intsOf,sortI]
 |cons g g2=>
   rw[MY (by rw[p2.length_eq];show h)];have:=lE (DA gs) ((gX _).trans<|p2.map b9)<|iL _;rw[this,e,bj];rfl
theorem Va (a b:Pg):dJ (enc a) (enc b)=ae (.old<|.bl<|bR (b9 a)<|b9 b):=by
 have:∀ g,∃ l,enc g=.tup l /\ sX l=ae (b9 g):=λg=>by cases g<;>show#[_,rfl,rfl]
 let#[l,e1,e3]:=this a;let#[m,f1,f3]:=this b;rw[e1,f1];unfold dJ;simp[e3,f3,Ar,if_true]
end aH
variable {gs qs:List aH.Pg}{ca:List (Int × aH.Pg)}
namespace K1
open L2 L2.DL
theorem lO:∀ ns:List Int,intsOf (ns.map D.int)=ae ns:=by
 intro l_;induction l_ with
 |nil=>show rfl
 |cons n ns ay=>(rw[aL,intsOf,ay];rfl)
theorem GL:∀ ns:List Int,wH (ns.map D.int)=ah ↔ ns.Pairwise (λa b=>b<=a)
 |[]=>by simp[wH]
 |[x]=>by simp[wH]
 | x::y::l=>by
   have ih:=GL (y::l);erw[aL]at ih ⊢;erw[wH,aJ,decide_eq_true_eq,ih];constructor
   .intro ⟨h,p⟩;refine kO.mpr #[λz m=>?_,p];rcases bw.mp m with rfl|m
    .show h
    .show acd ((kO.mp p).1 z m) h
   .intro p;have q:=kO.mp p;show#[q.1 y<|bD ..,q.2]
theorem DB {lo hi:Int}:∀ {l:List D},(l.all λx=>wi x lo hi)=ah->∃ ns:List Int,l=ns.map D.int:=by
 intro l_;induction l_ with
 |nil=>show λ_=>#[[],rfl]
 |cons d l ay=>
   intro h;erw[tX,aJ]at h;let#[i,rfl,_]:=mG h.1;let#[ns,rfl]:=ay h.2;show#[i::ns,rfl]
noncomputable def pt (bx:List Bx) (n:Nat) (p:Int):List Bx:=bx.set n<|.lst [.int p]
theorem gF {p:Int}:(pt bx n p).length=bx.length:=qo ..
theorem Vb {p:Int}(h:n<bx.length):(pt bx n p)[n]?=ae (.lst [.int p]):=by simp[pt,h]
theorem DC {m:aA}{ws:List W}{d:D}{bx':List Bx}(h:m (ws.map ae++List.replicate (n-ws.length) ag) bx=.rt (.d d) bx') (l:bx'.length<=bx.length):aX n (aP m) ws bx=.val (.d d) bx':=by
 simp[aX,aP,DL.envOf,h,pC,pD,vF l]
theorem DD (h:n<bx.length) (p k:Int) (hk:0<k) (u6:k<10 ^ 40):fm [.b n,.d<|.int k] zY=.val (.d<|.int<|p % k) (pt bx n<|p / k):=by
 refine DC ?_ (by rw[gF,gF];show aE _);have g:=Vb (p:=p) h;have c:sO p k:=#[hk,u6];simp[A0,bU,g,ax,bF,cA,pE,nK,hk,c,Eo];rw[pt,pt,abL]
theorem jy (h:n<bx.length) (p k:Int) (hk:0<k) (u6:k<1073741824):fm [.b n,.d<|.int k] zY=.val (.d<|.int<|p % k) (pt bx n<|p / k):=DD h p k hk za
theorem m8 {l:List α}{i:Int}(h0:0<=i) (h1:i<l.length):∃ d,bF l i=ae d /\ d∈l:=by
 refine#[l[i.toNat],?_,nG za];simp[bF,cA,h0,h1]
def Dr (o:O W) (bx:List Bx) (n:Nat) (P:D->zk):zk:=∃ d p,o=.val (.d d) zY /\ P d
theorem mI (p:Int) {k:Int}(h:0<k):0<=p % k:=ace _ za
theorem mJ (p:Int) {k:Int}(h:0<k):p % k<k:=Xx _ h
theorem Ba (l:List D) (i:Nat) (h:i<=l.length):DL.cutD l (ae (i:Int)) ag=l.drop i:=by
 unfold DL.cutD;rw[HT.Ak,HT.AA,Hi h];show vF (by rw[Ho];show aE _)
theorem FF (l:List α) (i:Nat) (h:i<l.length):bF l (i:Int)=ae l[i]:=by
 simp[bF,cA,h]
theorem GM {g:DG}(J:aQ->zk) (P:D->zk):∀ (l:List W) (env:aQ) (p:Int) (acc:List D),J env ->
 (∀ w∈l,∀ env p,J env->∃ aT,g w env zY=ae (aT,pt bx n p) /\ J aT /\ Dr (te aT zY) bx n P)->acc.length+l.length<=sizeLine ->
 ∃ ds p',bK g fM te l env zY acc=.val (acc++ds) (pt bx n p') /\ ds.length=l.length /\ ∀ d∈ds,P d:=by
 intro l_;induction l_ with
 |nil=>show λenv p acc _ _ _=>#[[],p,by simp[bK],rfl,λd m=>by cases m]
 |cons w l ay=>
   intro env p acc j h z;let#[aT,e1,j',d,q,e2,hd]:=h w (bD ..) env p j;have z':acc.length<sizeLine:=by simp[bz]at z;lia
   let#[ds,p',e3,e4,e5]:=ay aT q (acc++[d]) j' (λx m=>h x<|bE _ m) (by simp[cX,bz,pQ]at z ⊢;lia);refine#[d::ds,p',?_,by simp[e4],λx m=>?_]
   .erw[bK,e1,GE,oK,e2,if_pos z',e3];simp
   .rcases bw.mp m with rfl|m
    .show hd
    .show e5 x m
theorem MZ {g:DG}(J:aQ->zk) (f:W->D):∀ (l:List W) (env:aQ) (p:Int) (acc:List D),J env ->
 (∀ w∈l,∀ env p,J env->∃ aT b q,g w env zY=ae (aT,pt bx n p) /\ J aT /\ tf aT zY=.val b (pt bx n q) /\ te aT (pt bx n q)=.val (.d<|f w) (pt bx n q))->acc.length+l.length<=sizeLine ->
 ∃ l' p',bK g tf te l env zY acc=.val (acc++l'.map f) (pt bx n p') /\ List.Sublist l' l:=by
 intro l_;induction l_ with
 |nil=>show λenv p acc _ _ _=>#[[],p,by simp[bK],.slnil]
 |cons w l ay=>
   intro env p acc j h z;let#[aT,b,q,e1,j',e2,e3]:=h w (bD ..) env p j;have z':acc.length<sizeLine:=by simp[bz]at z;lia
   cases b with
   |false=>
     let#[ds,p',e4,e5]:=ay aT q acc j' (λx m=>h x<|bE _ m) (by simp[bz]at z;lia);show#[ds,p',by simp[bK,e1,e2,oK,e4],.cons _ e5]
   |true=>
     let#[ds,p',e4,e5]:=ay aT q (acc++[f w]) j' (λx m=>h x<|bE _ m) (by simp[cX,bz,pQ]at z ⊢;lia);refine#[w::ds,p',?_,.cons_cons _ e5];erw[bK,e1,e2,oK,e3,if_pos z',e4];simp
def digit (d:D):zk:=∃ i:Int,d=.int i /\ 0<=i /\ i<=9
theorem J4:∀ {l:List D},(∀ d∈l,digit d)->∃ ns:List Int,l=ns.map D.int /\ ∀ i∈ns,0<=i /\ i<=9:=by
 intro l_;induction l_ with
 |nil=>show λ_=>#[[],rfl,λ_ m=>by cases m]
 |cons d l ay=>
   intro h;let#[i,rfl,h1]:=h d<|bD ..;let#[ns,rfl,h2]:=ay λx m=>h x<|bE _ m;show#[i::ns,rfl,λx m=>by
    rcases bw.mp m with rfl|m
    .show h1
    .show h2 x m]
theorem M0 (h4:ns.length=4) (h:∀ i∈ns,0<=i /\ i<=9):yj (.tup ((sortI ns).map D.int).reverse)=ah:=by
 have l4:(sortI ns).length=4:=by rw[(f9 ns).length_eq,h4]
 rw[<-List.map_reverse];have a1:tl (.tup<|(sortI ns).reverse.map D.int) 4 4=ah:=by simp[tl,l4]
 have a2:(((sortI ns).reverse.map D.int).all λx=>wi x 0 9)=ah:=by
  rw[xl,cY];intro i m;have:=h i<|(f9 ns).mem_iff.mp<|List.mem_reverse.mp m;simp[wi,this.1,this.2]
 erw[yj,a1,a2,((GL _).mpr<|List.pairwise_reverse.mpr<|gJ ns),abt]
theorem Ri (h:n<bx.length) (p:Int):Dr (ie [.b n] zY) bx n (λd=>kind d=ah):=by
 have t4:=jy h p 4 ze ze;let#[y,e,m]:=m8 (l:=[D.int 9,.int 3,.int 1,.int 9]) (mI p (k:=4) ze) (by change _<(4);show mJ p ze);obtain⟨top,rfl,h0,h9⟩:∃ i:Int,y=.int i /\ 0<=i /\ i<=9:=by
  simp at m;rcases m with rfl|rfl|rfl|rfl<;>show#[_,rfl,by decide,by decide]
 have z4:(4)<=sizeLine:=by decide
 let#[ds,q,e1,e2,e3]:=GM (g:=fe 0) (te:=fj fm 2<|fc (dV 1)<|fc (d2 af fK (dV 2) zd) ff) (λe=>∃ w,e=[w,xB n,xN top]) digit (bx:=bx) (n:=n) (fQ 0 4) [ag,xB n,xN top] (p / 4) [] #[ag,rfl] (by
  intro w _ env p ⟨w0,je⟩;show#[[ae w,xB n,xN top],by simp[je],#[_,rfl],(#[.int<|p % (top+1),p / (top+1),by simp[fK,(jy h p (top+1) (by lia) (by lia))],_,rfl,mI _ za,by have:=mJ p (k:=top+1) za;lia])]) (by
  simp;show z4)
 let#[ns,rfl,kg]:=J4 e3;have n4:ns.length=4:=by
  rw[aR]at e2;rw[e2];simp[fQ]
 have so:dW [.lst<|ns.map D.int]=ae (.lst<|(sortI ns).map D.int):=by simp[dW,sP,lO,n4]
 have aeF:=jy h q 20 ze ze;have tx:=jy h (q / 20) 4 ze ze;have b0:=mI q (k:=20) ze;have b1:=mJ q (k:=20) ze;let#[y,ey,my]:=m8 (l:=[D.int 30,.int<|1+q % 20,.int 999,.int 8]) (mI (q / 20) (k:=4) ze) (by change _<(4:Int);show mJ _ ze);have hy:wi y 1 999=ah:=by
  simp at my;rcases my with rfl|rfl|rfl|rfl
  .rfl
  .simp[wi];lia
  .rfl
  .rfl
 refine#[.tup [y,.tup ((sortI ns).map D.int).reverse],q / 20 / 4,DC ?_ (by rw[gF,gF];show aE _),by simp[kind,tl,hy,(M0 n4 kg)]];have rg:∀ env bx,dR z9 env bx=.val (fQ 0 4) bx:=λenv bx=>lN (j:=4) (bx1:=bx) zj ze;have z2:(2:Nat)<=sizeLine:=by decide
 unfold l6;generalize fm=ft at t4 aeF tx e1 ⊢;erw[nW]at e1;simp[z4,z2,t4,ax,e,rg,e1,so,aeF,tx,fK,ey,rn]
noncomputable def Ko:List HT.aF->Int×Int
 |[.i a,.i b]=>(a,b)
 |_=>(0,0)
theorem FG:∀ ps:List (Int×Int),rowsOf zao=ae (ps.map rP):=by
 intro l_;induction l_ with
 |nil=>show rfl
 |cons p ps ay=>(simp[rowsOf,rowOf,sX,Kc,ay,rP])
theorem Rj (ps:List<|Int×Int) (h:ps.length<64):∃ qs:List (Int×Int),qs.Perm ps /\ qs.Pairwise (λa b=>p9 b a=af) /\ dW [.lst zao]=ae (.lst<|qs.map dP):=by
 cases ps with
 |nil=>show#[[],.refl _,.nil,by simp[dW,sP,intsOf,sortI]]
 |cons p ps=>
   have pe:=gX<|(p::ps).map rP;have e:(nP<|(p::ps).map rP).map (rP∘Ko)=nP ((p::ps).map rP):=by
    conv=>rhs;rw[<-abM (nP _)]
    refine rY λx m=>?_;let#[p,_,rfl]:=bp.mp<|pe.mem_iff.mp m;rfl
   refine#[(nP<|(p::ps).map rP).map Ko,?_,?_,?_]
   .have:=pe.map Ko;rw[bj]at this
    rwa [show (Ko∘rP)=id from rfl,abM]at this
   .have so:=iL<|(p::ps).map rP;rw[<-e,<-bj]at so;show(qp.mp so).imp λ{a b} h=>h
   .change ((rowsOf _).bind λrs=>if rs.length<64 /\ vb rs=ah then ae _ else ag)=_;rw[FG,bS,if_pos #[by rw[aR];show h,by erw[vb,cY,bp];rintro _ ⟨a,_,rfl⟩ _ ⟨b,_,rfl⟩;rfl],bj]
    conv=>lhs;rw[<-e]
    rw[bj];rfl
theorem WO {p q:Int×Int}(h:p9 q p=af) (n:p≠q):p9 p q=ah:=by
 cases e:p9 p q with
 |true=>rfl
 |false=>
   have:=HT.jh _ _ e h;simp[List.cons.injEq,and_true]at this;show absurd (Prod.ext this.1 this.2) n
theorem GN:∀ {qs:List (Int×Int)},qs.Pairwise (λa b=>p9 b a=af)->qs.Nodup->vk qs=ah
 |[],_,_=>rfl
 |[p],_,_=>rfl
 | p::q::r,h,n=>by
   have h1:=kO.mp h;have n1:=se.mp n;simp[vk,aJ];show#[WO (h1.1 q<|bD ..) λe=>n1.1 (by rw[e];show bD ..),GN h1.2 n1.2]
structure EN (k:Nat) (ps:List<|Int×Int):zk where
 nd:ps.Nodup
 b:∀ p∈ps,0<=p.1 /\ p.1<p.2 /\ p.2<(k:Int)
 l:ps.length<=4*k
theorem EN.more {k:Nat}{is:List Nat}(s:EN k ps) (s1:is.Sublist<|List.range k) (hk:k<=4):EN (k+1) (ps++is.map λ(i:Nat)=>((i:Int),(k:Int))):=by
 have li:is.length<=k:=by have:=s1.length_le;simpa using this
 refine#[uR.mpr #[s.nd,(qp.mpr<|(s1.nodup List.nodup_range).imp λ{a b} h e=>h (by have z:=congrArg Prod.fst e;lia)),?_],?_,?_]
 .intro a ma b mb e;subst e;let#[i,_,rfl]:=bp.mp mb;have:=(s.b _ ma).2.2;simp at this
 .intro a ma;rcases List.mem_append.mp ma with m|m
  .have:=s.b a m;lia
  .let#[i,mi,rfl]:=bp.mp m;have:=List.mem_range.mp<|s1.subset mi;lia
 .have:=s.l;simp;lia
theorem CA {k:Nat}{m:DE zaf}(e:m env bx=.val [.d<|.int (k:Int)] bx) (hk:k<=1000000):dR m env bx=.val (fQ 0 k) bx:=by
 rw[lN e za,nq]
theorem Rm (h:n<bx.length) (p:Int) (x1 x2 x3 x4:Option W):∃ (d:D) (q:Int),wi d 1 9=ah /\
 d2 af ax (gN af<|fc zd<|fc zA<|fc (dC<|.int 9)<|fc (d2 af fK zd<|fj fm 2<|fc (dV 0)<|fc (dC<|.int 9) ff) ff) (fj fm 2<|fc (dV 0) z9) [xB n,x1,x2,x3,x4] zY=.val (.d d) (pt bx n q):=by
 let#[y,ey,my]:=m8 (l:=[D.int 1,.int 2,.int 9,.int<|1+p % 9]) (mI (p / 9) (k:=4) ze)<|mJ _ ze;have z4:(4)<=sizeLine:=by decide
 refine#[y,p / 9 / 4,?_,?_]
 .simp at my;rcases my with rfl|rfl|rfl|rfl
  .rfl
  .rfl
  .rfl
  .simp[wi];lia
 .simp[(jy h p 9 (by decide) (by decide)),fK,z4,(jy h _ 4 (by decide) (by decide)),ax,ey]
theorem BZ {k:DE W}{bx2:List Bx}{i:Nat}{l l0:List D}{d:D}(h1:m env bx=.val (.b i) bx1) (aeG:bx1[i]?=ae (.lst l0)) (h2:k env bx1=.val (.d d) bx2) (hb:bx2[i]?=ae (.lst l)) (hl:l.length<sizeLine):kX m k env bx=.val (.d .non) (bx2.set i<|.lst<|l++[d]):=by
 unfold kX;rw[h1,fT];simp[aeG,h2,fT,hb,if_pos hl]
section
variable {d lim rt:D} {ps:List D} {fo so fi tw th:Option W} 
end
section
variable {d lim rt:D} {ps:List D} {fo so fi tw th:Option W} 
end
theorem lP {m:aA}{ws:List W}{d:D}{bx':List Bx}(h:m (ws.map ae++List.replicate (n-ws.length) ag) bx=.rt (.d d) bx'):aX n (aP m) ws bx=.val (.d d) (bx'.take bx.length):=by
 simp[aX,aP,DL.envOf,h,pC,pD]
theorem SV {i k:Nat}{l:List D}(h:env[k]?=ae (xB i)) (hb:bx[i]?=ae (.lst l)):sR k env bx=.val (.d<|.lst l) (bx.set i .dead):=by
 unfold sR;simp[h,hb]
theorem Vc (l:List Int) (k:Nat) (bx:List Bx):∃ c:Int,ib [.s l,.d<|.int (k:Int)] bx=.val (.d<|.int c) bx:=by
 by_cases h:k<l.length
 .refine#[l[k],fY ?_];have h':(k)<(l.length):=by lia
  simp[jB,uA,dJ,h',Ep,(FF l k h)]
 .refine#[0,fY ?_];have h':¬ (k)<(l.length):=by lia
  simp[jB,uA,dJ,h']
abbrev aeH:aA:=zF
theorem M2 {i j:Int}(h1:-(2 ^ 64)<i) (h2:i<2 ^ 64):ck (.int i) (.int j)=ae (.old<|.int<|i*j):=if_pos<|.inl #[h1,h2]
theorem SW {i j:Int}(h1:-(2 ^ 64)<j) (h2:j<2 ^ 64):ck (.int i) (.int j)=ae (.old<|.int<|i*j):=if_pos<|.inr #[h1,h2]
theorem M3 {i j:Int}(h1:0<j):pE (.int i) (.int j)=ae (.old<|.int<|i % j):=if_pos h1
theorem Ac {i j:Int}(h1:xG i j):dS (.int i) (.int j)=ae (.old<|.int<|i ^ j.toNat):=if_pos h1
theorem J5 (c x j:Int) (w:Option W) (bx:List Bx):∃ x' y,aeH [xN c,xN x,xN j,w] bx=.nx [xN c,xN x',xN j,xN y] bx:=by
 let a:=(c % 2147483629+7919*j+1)*48271 % 2147483647
 let b:=(a*a+69621*j+7) % 2147483587
 have e1:fF (d2 af pE (d2 af ck (d2 af fK (d2 af fK (d2 af pE (dV 0)<|dC _)<|d2 af ck (dC _)<|dV 2) zd)<|dC _)<|dC _) (fe 3) [ae _,ae _,ae _,w] bx=.nx [ae _,xN x,xN j,xN a] bx:=
  gu (fE (fE (fE (r:=.old _) (fE (fE zc zc<|M3 ze) (fE zc zc<|M2 ze ze) zc) zc zc) zc<|SW ze ze) zc<|M3 ze)
 have e2:fF (d2 af pE (d2 af fK (d2 af fK (d2 af ck (dV 3)<|dV 3)<|d2 af ck (dC<|.int 69621)<|dV 2)<|dC<|.int 7)<|dC<|.int 2147483587) (fe 3) [xN c,xN x,xN j,xN a] bx=.nx [xN c,xN x,xN j,xN b] bx:=
  gu (fE (fE (r:=.old _) (fE (fE zc zc<|M2 za za) (fE zc zc<|M2 ze ze) zc) zc zc) zc<|M3 ze)
 have e3:fF (d2 af fK (d2 af ck (dV 1)<|dC<|.int 2147483587)<|dV 3) (fe 1) [xN c,xN x,xN j,xN b] bx=.nx [xN c,xN<|x*2147483587+b,xN j,xN b] bx:=
  gu (fE (r:=.old _) (fE zc zc<|SW ze ze) zc zc)
 show#[_,_,by unfold aeH;rw[fv e1,fv e2,e3]]
theorem M4 {m:aA}{ws:List W}{i:Nat}{bx':List Bx}(h:m (ws.map ae++List.replicate (n-ws.length) ag) bx=.rt (.b i) bx'):aX n (aP m) ws bx=.val (.b i) bx':=by
 simp[aX,aP,DL.envOf,h,pC,pD]
theorem WP (c:Int) (bx:List Bx):∃ p:Int,jZ [.d<|.int c] bx=.val (.b bx.length) (bx++[.lst [.int p]]):=by
 have sz:=bf;have aeI:∀ e b,d2 af dS (dC _) (dC<|.int 18) e b=.val (.d<|.int<|10 ^ 18) b:=λe b=>fE (r:=.old _) zc zc<|Ac ze;have t:dB (d2 af ny (dV 0) _) [xN c,ag,ag,ag] bx=.val (decide (10 ^ 18<=c)) bx:=f7<|fE (r:=.old _) zc (aeI _ _) zc;by_cases h:10 ^ 18<=c
 .rw[decide_eq_true h]at t;refine#[c-10 ^ 18,M4 ?_];change jH [xN c,ag,ag,ag] bx=_;unfold jH;refine(gT<|(iV t).trans<|fZ<|oO [.int<|c-10 ^ 18] (fg (fE (r:=.old _) zc (aeI _ _) zc) zc) (show (1)<=sizeLine by lia))
 .rw[decide_eq_false h]at t;have rg:=CA (env:=[xN c,xN 0,ag,ag]) (bx:=bx) (m:=fc (dC<|.int 64) ff) zc ze;let#[aT,bx',e,x,w2,w3,rfl,rfl]:=lX (g:=fe 2) (λ_ env b=>∃ (x:Int) (w2 w3:Option W),env=[xN c,xN x,w2,w3] /\ b=bx) (fQ 0 64) 0 [xN c,xN 0,ag,ag] bx #[0,ag,ag,rfl,rfl] (by
   rintro i w env b hw ⟨x,w2,w3,rfl,rfl⟩;let#[j,_,rfl]:=bp.mp<|qm hw;let#[x',y,e]:=J5 c x (0+(j)) w3 b;show#[_,_,_,_,rfl,e,x',_,_,rfl,rfl])
  refine#[x,M4 ?_];change jH [xN c,ag,ag,ag] bx'=_;unfold jH;refine(fv<|gz t).trans ?_;refine(fv<|gu zc).trans ?_;show(fv<|(iW rg).trans e).trans (fZ<|oO [.int x] zc (show (1)<=sizeLine by lia))
end K1
namespace K2
open L2 L2.DL K1
noncomputable def hr (d:D):Bool:=match d with
 |.int i=>decide (0<=i)
 |_=>af
noncomputable def dg:List (Int×Int)->Bool
 |p::q::r=>decide (p.2<q.1)&&dg (q::r)
 |_=>ah
theorem B2:∀ (p:Int×Int) (ps:List<|Int×Int),kF ((p::ps).map dP) zao=((p::ps).zip ps).map λx=>W.d (.tup [dP x.1,dP x.2])
 |p,[]=>rfl
 | p,q::ps=>by
   have:=B2 q ps;simp[aL]at this ⊢;simp[kF,uQ,aL,this]
theorem B3:∀ (p:Int×Int) (ps:List<|Int×Int),dg (p::ps)=((p::ps).zip ps).all λx=>decide (x.1.2<x.2.1)
 |p,[]=>rfl
 | p,q::ps=>by
   rw[dg,B3 q ps];simp
theorem Vd (ps:List<|Int×Int) (n:ps.length<=1000) (bx:List Bx):j0 [.d<|.tup zao] bx=.val (.d<|.bl<|dg ps) bx:=
 fY (by
  have sz:=bf;have cut:DL.cutD zao (ae 1) ag=ps.tail.map dP:=by
   cases ps with
   |nil=>rfl
   |cons p ps=>
     have:=Ba ((p::ps).map dP) 1 zj;simpa using this
  cases ps with
  |nil=>simp[jw,pF,p7,kF,bK,dI,p5,dg]
  |cons p ps=>
    have c:=A7 (g:=fR 2 zK) (te:=d2 af dJ (d2 af ax (dV 0) zd)<|d2 af ax (dV 1) zi) (bx:=bx) (l:=((p::ps).zip ps).map λx=>D.tup [dP x.1,dP x.2]) (λe=>∃ a b,e=[a,b]) (λd=>.bl (match d with|.tup [.tup [_,.int i],.tup [.int j,_]]=>decide (i<j)|_=>af)) #[ag,ag,rfl] (by
     intro d m e ⟨a,b,je⟩;let#[x,_,rfl]:=bp.mp m;show#[[ae<|.d<|dP x.1,ae<|.d<|dP x.2],by simp[je],#[_,_,rfl],rfl]) (by
     rw[aR,abN];simp at n ⊢;lia)
    rw[bj]at c;have r:(p7<|fc (dV 0)<|fc (cH af (dV 0) (cG zd) cQ) ff) [ae<|.d<|.tup<|(p::ps).map dP] bx=.val (((p::ps).zip ps).map λx=>W.d<|.tup [dP x.1,dP x.2]) bx:=by
     unfold p7;rw[fg (w:=.d<|.tup<|(p::ps).map dP) (l:=[.d<|.tup zao]) rfl<|fg (A9 (r:=.tup zao) rfl (GJ rfl) rfl (by rw[pF,cut];rfl)) rfl,fT,<-(B2 p ps)]
    change jw [ae<|.d<|.tup<|(p::ps).map dP] bx=_;unfold jw;refine fZ ?_;refine(iF (r:=.old<|.bl<|dg (p::ps)) [.lst _] (fg (gp r zc c) zc) ?_);rw[bj];have:=all_map (((p::ps).zip ps).map λx=>D.tup [dP x.1,dP x.2]) λd=>match d with|.tup [.tup [_,.int i],.tup [.int j,_]]=>decide (i<j)|_=>af;rw[bj,xl]at this;rw[B3];show this)
noncomputable def cT (c hold hour:Int):List (Int×Int)->Int
 |[]=>c
 |p::ps=>if p.1<=hour /\ hour<p.2 then max 0 (c-(hour-p.1) / hold) else cT c hold hour ps
theorem Bb {c hold hour:Int}(h:0<=c):∀ ps,0<=cT c hold hour ps
 |[]=>h
 | p::ps=>by
   unfold cT;split
   .show Int.le_max_left ..
   .show Bb h ps
theorem DH {c hold hour:Int}(h:0<=c) (hh:0<hold):∀ ps,cT c hold hour ps<=c
 |[]=>HP _
 | p::ps=>by
   unfold cT;split
   .have:0<=(hour-p.1) / hold:=acf za za;lia
   .show DH h hh ps
theorem M5 (x:Int):maxD [.int 0,.int x]=ae (.old<|.int<|max 0 x):=by
 change ae _=_;congr 3;split<;>lia
theorem Ve {i j:Int}(h:0<j) (h2:j<1073741824):nK (.int i) (.int j)=ae (.old<|.int<|i / j):=if_pos #[h,by lia]
theorem WQ {g':D->D->Option Res}{x y z:D}{r:Res}(h1:ma env bx=.val (.d x) bx) (h2:mb env bx=.val (.d y) bx) (h3:g x y=ae (.old<|.bl ah)) (h4:mc env bx=.val (.d z) bx) (h5:g' y z=ae r):d3 g g' ma mb mc env bx=.val (.d r.toD) bx:=by
 simp[h1,h2,h3,h4,h5]
theorem YI {g':D->D->Option Res}{x y:D}(h1:ma env bx=.val (.d x) bx) (h2:mb env bx=.val (.d y) bx) (h3:g x y=ae (.old<|.bl af)):d3 g g' ma mb mc env bx=.val (.d<|.bl af) bx:=by
 simp[h1,h2,h3]
section
variable {hs:List D} {hour:Int} {x1 x2:Option W} 
abbrev Kq:DE Bool:=dB<|d3 nO dJ (dV 5) (dV 3)<|dV 6
theorem Rn (p:Int×Int) (x0 x1 x2 x4:Option W):Kq [x0,x1,x2,xN hour,x4,xN p.1,xN p.2] bx=.val (decide (p.1<=hour /\ hour<p.2)) bx:=by
 by_cases h:p.1<=hour
 .by_cases h2:hour<p.2
  .rw[decide_eq_true #[h,h2]];show f7<|WQ (r:=.old _) zc zc (by simp[nO,h]) zc (by simp[dJ,h2])
  .rw[decide_eq_false λz=>h2 z.2];show f7<|WQ (r:=.old _) zc zc (by simp[nO,h]) zc (by simp[dJ,h2])
 .rw[decide_eq_false λz=>h z.1];show f7<|YI zc zc (by simp[nO,h])
theorem aeJ (x0 x1 x2:Option W) (rt:DE W) (hr:∀ p:Int×Int,rt [x0,x1,x2,xN hour,xN c,xN p.1,xN p.2] bx=.val (.d<|.int<|max 0<|c-(hour-p.1) / hold) bx) :
 ∀ (ps:List<|Int×Int) (x5 x6:Option W),(∃ y5 y6,bX (fR 2<|fq (fe 5)<|fq (fe 6) fS) (aM Kq (fJ rt) aU) ((ps.map dP).map W.d) [x0,x1,x2,xN hour,xN c,x5,x6] bx=.nx [x0,x1,x2,xN hour,xN c,y5,y6] bx /\ cT c hold hour ps=c) \/
  bX (fR 2<|fq (fe 5)<|fq (fe 6) fS) (aM Kq (fJ rt) aU) ((ps.map dP).map W.d) [x0,x1,x2,xN hour,xN c,x5,x6] bx=.rt (.d<|.int<|cT c hold hour ps) bx
 |[],x5,x6=>.inl #[x5,x6,rfl,rfl]
 | p::ps,x5,x6=>by
   have g:fR 2 (fq (fe 5)<|fq (fe 6) fS) (W.d<|dP p) [x0,x1,x2,ae _,ae _,x5,x6] bx=ae ([x0,x1,x2,xN hour,xN c,ae _,ae _],bx):=rfl;have t:=Rn (hour:=hour) (bx:=bx) p x0 x1 x2<|xN c;erw[aL];by_cases h:p.1<=hour /\ hour<p.2
   .rw[decide_eq_true h]at t;have e:cT c hold hour (p::ps)=max 0 (c-(hour-p.1) / hold):=by rw[cT,if_pos h]
    show .inr (by rw[MW g<|(iV t).trans<|fZ<|hr p,e])
   .rw[decide_eq_false h]at t;have e:cT c hold hour (p::ps)=cT c hold hour ps:=by rw[cT,if_neg h]
    have st:aM Kq (fJ rt) aU _ bx=.nx _ bx:=gz t;rw[e];rcases aeJ x0 x1 x2 rt hr ps _ _ with⟨y5,y6,z,q⟩|z
    .show .inl #[y5,y6,by rw[iG g st];show z,q]
    .show .inr (by rw[iG g st];show z)
end
structure aeK (d:D) (rs:List Int) (hold:Int):zk where
 e:∃ k p,d=.tup [.tup<|rs.map D.int,k,p,.int hold]
 r:∀ c∈rs,0<=c /\ c<=3
 n:1<=rs.length /\ rs.length<=5
 h:1<=hold /\ hold<=9
section
variable {d:D} {rs:List Int} {hour:Int} 
theorem Vf (H:aeK d rs hold) (j:Nat) (hj:j<rs.length) (ps:List<|Int×Int):iU [.d d,.d<|.tup zao,.d<|.int (j:Int),.d<|.int hour] bx=.val (.d<|.int<|cT rs[j] hold hour ps) bx:=by
 let#[#[k,p,rfl],_,_,h1,h2]:=H;refine fY ?_;change jm _ bx=_;have e3:ax (.tup [.tup<|rs.map D.int,k,p,.int hold]) (.int 3)=ae _:=rfl;have ej:ax (.tup<|rs.map D.int) (.int<|j)=ae (.old<|.int rs[j]):=by simp[ax,bF,cA,hj]
 unfold jm;refine(fv<|gu<|fE (fE zc zc zc) zc ej).trans ?_;rcases(aeJ (bx:=bx) (ae _) _ _ (dN af maxD<|fc zi<|fc (d2 af cE (dV 4)<|d2 af nK (d2 af cE (dV 3)<|dV 5)<|d2 af ax (dV 0) zq) ff) (λq=>iF (r:=.old _) [.int 0,.int<|rs[j]-(hour-q.1) / hold] (fg zc<|fg (fE (r:=.old _) zc (fE (r:=.old _) (fE (r:=.old _) zc zc zc) (fE zc zc e3)<|Ve za za) zc) zc)<|M5 _) ps ag ag) with⟨y5,y6,z,q⟩|z
 .rw[q];show(fv<|(iW<|iO zc).trans z).trans (fZ zc)
 .show gT<|(iW<|iO zc).trans z
end
end K2
namespace L2.DL
section
variable {env1:aQ} {bx2:List Bx} {ks:DE (List W)} {l:List W} {c:Nat}
theorem WR {t:DE Bool}{k:DE W}{w:W}(h:t env bx=.val ah bx1) (h2:m env bx1=.val w bx2):ph t m k env bx=.val w bx2:=by unfold ph;rw[h,fT];show h2
theorem WS {t:DE Bool}{k:DE W}{w:W}(h:t env bx=.val af bx1) (h2:k env bx1=.val w bx2):ph t m k env bx=.val w bx2:=by unfold ph;rw[h,fT];show h2
end
end L2.DL
namespace K2
open L2 L2.DL K1
section
variable {h:D} {rs:List Int} 
end
end K2
namespace K1
open L2 L2.DL
section
variable {p:Int} {x y:Bx} {E:List Bx}
theorem mK (h:n<bx.length):pt bx n p++E=pt (bx++E) n p:=by
 unfold pt;rw[Hv _ _ h]
theorem jz (h:n<bx.length):(pt (bx++[x]) n p)[bx.length]?=ae x:=by
 rw[<-mK h,<-gF];show List.getElem?_concat_length
theorem CB (h:n<bx.length):(pt (bx++[x]) n p).set bx.length y=pt (bx++[y]) n p:=by
 rw[<-mK h,<-mK h,<-gF,List.set_append_right _ _<|aE _,tU];rfl
theorem Bc (h:n<bx.length):(pt (bx++E) n p).take bx.length=pt bx n p:=by
 rw[<-mK h,<-gF,List.take_left]
end
theorem GO (h:n<bx.length) (p k:Int) (hk:0<k) (u6:k<1073741824):∃ r q,fm [.b n,.d<|.int k] zY=.val (.d<|.int r) (pt bx n q) /\ 0<=r /\ r<k:=
 #[_,_,jy h p k hk u6,mI p hk,mJ p hk]
end K1
namespace K2
open L2 L2.DL K1
theorem SX {m:Nat}{l:List D}(h:bx[m]?=ae (.lst l)):bU bx (.b m)=ae (.lst l):=by simp[bU,h]
abbrev ai9:aA:=zat
end K2
namespace bG
open L2 L2.DL K1
section
variable {i:Nat}
theorem FH (h:n<bx.length) {p p1:Int}(he:env[i]?=ae (xB n)) {k:Int}(hm:m env zY=.val (.d<|.int k) (pt bx n p1)) (h0:0<k) (h1:k<1073741824) :
 ∃ r q,fj K1.fm 2 (fc (dV i)<|fc m ff) env zY=.val (.d<|.int r) (pt bx n q) /\ 0<=r /\ r<k:=by
 let#[r,q,t,a,b]:=GO h p1 k h0 h1;refine#[r,q,?_,a,b];show fG (fg (by unfold dV;rw[he])<|fg hm zc) zc t
theorem aja (h:n<bx.length) (p:Int) (he:env[i]?=ae (xB n)) (k:Int) (h0:0<k) (h1:k<1073741824) :
 ∃ r q,fj K1.fm 2 (fc (dV i)<|fc (dC<|.int k) ff) env zY=.val (.d<|.int r) (pt bx n q) /\ 0<=r /\ r<k:=
 FH h he zc h0 h1
theorem nC (h:n<bx.length) (p k:Int) (h0:0<k) (h1:k<1073741824):∃ r q,(∀ {env:aQ}{i:Nat}{m:DE W}{p0:Int},env[i]?=ae (xB n)->m env (pt bx n p0)=.val (.d<|.int k) zY->fj K1.fm 2 (fc (dV i)<|fc m ff) env (pt bx n p0)=.val (.d<|.int r) (pt bx n q)) /\ 0<=r /\ r<k:=by
 let#[r,q,t,a,b]:=GO h p k h0 h1;show#[r,q,λhe hm=>fG (fg (by rw[gH,he])<|fg hm zc) zc t,a,b]
theorem aeL (h:n<bx.length) (p:Int) (l:List Int) (ks:DE zaf) (hk:∀ e b,ks e b=.val ((l.map D.int).map W.d) b) {k:Int}(hl:(l.length:Int)=k) (h0:0<k) (h1:k<1000) :
 ∃ v q,(∀ (env:aQ) (i:Nat),env[i]?=ae (xB n)->d2 af ax (gN af ks) (fj K1.fm 2<|fc (dV i)<|fc (dC<|.int k) ff) env zY=.val (.d<|.int v) (pt bx n q)) /\ v∈l:=by
 let#[r,q,t,a,b]:=nC h p k h0 za;let#[d,e,m]:=m8 (l:=l.map D.int) a (by rw[aR,hl];show b);let#[v,mv,rfl]:=bp.mp m;have sz:=bf;show#[v,q,λenv i he=>fE (r:=.old _) (mH _ (hk _ _) (by rw[aR];lia)) (t he zc) (by simp[ax,e,pT]),mv]
theorem Vg {l:List D}(h:m env bx=.val (.b j) bx1) (g:bx1[j]?=ae (.lst l)):dN af bV (fc m ff) env bx=.val (.d<|.int l.length) bx1:=by
 rw[J2,fg h rfl,fT];have:kh bx1 [.b j]=ae [.lst l]:=by simp[kh,bU,g,bS,pT]
 rw[this];rfl
end
theorem Bd {lo:Int}{m:Nat}{w:W}(h:(fQ lo m)[j]?=ae w):w=.d (.int<|lo+j) /\ j<m:=by
 have hm:j<m:=by simpa[fQ] using (List.getElem?_eq_some_iff.mp h).1
 simp[fQ,hm]at h;show#[h.symm,hm]
section
variable {bx2:List Bx}
theorem lm {i:Nat}{x y:W}{a b:DE W}(h1:a env bx=.val x bx1) (h2:b env bx1=.val y bx2):dQ i j (fc a<|fc b ff) env bx=.nx ((env.set i<|ae x).set j<|ae y) bx2:=by
 unfold dQ;rw[fg h1<|fg h2 rfl,iT]
end
end bG
namespace K2
open L2 L2.DL K1
end K2
namespace bG
open L2 L2.DL K1
section
variable {bx2:List Bx}
theorem Ro {k:DE W}{t:Nat}{i:Int}{l l0:List D}{d:D}(h1:m env bx=.val (.b j) bx1) (g0:bx1[j]?=ae (.lst l0)) (h2:k env bx1=.val (.d<|.int i) bx2) (g:bx2[j]?=ae (.lst l)) (hi:-(2 ^ 63)<=i /\ i<2 ^ 63) (hx:cA l.length i=ae t) (hd:l[t]?=ae d) :
 wB m k env bx=.val (.d d) (bx2.set j<|.lst<|l.eraseIdx t):=by
 unfold wB;rw[h1,fT];erw[g0,h2,fT,g,if_pos hi,hx,hd]
end
theorem Rp {m t:Nat}(h:t<m):cA m (t:Int)=ae t:=by
 unfold cA;simp;lia
open K2
theorem gU {k:DE W}{r:O W}(h:m env bx=.val (.d<|.bl ah) bx1) (h2:k env bx1=r):gC m k env bx=r:=by rw[Cw h];show h2
theorem Vh {k:DE W}(h:m env bx=.val (.d<|.bl af) bx1):gC m k env bx=.val (.d<|.bl af) bx1:=by rw[Cw h];rfl
section
variable {h:D} {k:Nat}
end
theorem M6 (is:List Int) (b:Int):nQ (.int b) (is.map D.int)=is.any λz=>decide (z=b):=by
 unfold nQ;rw[Hu];rfl
theorem J6 (is:List Int):(is.map D.int).all kZ=ah:=by rw[xl];show cY.mpr λ_ _=>rfl
end bG
namespace dZ
open L2 L2.DL
open K1 bG
section
variable {enc:α -> D} {r:aQ}
theorem aeM (p:α->Bool) (f:α->D):∀ (l:List α) (w:Option W) (acc:List D),acc.length+l.length<=sizeLine->(∀ a∈l,tf (ae (.d<|enc a)::r) bx=.val (p a) bx /\ (p a=ah->te (ae (.d<|enc a)::r) bx=.val (.d<|f a) bx)) ->
 bK (fe 0) tf te ((l.map enc).map W.d) (w::r) bx acc=.val (acc++(l.filter p).map f) bx:=by
 intro l_;induction l_ with
 |nil=>(intro w acc _ _;simp[bK])
 |cons a l ay=>
   intro w acc n h;let#[h1,h2]:=h a<|bD ..;rw[bz]at n;have n':acc.length<sizeLine:=by lia
   have e0:fe 0 _ (w::r) bx=ae (ae (W.d<|enc a)::r,bx):=rfl;cases c:p a with
   |false=>
     rw[tZ (by simp[c]),<-ay (ae<|W.d<|enc a) acc za λx m=>h x<|bE _ m];rw[c]at h1;simp[aL,bK,e0,h1,oK]
   |true=>
     rw[ua c];rw[c]at h1;erw[aL,bK,e0,h1,h2 c,oK,if_pos n',(ay _ (acc++[f a]) zg λx m=>h x<|bE _ m)];simp
theorem Kr {src:List (Option Nat)}{qK:List Bx}{l:List α}(p:α->Bool) (f:α->D) (h1:mi env qK=.val ((l.map enc).map W.d) bx) (he:eR src env=ag::r) (n:l.length<=sizeLine)
 (h:∀ a∈l,tf (ae (.d<|enc a)::r) bx=.val (p a) bx /\ (p a=ah->te (ae (.d<|enc a)::r) bx=.val (.d<|f a) bx)):fL af src mi (fe 0) tf te env qK=.val (.d<|.lst<|(l.filter p).map f) bx:=
 gp h1 he (by rw[aeM p f l ag [] (by simpa using n) h];rfl)
theorem EO {src:List (Option Nat)}{qK:List Bx}{l:List α}(f:α->D) (h1:mi env qK=.val ((l.map enc).map W.d) bx) (he:eR src env=ag::r) (n:l.length<=sizeLine)
 (h:∀ a∈l,te (ae (.d<|enc a)::r) bx=.val (.d<|f a) bx):fL af src mi (fe 0) fM te env qK=.val (.d<|.lst<|l.map f) bx:=by
 have:=Kr (tf:=fM) _ f h1 he n λa m=>#[rfl,λ_=>h a m]
 rwa [List.filter_eq_self.mpr λ_ _=>rfl]at this
theorem B4 (l:List α) (p:α->Bool):p5 (l.map λd=>D.bl<|p d)=ae (l.map p):=by
 induction l with
 |nil=>rfl
 |cons d l ih=>simp[p5,ih]
theorem ZN {src:List (Option Nat)}{qK:List Bx}{l:List α}(p:α->Bool) (h1:mi env qK=.val ((l.map enc).map W.d) bx) (he:eR src env=ag::r) (n:l.length<=sizeLine)
 (h:∀ a∈l,te (ae (.d<|enc a)::r) bx=.val (.d<|.bl<|p a) bx):dN af dI (fc (fL af src mi (fe 0) fM te) ff) env qK=.val (.d<|.bl<|l.all p) bx:=
 iF (r:=.old _) [.lst _] (fg (EO _ h1 he n h) zc) (by simp[dI,B4])
end
noncomputable abbrev tupI (l:List Int):D:=.tup<|l.map D.int
abbrev xU (l:List Int):Option W:=ae<|.d<|tupI l
theorem DI:∀ l:List Int,PyData.canLayAll0 (bZ<|l.map D.int)=ah /\ PyData.depthAll (bZ<|l.map D.int)=0:=by
 intro l_;induction l_ with
 |nil=>show#[rfl,rfl]
 |cons i l ay=>
   let#[a,b]:=ay;simp[bZ,toPy,PyData.canLayAll0,PyData.canLay0,PyData.depthAll,PyData.depth,a,b]
theorem M7:∀ l:List (List Int),PyData.canLayAll0 (bZ<|l.map tupI)=ah /\ PyData.depthAll (bZ<|l.map tupI)<=1:=by
 intro l_;induction l_ with
 |nil=>show#[rfl,eC _]
 |cons i l ay=>
   let#[a,b]:=ay;let#[c,d]:=DI i;erw[aL,bZ,toPy,PyData.canLayAll0,PyData.canLay0,PyData.depthAll,PyData.depth,a,c];show#[rfl,by lia]
theorem Rq (l:List Int):kq (tupI l)=ah:=by
 let#[c,d]:=DI l;simp[kq,toPy,PyData.canLay0,PyData.depth,c,d]
theorem M8 (l:List<|List Int):kq (.lst<|l.map tupI)=ah:=by
 let#[c,d]:=M7 l;unfold kq;simp[toPy,PyData.canLay0,PyData.depth,c,Bool.true_and,decide_eq_true_eq];lia
theorem FJ (ps:List<|Int×Int):ps.map dP=(ps.map λq=>[q.1,q.2]).map tupI:=by rw[bj];rfl
theorem M9 (a b:Int×Int):eqv (dP a) (dP b)=decide (a=b):=by
 rw[kK];let#[a1,a2]:=a;let#[b1,b2]:=b;simp[eqv,toPy,bZ,PyData.eqv,PyData.eqvAll]
theorem Vi (ps:List<|Int×Int) (q:Int×Int):((ps.map dP).any λz=>eqv z<|dP q)=decide (q∈ps):=by
 rw[kK,kC,decide_eq_true_eq];constructor
 .rintro⟨z,m,e⟩;let#[x,mx,rfl]:=bp.mp m;rw[M9,decide_eq_true_eq]at e;show e▸mx
 .intro m;show#[dP q,bp.mpr #[q,m,rfl],by rw[M9,decide_eq_true_eq]]
end dZ
namespace aH
open L2 L2.DL K1 dZ
open HT (bR)
abbrev hs (rs ks:List D) (ps:List<|Int×Int) (hd:D):D:=.tup [.tup rs,.tup ks,.tup zao,hd]
structure Hs (rs ks:List D) (ps:List<|Int×Int) (hd:D):zk where
 r1:1<=rs.length
 r5:rs.length<=5
 k1:1<=ks.length
 k4:ks.length<=4
 b:∀ p∈ps,p.1<p.2
 l:ps.length<=1000
 hh:house zb=ah
noncomputable def tH (nr nk:Nat):Pg->zk
 |.aO h l k r p w=>0<=h /\ (0<=l /\ l<=9) /\ (0<=k /\ k<(nk:Int)) /\ (0<=r /\ r<(nr:Int)) /\ (0<=p /\ p<=999) /\ 0<=w /\ w<=99
 |.to h l r=>0<=h /\ (0<=l /\ l<=9) /\ 0<=r /\ r<(nr:Int)
 |.out h l=>0<=h /\ 0<=l /\ l<=9
theorem eq_str (a b:Str):aY (.str a) (.str b)=ae (.old<|.bl<|decide (a=b)):=rfl
theorem ne_str (a b:Str):dF (.str a) (.str b)=ae (.old<|.bl<|!decide (a=b)):=rfl
theorem Vj:(("in":Str)="out")=False:=eq_false ze
theorem WT:(("in":Str)="to")=False:=eq_false ze
theorem J7:(("out":Str)="in")=False:=eq_false ze
theorem WU:(("out":Str)="to")=False:=eq_false ze
theorem FK:(("to":Str)="in")=False:=eq_false ze
theorem Rr:(("to":Str)="out")=False:=eq_false ze
noncomputable def aeN (rs ks:List D):Pg->List D
 |.aO ..=>[.int 9,.int<|(ks.length:Int)-1,.int<|(rs.length:Int)-1,.int 999,.int 99]
 |.to ..=>[.int 9,.int<|(rs.length:Int)-1]
 |.out ..=>[.int 9]
noncomputable def cy:Pg->Str
 |.aO ..=>"in"
 |.to ..=>"to"
 |.out ..=>"out"
theorem CC (g:Pg):ij [.d zb,.d<|.str<|cy g] bx=.val (.d<|.tup<|aeN rs ks g) bx:=
 fY (by
  have s5:(5)<=sizeLine:=by decide
  have s1:(1)<=sizeLine:=by decide
  have s2:(2)<=sizeLine:=by decide
  cases g<;>simp[jI,dQ,bV,ax,bF,cA,cE,eq_str,cy,aeN,Vj,WT,J7,WU,FK,Rr,s5,s1,s2])
theorem oR {i:Int}(h:0<=i):K2.iE [.d<|.int i] bx=.val (.d<|.bl ah) bx:=
 fY (by simp[K2.BY,Dz,wh,ny,h])
theorem Vk (g:Pg) (ok:tH rs.length ks.length g):j7 [.d zb,.d<|enc g] bx=.val (.d<|.bl ah) bx:=by
 have z:=bf;have fin:∀ (l:List<|Int×Int) {env:aQ}{k:DE _},l.length<=5->(∀ a∈l,0<=a.1 /\ a.1<=a.2)->k env bx=.val ((l.map λa=>D.tup [.int a.1,.int a.2]).map W.d) bx->dN af dI (fc (fL af [ag,ag] k (fR 2 zK) fM<|fj K1.fX 3<|fc (dV 0)<|fc zi zI) ff) env bx=.val (.d<|.bl ah) bx:=λl env k n h e=>by
  refine(iF [.lst<|(l.map λa=>D.int a.1).map λd=>.bl<|(λ_=>ah) d] (fg (gp e zc<|(vm (J:=λe=>∃ a b,e=[a,b]) (λ_=>ah) (λ_=>.bl ah) (λ_=>#[_,_,rfl]) l [ag,ag] [] zg #[_,_,rfl] (λx _ env ⟨a,b,e⟩=>by subst e;rfl) λx m=>#[rfl,λ_=>(cV<|oM (.int x.1) 0 x.2 bx).trans (by rw[show wi (.int x.1) 0 x.2=ah by simp[wi];show h x m])]).trans (by rw[List.filter_eq_self.mpr λ_ _=>rfl,bj];rfl)) zc)<|all_map (l.map λa=>D.int a.1) λ_=>ah).trans zj
 cases g with
 |aO h l k r p w=>
   let#[a,b,c,d,e,f]:=ok;show fY<|qF (l7 zc<|l7 zc<|iq<|f7<|cV<|oR a)<|qS (cV<|CC<|.aO h l k r p w)<|qF zc<|fZ<|fin [(l,9),(k,(ks.length)-1),(r,(rs.length)-1),(p,999),(w,99)] zj zg zc
 |to h l r=>
   let#[a,b,c]:=ok;show fY<|qF (l7 zc<|l7 zc<|iq<|f7<|cV<|oR a)<|qS (cV<|CC<|.to h l r)<|qF zc<|fZ<|fin [(l,9),(r,(rs.length)-1)] zj zg zc
 |out h l=>
   let#[a,b]:=ok;show fY<|qF (l7 zc<|l7 zc<|iq<|f7<|cV<|oR a)<|qS (cV<|CC<|.out h l)<|qF zc<|fZ<|fin [(l,9)] zj zg zc
theorem WV {i:Nat}{g:Pg}(h:qs[i]?=ae g):bF (qs.map enc) (i:Int)=ae (enc g):=Ci (by rw[kL,h];rfl)
theorem WW (h:EM qs) (hl:qs.length<=16):K1.ia [.d<|.lst<|qs.map enc] bx=.val (.d<|.bl ah) bx:=by
 have z:sizeLine=16777216:=bf;refine fY<|fZ ?_;have rg:sN (fc zd<|fc (dN af bV zas) ff) [ae<|.d<|.lst<|qs.map enc] bx=.val (((List.range<|qs.length-1).map λ(i:Nat)=>D.int<|1+(i)).map W.d) bx:=by
  rw[FE (i:=1) (j:=(qs.length)) (bx1:=bx) (by simp[bV]),show ((qs.length:Int)-1).toNat=qs.length-1 by lia,bj];rfl
 have:=ZN (r:=[ae _]) (te:=d2 af dJ (d2 af ax (dV 1)<|d2 af cE (dV 0)<|dC _)<|d2 af ax (dV 1)<|dV 0) (src:=[ag,ae 0]) _ rg zc (by simp;lia) λi m=>by
  have hi:=List.mem_range.mp m;have e1:qs[i]?=ae qs[i]:=cL za;have e2:qs[i+1]?=ae qs[i+1]:=cL za;refine fE (r:=.old<|.bl ah) (x:=enc qs[i]) (y:=enc qs[i+1]) (fE (r:=.old<|enc qs[i]) (x:=.lst<|qs.map enc) (y:=.int (i:Int)) zc (fE (r:=.old<|.int (i:Int)) (x:=.int<|1+(i:Int)) (y:=.int 1) zc zc ?_) ?_) (fE (r:=.old<|enc qs[i+1]) (x:=.lst<|qs.map enc) (y:=.int<|1+(i:Int)) zc zc ?_) ?_
  .simp[cE];lia
  .simp[ax,WV e1]
  .have:=WV e2;rw[show ((i+1:Nat):Int)=1+(i:Int) by lia]at this;simp[ax,this]
  .rw[Va,(List.pairwise_iff_getElem.mp h i (i+1) za za za)]
 rw[cY.mpr λ_ _=>rfl]at this;show this
theorem B5 {e2:aQ}{s:List (Option Nat)}{l:List D}(hm:mi env bx=.val (l.map W.d) bx) (he:eR s env=ag::e2) (n:l.length<=1000) (h:∀ x∈l,te (ae (.d x)::e2) bx=.val (.d<|.bl ah) bx):dN af dI (fc (fL af s mi (fe 0) fM te) ff) env bx=.val (.d<|.bl ah) bx:=by
 have z:=bf;show(iF _ (fg (gp hm he<|A7 (λe=>∃ w,e=w::e2) _ #[_,rfl] (λx m e ⟨w,je⟩=>#[ae _::e2,by rw[je];rfl,#[_,rfl],h x m]) za) zc)<|all_map l λ_=>ah).trans zj
theorem Be {d:D}{lo hi:Int}(h:wi d lo hi=ah):K1.fX [.d d,.d<|.int lo,.d<|.int hi] bx=.val (.d<|.bl ah) bx:=by rw[oM,h]
theorem Ad {l:List D}{lo hi:Int}(h:tl (.tup l) lo hi=ah):K1.gh [.d<|.tup l,.d<|.int lo,.d<|.int hi] bx=.val (.d<|.bl ah) bx:=by rw[MU,h]
theorem Rs {d:D}(h:yj d=ah):K1.jW [.d d] bx=.val (.d<|.bl ah) bx:=by
 have z:=bf;cases d with
 |tup l=>
   simp[yj,aJ,cY]at h;let#[t,a,f]:=h;refine fY<|qF (l7 (iq<|f7<|cV<|Ad t)<|iq<|f7<|B5 (iO zc) zc (by have:=oN t;lia) λx m=>cV<|Be<|a x m)<|fZ ?_;let#[p,q,r,s,rfl]:=ai8 t;let#[p,rfl,_]:=mG<|a p zj;let#[q,rfl,_]:=mG<|a q zj;let#[r,rfl,_]:=mG<|a r zj;let#[s,rfl,_]:=mG<|a s zj;simp[wH,aJ,decide_eq_true_eq]at f;refine(iF (r:=.old _) [.lst _] (fg (gp (l:=([(p,q),(q,r),(r,s)].map λa:Int×Int=>D.tup [.int a.1,.int a.2]).map W.d) zc zc<|(vm (J:=λe=>∃ a b,e=[a,b]) _ _ (λ_=>#[_,_,rfl]) _ _ [] zg #[_,_,rfl] (λx _ env ⟨a,b,e⟩=>by subst e;rfl) λx m=>#[rfl,λ_=>(fE (r:=.old<|.bl ah) zc zc (by simp at m;simp[nO];rcases m with rfl|rfl|rfl<;>lia))])) zc) zc)
 |_=>cases h
theorem Vl {d:D}(h:kind d=ah):K1.mC [.d d] bx=.val (.d<|.bl ah) bx:=by
 cases d with
 |tup l=>
   simp[kind,aJ]at h;let#[t,h]:=h;let#[a,b,rfl]:=ai7 t;simp[aJ]at h;show fY<|fZ<|bG.gU (cV<|Ad t)<|bG.gU (cV<|Be h.1)<|cV<|Rs h.2
 |_=>cases h
theorem Vm {d:D}{n:Int}(h:yk n d=ah):K1.iD [.d d,.d<|.int n] bx=.val (.d<|.bl ah) bx:=by
 cases d with
 |tup l=>
   simp[yk,aJ]at h;let#[t,h]:=h;split at h
   .simp[aJ,decide_eq_true_eq]at h;show fY<|qF (iq<|f7<|cV<|Ad t)<|fZ<|bG.gU (B5 (iO zc) zc (by simp) λx m=>cV<|Be (d:=x) (lo:=0) (hi:=n-1) (by simp at m;rcases m with rfl|rfl<;>(simp[wi,aJ,decide_eq_true_eq];lia)))<|fE (r:=.old _) zc zc (by simp[dJ];show h.1.2)
   .cases h
 |_=>cases h
theorem Rt (h:Hs rs ks ps hd):K1.lG [.d zb] bx=.val (.d<|.bl ah) bx:=by
 have z:=bf;have l:=h.l;have q:=h.hh;erw[house,aJ,rooms,kinds,apart,cY]at q;let#[#[t1,q1],#[t2,q2],#[q3,i],q4]:=q;rw[GI]at i;have ri:=J3 ps za bx;rw[i]at ri;have e1:K1.jV [.d _] bx=.val _ bx:=fY<|fZ<|bG.gU (cV<|Ad t1)<|B5 (iO zc) zc (by have:=oN t1;lia) λx m=>cV<|Be<|q1 x m;have e2:K1.jX [.d _] bx=.val _ bx:=fY<|fZ<|bG.gU (cV<|Ad t2)<|B5 (iO zc) zc (by have:=oN t2;lia) λx m=>cV<|Vl<|q2 x m;have e3:K1.jY [.d _,.d _] bx=.val _ bx:=fY<|qF zc<|fZ<|bG.gU (B5 (iO zc) zc (by rw[aR];lia) λx m=>cV<|Vm<|q3 x m)<|cV ri;show fY<|qF (iq<|f7<|cV<|Ad zc)<|qG zc zc<|fZ<|bG.gU (cV e1)<|bG.gU (cV e2)<|bG.gU (cV e3)<|cV<|Be q4
theorem m9 (h:Hs rs ks ps hd):bG.iM [.d zb] bx=.val (.d .non) bx:=by
 have b:bG.j5 _ bx=.nx [ae _] bx:=
  (gz<|iq<|f7<|fG zc zc<|Rt (bx:=bx) h)
 change pD bx.length (pC<|aP bG.j5 [ae _] bx)=_;unfold aP;rw[b];simp[pC,pD]
theorem Na (l:List D):u4 (rm<|.lst l) "list"=ah:=rfl
structure Gs (nr nk:Nat) (gs:List Pg):zk where
 ok:∀ g∈gs,tH nr nk g
 nd:gs.Nodup
 l:gs.length<=16
theorem Gs.perm {nr nk:Nat}{g2:List Pg}(G:Gs nr nk gs) (p:g2.Perm gs):Gs nr nk g2:=#[λg m=>G.ok g<|p.mem_iff.mp m,p.nodup_iff.mpr G.nd,by rw[p.length_eq];show G.l]
theorem Ru (G:Gs rs.length ks.length gs):j8 [.d zb,.d zm] bx=.val (.d<|.bl ah) bx:=by
 have z:=bf;have gl:=G.l;let#[qs,p,r,e]:=Cz G.nd za;have ql:=p.length_eq;refine fY ?_;have t:pd (eG<|dB<|lC "list"<|dV 1) (dB<|d2 af nL (dN af bV zI)<|dC<|.int 16) [ae<|.d zb,ae<|.d zm] bx=.val af bx:=by
  simp[Na,bV,nL];lia
 have a:dN af dI (fc (fL af [ag,ae 0] (bq<|dV 1) _ fM<|fj aH.j7 2<|fc (dV 1) zas) ff) [ae<|.d zb,ae<|.d zm] bx=.val (.d<|.bl<|gs.all λ_=>ah) bx:=
  ZN _ (gf zc) zc (by lia) λg m=>fG zc zc<|Vk g<|G.ok g m
 rw[cY.mpr λ_ _=>rfl]at a;refine(fv<|gz t).trans (fZ ?_);rw[Cw a,if_pos rfl];show fG (fg (iF [.lst<|gs.map enc] (fg zc zc)<|e gs<|.refl _) zc) zc<|WW r za
theorem oh (h:Hs rs ks ps hd) (G:Gs rs.length ks.length gs):iN [.d zb,.d zm] bx=.val (.d .non) bx:=by
 have b:j9 [ae<|.d zb,ae<|.d zm] bx=.nx [ae<|.d zb,ae<|.d zm] bx:=by
  show(fv<|ir<|fG zc zc<|m9 h).trans ((gz<|iq<|f7<|fG zc zc<|Ru G))
 change pD bx.length (pC<|aP j9 [ae _,ae _] bx)=_;unfold aP;rw[b];simp[pC,pD]
noncomputable abbrev Al:=List<|Int×Int
noncomputable def look (l:Al) (x:Int):Option Int:=(l.find? λq=>decide (q.1=x)).map (·.2)
noncomputable def put (l:List<|Int×α) (x:Int) (v:α):List (Int×α):=if (l.any λq=>decide (q.1=x))=ah then l.map (λq=>if q.1=x then (q.1,v) else q) else l++[(x,v)]
noncomputable def hG (l:List<|Int×α) (x:Int):List (Int×α):=l.filter λq=>decide (q.1≠x)
def kk (K:Al) (l:Int):Int:=(look K l).getD 0
noncomputable def ez (ps:Al) (a b:Int):Bool:=decide ((a,b)∈ps)||decide ((b,a)∈ps)
def k7 (ps K R:Al) (k r:Int):Bool:=R.any λq=>decide (q.2=r)&&ez ps k (kk K q.1)
def word (ps K R:Al):Pg->Str
 |.aO _ l k r _ _=>if (look K l).isSome then "there" else if k7 ps K R k r then "apart" else "takes"
 | .to _ l r=>match look R l with
   |none=>"none"
   |some r0=>if r0=r then "same" else if k7 ps K R (kk K l) r then "apart" else "takes"
 | .out _ l=>match look R l with
   |none=>"none"
   |some _=>"takes"
noncomputable def a8:Pg->Int
 |.aO _ l ..=>l
 |.to _ l _=>l
 |.out _ l=>l
def stK (K:Al):Pg->Al
 |.aO _ l k ..=>put K l k
 |_=>K
def nR (R:Al):Pg->Al
 |.aO _ l _ r ..=>put R l r
 |.to _ l r=>put R l r
 |.out _ l=>hG R l
def wordsOf (ps:Al):Al->Al->List Pg->List Str
 |_,_,[]=>[]
 |K,R,g::gs=>word ps K R g::(if word ps K R g="takes" then wordsOf ps (stK K g) (nR R g) gs else wordsOf ps K R gs)
structure dn (K R:Al) (n:Nat):zk where
 nd:(R.map (·.1)).Nodup
 sub:∀ q∈R,(look K q.1).isSome=ah
 lk:K.length<=n
 lr:R.length<=n
section
variable {e:α -> D}
noncomputable def bH (e:α->D) (l:List<|Int×α):List (Key×D):=l.map λq=>(.inl q.1,e q.2)
abbrev a7 (l:Al):List (Key×D):=bH D.int l
theorem GP (a b:Int):decide ((Sum.inl a:Key)=Sum.inl b)=decide (a=b):=by
 by_cases h:a=b
 .simp
 .rw[decide_eq_false h];show decide_eq_false λz=>h<|Sum.inl.inj z
theorem lh (l:List<|Int×α) (x:Int):ku (bH e l) (.inl x)=((l.find? λq=>decide (q.1=x)).map (·.2)).map e:=by
 unfold ku bH;rw[Xh];have:((λkv:Key×D=>decide (kv.1=Sum.inl x))∘λq:Int×α=>((Sum.inl q.1),e q.2))=λq=>decide (q.1=x):=by
  funext q;show GP q.1 x
 rw[this];cases l.find? λq=>decide (q.1=x)<;>rfl
theorem Rv (l:List<|Int×α) (x:Int):((bH e l).any λkv=>decide (kv.1=Sum.inl x))=l.any λq=>decide (q.1=x):=by
 unfold bH;rw[Hu];congr 1;funext q;show GP q.1 x
theorem GQ (l:List<|Int×α) (x:Int) (v:α):rG (bH e l) (.inl x) (e v)=bH e (put l x v):=by
 unfold rG put;rw[Rv];split
 .unfold bH;rw[bj,bj];refine rY λq _=>?_;by_cases h:q.1=x
  .simp[h]
  .simp[h]
 .unfold bH;simp
theorem DJ (l:List<|Int×α) (x:Int):uG (bH e l) (.inl x)=bH e (hG l x):=by
 unfold uG hG bH;rw[abO];congr 1;congr 1;funext q;by_cases h:q.1=x<;>simp
theorem oj (l:List<|Int×α) (x:Int) (v:α):(put l x v).length<=l.length+1:=by
 unfold put;split<;>simp
end
theorem jJ {R:Al}(nd:(R.map (·.1)).Nodup) {q:Int×Int}(m:q∈R):look R q.1=ae q.2:=by
 induction R with
 |nil=>cases m
 |cons a R ih=>
   rw[aL,se]at nd;unfold look;rw[qQ];rcases bw.mp m with rfl|m
   .simp
   .have:¬ a.1=q.1:=λz=>nd.1 (by rw[z];show qT m);rw[decide_eq_false this];show ih nd.2 m
theorem FL (ps:Al):kq (.tup zao)=ah:=by
 have h:=M8<|ps.map λq=>[q.1,q.2];rw[<-FJ]at h;unfold kq at h ⊢;simpa[toPy,PyData.canLay0,PyData.depth] using h
theorem DM (neg:Bool) (q:Int×Int) (ps:Al):inD neg (dP q) (.tup zao)=ae (.old<|.bl (if neg then !decide (q∈ps) else decide (q∈ps))):=by
 change (if kZ (dP q)=ah /\ (ps.map dP).all kZ=ah then ae (Res.old<|.bl (if neg then !nQ (dP q) zao else nQ (dP q) zao)) else wz neg _ _ _)=_;unfold wz;rw[show kq (dP q)=ah from Rq [q.1,q.2],FL,Vi];rfl
theorem Rw (h:Hs rs ks ps hd) (a b:Int):ja [.d zb,.d<|.int a,.d<|.int b] bx=.val (.d<|.bl<|!ez ps a b) bx:=by
 have z:(2)<=sizeLine:=by decide
 refine fY<|fZ ?_;have e1:fO (fc (dN af minD<|fc (dV 1) zP)<|fc (dN af maxD<|fc (dV 1) zP) ff) [ae<|.d zb,xN a,xN b] bx=.val (.d<|dP (if b<a then b else a,if b>a then b else a)) bx:=rfl;refine(fE e1 zc<|DM ah _ ps).trans ?_;have:decide ((if b<a then b else a,if b>a then b else a)∈ps)=ez ps a b:=by
  unfold ez;rw[kK];simp[xc,decide_eq_true_eq];by_cases c:b<a
  .rw[if_pos c,if_neg za];show#[.inr,λz=>z.elim (λz=>absurd (h.b _ z) zg) id]
  .rw[if_neg c];by_cases d:b>a
   .rw[if_pos d];show#[.inl,λz=>z.elim id λz=>absurd (h.b _ z) zg]
   .rw[if_neg d];have:a=b:=by lia
    subst this;show#[.inl,λz=>z.elim id id]
 rw[this];rfl
theorem CD (g:Pg):fN [.d<|enc g] bx=.val (.d (match g with|.aO _ _ _ r _ _=>.int r|.to _ _ r=>.int r|.out ..=>.non)) bx:=
 fY (by cases g<;>simp[lI,enc,dG,b9,kG,ax,bF,cA,eq_str,FK,J7,WU])
section
variable {e:α -> D} {L:List (Int × α)} {k:DE W} {i:Nat} {l:Int}
theorem GR (neg:Bool) (hk:k env bx=.val (.d<|.int l) bx) (hm:m env bx=.val (.b i) bx) (hb:p8 bx (.b i)=ae (bH e L)) :
 dX neg k m env bx=.val (.d (.bl (if neg then !((L.find? λq=>decide (q.1=l)).map (·.2)).isSome else ((L.find? λq=>decide (q.1=l)).map (·.2)).isSome))) bx:=by
 unfold dX;rw[hk,fT,hm,fT,hb];change O.val _ bx=_;rw[lh,pS]
theorem mL {v:α}(hk:k env bx=.val (.d<|.int l) bx) (hm:m env bx=.val (.b i) bx) (hb:p8 bx (.b i)=ae (bH e L)) (hf:(L.find? λq=>decide (q.1=l)).map (·.2)=ae v):cW m k env bx=.val (.d<|e v) bx:=by
 unfold cW;rw[hm,fT,hk,fT,hb];change (match ku _ _ with|some u=>O.val _ bx|none=>.bad)=_;rw[lh,hf];rfl
theorem l8 {l:List (Key×D)}(h:bx[i]?=ae (.aB l)):p8 bx (.b i)=ae l:=by unfold p8;simp[h]
theorem SY {l:List (Key×D)}(h:bx[i]?=ae (.fD l)):p8 bx (.b i)=ae l:=by unfold p8;simp[h]
theorem DN:rL (bH e L)=(L.map λq=>D.int q.1).map W.d:=by
 unfold rL bH;rw[bj,bj];rfl
end
theorem DO {x y:Bx}(h:bx[j]?=ae x):(bx.set j y).set j x=bx:=by
 rw[abL];apply xi;intro n;by_cases e:j=n
 .subst e;rw[pN (List.getElem?_eq_some_iff.mp h).1,h]
 .rw[tV e]
theorem WX {l:List (Key×D)}(h:bx[j]?=ae (.aB l)):qJ j (bx.set j<|.fD l)=ae bx:=by
 unfold qJ;rw[pN (List.getElem?_eq_some_iff.mp h).1];simp[DO h]
section
variable {K R:List (Int × Int)} {i:Nat} 
abbrev ZO:DE W:=wD af [ag,ae 2,ae 6] 2 (fe 0) (dB<|d2 af aY (cW (dV 1)<|dV 0)<|dV 2)<|dV 0
theorem YJ (J:dn K R n) (hn:n<=100) (hj:bx[j]?=ae (.aB<|a7 R)) {r:Int}(h2:env[2]?=ae (xB j)) (h6:env[6]?=ae (xN r)) :
 ZO env bx=.val (.d<|.lst<|(R.filter λq=>decide (q.2=r)).map λq=>D.int q.1) bx:=by
 have z:sizeLine=16777216:=bf;have lr:=J.lr;unfold ZO wD;erw[h2,hj];have s:eR [ag,ae 2,ae 6] env=[ag,xB j,xN r]:=by simp[h2,h6]
 rw[s,show rL (a7 R)=(R.map λq=>D.int q.1).map W.d from DN,(aeM (tf:=dB _) (te:=dV 0) (r:=[ae _,ae _]) _ _ R ag [] zg λq m=>
  #[f7<|fE (r:=.old _) (mL zc zc (SY<|pN (a:=.fD<|a7 R) (List.getElem?_eq_some_iff.mp hj).1)<|jJ J.nd m) zc<|rfl,λ_=>rfl]),fT]
 change yh j (.val _ _)=_;unfold yh;erw[WX hj];rfl
abbrev aeO:DE W:=dN af dI<|fc (fL af [ag,ae 0,ae 1,ae 7] (bq<|dV 8) (fe 0) fM<|fj aH.ja 3<|fc (dV 1)<|fc (dV 3)<|fc (cW (dV 2)<|dV 0) ff) ff
theorem YK (h:Hs rs ks ps hd) (J:dn K R n) (hn:n<=100) (hi:bx[i]?=ae (.aB<|a7 K)) {r k:Int}(h0:env[0]?=ae (ae<|.d zb)) (h1:env[1]?=ae (xB i)) (h7:env[7]?=ae (xN k))
 (h8:env[8]?=ae (ae<|.d<|.lst<|(R.filter λq=>decide (q.2=r)).map λq=>D.int q.1)):aeO env bx=.val (.d<|.bl<|!k7 ps K R k r) bx:=by
 have z:sizeLine=16777216:=bf;have lr:=J.lr;have fl:=tY (λq:Int×Int=>decide (q.2=r)) R;have it:bq (dV 8) env bx=.val _ bx:=gf (by unfold dV;rw[h8]);have s:eR [ag,ae 0,ae 1,ae 7] env=ag::[ae<|.d zb,xB i,xN k]:=by simp[h0,h1,h7]
 refine(ZN (λq=>!ez ps k (kk K q.1)) it s za λq m=>?_).trans ?_
 .let#[v,hv]:=Option.isSome_iff_exists.mp<|J.sub q (pR.mp m).1;have e:kk K q.1=v:=by unfold kk;rw[hv];rfl
  rw[e];show fG (fg zc<|fg zc<|fg (mL zc zc (l8 hi) hv) zc) zc<|Rw h k v
 .congr 3;unfold k7;rw[kK];erw[cY,pR,rV,Hn,aJ,decide_eq_true_eq,not_and,Bool.not_eq_true];show#[λa q m c=>a q #[m,c],λa q m=>a q m.1 m.2]
def ajb:aA:=(fu (fF ZO<|fe 8)<|fu (aM (dB aeO) (fJ<|dC<|.str "takes") aU)<|fJ<|dC<|.str "apart")
theorem WY (h:Hs rs ks ps hd) (J:dn K R n) (hn:n<=100) (hi:bx[i]?=ae (.aB<|a7 K)) (hj:bx[j]?=ae (.aB<|a7 R)) (x3 x4 x5 x8:Option W) (k r:Int) :
 ajb [ae<|.d zb,xB i,xB j,x3,x4,x5,xN r,xN k,x8] bx=.rt (.d<|.str (if k7 ps K R k r then "apart" else "takes")) bx:=by
 have b:=YK (env:=[ae _,ae _,xB j,x3,x4,x5,xN r,xN k,ae<|.d<|.lst<|(R.filter λq=>decide (q.2=r)).map λq=>D.int q.1]) h J hn hi zc zc zc zc;refine(fv<|gu<|YJ (env:=[ae _,ae _,ae _,x3,x4,x5,ae _,ae _,x8]) J hn hj zc zc).trans ?_;cases c:k7 ps K R k r with
 |true=>
   rw[c]at b;show(fv<|gz<|f7 b)
 |false=>
   rw[c]at b;show gT<|(iV<|f7 b)
theorem Vn (h:Hs rs ks ps hd) (J:dn K R n) (hn:n<=100) (hi:bx[i]?=ae (.aB<|a7 K)) (hj:bx[j]?=ae (.aB<|a7 R)) (g:Pg) :
 iS [.d zb,.b i,.b j,.d<|enc g] bx=.val (.d<|.str<|word ps K R g) bx:=by
 refine fY ?_;change mE _ bx=_;have eM:mE=(fu _ _):=rfl;rw[eM];have p1:dQ 4 5 (fc (d2 af ax (dV 3) zd)<|fc (d2 af ax (dV 3) zA) ff) [ae<|.d zb,xB i,xB j,ae zG,ag,ag,ag,ag,ag] bx=.nx [ae<|.d zb,xB i,xB j,ae zG,ae<|.d<|.str<|cy g,xN<|a8 g,ag,ag,ag] bx:=by
  cases g<;>simp[dQ,enc,dG,b9,kG,ax,bF,cA,cy,a8]
 refine(fv p1).trans ?_;have tE:∀ (w:Str) (x6 x7:Option W),dB (d2 af aY (dV 4)<|dC<|.str w) [ae<|.d zb,xB i,xB j,ae zG,ae<|.d<|.str<|cy g,xN<|a8 g,x6,x7,ag] bx=.val (decide (cy g=w)) bx:=λw x6 x7=>f7<|fE zc zc<|eq_str _ _;have tN:dB (d2 af dF (dV 4) zau) [ae<|.d zb,xB i,xB j,ae zG,ae<|.d<|.str<|cy g,xN<|a8 g,ag,ag,ag] bx=.val (!decide (cy g="in")) bx:=f7<|fE zc zc<|ne_str _ _;have iK:dB (dX af (dV 5)<|dV 1) [ae<|.d zb,xB i,xB j,ae zG,ae<|.d<|.str<|cy g,xN<|a8 g,ag,ag,ag] bx=.val (look K<|a8 g).isSome bx:=f7<|GR af zc zc<|l8 hi;have iR:dB (dX ah (dV 5)<|dV 2) [ae<|.d zb,xB i,xB j,ae zG,ae<|.d<|.str<|cy g,xN<|a8 g,ag,ag,ag] bx=.val (!(look R<|a8 g).isSome) bx:=f7<|GR ah zc zc<|l8 hj;cases g with
 |aO h' l k r p w=>
   change _=OS.rt (W.d<|.str (if (look K l).isSome then "there" else if k7 ps K R k r then "apart" else "takes")) bx;have t1:=oQ (tE "in" ag ag) iK;cases c:(look K l).isSome with
   |true=>
     rw[show (look K<|a8 zZ).isSome=ah from c]at t1;show gT<|(iV t1).trans zc
   |false=>
     rw[show (look K<|a8 zZ).isSome=af from c]at t1;refine(fv<|(gz t1).trans zc).trans ?_;refine(fv<|(gz<|oP tN).trans zc).trans ?_;have t3:=tE "out" ag ag;rw[decide_eq_false (show ¬ cy zZ="out" by change ¬ ("in":Str)="out";rw[Vj];show id)]at t3;refine(fv<|(gz t3).trans zc).trans ?_;refine(fv<|gu<|fG (l:=[.d<|enc zZ]) zc zc<|CD _).trans ?_;have t4:=tE "to" (xN r) ag;rw[decide_eq_false (show ¬ cy zZ="to" by change ¬ ("in":Str)="to";rw[WT];show id)]at t4;refine(fv<|(gz<|oP t4).trans zc).trans ?_;have kv:ph zap (d2 af ax (dV 3) zq) (cW (dV 1)<|dV 5) [ae<|.d zb,xB i,xB j,ae<|.d<|enc zZ,ae<|.d<|.str<|cy zZ,xN<|a8 zZ,xN r,ag,ag] bx=.val (.d<|.int k) bx:=by
      unfold ph;rw[(tE "in" (xN r) ag),fT];rfl
     show(fv<|gu kv).trans (WY h J hn hi hj _ _ _ _ k r)
 |to h' l r=>
   have t1:=tE "in" ag ag;rw[decide_eq_false (show ¬ cy (.to h' l r)="in" by change ¬ ("to":Str)="in";rw[FK];show id)]at t1 tN;refine(fv<|(gz<|oP t1).trans zc).trans ?_;have t2:=oQ tN iR;change _=OS.rt (W.d<|.str (match look R l with|none=>"none"|some r0=>if r0=r then "same" else if k7 ps K R (kk K l) r then "apart" else "takes")) bx;cases c:look R l with
   |none=>
     rw[show look R (a8<|.to h' l r)=ag from c]at t2;show gT<|(iV t2).trans zc
   |some r0=>
     rw[show look R (a8<|.to h' l r)=ae r0 from c]at t2;refine(fv<|(gz t2).trans zc).trans ?_;have t3:=tE "out" ag ag;rw[decide_eq_false (show ¬ cy (.to h' l r)="out" by change ¬ ("to":Str)="out";rw[Rr];show id)]at t3;refine(fv<|(gz t3).trans zc).trans ?_;refine(fv<|gu<|fG (l:=[.d<|enc<|.to h' l r]) zc zc<|CD _).trans ?_;have t4:nJ (dB<|d2 af aY (dV 4)<|dC<|.str "to") (dB<|d2 af aY (cW (dV 2)<|dV 5)<|dV 6) [ae<|.d zb,xB i,xB j,ae<|.d<|enc<|.to h' l r,ae<|.d<|.str<|cy<|.to h' l r,xN<|a8<|.to h' l r,xN r,ag,ag] bx=.val (decide (r0=r)) bx:=
      oQ (tE "to" (xN r) ag) (f7<|fE (r:=.old<|.bl<|decide (r0=r)) (x:=.int r0) (y:=.int r) (mL (e:=D.int) (L:=R) zc zc (l8 hj) c) zc<|rfl)
     by_cases d:r0=r
     .rw[decide_eq_true d]at t4;change _=OS.rt (W.d<|.str (if r0=r then "same" else if k7 ps K R (kk K l) r then "apart" else "takes")) bx;rw[if_pos d];show gT<|(iV t4).trans zc
     .rw[decide_eq_false d]at t4;change _=OS.rt (W.d<|.str (if r0=r then "same" else if k7 ps K R (kk K l) r then "apart" else "takes")) bx;rw[if_neg d];refine(fv<|(gz t4).trans zc).trans ?_;obtain⟨q,mq,eq⟩:∃ q∈R,q.1=l:=by
       unfold look at c;cases f:R.find? λq=>decide (q.1=l) with
       |none=>rw[f]at c;cases c
       |some q=>show#[q,Hw f,by have:=Xi f;simpa using this]
      let#[v,hv]:=Option.isSome_iff_exists.mp<|J.sub q mq;rw[eq]at hv;have ev:kk K l=v:=by unfold kk;rw[hv];rfl
      have t5:=tE "in" (xN r) ag;rw[decide_eq_false (show ¬ cy (.to h' l r)="in" by change ¬ ("to":Str)="in";rw[FK];show id)]at t5;have kv:ph zap (d2 af ax (dV 3) zq) (cW (dV 1)<|dV 5) [ae<|.d zb,xB i,xB j,ae<|.d<|enc<|.to h' l r,ae<|.d<|.str<|cy<|.to h' l r,xN<|a8<|.to h' l r,xN r,ag,ag] bx=.val (.d<|.int<|kk K l) bx:=by
       unfold ph;rw[t5,fT,ev];show mL (e:=D.int) (L:=K) zc zc (l8 hi) hv
      show(fv<|gu kv).trans (WY h J hn hi hj _ _ _ _ (kk K l) r)
 |out h' l=>
   have t1:=tE "in" ag ag;rw[decide_eq_false (show ¬ cy (.out h' l)="in" by change ¬ ("out":Str)="in";rw[J7];show id)]at t1 tN;refine(fv<|(gz<|oP t1).trans zc).trans ?_;have t2:=oQ tN iR;change _=OS.rt (W.d<|.str (match look R l with|none=>"none"|some _=>"takes")) bx;cases c:look R l with
   |none=>
     rw[show look R (a8<|.out h' l)=ag from c]at t2;show gT<|(iV t2).trans zc
   |some r0=>
     rw[show look R (a8<|.out h' l)=ae r0 from c]at t2;show(fv<|(gz t2).trans zc).trans (gT<|(iV<|tE "out" ag ag).trans zc)
end
open bG
theorem om {L:List (Int×α)}{x:Int}{v:α}{q:Int×α}(m:q∈put L x v):(q.1=x /\ q.2=v) \/ q∈L:=by
 unfold put at m;split at m
 .let#[p,mp,rfl]:=bp.mp m;by_cases h:p.1=x
  .rw[if_pos h];show .inl #[h,rfl]
  .rw[if_neg h];show .inr mp
 .rcases List.mem_append.mp m with m|m
  .show .inr m
  .cases kN.mp m;show .inl #[rfl,rfl]
theorem Nb {L:List (Int×α)}{x:Int}{v:α}(nd:(L.map (·.1)).Nodup):((put L x v).map (·.1)).Nodup:=by
 unfold put;split
 .rw[bj];have:((λq:Int×α=>q.1)∘λq=>if q.1=x then (q.1,v) else q)=λq=>q.1:=by
   funext q;by_cases h:q.1=x<;>simp[h]
  rw[this];show nd
 .ext h;rw[rZ,uR];refine#[nd,by simp,λa ma b mb=>?_];cases (kN.mp mb);let#[q,mq,rfl]:=bp.mp ma;show λz=>h<|kC.mpr #[q,mq,decide_eq_true z]
theorem Vo {L:List (Int×α)}{x:Int}(nd:(L.map (·.1)).Nodup):((hG L x).map (·.1)).Nodup:=nd.sublist<|(List.filter_sublist).map _
theorem jK {L:Al}{x v:Int}(h:look L x=ae v):∃ q∈L,q.1=x:=by
 unfold look at h;cases f:L.find? λq=>decide (q.1=x) with
 |none=>rw[f]at h;cases h
 |some q=>show#[q,Hw f,by have:=Xi f;simpa using this]
theorem lY {L:Al}{x:Int}:(look L x).isSome=ah ↔ ∃ q∈L,q.1=x:=by
 constructor
 .intro h;let#[v,h]:=Option.isSome_iff_exists.mp h;show jK h
 .rintro⟨q,m,rfl⟩;unfold look;rw[pS,Xj];show#[q,m,by simp]
theorem Nc {L:Al}{x v y:Int}(h:y=x \/ (look L y).isSome=ah):(look (put L x v) y).isSome=ah:=by
 rw[lY];have key:∀ z,(∃ q∈L,q.1=z)->∃ q∈put L x v,q.1=z:=λz ⟨q,m,e⟩=>by
  unfold put;split
  .refine#[if q.1=x then (q.1,v) else q,qT m,?_];split<;>show e
  .show#[q,qP _ m,e]
 rcases h with rfl|h
 .by_cases c:(look L y).isSome=ah
  .show key y<|lY.mp c
  .unfold put;rw[if_neg]
   .show#[(y,v),by simp,rfl]
   .intro z;let#[q,m,e]:=kC.mp z;show c<|lY.mpr #[q,m,of_decide_eq_true e]
 .show key y<|lY.mp h
theorem dn.step {ps K R:Al}(J:dn K R n) {g:Pg}(h:word ps K R g="takes"):dn (stK K g) (nR R g) (n+1):=by
 have lk:=J.lk;have lr:=J.lr;cases g with
 |aO h' l k r p w=>
   have a:=oj K l k;have b:=oj R l r;refine#[Nb J.nd,λq m=>?_,by change (put K l k).length<=_;lia,by change (put R l r).length<=_;lia];rcases om m with m|m
   .show Nc<|.inl m.1
   .show Nc<|.inr<|J.sub q m
 |to h' l r=>
   have b:=oj R l r;refine#[Nb J.nd,λq m=>?_,by change K.length<=_;lia,by change (put R l r).length<=_;lia];rcases om m with m|m
   .rw[m.1];cases c:look R l with
    |none=>
      simp[word,c]at h;show absurd h ze
    |some v=>
      let#[q0,m0,e0]:=jK c;rw[<-e0];show J.sub q0 m0
   .show J.sub q m
 |out h' l=>
   refine#[Vo J.nd,λq m=>J.sub q (pR.mp m).1,by change K.length<=_;lia,?_];have:=tY (λq:Int×Int=>decide (q.1≠l)) R;change (hG R l).length<=_;unfold hG;lia
def tq (x:Pg×Str×D×D):D:=.tup [enc x.1,.str x.2.1,x.2.2.1,x.2.2.2]
section
def Bk (bx:List Bx) (T:List<|Pg×Str×D×D) (K R:Al):List Bx:=bx++[.lst<|T.map tq,.aB<|a7 K,.aB<|a7 R]
variable {T T':List (Pg × Str × D × D)} {K R K' R':Al}
theorem ER:(Bk bx T K R)[bx.length]?=ae (.lst<|T.map tq):=by simp[Bk]
theorem aeP:(Bk bx T K R)[bx.length+1]?=ae (.aB<|a7 K):=by simp[Bk]
theorem ES:(Bk bx T K R)[bx.length+2]?=ae (.aB<|a7 R):=by simp[Bk]
theorem aeQ:(Bk bx T K R).set bx.length (.lst<|T'.map tq)=Bk bx T' K R:=by simp[Bk]
theorem ajc:(Bk bx T K R).set (bx.length+1) (.aB<|a7 K')=Bk bx T K' R:=by simp[Bk]
theorem ZP:(Bk bx T K R).set (bx.length+2) (.aB<|a7 R')=Bk bx T K R':=by simp[Bk]
abbrev rB:aA:=(fu (fF (d2 af ax (dV 5) zA)<|fe 6)<|fu (fF (fj aH.iS 4<|fc (dV 0)<|fc (dV 3)<|fc (dV 4)<|fc (dV 5) ff)<|fe 7) zC)
theorem Vp {env1 bL:aQ}{bx2:List Bx}{w:W}{l:List W}{g:DG}{body:aA}(h1:g w env bx=ae (env1,bx1)) (h2:body env1 bx1=.ct bL bx2):bX g body (w::l) env bx=bX g body l bL bx2:=by
 rw[bX,h1];simp[h2]
noncomputable abbrev rE (H P:D) (t:Nat) (x5 x6 x7:Option W):aQ:=[ae<|.d H,ae<|.d P,ae<|.b t,ae<|.b<|t+1,ae<|.b<|t+2,x5,x6,x7]
variable {P:D}
theorem Nd (g:Pg) (h:env[5]?=ae (ae zG)):d2 af ax (dV 5) zA env B=.val (.d<|.int<|a8 g) B:=by
 cases g<;>simp[h,enc,dG,b9,kG,ax,bF,cA,a8]
theorem SZ (g:Pg) (w:Str) (h:env[5]?=ae (ae zG)):dB (d2 af aY (d2 af ax (dV 5) zd)<|dC<|.str w) env B=.val (decide (cy g=w)) B:=by
 refine f7<|fE ?_ zc<|eq_str _ _;cases g<;>simp[h,enc,dG,b9,kG,ax,bF,cA,cy]
theorem Nf (h:Hs rs ks ps hd) (J:dn K R n) (hn:n<=100) (g:Pg) (x6 x7:Option W) {k:aA} :
 fu (fF (d2 af ax (dV 5) zA)<|fe 6) (fu (fF (fj aH.iS 4<|fc (dV 0)<|fc (dV 3)<|fc (dV 4)<|fc (dV 5) ff)<|fe 7) k) (rE zb P bx.length (ae zG) x6 x7) (Bk bx T K R) =
  k (rE zb P bx.length (ae zG) (xN<|a8 g)<|ae<|.d<|.str<|word ps K R g) (Bk bx T K R):=
 (fv<|gu<|Nd g zc).trans (fv<|gu<|fG zc zc<|Vn h J hn aeP ES g)
theorem S0 (w:Str) (h:env[7]?=ae (ae<|.d<|.str w)):dB (d2 af dF (dV 7)<|dC<|.str "takes") env B=.val (!decide (w="takes")) B:=
 f7 (fE (by unfold dV;rw[h]) zc<|ne_str _ _)
theorem WZ (h:Hs rs ks ps hd) (J:dn K R n) (hn:n<=100) (hT:T.length<=100) (g:Pg) (x6 x7:Option W) (c:¬ word ps K R g="takes") :
 rB (rE zb P bx.length (ae zG) x6 x7) (Bk bx T K R)=.ct (rE zb P bx.length (ae zG) (xN<|a8 g)<|ae<|.d<|.str<|word ps K R g) (Bk bx (T++[(g,word ps K R g,.non,.non)]) K R):=by
 have z:=bf;refine(Nf h J hn g x6 x7).trans ?_;have t:=S0 _ (env:=rE zb P bx.length (ae zG) (xN<|a8 g)<|ae<|.d<|.str<|word ps K R g) (B:=Bk bx T K R) zc;rw[decide_eq_false c]at t;have a:=BZ (m:=dV 2) (k:=fO<|fc (dV 5)<|fc (dV 7)<|fc (dC .non)<|fc (dC .non) ff) (env:=rE zb P bx.length (ae zG) (xN<|a8 g)<|ae<|.d<|.str<|word ps K R g) (bx:=Bk bx T K R) (d:=tq (g,word ps K R g,.non,.non)) zc ER (gm [enc g,.str<|word ps K R g,.non,.non] zc zg) ER zg;rw[show T.map tq++[tq (g,word ps K R g,D.non,D.non)]=(T++[(g,word ps K R g,D.non,D.non)]).map tq by simp,aeQ]at a;rw[lM,iV t,fv<|ir a];rfl
noncomputable def eU:Pg->D
 |.aO _ _ _ r _ _=>.int r
 |.to _ _ r=>.int r
 |.out ..=>.non
theorem DP {L:Al}{k v:DE W}{i:Nat}{l x:Int}(hv:v env B=.val (.d<|.int x) B) (hm:m env B=.val (.b i) B) (hk:k env B=.val (.d<|.int l) B) (hb:B[i]?=ae (.aB<|a7 L)) (hl:L.length<=1000):k6 m k v env B=.nx env (B.set i<|.aB<|a7<|put L l x):=by
 have z:=bf;unfold k6;rw[hv,iT,hm,iT,hk,iT];simp[hb,pI];rw[if_pos (by unfold a7 bH;simp;lia),GQ]
theorem S3 {L:Al}{k:DE W}{i:Nat}{l:Int}(hm:m env B=.val (.b i) B) (hk:k env B=.val (.d<|.int l) B) (hb:B[i]?=ae (.aB<|a7 L)) (hs:(look L l).isSome=ah):uH m k env B=.nx env (B.set i<|.aB<|a7<|hG L l):=by
 unfold uH;rw[hm,iT,hk,iT];simp[hb,pI];rw[if_pos (by rw[lh,pS];show hs),DJ]
theorem Vq {L:Al}{k:DE W}{i:Nat}{l:Int}(hm:m env B=.val (.b i) B) (hk:k env B=.val (.d<|.int l) B) (hb:B[i]?=ae (.aB<|a7 L)):vf m k env B=.val (.d<|((look L l).map D.int).getD .non) B:=by
 unfold vf;rw[hm,fT];simp[hb,hk,fT,pI];rw[lh];rfl
theorem DQ {h' l:Int}(c:word ps K R (.out h' l)="takes"):(look R l).isSome=ah:=by
 simp[word]at c;cases e:look R l with
 |none=>rw[e]at c;show absurd c ze
 |some v=>rfl
theorem Vr (h:Hs rs ks ps hd) (J:dn K R n) (hn:n<=100) (hT:T.length<=100) (g:Pg) (x6 x7:Option W) (c:word ps K R g="takes") :
 rB (rE zb P bx.length (ae zG) x6 x7) (Bk bx T K R)=.nx (rE zb P bx.length (ae zG) (xN<|a8 g)<|ae<|.d<|.str<|word ps K R g) (Bk bx (T++[zak]) (stK K g)<|nR R g):=by
 have z:sizeLine=16777216:=bf;have lk:=J.lk;have lr:=J.lr;refine(Nf h J hn g x6 x7).trans ?_;generalize hE:rE _ P bx.length _ _ _=E;have e2:∀ B,dV 2 E B=.val _ B:=λB=>by subst hE;rfl
 have e3:∀ B,dV 3 E B=.val _ B:=λB=>by subst hE;rfl
 have e4:∀ B,dV 4 E B=.val _ B:=λB=>by subst hE;rfl
 have e5:E[5]?=ae (ae zG):=by subst hE;rfl
 have v5:∀ B,dV 5 E B=.val _ B:=λB=>by subst hE;rfl
 have e6:∀ B,dV 6 E B=.val _ B:=λB=>by subst hE;rfl
 have e7:∀ B,dV 7 E B=.val _ B:=λB=>by subst hE;rfl
 have t:=S0 _ (env:=E) (B:=Bk bx T K R) (by subst hE;rfl);rw[decide_eq_true c]at t;refine(fv<|(gz t).trans zc).trans ?_;have en:∀ B,fj aH.fN 1 (fc _ ff) E B=.val (.d<|eU g) B:=λB=>(fG (fg (v5 B) zc) zc<|CD g).trans (by cases g<;>rfl);have a:=BZ (k:=fO<|fc (dV 5)<|fc (dV 7)<|fc (vf (dV 4)<|dV 6)<|fc (fj aH.fN 1<|fc (dV 5) ff) ff) (bx:=Bk bx T K R) (d:=tq zak) (e2 _) ER
  (gm [enc g,.str<|word ps K R g,((look R<|a8 g).map D.int).getD .non,eU g] (fg (v5 _)<|fg (e7 _)<|fg (Vq (e4 _) (e6 _) ES)<|fg (en _) zc) zg) ER zg
 rw[show T.map tq++[tq zak]=(T++[zak]).map tq by simp,aeQ]at a;refine(fv<|ir a).trans ?_;generalize T++[zak]=T2;have ti:=SZ g "in" (B:=Bk bx T2 K R) e5;have to:=λK2=>SZ g "out" (B:=Bk bx T2 K2 R) e5;cases g with
 |aO h' l k r p w=>
   have p1:=DP (v:=d2 af ax (dV 5) zq) (B:=Bk bx T2 K R) (env:=E) (by rw[MP,v5];rfl) (e3 _) (e6 _) aeP za;rw[ajc]at p1;refine(fv<|(iV ti).trans p1).trans ?_;have to:=to<|put K l k;rw[decide_eq_false (show ¬ cy zZ="out" by change ¬ ("in":Str)="out";rw[Vj];show id)]at to;have p2:=DP (v:=fj aH.fN 1<|fc (dV 5) ff) (x:=r) (B:=Bk bx T2 (put K l k) R) (env:=E) (en _) (e4 _) (e6 _) ES za;rw[ZP]at p2;show(gz to).trans p2
 |to h' l r=>
   rw[decide_eq_false (show ¬ cy (.to h' l r)="in" by change ¬ ("to":Str)="in";rw[FK];show id)]at ti;refine(fv<|(gz ti).trans zc).trans ?_;have to:=to K;rw[decide_eq_false (show ¬ cy (.to h' l r)="out" by change ¬ ("to":Str)="out";rw[Rr];show id)]at to;have p2:=DP (v:=fj aH.fN 1<|fc (dV 5) ff) (x:=r) (B:=Bk bx T2 K R) (env:=E) (en _) (e4 _) (e6 _) ES za;rw[ZP]at p2;show(gz to).trans p2
 |out h' l=>
   rw[decide_eq_false (show ¬ cy (.out h' l)="in" by change ¬ ("out":Str)="in";rw[J7];show id)]at ti;refine(fv<|(gz ti).trans zc).trans ?_;have p2:=S3 (B:=Bk bx T2 K R) (env:=E) (e4 _) (e6 _) ES<|DQ c;rw[show a8 (.out h' l)=l from rfl,ZP]at p2;show(iV<|to K).trans p2
def ET (ps:Al) (qs:List Pg):List D:=(qs.zip<|wordsOf ps [] [] qs).map λp=>.tup [enc p.1,.str p.2]
theorem Ks:dn [] [] 0:=#[by simp,(λq m=>nomatch m),aE _,aE _]
abbrev g4:DG:=fR 4<|fq (fe 0)<|fq (fe 1)<|fq (fe 2)<|fq (fe 3) fS
end
noncomputable abbrev At:=List<|Int×(Int×Int)
def br (K R:Al):At:=R.map λq=>(q.1,(kk K q.1,q.2))
theorem Ng {L:List (Int×α)}(nd:(L.map (·.1)).Nodup) {q:Int×α}(m:q∈L):(L.find? λp=>decide (p.1=q.1)).map (·.2)=ae q.2:=by
 induction L with
 |nil=>cases m
 |cons a L ih=>
   rw[aL,se]at nd;rw[qQ];rcases bw.mp m with rfl|m
   .simp
   .have:¬ a.1=q.1:=λz=>nd.1 (by rw[z];show qT m);rw[decide_eq_false this];show ih nd.2 m
theorem DR {K R:Al}:(br K R).map (·.1)=R.map (·.1):=by unfold br;rw[bj];rfl
theorem Bf {K R:Al}{l:Int}:((br K R).find? λp=>decide (p.1=l)).map (·.2)=(look R l).map λr=>(kk K l,r):=by
 unfold br look;induction R with
 |nil=>rfl
 |cons a R ih=>
   rw[aL,qQ,qQ];by_cases h:a.1=l
   .simp[h]
   .rw[decide_eq_false h];show ih
theorem lQ {β:Type}{L:List (Int×α)}{M:List (Int×β)}(h:L.map (·.1)=M.map (·.1)) (x:Int):(L.any λq=>decide (q.1=x))=M.any λq=>decide (q.1=x):=by
 have:∀ {γ}(N:List<|Int×γ),(N.any λq=>decide _)=(N.map (·.1)).any λy=>decide (y=x):=λN=>by rw[Hu];rfl
 rw[this,this,h]
theorem Nh {β:Type}{L:List (Int×α)}{M:List (Int×β)}(h:L.map (·.1)=M.map (·.1)) (x:Int) (v:α) (w:β):(put L x v).map (·.1)=(put M x w).map (·.1):=by
 unfold put;rw[lQ h];split
 .have:∀ {γ}(N:List<|Int×γ) (u),(N.map λq=>if q.1=x then (q.1,u) else q).map (·.1)=N.map (·.1):=λN u=>by
   rw[bj];refine rY λq _=>?_;by_cases c:q.1=x<;>simp[c]
  rw[this,this,h]
 .rw[rZ,rZ,h];rfl
theorem J8 {β:Type}{L:List (Int×α)}{M:List (Int×β)}(h:L.map (·.1)=M.map (·.1)) (x:Int):((L.find? λq=>decide (q.1=x)).map (·.2)).isSome=((M.find? λq=>decide (q.1=x)).map (·.2)).isSome:=by
 rw[pS,pS,kK,Xj,Xj];have:=lQ h x;rw[kK,kC,kC]at this;show this
theorem GS {K R:Al}{l r:Int}:put (br K R) l (kk K l,r)=br K (put R l r):=by
 unfold put;rw[lQ DR];split
 .unfold br;rw[bj,bj];refine rY λq _=>?_;by_cases c:q.1=l<;>simp[c]
 .unfold br;simp
theorem Rx {K R:Al}{l:Int}:hG (br K R) l=br K (hG R l):=by
 unfold hG br;rw[abO];rfl
theorem Ni {K:Al}{l k x:Int}(h:look K l=ag):kk (put K l k) x=if x=l then k else kk K x:=by
 unfold kk put;rw[if_neg (λz=>by
  let#[q,m,e]:=kC.mp z;have:=lY.mpr #[q,m,of_decide_eq_true e];rw[h]at this;cases this)]
 unfold look at h ⊢;rw[Xk];by_cases c:x=l
 .subst c;rw[Option.map_eq_none_iff]at h;simp[h]
 .rw[if_neg c];have c':¬ l=x:=λz=>c z.symm;cases K.find? λq=>decide (q.1=x)<;>simp[c']
theorem Ry {K R:Al}{l k r:Int}(J:dn K R n) (h:look K l=ag):put (br K R) l (k,r)=br (put K l k) (put R l r):=by
 have e:br (put K l k) R=br K R:=by
  refine rY λq m=>?_;have:q.1≠l:=λz=>by
   have:=J.sub q m;rw[z,h]at this;cases this
  rw[Ni h,if_neg this]
 have:kk (put K l k) l=k:=by rw[Ni h,if_pos rfl]
 rw[<-GS,e,this]
section
variable {K R:List (Int × Int)} {b:Nat} {k:Int}
theorem S5 {C:List Bx}{x y:DE W}{k v:Int}(h0:env[0]?=ae (ae<|.d zb)) (hx:x env C=.val (.d<|.int k) C) (hy:y env C=.val (.d<|.int v) C) :
 dB (d2 af (inD af) (fO<|fc x<|fc y ff)<|d2 af ax (dV 0) zA) env C=.val (decide ((k,v)∈ps)) C:=by
 have z:(2)<=sizeLine:=by decide
 refine f7<|fE (gm [.int k,.int v] (fg hx<|fg hy zc) z) ?_<|DM af (k,v) ps;simp[h0,ax,bF,cA]
abbrev ZQ:aA:=z8
theorem Rz (hb:B[b]?=ae (.fD<|bH dP<|br K R)) (nd:(R.map (·.1)).Nodup):∀ (L:Al) (acc:List D) (x4 x5:Option W),(∀ q∈L,q∈R)->acc.length+L.length<=1000 ->
 ∃ y4 y5,bX (fe 4) ZQ ((L.map λq=>D.int q.1).map W.d) [ae<|.d zb,xB b,xN k,xB B.length,x4,x5] (B++[.lst acc])=.nx [ae<|.d zb,xB b,xN k,xB B.length,y4,y5] (B++[.lst<|acc++(L.filter λq=>ez ps k<|kk K q.1).map dP]):=by
 intro l_;induction l_ with
 |nil=>show λacc x4 x5 _ _=>#[x4,x5,by simp[bX]]
 |cons q L ay=>
   intro acc x4 x5 hm hl;have z:sizeLine=16777216:=bf;rw[bz]at hl;have mt:(q.1,(kk K q.1,q.2))∈br K R:=bp.mpr #[q,(hm q<|bD ..),rfl];have g1:∀ (x5:Option W) (a:List D),cW (dV 1) (dV 4) [ae<|.d zb,xB b,xN k,xB B.length,xN q.1,x5] (B++[.lst a])=.val (.d<|dP (kk K q.1,q.2)) (B++[.lst a]):=λx5 a=>mL zc zc (SY<|(λa=>by rw[eK (List.getElem?_eq_some_iff.mp hb).1];show hb) a)<|Ng (by rw[DR];show nd) mt;have s1:fF (d2 af ax (cW (dV 1)<|dV 4) zi) (fe 5) [ae<|.d zb,xB b,xN k,xB B.length,xN q.1,x5] (B++[.lst acc])=.nx [ae<|.d zb,xB b,xN k,xB B.length,xN q.1,xN<|kk K q.1] (B++[.lst acc]):=
    gu (fE (r:=.old<|.int<|kk K q.1) (g1 _ _) zc zc)
   have t1:=S5 (env:=[ae<|.d zb,xB b,xN k,xB B.length,xN q.1,xN<|kk K q.1]) (C:=B++[.lst acc]) (x:=dV 2) (y:=dV 5) (k:=k) (v:=kk K q.1) zc zc zc;have t2:=S5 (env:=[ae<|.d zb,xB b,xN k,xB B.length,xN q.1,xN<|kk K q.1]) (C:=B++[.lst acc]) (x:=dV 5) (y:=dV 2) (k:=kk K q.1) (v:=k) zc zc zc;have t:pd (dB<|d2 af (inD af) (fO<|fc (dV 2)<|fc (dV 5) ff)<|d2 af ax (dV 0) zA) (dB<|d2 af (inD af) (fO<|fc (dV 5) zP)<|d2 af ax (dV 0) zA) [ae<|.d zb,xB b,xN k,xB B.length,xN q.1,xN<|kk K q.1] (B++[.lst acc])=.val (ez ps k<|kk K q.1) (B++[.lst acc]):=by
    unfold ez;by_cases c:(k,kk K q.1)∈ps
    .rw[decide_eq_true c]at t1 ⊢;show SU t1
    .rw[decide_eq_false c]at t1 ⊢;rw[Q8];show l7 t1 t2
   have f1:fe 4 (W.d<|.int q.1) [ae<|.d zb,xB b,xN k,xB B.length,x4,x5] (B++[.lst acc])=ae ([ae<|.d zb,xB b,xN k,xB B.length,xN q.1,x5],B++[.lst acc]):=rfl;cases c:ez ps k (kk K q.1) with
   |false=>
     rw[c]at t;let#[y4,y5,e]:=ay acc (xN q.1) (xN<|kk K q.1) (λq m=>hm q<|bE _ m) za;refine#[y4,y5,?_];have bd:ZQ [ae<|.d zb,xB b,xN k,xB B.length,xN q.1,x5] (B++[.lst acc])=.nx [ae<|.d zb,xB b,xN k,xB B.length,xN q.1,xN<|kk K q.1] (B++[.lst acc]):=(fv s1).trans<|(gz t).trans zc;rw[aL,aL,iG f1 bd,e,tZ (by simp[c])]
   |true=>
     rw[c]at t;let#[y4,y5,e]:=ay (acc++[dP q]) (xN q.1) (xN<|kk K q.1) (λq m=>hm q<|bE _ m) zg;have b0:(B++[Bx.lst acc])[B.length]?=ae (.lst acc):=by simp
     have a:=BZ (m:=dV 3) (k:=fO<|fc (dV 4)<|fc (d2 af ax (cW (dV 1)<|dV 4) zd) ff) (env:=[ae<|.d zb,xB b,xN k,xB B.length,xN q.1,xN<|kk K q.1]) (bx:=B++[.lst acc]) (i:=B.length) (d:=dP q) zc b0 (gm [.int q.1,.int q.2] (fg zc<|fg (fE (r:=.old<|.int q.2) (g1 _ _) zc zc) zc) zg) b0 za;rw[show (B++[Bx.lst acc]).set B.length (.lst<|acc++[dP q])=B++[.lst<|acc++[dP q]] by simp]at a;refine#[y4,y5,?_];rw[aL,aL,iG f1<|(fv s1).trans<|(iV t).trans<|ir a,e,ua (by simp[c])];simp
theorem GT (J:dn K R n) (hn:n<=100) (hb:B[b]?=ae (.aB<|bH dP<|br K R)):gK [.d zb,.b b,.d<|.int k] B=.val (.d<|.lst<|(R.filter λq=>ez ps k<|kk K q.1).map dP) B:=by
 have lr:=J.lr;have bl:=(List.getElem?_eq_some_iff.mp hb).1;have hf:(B.set b _)[b]?=ae (.fD<|bH dP<|br K R):=pN bl;let#[y4,y5,e]:=Rz hf J.nd R [] ag ag (λq m=>m) zg;rw[qo,nW]at e;have kw:rL (bH dP<|br K R)=(R.map λq=>D.int q.1).map W.d:=by
  rw[DN];simp[br]
 have b1:(B++[Bx.lst []])[b]?=ae (.aB<|bH dP<|br K R):=by rw[eK bl];show hb
 have fk:wC 1 (fe 4) ZQ [ae<|.d zb,xB b,xN k,xB B.length,ag,ag] (B++[.lst []])=.nx [ae<|.d zb,xB b,xN k,xB B.length,y4,y5] (B++[.lst<|(R.filter λq=>ez ps k<|kk K q.1).map dP]):=by
  unfold wC;simp[show ([ae<|.d<|hs rs ks ps hd,xB b,xN k,xB B.length,ag,ag])[1]?=ae (ae<|W.b b) from rfl,b1];rw[kw,Hv _ _ bl,e];change vi b (.nx _ _)=_;unfold vi;have th:qJ b (B.set b (.fD<|bH dP<|br K R)++[.lst<|(R.filter λq=>ez ps k<|kk K q.1).map dP])=ae (B++[.lst<|(R.filter λq=>ez ps k<|kk K q.1).map dP]):=by
   unfold qJ;rw[eK (by rw[qo];show bl),hf];simp;rw[Hv _ _ (by rw[qo];show bl),DO hb]
  simp[th]
 have m:o8 [ae<|.d zb,xB b,xN k,ag,ag,ag] B=.rt (.d<|.lst<|(R.filter λq=>ez ps k<|kk K q.1).map dP) ((B++[Bx.lst<|(R.filter λq=>ez ps k<|kk K q.1).map dP]).set B.length .dead):=by
  show(fv<|gu<|oO [] zc<|eC _).trans ((fv fk).trans<|fZ<|SV zc zj)
 refine(lP m).trans ?_;simp
end
def Bl (bx:List Bx) (th:At) (ca:List<|Int×Pg) (go:Al) (dr:List<|List Key×D) (av wd:List D):List Bx:=bx++[.aB<|bH dP th,.aB<|bH enc ca,.aB<|a7 go,.dT dr,.lst av,.lst wd]
noncomputable abbrev ml (n:Nat):List (Str×Nat):=[("there",n),("came",n+1),("gone",n+2),("doors",n+3),("at",n+4),("words",n+5)]
section
variable {th aeR:At} {aeS:List (Int × Pg)} {go go':Al} {cq:List (List Key × D)} {av aeT wd aeU:List D}
theorem vn:(Bl bx th ca go dr av wd)[bx.length]?=ae (.aB<|bH dP th):=by simp[Bl]
theorem ZR:(Bl bx th ca go dr av wd)[bx.length+1]?=ae (.aB<|bH enc ca):=by simp[Bl]
theorem ajd:(Bl bx th ca go dr av wd)[bx.length+2]?=ae (.aB<|a7 go):=by simp[Bl]
theorem aeV:(Bl bx th ca go dr av wd)[bx.length+3]?=ae (.dT dr):=by simp[Bl]
theorem ZS:(Bl bx th ca go dr av wd)[bx.length+4]?=ae (.lst av):=by simp[Bl]
theorem aeW:(Bl bx th ca go dr av wd)[bx.length+5]?=ae (.lst wd):=by simp[Bl]
theorem ZT:(Bl bx th ca go dr av wd).set bx.length (.aB<|bH dP aeR)=Bl bx aeR ca go dr av wd:=by simp[Bl]
theorem ZU:(Bl bx th ca go dr av wd).set (bx.length+1) (.aB<|bH enc aeS)=Bl bx th aeS go dr av wd:=by simp[Bl]
theorem sx:(Bl bx th ca go dr av wd).set (bx.length+2) (.aB<|a7 go')=Bl bx th ca go' dr av wd:=by simp[Bl]
theorem ZV:(Bl bx th ca go dr av wd).set (bx.length+3) (.dT cq)=Bl bx th ca go cq av wd:=by simp[Bl]
theorem aje:(Bl bx th ca go dr av wd).set (bx.length+4) (.lst aeT)=Bl bx th ca go dr aeT wd:=by simp[Bl]
theorem aeE:(Bl bx th ca go dr av wd).set (bx.length+5) (.lst aeU)=Bl bx th ca go dr av aeU:=by simp[Bl]
theorem Nj:(Bl bx th ca go dr av wd).length=bx.length+6:=by simp[Bl]
end
theorem Ae {k:Str}(h:m env B=.val (.m<|ml n) B) (hk:(ml n).lookup k=ae j):cS m k env B=.val (.b j) B:=by
 unfold cS;rw[h,fT];simp[hk]
theorem aeX:(ml n).lookup ("there":Str)=ae n:=rfl
theorem ZW:(ml n).lookup ("came":Str)=ae (n+1):=by rfl
theorem ajf:(ml n).lookup ("gone":Str)=ae (n+2):=by rfl
theorem ajg:(ml n).lookup ("doors":Str)=ae (n+3):=by rfl
theorem ajh:(ml n).lookup ("at":Str)=ae (n+4):=by rfl
theorem aji:(ml n).lookup ("words":Str)=ae (n+5):=by rfl
noncomputable def aV:Pg->Int
 |.aO h ..=>h
 |.to h ..=>h
 |.out h _=>h
section
variable {e:α -> D} {L:List (Int × α)} {k v:DE W} {i:Nat} {l:Int}
theorem CF {x:α}(hv:v env B=.val (.d<|e x) B) (hm:m env B=.val (.b i) B) (hk:k env B=.val (.d<|.int l) B) (hb:B[i]?=ae (.aB<|bH e L)) (hl:L.length<=1000):k6 m k v env B=.nx env (B.set i<|.aB<|bH e<|put L l x):=by
 have z:=bf;unfold k6;rw[hv,iT,hm,iT,hk,iT];simp[hb,pI];rw[if_pos (by unfold bH;simp;lia),GQ]
theorem Vs {x:α}(hm:m env B=.val (.b i) B) (hk:k env B=.val (.d<|.int l) B) (hb:B[i]?=ae (.aB<|bH e L)) (hs:(L.find? λq=>decide (q.1=l)).map (·.2)=ae x):yf m k env B=.val (.d<|e x) (B.set i<|.aB<|bH e<|hG L l):=by
 unfold yf;rw[hm,fT];simp[hb,hk,fT,pI];rw[lh,hs,DJ];rfl
end
end aH
namespace bG
open L2 L2.DL K1 K2
section
variable {bx2 bQ:List Bx}
end
end bG
namespace K2
open L2 L2.DL K1
section
variable {h:D} {rs:List Int} {x0 x1 x2 x4 x5 x6 x7 x8 x9 ajj ajk aeY aeZ EU:Option W}
end
section
variable {h:D} {rs:List Int} {x0 x1 x4 x5 x6 x7 x8 aeY aeZ EU:Option W}
end
end K2
namespace K1
open L2 L2.DL
end K1
namespace K2
open L2 L2.DL K1
end K2
namespace bG
open L2 L2.DL K1 K2
section
variable {x0 x1 x2 x5 x7 x8 x9 ajj:Option W}
end
section
variable {bx2:List Bx}
end
section
variable {x0 x1 x3 x5 x6 x7 ajk aeY aeZ:Option W}
end
section
variable {x0 x1 x5:Option W}
end
end bG
namespace dZ
open L2 L2.DL K1 bG
section
variable {r:aQ}
abbrev gP:DG:=fR 2 zK
theorem ae0 (p:Int×Int->Bool) (f:Int×Int->D):∀ (l:List<|Int×Int) (w v:Option W) (acc:List D),acc.length+l.length<=sizeLine->(∀ a∈l,tf (xN a.1::xN a.2::r) bx=.val (p a) bx /\ (p a=ah->te (xN a.1::xN a.2::r) bx=.val (.d<|f a) bx)) ->
 bK gP tf te ((l.map dP).map W.d) (w::v::r) bx acc=.val (acc++(l.filter p).map f) bx:=by
 intro l_;induction l_ with
 |nil=>(intro w v acc _ _;simp[bK])
 |cons a l ay=>
   intro w v acc n h;let#[h1,h2]:=h a<|bD ..;rw[bz]at n;have n':acc.length<sizeLine:=by lia
   have e0:gP (W.d<|dP a) (w::v::r) bx=ae (ae _::ae _::r,bx):=rfl;cases c:p a with
   |false=>
     rw[tZ (by simp[c]),<-ay (ae<|W.d<|.int a.1) (ae<|W.d<|.int a.2) acc za λx m=>h x<|bE _ m];rw[c]at h1;simp[aL,bK,e0,h1,oK]
   |true=>
     rw[ua c];rw[c]at h1;erw[aL,bK,e0,h1,h2 c,oK,if_pos n',(ay _ _ (acc++[f a]) zg λx m=>h x<|bE _ m)];simp
end
section
variable {bx2:List Bx}
end
theorem Nk (neg:Bool) (is:List Int) (b:Int):inD neg (.int b) (.lst<|is.map D.int)=ae (.old<|.bl (if neg then !decide (b∈is) else decide (b∈is))):=by
 change (if kZ _=ah /\ (is.map D.int).all kZ=ah then ae _ else wz neg _ _ _)=_;rw[if_pos #[rfl,J6 is],M6];have:(is.any λz=>decide (z=b))=decide (b∈is):=by
  rw[kK];simp
 rw[this]
end dZ
namespace aH
open L2 L2.DL K1 dZ bG
def dq (ps K R:Al) (g:Pg):Al:=if word ps K R g="takes" then stK K g else K
def dz (ps K R:Al) (g:Pg):Al:=if word ps K R g="takes" then nR R g else R
theorem ae1 (L:Al) (r:Int):inD af (.int r) (.lst<|L.map λq=>.int q.2)=ae (.old (.bl (decide (r∈L.map (·.2))))):=by
 have:=Nk af (L.map (·.2)) r;rw[bj]at this;show this
theorem iz {ps K R:Al}{g:Pg}(h:¬ word ps K R g="takes"):dq ps K R g=K /\ dz ps K R g=R:=#[if_neg h,if_neg h]
theorem gx {ps K R:Al}{g:Pg}(h:word ps K R g="takes"):dq ps K R g=stK K g /\ dz ps K R g=nR R g:=#[if_pos h,if_pos h]
section
variable {K R:List (Int × Int)} 
theorem S6 (k r:Int):decide (r∈(R.filter λq=>ez ps k<|kk K q.1).map (·.2))=k7 ps K R k r:=by
 unfold k7;rw[kK,decide_eq_true_eq,kC];erw[bp,pR,aJ,decide_eq_true_eq];show#[λ⟨q,m,e⟩=>#[q,m.1,e,m.2],λ⟨q,m,e,a⟩=>#[q,#[m,a],e]]
theorem W0 {l r0 r:Int}(nd:(R.map (·.1)).Nodup) (h:look R l=ae r0) (d:¬ r0=r) (k:Int):decide (r∈(((R.filter λq=>ez ps k<|kk K q.1).filter λq=>!decide (q.1=l))).map (·.2))=k7 ps K R k r:=by
 rw[<-S6,kK,decide_eq_true_eq,decide_eq_true_eq];erw[bp,pR,rV,decide_eq_false_iff_not];refine#[λ⟨q,m,e⟩=>#[q,m.1,e],λ⟨q,m,e⟩=>#[q,#[m,λz=>?_],e]];have:=jJ nd m.1;rw[z,h]at this;show d<|(Option.some.inj this).trans e
abbrev oE (H:D) (n:Nat) (g:Pg) (x6 x7 x8:Option W):aQ:=[ae<|.d H,ae<|.m<|ml n,ae zG,ae<|.d<|.int<|aV g,ae<|.d<|.str<|cy g,ae<|.d<|.int<|a8 g,x6,x7,x8]
theorem W1 (J:dn K R n) (hn:n<=100) (hb:B[bx.length]?=ae (.aB<|bH dP<|br K R)) {mk mr:DE W}{k r:Int}(h0:env[0]?=ae (ae<|.d zb)) (h6:env[6]?=ae (xB bx.length)) (hk:mk env B=.val (.d<|.int k) B) (hr:mr env B=.val (.d<|.int r) B) :
 dB (d2 af (inD af) mr<|fL af [ag,ag] (bq<|fj aH.gK 3<|fc (dV 0)<|fc (dV 6)<|fc mk ff) gP fM<|dV 1) env B=.val (k7 ps K R k r) B:=by
 have z:=bf;have lr:=J.lr;have fl:=tY (λq:Int×Int=>ez ps k<|kk K q.1) R;have c:=ae0 (tf:=fM) (te:=dV 1) (bx:=B) (r:=[]) (λ_=>ah) (λq=>.int q.2) (R.filter λq=>ez ps k<|kk K q.1) ag ag [] zg λq _=>#[rfl,λ_=>rfl];rw[nW,List.filter_eq_self.mpr λ_ _=>rfl]at c;rw[<-S6];show f7 (fE (r:=.old (.bl (decide (r∈(R.filter λq=>ez ps k<|kk K q.1).map (·.2))))) hr (gp (gf<|fG (fg (by unfold dV;rw[h0])<|fg (by unfold dV;rw[h6])<|fg hk zc) zc<|GT J hn hb) zc c)<|ae1 _ r)
theorem W2 (J:dn K R n) (hn:n<=100) (hb:B[bx.length]?=ae (.aB<|bH dP<|br K R)) {mk mr:DE W}{k r l r0:Int}(h0:env[0]?=ae (ae<|.d zb)) (h5:env[5]?=ae (xN l)) (h6:env[6]?=ae (xB bx.length)) (hk:mk env B=.val (.d<|.int k) B) (hr:mr env B=.val (.d<|.int r) B) (hl:look R l=ae r0) (d:¬ r0=r) :
 dB (d2 af (inD af) mr<|fL af [ag,ag,ae 5] (bq<|fj aH.gK 3<|fc (dV 0)<|fc (dV 6)<|fc mk ff) gP (dB<|d2 af dF (dV 0)<|dV 2)<|dV 1) env B=.val (k7 ps K R k r) B:=by
 have z:=bf;have lr:=J.lr;have fl:=tY (λq:Int×Int=>ez ps k<|kk K q.1) R;have c:=ae0 (tf:=dB<|d2 af dF (dV 0)<|dV 2) (te:=dV 1) (bx:=B) (r:=[xN l]) (λq=>!decide (q.1=l)) (λq=>.int q.2) (R.filter λq=>ez ps k<|kk K q.1) ag ag [] zg λq _=>#[f7<|fE (r:=.old<|.bl<|!decide (q.1=l)) zc zc<|rfl,λ_=>rfl];rw[nW]at c;rw[<-W0 J.nd hl d];show f7 (fE (r:=.old (.bl (decide (r∈(((R.filter λq=>ez ps k<|kk K q.1).filter λq=>!decide (q.1=l))).map (·.2))))) hr (gp (gf<|fG (fg (by unfold dV;rw[h0])<|fg (by unfold dV;rw[h6])<|fg hk zc) zc<|GT J hn hb) (by simp[h5]) c)<|ae1 _ r)
variable {go:Al} {av wd:List D}
noncomputable def ae2:Pg->Int
 |.aO _ _ k ..=>k
 |_=>0
noncomputable def isIn:Pg->Bool
 |.aO ..=>ah
 |_=>af
abbrev ym (ca:List<|Int×Pg):Al:=ca.map λq=>(q.1,ae2 q.2)
theorem Vt {l:Int}{g:Pg}:ym (put ca l g)=put (ym ca) l (ae2 g):=by
 have e:(ym ca).map (·.1)=ca.map (·.1):=by rw[bj];rfl
 unfold put;rw[lQ e];split
 .unfold ym;rw[bj,bj];refine rY λq _=>?_;by_cases c:q.1=l<;>simp[c]
 .simp
structure Lb (K:Al) (ca:List<|Int×Pg) (go:Al) (dr:List<|List Key×D) (m:Nat):zk where
 k:ym ca=K
 i:∀ q∈ca,isIn q.2=ah
 c:ca.length<=m
 g:go.length<=m
 d:dr.length<=2*m
theorem Lb.keys {m:Nat}(Q:Lb K ca go dr m):ca.map (·.1)=K.map (·.1):=by rw[<-Q.k,bj];rfl
end
theorem dn.nx {ps K R:Al}(J:dn K R n) (g:Pg):dn (dq ps K R g) (dz ps K R g) (n+1):=by
 by_cases c:word ps K R g="takes"
 .rw[(gx c).1,(gx c).2];show J.step c
 .rw[(iz c).1,(iz c).2];show#[J.nd,J.sub,Hj J.lk,Hj J.lr]
theorem FM {ps K R:Al}{g:Pg}:wordsOf ps K R (g::gs)=word ps K R g::wordsOf ps (dq ps K R g) (dz ps K R g) gs:=by
 change word ps K R g::_=_;by_cases c:word ps K R g="takes"
 .rw[(gx c).1,(gx c).2,if_pos c]
 .rw[(iz c).1,(iz c).2,if_neg c]
abbrev Kt (p:Pg×Str):D:=.tup [enc p.1,.str p.2]
abbrev ajl:aA:=(fu (gj<|kX (cS (dV 2) "words")<|fO<|fc (dV 3)<|fc (fj aH.gG 3<|fc (dV 0)<|fc (dV 2)<|fc (dV 3) ff) ff)<|gj<|kX (cS (dV 2) "at")<|fO<|fc (d2 af ax (dV 3) zi)<|fc (wG af<|cS (dV 2) "there") ff)
def wI (ps:Al):Al->Al->List Pg->Al
 |K,_,[]=>K
 |K,R,g::gs=>wI ps (dq ps K R g) (dz ps K R g) gs
def uI (ps:Al):Al->Al->List Pg->List D
 |_,_,[]=>[]
 |K,R,g::gs=>.tup [.int<|aV g,.aB<|bH dP<|br (dq ps K R g)<|dz ps K R g]::uI ps (dq ps K R g) (dz ps K R g) gs
section
variable {P:D} 
theorem Vu (g:Pg) (h:env[3]?=ae (ae zG)):d2 af ax (dV 3) zi env B=.val (.d<|.int<|aV g) B:=by
 cases g<;>simp[h,enc,dG,b9,kG,ax,bF,cA,aV]
end
abbrev ZX (ft:List W->List Bx->O W):aA:=(fF (d2 af fK (dV 3)<|fL af [ag,ae 0,ae 4] (dR zar) (fe 0) (dB<|d2 af aY (fj ft 2<|fc (dV 1)<|fc zq ff) zi)<|fO<|fc (dV 0) zP)<|fe 3)
theorem J9 (h:n<bx.length) (k:Nat) (hk:k<=4) (p:Int):∃ is:List Nat,∃ q,is.Sublist (List.range k) /\
 bK (fe 0) (dB<|d2 af aY (fj K1.fm 2<|fc (dV 1)<|fc zq ff) zi) (fO<|fc (dV 0) zP) (fQ 0 k) [ag,xB n,xN k] zY []=.val (is.map λ(i:Nat)=>dP ((i:Int),(k:Int))) (pt bx n q):=by
 have z2:(2)<=sizeLine:=by decide
 have sz:=bf
 let#[l',q,e,s]:=MZ (g:=fe 0) (tf:=dB<|d2 af aY (fj K1.fm 2<|fc (dV 1)<|fc zq ff) zi) (te:=fO<|fc (dV 0) zP) (λe=>∃ w,e=[w,xB n,xN k]) (λw=>.tup [match w with|.d x=>x|_=>.non,.int k]) (bx:=bx) (n:=n) (fQ 0 k) [ag,xB n,xN k] p [] #[ag,rfl] (by
  intro w mw env p ⟨w0,je⟩;let#[i,_,rfl]:=bp.mp mw;show#[[xN<|0+(i),xB n,xN k],decide (p % 3=0),p / 3,by simp[je],#[_,rfl],by simp[(jy h p 3 (by decide) (by decide)),aY],rfl]) (by simp[fQ];lia)
 let#[is,s1,rfl]:=List.sublist_map_iff.mp s;refine#[is,q,s1,?_];rw[e,nW,bj];congr 1;refine rY λi _=>?_;simp
theorem Nl {ft:List W->List Bx->O W}{k:Nat}{p q:Int}(x1 x2:Option W) {is:List Nat}(hk:k<=4) (y:ps.length+is.length<=sizeLine)
 (e:bK (fe 0) (dB<|d2 af aY (fj ft 2<|fc (dV 1)<|fc zq ff) zi) (fO<|fc (dV 0) zP) (fQ 0 k) [ag,xB n,xN k] zY []=.val (is.map λ(i:Nat)=>dP ((i:Int),(k:Int))) (pt bx n q)) :
 ZX ft [xB n,x1,x2,xP ps,xN (k:Int)] zY=.nx [xB n,x1,x2,xP<|ps++is.map λ(i:Nat)=>((i:Int),(k:Int)),xN (k:Int)] (pt bx n q):=by
 have ad:fK (.lst zao) (.lst<|is.map λ(i:Nat)=>dP ((i),(k)))=ae (.lst<|(ps++is.map λ(i:Nat)=>((i:Int),(k:Int))).map dP):=by
  refine(if_pos (by rw[aR,aR];show y)).trans ?_;rw[rZ,bj];rfl
 unfold ZX
 rw[FD,MP,show dV 3 _ _=.val _ _ from rfl,fT,Cu,(CA (env:=[ae _,x1,x2,ae _,ae _]) (bx:=pt bx n p) (k:=k) (m:=fc _ ff) (rfl) za),fT,
  show eR _ _=[ag,ae _,ae _] from rfl,e,fT,jn,fT,m7,A5,A5,bS,bS,ad,jn,m7,iT,Dy]
 rfl
theorem Nm (h:n<bx.length) (x1 x2:Option W):∀ (c k:Nat) (p:Int) (ps:List<|Int×Int) (w:Option W),k+c<=4->EN k ps ->
 ∃ vc w' q,bX (fe 4) (ZX K1.fm) ((List.range' k c).map λ(i:Nat)=>W.d<|.int<|0+(i:Int)) [xB n,x1,x2,xP ps,w] zY=.nx [xB n,x1,x2,xP vc,w'] (pt bx n q) /\ EN (k+c) vc:=by
 intro c;induction c with
 |zero=>intro k p ps w _ s;show#[ps,w,p,rfl,s]
 |succ c ih=>
   intro k p ps w hk s;let#[is,q,s1,e]:=J9 h k za p;have li:is.length<=k:=by have:=s1.length_le;simpa using this
   let#[vc,w',q',e2,s2]:=ih _ q _ _ za<|s.more s1 za;refine#[vc,w',q',?_,by rw[show k+(c+1)=k+1+c by lia];show s2];have sz:=bf;have pl:=s.l;have g1:fe 4 (W.d<|.int<|0+(k)) [xB n,x1,x2,xP ps,w] zY=ae ([xB n,x1,x2,xP ps,xN<|k],pt bx n p):=by
    rw[acg];rfl
   rw[List.range'_succ,aL,iG g1<|Nl x1 x2 (ps:=ps) za za e];show e2
theorem GU (h:n<bx.length) (p:Int) {P:D->zk}{k:Int}(k0:0<k) (k5:k<=5) (ht:∀ (w:W) (p:Int),∃ d q,te [ae w,xB n] zY=.val (.d d) (pt bx n q) /\ P d):∃ ds q,(∀ d∈ds,P d) /\ 1<=ds.length /\ (ds.length:Int)<=k /\ ∀ {env:aQ},env[0]?=ae (xB n)->dN af rn (fc (fL af [ag,ae 0] (dR<|fc (d2 af fK zd<|fj K1.fm 2<|fc (dV 0)<|fc (dC<|.int k) ff) ff) (fe 0) fM te) ff) env zY=.val (.d<|.tup ds) (pt bx n q):=by
 have sz:=bf;let#[r,q1,t,r0,r1]:=bG.nC h p k k0 za;let#[j,rfl]:=HQ r0
 let#[ds,q,e1,e2,e3]:=GM (g:=fe 0) (λe=>∃ w,e=[w,xB n]) P (fQ 0<|1+j) _ q1 [] #[ag,rfl] (by
  intro w _ env p ⟨w0,je⟩;let#[d,q,e,m]:=ht w p;show#[[ae w,xB n],by simp[je],#[_,rfl],d,q,e,m]) (by simp[fQ];lia)
 have n5:ds.length=1+j:=by rw[e2];simp[fQ]
 simp[nW]at e1;refine#[ds,q,e3,by lia,by lia,λ{env} he=>?_];have rg:=lN (fg (ks:=ff) (fE (g:=fK) (m:=dC<|.int 1) zc (t (env:=env) he (m:=dC<|.int k) zc) zc) zc) za;rw[show (1+(j:Int)).toNat=1+j by lia]at rg;show iF (r:=.tup ds) [.lst ds] (fg (gp rg (by simp[Aa,Ab,A6,he,bS,id]) e1) zc) zc
theorem Nn (h:n<bx.length) (p:Int):∃ rs ks ps hd q,iY [.b n] zY=.val (.d zb) (pt bx n q) /\ Hs rs ks ps hd:=by
 let#[rs,q1,hr,r1,r5,e1]:=GU h p (te:=fj K1.fm 2<|fc (dV 1) z9) (P:=λd=>wi d 0 3=ah) (k:=5) ze ze (λw p=>by
  let#[r,q,t,a,b]:=bG.nC h p 4 ze ze;show#[.int r,q,t zc zc,by simp[wi];lia])
 let#[ks,q2,hk,k1,k4,e2]:=GU h q1 (te:=fj K1.ie 1 zI) (k:=4) ze ze (λw p=>by
  let#[d,q,e,m]:=Ri h p;show#[d,q,fG zc zc e,m])
 let#[ps,w',q3,e3,s3]:=Nm h (ae<|.d<|.tup rs) (ae<|.d<|.tup ks) ks.length 0 q2 [] ag za #[.nil,(λp m=>nomatch m),aE _];rw[Q6]at s3;have pl:=s3.l;let#[qs,pq,so,e4]:=Rj ps za;let#[hd,q4,hh,e5]:=Rm h q3 (ae<|.d<|.tup rs) (ae<|.d<|.tup ks) (xP ps) w';have hb:∀ p∈qs,0<=p.1 /\ p.1<p.2 /\ p.2<(ks.length):=λp m=>s3.b p<|pq.mem_iff.mp m;have lq:qs.length<=16:=by rw[pq.length_eq];lia
 refine#[rs,ks,qs,hd,q4,DC ?_ (by rw[gF,gF];show aE _),#[by lia,by lia,by lia,by lia,λp m=>(hb p m).2.1,by lia,?_]]
 .have sz:=bf;show qS (e1 zc)<|qS (e2 zc)<|qS (mH [] zc<|eC _)<|(fv<|(iW<|CA (env:=[xB n,ae<|.d<|.tup rs,ae<|.d<|.tup ks,xP<|[],ag]) (bx:=pt bx n q2) (k:=ks.length) (m:=fc (dN af bV zP) ff) (rfl) za).trans (by unfold fQ;rw[List.range_eq_range'];show e3)).trans<|fZ<|gm [.tup rs,.tup ks,.tup<|qs.map dP,hd] (fg zc<|fg zc<|fg (iF (r:=.tup<|qs.map dP) [.lst<|qs.map dP] (fg (iF (r:=.lst<|qs.map dP) [.lst zao] (fg zc zc) e4) zc) zc)<|fg e5 zc) (show (4:Nat)<=sizeLine by lia)
 .have a:apart (ks.length:Int) (.tup<|qs.map dP)=ah:=by
   have b1:(qs.map dP).all (yk (ks.length:Int))=ah:=by
    rw[xl,cY];intro p m;have:=hb p m;simp[yk,tl];lia
   change (((qs.map dP).all<|yk (ks.length:Int))&&vk ((qs.map dP).filterMap ZM))=ah;rw[GI,b1,(GN so<|pq.nodup_iff.mpr s3.nd)];rfl
  have ajm:rooms (.tup rs)=ah:=by simp[rooms,tl,cY.mpr hr];lia
  have uk:kinds (.tup ks)=ah:=by simp[kinds,tl,cY.mpr hk];lia
  simp[house,lenOf,ajm,uk,a,hh,abt]
theorem Bg {α:Type}:∀ {l:List α}{c:Nat}(h:c<l.length),(l[c]::l.eraseIdx c).Perm l
 |a::l,0,_=>.refl _
 |a::l,c+1,h=>(List.Perm.swap _ _ _).trans<|(Bg<|Nat.lt_of_succ_lt_succ h).cons a
abbrev ajn:DE W:=wB (dV 2)<|fj K1.fm 2<|fc (dV 1)<|fc (dN af bV zP) ff
theorem FN (h:n<bx.length):∀ (l:List W) (left:List D) (w:Option W) (p:Int) (acc:List D),left.length=l.length->left.length<=1000->acc.length+l.length<=sizeLine ->
 ∃ ds q,bK (fe 0) fM ajn l [w,xB n,xB bx.length] (pt (bx++[.lst left]) n p) acc=.val (acc++ds) (pt (bx++[.lst []]) n q) /\ ds.Perm left:=by
 intro l_;induction l_ with
 |nil=>
   intro left w p acc hl _ _;cases left with
   |nil=>show#[[],p,by simp[bK],.refl _]
   |cons a b=>simp at hl
 |cons u l ay=>
   intro left w p acc hl alL z;have b0:=jz (p:=p) (x:=.lst left) h;have ln:dN af bV zP [ae u,xB n,ae _] _=.val (.d<|.int left.length) (pt (bx++[.lst left]) n p):=Vg zc b0;have lp:0<left.length:=by rw[hl];simp
   let#[r,q,t,r0,r1]:=FH zg (i:=1) zc ln za za;let#[c,rfl]:=HQ r0;have hc:c<left.length:=by lia
   have pv:=Ro (m:=dV 2) zc b0 t (jz (p:=q) (x:=.lst left) h) #[by lia,by lia] (Rp hc)<|cL hc;rw[CB h]at pv;have z':acc.length<sizeLine:=by simp[bz]at z;lia
   have el:(left.eraseIdx c).length=l.length:=by rw[Xg hc,hl];simp
   let#[ds,q',e3,e4]:=ay (left.eraseIdx c) (ae u) q (acc++[left[c]]) el (by rw[el];simp at hl;lia) (by simp[cX,bz,pQ]at z ⊢;lia);refine#[left[c]::ds,q',?_,((e4.cons _).trans<|Bg hc)]
   .have g0:fe 0 u [w,xB n,xB bx.length] (pt (bx++[.lst left]) n p)=ae ([ae u,xB n,xB bx.length],pt (bx++[.lst left]) n p):=rfl;erw[bK,g0,GE,oK,pv,if_pos z',e3];simp
theorem RC (h:n<bx.length) (p:Int) (l:List D) (hl:l.length<=1000):∃ ds q,j6 [.b n,.d<|.lst l] zY=.val (.d<|.lst ds) (pt bx n q) /\ ds.Perm l:=by
 have sz:=bf;let#[ds,q,e1,e2]:=FN h (l.map W.d) l ag p [] zj hl zg;have s1:fF (dN ah xV zI) (fe 2) [xB n,ae<|.d<|.lst l,ag] zY=.nx [xB n,ae<|.d<|.lst l,xB bx.length] (pt (bx++[.lst l]) n p):=by
  have a:dN ah xV zI [xB n,ae<|.d<|.lst l,ag] zY=.val (.b bx.length) (pt (bx++[.lst l]) n p):=by
   rw[J2,fg rfl rfl,fT,<-mK h];have:=gF (bx:=bx) (n:=n) (p:=p);change O.val (W.b (pt bx n p).length) _=_;rw[this]
  show gu a
 have M:lH [xB n,ae<|.d<|.lst l,ag] zY=.rt (.d<|.lst ds) (pt (bx++[.lst []]) n q):=by
  unfold lH;show(fv s1).trans (fZ<|gp (gf zc) zc e1)
 refine#[ds,q,(lP M).trans ?_,e2];rw[gF,Bc h]
theorem FO {i:Nat}(h:env[i]?=ae (ae<|.d zb)):dN af bV (fc (d2 af ax (dV i) zi) ff) env B=.val (.d<|.int (rs.length:Int)) B:=by
 show iF (r:=.old<|.int<|rs.length) [.tup rs] (fg (fE (r:=.old<|.tup rs) (by unfold dV;rw[h]) zc zc) zc)<|rfl
theorem Vv {i:Nat}(h:env[i]?=ae (ae<|.d zb)):dN af bV (fc (d2 af ax (dV i) zd) ff) env B=.val (.d<|.int (ks.length:Int)) B:=by
 show iF (r:=.old<|.int<|ks.length) [.tup ks] (fg (fE (r:=.old<|.tup ks) (by unfold dV;rw[h]) zc zc) zc)<|rfl
theorem RD (h:n<bx.length) (H:Hs rs ks ps hd) (p near:Int) (h0:0<near) (h1:near<=40):∃ g q,gY [.b n,.d zb,.d<|.int near] zY=.val zG (pt bx n q) /\ tH rs.length ks.length g /\ aV g<near:=by
 have sz:=bf;have r1:=H.r1;have r5:=H.r5;have k1:=H.k1;have k4:=H.k4;let#[a,q1,t1,a0,a1]:=nC h p near h0 za;let#[v,q2,t2,mv]:=aeL h q1 [3,10] (fc zq<|fc (dC<|.int 10) ff) (λ_ _=>rfl) zc (by decide) ze;have hv:0<v /\ v<=10:=by simp at mv;lia
 let#[l,q3,t3,l0,l1]:=nC h q2 v hv.1 za;let#[r,q4,t4,c0,c1]:=nC h q3 rs.length za za;let#[w,q5,t5,w0,w1]:=nC h q4 5 ze ze;have fin:∀ {g:Pg}{q:Int},A3 [xB n,ae<|.d zb,xN near,ag,ag,ag,ag,ag] zY=.rt zG (pt bx n q)->gY [.b n,.d zb,.d<|.int near] zY=.val zG (pt bx n q):=λe=>DC e (by rw[gF,gF];show aE _);have tz:∀ {e:aQ},e[6]?=ae (xN w)->dB (d2 af aY (dV 6) zi) e (pt bx n q5)=.val (decide (w=0)) (pt bx n q5):=λe=>f7<|fE (r:=.old<|.bl<|decide (w=0)) (by rw[gH,e]) zc<|rfl;have tt:∀ {e:aQ},e[6]?=ae (xN w)->dB (d2 af dJ (dV 6) zq) e (pt bx n q5)=.val (decide (w<3)) (pt bx n q5):=λe=>f7<|fE (r:=.old<|.bl<|decide (w<3)) (by rw[gH,e]) zc<|rfl;by_cases ae3:w=0
 .rw[decide_eq_true ae3]at tz;show#[.out a l,q5,fin<|(fv<|lm (t1 zc zc)<|t3 zc<|t2 _ _ zc).trans<|(fv<|lm (t4 zc<|FO zc)<|t5 zc zc).trans<|qR (tz zc)<|gm [.int a,.str "out",.int l] zc zg,#[a0,l0,by lia],a1]
 .rw[decide_eq_false ae3]at tz;by_cases c2:w<3
  .rw[decide_eq_true c2]at tt;show#[.to a l r,q5,fin<|(fv<|lm (t1 zc zc)<|t3 zc<|t2 _ _ zc).trans<|(fv<|lm (t4 zc<|FO zc)<|t5 zc zc).trans<|qF (tz zc)<|qR (tt zc)<|gm [.int a,.str "to",.int l,.int r] zc zg,#[a0,#[l0,by lia],c0,c1],a1]
  .rw[decide_eq_false c2]at tt;let#[x,q6,t6,x0,x1]:=nC h q5 9 ze ze;let#[y,q7,t7,y0,y1]:=nC h q6 40 ze ze;let#[c,q8,t8,e0,e1]:=nC h q7 4 ze ze;let#[d,ed,md]:=m8 (l:=[D.int 0,.int x,.int y,.int 999]) e0 (by simpa using e1);obtain⟨z,rfl,z0,z1⟩:∃ z,d=.int z /\ 0<=z /\ z<=999:=by
    simp at md;rcases md with rfl|rfl|rfl|rfl<;>show#[_,rfl,by lia,by lia]
   let#[k,q9,t9,f0,f1]:=nC h q8 ks.length za za;let#[u,qa,ta,u0,u1]:=nC h q9 100 ze ze;show#[.aO a l k r z u,qa,fin<|(fv<|lm (t1 zc zc)<|t3 zc<|t2 _ _ zc).trans<|(fv<|lm (t4 zc<|FO zc)<|t5 zc zc).trans<|qF (tz zc)<|qF (tt zc)<|qS (fE (r:=.old<|.int z) (mH [.int 0,.int x,.int y,.int 999] (fg zc<|fg (t6 zc zc)<|fg (t7 zc zc)<|fg zc zc) zg) (t8 zc zc) (by erw[ax,ed,pT]))<|fZ<|gm [.int a,.str "in",.int l,.int k,.int r,.int z,.int u] (fg zc<|fg zc<|fg zc<|fg (t9 zc<|Vv zc)<|fg zc<|fg zc<|fg (ta zc zc) zc) zg,#[a0,#[l0,by lia],#[f0,f1],#[c0,c1],#[z0,z1],u0,by lia],a1]
noncomputable def kn:Pg->List Key
 |.aO h l k r p w=>[.inl h,.inr "in",.inl l,.inl k,.inl r,.inl p,.inl w]
 |.to h l r=>[.inl h,.inr "to",.inl l,.inl r]
 |.out h l=>[.inl h,.inr "out",.inl l]
def ke (g:Pg):List Key×D:=(kn g,.bl ah)
theorem CG (g:Pg):D.tup ((kn g).map Kl)=enc g:=by cases g<;>rfl
theorem No (g:Pg):∃ l,enc g=.tup l /\ ve l=ae (kn g):=by cases g<;>show#[_,rfl,rfl]
theorem Np {a b:Pg}(h:kn a=kn b):a=b:=Rh (by rw[<-CG,<-CG,h])
theorem RE (gs:List Pg):Km (gs.map ke)=gs.map enc:=by
 unfold Km;rw[bj];show rY λg _=>CG g
theorem Vw {g:Pg}:∃ g2:List Pg,tj (gs.map ke) (kn g) (.bl ah)=g2.map ke /\ (gs.Nodup->g2.Nodup) /\ (∀ x∈g2,x∈gs \/ x=g) /\ g2.length<=gs.length+1:=by
 by_cases m:g∈gs
 .refine#[gs,?_,id,λx m=>.inl m,by lia];unfold tj;rw[if_pos]
  .rw[bj];refine rY λx _=>?_;change (if kn x=kn g then (kn x,D.bl ah) else ke x)=ke x;split<;>rfl
  .show kC.mpr #[ke g,qT m,by simp[ke]]
 .refine#[gs++[g],?_,λnd=>?_,λx mx=>?_,by simp]
  .unfold tj;rw[if_neg]
   .simp[ke]
   .intro z;let#[x,mx,e]:=kC.mp z;let#[y,my,rfl]:=bp.mp mx;show m<|Np (of_decide_eq_true e)▸my
  .rw[uR];show#[nd,by simp,λa ma b mb=>by cases kN.mp mb;show λz=>m<|z▸ma]
  .rcases List.mem_append.mp mx with z|z
   .show .inl z
   .show .inr<|kN.mp z
abbrev gB:aA:=zS
noncomputable abbrev gE (n b:Nat) (H:D) (mo near:Int) (x5 x6:Option W):aQ:=[ae<|.b n,ae<|.d H,ae<|.d<|.int mo,ae<|.d<|.int near,ae<|.b b,x5,x6]
def Gd (nr nk:Nat) (near:Int) (g:Pg):zk:=tH nr nk g /\ aV g<near
theorem YL (g:Pg) (near:Int) (h:env[6]?=ae (ae zG)):dB (d2 af aY (d2 af ax (dV 6) zd) zau) env B=.val (decide (cy g="in")) B:=by
 refine f7<|fE ?_ zc<|eq_str _ _;cases g<;>simp[h,enc,dG,b9,kG,ax,bF,cA,cy]
theorem RF {h' l k r p w:Int}{mo near:Int}(x5:Option W) {H:D}{b:Nat}:fF (d2 af fK (fO<|fc (d2 af nK (d2 af ax (dV 6) zi) zq) ff)<|cH af (dV 6) (cG zd) cQ) (fe 6) (gE n b H mo near x5<|ae<|.d<|enc zZ) B=.nx (gE n b H mo near x5<|ae<|.d<|enc<|.aO (h' / 3) l k r p w) B:=by
 have z:=bf;have c:sO h' 3:=by unfold sO;lia
 simp[enc,dG,b9,kG,ax,bF,cA,nK,c,pF,DL.cutD,HT.ba,fK,z]
theorem YM {mo:Int}(h:n<bx.length) (H:Hs rs ks ps hd) (near:Int) (h0:0<near) (h1:near<=40) (nd:gs.Nodup) (ok:∀ g∈gs,Gd rs.length ks.length near g) (hl:gs.length<=100) (q:Int) (x5 x6:Option W) :
 ∃ (g2:List Pg) (q':Int) (y6:Option W),gB (gE n bx.length zb mo near x5 x6) (pt zaa n q)=.nx (gE n bx.length zb mo near x5 y6) (pt (bx++[.dT<|g2.map ke]) n q') /\ g2.Nodup /\ (∀ g∈g2,Gd rs.length ks.length near g) /\ g2.length<=gs.length+1:=by
 have sz:=bf;have hn:n<(bx++[Bx.dT<|gs.map ke]).length:=by simp;lia
 let#[g,q1,e,og,hg]:=RD hn H q near h0 h1;have s1:fF (fj aH.gY 3<|fc (dV 0)<|fc (dV 1)<|fc (dV 3) ff) (fe 6) (gE n bx.length zb mo near x5 x6) (pt zaa n q)=.nx (gE n bx.length zb mo near x5<|ae zG) (pt zaa n q1):=
  gu (fG zc zc e)
 have pu:∀ (g:Pg) (q2:Int),Gd rs.length ks.length near g->∃ g2:List Pg,rM (dV 4) (dV 6) (dC<|.bl ah) (gE n bx.length zb mo near x5<|ae zG) (pt zaa n q2)=.nx (gE n bx.length zb mo near x5<|ae zG) (pt (bx++[.dT<|g2.map ke]) n q2) /\ g2.Nodup /\ (∀ g∈g2,Gd rs.length ks.length near g) /\ g2.length<=gs.length+1:=λg q2 og=>by
  let#[g2,e2,n2,m2,l2]:=Vw;let#[l,el,kl]:=No g;refine#[g2,?_,n2 nd,λx mx=>(m2 x mx).elim (ok x) λz=>z▸og,l2];unfold rM;have v6:dV 6 (gE n bx.length zb mo near x5<|ae zG) (pt zaa n q2)=.val (.d<|.tup l) (pt zaa n q2):=by rw[<-el];rfl
  have v4:dV 4 (gE n bx.length zb mo near x5<|ae zG) (pt zaa n q2)=.val (.b bx.length) (pt zaa n q2):=rfl;rw[WI,iT,v4,iT,v6,iT];erw[(jz (p:=q2) (x:=.dT<|gs.map ke) h),kl];rw[if_pos zg,e2,CB h]
 have tg:=YL g near (env:=gE n bx.length zb mo near x5<|ae zG) (B:=pt zaa n q1) zc;by_cases c:cy g="in"
 .rw[decide_eq_true c]at tg;let#[r,q2,t,r0,r1]:=aja hn q1 (env:=gE n bx.length zb mo near x5<|ae zG) (i:=0) zc 3 ze ze;have tt:=oQ tg<|f7<|fE (g:=nL) (r:=.old<|.bl<|decide (0<r)) (x:=.int r) (y:=.int 0) (m:=fj K1.fm 2<|fc (dV 0)<|fc zq ff) (k:=dC<|.int 0) t zc<|rfl;by_cases d:0<r
  .rw[decide_eq_true d]at tt;cases g with
   |aO h' l k r' p w=>
     let#[o1,o2]:=og;have xT:h'<near:=hg;let#[g2,e2,n2,m2,l2]:=pu (.aO (h' / 3) l k r' p w) q2 #[#[by lia,o2],by change h' / 3<near;lia];show#[g2,q2,_,(fv s1).trans<|(fv<|(iV tt).trans<|RF x5).trans e2,n2,m2,l2]
   |to _ _ _=>show absurd c (by change ¬ ("to":Str)="in";rw[FK];show id)
   |out _ _=>show absurd c (by change ¬ ("out":Str)="in";rw[J7];show id)
  .rw[decide_eq_false d]at tt;let#[g2,e2,n2,m2,l2]:=pu g q2 #[og,hg];show#[g2,q2,_,(fv s1).trans<|(fv<|(gz tt).trans zc).trans e2,n2,m2,l2]
 .rw[decide_eq_false c]at tg;let#[g2,e2,n2,m2,l2]:=pu g q1 #[og,hg];show#[g2,q1,_,(fv s1).trans<|(fv<|(gz<|oP tg).trans zc).trans e2,n2,m2,l2]
theorem Nq {mo:Int}(h:n<bx.length) (H:Hs rs ks ps hd) (p near:Int) (h0:0<near) (h1:near<=40) (m0:0<=mo) (m1:mo<=16):∃ (gs:List Pg) (q:Int),iZ [.b n,.d zb,.d<|.int mo,.d<|.int near] zY=.val (.d zm) (pt bx n q) /\ gs.Nodup /\ (∀ g∈gs,Gd rs.length ks.length near g) /\ gs.length<=16:=by
 have sz:=bf;have hn:n<(bx++[Bx.dT []]).length:=by simp;lia
 have s1:fF ye (fe 4) [xB n,ae<|.d zb,xN mo,xN near,ag,ag,ag] zY=.nx (gE n bx.length zb mo near ag ag) (pt (bx++[.dT<|([]).map ke]) n p):=by
  have:ye [xB n,ae<|.d zb,xN mo,xN near,ag,ag,ag] zY=.val (.b bx.length) (pt (bx++[.dT []]) n p):=by
   unfold ye;rw[gF,mK h]
  show gu this
 let#[c,q1,t,c0,c1]:=FH hn (env:=gE n bx.length zb mo near ag ag) (i:=0) (m:=d2 af fK (dV 2) zd) zc (fE (r:=.old<|.int<|mo+1) zc zc<|rfl) za za;let#[c,rfl]:=HQ c0;have rg:dR (fc (fj K1.fm 2<|fc (dV 0)<|fc (d2 af fK (dV 2) zd) ff) ff) (gE n bx.length zb mo near ag ag) (pt (bx++[.dT []]) n p)=.val (fQ 0 c) (pt (bx++[.dT []]) n q1):=by
  rw[lN (fg t rfl) za,nq]
 let#[aT,bx',e,gs,q,w5,w6,rfl,rfl,nd,ok,l]:=lX (g:=fe 5) (body:=gB) (λi env b=>∃ (gs:List Pg) (q:Int) (w5 w6:Option W),env=gE n bx.length zb mo near w5 w6 /\ b=pt zaa n q /\ gs.Nodup /\ (∀ g∈gs,Gd rs.length ks.length near g) /\ gs.length<=i) (fQ 0 c) 0 (gE n bx.length zb mo near ag ag) (pt (bx++[.dT<|([]:List Pg).map ke]) n q1) #[[],q1,ag,ag,rfl,rfl,.nil,(λg m=>nomatch m),aE _] (by
  rintro i w env b hw ⟨gs,q,w5,w6,rfl,rfl,nd,ok,l⟩;let#[_,hi]:=Bd hw;let#[g2,q',y6,e2,n2,m2,l2]:=YM h H near h0 h1 nd ok za q (ae w) w6;show#[gE n bx.length zb mo near (ae w) w6,_,gE n bx.length zb mo near (ae w) y6,_,rfl,e2,g2,q',_,y6,rfl,rfl,n2,m2,by lia])
 have lr:(fQ 0 c).length=c:=by simp[fQ]
 rw[lr]at l;let#[ds,q2,e3,pm]:=RC (bx:=bx++[.dT<|gs.map ke]) (n:=n) zg q (gs.map enc) zg;let#[g2,rfl,pg]:=EE pm zc;have lt:EK af (dV 4) (gE n bx.length zb mo near w5 w6) (pt zaa n q)=.val (.d zm) (pt zaa n q):=by
  have v4:dV 4 (gE n bx.length zb mo near w5 w6) (pt zaa n q)=.val (.b bx.length) (pt zaa n q):=rfl;unfold EK;rw[v4,fT];erw[(jz (p:=q) (x:=.dT<|gs.map ke) h),RE];rfl
 refine#[g2,q2,?_,pg.nodup_iff.mpr nd,λg m=>ok g<|pg.mem_iff.mp m,by rw[pg.length_eq];lia];refine(lP (ws:=[.b n,.d zb,.d<|.int mo,.d<|.int near])<|(fv s1).trans<|(fv<|(iW rg).trans e).trans<|fZ<|fG (l:=[.b n,.d zm]) (fg zc<|fg lt zc) zc e3).trans ?_;rw[gF,Bc h]
noncomputable def sh (c:Int):Pg->Pg
 |.aO h l k r p w=>.aO (h+c) l k r p w
 |.to h l r=>.to (h+c) l r
 |.out h l=>.out (h+c) l
theorem Vx {a b:Pg}(h:sh c a=sh c b):a=b:=by
 cases a<;>cases b<;>simp[sh]at h<;>simp_all
theorem W3 (c:Int) (g:Pg) (B:List Bx):d2 af fK (fO<|fc (d2 af fK (d2 af ax (dV 0) zi)<|dV 1) ff) (cH af (dV 0) (cG zd) cQ) [ae zG,xN c] B=.val (.d<|enc<|sh c g) B:=by
 cases g<;>simp[enc,dG,b9,kG,ax,bF,cA,pF,DL.cutD,HT.ba,fK,bf,sh]
end aH
namespace cn
open L2 L2.DL K1 dZ bG aH
def pre (h:Int) (ps:Al):Al->Al->List Pg->Al×Al
 |K,R,[]=>(K,R)
 |K,R,g::gs=>if aV g<=h then pre h ps (dq ps K R g) (dz ps K R g) gs else (K,R)
abbrev tJ (gs:List Pg):zk:=gs.Pairwise λa b=>aV a<=aV b
theorem Vy (r:EM gs):tJ gs:=by
 refine r.imp λ{a b} h=>?_;have:∀ {l m}{i j},HT.bR (.i i::l) (.i j::m)=ah->i<=j:=λ{l m i j} h=>by
  unfold HT.bR at h;split at h
  .ext e;cases e;show HP _
  .have:decide _=ah:=h;simp at this;lia
 cases a<;>cases b<;>show this h
theorem DS {h:Int}{ps K R:Al}:∀ {gs:List Pg},(∀ g∈gs,¬ aV g<=h)->pre h ps K R gs=(K,R)
 |[],_=>rfl
 |g::gs,l=>by unfold pre;rw[if_neg<|l g<|bD ..]
def taken (ps:Al):Al->Al->List Pg->List Pg
 |_,_,[]=>[]
 |K,R,g::gs=>if word ps K R g="takes" then g::taken ps (stK K g) (nR R g) gs else taken ps K R gs
theorem iH {a:Int×Int}{K:Al}{x:Int}:look (a::K) x=if a.1=x then ae a.2 else look K x:=by
 unfold look;rw[qQ];by_cases h:a.1=x
 .rw[decide_eq_true h,if_pos h];rfl
 .rw[decide_eq_false h,if_neg h]
theorem Nr {l k x:Int}:∀ {K:Al},look (K.map λq=>if q.1=l then (q.1,k) else q) x=if x=l /\ (K.any λq=>decide (q.1=l))=ah then ae k else look K x:=by
 intro l_;induction l_ with
 |nil=>(simp)
 |cons a K ay=>
   rw[aL,iH,ay,iH,rW];by_cases h:a.1=l
   .rw[if_pos h,decide_eq_true h,abr];by_cases e:a.1=x
    .rw[if_pos e,if_pos #[by lia,rfl]]
    .rw[if_neg e,if_neg λz=>e za,if_neg λz=>e za,if_neg e]
   .rw[if_neg h,decide_eq_false h,Q8];by_cases e:a.1=x
    .rw[if_pos e,if_pos e,if_neg λz=>h za]
    .rw[if_neg e,if_neg e]
theorem Nt {k l x:Int}:∀ {K:Al},(K.any λq=>decide (q.1=l))=af->look (K++[(l,k)]) x=if x=l then ae k else look K x:=by
 intro l_;induction l_ with
 |nil=>
   intro _;rw[nW,iH];by_cases e:x=l
   .rw[if_pos e,if_pos e.symm]
   .rw[if_neg e,if_neg λz=>e z.symm]
 |cons a K ay=>
   intro h;rw[rW,Bool.or_eq_false_iff,decide_eq_false_iff_not]at h;rw[Hr,iH,ay h.2,iH];by_cases e:a.1=x
   .rw[if_pos e,if_pos e,if_neg λz=>h.1 za]
   .rw[if_neg e,if_neg e]
theorem DT {K:Al}{l k x:Int}:look (put K l k) x=if x=l then ae k else look K x:=by
 unfold put;split
 .ext c;rw[Nr];by_cases e:x=l
  .rw[if_pos #[e,c],if_pos e]
  .rw[if_neg λz=>e z.1,if_neg e]
 .ext c;show Nt<|Bool.eq_false_iff.mpr c
abbrev kJ:aA:=(fu (aM (dB<|d2 af nL (d2 af ax (dV 3) zi)<|dV 1) II aU)<|aM (dB<|eY af<|dV 5) (uH (dV 2)<|d2 af ax (dV 3) zA)<|k6 (dV 2) (d2 af ax (dV 3) zA)<|dV 5)
abbrev tK (q:Pg×D):D:=.tup [enc q.1,q.2,eU q.1]
abbrev g3:DG:=fR 3<|fq (fe 3)<|fq (fe 4)<|fq (fe 5) fS
theorem ZY (g:Pg) (h:env[3]?=ae (ae zG)):d2 af ax (dV 3) zA env B=.val (.d<|.int<|a8 g) B:=by
 cases g<;>simp[h,enc,dG,b9,kG,ax,bF,cA,a8]
theorem Vz {env1 bL:aQ}{bx2:List Bx}{w:W}{l:List W}{g:DG}{body:aA}(h1:g w env bx=ae (env1,bx1)) (h2:body env1 bx1=.bk bL bx2):bX g body (w::l) env bx=.nx bL bx2:=by
 rw[bX,h1];simp[h2]
theorem VA {a b:aA}{env1:aQ}(h:a env bx=.bk env1 bx1):fu a b env bx=.bk env1 bx1:=by rw[lM,h]
section
variable {ps:Al} {h:Int} {x0:Option W}
theorem VB {K R:Al}(J:dn K R n) (hn:n<=100) {g:Pg}(c:word ps K R g="takes") (t:aV g<=h) (x:D) :
 kJ [x0,xN h,xB bx.length,ae zG,ae<|.d x,ae<|.d<|eU g] (bx++[.aB<|a7 R])=.nx [x0,xN h,xB bx.length,ae zG,ae<|.d x,ae<|.d<|eU g] (bx++[.aB<|a7<|nR R g]):=by
 have lr:=J.lr;refine(fv<|(gz<|f7<|fE (r:=.old<|.bl af) (Vu g zc) zc (by simp[nL];lia)).trans zc).trans ?_;have b0:(bx++[Bx.aB<|a7 R])[bx.length]?=ae (.aB<|a7 R):=by simp
 have st:∀ L:Al,(bx++[Bx.aB<|a7 R]).set bx.length (.aB<|a7 L)=bx++[.aB<|a7 L]:=λL=>by simp
 cases g with
 |aO h' l k r p w=>
   have p2:=DP (m:=dV 2) (v:=dV 5) (env:=[x0,xN h,xB bx.length,ae<|.d<|enc zZ,ae<|.d x,ae<|.d<|eU zZ]) zc zc (ZY zZ zc) b0 za;rw[st]at p2;show(gz zc).trans p2
 |to h' l r=>
   have p2:=DP (L:=R) (m:=dV 2) (k:=d2 af ax (dV 3) zA) (v:=dV 5) (x:=r) (l:=l) (i:=bx.length) (B:=bx++[.aB<|a7 R]) (env:=[x0,xN h,xB bx.length,ae<|.d<|enc<|.to h' l r,ae<|.d x,ae<|.d<|eU<|.to h' l r]) zc zc (ZY (.to h' l r) zc) b0 za;rw[st]at p2;show(gz (t:=dB<|eY af<|dV 5) zc).trans p2
 |out h' l=>
   have p2:=S3 (L:=R) (m:=dV 2) (k:=d2 af ax (dV 3) zA) (l:=l) (i:=bx.length) (B:=bx++[.aB<|a7 R]) (env:=[x0,xN h,xB bx.length,ae<|.d<|enc<|.out h' l,ae<|.d x,ae<|.d<|eU<|.out h' l]) zc (ZY (.out h' l) zc) b0<|DQ c;rw[st]at p2;show(iV (t:=dB<|eY af<|dV 5) zc).trans p2
theorem RG:∀ (gs:List Pg) (K R:Al) (n:Nat) (S:List<|Pg×D) (y3 y4 y5:Option W),tJ gs->dn K R n->n+gs.length<=100->S.map (·.1)=taken ps K R gs ->
 ∃ z3 z4 z5,bX g3 kJ ((S.map tK).map W.d) [x0,xN h,xB bx.length,y3,y4,y5] (bx++[.aB<|a7 R])=.nx [x0,xN h,xB bx.length,z3,z4,z5] (bx++[.aB<|a7 (pre h ps K R gs).2]):=by
 intro l_;induction l_ with
 |nil=>
   intro K R n S y3 y4 y5 _ _ _ e;have:=List.map_eq_nil_iff.mp e;subst this;show#[y3,y4,y5,rfl]
 |cons g gs ay=>
   intro K R n S y3 y4 y5 s J hn e;let#[s1,s2]:=kO.mp s;rw[bz]at hn;by_cases c:word ps K R g="takes"
   .rw[show taken ps K R (g::gs)=g::taken ps _ _ gs from if_pos c]at e;cases S with
    |nil=>cases e
    |cons q S=>
      let#[q1,x]:=q;rw[aL]at e;injection e with e1 e2;subst e1;have g1:g3 (W.d<|tK (q1,x)) [x0,ae _,ae _,y3,y4,y5] _=ae ([x0,xN h,xB bx.length,ae _,ae<|.d x,ae<|.d<|eU q1],bx++[.aB<|a7 R]):=rfl;by_cases t:aV q1<=h
      .let#[z3,z4,z5,ih]:=ay (stK K q1) (nR R q1) (n+1) S (ae<|.d<|enc q1) (ae<|.d x) (ae<|.d<|eU q1) s2 (J.step c) za e2;refine#[z3,z4,z5,?_];rw[aL,aL,iG g1<|VB J za c t x,ih,show pre h ps K R (q1::gs)=pre h ps (dq ps K R q1) (dz ps K R q1) gs from if_pos t,(gx c).1,(gx c).2]
      .refine#[ae<|.d<|enc q1,ae<|.d x,ae<|.d<|eU q1,?_];have bk:kJ [x0,xN h,xB bx.length,ae<|.d<|enc q1,ae<|.d x,ae<|.d<|eU q1] (bx++[.aB<|a7 R])=.bk [x0,xN h,xB bx.length,ae<|.d<|enc q1,ae<|.d x,ae<|.d<|eU q1] (bx++[.aB<|a7 R]):=VA<|(iV<|f7<|fE (r:=.old<|.bl ah) (Vu q1 zc) zc (by simp[nL];lia)).trans zc;rw[aL,aL,Vz g1 bk,show pre h ps K R (q1::gs)=(K,R) from if_neg t]
   .rw[show taken ps K R (g::gs)=taken ps K R gs from if_neg c]at e;let#[z3,z4,z5,ih]:=ay K R n S y3 y4 y5 s2 J za e;refine#[z3,z4,z5,ih.trans ?_];by_cases t:aV g<=h
    .rw[show pre h ps K R (g::gs)=pre h ps (dq ps K R g) (dz ps K R g) gs from if_pos t,(iz c).1,(iz c).2]
    .rw[show pre h ps K R (g::gs)=(K,R) from if_neg t,DS λg' m=>by have:=s1 g' m;lia]
end
theorem W4 {i k:Nat}{l:List (Key×D)}(h:env[k]?=ae (xB i)) (hb:bx[i]?=ae (.aB l)):sR k env bx=.val (.d<|.aB l) (bx.set i .dead):=by
 unfold sR;simp[h,hb]
theorem GV {h:Int}{S:List (Pg×D)}(s:tJ qs) (hl:qs.length<=16) (e:S.map (·.1)=taken ps [] [] qs) :
 gQ [.d<|.lst<|S.map tK,.d<|.int h] bx=.val (.d<|.aB<|a7 (pre h ps [] [] qs).2) bx:=by
 let#[z3,z4,z5,f]:=RG qs [] [] 0 S ag ag ag s Ks za e;have s1:fF (p6 ah []) (fe 2) [ae<|.d<|.lst<|S.map tK,xN h,ag,ag,ag,ag] bx=.nx [ae<|.d<|.lst<|S.map tK,xN h,xB bx.length,ag,ag,ag] (bx++[.aB<|a7 []]):=by
  have:p6 ah [] [ae<|.d<|.lst<|S.map tK,xN h,ag,ag,ag,ag] bx=.val (.b bx.length) (bx++[.aB<|a7 []]):=rfl;show gu this
 have b:lJ [ae<|.d<|.lst<|S.map tK,xN h,ag,ag,ag,ag] bx=.rt (.d<|.aB<|a7 (pre h ps [] [] qs).2) ((bx++[Bx.aB<|a7 (pre h ps [] [] qs).2]).set bx.length .dead):=
  (fv s1).trans ((fv<|(iW<|gf zc).trans f).trans<|fZ<|W4 zc zj)
 refine(lP b).trans ?_;simp
theorem ajo:∀ (T:List<|Pg×Str×D×D) (w0 w1 w2 w3:Option W) (acc:List D),acc.length+T.length<=1000 ->
 bK g4 (dB<|d2 af aY (dV 1)<|dC<|.str "takes") (fO<|fc (dV 0)<|fc (dV 2)<|fc (dV 3) ff) ((T.map tq).map W.d) [w0,w1,w2,w3] B acc=.val (acc++(T.filter λx=>decide (x.2.1=("takes":Str))).map λx=>.tup [enc x.1,x.2.2.1,x.2.2.2]) B:=by
 intro l_;induction l_ with
 |nil=>(intro _ _ _ _ acc _;simp[bK])
 |cons x T ay=>
   intro w0 w1 w2 w3 acc hl;have z:sizeLine=16777216:=bf;rw[bz]at hl;have e0:g4 (W.d<|tq x) [w0,w1,w2,w3] B=ae ([ae _,ae _,ae _,ae _],B):=rfl;have t:dB (d2 af aY (dV 1)<|dC<|.str "takes") [ae<|.d<|enc x.1,ae<|.d<|.str x.2.1,ae<|.d x.2.2.1,ae<|.d x.2.2.2] B=.val (decide (x.2.1="takes")) B:=f7<|fE zc zc<|eq_str _ _;have e1:fO (fc (dV 0)<|fc (dV 2)<|fc (dV 3) ff) [ae<|.d<|enc x.1,ae<|.d<|.str x.2.1,ae<|.d x.2.2.1,ae<|.d x.2.2.2] B=.val (.d<|.tup [enc x.1,x.2.2.1,x.2.2.2]) B:=gm [enc x.1,x.2.2.1,x.2.2.2] zc zg;by_cases c:x.2.1=("takes")
   .have ih:=ay (ae<|.d<|enc x.1) (ae<|.d<|.str x.2.1) (ae<|.d x.2.2.1) (ae<|.d x.2.2.2) (acc++[.tup [enc x.1,x.2.2.1,x.2.2.2]]) zg;rw[decide_eq_true c]at t;erw[aL,bK,e0,t,oK,e1];rw[if_pos za,ih,ua (by simpa using c)];simp
   .rw[decide_eq_false c]at t;erw[aL,bK,e0,t,oK];rw[(ay (ae<|.d<|enc x.1) (ae<|.d<|.str x.2.1) (ae<|.d x.2.2.1) (ae<|.d x.2.2.2) acc za),tZ (by simpa using c)]
end cn
namespace aS
noncomputable def sm (f:Int->Int) (a:Int):Nat->Int
 |0=>0
 |n+1=>sm f a n+f (a+n)
theorem FP (f:Int->Int) (a:Int) (m:Nat):∀ n,sm f a (m+n)=sm f a m+sm f (a+m) n
 |0=>by simp[sm]
 | n+1=>by
   change sm f a (m+n)+f (a+((m+n)))=sm f a m+(sm f _ n+f _);rw[FP f a m n,show a+((m+n))=a+m+n by lia];lia
theorem oo {f:Int->Int}{a:Int}:∀ {n:Nat},(∀ h,a<=h->h<a+n->f h=c)->sm f a n=c*n:=by
 intro l_;induction l_ with
 |zero=>(intro _;simp[sm])
 |succ n ay=>
   intro h;change sm f a n+f _=_;rw[ay λx h1 h2=>h x h1 za,h _ za za,Int.natCast_succ,ach,HN]
theorem GW {f:Int->Int}{a:Int}(p:∀ h,0<=f h) (m:Nat):∀ n,sm f a m<=sm f a (m+n)
 |0=>HP _
 |n+1=>by have:=GW p m n (a:=a);have:=p<|a+((m+n));change _<=sm f a (m+n)+f (a+((m+n)));lia
theorem W5 {f:Int->Int}{a:Int}(p:∀ h,0<=f h) {m:Nat}(h:m<=n):sm f a m<=sm f a n:=by
 let#[k,rfl]:=Nat.exists_eq_add_of_le h;show GW p m k
noncomputable abbrev Sx:=Int×Option Int×Int
noncomputable def yn (f:Int->Int):List Int->List Sx
 |[]=>[]
 |[b]=>[(b,ag,f b)]
 |b::c::r=>(b,ae c,f b)::yn f (c::r)
noncomputable def Ku (f:Int->Int):List Int->zk
 |[]=>True
 |[b]=>∀ h,b<=h->f h=f b
 |b::c::r=>b<c /\ (∀ h,b<=h->h<c->f h=f b) /\ Ku f (c::r)
noncomputable def oS (h:Int):Option Int->Int
 |none=>h
 |some e=>min e h
def Kv (h:Int):Int->List Sx->Int
 |r,[]=>r
 |r,q::t=>Kv h (r+q.2.2*max 0 (oS h q.2.1-q.1)) t
theorem DU {f:Int->Int}{h:Int}:∀ {r:List Int}{b x:Int},Ku f (b::r)->Kv h x (yn f (b::r))=x+sm f b (h-b).toNat
 | [],b,x,c=>by
   change x+f b*max 0 (h-b)=_;rw[oo λy h1 _=>c y h1];congr 1;congr 1;lia
 | c::r,b,x,⟨l,k,t⟩=>by
   change Kv h (x+f b*max 0 (min c h-b)) _=_;rw[DU t];by_cases q:h<=c
   .rw[show (h-c).toNat=0 by lia,show min c h=h by lia,oo λy h1 h2=>k y h1 za];change _+(0)=_;rw[show max 0 (h-b)=(((h-b).toNat)) by lia];lia
   .rw[show (h-b).toNat=(c-b).toNat+(h-c).toNat by lia,FP,oo λy h1 h2=>k y h1 za,show min c h=c by lia,show max 0 (c-b)=(((c-b).toNat)) by lia,show b+(((c-b).toNat))=c by lia];lia
open L2 L2.DL K2 aH cn
noncomputable def vo:Pg->List Int
 |.aO _ _ _ r _ _=>[r]
 |.to _ _ r=>[r]
 |.out ..=>[]
def nD (R:Al) (g:Pg):Al:=(vo g++(look R<|a8 g).toList).map λr=>(aV g,r)
def ops (ps:Al):Al->Al->List Pg->Al
 |_,_,[]=>[]
 |K,R,g::gs=>if word ps K R g="takes" then nD R g++ops ps (stK K g) (nR R g) gs else ops ps K R gs
theorem Bh {ps:Al}{q:Int×Int}:∀ {gs:List Pg}{K R:Al},q∈ops ps K R gs->∃ g∈taken ps K R gs,aV g=q.1:=by
 intro l_;induction l_ with
 |nil=>(intro _ _ m;show nomatch m)
 |cons g gs ay=>
   intro K R m;unfold ops at m;unfold taken;split at m
   .ext c;rw[if_pos c];rcases List.mem_append.mp m with m|m
    .let#[r,_,rfl]:=bp.mp m;show#[g,bD ..,rfl]
    .let#[x,mx,e]:=ay m;show#[x,bE _ mx,e]
   .ext c;rw[if_neg c];show ay m
theorem FQ {ps:Al}{b h:Int}(hb:b<=h):∀ {gs:List Pg}{K R:Al},tJ gs->(∀ g∈taken ps K R gs,¬ (b<aV g /\ aV g<=h))->pre h ps K R gs=pre b ps K R gs:=by
 intro l_;induction l_ with
 |nil=>(intro _ _ _ _;show rfl)
 |cons g gs ay=>
   intro K R s t;have s2:=(kO.mp s).2;unfold pre;by_cases c:word ps K R g="takes"
   .unfold taken at t;rw[if_pos c]at t;have tg:=t g<|bD ..;rw[(gx c).1,(gx c).2];by_cases q:aV g<=b
    .rw[if_pos q,if_pos za,(ay s2 λx m=>t x<|bE _ m)]
    .rw[if_neg q,if_neg za]
   .unfold taken at t;rw[if_neg c]at t;have ih:=ay s2 t;rw[(iz c).1,(iz c).2];by_cases q:aV g<=b
    .rw[if_pos q,if_pos za,ih]
    .rw[if_neg q];by_cases q2:aV g<=h
     .rw[if_pos q2,ih];show DS λx m=>by have:=(kO.mp s).1 x m;lia
     .rw[if_neg q2]
theorem RH {b h:Int}(hc:c<=3) (hh:1<=hold) (hb:b<=h):∀ {ps:Al},(∀ p∈ps,∀ x∈[p.1,p.2,p.1+1*hold,p.1+2*hold,p.1+3*hold],¬ (b<x /\ x<=h))->cT c hold h ps=cT c hold b ps:=by
 intro l_;induction l_ with
 |nil=>show λ_=>rfl
 |cons p ps ay=>
   intro t;have tp:=t p<|bD ..;simp[bw,forall_eq_or_imp]at tp;unfold cT;by_cases q:p.1<=b /\ b<p.2
   .rw[if_pos q,if_pos za];have eb:=aci (b-p.1) hold;have b1:=Xx (b-p.1) (show 0<hold by lia);have eh:=aci (h-p.1) hold;have h0:=ace (h-p.1) (show hold≠0 by lia);have h1:=Xx (h-p.1) (show 0<hold by lia);have le:(b-p.1) / hold<=(h-p.1) / hold:=Int.ediv_le_ediv za za;have nn:0<=(b-p.1) / hold:=acf za za;generalize (b-p.1) / hold=u at *;generalize (h-p.1) / hold=v at *;by_cases u3:3<=u
    .rw[show max 0 (c-v)=0 by lia,show max 0 (c-u)=0 by lia]
    .have:v=u:=by
      rcases Int.lt_or_le u v with lt|ge
      .have m1:hold*(u+1)<=hold*v:=Int.mul_le_mul_of_nonneg_left za za;rw[ach,HN]at m1;have:u=0 \/ u=1 \/ u=2:=by lia
       rcases this with rfl|rfl|rfl<;>lia
      .lia
     rw[this]
   .rw[if_neg q,if_neg za,(ay λx m=>t x<|bE _ m)]
def EV (rl:List Int) (hold:Int) (outs:Al) (rt:List Int) (D:Al) (h:Int):Option Int->Int
 |none=>0
 |some r=>rt.getD (max 0<|cT (rl.getD r.toNat 0) hold h outs-if (h,r)∈D then 1 else 0).toNat 0
abbrev kJ (ps:Al) (qs:List Pg) (l h:Int):Option Int:=look (pre h ps [] [] qs).2 l
abbrev dh (rl:List Int) (hold:Int) (outs:Al) (rt:List Int) (ps:Al) (qs:List Pg) (l h:Int):Int:=EV rl hold outs rt (ops ps [] [] qs) h<|kJ ps qs l h
abbrev chg (hold:Int) (outs:Al) (tk:List Pg):List Int:=(outs.map λp=>[p.1,p.2,p.1+1*hold,p.1+2*hold,p.1+3*hold]).flatten++(tk.map λg=>[aV g,aV g+1]).flatten
theorem RI {outs:Al}{rt:List Int}{ps:Al}{l:Int}(s:tJ qs) (hr:∀ c∈rl,c<=3) (hh:1<=hold) {b h:Int}(hb:b<=h)
 (t:∀ x∈chg hold outs (taken ps [] [] qs),¬ (b<x /\ x<=h)) :
 dh rl hold outs rt ps qs l h=dh rl hold outs rt ps qs l b:=by
 have t2:∀ g∈taken ps [] [] qs,¬ (b<aV g /\ aV g<=h) /\ ¬ (b<aV g+1 /\ aV g+1<=h):=λg m=>
  #[t _<|hZ _ (List.mem_flatten.mpr #[_,bp.mpr #[g,m,rfl],by simp]),t _<|hZ _ (List.mem_flatten.mpr #[_,bp.mpr #[g,m,rfl],by simp])]
 rcases Int.lt_or_eq_of_le hb with lt|rfl
 .unfold dh kJ;rw[FQ hb s λg m=>(t2 g m).1];cases look (pre b ps [] [] qs).2 l with
  |none=>rfl
  |some r=>
    have c3:rl.getD r.toNat 0<=3:=by
     rw[ub];cases q:rl[r.toNat]? with
     |none=>simp
     |some v=>show hr v<|qm q
    erw[EV];rw[RH c3 hh hb λp m x mx=>t x<|qP _<|List.mem_flatten.mpr #[_,bp.mpr #[p,m,rfl],mx],if_neg λm=>?_,if_neg λm=>?_]
    .let#[g,mg,e]:=Bh m;have:=(t2 g mg).2;lia
    .let#[g,mg,e]:=Bh m;have:=(t2 g mg).1;lia
 .rfl
theorem Nu {f:Int->Int}{C:List Int}(k:∀ b h,b<=h->(∀ x∈C,¬ (b<x /\ x<=h))->f h=f b):∀ {L:List Int},L.Pairwise (·<·)->(∀ x∈C,∀ b,L.head?=ae b->b<x->x∈L)->Ku f L
 |[],_,_=>True.intro
 | [b],_,t=>λh hb=>k b h hb λx m q=>by
   have:=t x m b zc q.1;cases kN.mp this;lia
 | b::c::r,s,t=>by
   have s1:=kO.mp s;have lt:=s1.1 c<|bD ..;refine#[lt,λh h1 h2=>k b h h1 λx m q=>?_,Nu k s1.2 λx m b' e q=>?_]
   .have:=t x m b zc q.1;rcases bw.mp this with rfl|this
    .lia
    .rcases bw.mp this with rfl|this
     .lia
     .have:=(kO.mp s1.2).1 x this;lia
   .cases e;have:=t x m b zc za;rcases bw.mp this with rfl|this
    .lia
    .show this
open K1
abbrev EW (R:Al) (g:Pg):D:=((look R<|a8 g).map D.int).getD .non
def qb (ps:Al):Al->Al->List Pg->List (Pg×Str×D×D)
 |_,_,[]=>[]
 |K,R,g::gs=>if word ps K R g="takes" then (g,word ps K R g,EW R g,eU g)::qb ps (stK K g) (nR R g) gs else (g,word ps K R g,.non,.non)::qb ps K R gs
def rN (ps:Al):Al->Al->List Pg->List (Pg×D)
 |_,_,[]=>[]
 |K,R,g::gs=>if word ps K R g="takes" then (g,EW R g)::rN ps (stK K g) (nR R g) gs else rN ps K R gs
theorem B6 {ps:Al}:∀ {gs:List Pg}{K R:Al},(rN ps K R gs).map (·.1)=taken ps K R gs:=by
 intro l_;induction l_ with
 |nil=>(intro _ _;show rfl)
 |cons g gs ay=>
   intro K R;unfold rN taken;split
   .rw[aL,ay]
   .show ay
theorem RJ {ps:Al}:∀ {gs:List Pg}{K R:Al},(qb ps K R gs).length=gs.length:=by
 intro l_;induction l_ with
 |nil=>(intro _ _;show rfl)
 |cons g gs ay=>
   intro K R;unfold qb;split<;>rw[bz,ay,bz]
theorem RK {ps:Al}:∀ {gs:List Pg}{K R:Al},((qb ps K R gs).filter λx=>decide (x.2.1=("takes":Str))).map (λx=>D.tup [enc x.1,x.2.2.1,x.2.2.2])=(rN ps K R gs).map tK:=by
 intro l_;induction l_ with
 |nil=>(intro _ _;show rfl)
 |cons g gs ay=>
   intro K R;unfold qb rN;by_cases c:word ps K R g="takes"
   .rw[if_pos c,if_pos c,ua (by simpa using c),aL,aL,ay]
   .rw[if_neg c,if_neg c,tZ (by simpa using c),ay]
section
variable {P:D} 
theorem Lc (h:Hs rs ks ps hd):∀ (gs:List Pg) (T:List<|Pg×Str×D×D) (K R:Al) (n:Nat) (x5 x6 x7:Option W),dn K R n->n+gs.length<=100->T.length+gs.length<=100 ->
 ∃ K' R' y5 y6 y7,bX (fe 5) rB ((gs.map enc).map W.d) (rE zb P bx.length x5 x6 x7) (Bk bx T K R)=.nx (rE zb P bx.length y5 y6 y7) (Bk bx (T++qb ps K R gs) K' R'):=by
 intro l_;induction l_ with
 |nil=>show λT K R n x5 x6 x7 _ _ _=>#[K,R,x5,x6,x7,by simp[bX,qb]]
 |cons g gs ay=>
   intro T K R n x5 x6 x7 J hn hT;rw[bz]at hn hT;have g1:fe 5 _ (rE _ P bx.length x5 x6 x7) _=ae (rE zb P bx.length (ae zG) x6 x7,Bk bx T K R):=rfl;unfold qb;by_cases c:word ps K R g="takes"
   .let#[K',R',y5,y6,y7,e2]:=ay (T++[(g,word ps K R g,EW R g,eU g)]) _ _ _ _ _ _ (J.step c) za zg;refine#[K',R',y5,y6,y7,?_];rw[if_pos c,aL,aL,iG g1<|Vr (P:=P) (bx:=bx) (T:=T) h J za za g x6 x7 c,e2,pO];rfl
   .let#[K',R',y5,y6,y7,e2]:=ay (T++[(g,word ps K R g,.non,.non)]) K R n (ae zG) (xN<|a8 g) (ae<|.d<|.str<|word ps K R g) J za zg;refine#[K',R',y5,y6,y7,?_];rw[if_neg c,aL,aL,Vp g1<|WZ (P:=P) (bx:=bx) h J za za (T:=T) g x6 x7 c,e2,pO];rfl
theorem VC (h:Hs rs ks ps hd) (hl:qs.length<=16) (so:dW [.lst<|gs.map enc]=ae (.lst<|qs.map enc)) :
 aH.Ct [.d zb,.d zm] bx=.val (.d<|.lst<|(qb ps [] [] qs).map tq) bx:=by
 let#[K',R',y5,y6,y7,e]:=Lc h qs [] [] [] 0 ag ag ag Ks za zg;have s2:fF (p6 ah []) (fe 3) [ae<|.d zb,ae<|.d zm,xB bx.length,ag,ag,ag,ag,ag] (bx++[.lst []])=.nx [ae<|.d zb,ae<|.d zm,xB bx.length,xB<|bx.length+1,ag,ag,ag,ag] (bx++[.lst [],.aB []]):=by
  have:p6 ah [] [ae<|.d zb,ae<|.d zm,xB bx.length,ag,ag,ag,ag,ag] (bx++[.lst []])=.val (.b<|bx.length+1) (bx++[.lst [],.aB []]):=by
   simp[p6,cj]
  show gu this
 have s3:fF (p6 ah []) (fe 4) [ae<|.d zb,ae<|.d zm,xB bx.length,xB<|bx.length+1,ag,ag,ag,ag] (bx++[.lst [],.aB []])=.nx (rE zb zm bx.length ag ag ag) (Bk bx [] [] []):=by
  have:p6 ah [] [ae<|.d zb,ae<|.d zm,xB bx.length,xB<|bx.length+1,ag,ag,ag,ag] (bx++[.lst [],.aB []])=.val (.b<|bx.length+2) (Bk bx [] [] []):=by
   simp[p6,cj,Bk,bH]
  show gu this
 have b:MN [ae<|.d zb,ae<|.d zm,ag,ag,ag,ag,ag,ag] bx=.rt (.d<|.lst<|(qb ps [] [] qs).map tq) ((Bk bx (qb ps [] [] qs) K' R').set bx.length .dead):=by
  refine(fv<|gu<|oO [] zc<|eC _).trans ((fv s2).trans<|(fv s3).trans<|(fv<|(iW<|gf<|iF (r:=.lst<|qs.map enc) [.lst<|gs.map enc] (fg zc zc) so).trans e).trans ?_);rw[nW];show fZ<|SV zc ER
 refine(lP (ws:=[.d zb,.d zm]) b).trans ?_;simp[Bk,abP]
theorem RL (H:Hs rs ks ps hd) (hl:qs.length<=16) (so:dW [.lst<|gs.map enc]=ae (.lst<|qs.map enc)) :
 cn.gq [.d zb,.d zm] bx=.val (.d<|.lst<|(rN ps [] [] qs).map tK) bx:=by
 have c:=ajo (B:=bx) (qb ps [] [] qs) ag ag ag ag [] (by rw[RJ];simp;lia);rw[RK,nW]at c;show fY<|fZ<|gp (gf<|fG zc zc<|VC H hl so) zc c
end
def stC (ca:List<|Int×Pg):Pg->List (Int×Pg)
 |.aO h l k r p w=>put ca l<|.aO h l k r p w
 |_=>ca
def tL (ps K R:Al) (ca:List<|Int×Pg) (g:Pg):List (Int×Pg):=if word ps K R g="takes" then stC ca g else ca
def EX (ps K R:Al) (g:Pg):Al:=if word ps K R g="takes" then nD R g else []
theorem oT {ps K R:Al}{g:Pg}(h:¬ word ps K R g="takes"):tL ps K R ca g=ca /\ EX ps K R g=[]:=#[if_neg h,if_neg h]
theorem iP {ps K R:Al}{g:Pg}(h:word ps K R g="takes"):tL ps K R ca g=stC ca g /\ EX ps K R g=nD R g:=#[if_pos h,if_pos h]
noncomputable abbrev k2 (q:Int×Int):List Key:=[.inl q.1,.inl q.2]
def rO (dr cq:List<|List Key×D) (l:Al):zk:=∀ q:Int×Int,(kI cq<|k2 q).isSome=((kI dr<|k2 q).isSome||decide (q∈l))
theorem rO.refl:rO dr dr []:=λq=>by simp
theorem rO.trans {a b c:List (List Key×D)}{l m:Al}(h:rO a b l) (k:rO b c m):rO a c (l++m):=λq=>by
 simp[k q,h q,Bool.or_assoc]
theorem Ld {k k':List Key}{d:D}:(kI (tj dr k d) k').isSome=((kI dr k').isSome||decide (k'=k)):=by
 unfold kI tj;rw[pS,pS];split
 .ext h;rw[Xh,pS,show ((λx:List Key×D=>decide _)∘λkv=>if kv.1=k then (kv.1,d) else kv)=λx=>decide _ from funext λx=>by change decide ((if x.1=k then (x.1,d) else x).1=k')=_;split<;>rfl];by_cases e:k'=k
  .subst e;have:(dr.find? λx=>decide (x.1=k')).isSome=ah:=by simpa using h
   rw[this];rfl
  .simp[e]
 .congr 1;by_cases e:k'=k
  .subst e;simp
  .simp[e,Ne.symm e]
section
variable {K R:List (Int × Int)} 
variable {go:Al} {av wd:List D}
theorem RM {th:At}{mk:DE W}{a b:Int}(e1:env[1]?=ae (ae<|.m<|ml bx.length)) (hk:∀ B,mk env B=.val (.d<|dP (a,b)) B) (hl:dr.length<=1000):∃ cq,cq.length<=dr.length+1 /\ rO dr cq [(a,b)] /\ rM (cS (dV 1) "doors") mk (dC<|.bl ah) env (Bl bx th ca go dr av wd)=.nx env (Bl bx th ca go cq av wd):=by
 have z:=bf;refine#[tj dr [.inl a,.inl b]<|.bl ah,?_,λq=>?_,?_]
 .unfold tj;split<;>simp
 .rw[Ld];congr 1;simp[Prod.ext_iff]
 .unfold rM;rw[show dC _ env _=.val _ _ from rfl,iT,Ae (by rw[gH,e1]) ajg,iT,hk,iT];change (match (Bl bx th ca go dr av wd)[bx.length+3]?,ve _ with|some (.dT l),ae k=>if l.length<sizeLine then OS.nx env _ else .bad|_,_=>.bad)=_;rw[aeV];show(if_pos za).trans (by rw[ZV])
theorem ajp (h:Hs rs ks ps hd) (J:dn K R n) (hn:n<=100) {m:Nat}(Q:Lb K ca go dr m) (hm:m<=100) (g:Pg) :
 ∃ go' cq,ig [ae<|.d zb,ae<|.m<|ml bx.length,ae zG,ag,ag,ag,ag,ag,ag] (Bl bx (br K R) ca go dr av wd)=.rt (.d<|.str<|word ps K R g) (Bl bx (br (dq ps K R g)<|dz ps K R g) (tL ps K R ca g) go' cq av wd) /\ Lb (dq ps K R g) (tL ps K R ca g) go' cq (m+1) /\ rO dr cq (EX ps K R g):=by
 have z:sizeLine=16777216:=bf;have qc:=Q.c;have qg:=Q.g;have qd:=Q.d
 let E:=λx7 x8=>oE zb bx.length g (xB bx.length) x7 x8
 let B0:=Bl bx (br K R) ca go dr av wd
 have pf:∀ {k:aA}{o:OS},k (E ag ag) B0=o->fu (fF (cH af (dV 2) cQ<|cG zq)<|fR 3<|fq (fe 3)<|fq (fe 4)<|fq (fe 5) fS) (fu (fF (cS (dV 1) "there")<|fe 6) k) [ae<|.d zb,ae<|.m<|ml bx.length,ae zG,ag,ag,ag,ag,ag,ag] B0=o:=λq=>(fv (env1:=oE zb bx.length g ag ag ag) (by cases g<;>simp[enc,dG,b9,kG,pF,DL.cutD,HT.ba,aV,cy,a8])).trans<|qS (Ae zc aeX) q
 suffices H:∀ P:zk,(∀ s:Str,word ps K R g=s->¬ s="takes"->ig [ae<|.d zb,ae<|.m<|ml bx.length,ae zG,ag,ag,ag,ag,ag,ag] B0=.rt (.d<|.str s) B0->P)->(word ps K R g="takes"->∀ go' cq,ig [ae<|.d zb,ae<|.m<|ml bx.length,ae zG,ag,ag,ag,ag,ag,ag] B0=.rt (.d<|.str "takes") (Bl bx (br (stK K g)<|nR R g) (stC ca g) go' cq av wd)->Lb (stK K g) (stC ca g) go' cq (m+1)->rO dr cq (nD R g)->P)->P from H _ (λs e d q=>by
  subst e;show#[go,dr,by rw[(iz d).1,(iz d).2,(oT d).1];show q,by rw[(iz d).1,(oT d).1];show#[Q.k,Q.i,by lia,by lia,by lia],by rw[(oT (ca:=ca) d).2];show .refl]) λe go' cq a b c=>#[go',cq,by rw[(gx e).1,(gx e).2,(iP e).1,e];show a,by rw[(gx e).1,(iP e).1];show b,by rw[(iP (ca:=ca) e).2];show c]
 intro P no ys;have tw:∀ (w:Str) (x7 x8:Option W) (B:List Bx),dB (d2 af aY (dV 4)<|dC<|.str w) (E x7 x8) B=.val (decide (cy g=w)) B:=λw x7 x8 B=>f7<|fE (r:=.old<|.bl<|decide (cy g=w)) zc zc<|eq_str _ _;have ni:=f7<|GR (e:=dP) (L:=br K R) (k:=dV 5) (m:=dV 6) (env:=E ag ag) (bx:=B0) (l:=a8 g) ah zc zc<|l8 vn;rw[Bf,pS]at ni;have g2:∀ {r0:Int}{k:aA}{o:OS},look R (a8 g)=ae r0->k (E (xN<|kk K<|a8 g)<|xN r0) B0=o->fu (fF (cW (dV 6)<|dV 5)<|fR 2<|fq (fe 7)<|fq (fe 8) fS) k (E ag ag) B0=o:=λ{r0} _ _ c q=>qG (mL (e:=dP) (L:=br K R) (l:=a8 g) (v:=(kk K<|a8 g,r0)) zc zc (l8 vn) (by rw[Bf,c];rfl)) zc q;have dk:∀ {r0:Int}{x7:Option W}{B:List Bx},fO (fc (dV 3)<|fc (dV 8) ff) (E x7<|xN r0) B=.val (.d<|dP (aV g,r0)) B:=λ{r0 _ _}=>gm [.int<|aV g,.int r0] zc zg;cases g with
 |aO h' l k r p w=>
   have t1:=f7<|GR (e:=enc) (L:=ca) (k:=dV 5) (m:=cS (dV 1) "came") (env:=E ag ag) (bx:=B0) (l:=l) af zc (Ae zc ZW)<|l8 ZR;rw[J8 Q.keys]at t1;have t2:=W1 (rs:=rs) (ks:=ks) (ps:=ps) (hd:=hd) (bx:=bx) (B:=B0) (env:=E ag ag) (mk:=d2 af ax (dV 2) zq) (mr:=d2 af ax (dV 2) zai) (k:=k) (r:=r) J hn vn zc zc zc zc;cases c:(look K l).isSome with
   |true=>show no _ (by simp[word,c,if_true]) ze (pf (gT ((iV<|tw "in" ag ag _).trans (qR (t1.trans (congrArg (O.val · B0) c)) zc))))
   |false=>
     have t1:=t1.trans (congrArg (O.val · B0) c);have hl:look K l=ag:=by cases q:look K l with|none=>rfl|some v=>rw[q]at c;cases c
     cases cc:k7 ps K R k r with
     |true=>show no "apart" (by simp[word,c,cc]) ze (pf (gT ((iV<|tw "in" ag ag _).trans (qF t1 (qR (t2.trans (congrArg (O.val · B0) cc)) zc)))))
     |false=>
       have p1:=CF (e:=enc) (L:=ca) (x:=.aO h' l k r p w) (v:=dV 2) (m:=cS (dV 1) "came") (k:=dV 5) (env:=E ag ag) (B:=B0) zc (Ae zc ZW) zc ZR za;rw[ZU]at p1;have p2:=CF (e:=dP) (L:=br K R) (x:=(k,r)) (v:=fO<|fc (d2 af ax (dV 2) zq)<|fc (d2 af ax (dV 2) zai) ff) (m:=dV 6) (k:=dV 5) (env:=E ag ag) (B:=Bl bx (br K R) (put ca l zZ) go dr av wd) (gm [.int k,.int r] zc zg) zc zc vn (by unfold br;rw[aR];have:=J.lr;lia);rw[show a8 zZ=l from rfl,Ry J hl,ZT]at p2;let#[cq,ld,o1,p3]:=RM (go:=go) (ca:=put ca l zZ) (dr:=dr) (av:=av) (wd:=wd) (th:=br (put K l k)<|put R l r) (mk:=fO<|fc (dV 3)<|fc (d2 af ax (dV 2) zai) ff) (a:=h') (b:=r) (env:=E ag ag) zc (λ_=>gm [.int h',.int r] zc zg) za;refine ys (by simp[word,c,cc]) go cq (pf (gT ((iV<|tw "in" ag ag _).trans (qF t1 (qF (t2.trans (congrArg (O.val · B0) cc))<|(fv p1).trans<|(fv p2).trans<|(fv p3).trans zc))))) ?_ ?_
       .have:=oj ca l zZ;show#[by change ym (put ca l zZ)=_;rw[Vt,Q.k];rfl,λq m=>(om m).elim (λz=>by rw[z.2];rfl)<|Q.i q,by change (put ca l zZ).length<=_;lia,by lia,by lia]
       .have hR:look R l=ag:=by
         cases q:look R l with
         |none=>rfl
         |some v=>let#[x,mx,ex]:=jK q;have:=J.sub x mx;rw[ex,hl]at this;cases this
        rw[show nD R zZ=[(h',r)] by simp[nD,vo,a8,aV,hR]];show o1
 |to h' l r=>
   have ti:∀ {k:aA}{o:OS}{a:aA},k (E ag ag) B0=o->fu (aM zap a aU) k (E ag ag) B0=o:=λq=>qF ((tw "in" ag ag B0).trans (congrArg (O.val · B0)<|decide_eq_false (show ¬ ("to":Str)="in" by rw[FK];show id))) q;cases c:look R l with
   |none=>show no "none" (by erw[word,c]) ze<|pf<|ti<|qR (ni.trans (by rw[show look R (a8<|.to h' l r)=ag from c];rfl)) zc
   |some r0=>
     have ni:dB (dX ah (dV 5)<|dV 6) (E ag ag) B0=.val af B0:=ni.trans (by rw[show look R (a8<|.to h' l r)=ae r0 from c];rfl);have to:∀ {a b:aA}{x7 x8:Option W},aM (dB<|d2 af aY (dV 4)<|dC<|.str "out") a b (E x7 x8) B0=b (E x7 x8) B0:=gz ((tw "out" _ _ B0).trans (congrArg (O.val · B0)<|decide_eq_false (show ¬ ("to":Str)="out" by rw[Rr];show id)));have ts:dB (d2 af aY (dV 8)<|d2 af ax (dV 2) zq) (E (xN<|kk K l)<|xN r0) B0=.val (decide (r0=r)) B0:=
      f7 (fE (r:=.old<|.bl<|decide (r0=r)) (x:=.int r0) (y:=.int r) zc zc (by simp[aY]))
     by_cases d:r0=r
     .show no "same" (by erw[word,c,if_pos d]) ze (pf (ti (qF ni (g2 c (gT (to.trans ((iV (ts.trans (congrArg (O.val · B0)<|decide_eq_true d))).trans zc)))))))
     .have ts:=ts.trans (congrArg (O.val · B0)<|decide_eq_false d);have tc:=W2 (rs:=rs) (ks:=ks) (ps:=ps) (hd:=hd) (bx:=bx) (B:=B0) (env:=E (xN<|kk K l)<|xN r0) (mk:=dV 7) (mr:=d2 af ax (dV 2) zq) (k:=kk K l) (r:=r) (l:=l) (r0:=r0) J hn vn zc zc zc zc zc c d;cases cc:k7 ps K R (kk K l) r with
      |true=>show no "apart" (by simp[word,c,d,cc]) ze (pf (ti (qF ni (g2 c (gT (to.trans ((gz ts).trans ((iV (tc.trans (congrArg (O.val · B0) cc))).trans zc))))))))
      |false=>
        have p2:=CF (e:=dP) (L:=br K R) (x:=(kk K l,r)) (v:=fO<|fc (dV 7)<|fc (d2 af ax (dV 2) zq) ff) (m:=dV 6) (k:=dV 5) (env:=E (xN<|kk K l)<|xN r0) (B:=B0) (gm [.int<|kk K l,.int r] zc zg) zc zc vn (by unfold br;rw[aR];have:=J.lr;lia);rw[show a8 (.to h' l r)=l from rfl,GS,ZT]at p2;let#[d1,l1,o1,p3]:=RM (go:=go) (ca:=ca) (dr:=dr) (av:=av) (wd:=wd) (th:=br K<|put R l r) (mk:=fO<|fc (dV 3)<|fc (d2 af ax (dV 2) zq) ff) (a:=h') (b:=r) (env:=E (xN<|kk K l)<|xN r0) zc (λ_=>gm [.int h',.int r] zc zg) za;let#[Zg,l2,o2,p4]:=RM (go:=go) (ca:=ca) (dr:=d1) (av:=av) (wd:=wd) (th:=br K<|put R l r) (env:=E (xN<|kk K l)<|xN r0) zc (λ_=>dk) za;refine ys (by simp[word,c,d,cc]) go Zg (pf (ti (qF ni (g2 c ((fv (to.trans ((gz ts).trans ((gz (tc.trans (congrArg (O.val · B0) cc))).trans<|(fv p2).trans p3)))).trans<|(fv p4).trans zc))))) #[Q.k,Q.i,by change ca.length<=_;lia,by lia,by lia] ?_;rw[show nD R (.to h' l r)=[(h',r)]++[(h',r0)] by simp[nD,vo,a8,aV,c]];show o1.trans o2
 |out h' l=>
   have ti:∀ {k:aA}{o:OS}{a:aA},k (E ag ag) B0=o->fu (aM zap a aU) k (E ag ag) B0=o:=λq=>qF ((tw "in" ag ag B0).trans (congrArg (O.val · B0)<|decide_eq_false (show ¬ ("out":Str)="in" by rw[J7];show id))) q;cases c:look R l with
   |none=>show no "none" (by erw[word,c]) ze<|pf<|ti<|qR (ni.trans (by rw[show look R (a8<|.out h' l)=ag from c];rfl)) zc
   |some r0=>
     have p1:=Vs (e:=dP) (L:=br K R) (m:=dV 6) (k:=dV 5) (env:=E (xN<|kk K l)<|xN r0) (B:=B0) (l:=l) zc zc vn (by rw[Bf,c];rfl);rw[Rx,ZT]at p1;have p2:=CF (e:=D.int) (L:=go) (x:=h') (v:=dV 3) (m:=cS (dV 1) "gone") (k:=dV 5) (env:=E (xN<|kk K l)<|xN r0) (B:=Bl bx (br K<|hG R l) ca go dr av wd) zc (Ae zc ajf) zc ajd za;rw[show a8 (.out h' l)=l from rfl,sx]at p2;let#[d1,l1,o1,p3]:=RM (go:=put go l h') (ca:=ca) (dr:=dr) (av:=av) (wd:=wd) (th:=br K<|hG R l) (env:=E (xN<|kk K l)<|xN r0) zc (λ_=>dk) za;have:=oj go l h';refine ys (by erw[word,c]) (put go l h') d1 (pf<|ti<|qF (ni.trans (by rw[show look R (a8<|.out h' l)=ae r0 from c];rfl))<|g2 c<|(fv<|(iV<|tw "out" _ _ _).trans<|(fv<|ir p1).trans p2).trans<|(fv p3).trans zc) #[Q.k,Q.i,by change ca.length<=_;lia,by lia,by lia] ?_;rw[show nD R (.out h' l)=[(h',r0)] by simp[nD,vo,a8,aV,c]];show o1
theorem W6 (h:Hs rs ks ps hd) (J:dn K R n) (hn:n<=100) {m:Nat}(Q:Lb K ca go dr m) (hm:m<=100) (g:Pg) :
 ∃ go' cq,gG [.d zb,.m<|ml bx.length,.d<|enc g] (Bl bx (br K R) ca go dr av wd)=.val (.d<|.str<|word ps K R g) (Bl bx (br (dq ps K R g)<|dz ps K R g) (tL ps K R ca g) go' cq av wd) /\ Lb (dq ps K R g) (tL ps K R ca g) go' cq (m+1) /\ rO dr cq (EX ps K R g):=by
 let#[go',cq,e,q]:=ajp h J hn Q hm g;show#[go',cq,DC e (by rw[Nj,Nj];show aE _),q]
end
def nS (ps:Al):Al->Al->List (Int×Pg)->List Pg->List (Int×Pg)
 |_,_,ca,[]=>ca
 |K,R,ca,g::gs=>nS ps (dq ps K R g) (dz ps K R g) (tL ps K R ca g) gs
theorem Nv {ps K R:Al}{g:Pg}:ops ps K R (g::gs)=EX ps K R g++ops ps (dq ps K R g) (dz ps K R g) gs:=by
 by_cases c:word ps K R g="takes"
 .rw[(gx c).1,(gx c).2,(iP (ca:=[]) c).2];show if_pos c
 .rw[(iz c).1,(iz c).2,(oT (ca:=[]) c).2];show if_neg c
theorem FR {ps K R:Al}{g:Pg}:taken ps K R (g::gs)=(if word ps K R g="takes" then [g] else [])++taken ps (dq ps K R g) (dz ps K R g) gs:=by
 by_cases c:word ps K R g="takes"
 .rw[(gx c).1,(gx c).2,if_pos c];show if_pos c
 .rw[(iz c).1,(iz c).2,if_neg c];show if_neg c
abbrev k8 (l:Int) (g:Pg):Bool:=isIn g&&decide (a8 g=l)
theorem Nw {l l':Int}{g:Pg}(h:(ca.any λq=>decide (q.1=l))=af):((put ca l g).find? λq=>decide (q.1=l')).map (·.2)=if l=l' then ae g else (ca.find? λq=>decide (q.1=l')).map (·.2):=by
 unfold put;rw[h];erw[yH,if_false];rw[Xk];by_cases e:l=l'
 .subst e;have:ca.find? (λq=>decide (q.1=l))=ag:=by
   rw[abQ];intro q m;rw[Hn]at h;show h q m
  rw[this,if_pos rfl];simp
 .simp[e]
theorem VD {ps:Al}{l:Int}:∀ {gs:List Pg}{K R:Al}{ca:List (Int×Pg)},ca.map (·.1)=K.map (·.1)->((nS ps K R ca gs).find? λq=>decide (q.1=l)).map (·.2)=((ca.find? λq=>decide (q.1=l)).map (·.2)).or ((taken ps K R gs).find?<|k8 l):=by
 intro l_;induction l_ with
 |nil=>
   intro K R ca _;change _=Option.or _ ag;rw[Option.or_none];rfl
 |cons g gs ay=>
   intro K R ca hk;rw[FR];change ((nS ps _ _ _ gs).find? λq=>decide _).map _=_;by_cases c:word ps K R g="takes"
   .rw[if_pos c];cases g with
    |aO h' l' k r p w=>
      have nk:(look K l').isSome=af:=by
       cases q:(look K l').isSome with
       |false=>rfl
       |true=>rw[show word ps K R _="there" by simp[word,q,if_true]]at c;show absurd c ze
      have na:(K.any λq=>decide (q.1=l'))=af:=by
       cases q:K.any λq=>decide (q.1=l') with
       |false=>rfl
       |true=>
         let#[x,mx,ex]:=kC.mp q;have:=lY.mpr #[x,mx,of_decide_eq_true ex];rw[this]at nk;cases nk
      have ZZ:(ca.any λq=>decide (q.1=l'))=af:=by rw[lQ hk];show na
      rw[ay (by rw[(gx c).1,(iP c).1];show Nh hk _ _ _),(iP c).1];rw[show stC ca _=put ca l' _ from rfl,Nw ZZ,Xk];by_cases e:l'=l
      .subst e;have f0:ca.find? (λq=>decide (q.1=l'))=ag:=by
        rw[abQ];intro q m;rw[Hn]at ZZ;show ZZ q m
       rw[if_pos rfl,f0];simp[isIn,a8]
      .rw[if_neg e];simp[a8,e]
    |to h' l' r=>
      rw[ay (by rw[(gx c).1,(iP c).1];show hk),(iP c).1];rfl
    |out h' l'=>
      rw[ay (by rw[(gx c).1,(iP c).1];show hk),(iP c).1];rfl
   .rw[if_neg c,ay (by rw[(iz c).1,(oT c).1];show hk),(oT c).1];rfl
section
variable {P:D} 
theorem RN (h:Hs rs ks ps hd):∀ (gs:List Pg) (K R:Al) (ca:List<|Int×Pg) (go:Al) (dr:List<|List Key×D) (av wd:List D) (n m:Nat) (x3:Option W),dn K R n->Lb K ca go dr m->n+gs.length<=100->m+gs.length<=100->av.length+gs.length<=100->wd.length+gs.length<=100 ->
 ∃ R' go' cq y3,bX (fe 3) ajl ((gs.map enc).map W.d) [ae<|.d zb,ae<|.d P,ae<|.m<|ml bx.length,x3] (Bl bx (br K R) ca go dr av wd)=.nx [ae<|.d zb,ae<|.d P,ae<|.m<|ml bx.length,y3] (Bl bx (br (wI ps K R gs) R') (nS ps K R ca gs) go' cq (av++uI ps K R gs)<|wd++(gs.zip<|wordsOf ps K R gs).map Kt) /\ Lb (wI ps K R gs) (nS ps K R ca gs) go' cq (m+gs.length) /\ rO dr cq (ops ps K R gs):=by
 intro l_;induction l_ with
 |nil=>show λK R ca go dr av wd n m x3 _ Q _ _ _ _=>#[R,go,dr,x3,by simp[bX,uI,wI,nS],Q,.refl]
 |cons g gs ay=>
   intro K R ca go dr av wd n m x3 J Q hn hm ha hw
   let E:aQ:=[ae<|.d zb,ae<|.d P,ae<|.m<|ml bx.length,ae zG]
   have z:sizeLine=16777216:=bf;rw[bz]at hn hm ha hw;let#[Z0,Z1,e,Q1,O1]:=aS.W6 h J za Q za g;have a:=BZ (m:=cS (dV 2) "words") (k:=fO<|fc (dV 3)<|fc (fj aH.gG 3<|fc (dV 0)<|fc (dV 2)<|fc (dV 3) ff) ff) (env:=E) (bx:=Bl bx _ ca go dr av wd) (Ae zc aji) aeW (gm [enc g,.str _] (fg zc<|fg (fG zc zc e) zc) zg) aeW za;rw[aH.aeE]at a;have dc:wG af (cS (dV 2) "there") E (Bl bx (br (dq ps K R g)<|dz ps K R g) (tL ps K R ca g) Z0 Z1 av<|wd++[Kt (g,word ps K R g)])=.val (.d<|.aB<|bH dP<|br (dq ps K R g)<|dz ps K R g) (Bl bx (br (dq ps K R g)<|dz ps K R g) (tL ps K R ca g) Z0 Z1 av<|wd++[Kt (g,word ps K R g)]):=by
    unfold wG;rw[Ae rfl aeX,fT,l8 vn];rfl
   have b:=BZ (m:=cS (dV 2) "at") (k:=fO<|fc (d2 af ax (dV 3) zi)<|fc (wG af<|cS (dV 2) "there") ff) (Ae zc ajh) ZS (gm [.int<|aV g,.aB<|bH dP<|br (dq ps K R g)<|dz ps K R g] (fg (Vu g zc)<|fg dc zc) zg) ZS za;rw[aH.aje]at b;let#[R',go',cq,y3,e2,Q2,O2]:=ay (dq ps K R g) (dz ps K R g) (tL ps K R ca g) Z0 Z1 (av++[.tup [.int<|aV g,.aB<|bH dP<|br (dq ps K R g)<|dz ps K R g]]) (wd++[Kt (g,word ps K R g)]) (n+1) (m+1) (ae zG) (J.nx g) Q1 za za zg zg;refine#[R',go',cq,y3,?_,by rw[bz,show m+(gs.length+1)=m+1+gs.length by lia];show Q2,by rw[Nv];show O1.trans O2];rw[aL,aL,iG rfl<|(fv<|ir a).trans<|ir b,e2,FM,uQ,aL,pO,pO];rfl
theorem RP (h:Hs rs ks ps hd) (hl:qs.length<=16) (so:dW [.lst<|gs.map enc]=ae (.lst<|qs.map enc)) :
 ∃ th go dr,jx [.d zb,.d zm] bx=.val (.m<|ml bx.length) (Bl bx th (nS ps [] [] [] qs) go dr (uI ps [] [] qs)<|ET ps qs) /\ Lb (wI ps [] [] qs) (nS ps [] [] [] qs) go dr (0+qs.length) /\ ∀ q:Int×Int,(kI dr<|k2 q).isSome=decide (q∈ops ps [] [] qs):=by
 let#[R',go',cq,y3,e,QQ,OO]:=RN h qs [] [] [] [] [] [] [] 0 0 ag Ks #[rfl,(λ_ m=>nomatch m),aE _,aE _,aE _] za za zg zg;refine#[br (wI ps [] [] qs) R',go',cq,?_,QQ,λq=>by rw[OO q];rfl];have b0:yi [("there",1),("came",1),("gone",1),("doors",2),("at",0),("words",0)] [ae<|.d zb,ae<|.d zm,ag,ag] bx=.val (.m<|ml bx.length) (Bl bx (br [] []) [] [] [] [] []):=by
  unfold yi;rfl
 have b:mD [ae<|.d zb,ae<|.d zm,ag,ag] bx=.rt (.m<|ml bx.length) (Bl bx (br (wI ps [] [] qs) R') (nS ps [] [] [] qs) go' cq (uI ps [] [] qs)<|ET ps qs):=by
  refine(fv<|gu b0).trans ((fv<|(iW<|gf<|iF [.lst<|gs.map enc] (fg zc zc) so).trans e).trans ?_);rfl
 change pD bx.length (pC<|aP mD [ae<|.d zb,ae<|.d zm,ag,ag] bx)=_;unfold aP;rw[b];rfl
end
open dZ bG
noncomputable abbrev oI:Option Int->D
 |none=>.non
 |some r=>.int r
noncomputable def qf:Pg->Option Int
 |.aO _ _ _ r _ _=>ae r
 |.to _ _ r=>ae r
 |.out ..=>ag
theorem W7 (g:Pg):eU g=oI (qf g):=by cases g<;>rfl
theorem W8 (R:Al) (g:Pg):EW R g=oI (look R<|a8 g):=by unfold EW;cases look R _<;>rfl
theorem W9 (a b:Int):Kd (.int a) (.int b)=decide (a=b):=by rw[kK];simp[Kd,wy,sH]
theorem Ya (b:Int):Kd .non (.int b)=af:=rfl
theorem VE (r:Int) (a b:Option Int):inD af (.int r) (.tup [oI a,oI b])=ae (.old<|.bl<|decide (a=ae r \/ b=ae r)):=by
 cases a<;>cases b<;>simp[inD,kZ,nQ,W9,Ya]
abbrev kz (q:Pg×Option Int):D:=.tup [enc q.1,oI q.2,oI<|qf q.1]
def kA (ps:Al):Al->Al->List Pg->List (Pg×Option Int)
 |_,_,[]=>[]
 |K,R,g::gs=>if word ps K R g="takes" then (g,look R<|a8 g)::kA ps (stK K g) (nR R g) gs else kA ps K R gs
theorem Nx {ps:Al}:∀ {gs:List Pg}{K R:Al},(rN ps K R gs).map tK=(kA ps K R gs).map kz:=by
 intro l_;induction l_ with
 |nil=>(intro _ _;show rfl)
 |cons g gs ay=>
   intro K R;unfold rN kA;split
   .rw[aL,aL,ay];change D.tup _::_=D.tup _::_;rw[W8,W7]
   .show ay
theorem B7 {ps:Al}:∀ {gs:List Pg}{K R:Al},(kA ps K R gs).map (·.1)=taken ps K R gs:=by
 intro l_;induction l_ with
 |nil=>(intro _ _;show rfl)
 |cons g gs ay=>
   intro K R;unfold kA taken;split
   .rw[aL,ay]
   .show ay
theorem CH {ps:Al}:∀ {gs:List Pg}{K R:Al},(kA ps K R gs).length<=gs.length:=by
 intro l_;induction l_ with
 |nil=>(intro _ _;show aE _)
 |cons g gs ay=>
   intro K R;unfold kA;split
   .show abn ay
   .show Hj ay
theorem RQ {ps:Al}{h r:Int}:∀ {gs:List Pg}{K R:Al},((kA ps K R gs).any λq=>decide (aV q.1=h)&&decide (q.2=ae r \/ qf q.1=ae r))=decide ((h,r)∈ops ps K R gs):=by
 intro l_;induction l_ with
 |nil=>(intro _ _;show rfl)
 |cons g gs ay=>
   intro K R;unfold kA ops;split
   .rw[rW,ay,kK];simp[xc,aJ,decide_eq_true_eq,List.mem_append];refine or_congr ?_ Iff.rfl;unfold nD;rw[bp];constructor
    .rintro⟨rfl,e|e⟩
     .show#[r,by rw[e];simp,rfl]
     .show#[r,qP _ (by cases g<;>simp_all[qf,vo]),rfl]
    .rintro⟨x,m,e⟩;let#[rfl,rfl]:=Prod.mk.inj e;refine#[rfl,?_];rcases List.mem_append.mp m with m|m
     .show .inr (by cases g<;>simp_all[qf,vo])
     .show .inl (by simpa using m)
   .show ay
section
variable {S:List (Pg × Option Int)}
theorem EY (g:Pg) {i:Nat}(h:env[i]?=ae (ae zG)):d2 af ax (dV i) zi env B=.val (.d<|.int<|aV g) B:=
 fE (r:=.old _) (by rw[gH,h]) zc (by cases g<;>rfl)
theorem Ny (g:Pg) {i:Nat}(h:env[i]?=ae (ae zG)):d2 af ax (dV i) zA env B=.val (.d<|.int<|a8 g) B:=
 fE (r:=.old _) (by rw[gH,h]) zc (by cases g<;>rfl)
theorem Yb (g:Pg) {i:Nat}(h:env[i]?=ae (ae zG)) (w:Str):dB (d2 af aY (d2 af ax (dV i) zd)<|dC<|.str w) env B=.val (decide (cy g=w)) B:=
 f7 (fE (fE (r:=.old _) (by rw[gH,h]) zc (by cases g<;>rfl)) zc<|eq_str _ _)
theorem Nz (hl:S.length<=16) (r h:Int):jb [.d<|.lst<|S.map kz,.d<|.int r,.d<|.int h] bx=.val (.d<|.bl<|S.any λq=>decide (aV q.1=h)&&decide (q.2=ae r \/ qf q.1=ae r)) bx:=by
 have z:=bf;refine fY<|fZ<|iF (r:=.old<|.bl _) [.lst<|(S.filter λ_=>ah).map λq=>D.bl<|decide (aV q.1=h)&&decide (q.2=ae r \/ qf q.1=ae r)] (fg (gp (gf zc) zc ?_) zc) ?_
 .refine vm (J:=λenv=>∃ a b c,env=[a,b,c,xN r,xN h]) (λ_=>ah) (λq=>D.bl<|decide (aV q.1=h)&&decide (q.2=ae r \/ qf q.1=ae r)) (λq=>#[_,_,_,rfl]) S _ [] zg #[_,_,_,rfl] (λq _ env ⟨a,b,c,e⟩=>by subst e;rfl) λq _=>#[rfl,λ_=>?_];have t1:d2 af aY (d2 af ax (dV 0) zi) (dV 4) [ae<|.d<|enc q.1,ae<|.d<|oI q.2,ae<|.d<|oI<|qf q.1,xN r,xN h] bx=.val (.d<|.bl<|decide (aV q.1=h)) bx:=fE (r:=.old<|.bl<|decide (aV q.1=h)) (EY q.1 zc) zc<|rfl;cases c:decide (aV q.1=h) with
  |false=>rw[c]at t1;show Vh t1
  |true=>
    rw[c]at t1;show gU t1<|fE zc (gm [oI q.2,oI<|qf q.1] zc zg)<|VE _ _ _
 .simp[EH,B4]
theorem NA (hl:S.length<=16) (l:Int):gM [.d<|.lst<|S.map kz,.d<|.int l] bx=.val (.d (match (S.map (·.1)).find? (k8 l) with|some g=>enc g|none=>.non)) bx:=by
 have go:∀ (T:List<|Pg×Option Int) (w2 w3 w4:Option W),(fu (λenv bx=>bX (fR 3<|fq (fe 2)<|fq (fe 3)<|fq (fe 4) fS) (aM (nJ (dB<|d2 af aY (d2 af ax (dV 2) zd) zau)<|dB<|d2 af aY (d2 af ax (dV 2) zA)<|dV 1) (fJ<|dV 2) aU) ((T.map kz).map W.d) env bx)<|fJ<|dC .non) [ae<|.d<|.lst<|S.map kz,xN l,w2,w3,w4] bx=.rt (.d (match (T.map (·.1)).find? (k8 l) with|some g=>enc g|none=>.non)) bx:=by
  intro T;induction T with
  |nil=>intro w2 w3 w4;rfl
  |cons q T ih=>
    intro w2 w3 w4
    let E:aQ:=[ae<|.d<|.lst<|S.map kz,xN l,ae<|.d<|enc q.1,ae<|.d<|oI q.2,ae<|.d<|oI<|qf q.1]
    have t:nJ (dB<|d2 af aY (d2 af ax (dV 2) zd) zau) (dB<|d2 af aY (d2 af ax (dV 2) zA)<|dV 1) E bx=.val (k8 l q.1) bx:=by
     have a:=Yb q.1 (env:=E) (B:=bx) (i:=2) zc "in";have w:decide (cy q.1="in")=isIn q.1:=by cases q.1<;>rfl
     rw[w]at a;unfold k8;cases c:isIn q.1 with
     |false=>rw[c]at a;show oP a
     |true=>rw[c]at a;show oQ a<|f7<|fE (r:=.old<|.bl<|decide (a8 q.1=l)) (Ny q.1 zc) zc<|rfl
    rw[aL,aL,aL,qQ];cases c:k8 l q.1 with
    |true=>
      rw[c]at t;show gT<|MW zc<|(iV t).trans zc
    |false=>
      rw[c]at t;have e:=ih (ae<|.d<|enc q.1) (ae<|.d<|oI q.2)<|ae<|.d<|oI<|qf q.1;have bd:aM (nJ (dB<|d2 af aY (d2 af ax (dV 2) zd) zau)<|dB<|d2 af aY (d2 af ax (dV 2) zA)<|dV 1) (fJ<|dV 2) aU E bx=.nx E bx:=(gz t).trans zc;rw[lM]at e ⊢;rw[iG rfl bd];show e
 refine fY ?_;have:=go S ag ag ag;rw[lM]at this;change fu (iX (bq<|dV 0) _ _) _ _ _=_;rw[lM,iW<|gf rfl];show this
end
noncomputable abbrev vp (q:Int×List Int):D:=.tup [.int q.1,.tup<|q.2.map D.int]
structure Hk (rs ks:List D) (ps:Al) (hd:D) (rl:List Int) (hold:Int) (kl:List<|Int×List Int):zk where
 H:Hs rs ks ps hd
 er:rs=rl.map D.int
 eh:hd=.int hold
 ek:ks=kl.map vp
 r:∀ c∈rl,0<=c /\ c<=3
 h:1<=hold /\ hold<=9
 k:∀ q∈kl,1<=q.1 /\ q.1<=999 /\ q.2.length=4 /\ ∀ x∈q.2,0<=x /\ x<=9
theorem RR {d:D}(h:kind d=ah):∃ q:Int×List Int,d=vp q /\ 1<=q.1 /\ q.1<=999 /\ q.2.length=4 /\ ∀ x∈q.2,0<=x /\ x<=9:=by
 unfold kind at h;split at h
 .rw[aJ]at h;let#[_,h]:=h;split at h
  .rw[aJ]at h;let#[h1,h2]:=h;let#[i,rfl,i1,i2]:=mG h1;unfold yj at h2;split at h2
   .erw[aJ]at h2;let#[h3,h4,_]:=h2;let#[rt,rfl]:=DB h4;have n:=oN h3;rw[aR]at n;refine#[(i,rt),rfl,i1,i2,by change rt.length=4;lia,λx m=>?_];have:=cY.mp h4 _<|qT m;simpa[wi] using this
   .cases h2
  .cases h
 .cases h
theorem NB:∀ {l:List D},l.all kind=ah->∃ kl:List (Int×List Int),l=kl.map vp /\ ∀ q∈kl,1<=q.1 /\ q.1<=999 /\ q.2.length=4 /\ ∀ x∈q.2,0<=x /\ x<=9:=by
 intro l_;induction l_ with
 |nil=>show λ_=>#[[],rfl,λ_ m=>nomatch m]
 |cons d l ay=>
   intro h;rw[tX,aJ]at h;let#[q,rfl,a]:=RR h.1;let#[kl,rfl,b]:=ay h.2;show#[q::kl,rfl,λx m=>(bw.mp m).elim (λe=>e▸a)<|b x]
theorem Yc {ps:Al}(H:Hs rs ks ps hd):∃ rl hold kl,Hk rs ks ps hd rl hold kl:=by
 have h:=H.hh;simp[house,aJ]at h;let#[h1,h2,_,h4]:=h;erw[rooms,aJ]at h1;let#[rl,e1]:=DB h1.2;let#[i,e2,i1,i2]:=mG h4;erw[kinds,aJ]at h2;let#[kl,e3,k3]:=NB h2.2;refine#[rl,i,kl,H,e1,e2,e3,λc m=>?_,#[i1,i2],k3];have:=cY.mp h1.2 _ (by rw[e1];show qT m);simpa[wi] using this
section
variable {ps op:Al} 
theorem Hk.i (X:Hk rs ks ps hd rl hold kl):aeK zb rl hold:=by
 have a:=X.H.r1;have b:=X.H.r5;rw[X.er,aR]at a b;show#[#[_,_,by rw[X.er,X.eh]],X.r,#[a,b],X.h]
theorem YN {l:List Int}{i:Int}(h0:0<=i) (h1:i<l.length):ax (.tup<|l.map D.int) (.int i)=ae (.old<|.int<|l.getD i.toNat 0):=by
 have e:bF (l.map D.int) _=ae (.int<|l.getD i.toNat 0):=Ci (by rw[kL,ub,cL za];rfl);rw[show ((i.toNat))=i by lia]at e;change (bF _ i).map Res.old=_;rw[e];rfl
theorem Yd (X:Hk rs ks ps hd rl hold kl) {k:Int}(h0:0<=k) (hq:kl[k.toNat]?=ae q):ax (.tup ks) (.int k)=ae (.old<|vp q):=by
 have e:bF ks _=ae _:=Ci (by rw[X.ek,kL,hq];rfl);rw[show ((k.toNat))=k by lia]at e;change (bF ks k).map Res.old=_;rw[e];rfl
theorem Dd {e:α->D}{L:List (Int×α)}{k:DE W}{l:Int}(neg:Bool) (hk:k env bx=.val (.d<|.int l) bx) (hm:m env bx=.val (.d<|.aB<|bH e L) bx) :
 dX neg k m env bx=.val (.d (.bl (if neg then !((L.find? λq=>decide (q.1=l)).map (·.2)).isSome else ((L.find? λq=>decide (q.1=l)).map (·.2)).isSome))) bx:=by
 unfold dX;rw[hk,fT,hm,fT];change O.val _ bx=_;rw[lh,pS]
theorem Fs {e:α->D}{L:List (Int×α)}{k:DE W}{l:Int}{v:α}(hk:k env bx=.val (.d<|.int l) bx) (hm:m env bx=.val (.d<|.aB<|bH e L) bx) (hf:(L.find? λq=>decide (q.1=l)).map (·.2)=ae v):cW m k env bx=.val (.d<|e v) bx:=by
 unfold cW;rw[hm,fT,hk,fT];change (match ku _ _ with|some u=>O.val _ bx|none=>.bad)=_;rw[lh,hf];rfl
def Rk (n:Nat) (R:Al):zk:=∀ q∈R,0<=q.2 /\ q.2<(n:Int)
theorem Ye {nr nk:Nat}{ps K R:Al}{g:Pg}(ok:tH nr nk g) (h:Rk nr R):Rk nr (dz ps K R g):=by
 unfold dz;split
 .cases g with
  |aO h' l k r p w=>show λq m=>(om m).elim (λz=>by rw[z.2];show ok.2.2.2.1)<|h q
  |to h' l r=>show λq m=>(om m).elim (λz=>by rw[z.2];show ok.2.2)<|h q
  |out h' l=>show λq m=>h q (pR.mp m).1
 .show h
theorem NC {nr nk:Nat}{ps:Al}{h:Int}:∀ {gs:List Pg}{K R:Al},(∀ g∈gs,tH nr nk g)->Rk nr R->Rk nr (pre h ps K R gs).2:=by
 intro l_;induction l_ with
 |nil=>(intro _ _ _ r;show r)
 |cons g gs ay=>
   intro K R o r;unfold pre;split
   .show ay (λx m=>o x<|bE _ m)<|Ye (o g<|bD ..) r
   .show r
theorem GX {R:Al}(h:Rk n R) {l r:Int}(e:look R l=ae r):0<=r /\ r<(n:Int):=by
 unfold look at e;let#[q,e1,rfl]:=Option.map_eq_some_iff.mp e;show h q<|Hw e1
theorem ND (X:Hk rs ks ps hd rl hold kl) (s:tJ qs) (ok:∀ g∈qs,tH rs.length ks.length g) (hl:qs.length<=16) {h0 l k r p w:Int}(k0:0<=k) (hq:kl[k.toNat]?=ae q) (h:Int) :
 jc [.d zb,.d zH,.d<|.lst<|(kA ps [] [] qs).map kz,.d zac,.d<|.int h] bx=.val (.d<|.int<|dh rl hold op q.2 ps qs l h) bx:=by
 have z:sizeLine=16777216:=bf;have sl:=CH (ps:=ps) (gs:=qs) (K:=[]) (R:=[]);have rv:=cn.GV (bx:=bx) (h:=h) (S:=rN ps [] [] qs) s hl B6;rw[Nx]at rv;generalize hS:(kA ps [] [] qs)=S at rv sl;have c4:=(X.k q<|qm hq).2.2.1
 let E:=λx5 x6 x7=>([ae<|.d zb,ae<|.d zH,ae<|.d<|.lst<|S.map kz,ae<|.d zac,xN h,x5,x6,x7]:aQ)
 have t1:=Dd (bx:=bx) (k:=d2 af ax (dV 3) _) (m:=dV 5) (env:=(E (ae<|.d<|.aB<|a7 (pre h ps [] [] qs).2) ag ag)) ah (Ny _ zc) zc;have g1:=λv=>Fs (bx:=bx) (k:=d2 af ax (dV 3) _) (m:=dV 5) (env:=(E (ae<|.d<|.aB<|a7 (pre h ps [] [] qs).2) ag ag)) (v:=v) (Ny _ zc) zc;refine fY<|qS (cV rv) ?_;unfold dh kJ
 change dX ah _ _ _ _=.val (.d<|.bl<|!(look (pre h ps [] [] qs).2 l).isSome) bx at t1
 change ∀ v,look (pre h ps [] [] qs).2 l=ae v->_ at g1
 cases c:look (pre h ps [] [] qs).2 l with
 |none=>
   rw[c]at t1;show qR (f7 t1) zc
 |some r'=>
   rw[c]at t1;let#[r0,r1]:=GX (NC (h:=h) (ps:=ps) ok (K:=[]) (R:=[]) λq m=>nomatch m) c;rw[X.er,aR]at r1;refine qF (f7 t1)<|qS (g1 r' c) ?_;have cd:=Vf (bx:=bx) (hour:=h) X.i r'.toNat za op;rw[show ((r'.toNat:Nat))=r' by lia]at cd;have eg:rl[r'.toNat]'(by lia)=rl.getD r'.toNat 0:=by rw[ub,cL za];rfl
   rw[eg]at cd;have rb:=X.r (rl.getD r'.toNat 0) (by rw[<-eg];show nG _);have lo:=Bb (hold:=hold) (hour:=h) rb.1 op;have hi:=DH (hour:=h) rb.1 (show 0<hold by have:=X.h;lia) op;refine qS (cV cd) ?_;change fu _ _ (E (ae<|.d<|.aB<|a7 (pre h ps [] [] qs).2) (xN r')<|xN<|cT (rl.getD r'.toNat 0) hold h op) bx=.rt (.d<|.int<|q.2.getD (max 0<|cT (rl.getD r'.toNat 0) hold h op-if (h,r')∈ops ps [] [] qs then 1 else 0).toNat 0) bx;generalize cT (rl.getD r'.toNat 0) hold h op=cc at *;have o:=Nz (bx:=bx) (S:=S) za r' h;rw[<-hS,RQ,hS]at o;have t2:dB (fj aS.jb 3<|fc (dV 2)<|fc (dV 6) zar) (E (ae<|.d<|.aB<|a7 (pre h ps [] [] qs).2) (xN r')<|xN cc) bx=.val (decide ((h,r')∈ops ps [] [] qs)) bx:=f7<|cV o;have fin:∀ x:Int,0<=x->x<=3->fJ (d2 af ax (d2 af ax (d2 af ax (d2 af ax (dV 0) zd)<|d2 af ax (dV 3) zq) zd)<|dV 7) (E (ae<|.d<|.aB<|a7 (pre h ps [] [] qs).2) (xN r')<|xN x) bx=.rt (.d<|.int<|q.2.getD x.toNat 0) bx:=λx x0 x3=>
    fZ (fE (x:=.tup<|q.2.map D.int) (y:=.int x) (r:=.old _) (fE (x:=vp q) (y:=.int 1) (r:=.old<|.tup<|q.2.map D.int) (fE (x:=.tup ks) (y:=.int k) (r:=.old<|vp q) (fE (x:=hs rs ks ps hd) (y:=.int 1) (r:=.old<|.tup ks) zc zc zc) (fE (x:=enc zag) (y:=.int 3) (r:=.old<|.int k) zc zc zc)<|Yd X k0 hq) zc zc) zc<|YN x0 za)
   by_cases d:(h,r')∈ops ps [] [] qs
   .rw[decide_eq_true d]at t2;rw[if_pos d];show(fv<|(iV t2).trans<|gu<|iF (r:=.old<|.int<|max 0<|cc-1) [.int 0,.int<|cc-1] (fg zc<|fg (fE (x:=.int cc) (y:=.int 1) (r:=.old<|.int<|cc-1) zc zc zc) zc)<|M5 _).trans (fin (max 0<|cc-1) za za)
   .rw[decide_eq_false d]at t2;rw[if_neg d];rw[acj,show max 0 cc=cc by lia];show qF t2<|fin cc lo za
end
end aS
namespace pK
open L2 L2.DL bG dZ
noncomputable def dd (l:List Int):List Int:=l.foldl nj []
theorem NE (a:List Int) (i x:Int):x∈nj a i ↔ x∈a \/ x=i:=by
 unfold nj;split
 .ext h;let#[y,m,e]:=kC.mp h;have e':y=i:=by simpa using e
  subst e';show#[.inl,λz=>z.elim id λz=>z▸m]
 .simp
theorem FS {a:List Int}(h:a.Nodup) (i:Int):(nj a i).Nodup:=by
 unfold nj;split
 .show h
 .ext q;rw[uR];refine#[h,by simp,λx hx y hy e=>q ?_];cases kN.mp hy;subst e;show kC.mpr #[x,hx,by simp]
theorem NG (a:List Int) (i:Int):(nj a i).length<=a.length+1:=by
 unfold nj;split<;>simp
theorem NH (x:Int):∀ (l a:List Int),x∈l.foldl nj a ↔ x∈a \/ x∈l:=by
 intro l_;induction l_ with
 |nil=>(intro a;simp)
 |cons i l ay=>(intro a;rw[Xb,ay,NE,bw];show or_assoc)
theorem Bi:∀ (l:List Int) {a:List Int},a.Nodup->(l.foldl nj a).Nodup
 |[],_,h=>h
 |i::l,_,h=>Bi l<|FS h i
theorem Bj:∀ (l a:List Int),(l.foldl nj a).length<=a.length+l.length:=by
 intro l_;induction l_ with
 |nil=>(intro a;simp)
 |cons i l ay=>
   intro a;have h1:=ay<|nj a i;have h2:=NG a i;rw[Xb,bz];lia
theorem NI {x:Int}{l:List Int}:x∈dd l ↔ x∈l:=by rw[dd,NH];simp
theorem NJ (l:List Int):(dd l).Nodup:=Bi l abC
theorem NK (l:List Int):(dd l).length<=l.length:=by have:=Bj l [];rw[dd];simpa using this
theorem ji (l:List Int):HT.dist l=dd l:=by
 unfold HT.dist firstMet dd;congr 1;apply xi;intro j;by_cases h:j<l.length
 .simp[h]
 .simp[h]
theorem Le {x:Int}{l:List Int}:x∈sortI l ↔ x∈l:=(f9 l).mem_iff
theorem DV {l:List Int}(h:l.Nodup):(sortI l).Nodup:=(f9 l).nodup_iff.mpr h
end pK
namespace aS
open L2 L2.DL K1 K2 dZ bG aH cn
noncomputable abbrev wJ (hold:Int) (p:Int×Int):List Int:=[p.1,p.2,p.1+1*hold,p.1+2*hold,p.1+3*hold]
section
variable {ps op:Al} 
theorem NL {k:DE W}{i:Nat}{l r:List D}(h1:m env B=.val (.b i) B) (hb:B[i]?=ae (.lst l)) (h2:k env B=.val (.d<|.lst r) B) (hl:l.length+r.length<=sizeLine):rK m k env B=.val (.d .non) (B.set i<|.lst<|l++r):=by
 unfold rK;rw[h1,fT];erw[hb,h2,fT];show if_pos hl
theorem Kw {x:Bx}:(bx++[x])[bx.length]?=ae x:=by simp
theorem Z2 {x y:Bx}:(bx++[x]).set bx.length y=bx++[y]:=by simp
abbrev ajq:aA:=(fu (gj<|rK (dV 2)<|gN af<|fc (dV 3) zar)<|gj<|rK (dV 2)<|fL af [ag,ae 0,ae 3] (sN<|fc zd<|fc (d2 af fK zq zd) ff) (fe 0) fM<|d2 af fK (dV 2)<|d2 af ck (dV 0)<|d2 af ax (dV 1) zq)
theorem RS (X:Hk rs ks ps hd rl hold kl) {o w2:Option W}{b e:Int}:fL af [ag,ae 0,ae 3] (sN<|fc zd<|fc (d2 af fK zq zd) ff) (fe 0) fM (d2 af fK (dV 2)<|d2 af ck (dV 0)<|d2 af ax (dV 1) zq) [ae<|.d zb,o,w2,xN b,xN e] B=.val (.d<|.lst<|[b+1*hold,b+2*hold,b+3*hold].map D.int) B:=by
 have z:=bf;have eh:=X.eh;subst eh;refine gp (FE<|fg zc<|fg (fE (r:=.old _) zc zc zc) zc) zc ?_;refine(vm (J:=λenv=>∃ a,env=[a,ae _,ae _]) _ (λi:Int=>D.int<|b+i*hold) (λ_=>#[_,rfl]) [1,2,3] _ [] zg #[_,rfl] (λi _ env ⟨a,e⟩=>by subst e;rfl) λi m=>#[rfl,λ_=>?_]).trans ?_
 .refine fE (r:=.old _) zc (fE zc (fE zc zc zc)<|if_pos<|.inr ?_) zc;have:=X.h;lia
 .rfl
theorem RT (X:Hk rs ks ps hd rl hold kl) (o:Option W):∀ (l:Al) (acc:List Int) (w3 w4:Option W),acc.length+l.length*5<=1000->∃ y3 y4,
 bX (fR 2<|fq (fe 3)<|fq (fe 4) fS) ajq ((l.map dP).map W.d) [ae<|.d zb,o,xB bx.length,w3,w4] (bx++[.lst<|acc.map D.int])=.nx [ae<|.d zb,o,xB bx.length,y3,y4] (bx++[.lst<|(acc++(l.map<|wJ hold).flatten).map D.int]):=by
 intro l_;induction l_ with
 |nil=>show λacc w3 w4 _=>#[w3,w4,by simp[bX]]
 |cons p l ay=>
   intro acc w3 w4 n;have z:sizeLine=16777216:=bf;rw[bz]at n;let#[y3,y4,e]:=ay (acc++wJ hold p) _ _ zg;refine#[y3,y4,?_];have e1:=NL (m:=dV 2) (k:=gN af<|fc (dV 3) zar) (env:=[ae<|.d zb,o,xB bx.length,xN p.1,xN p.2]) (B:=bx++[.lst<|acc.map D.int]) zc Kw (mH [.int p.1,.int p.2] zc zg) zg;rw[Z2]at e1;have e2:=NL (m:=dV 2) (env:=[ae<|.d zb,o,xB bx.length,xN p.1,xN p.2]) (B:=bx++[.lst<|acc.map D.int++[.int p.1,.int p.2]]) zc Kw (RS X) zg;rw[Z2]at e2;rw[aL,aL,iG rfl<|(fv<|ir e1).trans<|ir e2];have:acc.map D.int++[.int p.1,.int p.2]++[p.1+1*hold,p.1+2*hold,p.1+3*hold].map D.int=(acc++wJ hold p).map D.int:=by simp
   rw[this,e];simp
theorem RU (X:Hk rs ks ps hd rl hold kl) (ho:op.length<=4):gR [.d zb,.d zH] bx=.val (.b bx.length) (bx++[.lst<|((op.map<|wJ hold).flatten).map D.int]):=by
 let#[y3,y4,e]:=RT X _ op [] ag ag zg;have s1:fF (gN ah ff) (fe 2) [ae _,ae _,ag,ag,ag] bx=.nx [ae<|.d zb,ae<|.d zH,ae _,ag,ag] _:=gu<|oO [] zc<|eC _;have b:ip _ bx=.rt (.b bx.length) (bx++[.lst<|((op.map<|wJ hold).flatten).map D.int]):=
  (fv s1).trans ((fv<|(iW<|iO zc).trans e))
 change pD bx.length (pC<|aP ip [ae<|.d zb,ae<|.d zH,ag,ag,ag] bx)=_;unfold aP;rw[b];rfl
end
abbrev Z3 (q:Sx):D:=.tup [.int q.1,oI q.2.1,.int q.2.2]
noncomputable abbrev ends (bs:List Int):List (Option Int):=bs.tail.map ae++[ag]
theorem GY (f:Int->Int):∀ bs:List Int,yn f bs=(bs.zip<|ends bs).map λq=>(q.1,q.2,f q.1)
 |[]=>rfl
 |[b]=>rfl
 | b::c::r=>by
   change (b,ae c,f b)::yn f _=_;rw[GY f _];rfl
theorem S7:∀ (l:List Int) (r:List<|Option Int),kF (l.map D.int) (r.map oI)=((l.zip r).map λq=>D.tup [.int q.1,oI q.2]).map W.d
 |[],_=>rfl
 |_::_,[]=>rfl
 | x::l,y::r=>by
   change W.d _::kF _ _=_;rw[S7 l r];rfl
def rQ (C:List Int) (h0:Int):List Int:=(sortI<|HT.dist C).filter λh=>decide (h0<=h)
theorem DW (C:List Int) (h0:Int):(rQ C h0).Pairwise (·<·):=by
 refine List.Pairwise.filter _ ?_;show(List.pairwise_and_iff.mpr #[gJ _,(pK.DV (by rw[pK.ji];show pK.NJ C))]).imp λ{a b} h=>by lia
theorem CI {C:List Int}{h0 x:Int}:x∈rQ C h0 ↔ x∈C /\ h0<=x:=by
 unfold rQ;rw[pR,pK.Le,pK.ji,pK.NI,decide_eq_true_eq]
theorem NM {C:List Int}{h0:Int}(m:h0∈C):∃ r,rQ C h0=h0::r:=by
 have r:=DW C h0;have mh:h0∈rQ C h0:=CI.mpr #[m,HP _];cases e:rQ C h0 with
 |nil=>rw[e]at mh;cases mh
 |cons b l=>
   rw[e]at r mh;have hb:h0<=b:=(CI.mp (by rw[e];show bD ..)).2;rcases bw.mp mh with rfl|mh
   .show#[l,rfl]
   .have:=(kO.mp r).1 h0 mh;lia
section
variable {ps op:Al} 
abbrev ajr:aA:=(gj<|rK (dV 4)<|gN af<|fc (d2 af ax (dV 5) zi)<|fc (d2 af fK (d2 af ax (dV 5) zi) zd) ff)
theorem RV (x0 x1 x2 x3 x8 x9:Option W):∀ (S:List<|Pg×Option Int) (acc:List Int) (w5 w6 w7:Option W),acc.length+S.length*2<=1000->∃ y5 y6 y7,
 bX (fR 3<|fq (fe 5)<|fq (fe 6)<|fq (fe 7) fS) ajr ((S.map kz).map W.d) [x0,x1,x2,x3,xB bx.length,w5,w6,w7,x8,x9] (bx++[.lst<|acc.map D.int])=.nx [x0,x1,x2,x3,xB bx.length,y5,y6,y7,x8,x9] (bx++[.lst ((acc++((S.map (·.1)).map λg=>[aV g,aV g+1]).flatten).map D.int)]):=by
 intro l_;induction l_ with
 |nil=>show λacc w5 w6 w7 _=>#[w5,w6,w7,by simp[bX]]
 |cons q S ay=>
   intro acc w5 w6 w7 n;have z:=bf;rw[bz]at n;let#[y5,y6,y7,e]:=ay (acc++[aV q.1,aV q.1+1]) _ _ _ zg;refine#[y5,y6,y7,?_];have e1:=NL (m:=dV 4) (k:=gN af<|fc (d2 af ax (dV 5) zi)<|fc (d2 af fK (d2 af ax (dV 5) zi) zd) ff) (env:=[x0,x1,x2,x3,xB bx.length,ae<|.d<|enc q.1,ae<|.d<|oI q.2,ae<|.d<|oI<|qf q.1,x8,x9]) (B:=bx++[.lst<|acc.map D.int]) zc Kw (mH [.int<|aV q.1,.int<|aV q.1+1] (fg (EY q.1 zc)<|fg (fE (r:=.old<|.int<|aV q.1+1) (EY q.1 zc) zc zc) zc) zg) zg;rw[Z2]at e1;rw[aL,aL,iG rfl<|ir e1];have:acc.map D.int++[.int<|aV q.1,.int<|aV q.1+1]=(acc++[aV q.1,aV q.1+1]).map D.int:=by simp
   rw[this,e];simp
theorem RX {tk:List Pg}(h1:op.length<=4) (h2:tk.length<=16):(chg hold op tk).length<64:=by
 rw[cX,abR,abR,bj,bj];have a:((op.map<|List.length∘λp=>[p.1,p.2,p.1+1*hold,p.1+2*hold,p.1+3*hold])).sum=op.length*5:=by
  clear h1;induction op with
  |nil=>rfl
  |cons p l ih=>rw[aL,abS,ih,bz];change 5+_=_;lia
 have b:((tk.map<|List.length∘λg=>[aV g,aV g+1])).sum=tk.length*2:=by
  clear h2;induction tk with
  |nil=>rfl
  |cons p l ih=>rw[aL,abS,ih,bz];change 2+_=_;lia
 lia
theorem DX (X:Hk rs ks ps hd rl hold kl) (ho:op.length<=4) (s:tJ qs) (ok:∀ g∈qs,tH rs.length ks.length g) (hl:qs.length<=16) {h0 l k r p w:Int}(k0:0<=k) (hq:kl[k.toNat]?=ae q) :
 lg [.d zb,.d zH,.d<|.lst<|(kA ps [] [] qs).map kz,.d zac] bx=.val (.d<|.lst<|(yn (dh rl hold op q.2 ps qs l)<|rQ (chg hold op<|taken ps [] [] qs) h0).map Z3) bx:=by
 have z:sizeLine=16777216:=bf;have sl:=CH (ps:=ps) (gs:=qs) (K:=[]) (R:=[]);have st:=B7 (ps:=ps) (gs:=qs) (K:=[]) (R:=[]);have pv:=λB h=>ND (bx:=B) (op:=op) X s ok hl (h0:=h0) (l:=l) (r:=r) (p:=p) (w:=w) k0 hq h;generalize (kA ps [] [] qs)=S at sl st pv ⊢;have tl:(taken ps [] [] qs).length<=16:=by rw[<-st,aR];lia
 have cl:=RX (hold:=hold) ho tl;let#[y5,y6,y7,lp]:=RV (ae<|.d zb) (ae<|.d zH) (ae<|.d<|.lst<|S.map kz) (ae<|.d zac) ag ag S ((op.map<|wJ hold).flatten) ag ag ag (by
  rw[show chg hold op _=(op.map<|wJ hold).flatten++((taken ps [] [] qs).map λg=>[aV g,aV g+1]).flatten from rfl,cX]at cl;lia)
 rw[st]at lp
 change _=OS.nx _ (bx++[.lst<|(chg hold op<|taken ps [] [] qs).map D.int]) at lp
 generalize chg hold op (taken ps [] [] qs)=C at *;have dl:=pK.NK C;have so:∀ {e:aQ},e[4]?=ae (xB bx.length)->dN af sY zar e (bx++[.lst<|C.map D.int])=.val (.d<|.lst<|(sortI<|HT.dist C).map D.int) (bx++[.lst<|C.map D.int]):=λh=>by
  rw[J2,fg (by rw[gH,h]) rfl,fT,show kh (bx++[.lst<|C.map D.int]) [.b bx.length]=ae [.lst<|C.map D.int] by simp[kh,bU,Kw,bS,pT]];have:sY [.lst<|C.map D.int]=ae (.lst<|(sortI<|HT.dist C).map D.int):=by
   change ((intsOf<|C.map D.int).bind λns=>if ns.length<4000 /\ (HT.dist ns).length<64 then ae (Res.lst<|(sortI<|HT.dist ns).map D.int) else ag)=_;rw[K1.lO];show if_pos #[by lia,by rw[pK.ji];lia]
  rw[bS,this];rfl
 have sz:(sortI<|HT.dist C).length<64:=by rw[(f9 _).length_eq,pK.ji];lia
 have bl:(rQ C h0).length<64:=yG (tY ..) sz;have b1:=vm (g:=fe 0) (tf:=dB<|d2 af ny (dV 0)<|d2 af ax (dV 1) zi) (te:=dV 0) (B:=bx++[.lst<|C.map D.int]) (e:=D.int) (E:=λi:Int=>[xN i,ae<|.d zac]) (J:=λenv=>∃ a,env=[a,ae<|.d zac]) (λh=>decide (h0<=h)) (λi:Int=>D.int i) (λ_=>#[_,rfl]) (sortI<|HT.dist C) _ [] zg #[ag,rfl] (λi _ env ⟨a,e⟩=>by subst e;rfl) λi m=>#[f7<|fE (x:=.int i) (y:=.int h0) (r:=.old<|.bl<|decide (h0<=i)) zc (EY zag zc)<|rfl,λ_=>rfl]
 change _=O.val ((rQ C h0).map D.int) _ at b1
 generalize rQ C h0=bs at *;have ZU:DL.cutD (bs.map D.int) (ae 1) ag=bs.tail.map D.int:=by
  cases bs with
  |nil=>rfl
  |cons b t=>simp[DL.cutD,HT.ba];show vF zj
 have e2:bs.tail.map D.int++[.non]=(ends bs).map oI:=by
  unfold ends;rw[rZ,bj];rfl
 refine(lP (ws:=[.d zb,.d zH,.d<|.lst<|S.map kz,.d zac]) (bx':=bx++[.lst<|C.map D.int]) (qS (cV<|RU X ho) ((fv<|(iW<|gf zc).trans lp).trans (qS (gp (gf<|so zc) zc b1) (qS (fE (x:=.lst<|bs.tail.map D.int) (y:=.lst [.non]) (r:=.lst<|(ends bs).map oI) (A9 (x:=.lst<|bs.map D.int) (i:=ae 1) (j:=ag) (r:=.lst<|bs.tail.map D.int) zc zc zc (by rw[<-ZU];rfl)) (mH [.non] zc zg) (by rw[<-e2];show if_pos zg)) (fZ (gp (bx1:=bx++[.lst<|C.map D.int]) (congrArg (O.val · _)<|S7 bs<|ends bs) zc<|vm (g:=fR 2 zK) (tf:=fM) (te:=fO<|fc (dV 0)<|fc (dV 1)<|fc (fj aS.jc 5<|fc (dV 2)<|fc (dV 3)<|fc (dV 4)<|fc (dV 5) zas) ff) (B:=bx++[.lst<|C.map D.int]) (e:=λa:Int×Option Int=>D.tup [.int a.1,oI a.2]) (E:=λa:Int×Option Int=>[xN a.1,ae<|.d<|oI a.2,ae<|.d zb,ae<|.d zH,ae<|.d<|.lst<|S.map kz,ae<|.d zac]) (J:=λenv=>∃ a b,env=[a,b,ae<|.d zb,ae<|.d zH,ae<|.d<|.lst<|S.map kz,ae<|.d zac]) (λ_=>ah) (λa=>Z3 (a.1,a.2,dh rl hold op q.2 ps qs l a.1)) (λ_=>#[_,_,rfl]) (bs.zip<|ends bs) [ag,ag,ae<|.d zb,ae<|.d zH,ae<|.d<|.lst<|S.map kz,ae<|.d zac] [] (by rw[abN];simp;lia) #[_,_,rfl] (λi _ env ⟨a,b,e⟩=>by subst e;rfl) λa m=>#[rfl,λ_=>gm [.int a.1,oI a.2,.int<|dh rl hold op q.2 ps qs l a.1] (fg zc<|fg zc<|fg (cV<|pv _ a.1) zc) zg]))))))).trans ?_;rw[List.filter_eq_self.mpr λ_ _=>rfl,GY,bj,nW];simp[abP,agK]
end
theorem S8 (i j:Int):minD [.int i,.int j]=ae (.old<|.int<|min i j):=by
 change ae _=_;congr 3;split<;>lia
section
variable {ps op:Al} 
abbrev ae4:aA:=(fu (fF (ph (dB<|eY af<|dV 7) (dV 4)<|dN af minD<|fc (dV 7) zar)<|fe 9)<|vj af 5<|d2 af ck (dV 8)<|dN af maxD<|fc zi<|fc (d2 af cE (dV 9)<|dV 6) ff)
theorem GZ (x0 x1 x2 x3:Option W) (h:Int):∀ (T:List Sx) (x:Int) (w6 w7 w8 w9:Option W),(∀ q∈T,0<=q.2.2 /\ q.2.2<=9)->∃ y6 y7 y8 y9,
 bX (fR 3<|fq (fe 6)<|fq (fe 7)<|fq (fe 8) fS) ae4 ((T.map Z3).map W.d) [x0,x1,x2,x3,xN h,xN x,w6,w7,w8,w9] bx=.nx [x0,x1,x2,x3,xN h,xN<|Kv h x T,y6,y7,y8,y9] bx
 |[],x,w6,w7,w8,w9,_=>#[w6,w7,w8,w9,rfl]
 | (a,o,g)::T,x,w6,w7,w8,w9,b=>by
   have bg:0<=g /\ g<=9:=b _<|bD ..;let#[y6,y7,y8,y9,e]:=GZ x0 x1 x2 x3 h T _ _ _ _ _ λy m=>b y<|bE _ m;refine#[y6,y7,y8,y9,?_]
   let E:=λx w9=>([x0,x1,x2,x3,xN h,xN x,xN a,ae<|.d<|oI o,xN g,w9])
   have u:ph (dB<|eY af<|dV 7) (dV 4) (dN af minD<|fc (dV 7) zar) (E x w9) bx=.val (.d<|.int<|oS h o) bx:=by
    cases o with
    |none=>show WR zc zc
    |some v=>show WS zc<|iF _ zc<|S8 v h
   have bd:ae4 _ bx=.nx (E _<|xN<|oS h o) bx:=qS u (by
    change bC (d2 af ck (dV 8) (dN af maxD<|fc zi<|fc (d2 af cE (dV 9)<|dV 6) ff) (E x<|xN<|oS h o) bx) _=_;rw[fE rfl (iF [.int 0,.int<|oS h o-a] (fg rfl<|fg (fE (r:=.old<|.int<|oS h o-a) rfl rfl rfl) rfl)<|M5 _)<|if_pos<|.inl za,iT];rfl)
   rw[aL,aL,iG rfl bd,e];rfl
theorem NO (X:Hk rs ks ps hd rl hold kl) (hq:q∈kl) (qs:List Pg) (l h:Int):0<=dh rl hold op q.2 ps qs l h /\ dh rl hold op q.2 ps qs l h<=9:=by
 unfold dh EV;split
 .lia
 .rename_i r _;rw[ub];cases c:q.2[(max 0<|cT _ hold h op-if (h,r)∈ops ps [] [] qs then 1 else 0).toNat]? with
  |none=>simp
  |some v=>show(X.k q hq).2.2.2 v (qm c)
theorem S9 {f:Int->Int}(p:∀ h,0<=f h /\ f h<=9):∀ {bs:List Int},∀ q∈yn f bs,0<=q.2.2 /\ q.2.2<=9
 |[],_,m=>nomatch m
 |[b],q,m=>by cases kN.mp m;show p b
 | b::c::r,q,m=>by
   rcases bw.mp m with rfl|m
   .show p b
   .show S9 p q m
structure Cm (rs ks:List D) (ps:Al) (qs:List Pg) (kl:List<|Int×List Int) (h0 l k r p w:Int) (q:Int×List Int):zk where
 m:Pg.aO h0 l k r p w∈taken ps [] [] qs
 k0:0<=k
 hq:kl[k.toNat]?=ae q
theorem Yf (X:Hk rs ks ps hd rl hold kl) (s:tJ qs) {h0 l k r p w:Int}(Y:Cm rs ks ps qs kl h0 l k r p w q):∃ t,rQ (chg hold op<|taken ps [] [] qs) h0=h0::t /\ Ku (dh rl hold op q.2 ps qs l) (h0::t):=by
 have m0:h0∈chg hold op _:=hZ _<|List.mem_flatten.mpr #[_,bp.mpr #[_,Y.m,rfl],bD ..];let#[t,e]:=NM m0;refine#[t,e,?_];rw[<-e];refine Nu (λb h hb tt=>RI s (λc m=>(X.r c m).2) X.h.1 hb tt) (DW _ _) λx m b eb hb=>CI.mpr #[m,?_];rw[e]at eb;cases eb;lia
theorem VF (X:Hk rs ks ps hd rl hold kl) (ho:op.length<=4) (s:tJ qs) (ok:∀ g∈qs,tH rs.length ks.length g) (hl:qs.length<=16) {h0 l k r p w:Int}(Y:Cm rs ks ps qs kl h0 l k r p w q) (h:Int) :
 mF [.d zb,.d zH,.d<|.lst<|(kA ps [] [] qs).map kz,.d zac,.d<|.int h] bx=.val (.d<|.int<|p+sm (dh rl hold op q.2 ps qs l) h0 (h-h0).toNat) bx:=by
 let#[t,e,c]:=Yf X s Y;have sv:=DX (bx:=bx) X ho s ok hl (h0:=h0) (l:=l) (r:=r) (p:=p) (w:=w) Y.k0 Y.hq;rw[e]at sv;let#[y6,y7,y8,y9,lp]:=GZ _ _ _ _ h _ p ag ag ag ag<|S9 λx=>NO X (qm Y.hq) qs l x;rw[DU c]at lp;show fY<|(fv<|gu<|fE (r:=.old<|.int p) zc zc zc).trans<|(fv<|(iW<|gf<|fG zc zc sv).trans lp)
end
structure Sc (rs ks:List D) (ps:Al) (hd:D) (rl:List Int) (hold:Int) (kl:List<|Int×List Int) (op:Al) (gs qs:List Pg):zk where
 X:Hk rs ks ps hd rl hold kl
 G:Gs rs.length ks.length gs
 so:dW [.lst<|gs.map enc]=ae (.lst<|qs.map enc)
 pm:qs.Perm gs
 ri:EM qs
 ol:op.length<=4
 ob:∀ p∈op,0<=p.1 /\ p.1<p.2
 oa:dg op=ah
section
variable {ps op:Al} 
theorem Sc.s (Z:Sc rs ks ps hd rl hold kl op gs qs):tJ qs:=Vy Z.ri
theorem Sc.l (Z:Sc rs ks ps hd rl hold kl op gs qs):qs.length<=16:=by rw[Z.pm.length_eq];show Z.G.l
theorem Sc.ok (Z:Sc rs ks ps hd rl hold kl op gs qs):∀ g∈qs,tH rs.length ks.length g:=(Z.G.perm Z.pm).ok
theorem VG {m:aA}{ws:List W}{e:aQ}(h:m (ws.map ae++List.replicate (n-ws.length) ag) bx=.nx e bx):aX n (aP m) ws bx=.val (.d .non) bx:=by
 change pD bx.length (pC<|aP m (ws.map ae++List.replicate _ ag) bx)=_;unfold aP;rw[h];simp[pC,pD]
theorem VH (Z:Sc rs ks ps hd rl hold kl op gs qs):lc [.d zb,.d zH] bx=.val (.d .non) bx:=by
 have sz:=bf;have ol:=Z.ol;have lv:=Vd op za bx;rw[Z.oa]at lv;have o:∀ x∈op.map dP,K2.oJ [.d x] bx=.val (.d _) bx:=λx m=>by
  let#[p,mp,rfl]:=bp.mp m;have:=Z.ob p mp;show fY<|fZ<|gU (cV<|Ad zc)<|gU (cV<|aH.oR (i:=p.1) za)<|gU (cV<|aH.oR (i:=p.2) za)<|fE (y:=.int p.2) (r:=.old<|.bl ah) zc zc (by simp[dJ];lia)
 have m:A4 [ae _,ae _] bx=.rt _ bx:=qE (cV<|aH.m9 Z.X.H)<|fZ<|gU (cV<|Ad (l:=op.map dP) (lo:=0) (hi:=4) (by simp[tl];lia))<|gU (B5 (iO zc) zc (by rw[aR];lia) λx m=>cV<|o x m)<|cV lv;show VG (m:=o9)<|(gz<|iq<|f7<|cV (fn:=lK) (l:=[.d zb,.d zH])<|fY m).trans zc
theorem Nd (Z:Sc rs ks ps hd rl hold kl op gs qs) {l:Int}(l0:0<=l) (l9:l<=9):im [.d zb,.d zH,.d zm,.d<|.int l] bx=.val (.d .non) bx:=by
 have w:=oM (.int l) 0 9 bx;rw[show wi _ 0 9=ah by simp[wi];lia]at w;show VG<|(fv<|ir<|fG zc zc<|VH Z).trans<|(fv<|ir<|fG zc zc<|aH.oh Z.X.H Z.G).trans<|(gz<|iq<|f7<|fG zc zc w)
theorem G0 {h:Int}(h0:0<=h):aS.io [.d<|.int h] bx=.val (.d .non) bx:=
 VG ((gz<|iq<|f7<|fG zc zc<|aH.oR h0))
theorem Kx {ps:Al}{g:Pg}:∀ {gs:List Pg}{K R:Al},g∈taken ps K R gs->g∈gs:=by
 intro l_;induction l_ with
 |nil=>(intro _ _ m;show nomatch m)
 |cons x gs ay=>
   intro K R m;unfold taken at m;split at m
   .rcases bw.mp m with rfl|m
    .show bD ..
    .show bE _<|ay m
   .show bE _<|ay m
abbrev qh (ps:Al) (qs:List Pg) (l:Int):Option Pg:=(taken ps [] [] qs).find?<|k8 l
theorem Ta (Z:Sc rs ks ps hd rl hold kl op gs qs) {l:Int}{g:Pg}(h:qh ps qs l=ae g):∃ h0 k r p w q,g=.aO h0 l k r p w /\ Cm rs ks ps qs kl h0 l k r p w q /\ 0<=h0 /\ (0<=p /\ p<=999) /\ (1<=q.1 /\ q.1<=999) /\ g∈qs:=by
 have m:=Hw h;have c:=Xi h;have mm:=Kx m;have o:=Z.ok g mm;cases g with
 |aO h0 l' k r p w=>
   have el:l'=l:=of_decide_eq_true c;subst el;let#[o1,o2,#[k0,k1],o4,o5,o6]:=o;have Z4:k.toNat<kl.length:=by rw[Z.X.ek,aR]at k1;lia
   show#[h0,k,r,p,w,kl[k.toNat],rfl,#[m,k0,cL Z4],o1,o5,#[(Z.X.k _<|nG Z4).1,(Z.X.k _<|nG Z4).2.1],mm]
 |to h' l' r=>simp[isIn]at c
 |out h' l'=>simp[isIn]at c
theorem VI (Z:Sc rs ks ps hd rl hold kl op gs qs) (l:Int):gM [.d<|.lst<|(kA ps [] [] qs).map kz,.d<|.int l] bx=.val (.d (match qh ps qs l with|some g=>enc g|none=>.non)) bx:=by
 have sl:=CH (ps:=ps) (gs:=qs) (K:=[]) (R:=[]);have:=NA (bx:=bx) (S:=kA ps [] [] qs) (by have:=Z.l;lia) l;rw[B7]at this;show this
theorem G1 (Z:Sc rs ks ps hd rl hold kl op gs qs):cn.gq [.d zb,.d zm] bx=.val (.d<|.lst<|(kA ps [] [] qs).map kz) bx:=by
 rw[<-Nx];show aS.RL Z.X.H Z.l Z.so
end
theorem NP {R:Al}{l x:Int}:look (hG R l) x=if x=l then ag else look R x:=by
 induction R with
 |nil=>simp[hG,look]
 |cons q R ih=>
   have e:hG (q::R) l=if q.1=l then hG R l else q::hG R l:=by
    unfold hG;by_cases c:q.1=l
    .rw[if_pos c,tZ (by simp[c])]
    .rw[if_neg c,ua (by simp[c])]
   rw[e,iH];by_cases c:q.1=l
   .rw[if_pos c,ih];by_cases d:x=l
    .rw[if_pos d,if_pos d]
    .rw[if_neg d,if_neg d,if_neg za]
   .rw[if_neg c,iH,ih];by_cases d:x=l
    .rw[if_pos d,if_pos d,if_neg za]
    .rw[if_neg d,if_neg d]
section
variable {ps op:Al} 
end
end aS
namespace cn
open L2 L2.DL K1 dZ bG aH
section
variable {K':Al}
end
end cn
namespace aS
open L2 L2.DL K1 K2 dZ bG aH cn
structure La (ps:Al) (qs:List Pg) (B:List Bx) (N:Nat) (dr:List<|List Key×D):zk where
 c:B[N+1]?=ae (.aB<|bH enc<|nS ps [] [] [] qs)
 d:B[N+3]?=ae (.dT dr)
 o:∀ q:Int×Int,(kI dr<|k2 q).isSome=decide (q∈ops ps [] [] qs)
 a:B[N+4]?=ae (.lst<|uI ps [] [] qs)
section
variable {ps op:Al} {N:Nat} 
variable {h0 l k r p w last:Int} 
end
end aS
namespace aH
open L2 L2.DL K1 dZ bG
end aH
namespace cn
open L2 L2.DL K1 dZ bG aH
theorem lm {i:Nat}{m:DE zaf}{B1:List Bx}{x y:W}(h:m env B=.val [x,y] B1):dQ i j m env B=.nx ((env.set i<|ae x).set j<|ae y) B1:=by
 unfold dQ;rw[h,iT]
section
variable {N:Nat}
end
end cn
namespace aS
open L2 L2.DL K1 K2 dZ bG aH cn
section
variable {ps op:Al} {N:Nat} {l last:Int}
theorem RY:((nS ps [] [] [] qs).find? λq=>decide (q.1=l)).map (·.2)=qh ps qs l:=VD zc
end
theorem oU {b e:Int}:∀ {ps:Al},dg ps=ah->(∀ x∈ps,x.2<b)->dg (ps++[(b,e)])=ah
 |[],_,_=>rfl
 | [p],_,h=>by
   simp[dg,h p _]
 | p::q::r,a,h=>by
   simp[dg,aJ]at a;change dg _=ah;have:=oU (e:=e) a.2 λx m=>h x<|bE _ m;simp[dg,aJ];show#[a.1,this]
theorem RZ {nr:Int}(n0:0<nr) (n1:nr<=30) (h:n<bx.length) (p b:Int) (ps:Al) (hl:ps.length<=1000) (w:Option W) :
 ∃ e b' q,ai9 [xB n,xN nr,xB bx.length,xN b,w] (pt (bx++[.lst zao]) n p)=.nx [xB n,xN nr,xB bx.length,xN b',w] (pt (bx++[.lst<|(ps++[(b,e)]).map dP]) n q) /\ b<e /\ e<=b+nr /\ e<b' /\ b'<=e+nr:=by
 have sz:=bf;let#[r1,p1,t1,m0,m1]:=nC (bx:=bx++[Bx.lst zao]) (n:=n) zg p nr n0 za;have ap:=BZ (m:=dV 2) (k:=fO<|fc (dV 3)<|fc (d2 af fK (d2 af fK (dV 3) zd)<|fj K1.fm 2<|fc (dV 0) zI) ff) (env:=[xB n,xN nr,xB bx.length,xN b,w]) zc (jz h) (gm [.int b,.int<|b+1+r1] (fg zc<|fg (fE (r:=.old<|.int<|b+1+r1) (fE zc zc zc) (t1 zc zc) zc) zc) (show (2)<=sizeLine by lia)) (jz h) (by rw[aR];lia);rw[CB h,show ps.map dP++[D.tup [.int b,.int<|b+1+r1]]=(ps++[(b,b+1+r1)]).map dP by simp]at ap;let#[r2,p2,t2,k0,k1]:=nC (bx:=bx++[Bx.lst<|(ps++[(b,b+1+r1)]).map dP]) (n:=n) zg p1 nr n0 za;have b3:=jz (p:=p1) (x:=.lst<|(ps++[(b,b+1+r1)]).map dP) h;have la:bF ((ps++[(b,b+1+r1)]).map dP) (-1)=ae (dP (b,b+1+r1)):=by
  unfold bF cA;simp;rw[if_pos za];simp;have:(-1+((ps.length:Int)+1)).toNat=ps.length:=by lia
  rw[this,<-aR (f:=dP) (as:=ps)];simp
 refine#[b+1+r1,b+1+r1+1+r2,p2,(fv<|ir ap).trans<|gu<|fE (x:=.int<|b+1+r1+1) (y:=.int r2) (r:=.old<|.int<|b+1+r1+1+r2) (fE (x:=.int<|b+1+r1) (y:=.int 1) (r:=.old<|.int<|b+1+r1+1) (fE (x:=dP (b,b+1+r1)) (y:=.int 1) (r:=.old<|.int<|b+1+r1) ?_ zc zc) zc zc) (t2 zc zc) zc,by lia,by lia,by lia,by lia];generalize pt (bx++[.lst<|(ps++[(b,b+1+r1)]).map dP]) n p1=B at b3 ⊢;rw[MP,show dV 2 [xB n,xN nr,xB bx.length,xN b,w] B=.val (.b bx.length) B from rfl,fT,U8 rfl,fT,SX b3,A5,bS,bS];change cj af (Option.map Res.old<|bF _<|-1) _=_;rw[la];rfl
structure Ot (op:Al) (m:Int):zk where
 l:op.length<=4
 b:∀ x∈op,0<=x.1 /\ x.1<x.2 /\ x.2<=m
 a:dg op=ah
noncomputable def fB (nr:Int):Nat->Int
 |0=>nr
 |i+1=>fB nr i+2*nr
theorem Yg {nr:Int}(n0:0<nr):∀ {i:Nat},i<=3->fB nr i<=7*nr
 |0,_=>by change nr<=_;lia
 |1,_=>by change nr+2*nr<=_;lia
 |2,_=>by change nr+2*nr+2*nr<=_;lia
 |3,_=>by change nr+2*nr+2*nr+2*nr<=_;lia
theorem NQ {nr:Int}(n0:0<nr) (n1:nr<=30) (h:n<bx.length) (p:Int):∃ ps q,K2.jv [.b n,.d<|.int nr] zY=.val (.d<|.tup zao) (pt bx n q) /\ Ot ps (8*nr):=by
 have sz:=bf;have h0:n<(bx++[Bx.lst []]).length:=by simp;lia
 let#[r0,p1,t0,m0,m1]:=nC h0 p nr n0 za;let#[y,p2,t4,my]:=aeL h0 p1 [0,1,2,4] (fc zi<|fc zd<|fc zA z9) (λ_ _=>rfl) zc (by decide) ze;let#[c,rfl]:=HQ (show 0<=y by simp at my;lia);have hc:c<=4:=by simp at my;lia
 let#[aT,bx',e2,ps,b,w,q,rfl,rfl,hl,_,_,Z5,ha,_]:=lX (g:=fe 4) (λi env bb=>∃ ps b w q,env=[xB n,xN nr,xB bx.length,xN b,w] /\ bb=pt (bx++[.lst zao]) n q /\ ps.length=i /\ 0<=b /\ b<=fB nr i /\ (∀ x∈ps,0<=x.1 /\ x.1<x.2 /\ x.2<=8*nr) /\ dg ps=ah /\ ∀ x∈ps,x.2<b) (fQ 0 c) 0 [xB n,xN nr,xB bx.length,xN<|r0,ag] (pt (bx++[.lst<|([]).map dP]) n<|p2) #[[],_,_,_,rfl,rfl,rfl,m0,by change _<=nr;lia,(λx m=>by cases m),rfl,λx m=>by cases m] (by
  rintro i w env bb hw ⟨ps,b,w',q,rfl,rfl,hl,aeG,alM,Z5,ha,hb⟩;have hi:i<c:=by
   have:=(List.getElem?_eq_some_iff.mp hw).1;simpa[fQ] using this
  let#[e,b',q',ee,o1,o2,o3,o4]:=RZ n0 n1 h q b ps za<|ae w;refine#[_,_,_,_,rfl,ee,ps++[(b,e)],b',_,q',rfl,rfl,by simp[hl],by lia,by change _<=fB nr (0+i)+2*nr;lia,λx m=>?_,oU ha hb,λx m=>?_]
  .rcases List.mem_append.mp m with m|m
   .show Z5 x m
   .rw[kN.mp m];show#[by change 0<=b;lia,o1,by change e<=8*nr;have:=Yg n0 (show 0+i<=3 by lia);lia]
  .rcases List.mem_append.mp m with m|m
   .have:=hb x m;lia
   .rw[kN.mp m];show o3)
 refine#[ps,q,?_,by simp[fQ]at hl;lia,Z5,ha];have bg:=jz (p:=q) (x:=.lst zao) h;refine(lP (ws:=[.b n,.d<|.int nr]) (d:=.tup zao) (bx':=pt (bx++[.lst zao]) n q)<|(fv<|cn.lm<|fg (w:=.b bx.length) (bx1:=pt (bx++[.lst []]) n p) (by rw[<-mK h,<-gF (bx:=bx) (n:=n) (p:=p)];show oO [] zc (eC _))<|fg (t0 zc zc) zc).trans<|(fv<|(iW (l:=fQ 0 c)<|lN (fg (t4 _ 0 zc) zc) za).trans e2).trans<|fZ ?_).trans ?_
 .rw[J2,fg (w:=.b bx.length) (l:=[]) rfl rfl,fT];have:kh (pt (bx++[.lst zao]) n q) [.b bx.length]=ae [.lst zao]:=by erw[kh,SX bg,bS,pT]
  rw[this];rfl
 .rw[gF,Bc h]
noncomputable abbrev qL (c:Int) (x:Int×Int):Int×Int:=(x.1+c,x.2+c)
theorem DY {c:Int}:∀ {ps:Al},dg ps=ah->dg (ps.map<|qL c)=ah
 |[],_=>rfl
 |[p],_=>rfl
 | p::q::r,a=>by
   simp[dg,aJ,decide_eq_true_eq]at a;change dg _=ah;have:=DY (c:=c) a.2;simp[dg,aJ,decide_eq_true_eq];show#[by lia,this]
end aS
namespace vq
open L2 L2.DL
noncomputable section
end
open K1 K2 dZ bG aH cn aS
section
variable {ps op:Al} {N:Nat} {h0 l k r p w h:Int} 
def eA (rl:List Int) (hold:Int) (op:Al) (kl:List<|Int×List Int) (ps:Al) (qs:List Pg) (l h:Int):Option Int:=match qh ps qs l with
 |some (.aO h0 _ k _ p _)=>if h<h0 then ag else ae (p+sm (dh rl hold op ((kl[k.toNat]?).getD (0,[])).2 ps qs l) h0 (h-h0).toNat)
 |_=>ag
theorem NR (Z:Sc rs ks ps hd rl hold kl op gs qs) (l0:0<=l) (l9:l<=9) (hh:0<=h):gn [.d zb,.d zH,.d zm,.d<|.int l,.d<|.int h] B=.val (.d<|oI<|eA rl hold op kl ps qs l h) B:=by
 have cv:=VI (bx:=B) Z l;have sv:=G1 (bx:=B) Z;obtain⟨S,hS⟩:∃ S,S=D.lst ((kA ps [] [] qs).map kz):=#[_,rfl];rw[<-hS]at cv sv;have f:∀ {b:aA}{o:OS}{x:D},gM [.d S,.d<|.int l] B=.val (.d x) B->b [ae<|.d zb,ae<|.d zH,ae<|.d zm,xN l,xN h,ae<|.d S,ae<|.d x] B=o->fu (gj<|fj aS.im 4<|fc (dV 0)<|fc (dV 1)<|fc (dV 2)<|fc (dV 3) ff) (fu (gj<|fj aS.io 1 zar)<|fu (fF (fj cn.gq 2<|fc (dV 0) zP)<|fe 5)<|fu (fF (fj aS.gM 2<|fc (dV 5)<|fc (dV 3) ff)<|fe 6) b) [ae<|.d zb,ae<|.d zH,ae<|.d zm,xN l,xN h,ag,ag] B=o:=λc k=>
  qE (fG zc zc<|Nd Z l0 l9) (qE (fG zc zc<|G0 hh)<|qS (fG zc zc sv)<|qS (fG zc zc c) k)
 unfold eA;cases c:qh ps qs l with
 |none=>
   rw[c]at cv;show fY<|f cv<|qR (SU zc) zc
 |some g=>
   rw[c]at cv;let#[h0,k,r,p,w,q,rfl,Y,ae5,_]:=Ta Z c;have rv:=VF (bx:=B) Z.X Z.ol Z.s Z.ok Z.l Y h;rw[<-hS]at rv;have n2:=λ(e:aQ) (a:e[6]?=ae (ae<|.d zac)) (b:e[4]?=ae (xN h))=>f7<|fE (g:=nL) (x:=.int h0) (r:=.old<|.bl<|decide (h<h0)) (bx:=B) (EY zag a) (k:=dV 4) (by rw[gH,b]) (by simp[nL]);erw[Y.hq,yJ];by_cases y:h<h0
   .rw[decide_eq_true y]at n2;rw[if_pos y];show fY<|f cv<|qR (w:=.d .non) (bx2:=B) (l7 (bx1:=B) zc<|n2 _ zc zc) zc
   .rw[decide_eq_false y]at n2;rw[if_neg y];show fY<|f cv<|qF (l7 (bx1:=B) zc<|n2 _ zc zc)<|fZ<|fG (l:=[.d zb,.d zH,.d S,.d zac,.d<|.int h]) zc zc rv
end
end vq
namespace K22
open L2 L2.DL K1 K2 dZ bG aH cn aS vq
section
variable {ps op:Al} {l:Int}
structure Cd (Z:Sc rs ks ps hd rl hold kl op gs qs) (l h0 k r p w:Int) (q:Int×List Int):zk where
 c:qh ps qs l=ae zag
 Y:Cm rs ks ps qs kl h0 l k r p w q
 h:0<=h0
 m:Pg.aO h0 l k r p w∈qs
theorem NS (Z:Sc rs ks ps hd rl hold kl op gs qs):qh ps qs l=ag \/ ∃ h0 k r p w q,Cd Z l h0 k r p w q:=by
 cases c:qh ps qs l with
 |none=>show .inl zc
 |some g=>
   let#[h0,k,r,p,w,q,rfl,Y,ae5,_,_,m]:=Ta Z c;show .inr #[h0,k,r,p,w,q,c,Y,ae5,m]
variable {Z:Sc rs ks ps hd rl hold kl op gs qs} {h0 k r p w:Int} 
theorem Cd.rp (C:Cd Z l h0 k r p w q) (h:Int):eA rl hold op kl ps qs l h=if h<h0 then ag else ae (p+sm (dh rl hold op q.2 ps qs l) h0 (h-h0).toNat):=by
 unfold eA;rw[C.c];simp[C.Y.hq,yJ]
theorem Cd.pos (C:Cd Z l h0 k r p w q) (x:Int):0<=dh rl hold op q.2 ps qs l x:=(NO Z.X (qm C.Y.hq) qs l x).1
theorem NT (e:qh ps qs l=ag) (h:Int):eA rl hold op kl ps qs l h=ag:=by
 unfold eA;rw[e]
theorem Cd.add (C:Cd Z l h0 k r p w q) {a b:Int}(ha:h0<=a) (ab:a<=b) (g:∀ x,a<=x->x<b->dh rl hold op q.2 ps qs l x=c):∃ t,eA rl hold op kl ps qs l a=ae t /\ eA rl hold op kl ps qs l b=ae (t+c*(b-a)):=by
 refine#[_,by rw[C.rp,if_neg za],?_];rw[C.rp,if_neg za,show (b-h0).toNat=(a-h0).toNat+(b-a).toNat by lia,FP,(oo (a:=h0+((a-h0).toNat)) (n:=(b-a).toNat) λx h1 h2=>g x za za),show (((b-a).toNat))=b-a by lia,Int.add_assoc]
theorem R0 (Z:Sc rs ks ps hd rl hold kl op gs qs) {a b t:Int}(ab:a<=b) (e:eA rl hold op kl ps qs l a=ae t):∃ u,eA rl hold op kl ps qs l b=ae u /\ t<=u:=by
 rcases NS Z with c|⟨h0,k,r,p,w,q,C⟩
 .rw[NT c]at e;cases e
 .rw[C.rp]at e;split at e
  .cases e
  .cases e;refine#[_,by rw[C.rp,if_neg za],?_];have:=W5 (a:=h0) C.pos (show (a-h0).toNat<=(b-h0).toNat by lia);lia
theorem DZ (Z:Sc rs ks ps hd rl hold kl op gs qs) {last y l r:Int}{rt:List Int}(hp:∀ g∈qs,aV g<=last) (hr:aS.kJ ps qs l y=ae r) (hy:last<=y) {h:Int}(hh:last<h):(0<=r /\ r.toNat<rl.length) /\ dh rl hold op rt ps qs l h=rt.getD (cT (rl.getD r.toNat 0) hold h op).toNat 0:=by
 have e:∀ x,last<=x->pre x ps [] [] qs=pre last ps [] [] qs:=λx hx=>FQ hx Z.s λg m=>by have:=hp g<|Kx m;lia
 let#[r0,r1]:=GX (NC (h:=y) (ps:=ps) Z.ok (K:=[]) (R:=[]) λq m=>nomatch m) hr;rw[Z.X.er,aR]at r1;refine#[#[r0,by lia],?_];unfold dh aS.kJ;unfold aS.kJ at hr;rw[e h za,<-e y hy,hr];erw[EV];rw[if_neg λm=>?_,acj]
 .have:0<=rl.getD r.toNat 0:=by
   rw[ub,cL za];show(Z.X.r _<|nG _).1
  have:=Bb (hold:=hold) (hour:=h) this op;rw[show max 0 (cT (rl.getD r.toNat 0) hold h op)=cT (rl.getD r.toNat 0) hold h op by lia]
 .let#[g,mg,eg]:=Bh m;have:=hp g<|Kx mg;lia
theorem Cd.out (C:Cd Z l h0 k r p w q) {last y:Int}(hp:∀ g∈qs,aV g<=last) (hr:aS.kJ ps qs l y=ag) (hy:last<=y) {h:Int}(hh:last<=h):dh rl hold op q.2 ps qs l h=0:=by
 have e:∀ x,last<=x->pre x ps [] [] qs=pre last ps [] [] qs:=λx hx=>FQ hx Z.s λg m=>by have:=hp g<|Kx m;lia
 unfold dh aS.kJ;unfold aS.kJ at hr;rw[e h hh,<-e y hy,hr];rfl
theorem Bm {h b e:Int}:∀ {n:Al},(∀ p∈n,p.2<=h)->cT c hold h (n++[(b,e)])=if b<=h /\ h<e then max 0 (c-(h-b) / hold) else c:=by
 intro l_;induction l_ with
 |nil=>show λ_=>rfl
 |cons p ps ay=>
   intro t;change (if p.1<=h /\ h<p.2 then _ else cT c hold h _)=_;rw[if_neg (by have:=t p<|bD ..;lia)];show ay λx m=>t x<|bE _ m
end
open HT
variable {ps K R op:Al} {g:Pg} {l h:Int}
theorem G2:aV (sh c g)=aV g+c:=by cases g<;>rfl
theorem VJ:a8 (sh c g)=a8 g:=by cases g<;>rfl
theorem CJ:word ps K R (sh c g)=word ps K R g:=by cases g<;>rfl
theorem FT:stK K (sh c g)=stK K g:=by cases g<;>rfl
theorem FU:nR R (sh c g)=nR R g:=by cases g<;>rfl
theorem Tb:dq ps K R (sh c g)=dq ps K R g /\ dz ps K R (sh c g)=dz ps K R g:=by
 unfold dq dz;rw[CJ,FT,FU];show#[rfl,rfl]
theorem VL:∀ {qs:List Pg}{K R:Al},pre (h+c) ps K R (qs.map<|sh c)=pre h ps K R qs:=by
 intro l_;induction l_ with
 |nil=>(intro _ _;show rfl)
 |cons g gs ay=>
   intro K R;change (if aV _<=h+c then pre _ ps _ _ _ else (K,R))=if aV g<=h then pre h ps _ _ gs else (K,R);rw[G2,Tb.1,Tb.2,ay];by_cases q:aV g<=h
   .rw[if_pos q,if_pos za]
   .rw[if_neg q,if_neg za]
theorem NU:∀ {qs:List Pg}{K R:Al},taken ps K R (qs.map<|sh c)=(taken ps K R qs).map (sh c):=by
 intro l_;induction l_ with
 |nil=>(intro _ _;show rfl)
 |cons g gs ay=>
   intro K R;change (if word ps K R _="takes" then sh c g::taken ps _ _ _ else taken ps K R _)=(if word ps K R g="takes" then g::taken ps _ _ gs else taken ps K R gs).map _;rw[CJ,FT,FU,ay,ay];split<;>rfl
theorem VM:nD R (sh c g)=(nD R g).map λq=>(q.1+c,q.2):=by
 unfold nD;rw[G2,VJ,show vo _=vo g by cases g<;>rfl,bj];rfl
theorem VN:∀ {qs:List Pg}{K R:Al},ops ps K R (qs.map<|sh c)=(ops ps K R qs).map λq=>(q.1+c,q.2):=by
 intro l_;induction l_ with
 |nil=>(intro _ _;show rfl)
 |cons g gs ay=>
   intro K R;change (if word ps K R _="takes" then nD R _++ops ps _ _ _ else ops ps K R _)=(if word ps K R g="takes" then nD R g++ops ps _ _ gs else ops ps K R gs).map λq=>(q.1+c,q.2);rw[CJ,FT,FU,ay,ay,VM];split
   .rw[rZ]
   .rfl
theorem R6 {x:Int}:∀ {op:Al},cT x hold (h+c) (op.map<|qL c)=cT x hold h op:=by
 intro l_;induction l_ with
 |nil=>show rfl
 |cons p ps ay=>
   change (if p.1+c<=h+c /\ h+c<p.2+c then max 0 _ else cT x hold _ _)=if p.1<=h /\ h<p.2 then max 0 _ else cT x hold h ps;rw[ay,show h+c-(p.1+c)=h-p.1 by lia];by_cases q:p.1<=h /\ h<p.2
   .rw[if_pos q,if_pos za]
   .rw[if_neg q,if_neg za]
theorem R7 {rt:List Int}:dh rl hold (op.map<|qL c) rt ps (qs.map<|sh c) l (h+c)=dh rl hold op rt ps qs l h:=by
 unfold dh aS.kJ;rw[VL,VN];cases look (pre h ps [] [] qs).2 l with
 |none=>rfl
 |some r=>
   erw[EV,R6];have:((h+c,r)∈(ops ps [] [] qs).map λq=>(q.1+c,q.2)) ↔ (h,r)∈ops ps [] [] qs:=by
    rw[bp];constructor
    .rintro⟨⟨a,b⟩,m,e⟩;simp[Prod.mk.injEq]at e;rw[show h=a by lia,<-e.2];show m
    .show λm=>#[_,m,rfl]
   by_cases q:(h,r)∈ops ps [] [] qs
   .rw[if_pos q,if_pos<|this.mpr q]
   .rw[if_neg q,if_neg λm=>q<|this.mp m]
theorem Tc {f g:Int->Int}{a c:Int}(e:∀ x,f (x+c)=g x):∀ n,sm f (a+c) n=sm g a n
 |0=>rfl
 | n+1=>by
   change sm f _ n+f _=sm g a n+g _;rw[Tc e n,<-e _,show a+c+(n)=a+n+c by lia]
theorem VO:qh ps (qs.map<|sh c) l=(qh ps qs l).map (sh c):=by
 unfold qh;rw[NU,Xh];congr 2;funext g;cases g<;>rfl
theorem Yh:eA rl hold (op.map<|qL c) kl ps (qs.map<|sh c) l (h+c)=eA rl hold op kl ps qs l h:=by
 unfold eA;rw[VO];cases qh ps qs l with
 |none=>rfl
 |some g=>
   cases g with
   |aO h0 l' k r p w=>
     change (if h+c<h0+c then ag else ae _)=if h<h0 then ag else ae _;rw[Tc λx=>R7,show h+c-(h0+c)=h-h0 by lia];by_cases q:h<h0
     .rw[if_pos q,if_pos za]
     .rw[if_neg q,if_neg za]
   |_=>rfl
theorem Td:∀ {a b:List aF},bR a b=ah->bR b a=ah->False
 |[],[],h,_=>by cases h
 |[],_::_,_,h=>by cases h
 |_::_,[],h,_=>by cases h
 | a::l,b::m,h,k=>by
   unfold bR at h k;by_cases q:a=b
   .rw[if_pos q]at h;rw[if_pos q.symm]at k;show Td h k
   .rw[if_neg q]at h;rw[if_neg λe=>q e.symm]at k;cases a<;>cases b<;>simp[aF.lt,decide_eq_true_eq,yH]at h k
    .lia
    .show absurd h<|List.lt_asymm k
theorem VP {x y:Int}{l m:List aF}:bR (.i (x+c)::l) (.i (y+c)::m)=bR (.i x::l) (.i y::m):=by
 erw[bR,aF.i.injEq,aF.lt];by_cases q:x=y
 .rw[if_pos q,if_pos za]
 .lia
theorem Yi (a b:Pg):bR (b9<|sh c a) (b9<|sh c b)=bR (b9 a) (b9 b):=by
 cases a<;>cases b<;>show VP
theorem Sc.sh {rs ks:List D}{hd:D}(Z:Sc rs ks ps hd rl hold kl op gs qs) (c0:0<=c):Sc rs ks ps hd rl hold kl (op.map<|qL c) (gs.map<|aH.sh c) (qs.map<|aH.sh c):=by
 have nd:(gs.map<|aH.sh c).Nodup:=qp.mpr<|Z.G.nd.imp λh z=>h<|Vx z;have ll:=Z.G.l;let#[q2,pq,Ky,so]:=Cz nd (by rw[aR];lia);have e:=acP (λa b _ _ x y=>(Td x y).elim) Ky (qp.mpr (Z.ri.imp λh=>by rw[Yi];show h))<|pq.trans (Z.pm.map _).symm;subst e;refine#[Z.X,#[λg m=>?_,nd,by rw[aR];show ll],so _<|.refl _,pq,Ky,by rw[aR];show Z.ol,λx m=>?_,DY Z.oa]
 .let#[g,mg,rfl]:=bp.mp m;have o:=Z.G.ok g mg;cases g<;>show#[by have:=o.1;lia,o.2]
 .let#[y,my,rfl]:=bp.mp m;have:=Z.ob y my;show#[by lia,by lia]
end K22
namespace HT
open PySem.W
section
variable {s:au}
theorem Lf:typeLookup (.type "list") "keys"=pure ag:=by kernel_rfl
theorem BB {xs:Array ai}{k:Nat}{Q:Option ai->au->zk}(hx:s.heap.get? a=ae { cls:=.type "list",data:=.seq xs k,slots:=sl }) (hA:A.handled=ag)
 (h:∀ h' tk,(∀ b o,s.heap.get? b=ae o->h'.get? b=ae o)->Q ag { s with heap:=h',toks:=tk }) :
 wpAny zh A (getAttr? (.ref a) "keys") Q E s:=by
 let#[hp,g,d,tk,os]:=s;have hT:∀ Ki,(#[hp,g,d,Ki,os]:au).TypeIs (.ref a) "list":=λ_=>#[_,hx,rfl];have f1:=sub_AttributeError;have f3:=F.slot_list_getattribute.lookup;have f4:=F.slot_list_getattribute.bind<|.ref a;have f5:=am_list_getattr_none;unfold getAttr? getAttrBy? getAttrBy
 repeat (any_goals (first|assumption|show hT _|((with_reducible change wpAny _ _ (call (Value.builtin "list.__getattribute__") _ _) _ _ _);refine wV F.slot_list_getattribute (hT _) am_entry_list_getattribute (F.args_list_getattribute_2 _ _) (meets_getattribute_miss_list a xs k sl "keys" _ Lf (by decide) (by size_fits)) ⟨hx,hA,λh' Ki e xF=>?_⟩)|wp_step))
 let#[t',u',he]:=xF.there;change wpAny _ _ (getattributeRaised _ _ _ _ _ _ _) _ _ _;unfold getattributeRaised
 repeat (any_goals (first|assumption|wp_step))
 show h _ _ xF.keeps
theorem lR:plainId "dict.update.loop"=ah:=by decide +kernel
theorem Af:entryFor table "dict.update.loop"=ae Builtin.«dict.update.loop»:=abf (by kernel_rfl)
theorem FV {K:Type} [DecidableEq K] (ao:List<|K×ai) (k:K) (v:ai):(PySem.stored ao k v).length<=ao.length+1:=by
 unfold PySem.stored;split<;>simp
theorem ajs {K:Type} [DecidableEq K] {knd:KeyKind prog w K}{d l:aj}{its:List (aj×K×ai×ai)}(hh:A.handled=ag) (di:d≠it) (ld:l≠d) (li:l≠it) (eS:∀ q∈its,q.1≠d /\ q.1≠it) (hz:its.length<=1000) :
 ∀ (n i:Nat) (s:au) (ao:List<|K×ai),its.length-i=n->i<=its.length->s.heap.IsListIter it l i->s.heap.IsList l (its.map λq=>Value.ref q.1).toArray->(∀ q∈its,IsTup s.heap q.1 (List.toArray [q.2.2.1,q.2.2.2]) /\ knd.is q.2.1 q.2.2.1=ah) ->
  s.heap.DictOf knd d ao->ao.length<=i ->
  (∀ h' tk,(∀ b o,b≠d->b≠it->s.heap.get? b=ae o->h'.get? b=ae o)->h'.DictOf knd d ((its.drop i).foldl (λa q=>PySem.stored a q.2.1 q.2.2.2) ao)->R (.ok<|.ret .none) { s with heap:=h',toks:=tk }) ->
  codeAny zh A (.builtin "dict.update.loop" #[[.ref d,.ref it,rawInt i,.none],[]]) R s:=by
 have sz:=bf;intro n;induction n with
 |zero=>
   intro i s ao hn hi hI hl hq hd hk hR;refine rS Af ?_;refine ak<|aaS hh hI hl zg λh' x=>?_;change wpAny _ _ (Builtin.Dict.addKeywords d [] >>= _) _ _ _;refine ak<|az<|az ?_;have e:its.drop i=[]:=List.drop_eq_nil_of_le za;rw[e]at hR;refine hR h' s.toks (λb o _ b2 e=>x b o b2 e) ?_;let#[o,es,ep,ho,r]:=hd;show#[o,es,ep,x d o di ho,r]
 |succ n ih=>
   intro i s ao hn hi hI hl hq hd hk hR;have lt:i<its.length:=by lia
   refine rS Af ?_;rw[HX lR _];change wpAny _ A.in1 (pyNext (.ref it) >>= _) _ _ s;refine ak<|aaR hI hl (x:=.ref its[i].1) (by simp[lt]) λh' ajt x=>?_;let#[#[o,ho,hc,m,aju],Zv]:=hq its[i]<|nG lt;have ne:=eS its[i]<|nG lt;have kD:=(x.2 _ ne.2).trans ho;refine ak<|eB<|ak<|wpAny_tryCatch ?_;unfold Builtin.Dict.pairItems;refine ak<|tQ #[o,kD,hc] ?_;rw[if_pos ze];refine ak<|tR kD aju<|az ?_;change wpAny _ _ (holding [its[i].2.2.1,its[i].2.2.2]<|dictSet d its[i].2.2.1 its[i].2.2.2) _ _ _;have XR:h'.DictOf knd d ao:=by
    let#[o,es,ep,ho,r]:=hd;show#[o,es,ep,(x.2 d di).trans ho,r]
   refine eB<|wpAny_dictSet_pairs Zv XR (λh2 hd2 x2=>?_) za;refine az #[wY lR _,?_];have keep:=λb b1 b2=>(x2.2 b b1).trans<|x.2 b b2;have e:=ih (i+1) { s with heap:=h2,toks:=s.toks+1 } (PySem.stored ao its[i].2.1 its[i].2.2.2) za lt (by
    let#[o,ho,r]:=ajt;show#[o,(x2.2 it<|Ne.symm di).trans ho,r]) (by
    let#[o,ho,r]:=hl;show#[o,(keep l ld li).trans ho,r]) (λq m=>by
    let#[#[o,ho,r],k]:=hq q m;show#[#[o,(keep _ (eS q m).1 (eS q m).2).trans ho,r],k]) hd2 (cB (FV ..) za) λh3 tk x3 ajv=>by
     refine hR h3 tk (λb o b1 b2 e=>x3 b o b1 b2<|(keep b b1 b2).trans e) ?_;rw[List.drop_eq_getElem_cons lt];show ajv
   show e
theorem Aj {K:Type} [DecidableEq K] {knd:KeyKind prog w K}{l:aj}{k:Nat}{its:List (aj×K×ai×ai)}(hh:A.handled=ag) (hl:s.heap.get? l=ae { cls:=.type "list",data:=.seq (its.map λq=>Value.ref q.1).toArray k,slots:=sl }) (hz:its.length<=1000)
 (hq:∀ q∈its,IsTup s.heap q.1 (List.toArray [q.2.2.1,q.2.2.2]) /\ knd.is q.2.1 q.2.2.1=ah)
 (h:∀ h' tk,(∀ b o,s.heap.get? b=ae o->h'.get? b=ae o)->h'.DictOf knd s.heap.objs.size (its.foldl (λa q=>PySem.stored a q.2.1 q.2.2.2) [])->Q zab { s with heap:=h',toks:=tk }) :
 wpAny zh A (call (.type "dict") [.ref l]) Q E s:=by
 refine callType_codes (Q₁:=λobj s₁=>obj=.ref s.heap.objs.size /\ s₁={ s with heap:=s.heap.push { cls:=.type "dict",data:=.dict #[] } }) F.kt_called_dict (F.kt_typeCall_dict_1 _) F.entry_dict_init (kt_code_dict_new _ #[rfl,rfl]) ?_;rintro obj s₁ ⟨rfl,rfl⟩;have yW:(s.heap.push { cls:=.type "dict",data:=.dict #[] }).DictOf knd s.heap.objs.size []:=Heap.DictOf.new s.heap;have kU:=aN { cls:=.type "dict",data:=.dict #[] } hl;have ls:=a9 hl;refine#[yW.typeIs,F.args_dict_init_2 _ _,?_];refine ak ?_;refine ak<|abk yW.typeIs ?_;refine az ?_;refine ak<|tQ #[_,kU,rfl] ?_;refine ak<|BB kU hh λh1 tk k1=>?_;refine ak<|nU ?_;have l1:=k1 _ _ kU;refine ak<|wR #[_,l1,rfl,_,rfl] ?_;obtain⟨o0,e0⟩:∃ o,(s.heap.push { cls:=.type "dict",data:=.dict #[] }).get? s.heap.objs.size=ae o:=#[_,bB _ zc];have s1:=a9<|k1 _ _ e0;have up:∀ b o,s.heap.get? b=ae o->b<s.heap.objs.size /\ h1.get? b=ae o:=λb o e=>#[a9 e,k1 _ _<|aN _ e];refine az #[wY lR _,?_];refine ajs (A:=A.in1) (knd:=knd) hh (bI s1) (bI ls) (bI<|vB ls s1) (λq m=>?_) hz _ 0 _ [] zc (eC _) ?_ ?_ (λq m=>?_) ?_ (aE _) λh2 ZD k2 hd2=>?_
 .let#[#[o,ho,_],_]:=hq q m;have:=a9 ho;show#[bI this,bI<|vB this s1]
 .show#[_,bB _ zc,rfl,rfl]
 .show#[_,aN _ l1,rfl,_,rfl]
 .let#[#[o,ho,r],kk]:=hq q m;show#[#[o,aN _ (up _ _ ho).2,r],kk]
 .let#[o,es,ep,ho,r]:=yW;show#[o,es,ep,aN _<|k1 _ _ ho,r]
 .refine#[rfl,h h2 ZD (λb o e=>?_) hd2];have u:=up b o e;show k2 b o (bI u.1) (bI<|vB u.1 s1)<|aN _ u.2
end
end HT
namespace L2
open PySem.W
section
variable {s:au} 
theorem G3 (I:Inv X pins σ H s):∀ {ao:List (Key×V)}{ts:List aj},Paired (λ(q:Key×V) (t:aj)=>H t=ae (.tup [kV q.1,q.2])) ao ts ->
 ∃ its:List (aj×Key×ai×ai),its.map (·.1)=ts /\ (∀ q∈its,IsTup s.heap q.1 (List.toArray [q.2.2.1,q.2.2.2]) /\ (c6 X.prog X.w).is q.2.1 q.2.2.1=ah) /\ Paired (λ(p:Key×V) (q:aj×Key×ai×ai)=>p.1=q.2.1 /\ RelV p.2 q.2.2.2) ao its
 |_,_,.nil=>#[[],rfl,λ_ m=>(nomatch m),.nil]
 | (k,v)::_,t::_,.cons h r=>by
   let#[its,e,a,b]:=G3 I r;let#[us,ru,ht,_]:=I.tuple<|.of h;let#[u1,u2,rfl,r1,r2]:=vals2 ru;refine#[(t,k,u1,u2)::its,by rw[aL,e],λq m=>?_,.cons #[rfl,r2] b];rcases bw.mp m with rfl|m
   .refine#[ht,?_];cases k with
    |inl i=>let#[t,rfl]:=r1;simp[c6,ue,Value.isInt]
    |inr x=>let#[t,rfl]:=r1;simp[c6,ue,Value.isStrOf]
   .show a q m
theorem G4:∀ {ao:List (Key×V)}{its:List (aj×Key×ai×ai)}{l:List (Key×V)}{us:List (Key×ai)},Paired (λ(p:Key×V) (q:aj×Key×ai×ai)=>p.1=q.2.1 /\ RelV p.2 q.2.2.2) ao its->KV l us ->
 KV (ao.foldl (λa q=>putK a q.1 q.2) l) (its.foldl (λa q=>PySem.stored a q.2.1 q.2.2.2) us)
 |_,_,_,_,.nil,r=>r
 | (k,v)::_,q::_,_,_,.cons h t,r=>by
   have:=G4 t<|r.put k h.2;rw[show k=q.2.1 from h.1]at this ⊢;show this
theorem NV {l:List (Key×V)}{k:Key}:(putK l k v).length<=l.length+1:=by
 unfold putK;split<;>simp
theorem Bj:∀ (ao l:List<|Key×V),(ao.foldl (λa q=>putK a q.1 q.2) l).length<=l.length+ao.length:=by
 intro l_;induction l_ with
 |nil=>show λl=>aE _
 |cons q t ay=>
   intro l;have:=ay<|putK l q.1 q.2;have:=NV (l:=l) (k:=q.1) (v:=q.2);change (t.foldl _<|putK l q.1 q.2).length<=_;rw[bz];lia
def ae6 (K:Frag):List V->Hp->VK->zk:=λxs H Q=>∃ (a:aj) (ts:List aj) (ao:List<|Key×V),xs=[.ref a] /\ bN K H a (ts.map V.ref) /\ ts.length<=1000 /\ Paired (λ(q:Key×V) (t:aj)=>H t=ae (.tup [kV q.1,q.2])) ao ts /\ ∀ l,H l=ag->Q (.ref l) (upd H l<|.dK<|ao.foldl (λa q=>putK a q.1 q.2) [])
theorem Lg (hc:X.calm=ah):eE X (.type "dict") (ae6 X.K):=by
 intro pins s σ H xs us Q I r h;let#[a,ts,ao,rfl,hl,hz,hp,q]:=h;let#[_,rfl,rfl]:=vals1 r;let#[us,r',#[#[cl,dc,dt,sl],n,e1,e2,e3,e4],_]:=I.list hl;subst e2 e3 e4;let#[its,ei,hi,rel]:=G3 I hp;have eu:us=its.map λq=>Value.ref q.1:=by
  have:∀ {ts:List aj}{us},Vals (ts.map V.ref) us->us=ts.map Value.ref:=by
   intro ts;induction ts with
   |nil=>intro us r;cases r;rfl
   |cons t ts ih=>intro us r;cases r with|cons h t=>rw[ih t,h];rfl
  rw[this r',<-ei,bj];rfl
 subst eu;have ajw:its.length<=1000:=by rw[<-aR,ei];show hz
 refine HT.Aj (I.ok.hd hc) e1 ajw hi λh' tk kk dd=>?_;have kr:=G4 rel .nil;have zl:(ao.foldl (λa q=>putK a q.1 q.2)<|[]).length<=sizeLine:=by
  have:=Bj ao [];have e:=Paired.length rel;rw[bf];erw[pQ]at this;lia
 have nb:=beq_eq_false_iff_ne.mpr<|uP I.big;show#[.ref _,_,I.laid (o:=.dK<|ao.foldl (λa q=>putK a q.1 q.2) []) kk (aE _) #[zl,nb,_,kr,dd],rfl,q _<|I.aD.fresh<|aE _]
end
end L2
namespace L2.DL
open PySem.W
theorem Bn {α β:Type}{P Q:α->β->zk}(h:∀ a b,P a b->Q a b):∀ {l:List α}{m:List β},Paired P l m->Paired Q l m
 |_,_,.nil=>.nil
 |_,_,.cons a t=>.cons (h _ _ a)<|Bn h t
noncomputable def uJ:List D->Option (List<|Key×D)
 |[]=>ae []
 |.tup [.int k,d]::l=>(uJ l).map λr=>(.inl k,d)::r
 |_=>ag
def yo:List D->Option Res:=λxs=>match xs with
 |[.lst l]=>if l.length<=1000 then (uJ l).map λr=>.aB (r.foldl (λa q=>rG a q.1 q.2) []) else ag
 |_=>ag
theorem Lh:∀ {l:List D}{r:List (Key×D)}{vs:List V},uJ l=ae r->aG F l vs->∃ (ts:List aj) (ao:List<|Key×V),vs=ts.map V.ref /\ Paired (λ(q:Key×V) (t:aj)=>F t=ae (.tup [kV q.1,q.2])) ao ts /\ aK F r ao:=by
 intro l;induction l with
 |nil=>intro r vs e h;cases e;cases (h);show#[[],[],rfl,.nil,rfl]
 |cons x l ih=>
   intro r vs e h;unfold uJ at e;split at e
   .ext e0;cases e0
   .ext k d l' e0;cases e0;cases q:uJ l with
    |none=>rw[q]at e;cases e
    |some r'=>
      rw[q]at e;cases e;let#[v,t,rfl,#[a,ws,rfl,h1,h2],h3]:=h;let#[w1,t1,rfl,h4,w2,t2,rfl,h5,h6]:=h2;cases (h6);cases (h4);let#[ts,ao,rfl,p,d']:=ih q h3;show#[a::ts,(.inl k,w2)::ao,rfl,.cons h1 p,w2,ao,rfl,h5,d']
   .cases e
theorem B8 {F:Hp}:∀ {r:List (Key×D)}{ao:List (Key×V)}{l:List (Key×D)}{vs:List (Key×V)},aK F r ao->aK F l vs->aK F (r.foldl (λa q=>rG a q.1 q.2) l) (ao.foldl (λa q=>putK a q.1 q.2) vs)
 |[],_,_,_,h,g=>by cases (h);show g
 | (k,d)::r,_,_,_,⟨v,t,e,h1,h2⟩,g=>by
   subst e;have:=B8 h2<|aK.put (k:=k) g h1;show this
theorem ajx:km (ae6 K) yo:=by
 intro F H xs vs Q s sub rx e k;unfold yo at e;split at e
 .ext l;split at e
  .cases q:uJ l with
   |none=>rw[q]at e;cases e
   |some r=>
     rw[q]at e;cases e;let#[v,t,rfl,#[a,ws,rfl,h3,h4],h2]:=rx;cases (h2);let#[ts,ao,rfl,p,d]:=Lh q h4;have el:l.length=ts.length:=by rw[h4.length,aR]
     show#[a,ts,ao,rfl,.of h3,by lia,Bn (λ_ _ h=>sub _ _ h) p,λl hl=>k _ _ #[l,_,rfl,hl,rfl,B8 d zc]]
  .cases e
 .cases e
end L2.DL
namespace HT
open PySem.W
section
variable {s:au}
theorem Te {h:aI}:∀ {vs:List ai}{ns:List Int},IntsAre vs ns->dU h vs (ns.map aF.i)
 |_,_,.nil=>.nil
 |_,_,.cons n t r=>.cons #[t,rfl]<|Te r
theorem Tf {h:aI}:∀ {vs:List ai}{ns:List Int},dU h vs (ns.map aF.i)->IntsAre vs ns
 |_,[],.nil=>.nil
 |_,n::ns,.cons ⟨t,e⟩ r=>by subst e;show .cons n t<|Tf r
theorem CK:∀ a b:List Int,eT (a.map aF.i) (b.map aF.i)=ah
 |[],_=>rfl
 |_::_,[]=>rfl
 | a::l,b::m=>by
   have:=CK l m;unfold eT at this ⊢;rw[aL,aL,uQ,tX,this];rfl
theorem Li {d r:aj}{ao:List (L2.Key×ai)}(key:L2.Key×ai->List Int) (hh:A.handled=ag) (hu:A.units+8<cLine) (hv:s.heap.IsItemsView r d) (hm:s.heap.DictAt (L2.c6 prog w) d ao ep) (c5:ao.length<64)
 (hI:∀ q∈ao,∀ v,(L2.c6 prog w).is q.1 v=ah->IntsAre [v,q.2] (key q))
 (h:∀ (h':aI) (tk:Nat) (a:aj) (k:Nat) (qs:List<|aj×List Int),(∀ b o,s.heap.get? b=ae o->h'.get? b=ae o /\ b≠a /\ b∉qs.map (·.1))->a∉qs.map (·.1)->(qs.map (·.1)).Nodup->h'.get? a=ae (seqObj "list" (qs.map λq=>Value.ref q.1).toArray k) ->
  (∀ q∈qs,∃ vs,IsTup h' q.1 vs.toArray /\ IntsAre vs q.2)->(qs.map (·.2)).Perm (ao.map key)->qs.Pairwise (λa b=>lexLt (bu<|b.2.map aF.i) (bu<|a.2.map aF.i)=af)->Q (.ref a) { s with heap:=h',toks:=tk }) :
 wpAny zh A (call (.builtin "sorted") [.ref r]) Q E s:=by
 refine HS HC HD HE (HF _) ?_;unfold Builtin.«sorted»;refine ak<|az ?_;have h6:ao.length<=sizeLine:=cB (nh c5) ze;refine ak<|kdx_collect hh hv hm h6 λh1 tk as hk hl G=>?_;refine ak<|wW ?_ (by rw[aR,hl];show h6);generalize Z6:h1.push (seqObj "list" (as.map Value.ref).toArray 0)=h2;have uT:h2.get? h1.objs.size=ae (seqObj "list" (as.map Value.ref).toArray 0):=by rw[<-Z6];show bB _ zc
 have ae7:∀ b o,h1.get? b=ae o->h2.get? b=ae o:=λb o q=>by rw[<-Z6];show aN _ q
 change wpAny _ _ _ _ _ { s with heap:=h2,toks:=tk };have ajy:∃ ps:List (aj×List Int),ps.map (·.1)=as /\ ps.map (·.2)=ao.map key /\ ∀ p∈ps,rF (ao.map λq=>(key q).map aF.i) h2 (.ref p.1) (bu<|p.2.map aF.i):=by
  refine#[as.zip<|ao.map key,by rw[List.map_fst_zip];rw[aR];lia,by rw[Xf];rw[aR];lia,λp m=>?_];let#[j,hj]:=List.mem_iff_getElem?.mp m;let#[e1,e2]:=List.getElem?_zip_eq_some.mp hj;rw[kL]at e2;let#[q,e3,e4]:=Option.map_eq_some_iff.mp e2;let#[v,k,x,g1,g2,g3]:=G.pairs j p.1 e1;rw[e3]at g1;cases g1;have:=hI _ (qm e3) v g2;have t2:=e4▸this;have it:=Te (h:=h2) t2;have mm:p.2.map aF.i∈ao.map λq=>(key q).map aF.i:=by rw[<-e4];show bp.mpr #[_,qm e3,rfl]
  cases ek:p.2 with
  |nil=>rw[ek]at t2;cases t2
  |cons n l=>
    rw[ek]at it mm;show#[p.1,[v,x],n,l.map aF.i,rfl,#[_,ae7 _ _ g3,rfl,0,rfl],it,mm,rfl]
 let#[ps,p1,p2,p3]:=ajy;have HH:∀ v∈as.map Value.ref,∃ ns,rF (ao.map λq=>(key q).map aF.i) h2 v ns:=λv m=>by
  let#[a,ma,rfl]:=bp.mp m;rw[<-p1]at ma;let#[q,mq,rfl]:=bp.mp ma;show#[_,p3 q mq]
 refine ak<|eB<|eW HG #[_,uT,rfl] HI (Gr (b9<|ao.map λq=>(key q).map aF.i) uT HH za (λne=>BQ (λl m l2 m2=>by let#[x,_,rfl]:=bp.mp m;let#[y,_,rfl]:=bp.mp m2;show CK _ _) hu HH ne) (by rw[aR,hl];show c5) λout o1 o2=>#[_,rfl,az #[_,rfl,?_]])<|HJ _;let#[e,he]:=aca uT;have pm:out.toList.Perm (ps.map λq=>Value.ref q.1):=by
  rw[show (ps.map λq=>Value.ref q.1)=as.map Value.ref by rw[<-p1,bj];rfl];show o1
 let#[qs,q1,q2]:=L2.DL.EE pm zc;have ae8:h2.objs.size=h1.objs.size+1:=by rw[<-Z6,ud]
 have old:∀ b o,h1.get? b=ae o->(sortedHeap h2 h1.objs.size (as.map Value.ref) out).get? b=ae o:=λb o q=>by
  have lt:=a9 q;show(Xw (bI lt) (by rw[ae8];show pM lt)).trans (ae7 b o q)
 have mem:∀ a,a∈qs.map (·.1) ↔ a∈as:=λa=>by rw[<-p1];show(q2.map (·.1)).mem_iff
 refine h _ tk _ e qs (λb o q=>#[old b o<|hk b o q,bI<|a9<|hk b o q,λz=>?_]) (λz=>?_) ?_ ?_ (λq m=>?_) ?_ ?_
 .have:=G.above b<|(mem b).mp z;show absurd (a9 q)<|Nat.not_lt.mpr<|nh this
 .show absurd (G.there<|(mem _).mp z)<|hV _
 .have nd:=G.rise.imp λr=>bI r;rw[(q2.map (·.1)).nodup_iff,p1];show nd
 .rw[he];have:out=(qs.map λq=>Value.ref q.1).toArray:=by apply Array.toList_inj.mp;rw[q1]
  rw[<-this]
 .let#[b,vs,n,l,eb,#[o,t1,t2],t3,tm,t4]:=p3 q<|q2.mem_iff.mp m;cases eb;let#[y,_,ey]:=bp.mp tm;have t5:=L2.DL.code_inj (by rw[<-ey];show CK _ _) t4;refine#[vs,#[o,?_,t2],Tf<|t5▸t3];have ma:=(mem q.1).mp<|qT m;have lt:=G.there ma;show(Xw (bI lt) (by rw[ae8];show pM lt)).trans t1
 .rw[<-p2];show q2.map _
 .unfold u9 at o2;rw[q1,qp]at o2;show acM (λ{a b} ma mb r=>r _ _ (p3 a<|q2.mem_iff.mp ma)<|p3 b<|q2.mem_iff.mp mb) o2
end
end HT
namespace L2
open PySem.W
def rR (H:Hp):List (aj×HO)->Hp
 |[]=>H
 |q::l=>upd (rR H l) q.1 q.2
theorem As {b:aj}:∀ {l:List (aj×HO)},b∉l.map (·.1)->rR H l b=H b:=by
 intro l_;induction l_ with
 |nil=>show λ_=>rfl
 |cons q l ay=>
   intro h;rw[aL,bw,not_or]at h;change upd _ q.1 q.2 b=_;rw[fC h.1,ay h.2]
theorem R8 {b:aj}{u:HO}:∀ {l:List (aj×HO)},rR H l b=ae u->(b,u)∈l \/ H b=ae u:=by
 intro l_;induction l_ with
 |nil=>show λh=>.inr h
 |cons q l ay=>
   intro h;by_cases e:b=q.1
   .subst e;rw[show rR H _=upd _ q.1 q.2 from rfl,fw]at h;cases h;show .inl<|bD ..
   .rw[show rR H _=upd _ q.1 q.2 from rfl,fC e]at h;show(ay h).imp (bE _) id
theorem cz.any {o:HO}(x:cz P w H h a o):∃ u,h.get? a=ae u:=by
 cases o with
 |lst xs=>let#[_,_,_,_,e]:=x;show#[_,e]
 |tup xs=>let#[_,_,_,o,e,_]:=x;show#[_,e]
 |dK ao=>let#[_,_,_,_,o,_,_,e,_]:=x;show#[_,e]
 |dT ao=>let#[_,_,_,_,o,_,_,e,_]:=x;show#[_,e]
 |set S n=>let#[o,_,_,_,e,_]:=x;show#[_,e]
 |ins C dx fs=>let#[_,_,_,e,_]:=x;show#[_,e]
 |own y=>show x
 |xd fs=>let#[_,#[_,_,_,e,_],_]:=x;show#[_,e]
 |HY lo hi=>let#[_,_,_,e]:=x;show#[_,e]
 |bM ob u=>let#[e,_]:=x;show#[_,e]
 |uf ps=>show#[_,(x)]
 |met f y=>show#[_,(x)]
 |ext φ=>let#[_,#[_,e],_]:=x;show#[_,e]
section
variable {s:au} 
theorem Inv.ajz {l:List (aj×HO)}(I:Inv X pins σ H s) (k:∀ b u,s.heap.get? b=ae u->h'.get? b=ae u /\ b∉l.map (·.1)) (new:∀ q∈l,cz X.prog X.w (rR H l) h' q.1 q.2) :
 Inv X pins σ (rR H l) { s with heap:=h',toks:=t' }:=by
 have old:∀ b u,H b=ae u->rR H l b=ae u:=λb u e=>by
  let#[ob,eb]:=(I.aD b u e).any;rw[As (k b ob eb).2];show e
 refine I.un #[λb u q _ _ _=>(k b u q).1,λb u q _ _ _=>#[u.slots,(k b u q).1],λb u q n _=>(As (k b u q).2).trans n,λb u q _=>#[u,(k b u q).1],λb xs q=>old _ _ q,λb u xs q=>old _ _ q,λb ps q=>#[#[],by rw[old _ _ q];simp]] λb u e=>?_;rcases R8 e with m|m
 .show new _ m
 .show(I.aD b u m).stay (λc v _ q=>(k c v q).1) (λc q=>old _ _ q) λc xs q=>old _ _ q
end
section
variable {o:aq} {p pos cR:aC} {td:TE}
def ajA (td:TE):TE:=λσ H Q=>td σ H λx H1=>∃ (a:aj) (ps:List<|Int×Int),x=.ref a /\ Rd H1 a (.dK<|ps.map λp=>(Sum.inl p.1,V.int p.2)) /\ ps.length<64 /\ ∀ (bs:List<|aj×List Int) (l:aj),(∀ b∈bs,H1 b.1=ag)->H1 l=ag->l∉bs.map (·.1)->(bs.map (·.1)).Nodup->bs.map (λb=>b.2.map HT.aF.i)=DL.nP (ps.map λp=>[HT.aF.i p.1,.i p.2]) ->
 Q (.ref l) (upd (rR H1<|bs.map λb=>(b.1,.tup<|b.2.map V.int)) l<|.lst<|bs.map λb=>V.ref b.1)
noncomputable def Z7:Key×ai->List Int
 |(.inl i,.int j _)=>[i,j]
 |_=>[]
theorem R9:∀ {ps:List (Int×Int)}{vs:List (Key×ai)},KV (ps.map λp=>(Sum.inl p.1,V.int p.2)) vs->vs.map Z7=(ps.map λp=>[p.1,p.2]) /\ ∀ q∈vs,∃ i j t,q=(Sum.inl i,.int j t):=by
 intro l_;induction l_ with
 |nil=>(intro vs h;cases h;show#[rfl,λ_ m=>nomatch m])
 |cons p ps ay=>
   intro _ h;cases h with
   |@cons _ q _ vs h t=>
     let#[a,b]:=ay t;let#[k,x]:=q;let#[h1,t',h2]:=h;cases h1;cases h2;refine#[by rw[aL,aL,a];rfl,λq m=>?_];rcases bw.mp m with rfl|m
     .show#[_,_,_,rfl]
     .show b q m
theorem Bo:∀ {us:List ai}{ns:List Int},IntsAre us ns->Vals (ns.map V.int) us
 |_,_,.nil=>.nil
 |_,_,.cons n t h=>.cons #[t,rfl]<|Bo h
theorem Lj (hc:X.calm=ah) (hu:X.A.units+8<cLine) (hg:Gl X "sorted") (hm:X.mg "sorted"=ag) (ho:PE X o td) (hb:attributeBase o "items" X.env (eval o X.env)=eval o X.env) (hl:(apos.endLine==cR.line)=ah) {pos:aC} :
 PE X (.Call (.Name "sorted" p) [.Call (.Attribute o "items" apos) [] [] cR] [] pos) (ajA td):=by
 intro pins s σ H Q I h;have st:=DL.fH (e:=.Call (.Attribute o "items" apos) [] [] cR) zc [] X.env;refine tO<|jj I hg hm boot_sorted ?_ ze ze;refine callWith_builtin1 ?_ st<|DL.jG zc;rw[st];change wpAny _ _ (spliced ((af,eval (.Call (.Attribute o "items" apos) [] [] cR) X.env)::backTo pos (starEach [] X.env))) _ _ s;refine vH<|QU hb zc hl XF acG PySem.F.type_dict_items<|tE (ho pins s σ H _ I h) λu s1 x H1 I1 rx hh=>?_;let#[a,ps,ex,ea,c5,q1]:=hh;subst ex;obtain rfl:u=Value.ref a:=rx;let#[t1,t2,_]:=Fi I1<|.inl #[_,ea];refine#[t1,t2,HR zc<|af4 ?_];let#[zl,hd,vs,rel,dd]:=mV I1.aD ea;let#[ep,dat]:=dd.dictAt;let#[k1,k2]:=R9 rel;refine yz acG dd.typeIs PySem.F.entry_dict_items (PySem.F.args_dict_items_1 _) (meets_dict_items (c6 X.prog X.w) a hd) #[#[vs,dd],?_];have up:∀ b o,s1.heap.get? b=ae o->(s1.heap.push { cls:=.type "dict_items",data:=.fields (List.toArray [.ref a]) }).get? b=ae o:=λb o e=>aN _ e;have I2:Inv X pins σ H1 { s1 with heap:=s1.heap.push { cls:=.type "dict_items",data:=.fields (List.toArray [.ref a]) } }:=I1.kept up;have lv:vs.length=ps.length:=by
  have:=congrArg List.length k1;simpa using this
 refine vG<|HT.Li Z7 (I1.ok.hd hc) hu #[_,bB _ zc,rfl,rfl] (dat.push _) za (λq m v hv=>?_) λh' tk l k qs ok nl nd hL tp pm ord=>?_
 .let#[i,j,t,rfl]:=k2 q m;rcases fV (k:=Sum.inl i) hv with⟨i',t',e1,rfl⟩|⟨y,t',e1,rfl⟩
  .cases (show (Sum.inl i)=Sum.inl i' from e1);show .cons _ _<|.cons _ _ .nil
  .cases (show (Sum.inl i)=Sum.inr y from e1)
 .have fr:∀ b,(b=l \/ b∈qs.map (·.1))->H1 b=ag:=λb z=>by
   cases q:H1 b with
   |none=>rfl
   |some w=>
     let#[ob,eb]:=(I2.aD b w q).any;let#[_,o1,o2]:=ok b ob eb;show z.elim (λz=>absurd z o1) λz=>absurd z o2
  have so:qs.map (λb=>b.2.map HT.aF.i)=DL.nP (ps.map λp=>[HT.aF.i p.1,.i p.2]):=by
   refine DL.lE ?_ ?_ ?_
   .unfold DL.vb;rw[cY];intro a ma;rw[cY];intro b mb;let#[x,_,rfl]:=bp.mp ma;let#[y,_,rfl]:=bp.mp mb;show HT.CK [x.1,x.2] [y.1,y.2]
   .have:=(k1▸pm).map λl:List Int=>l.map HT.aF.i;rw[bj,bj]at this;show this
   .rw[qp];show ord
  have alN:qs.length<64:=by
   have:=pm.length_eq;erw[aR]at this;lia
  have alO:(64)<=sizeLine:=by decide
  have I3:=I2.ajz (t':=tk) (l:=(l,.lst<|qs.map λb=>V.ref b.1)::qs.map λb=>(b.1,HO.tup<|b.2.map V.int)) (λb u e=>by
   let#[o0,o1,o2]:=ok b u e;refine#[o0,?_];rw[aL,bw,bj];show λz=>z.elim o1 o2) (λq m=>by
   rcases bw.mp m with rfl|m
   .refine#[by rw[aR];lia,_,k,?_,hL];have:∀ l:List<|aj×List Int,Vals (l.map λp=>V.ref p.1) (l.map λp=>Value.ref p.1):=λl=>by
     induction l with
     |nil=>show .nil
     |cons a l ih=>show .cons zc ih
    show this qs
   .let#[q,mq,rfl]:=bp.mp m;let#[us,tu,iu]:=tp q mq;refine#[?_,us,Bo iu,tu];have m2:q.2∈vs.map Z7:=pm.mem_iff.mp<|qT mq;let#[q',m3,e3]:=bp.mp m2;let#[i,j,t,rfl]:=k2 q' m3;rw[<-e3];change (2:Nat)<=sizeLine;lia)
  show#[.ref l,_,I3,rfl,q1 qs l (λb m=>fr b.1<|.inr<|qT m) (fr l<|.inl zc) nl nd so]
end
end L2
namespace L2.DL
open PySem.W
section
variable {o:aq} {p pos cR:aC} 
noncomputable def yp:List (Key×D)->Option (List<|Int×Int)
 |[]=>ae []
 |(.inl k,.int v)::l=>(yp l).map ((k,v)::·)
 |_::_=>ag
theorem D0:∀ {l:List (Key×D)}{ao:List (Key×V)}{ps:List (Int×Int)},aK F l ao->yp l=ae ps->ao=ps.map λp=>(Sum.inl p.1,V.int p.2)
 | [],_,_,h,e=>by
   cases (h);cases e;rfl
 | (.inl k,.int v)::l,_,_,h,e=>by
   let#[u,t,rfl,h1,h2]:=h;let#[ns,e1,rfl]:=Option.map_eq_some_iff.mp<|e;cases (h1);rw[aL,D0 h2 e1]
 |(.inr _,_)::_,_,_,_,e=>by cases e
 |(.inl _,.non)::_,_,_,_,e=>by cases e
 |(.inl _,.bl _)::_,_,_,_,e=>by cases e
 |(.inl _,.str _)::_,_,_,_,e=>by cases e
 |(.inl _,.tup _)::_,_,_,_,e=>by cases e
 |(.inl _,.lst _)::_,_,_,_,e=>by cases e
 |(.inl _,.aB _)::_,_,_,_,e=>by cases e
theorem Sa:∀ ns:List Int,aG F ((ns.map HT.aF.i).map kG) (ns.map V.int):=by
 intro l_;induction l_ with
 |nil=>show rfl
 |cons n ns ay=>show#[_,_,rfl,rfl,ay]
theorem Rel.ajB:∀ {bs:List (aj×List Int)}{F:Hp},Rel T F r σ H env bx->(∀ b∈bs,H b.1=ag)->(bs.map (·.1)).Nodup->∃ F',bA F r F' r /\ Rel T F' r σ (rR H<|bs.map λb=>(b.1,.tup<|b.2.map V.int)) env bx /\ aG F' ((bs.map λb=>b.2.map HT.aF.i).map dG) (bs.map λb=>V.ref b.1):=by
 intro l_;induction l_ with
 |nil=>(intro F R _ _;show#[F,.refl F r,R,rfl])
 |cons b bs ay=>
   intro F R h nd;rw[aL,se]at nd;let#[F1,g1,R1,d1]:=ay R (λc m=>h c<|bE _ m) nd.2;have hn:rR H (bs.map λb=>(b.1,HO.tup<|b.2.map V.int)) b.1=ag:=by
    rw[As (by rw[bj];show nd.1)];show h b<|bD ..
   have g2:=R1.uq (o:=.tup<|b.2.map V.int) hn;show#[_,g1.trans g2,R1.xS hn,.cons #[b.1,_,rfl,fw,Sa b.2]<|aG.mono g2.s _ d1]
def EZ (bo:Bool) (m:DE W):DE W:=λenv bx=>fA zD λx bx1=>match (p8 bx1 x).bind yp with
 |some ps=>if ps.length<64 then cj bo (ae<|.lst<|(nP<|ps.map λp=>[HT.aF.i p.1,.i p.2]).map dG) bx1 else .bad
 |none=>.bad
theorem Lk (bo:Bool) (hc:X.calm=ah) (hu:X.A.units+8<cLine) (hg:Gl X "sorted") (hm:X.mg "sorted"=ag) (ho:PD X T Z o ma) (hb:attributeBase o "items" X.env (eval o X.env)=eval o X.env) (hl:(apos.endLine==cR.line)=ah) :
 PD X T Z (.Call (.Name "sorted" p) [.Call (.Attribute o "items" apos) [] [] cR] [] pos) (EZ bo ma):=by
 refine PE.imp (Lj hc hu hg hm ho hb hl) λσ H Q=>x4 λF r env bx R h=>#[F,r,env,bx,R,End.bind h λx bx1 F1 r1 v H1 g1 R1 d1 h1=>?_];split at h1
 .ext ps q;split at h1
  .ext c5;let#[l,q1,q2]:=Option.bind_eq_some_iff.mp q;let#[a,ao,rfl,k1,k2]:=AU R1 d1 q1;rw[D0 k2 q2]at k1;refine#[a,ps,rfl,k1,c5,λbs l hb hl nl nd so=>?_];let#[F2,g2,R2,d2]:=Rel.ajB R1 hb nd;rw[so]at d2;refine g9 R2 (End.weak g2 h1) #[l,_,rfl,?_,rfl,d2];rw[As (by rw[bj];show nl)];show hl
  .show h1.elim
 .show h1.elim
end
end L2.DL
namespace L2
open PySem.W
section
variable {pos:aC}
def ajC (i j k:Nat) (ta:TA):TS:=λD σ H=>ta σ H λvs H1=>∃ u v w,vs=[u,v,w] /\ D.nx (((σ.set i<|ae u).set j<|ae v).set k<|ae w) H1
theorem Sb {i k:Nat}{y z:Str}{a b d:aq}{ta:TA}{px py pz pt:aC}{kt k2 c7}(hc:X.calm=ah) (hN:X.N.Nodup) (hi:X.N[i]?=ae x) (hj:X.N[j]?=ae y) (hk:X.N[k]?=ae z) (uh:i≠j) (Z8:i≠k) (Z9:j≠k)
 (hx:X.env.scope.names.lookup x=ae .local) (hy:X.env.scope.names.lookup y=ae .local) (hz:X.env.scope.names.lookup z=ae .local) (ha:PA X [a,b,d] ta)
 (hw:swappedStores [.Tuple [.Name x px,.Name y py,.Name z pz] kt pt] (.Tuple [a,b,d] k2 c7) X.env=pure (ae [x,y,z]))
 (hs:swapsWithSole [.Tuple [.Name x px,.Name y py,.Name z pz] kt pt] (.Tuple [a,b,d] k2 c7) pos.line X.env=pure af) :
 PS X (.Assign [.Tuple [.Name x px,.Name y py,.Name z pz] kt pt] (.Tuple [a,b,d] k2 c7) pos) (ajC i j k ta):=by
 intro pins s σ H D I h;refine ak<|yu ?_;refine ak<|az ?_;refine ak<|Tuple_<|tA (ha _ pins s σ H _ I h) λus s1 vs H1 I1 r1 q1=>?_;let#[u,v,w,e1,q1]:=q1;subst e1;obtain ⟨u1,u2,u3,rfl,ru,rv,eO⟩:∃ u1 u2 u3,us=[u1,u2,u3] /\ RelV u u1 /\ RelV v u2 /\ RelV w u3:=by
  cases r1 with
  |cons p q=>
    cases q with
    |cons p' q'=>
      cases q' with
      |cons ajD ajE=>
        cases ajE;show#[_,_,_,rfl,p,p',ajD]
 refine eV ?_ (by change 3<=sizeLine;decide);have I2:Inv X pins σ H1 { s1 with heap:=s1.heap.push { cls:=.type "tuple",data:=.seq [u1,u2,u3].toArray } }:=I1.kept λb o e=>aN _ e;rw[hw];refine ak<|az ?_;change wpAny zf X.A (do rule "assign.swapped-stores";let items <-unpackItems (.ref s1.heap.objs.size) 3 ag;assignInOrder [λv=>bindName X.env z v,λv=>bindName X.env y v,λv=>bindName X.env x v] items.reverse;pure Flow.next) _ _ _;refine ak<|nU<|ak<|abY (items:=(List.toArray [u1,u2,u3])) (I.ok.hd hc) (IsTup.new s1.heap _) λh' xF=>?_;have I3:=I2.kept (t':=s1.toks) λb o e=>xF b o (bI<|a9 e) e;change wpAny _ _ (assignInOrder [λv=>bindName X.env z v,λv=>bindName X.env y v,λv=>bindName X.env x v] [u3,u2,u1] >>= λ_=>pure Flow.next) _ _ _;refine ak<|xm<|yw<|iQ I3 hN hk (.inl hz) eO (λs2 I4=>?_)<|.inr hz;refine xm<|yw<|iQ I4 hN hj (.inl hy) rv (λs3 I5=>?_)<|.inr hy;refine xm<|yw<|iQ I5 hN hi (.inl hx) ru (λs4 I6=>Xo<|az ?_)<|.inr hx;rw[Hm _ _<|Ne.symm uh,Hm _ _<|Ne.symm Z8,Hm _ _<|Ne.symm Z9]at I6;show#[_,H1,I6,q1]
end
end L2
namespace L2.DL
open PySem.W
section
variable {pos:aC}
def E2 (i j k:Nat) (m:DE zaf):aA:=λenv bx=>bC zD λws bx1=>match ws with|[x,y,z]=>.nx (((env.set i<|ae x).set j<|ae y).set k<|ae z) bx1|_=>.bad
theorem NW {a b d:aq}{ks:DE zaf}{y z:Str}{px py pz pt:aC}{kt k2 c7}(i j k:Nat) (hc:X.calm=ah) (hN:X.N.Nodup) (ha:dH X T Z [a,b,d] ks) (hi:X.N[i]?=ae x) (hj:X.N[j]?=ae y) (hk:X.N[k]?=ae z) (uh:i≠j) (Z8:i≠k) (Z9:j≠k)
 (hx:X.env.scope.names.lookup x=ae .local) (hy:X.env.scope.names.lookup y=ae .local) (hz:X.env.scope.names.lookup z=ae .local)
 (hw:swappedStores [.Tuple [.Name x px,.Name y py,.Name z pz] kt pt] (.Tuple [a,b,d] k2 c7) X.env=pure (ae [x,y,z]))
 (hs:swapsWithSole [.Tuple [.Name x px,.Name y py,.Name z pz] kt pt] (.Tuple [a,b,d] k2 c7) pos.line X.env=pure af) :
 cD X T Z (.Assign [.Tuple [.Name x px,.Name y py,.Name z pz] kt pt] (.Tuple [a,b,d] k2 c7) pos) (E2 i j k ks):=by
 refine PS.imp (Sb hc hN hi hj hk uh Z8 Z9 hx hy hz ha hw hs) λD σ H=>x4 λF r env bx R h=>?_;refine#[F,r,env,bx,R,End.bC h λws bx1 F1 r1 vs H1 g1 R1 d1 h1=>?_];split at h1
 .let#[u,t,rfl,q1,v,t2,rfl,q2,w,t3,rfl,q3,q4]:=d1;cases (q4);show#[u,v,w,rfl,h1 _ r1 _ _ zU<|((R1.set q1 i).set q2 j).set q3 k]
 .show h1.elim
end
end L2.DL
namespace K22
open L2 L2.DL
noncomputable section
def NX:aA:=(fu (gj<|fj aH.iN 2<|fc (dV 0) zI)<|fu (gj<|fj aS.io 1 zP)<|fu (fF (fj cn.gQ 2<|fc (fj cn.gq 2<|fc (dV 0) zI) zP)<|fe 3)<|fJ<|EZ af<|dV 3)
def iI:List W->List Bx->O W:=aX 4<|aP NX
def FW:aA:=(fJ<|fL af [ag,ae 0,ae 1,ae 2,ae 3] (dR<|fc (dC<|.int 10) ff) (fe 0) fM<|fL af [ag,ae 0,ae 1,ae 2,ae 3] (bq<|dV 4) (fe 0) fM<|fj aS.gn 5<|fc (dV 2)<|fc (dV 3)<|fc (dV 4)<|fc (dV 1) zas)
def gZ:List W->List Bx->O W:=aX 4<|aP FW
def D3:aA:=(fu (fF (fL af [ag] (bq<|dV 0) (fe 0) (dB<|eY ah<|dV 0)<|dV 0)<|fe 1)<|fu (aM (dB<|d2 af dF (fL af [ag] (bq<|cH af (dV 0) (cG<|d2 af cE (dN af bV zas)<|dN af bV zI) cQ) (fe 0) (dB<|eY af<|dV 0)<|dV 0)<|gN af ff) (fJ<|dC<|.bl af) aU)<|fJ<|d2 af aY (dV 1)<|dN af dW zI)
def jd:List W->List Bx->O W:=aX 2<|aP D3
def D4:aA:=(fu (fF (d2 af ax (dV 1)<|wg zd)<|fR 2<|fq (fe 6)<|fq (fe 7) fS)<|fu (E2 8 9 10<|fc (d2 af ax (d2 af ax (d2 af ax (dV 0) zd)<|dV 5) zd)<|fc (d2 af ax (d2 af ax (dV 0) zi)<|dV 4)<|fc (d2 af fK (dV 6)<|dC<|.int 40) ff)<|fu (dQ 11 12<|fc (fj aS.gn 5<|fc (dV 0)<|fc (dV 1)<|fc (dV 2)<|fc (dV 3)<|fc (dV 10) ff)<|fc (fj aS.gn 5<|fc (dV 0)<|fc (dV 1)<|fc (dV 2)<|fc (dV 3)<|fc (dV 7) ff) ff)<|fu (aM (dB<|d2 af dF (d2 af cE (dV 12)<|dV 11)<|d2 af ck (d2 af cE (dV 7)<|dV 10)<|d2 af ax (dV 8) zi) (fJ<|dC<|.bl af) aU)<|fu (aM (dB<|d2 af dF (d2 af cE (fj aS.gn 5<|fc (dV 0)<|fc (dV 1)<|fc (dV 2)<|fc (dV 3)<|fc (d2 af fK (dV 7)<|d2 af dS (dC<|.int 10)<|dC<|.int 39) ff)<|dV 12)<|d2 af ck (d2 af dS (dC<|.int 10)<|dC<|.int 39)<|d2 af ax (dV 8)<|dV 9) (fJ<|dC<|.bl af) aU)<|fu (fF (d2 af cE (fj aS.gn 5<|fc (dV 0)<|fc (dV 1)<|fc (dV 2)<|fc (dV 3)<|fc (dC<|.int 190) ff)<|fj aS.gn 5<|fc (dV 0)<|fc (dV 1)<|fc (dV 2)<|fc (dV 3)<|fc (dC<|.int 130) ff)<|fe 13)<|fJ<|d2 af aY (dV 13)<|d2 af ck (dC<|.int 60)<|d2 af ax (dV 8)<|dV 9)
def jf:List W->List Bx->O W:=aX 14<|aP D4
def Tg:aA:=(fu (iX (dR<|fc (dN af maxD<|fc zd<|fc (dN af minD<|fc (uA<|dV 0)<|fc zq ff) ff) ff) (fe 1)<|fu (fF (fj K1.jZ 1<|fc (fj K1.ib 2<|fc (dV 0) zI) ff)<|fe 2)<|fu (fF (fj aH.iY 1 zP)<|fe 3)<|fu (dQ 4 5<|fc (fj aH.iZ 4<|fc (dV 2)<|fc (dV 3)<|fc (dC<|.int 12)<|fc (dC<|.int 30) ff)<|fc (cH af (fj K2.jv 2<|fc (dV 2)<|fc (dC<|.int 9) ff) cQ<|cG zq) ff)<|fu (fF (d2 af fK (dC<|.int 200)<|fj K1.fm 2<|fc (dV 2)<|fc (dC<|.int 9) ff)<|fe 6)<|fu (fF (d2 af fK (d2 af fK (dV 6)<|dC<|.int 60)<|fj K1.fm 2<|fc (dV 2)<|fc (d2 af dS (dC<|.int 10)<|dC<|.int 30) ff)<|fe 7)<|fu (dQ 8 9<|fc (d2 af fK (dV 5)<|fO<|fc (fO<|fc (dV 6)<|fc (dV 7) ff) ff)<|fc (d2 af fK (dV 6)<|dC<|.int 40) ff)<|fu (fF (gN af zo)<|fe 10)<|fu (fF (d2 af fK (cH af (dV 10) cQ<|cG<|dC<|.int 7) zae)<|fe 10)<|fu (dQ 11 12<|fc (dN af yo<|fc (fj K22.iI 3 zQ) ff)<|fc (fj K22.gZ 4<|fc (dV 3)<|fc (dV 8)<|fc (dV 4)<|fc (dV 10) ff) ff)<|fu (fF (cS (fj aH.jx 2<|fc (dV 3) zar) "came")<|fe 13)<|fu (iX (dR<|fc (dC<|.int 10) ff) (fe 14) zE)<|fu (iX (bq<|fj K22.iI 3 zQ) (fR 2<|fq (fe 14)<|fq (fe 16) fS)<|aM (eG<|dB<|fj K22.jf 6<|fc (dV 3)<|fc (dV 8)<|fc (dV 4)<|fc (dV 14)<|fc (dV 16)<|fc (d2 af ax (cW (dV 13)<|dV 14) zq) ff) (fJ<|dC<|.bl af) aU)<|fu (fF (fj K1.fm 2<|fc (dV 2)<|fc (d2 af dS (dC<|.int 10)<|dC<|.int 39) ff)<|fe 17) zO)<|fJ<|dC<|.bl ah)
def CL:List W->List Bx->O W:=aX 20<|aP Tg
end
end K22
namespace vq
open L2 L2.DL K1 K2 dZ bG aH cn aS
theorem Th {A:List Bx}{q:Int}{th:At}{go:Al}{av wd:List D}(h:n<A.length):Bl (pt A n q) th ca go dr av wd=pt (Bl A th ca go dr av wd) n q:=by
 unfold Bl pt;rw[Hv _ _ h]
theorem jA {l:List α}(h:l.length=n+1):∃ x t,l=x::t /\ t.length=n:=by
 cases l with
 |nil=>cases h
 |cons x t=>show#[x,t,rfl,Nat.succ.inj h]
end vq
namespace K22
open L2 L2.DL K1 K2 dZ bG aH cn aS vq
theorem G5:∀ l:List (Option Int),PyData.canLayAll0 (bZ<|l.map oI)=ah /\ PyData.depthAll (bZ<|l.map oI)=0:=by
 intro l_;induction l_ with
 |nil=>show#[rfl,rfl]
 |cons i l ay=>
   let#[a,b]:=ay;cases i<;>simp[bZ,toPy,PyData.canLayAll0,PyData.canLay0,PyData.depthAll,PyData.depth,a,b]
theorem NY (f:α->List (Option Int)):∀ l:List α,PyData.canLayAll0 (bZ<|l.map λx=>.lst<|(f x).map oI)=ah /\ PyData.depthAll (bZ<|l.map λx=>.lst<|(f x).map oI)<=1:=by
 intro l_;induction l_ with
 |nil=>show#[rfl,eC _]
 |cons i l ay=>
   let#[a,b]:=ay;let#[c,d]:=G5<|f i;erw[aL,bZ,toPy,PyData.canLayAll0,PyData.canLay0,PyData.depthAll,PyData.depth,a,c];show#[rfl,by lia]
theorem NZ {l:List D}(c:PyData.canLayAll0 (bZ l)=ah) (d:PyData.depthAll (bZ l)<=1):dF (.lst l) (.lst l)=ae (.old<|.bl af):=by
 have o:kq (.lst l)=ah:=by
  unfold kq;simp[toPy,PyData.canLay0,PyData.depth,decide_eq_true_eq];lia
 have v:eqv _ _=ah:=agL _ (jR o).1;cases l with
 |nil=>rfl
 |cons x l=>
   change uz ah _ _=_;unfold uz;rw[o,v];rfl
section
variable {ps op:Al} 
abbrev qM (rl:List Int) (hold:Int) (op:Al) (kl:List<|Int×List Int) (ps:Al) (qs:List Pg) (hl:List Int) (l:Int):List (Option Int):=hl.map<|eA rl hold op kl ps qs l
theorem N0 (Z:Sc rs ks ps hd rl hold kl op gs qs) {hl:List Int}(ho:∀ h∈hl,0<=h) (hn:hl.length<=100) :
 K22.gZ [.d zb,.d zH,.d zm,.d<|.lst<|hl.map D.int] B=.val (.d<|.lst ((List.range 10).map λi:Nat=>.lst<|(qM rl hold op kl ps qs hl<|0+(i:Int)).map oI)) B:=by
 have z:=bf;refine fY<|fZ<|EO (l:=List.range 10) _ ((lN zc ze).trans (by rw[bj];rfl)) zc (by rw[vE];lia) λi mi=>?_;rw[bj];have:=List.mem_range.mp mi;show EO _ (gf zc) zc (by lia) λh mh=>cV<|NR Z za za<|ho h mh
theorem Ll (Z:Sc rs ks ps hd rl hold kl op gs qs) (l:Int):∀ {hl:List Int},hl.Pairwise (·<=·)->∃ (n:Nat) (vs:List Int),qM rl hold op kl ps qs hl l=List.replicate n ag++vs.map ae /\ vs.Pairwise (·<=·) /\ n+vs.length=hl.length:=by
 intro l_;induction l_ with
 |nil=>show λ_=>#[0,[],rfl,.nil,rfl]
 |cons h t ay=>
   intro p;rw[kO]at p;cases e:eA rl hold op kl ps qs l h with
   |none=>
     let#[n,vs,e1,p1,l1]:=ay p.2;refine#[n+1,vs,?_,p1,by rw[bz];lia];change eA rl hold op kl ps qs l h::qM rl hold op kl ps qs t l=_;rw[e,e1];rfl
   |some v=>
     have key:∀ {t}{v h},eA rl hold op kl ps qs l h=ae v->t.Pairwise (·<=·)->(∀ x∈t,h<=x)->∃ vs,qM rl hold op kl ps qs t l=vs.map ae /\ (v::vs).Pairwise (·<=·) /\ vs.length=t.length:=by
      intro t;induction t with
      |nil=>intro v h _ _ _;show#[[],rfl,by simp,rfl]
      |cons x t ih=>
        intro v h e p q;rw[kO]at p;let#[u,eu,le]:=R0 Z (q x<|bD ..) e;let#[vs,e1,p1,l1]:=ih eu p.2 p.1;refine#[u::vs,?_,?_,by rw[bz,bz,l1]]
        .change eA rl hold op kl ps qs l x::qM rl hold op kl ps qs t l=_;rw[eu,e1];rfl
        .rw[kO];refine#[λy m=>?_,p1];rcases bw.mp m with rfl|m
         .show le
         .show acd le<|(kO.mp p1).1 y m
     let#[vs,e1,p1,l1]:=key e p.2 p.1;refine#[0,v::vs,?_,p1,by rw[bz,bz,l1];lia];change eA rl hold op kl ps qs l h::qM rl hold op kl ps qs t l=_;rw[e,e1];rfl
end
theorem Sd {vs:List Int}(p:vs.Pairwise (·<=·)) (h:vs.length<64):dW [.lst<|vs.map D.int]=ae (.lst<|vs.map D.int):=by
 have:sP [.lst<|vs.map D.int]=ae (.lst<|vs.map D.int):=by
  erw[sP,K1.lO,bS,(acP (λa b _ _ x y=>acb x y) (gJ vs) p<|f9 vs)];rw[if_pos h]
 unfold dW;rw[this]
theorem Ba {l:List D}(h:n<=l.length):DL.cutD l (ae (n:Int)) ag=l.drop n:=by
 have e:HT.ba l.length 0 (ae<|n)=n:=by rw[HT.Ak];lia
 unfold DL.cutD;rw[e];show vF (by unfold HT.ba;simp)
theorem Se {row:List (Option Int)}{vs:List Int}(e:row=List.replicate n ag++vs.map ae) (p:vs.Pairwise (·<=·)) (h:n+vs.length<60) :
 K22.jd [.d<|.lst<|row.map oI] B=.val (.d<|.bl ah) B:=by
 have z:sizeLine=16777216:=bf;have ln:row.length=n+vs.length:=by rw[e];simp
 have f1:row.filter Option.isSome=vs.map ae:=by
  rw[e,List.filter_append,List.filter_eq_nil_iff.mpr (λa m=>by rw[List.eq_of_mem_replicate m];simp),nW,List.filter_eq_self];intro a m;let#[v,_,rfl]:=bp.mp m;rfl
 have c1:=Kr (tf:=dB<|eY ah<|dV 0) (te:=dV 0) (env:=[ae<|.d<|.lst<|row.map oI,ag]) (src:=[ag]) (bx:=B) (mi:=bq<|dV 0) Option.isSome oI (gf zc) zc (by lia) λa _=>by cases a<;>show#[rfl,λ_=>rfl]
 rw[f1,bj,show oI∘ae=D.int from rfl]at c1
 have c2:=Kr (tf:=dB<|eY af<|dV 0) (te:=dV 0) (env:=[ae<|.d<|.lst<|row.map oI,xJ vs]) (src:=[ag]) (r:=[]) (bx:=B) (mi:=bq<|cH af (dV 0) (cG<|d2 af cE (dN af bV zas)<|dN af bV zI) cQ) Option.isNone oI (gf<|A9 (r:=.lst<|(vs.map ae).map oI) zc (GJ<|fE (x:=.int (row.map oI).length) (y:=.int (vs.map D.int).length) (r:=.old<|.int n) (iF (r:=.old<|.int (row.map oI).length) [.lst<|row.map oI] zc zc) (iF (r:=.old<|.int (vs.map D.int).length) [.lst<|vs.map D.int] zc zc) (by rw[aR,aR,ln];simp[cE])) zc (by
  erw[pF];rw[Ba (by rw[aR,ln];lia),<-List.map_drop,e,List.drop_left' zj])) zc (by rw[aR];lia) λa m=>by cases a<;>show#[rfl,λ_=>rfl]
 rw[List.filter_eq_nil_iff.mpr λa m=>by let#[v,_,rfl]:=bp.mp m;simp]at c2;show fY<|qS c1<|qF (f7<|fE (x:=.lst []) (y:=.lst []) (r:=.old<|.bl af) c2 zc zc)<|fZ<|fE (x:=.lst<|vs.map D.int) (y:=.lst<|vs.map D.int) (r:=.old<|.bl ah) zc (iF (r:=.lst<|vs.map D.int) [.lst<|vs.map D.int] zc<|Sd p za) (by erw[aY,K1.lO,decide_true])
theorem Sf {h:Int}{ps:Al}:∀ {gs:List Pg}{K R:Al}{n:Nat},dn K R n->∃ m,dn (pre h ps K R gs).1 (pre h ps K R gs).2 m /\ m<=n+gs.length:=by
 intro l_;induction l_ with
 |nil=>(intro K R n J;show#[n,J,aE _])
 |cons g gs ay=>
   intro K R n J;unfold pre;split
   .let#[m,j,l]:=ay<|J.nx g;show#[m,j,by rw[bz];lia]
   .show#[n,J,vC _ _]
theorem Sg {ps:Al}{h l:Int}:∀ {gs:List Pg}{K R:Al},look R l=ag->(taken ps K R gs).find? (k8 l)=ag->look (pre h ps K R gs).2 l=ag:=by
 intro l_;induction l_ with
 |nil=>(intro _ _ hr _;show hr)
 |cons g gs ay=>
   intro K R hr ht;unfold pre;split
   .unfold taken at ht;by_cases c:word ps K R g="takes"
    .rw[if_pos c,qQ]at ht;rw[(gx c).1,(gx c).2];cases ic:k8 l g with
     |true=>rw[ic]at ht;cases ht
     |false=>
       rw[ic]at ht;refine ay ?_ ht;cases g with
       |aO h' l' k r p w=>
         have:l≠l':=λe=>by subst e;simp at ic;show ic zc zc
         change look (put R l' r) l=ag;rw[DT,if_neg this];show hr
       |to h' l' r=>
         have:l≠l':=λe=>by
          subst e;simp[word,hr]at c;show absurd c ze
         change look (put R l' r) l=ag;rw[DT,if_neg this];show hr
       |out h' l'=>
         change look (hG R l') l=ag;rw[NP];split
         .rfl
         .show hr
    .rw[if_neg c]at ht;rw[(iz c).1,(iz c).2];show ay hr ht
   .show hr
section
variable {ps op:Al} 
theorem B9:∀ R:Al,yp (a7 R)=ae R
 |[]=>rfl
 | (a,b)::R=>by
   change (yp<|a7 R).map _=_;rw[B9 R];rfl
theorem N1 {R:Al}(h:m env B=.val (.d<|.aB<|a7 R) B) (l:R.length<64):EZ af m env B=.val (.d<|.lst<|(nP<|R.map λp=>[HT.aF.i p.1,.i p.2]).map dG) B:=by
 unfold EZ;rw[h,fT];have:(p8 B<|.d<|.aB _).bind yp=ae R:=(by show B9 R);erw[this];rw[if_pos l];rfl
theorem N2 (Z:Sc rs ks ps hd rl hold kl op gs qs) {h:Int}(h0:0<=h):∃ L:Al,L.Perm (pre h ps [] [] qs).2 /\ (L.map (·.1)).Nodup /\ L.length<=16 /\ ∀ B,K22.iI [.d zb,.d zm,.d<|.int h] B=.val (.d<|.lst<|L.map dP) B:=by
 let#[m,J,ml]:=Sf Ks;have zl:=Z.l;have lr:=J.lr;let#[L,e,p]:=EE (gX _) zc;refine#[L,p,(p.map _).nodup_iff.mpr J.nd,by rw[p.length_eq];lia,λB=>?_];have rv:=cn.GV (bx:=B) (h:=h) (S:=rN ps [] [] qs) Z.s Z.l B6;rw[Nx]at rv;refine fY<|qE (cV<|aH.oh Z.X.H Z.G)<|qE (cV<|G0 h0)<|qS (fG (fg (fG zc zc<|G1 Z) zc) zc rv)<|fZ ?_;rw[show (L.map dP)=(nP<|(pre h ps [] [] qs).2.map λp=>[HT.aF.i p.1,.i p.2]).map dG by rw[e,bj];rfl];show N1 zc za
end
structure Ou (op:Al) (b e:Int):zk where
 o:∃ n,op=n++[(b,e)] /\ ∀ p∈n,p.2<=130
 hb:200<=b /\ b<=300
 he:b+60<=e /\ e<=10 ^ 31
section
variable {ps op:Al} {l b e:Int}
theorem VQ (Z:Sc rs ks ps hd rl hold kl op gs qs) (O:Ou op b e) (hp:∀ g∈qs,aV g<=39) {y r:Int}(hr:aS.kJ ps qs l y=ae r) (hy:39<=y) (rt:List Int) :
 (∀ h,b+40<=h->h<e->dh rl hold op rt ps qs l h=rt.getD 0 0) /\ (∀ h,e<=h->dh rl hold op rt ps qs l h=rt.getD (rl.getD r.toNat 0).toNat 0) /\ ∀ h,130<=h->h<200->dh rl hold op rt ps qs l h=rt.getD (rl.getD r.toNat 0).toNat 0:=by
 let#[n,rfl,hn]:=O.o;have ⟨b1,b2⟩:=O.hb;have ⟨e1,e2⟩:=O.he;have f:=λ{h}(hh:39<h)=>DZ (rt:=rt) Z hp hr hy hh;let#[#[r0,r1],_]:=f (h:=40) ze;have c3:rl.getD r.toNat 0<=3:=by
  rw[ub,cL r1];show(Z.X.r _<|nG _).2
 have ⟨h1,h2⟩:=Z.X.h;refine#[λh x y=>?_,λh x=>?_,λh x y=>?_]
 .rw[(f za).2,Bm λp m=>by have:=hn p m;lia,if_pos za];have:4<=(h-b) / hold:=(Int.le_ediv_iff_mul_le za).mpr za;rw[show max 0 (rl.getD r.toNat 0-(h-b) / hold)=0 by lia];rfl
 .rw[(f za).2,Bm λp m=>by have:=hn p m;lia,if_neg za]
 .rw[(f za).2,Bm λp m=>by have:=hn p m;lia,if_neg za]
theorem AD {f:α->D}{l:List α}{v:α}(c0:0<=c) (h:l[c.toNat]?=ae v):ax (.tup<|l.map f) (.int c)=ae (.old<|f v):=by
 let#[hl,e]:=List.getElem?_eq_some_iff.mp h;have:=FF (l.map f) c.toNat (by rw[aR];show hl);rw[show ((c.toNat))=c by lia,abT,e]at this;simp[ax,this,pT]
theorem Sh {f:α->D}{n:List α}{v:α}:ax (.tup<|(n++[v]).map f) (.int<|-1)=ae (.old<|f v):=by
 have:bF ((n++[v]).map f) (-1)=ae (f v):=by
  unfold bF cA;simp;rw[if_pos za,show (-1+((n.length:Int)+1)).toNat=(n.map f).length by rw[aR];lia];simp
 erw[ax,this,pT]
theorem Si {rt:List Int}(h:rt.length=4) (c0:0<=c) (c3:c<=3):ax (.tup<|rt.map D.int) (.int c)=ae (.old<|.int<|rt.getD c.toNat 0):=
 AD c0 (by rw[ub,cL za,yJ])
theorem VR {i k:Nat}{m:DE zaf}{x y z:W}(h:m env bx=.val [x,y,z] bx1):E2 i j k m env bx=.nx (((env.set i<|ae x).set j<|ae y).set k<|ae z) bx1:=by
 unfold E2;rw[h];rfl
theorem Sj (Z:Sc rs ks ps hd rl hold kl op gs qs) (O:Ou op b e) (hp:∀ g∈qs,aV g<=39) {y r:Int}(hr:aS.kJ ps qs l y=ae r) (hy:39<=y) {h0 k r0 p w:Int}(C:Cd Z l h0 k r0 p w q) :
 K22.jf [.d zb,.d zH,.d zm,.d<|.int l,.d<|.int r,.d<|.int k] B=.val (.d<|.bl ah) B:=by
 have ⟨b1,b2⟩:=O.hb;have ⟨e1,e2⟩:=O.he;let#[g1,g2,g3]:=VQ Z O hp hr hy q.2;have ⟨⟨ajF,aaa⟩,_⟩:=DZ (rt:=q.2) (h:=40) Z hp hr hy ze;have h9:h0<=39:=hp _ C.m;have ⟨_,⟨l0,l9⟩,_⟩:=Z.ok _ C.m;let#[t1,a1,a2]:=C.add za za λx h1 h2=>g1 x h1 h2;let#[t2,a3,a4]:=C.add (a:=e) (b:=e+10 ^ 39) za za λx h1 _=>g2 x h1;let#[t3,a5,a6]:=C.add (a:=130) (b:=190) za za λx h1 h2=>g3 x h1 za;have et:t2=t1+q.2.getD 0 0*(e-(b+40)):=Option.some.inj<|a3.symm.trans a2;have q4:=(Z.X.k q<|qm C.Y.hq).2.2;have rp:∀ {h:Int}{t:Int}{env:aQ}{m:DE W},0<=h->eA rl hold op kl ps qs l h=ae t->env[0]?=ae (ae<|.d zb)->env[1]?=ae (ae<|.d zH)->env[2]?=ae (ae<|.d zm)->env[3]?=ae (xN l)->m env B=.val (.d<|.int h) B->fj aS.gn 5 (fc (dV 0)<|fc (dV 1)<|fc (dV 2)<|fc (dV 3)<|fc m ff) env B=.val (.d<|.int t) B:=λ{h t env m} hh e i0 i1 i2 i3 hm=>by
  have v:=NR (B:=B) Z l0 l9 hh;rw[e]at v;show fG (l:=[.d zb,.d zH,.d zm,.d<|.int l,.d<|.int h]) (fg (by rw[gH,i0])<|fg (by rw[gH,i1])<|fg (by rw[gH,i2])<|fg (by rw[gH,i3])<|fg hm zc) zc v
 let#[n,eo,_]:=O.o;have cr:=Z.X.r (rl[r.toNat])<|nG aaa;have ec:rl.getD r.toNat 0=rl[r.toNat]:=by rw[ub,cL aaa,yJ]
 rw[ec]at a4 a6;have q9:∀ {c:Int},0<=c->c<=3->0<=q.2.getD c.toNat 0 /\ q.2.getD c.toNat 0<=9:=λ{c} c0 c3=>by
  rw[ub,cL (by rw[q4.1];lia),yJ];show q4.2 _<|nG _
 have mu:∀ {i c:Int},0<=c->c<=3->ck (.int i) (.int<|q.2.getD c.toNat 0)=ae (.old<|.int<|i*q.2.getD c.toNat 0):=λc0 c3=>by
  have:=q9 c0 c3;erw[ck];rw[if_pos (.inr #[by lia,by lia])]
 have ne:∀ {i j:Int},i=j->dF (.int i) (.int j)=ae (.old<|.bl af):=λh=>by subst h;simp[dF]
 have q0:=mu (i:=e-(b+40)) (c:=0) ze ze;have ra:∀ {m:DE W}{env:aQ}{c:Int},env[8]?=ae (ae<|.d<|.tup<|q.2.map D.int)->m env B=.val (.d<|.int c) B->0<=c->c<=3->d2 af ax (dV 8) m env B=.val (.d<|.int<|q.2.getD c.toNat 0) B:=λi8 hm c0 c3=>fE (r:=.old<|.int _) (by rw[gH,i8]) hm<|Si q4.1 c0 c3;refine fY<|qG (w:=.d<|dP (b,e)) (fE (x:=.tup<|op.map dP) (y:=.int<|-1) (r:=.old<|dP (b,e)) zc zc (by rw[eo];show Sh)) zc<|(fv<|VR (x:=.d<|.tup<|q.2.map D.int) (y:=.d<|.int rl[r.toNat]) (z:=.d<|.int<|b+40)<|fg (fE (x:=vp q) (y:=.int 1) (r:=.old<|.tup<|q.2.map D.int) (fE (x:=.tup ks) (y:=.int k) (r:=.old<|vp q) (fE (x:=hs rs ks ps hd) (y:=.int 1) (r:=.old<|.tup ks) zc zc zc) zc (by rw[Z.X.ek];show AD C.Y.k0 C.Y.hq)) zc zc)<|fg (fE (x:=.tup rs) (y:=.int r) (r:=.old<|.int rl[r.toNat]) (fE (x:=hs rs ks ps hd) (y:=.int 0) (r:=.old<|.tup rs) zc zc zc) zc (by rw[Z.X.er];show AD ajF (cL aaa)))<|fg (fE (x:=.int b) (y:=.int 40) (r:=.old<|.int<|b+40) zc zc zc) zc).trans<|(fv<|cn.lm<|fg (rp za a1 zc zc zc zc zc)<|fg (rp za a3 zc zc zc zc zc) zc).trans ?_;refine qF (f7<|fE (x:=.int<|t2-t1) (y:=.int<|(e-(b+40))*q.2.getD (0:Int).toNat 0) (r:=.old<|.bl af) (fE (x:=.int t2) (y:=.int t1) (r:=.old<|.int<|t2-t1) zc zc zc) (fE (r:=.old<|.int _) (fE (x:=.int e) (y:=.int<|b+40) (r:=.old<|.int<|e-(b+40)) zc zc zc) (ra (c:=0) zc zc (by decide) ze) q0)<|ne ?_) ?_
 .rw[et,ack<|e-(b+40)];change t1+q.2.getD 0 0*(e-(b+40))-t1=q.2.getD 0 0*(e-(b+40));lia
 refine qF (f7<|fE (y:=.int<|10 ^ 39*q.2.getD rl[r.toNat].toNat 0) (r:=.old<|.bl af) (fE (x:=.int<|t2+q.2.getD rl[r.toNat].toNat 0*(e+10 ^ 39-e)) (y:=.int t2) (r:=.old<|.int _) (rp za a4 zc zc zc zc<|fE (x:=.int e) (y:=.int<|10 ^ 39) (r:=.old<|.int<|e+10 ^ 39) zc (fE (r:=.old _) zc zc<|Ac ze) zc) zc zc) (fE (x:=.int<|10 ^ 39) (r:=.old<|.int _) (fE (r:=.old _) zc zc<|Ac ze) (ra zc zc cr.1 cr.2)<|mu cr.1 cr.2)<|ne ?_) ?_
 .rw[ack<|10 ^ 39,show e+10 ^ 39-e=10 ^ 39 by lia];lia
 refine qS (fE (x:=.int<|t3+q.2.getD rl[r.toNat].toNat 0*(190-130)) (y:=.int t3) (r:=.old<|.int _) (rp ze a6 zc zc zc zc zc) (rp ze a5 zc zc zc zc zc) zc)<|fZ<|fE (y:=.int<|60*q.2.getD rl[r.toNat].toNat 0) (r:=.old<|.bl ah) zc (fE (x:=.int 60) (r:=.old<|.int _) zc (ra zc zc cr.1 cr.2)<|mu cr.1 cr.2) ?_;have:t3+q.2.getD rl[r.toNat].toNat 0*(190-130)-t3=60*q.2.getD rl[r.toNat].toNat 0:=by lia
 rw[this];simp[aY]
end
theorem ae9 (h:n<bx.length) (p k:Int) (h0:0<k) (h1:k<10 ^ 40):∃ r q,(∀ {env:aQ}{i:Nat}{m:DE W}{p0:Int},env[i]?=ae (xB n)->m env (pt bx n p0)=.val (.d<|.int k) zY->fj K1.fm 2 (fc (dV i)<|fc m ff) env (pt bx n p0)=.val (.d<|.int r) (pt bx n q)) /\ 0<=r /\ r<k:=
 #[_,_,λhe hm=>fG (fg (by rw[gH,he])<|fg hm zc) zc<|DD h p k h0 h1,mI p h0,mJ p h0]
theorem Ca:∀ L:Al,uJ (L.map dP)=ae (a7 L)
 |[]=>rfl
 | (a,b)::L=>by
   change (uJ _).map _=_;rw[Ca L];rfl
theorem N3:∀ (L M:Al),((M++L).map (·.1)).Nodup->(a7 L).foldl (λa q=>rG a q.1 q.2) (a7 M)=a7 (M++L):=by
 intro l_;induction l_ with
 |nil=>(intro M _;rw[tW];rfl)
 |cons q L ay=>
   intro M nd;have e:rG (a7 M) (.inl q.1) (.int q.2)=a7 (M++[q]):=by
    unfold rG;rw[if_neg]
    .simp[bH]
    .rw[kC];rintro⟨x,m,h⟩;let#[y,my,rfl]:=bp.mp m;have h:(Sum.inl y.1:Key)=.inl q.1:=by simpa using h
     rw[rZ,aL,uR]at nd;show nd.2.2 y.1 (qT my) q.1 (bD ..)<|Sum.inl.inj h
   change (a7 L).foldl _ (rG _ _ _)=_;rw[e,ay _ (by rw[pO];show nd),pO];rfl
theorem Yj {L:Al}(nd:(L.map (·.1)).Nodup) (hl:L.length<=1000):yo [.lst<|L.map dP]=ae (.aB<|a7 L):=by
 change (if (L.map dP).length<=1000 then (uJ _).map _ else ag)=_;rw[if_pos (by rw[aR];show hl),Ca];change ae (Res.aB<|(a7 L).foldl _<|a7 [])=_;rw[N3 L [] nd];rfl
section
variable {ps op:Al} {l b e:Int}
theorem Sk (Z:Sc rs ks ps hd rl hold kl op gs qs) (hp:∀ g∈qs,aV g<=39) {y:Int}(hr:aS.kJ ps qs l y=ag) (hy:39<=y) {h:Int}(hh:40<=h):eA rl hold op kl ps qs l h=eA rl hold op kl ps qs l 40:=by
 rcases NS Z with c|⟨h0,k,r,p,w,q,C⟩
 .rw[NT c,NT c]
 .have h9:h0<=39:=hp _ C.m;let#[t,a,b]:=C.add za hh λx h1 _=>C.out hp hr hy za;rw[a,b,Int.zero_mul,Int.add_zero]
theorem Yk {f:Int->Option Int}:∀ hl:List Int,kF ((hl.map f).map oI) (hl.map D.int)=((hl.map λh=>(f h,h)).map λq:Option Int×Int=>D.tup [oI q.1,.int q.2]).map W.d:=by
 intro l_;induction l_ with
 |nil=>show rfl
 |cons h hl ay=>
   change W.d _::kF _ _=_;rw[ay];rfl
theorem Yl {f:Int->Option Int}{hl:List Int}(hn:hl.length<=100) (e:∀ h,40<=h->f h=f 40) {mr mh:DE W}(er:mr env B=.val (.d<|.lst<|(hl.map f).map oI) B) (eh:mh env B=.val (.d<|.lst<|hl.map D.int) B) :
 ∃ m:Nat,m<=100 /\ fL af [ag,ag] (p7<|fc mr<|fc mh ff) (fR 2 zK) (dB<|d2 af ny (dV 1)<|dC<|.int 40) (dV 0) env B=.val (.d<|.lst<|(List.replicate m<|f 40).map oI) B:=by
 have z:=bf;have eq:(((hl.map λh=>(f h,h)).filter λq=>decide (40<=q.2)).map λq=>oI q.1)=(List.replicate ((hl.map λh=>(f h,h)).filter λq=>decide (40<=q.2)).length<|f 40).map oI:=by
  rw[show (λq:Option Int×Int=>oI q.1)=oI∘Prod.fst from rfl,<-bj];congr 1;rw[List.eq_replicate_iff];refine#[aR ..,λx m=>?_];let#[q,mq,rfl]:=bp.mp m;let#[mm,hq]:=pR.mp mq;let#[h,_,rfl]:=bp.mp mm;show e h<|of_decide_eq_true hq
 refine#[((hl.map λh=>(f h,h)).filter λq=>decide (40<=q.2)).length,cB (tY ..) (by rw[aR];show hn),?_];rw[<-eq];refine gp ?_ zc<|vm (e:=λq:Option Int×Int=>D.tup [oI q.1,.int q.2]) (g:=fR 2 zK) (tf:=dB<|d2 af ny (dV 1)<|dC<|.int 40) (te:=dV 0) (B:=B) (J:=λe=>∃ a b,e=[a,b]) (λq=>decide (40<=q.2)) (λq=>oI q.1) (λ_=>#[_,_,rfl]) (hl.map λh=>(f h,h)) [ag,ag] [] zg #[_,_,rfl] (λq _ env ⟨a,b,e⟩=>by subst e;rfl) λq _=>#[f7<|fE (r:=.old<|.bl<|decide (40<=q.2)) zc zc zc,λ_=>rfl];unfold p7;rw[fg er<|fg eh rfl,fT,<-Yk]
theorem Sl (x:α) (m:Nat):(List.replicate m<|List.replicate (min 1 m) x).flatten=List.replicate m x:=by
 cases m with
 |zero=>rfl
 |succ m=>
   rw[show min 1 _=1 by lia,List.flatten_replicate_replicate,Nat.mul_one]
theorem Ym {m:Nat}(hm:m<=100) (v:Option Int) (e5:env[15]?=ae (ae<|.d<|.lst<|(List.replicate m v).map oI)):dB (d2 af dF (dV 15)<|d2 af ck (cH af (dV 15) cQ<|cG zd)<|dN af bV<|fc (dV 15) ff) env B=.val af B:=by
 have z:=bf;have v5:dV 15 env B=.val (.d<|.lst<|(List.replicate m v).map oI) B:=by rw[gH,e5]
 let#[c,d]:=G5<|List.replicate m v;have cu:DL.cutD ((List.replicate m v).map oI) ag (ae 1)=List.replicate (min 1 m) (oI v):=by
  unfold DL.cutD;rw[abU,HT.AA,show (ae<|1)=ae ((1:Nat):Int) from rfl,HT.Ak,xf,Xc,List.take_replicate];congr 1;lia
 have hl:((List.replicate m v).map oI).length=m:=by rw[aR,xf]
 refine f7<|fE v5 (fE (x:=.lst<|List.replicate (min 1 m)<|oI v) (y:=.int m) (r:=.lst<|(List.replicate m v).map oI) (A9 v5 zc zc (by erw[pF];rw[cu])) (iF (r:=.old<|.int m) [.lst<|(List.replicate m v).map oI] (fg v5 zc) (by erw[bV,hl])) ?_)<|NZ c za;erw[ck];rw[if_pos #[by lia,by lia,by rw[xf,nq];have:min 1 m*m<=1*m:=Nat.mul_le_mul_right _ za;lia],nq,Sl,abU]
end
noncomputable abbrev h7 (b:Int):List Int:=[0,5,20,40,150,b,b+40]
noncomputable abbrev h4 (b e:Int):List Int:=[(b+40+e) / 2,e,e+10 ^ 25,e+10 ^ 39]
def hM (b e:Int):List Int:=sortI<|HT.dist<|(h4 b e).filter λh=>decide (b+40<=h)
theorem N4 (b e:Int):(HT.dist<|(h4 b e).filter λh=>decide (b+40<=h)).length<=4:=by
 rw[pK.ji];show cB (pK.NK _)<|tY ..
theorem VS {b e h:Int}(m:h∈hM b e):b+40<=h /\ h∈h4 b e:=by
 unfold hM at m;rw[(f9 _).mem_iff,pK.ji,pK.NI]at m;show#[of_decide_eq_true (pR.mp m).2,(pR.mp m).1]
theorem Ti {op:Al}{b e:Int}(O:Ou op b e):(h7 b++hM b e).Pairwise (·<=·) /\ (∀ h∈h7 b++hM b e,0<=h /\ h<=10 ^ 41) /\ (h7 b++hM b e).length<=11:=by
 have ⟨b1,b2⟩:=O.hb;have ⟨e1,e2⟩:=O.he;have mm:∀ h∈hM b e,b+40<=h /\ h<=10 ^ 41:=λh m=>by
  let#[m1,m2]:=VS m;refine#[m1,?_];erw[bw,nX]at m2;lia
 refine#[List.pairwise_append.mpr #[?_,gJ _,λx mx y my=>?_],λh m=>?_,?_]
 .simp;lia
 .have:=(mm y my).1;erw[bw,nX]at mx;lia
 .rcases List.mem_append.mp m with m|m
  .erw[bw,nX]at m;lia
  .have:=mm h m;lia
 .have:=N4 b e;rw[cX];unfold hM;rw[(f9 _).length_eq];change 7+_<=11;lia
section
variable {b e:Int}
theorem Yn (e6:env[6]?=ae (xN b)) (e7:env[7]?=ae (xN e)) (e9:env[9]?=ae (xN<|b+40)) :
 gN af zo env B=.val (.d<|.lst<|(h7 b++h4 b e).map D.int) B:=by
 have z:sizeLine=16777216:=bf;have v6:dV 6 env B=.val (.d<|.int b) B:=by rw[gH,e6]
 have v7:dV 7 env B=.val (.d<|.int e) B:=by rw[gH,e7]
 have v9:dV 9 env B=.val (.d<|.int<|b+40) B:=by rw[gH,e9]
 have c:sO (b+40+e) 2:=by unfold sO;lia
 show mH ((h7 b++h4 b e).map D.int) (fg zc<|fg zc<|fg zc<|fg zc<|fg zc<|fg v6<|fg v9<|fg (fE (x:=.int<|b+40+e) (r:=.old<|.int<|(b+40+e) / 2) (fE (r:=.old<|.int<|b+40+e) v9 v7 zc) zc (by erw[nK];rw[if_pos c]))<|fg v7<|fg (fE (r:=.old<|.int<|e+10 ^ 25) v7 (fE zc zc<|Ac ze) zc)<|fg (fE (r:=.old<|.int<|e+10 ^ 39) v7 (fE (r:=.old _) zc zc<|Ac ze) zc) zc) zg
theorem VT (e9:env[9]?=ae (xN<|b+40)) (E3:env[10]?=ae (xJ<|h7 b++h4 b e)) :
 d2 af fK (cH af (dV 10) cQ<|cG<|dC<|.int 7) zae env B=.val (.d<|.lst<|(h7 b++hM b e).map D.int) B:=by
 have z:sizeLine=16777216:=bf;have v10:dV 10 env B=.val (.d<|.lst<|(h7 b++h4 b e).map D.int) B:=by rw[gH,E3]
 have hm:=N4 b e;have c:=Kr (tf:=dB<|d2 af ny (dV 0)<|dV 1) (te:=dV 0) (src:=[ag,ae 9]) (r:=[xN<|b+40]) (mi:=bq<|cH af (dV 10) (cG<|dC<|.int 7) cQ) (λh=>decide (b+40<=h)) D.int (gf<|A9 (r:=.lst<|(h4 b e).map D.int) v10 zc zc zc) (by simp[e9]) zg λh _=>#[f7<|fE (x:=.int h) (y:=.int<|b+40) (r:=.old<|.bl<|decide (b+40<=h)) zc zc zc,λ_=>rfl];refine fE (r:=.lst<|(h7 b++hM b e).map D.int) (A9 (i:=ag) (j:=ae 7) (r:=.lst<|(h7 b).map D.int) v10 zc zc zc) (iF (r:=.lst<|(hM b e).map D.int) [.lst<|((h4 b e).filter λh=>decide (b+40<=h)).map D.int] (fg c zc) ?_) ?_
 .change ((intsOf<|((h4 b e).filter λh=>decide (b+40<=h)).map D.int).bind λns=>if ns.length<4000 /\ (HT.dist ns).length<64 then ae (Res.lst<|(sortI<|HT.dist ns).map D.int) else ag)=_;rw[K1.lO,bS,if_pos #[yG (tY ..) (show (4:Nat)<4000 by decide),by lia]];rfl
 .have l4:(hM b e).length<=4:=by unfold hM;rw[(f9 _).length_eq];show hm
  change (if ((h7 b).map D.int).length+((hM b e).map D.int).length<=sizeLine then ae (Res.lst<|(h7 b).map D.int++(hM b e).map D.int) else ag)=_;rw[if_pos zg,<-rZ]
end
theorem Bp:∀ {op:Al}(n:Nat),dg op=ah->dg (op.take n)=ah
 |[],n,_=>by rw[List.take_nil];rfl
 |[p],n,_=>by cases n<;>simp[dg]
 |p::q::r,0,_=>rfl
 |p::q::r,1,_=>rfl
 | p::q::r,n+2,a=>by
   simp[dg,aJ]at a;have:=Bp (n+1) a.2;change dg _=ah;simp[dg,aJ];show#[a.1,this]
theorem Sm {op:Al}(ho:op.length<=4) (e8:env[8]?=ae (ae<|.d zH)) (E4:env[17]?=ae (xN c)) :
 dN af rn (fc (fL af [ag,ag,ae 17] (bq<|dV 8) (fR 2 zK) fM<|fO<|fc (d2 af fK (dV 0)<|dV 2)<|fc (d2 af fK (dV 1)<|dV 2) ff) ff) env B=.val (.d<|.tup<|(op.map<|qL c).map dP) B:=by
 have sz:=bf;rw[bj];show iF (r:=.tup<|op.map λx=>dP<|qL c x) [.lst<|op.map λx=>dP<|qL c x] (fg (gp (iO (by rw[gH,e8])) (by simp[E4])<|(vm (J:=λe=>∃ a b,e=[a,b,xN c]) (λ_=>ah) (λx=>dP<|qL c x) (λ_=>#[_,_,rfl]) op [ag,ag,xN c] [] zg #[_,_,rfl] (λx _ env ⟨a,b,e⟩=>by subst e;rfl) λx _=>#[rfl,λ_=>gm [.int<|x.1+c,.int<|x.2+c] (fg (fE (r:=.old<|.int<|x.1+c) zc zc zc)<|fg (fE (r:=.old<|.int<|x.2+c) zc zc zc) zc) zg]).trans (by rw[List.filter_eq_self.mpr λ_ _=>rfl];rfl)) zc) zc
theorem Sn (hg:gs.length<=100) (e4:env[4]?=ae (ae<|.d zm)) (E4:env[17]?=ae (xN c)) :
 fL af [ag,ae 17] (bq<|dV 4) (fe 0) fM (d2 af fK (fO<|fc (d2 af fK (d2 af ax (dV 0) zi)<|dV 1) ff)<|cH af (dV 0) (cG zd) cQ) env B=.val (.d<|.lst<|(gs.map<|sh c).map enc) B:=by
 have sz:=bf;rw[bj];show EO _ (gf (by rw[gH,e4])) (by simp[E4]) za λg _=>W3 c g B
theorem Yo {hl:List Int}(hn:hl.length<=100) (E3:env[10]?=ae (xJ hl)) (E4:env[17]?=ae (xN c)) :
 fL af [ag,ae 17] (bq<|dV 10) (fe 0) fM (d2 af fK (dV 0)<|dV 1) env B=.val (.d (.lst ((hl.map (·+c)).map D.int))) B:=by
 have sz:=bf;rw[bj];show EO (r:=[xN c]) _ (gf (by rw[gH,E3])) (by simp[E4]) za λh _=>fE (r:=.old<|.int<|h+c) zc zc zc
abbrev Kz:aA:=zE
abbrev aab:aA:=(aM (eG<|dB<|fj K22.jf 6<|fc (dV 3)<|fc (dV 8)<|fc (dV 4)<|fc (dV 14)<|fc (dV 16)<|fc (d2 af ax (cW (dV 13)<|dV 14) zq) ff) (fJ<|dC<|.bl af) aU)
theorem VU {f:α->D}{l:List α}{v:α}(c0:0<=c) (h:l[c.toNat]?=ae v):ax (.lst<|l.map f) (.int c)=ae (.old<|f v):=by
 let#[hl,e]:=List.getElem?_eq_some_iff.mp h;have:=FF (l.map f) c.toNat (by rw[aR];show hl);rw[show ((c.toNat))=c by lia,abT,e]at this;simp[ax,this,pT]
theorem Cb {L R:Al}(p:L.Perm R) (nd:(L.map (·.1)).Nodup) (l:Int):look L l=look R l:=by
 have afa:=(p.map _).nodup_iff.mp nd;cases h:look R l with
 |none=>
   cases h2:look L l with
   |none=>rfl
   |some v=>
     let#[x,mx,ex]:=jK h2;have:=jJ afa<|p.mem_iff.mp mx;rw[ex,h]at this;cases this
 |some v=>
   let#[x,mx,ex]:=jK h;have a:=jJ afa mx;have b:=jJ nd<|p.mem_iff.mpr mx;rw[ex]at a b;rw[b,<-a,h]
section
variable {ps op:Al} {b e:Int} {L:Al} {E:aQ}
abbrev RW (rl:List Int) (hold:Int) (op:Al) (kl:List<|Int×List Int) (ps:Al) (qs:List Pg) (hl:List Int):D:=.lst ((List.range 10).map λi:Nat=>.lst<|(qM rl hold op kl ps qs hl<|0+(i:Int)).map oI)
theorem YO (Z:Sc rs ks ps hd rl hold kl op gs qs) (O:Ou op b e) (hp:∀ g∈qs,aV g<=39) (pL:L.Perm (pre (10 ^ 40-1) ps [] [] qs).2) (nd:(L.map (·.1)).Nodup) {i:Nat}(hi:i<10)
 (E3:E[10]?=ae (xJ<|h7 b++hM b e)) (ajG:E[11]?=ae (ae<|.d<|.aB<|a7 L)) (ajH:E[12]?=ae (ae<|.d<|RW rl hold op kl ps qs<|h7 b++hM b e)) (E5:E[14]?=ae (xN<|0+(i:Int))) (ajI:15<E.length) :
 Kz E B=.nx E B \/ ∃ w,Kz E B=.nx (E.set 15 w) B:=by
 let#[h1,h2,h3]:=Ti O;let#[n,vs,er,p,ln]:=Ll Z (0+(i)) h1;have afb:d2 af ax (dV 12) (dV 14) E B=.val (.d<|.lst<|(qM rl hold op kl ps qs (h7 b++hM b e)<|0+(i)).map oI) B:=fE (by rw[gH,ajH]) (by rw[gH,E5])<|VU (f:=λi:Nat=>D.lst<|(qM rl hold op kl ps qs (h7 b++hM b e)<|0+(i)).map oI) za (by rw[show (0+(i:Int)).toNat=i by lia];simp[hi]);have t1:=iq<|f7<|fG (fg (ks:=ff) afb zc) zc<|Se (B:=B) er p za;have t2:=f7<|Dd (bx:=B) (e:=D.int) (L:=L) (k:=dV 14) (m:=dV 11) (env:=E) (l:=0+(i:Int)) ah (by rw[gH,E5]) (by rw[gH,ajG]);rw[show ((L.find? λq=>decide (q.1=0+(i:Int))).map (·.2))=look L (0+(i:Int)) from rfl]at t2;cases c:look L (0+(i:Int)) with
 |some r=>
   rw[c]at t2;show .inl<|qF t1<|(gz t2).trans zc
 |none=>
   rw[c]at t2;rw[Cb pL nd]at c;let#[m,hm,ef]:=Yl (B:=B) (f:=eA rl hold op kl ps qs<|0+(i:Int)) (hl:=h7 b++hM b e) za (λh hh=>Sk Z hp c ze hh) (env:=E) afb (mh:=dV 10) (by rw[gH,E3]);show .inr #[_,qF t1<|(iV t2).trans<|qS ef<|(gz<|Ym hm _ (by rw[pN ajI])).trans zc]
theorem YQ (Z:Sc rs ks ps hd rl hold kl op gs qs) (O:Ou op b e) (hp:∀ g∈qs,aV g<=39) (pL:L.Perm (pre (10 ^ 40-1) ps [] [] qs).2) (nd:(L.map (·.1)).Nodup) {x:Int×Int}(mx:x∈L) (hB:B[j]?=ae (.aB<|bH enc<|nS ps [] [] [] qs))
 (e3:E[3]?=ae (ae<|.d zb)) (e4:E[4]?=ae (ae<|.d zm)) (e8:E[8]?=ae (ae<|.d zH)) (ajJ:E[13]?=ae (xB j)) (E5:E[14]?=ae (xN x.1)) (ajK:E[16]?=ae (xN x.2)) :
 aab E B=.nx E B:=by
 have hr:aS.kJ ps qs x.1 (10 ^ 40-1)=ae x.2:=(Cb pL nd x.1).symm.trans<|jJ nd mx;rcases NS Z with c|⟨h0,k,r,p,w,q,C⟩
 .have:=Sg (h:=10 ^ 40-1) zc c;rw[show look (pre (10 ^ 40-1) ps [] [] qs).2 x.1=ae x.2 from hr]at this;cases this
 .have ca:=mL (l:=x.1) (v:=.aO h0 x.1 k r p w) (bx:=B) (env:=E) (k:=dV 14) (m:=dV 13) (by rw[gH,E5]) (by rw[gH,ajJ]) (l8 hB) (by rw[RY,C.c]);show(gz<|iq<|f7<|fG (fg (by rw[gH,e3])<|fg (by rw[gH,e8])<|fg (by rw[gH,e4])<|fg (by rw[gH,E5])<|fg (by rw[gH,ajK])<|fg (fE (y:=.int 3) (r:=.old<|.int k) ca zc zc) zc) zc<|Sj Z O hp hr ze C).trans zc
end
abbrev lB:aA:=(fu (fF (fj K1.jZ 1<|fc (fj K1.ib 2<|fc (dV 0) zI) ff)<|fe 2)<|fu (fF (fj aH.iY 1 zP)<|fe 3)<|fu (dQ 4 5<|fc (fj aH.iZ 4<|fc (dV 2)<|fc (dV 3)<|fc (dC<|.int 12)<|fc (dC<|.int 30) ff)<|fc (cH af (fj K2.jv 2<|fc (dV 2)<|fc (dC<|.int 9) ff) cQ<|cG zq) ff)<|fu (fF (d2 af fK (dC<|.int 200)<|fj K1.fm 2<|fc (dV 2)<|fc (dC<|.int 9) ff)<|fe 6)<|fu (fF (d2 af fK (d2 af fK (dV 6)<|dC<|.int 60)<|fj K1.fm 2<|fc (dV 2)<|fc (d2 af dS (dC<|.int 10)<|dC<|.int 30) ff)<|fe 7)<|fu (dQ 8 9<|fc (d2 af fK (dV 5)<|fO<|fc (fO<|fc (dV 6)<|fc (dV 7) ff) ff)<|fc (d2 af fK (dV 6)<|dC<|.int 40) ff)<|fu (fF (gN af zo)<|fe 10)<|fu (fF (d2 af fK (cH af (dV 10) cQ<|cG<|dC<|.int 7) zae)<|fe 10)<|fu (dQ 11 12<|fc (dN af yo<|fc (fj K22.iI 3 zQ) ff)<|fc (fj K22.gZ 4<|fc (dV 3)<|fc (dV 8)<|fc (dV 4)<|fc (dV 10) ff) ff)<|fu (fF (cS (fj aH.jx 2<|fc (dV 3) zar) "came")<|fe 13)<|fu (iX (dR<|fc (dC<|.int 10) ff) (fe 14) Kz)<|fu (iX (bq<|fj K22.iI 3 zQ) (fR 2<|fq (fe 14)<|fq (fe 16) fS) aab)<|fu (fF (fj K1.fm 2<|fc (dV 2)<|fc (d2 af dS (dC<|.int 10)<|dC<|.int 39) ff)<|fe 17) zO)
theorem YR:Tg=fu (iX (dR<|fc (dN af maxD<|fc zd<|fc (dN af minD<|fc (uA<|dV 0)<|fc zq ff) ff) ff) (fe 1) lB) (fJ<|dC<|.bl ah):=rfl
theorem Yp {B1:List Bx}{k:Str}(h:m env B=.val (.m<|ml n) B1) (hk:(ml n).lookup k=ae j):cS m k env B=.val (.b j) B1:=by
 unfold cS;rw[h,fT];simp[hk]
theorem VW {l:List D}:DL.cutD l ag (ae (n:Int))=l.take n:=by
 unfold DL.cutD;rw[HT.AA,HT.Ak,Xc,Hh];by_cases h:n<=l.length
 .rw[Hi h]
 .rw[vF za,vF za]
theorem Yq {op:Al}{ps:Al}{hl:List Int}:RW rl hold (op.map<|qL c) kl ps (qs.map<|sh c) (hl.map (·+c))=RW rl hold op kl ps qs hl:=by
 unfold RW;congr 2;funext i;congr 2;unfold qM;rw[bj];congr 1;funext h;show Yh
theorem YS (l:List Int) (k:Nat) (bx:List Bx) (xs:aQ) (hx:xs.length=18):∃ (ys:aQ) (bx':List Bx),ys.length=19 /\ lB (ae (.s l)::xN (k:Int)::xs) bx=.nx (ae (.s l)::ys) bx':=by
 iterate 12 (have h:=jA hx;clear hx;let#[_,xs,rfl,hx]:=h)
 have h:=jA hx;clear hx;let#[EU,xs,rfl,hx]:=h;have h:=jA hx;clear hx;let#[aac,xs,rfl,hx]:=h;have h:=jA hx;clear hx;let#[uK,xs,rfl,hx]:=h;have h:=jA hx;clear hx;let#[ajL,xs,rfl,hx]:=h;have h:=jA hx;clear hx;let#[ajM,xs,rfl,hx]:=h;have h:=jA hx;clear hx;let#[ajN,xs,rfl,hx]:=h;cases xj hx;have sz:=bf;let#[c,ec]:=Vc l k bx;let#[p,ep]:=WP c bx;obtain⟨A,hn,pA⟩:∃ A:List Bx,bx.length<A.length /\ bx++[Bx.lst [D.int p]]=pt A bx.length p:=
  #[bx++[.lst [.int p]],by simp,by unfold pt;simp]
 rw[pA]at ep;generalize bx.length=n at *;let#[rs,ks,ps,hd,q,eh,H]:=aH.Nn hn p;let#[rl,hold,kl,X]:=Yc H;let#[gs,q2,e2,nd,ok,gl]:=Nq (mo:=12) hn H q 30 ze ze ze ze;let#[on,q3,e3,O1]:=NQ (nr:=9) ze ze hn q2;let#[r9,q4,t9,alP,alQ]:=nC hn q3 9 ze ze;let#[E6,q5,ajO,alR,alS]:=ae9 hn q4 (10 ^ 30) ze ze;obtain⟨b,hb⟩:∃ b,b=200+r9:=#[_,rfl];obtain⟨e,he⟩:∃ e,e=b+60+E6:=#[_,rfl];have mt:∀ x∈on.take 3,x∈on:=λx m=>List.mem_of_mem_take m;have O:Ou (on.take 3++[(b,e)]) b e:=#[#[_,rfl,λx m=>by have:=O1.b x<|mt x m;lia],by lia,by lia];have ol:(on.take 3++[(b,e)]).length<=4:=by rw[cX,vD];change min 3 on.length+1<=4;lia
 have oa:dg (on.take 3++[(b,e)])=ah:=oU (Bp 3 O1.a) λx m=>by have:=O1.b x<|mt x m;lia
 have ob:∀ x∈on.take 3++[(b,e)],0<=x.1 /\ x.1<x.2:=λx m=>by
  rcases List.mem_append.mp m with m|m
  .have:=O1.b x<|mt x m;lia
  .rw[kN.mp m];show#[by change 0<=b;lia,by change b<e;lia]
 have eo:fK (.tup<|(on.take 3).map dP) (.tup [dP (b,e)])=ae (.tup<|(on.take 3++[(b,e)]).map dP):=by
  change (if ((on.take 3).map dP).length+1<=sizeLine then ae (Res.tup<|(on.take 3).map dP++[dP (b,e)]) else ag)=_;rw[if_pos (by rw[aR,vD];lia),rZ];rfl
 have ZV:pF (.tup<|on.map dP) ag (ae 3)=ae (.tup<|(on.take 3).map dP):=by erw[pF];rw[show (ae (3:Int))=ae ((3:Nat):Int) from rfl,VW,List.map_take]
 generalize on.take 3++[(b,e)]=op at *;let#[qs,pq,Ky,so]:=Cz nd za;have Z:Sc rs ks ps hd rl hold kl op gs qs:=#[X,#[λg m=>(ok g m).1,nd,gl],so gs<|.refl _,pq,Ky,ol,ob,oa];have hp:∀ g∈qs,aV g<=39:=λg m=>by have:=(ok g<|pq.mem_iff.mp m).2;lia
 let#[h1,h2,h3]:=Ti O;let#[L,pL,aad,lL,eL]:=N2 Z (h:=10 ^ 40-1) ze;let#[th,go,dr,e6,Q,oq]:=aS.RP (bx:=pt A n q5) H Z.l Z.so;rw[Th hn,gF]at e6;have LA:∀ q,La ps qs (pt (Bl A th (nS ps [] [] [] qs) go dr (uI ps [] [] qs)<|ET ps qs) n q) A.length dr:=λq=>by
  rw[<-Th hn,<-gF (bx:=A) (n:=n) (p:=q)];show#[ZR,aeV,oq,ZS]
 have hB:n<(Bl A th (nS ps [] [] [] qs) go dr (uI ps [] [] qs)<|ET ps qs).length:=by simp[Bl];lia
 generalize Bl A th (nS ps [] [] [] qs) go dr (uI ps [] [] qs) (ET ps qs)=B at *;generalize A.length=N at *;have rv:=λB=>N0 (B:=B) Z (hl:=h7 b++hM b e) (λh m=>(h2 h m).1) za;let#[vt,q6,t6,c0,c1]:=ae9 hB q5 (10 ^ 39) ze ze;have afc:=N0 (B:=pt B n q6) (Sc.sh Z c0) (hl:=(h7 b++hM b e).map (·+vt)) (λh m=>by
  let#[y,my,rfl]:=bp.mp m;have:=(h2 y my).1;change 0<=y+vt;lia) (by rw[aR];lia)
 have ajP:D.lst ((List.range 10).map λi:Nat=>.lst ((qM rl hold (op.map<|qL vt) kl ps (qs.map<|sh vt) ((h7 b++hM b e).map (·+vt))<|0+(i:Int)).map oI))=RW rl hold op kl ps qs (h7 b++hM b e):=Yq;rw[ajP]at afc
 let E:=λ(EU aac uK:Option W)=>([ae<|.s l,xN (k:Int),xB n,ae<|.d zb,ae<|.d zm,ae<|.d<|.tup<|(on.take 3).map dP,xN b,xN e,ae<|.d zH,xN<|b+40,xJ<|h7 b++hM b e,ae<|.d<|.aB<|a7 L,ae<|.d<|RW rl hold op kl ps qs<|h7 b++hM b e,xB<|N+1,EU,aac,uK,ajL,ajM,ajN]:aQ)
 let#[env1,b1,f1,wK,tM,rfl,rfl]:=lX (g:=fe 14) (body:=Kz) (λ_ env b=>∃ wK tM,env=E wK tM uK /\ b=pt B n q5) (fQ 0 10) 0 (E EU aac uK) (pt B n q5) #[_,_,rfl,rfl] (by
  rintro i w env b hw ⟨wK,tM,rfl,rfl⟩;let#[rfl,hi]:=Bd hw;rcases YO (B:=pt B n q5) (E:=E (xN<|0+(i:Int)) tM uK) Z O hp pL aad hi zc zc zc zc (by change 15<20;decide) with h|⟨w,h⟩
  .show#[E (xN<|0+(i:Int)) tM uK,_,_,_,rfl,h,_,_,rfl,rfl]
  .show#[E (xN<|0+(i:Int)) tM uK,_,E (xN<|0+(i:Int)) w uK,_,rfl,h,_,_,rfl,rfl])
 let#[bL,b2,f2,alT,alU,rfl,rfl]:=lX (g:=fR 2<|fq (fe 14)<|fq (fe 16) fS) (body:=aab) (λ_ env b=>∃ wK afd,env=E wK tM afd /\ b=pt B n q5) ((L.map dP).map W.d) 0 (E wK tM uK) (pt B n q5) #[_,_,rfl,rfl] (by
  rintro i w env b hw ⟨wK,afd,rfl,rfl⟩;let#[d,md,rfl]:=bp.mp<|qm hw;let#[x,mx,rfl]:=bp.mp md;show#[E (xN x.1) tM<|xN x.2,_,_,_,rfl,YQ (B:=pt B n q5) (E:=E (xN x.1) tM<|xN x.2) Z O hp pL aad mx (LA q5).c zc zc zc zc zc zc,_,_,rfl,rfl])
 have pl:∀ {env:aQ}{B:List Bx},env[3]?=ae (ae<|.d zb)->env[4]?=ae (ae<|.d zm)->fj K22.iI 3 zQ env B=.val (.d<|.lst<|L.map dP) B:=λ{env B} i3 i4=>fG (l:=[.d zb,.d zm,.d<|.int<|10 ^ 40-1]) (fg (by rw[gH,i3])<|fg (by rw[gH,i4])<|fg (fE (x:=.int<|10 ^ 40) (y:=.int 1) (r:=.old<|.int<|10 ^ 40-1) (fE (r:=.old _) zc zc<|Ac ze) zc zc) zc) zc<|eL B;let#[rc,rd]:=NY (λi:Nat=>qM rl hold op kl ps qs (h7 b++hM b e)<|0+(i:Int))<|List.range 10;refine#[_,_,?_,qS (fG (fg (fG (fg zc<|fg zc zc) zc ec) zc) zc ep) (qS (fG (fg zc zc) zc eh) ((fv<|cn.lm<|fg (fG (l:=[.b n,.d zb,.d<|.int 12,.d<|.int 30]) zc zc e2)<|fg (A9 (x:=.tup<|on.map dP) (i:=ag) (j:=ae 3) (r:=.tup<|(on.take 3).map dP) (fG (l:=[.b n,.d<|.int 9]) zc zc e3) zc zc ZV) zc).trans (qS (fE (x:=.int 200) (y:=.int r9) (r:=.old<|.int b) zc (t9 zc zc) (by rw[hb];rfl)) (qS (fE (x:=.int<|b+60) (y:=.int E6) (r:=.old<|.int e) (fE (x:=.int b) (y:=.int 60) (r:=.old<|.int<|b+60) zc zc zc) (ajO zc<|fE (r:=.old _) zc zc<|Ac ze) (by rw[he];rfl)) ((fv<|cn.lm<|fg (fE (x:=.tup<|(on.take 3).map dP) (y:=.tup [dP (b,e)]) (r:=.tup<|op.map dP) zc (gm [dP (b,e)] (fg (gm [.int b,.int e] zc zg) zc) zg) eo)<|fg (fE (x:=.int b) (y:=.int 40) (r:=.old<|.int<|b+40) zc zc zc) zc).trans (qS (Yn zc zc zc) (qS (VT zc zc) ((fv<|cn.lm<|fg (iF (r:=.aB<|a7 L) [.lst<|L.map dP] (fg (pl zc zc) zc)<|Yj aad za)<|fg (fG (l:=[.d zb,.d zH,.d zm,.d<|.lst<|(h7 b++hM b e).map D.int]) zc zc<|rv _) zc).trans (qS (Yp (fG (l:=[.d zb,.d zm]) zc zc e6) ZW) ((fv<|(iW (l:=fQ 0 10)<|lN (j:=10) zc ze).trans f1).trans ((fv<|(iW<|gf<|pl zc zc).trans f2).trans (qS (t6 zc<|fE (r:=.old _) zc zc<|Ac ze) (qS (Sm ol zc zc) (qS (Sn za zc zc) ((gz (f7 (fE (x:=RW rl hold op kl ps qs<|h7 b++hM b e) (y:=RW rl hold op kl ps qs<|h7 b++hM b e) (r:=.old<|.bl af) (fG (l:=[.d zb,.d<|.tup<|(op.map<|qL vt).map dP,.d<|.lst<|(gs.map<|sh vt).map enc,.d (.lst (((h7 b++hM b e).map (·+vt)).map D.int))]) (fg zc<|fg zc<|fg zc<|fg (Yo za zc zc) zc) zc afc) zc<|NZ rc rd))).trans zc)))))))))))))))];rfl
theorem ajQ (l:List Int) (bx:List Bx) (xs:aQ):∃ c:Nat,dR (fc (dN af maxD<|fc zd<|fc (dN af minD<|fc (uA<|dV 0)<|fc zq ff) ff) ff) (ae (.s l)::xs) bx=.val (fQ 0 c) bx:=by
 have e3:=iF [.int 1,.int<|min (l.length) 3] (g:=maxD) (fg (m:=dC _) zc<|fg (iF (env:=ae (.s l)::xs) (bx:=bx) _ (fg (m:=uA<|dV 0) zc<|fg (m:=dC _) (ks:=ff) zc zc)<|S8 _ _) (ks:=ff) zc) zc;generalize hz:(if min (l.length:Int) 3>1 then min (l.length:Int) 3 else 1)=z at e3;show#[z.toNat,lN (fg e3 zc) za]
theorem law_true (l:List Int) (hl:l.length<=1000):∃ bx',K22.CL [.s l] []=.val (.d<|.bl ah) bx':=by
 let#[c,ec]:=ajQ l [] _;let#[aT,bx',e,ys,rfl,hy]:=lX (g:=fe 1) (λ_ env b=>∃ ys,env=ae _::ys /\ ys.length=19) (fQ 0 c) 0 (ae _::List.replicate 19 ag) [] #[_,rfl,rfl] (by
  rintro i w env b hw ⟨ys,rfl,hy⟩;let#[k,_,rfl]:=bp.mp<|qm hw;let#[x,ys,rfl,h]:=jA hy;let#[zs,bx',hz,e]:=YS l k b ys h;show#[ae _::ae _::ys,b,_,_,by rw[acg];rfl,e,zs,rfl,hz])
 refine#[_,lP (bx':=bx') ?_];show(fv<|(iW ec).trans e).trans (fZ zc)
end K22
namespace L2.DL
open PySem.W
structure Cf where
 N:List Str
 nm:List (Str×NameKind)
 f:Bool
 bx:List Str
 dc:List Str
 wk:List (Str×Nat)   -- 1: a tuple of alV,2: a box that is walked,3: a dict with tuple keys
 KA:Str
 fs:List (Str×(Nat×(List W->List Bx->O W)))
 gl:List (Str×Int)
 bl:List Str
 rb:Bool
 ow:List Str
structure cK (c:Cf) (k:Nat) (X:Cx) (Z:Xs):zk where
 N:X.N=c.N
 nm:X.env.scope.names=c.nm
 kd:X.env.scope.kind=.function
 calm:X.calm=ah
 fn:c.f=ah->∀ x,X.fn x=ah
 ow:∀ x,x∈c.ow->X.fn x=ah
 nd:c.N.Nodup
 room:dE k X.A
 fs:∀ x n fn,c.fs.lookup x=ae (n,fn)->∃ kk ps,sW X.prog X.w X.K X.mg X.base Z.cl kk x ps fn /\ ps.length=n /\ kk<=k
 gl:∀ x v,c.gl.lookup x=ae v->∃ t,X.mg x=ae (.int v t)
 bl:∀ x,x∈c.bl->X.mg x=ag
 ajR:Passes (qy X.prog X.w) X Z.E
 ti:pZ X.K "int"
 tb:pZ X.K "bool"
 tt:pZ X.K "tuple"
 tl:pZ X.K "list"
 own:PassesOwn zf X.A X.env X.xe
noncomputable def aW:DE α:=λ_ _=>.bad
section
variable {o:Option aq}
theorem fI:PD X T Z e aW:=λ_ _ _ _ _ _ h=>by
 let#[_,_,_,_,_,h]:=h;show h.elim
theorem iy:eQ X T Z e aW:=λ_ _ _ _ _ _ h=>by
 let#[_,_,_,_,_,h]:=h;show h.elim
theorem G6:sM X T Z e aW:=λ_ _ _ _ _ _ _ h=>by
 let#[_,_,_,_,_,h]:=h;show h.elim
theorem So:dH X T Z es aW:=λ_ _ _ _ _ _ _ h=>by
 let#[_,_,_,_,_,h]:=h;show h.elim
theorem CM:uv X T Z tg e aW:=λ_ _ _ _ _ _ h=>by
 let#[_,_,_,_,_,h]:=h;show h.elim
noncomputable def wL:DG:=λ_ _ _=>ag
noncomputable def afe:pB:=λ_ _ _=>ag
theorem lZ:kW X T e wL:=λ_ _ _ _ _ _ _ _ _ h=>by
 let#[_,_,_,_,_,_,_,h]:=h;show h.elim
theorem N5:uu X T es afe:=λ_ _ _ _ _ _ _ _ _ h=>by
 let#[_,_,_,_,_,_,_,h]:=h;show h.elim
end
noncomputable def Cf.kd (c:Cf) (x:Str) (n:Nat):Bool:=match c.wk.lookup x with|some k=>k==n|none=>af
def KC (c:Cf) (n:Nat):aq->Bool
 |.Name x _=>c.kd x n
 |.Subscript _ (.Constant (.str x) _ _) _=>c.kd x n
 |_=>af
noncomputable def wM (c:Cf):aq->Bool
 |.Name x _=>c.dc.contains x
 |.Subscript _ (.Constant (.str x) _ _) _=>c.dc.contains x
 |.Call (.Name x _) _ _ _=>c.dc.contains x
 |_=>af
noncomputable def Cf.ix (c:Cf) (x:Str):Option Nat:=c.N.findIdx? λy=>decide (y=x)
theorem Cf.E7 {c:Cf}{i:Nat}(h:c.ix x=ae i):c.N[i]?=ae x:=by
 let#[h1,h2,_]:=List.findIdx?_eq_some_iff_getElem.mp h;rw[cL h1,of_decide_eq_true h2]
noncomputable def Cf.KD (c:Cf) (x:Str):Bool:=(decide (c.nm.lookup x=ae .local)||decide (c.nm.lookup x=ae .cell)||decide (c.nm.lookup x=ae .free))&&!(x==("__debug__":Str))&&!(x==("__classdict__":Str))
noncomputable def Cf.E8 (c:Cf) (x:Str):Bool:=decide (c.nm.lookup x=ae .globalImplicit)&&!(x==("__debug__":Str))&&decide (x≠("__name__":Str))
noncomputable def Cf.wN (c:Cf) (x:Str):Bool:=(decide (c.nm.lookup x=ae .local)||decide (c.nm.lookup x=ae .cell))&&(c.f||decide (x∈c.ow)||decide (c.nm.lookup x=ae .local))
def Cf.nT (c:Cf) (x:Str):Bool:=c.E8 x&&decide (x∈c.bl)
section
variable {c:Cf} {k:Nat} {i:Nat} {pos:aC}
theorem cK.aff (O:cK c k X Z) (h:c.KD x=ah):xx X.env.scope x /\ (x==("__debug__":Str))=af /\ (x==("__classdict__":Str))=af:=by
 erw[Cf.KD,aJ,xc,decide_eq_true_eq,rV]at h;unfold xx;rw[O.nm];show#[or_assoc.mp h.1.1,h.1.2,h.2]
theorem cK.gb (O:cK c k X Z) (h:c.E8 x=ah):Gl X x /\ (x==("__debug__":Str))=af /\ x≠("__name__":Str):=by
 erw[Cf.E8,aJ,decide_eq_true_eq,rV]at h;unfold Gl Env.kindOf;rw[O.nm];show#[h.1.1,h.1.2,h.2]
theorem cK.lo (O:cK c k X Z) (h:c.wN x=ah):Loc X.env.scope x /\ (X.fn x=ah \/ X.env.scope.names.lookup x=ae .local):=by
 simp[Cf.wN,aJ,xc,decide_eq_true_eq]at h;unfold Loc;rw[O.nm];show#[h.1,h.2.imp (λz=>z.elim (λz=>O.fn z x)<|O.ow x) id]
theorem cK.blt (O:cK c k X Z) (h:c.nT x=ah):Gl X x /\ (x==("__debug__":Str))=af /\ x≠("__name__":Str) /\ X.mg x=ag:=by
 simp[Cf.nT,aJ,decide_eq_true_eq]at h;let#[a,b,d]:=O.gb h.1;show#[a,b,d,O.bl x h.2]
theorem cK.at (O:cK c k X Z) (h:c.ix x=ae i):X.N[i]?=ae x:=by rw[O.N];show c.E7 h
theorem cK.uL (O:cK c k X Z):X.N.Nodup:=by rw[O.N];show O.nd
theorem cK.u0 (O:cK c k X Z):X.A.units+100<cLine:=by have:=O.room.un;lia
theorem cK.u1 (O:cK c k X Z):X.A.units+1<cLine:=by have:=O.room.un;lia
def aae (c:Cf) (fz:Bool) (x:Str):DE W:=match c.ix x with
 |some i=>if c.KD x then (if fz&&c.bx.contains x then sR i else dV i) else aW
 | none=>match c.gl.lookup x with
   |some v=>if c.E8 x then dC (.int v) else aW
   |none=>aW
theorem N6 (O:cK c k X Z) (fz:Bool):PD X T Z (.Name x pos) (aae c fz x):=by
 unfold aae;split
 .ext i e;split
  .ext h;let#[a,b,d]:=O.aff h;split
   .show UB i (O.at e) a b d
   .show LQ i (O.at e) a b d
  .show fI
 .split
  .ext v e;split
   .ext h;let#[a,b,_]:=O.gb h;show Pk a (O.gl x v e) b
   .show fI
  .show fI
end
section
variable {c:Cf} {k:Nat} {pos:aC} {f:aq -> DE W} {t:aq -> DE Bool} {g:aq -> DG}
def wO (f:aq->DE W):List aq->DE zaf
 |[]=>ff
 |e::es=>if bJ e then fc (f e) (wO f es) else aW
theorem oV (h:∀ e,PD X T Z e<|f e):∀ es,dH X T Z es (wO f es)
 |[]=>jP
 | e::es=>by
   unfold wO;split
   .ext n;show lj (h e) (oV h es) n
   .show So
def aaf (f:aq->DE W):List aq->DE W
 |[]=>aW
 |[a]=>f a
 |a::r=>gC (f a)<|aaf f r
theorem G7 (h:∀ e,PD X T Z e<|f e):∀ es,PD X T Z (.BoolOp .And es pos) (aaf f es)
 |[]=>fI
 |[a]=>Ub<|h a
 |a::b::r=>Uc (h a)<|G7 h _
def aag (f:aq->DE Bool):List aq->DE Bool
 |[]=>aW
 |[a]=>f a
 |a::r=>nJ (f a)<|aag f r
theorem D5 (h:∀ e,eQ X T Z e<|t e):∀ es,sM X T Z (.BoolOp .And es pos) (aag t es)
 |[]=>G6
 |[a]=>LW<|h a
 |a::b::r=>OK (h a)<|D5 h _
def aah (f:aq->DE Bool):List aq->DE Bool
 |[]=>aW
 |[a]=>f a
 |a::r=>pd (f a)<|aah f r
theorem G8 (h:∀ e,eQ X T Z e<|t e):∀ es,sM X T Z (.BoolOp .Or es pos) (aah t es)
 |[]=>G6
 |[a]=>OJ<|h a
 |a::b::r=>Ua (h a)<|G8 h _
def KG (g:aq->DG):List aq->pB
 |[]=>fS
 |e::es=>if bJ e then fq (g e) (KG g es) else afe
theorem N7 (h:∀ e,kW X T e<|g e):∀ es,uu X T es (KG g es)
 |[]=>L3
 | e::es=>by
   unfold KG;split
   .ext n;show UK (h e) (N7 h es) n
   .show N5
end
def afg:Operator->Option (D->D->Option Res)
 |.Add=>ae fK|.Sub=>ae cE|.Mult=>ae ck|.FloorDiv=>ae nK|.Mod=>ae pE|.Pow=>ae dS
 |_=>ag
def vv:CmpOp->Option (D->D->Option Res)
 |.Eq=>ae aY|.NotEq=>ae dF|.Lt=>ae dJ|.LtE=>ae nO|.Gt=>ae nL|.GtE=>ae ny|.In=>ae (inD af)|.NotIn=>ae<|inD ah
 |_=>ag
theorem Sq {op:Operator}(h:afg op=ae g):∃ q,bc X (binaryOp op) q /\ cx q g:=by
 cases op<;>cases h
 .show#[_,O0,ahR]
 .show#[_,TM,ahS]
 .show#[_,Pe,ail]
 .show#[_,TQ,ahU]
 .show#[_,TR,ahV]
 .show#[_,L7,ahT]
theorem l5 (hu:X.A.units+100<cLine) (h:vv op=ae g):∃ q,bc X (compareOp op) q /\ cx q g:=by
 cases op<;>cases h
 .show#[_,Uy hu,aij]
 .show#[_,Uz hu,aik]
 .show#[_,UX za,ai6]
 .show#[_,UA za,aim]
 .show#[_,Wj,ahW]
 .show#[_,Wk,ahX]
 .show#[_,Jm.or<|UL hu,okIn af]
 .show#[_,Ck.or<|JN hu,okIn ah]
def aai:List (Str×(Bool×(String×(List D->Option Res)))):=
 [("len",af, "len",bV),("all",af, "all",dI),("any",af, "any",EH),("sorted",af, "sorted",dW),("max",af, "max",maxD),("min",af, "min",minD),
  ("tuple",ah, "tuple",rn),("list",ah, "list",xV),("int",ah, "int",intD),("dict",ah, "dict",yo)]
def ajS (X:Cx) (x:Str) (p:Bool×(String×(List D->Option Res))):zk:=
 match p with
 |(af,id,g)=>bootBuiltins x=ae (.builtin id) /\ ∃ q,eE X (.builtin id) q /\ km q g
 |(ah,id,g)=>bootBuiltins x=ae (.type id) /\ ∃ q,eE X (.type id) q /\ km q g
theorem jo {α:Type}{P:Str->α->zk}:∀ {l:List (Str×α)}{x:Str}{a:α},(∀ p∈l,P p.1 p.2)->l.lookup x=ae a->P x a
 |[],_,_,_,e=>by cases e
 | (y,b)::r,x,a,h,e=>by
   rw[kM]at e;cases hx:x==y with
   |true=>
     rw[hx]at e;cases e;have:x=y:=by simpa using hx
     subst this;show h _<|bD ..
   |false=>
     rw[hx]at e;show jo (λp m=>h p<|bE _ m) e
theorem Sr (hc:X.calm=ah) (hu:X.A.units+100<cLine) {p:Bool×(String×(List D->Option Res))}(h:aai.lookup x=ae p):ajS X x p:=by
 refine jo (λp m=>?_) h;simp[aai,bw,nX,or_false]at m;rcases m with rfl|rfl|rfl|rfl|rfl|rfl|rfl|rfl|rfl|rfl
 .show#[rfl,_,mQ,ahZ]
 .show#[rfl,_,Jy hc,ah3]
 .show#[rfl,_,JO hc,aiF]
 .show#[rfl,_,Fq hu,aiB]
 .show#[rfl,_,Jf hc,ah6]
 .show#[rfl,_,Jg hc,ah7]
 .show#[rfl,_,Bs,ah4]
 .show#[rfl,_,Cn,ah5]
 .show#[rfl,_,Jh,aiC]
 .show#[rfl,_,Lg hc,ajx]
noncomputable def aaj:List (Str×String):=[("int","int"),("bool","bool"),("tuple","tuple"),("list","list")]
theorem N8 {c:Cf}{k:Nat}(O:cK c k X Z) {n:String}(h:aaj.lookup x=ae n):pZ X.K n /\ bootBuiltins x=ae (.type n):=by
 refine jo (P:=λx n=>pZ X.K n /\ bootBuiltins x=ae (.type n)) (λp m=>?_) h;simp[aaj,bw,nX,or_false]at m;rcases m with rfl|rfl|rfl|rfl
 .show#[O.ti,rfl]
 .show#[O.tb,rfl]
 .show#[O.tt,rfl]
 .show#[O.tl,rfl]
noncomputable def KH:aq->Bool
 |.Call ..=>af
 |_=>ah
theorem jg {o:aq}{a:Str}{env:Env}{whole:Sem ai}(h:KH o=ah):attributeBase o a env whole=whole:=by
 cases o<;>first|rfl|cases h
noncomputable def plainT:aq->Bool
 |.BoolOp ..|.UnaryOp ..|.IfExp ..|.Compare ..=>af
 |_=>ah
theorem Lm {env:Env}(h:plainT e=ah) (whole:Sem ai):PySem.isTrue e env whole=(do let v <-whole;standAt e.pos;holding [v] (truthy v)):=by
 cases e<;>first|rfl|cases h
noncomputable def KI:aq->Bool
 |.Set ..=>af
 |_=>ah
theorem jL {env:Env}(h:KI e=ah) (x:ai):foldedSetIterable e env x=pure x:=by
 cases e<;>first|rfl|cases h
noncomputable def k8:aq->Bool
 |.ListComp ..|.SetComp ..|.DictComp ..=>ah
 |_=>af
theorem lS {t:Option aq}{l:Nat}{env:Env}(h:k8 e=af):swapsWith e t l env=pure af:=by
 cases e<;>first|rfl|cases h
noncomputable def E9:aq->Bool
 |.Slice ..=>af
 |_=>ah
section
variable {a b o:aq} {pos p:aC}
theorem Bq (h:E9 b=ah):Iq b:=λ_ _=>by
 cases b<;>first|rfl|cases h
theorem Ss (h:E9 b=ah):IU b:=λ_ _=>by
 cases b<;>first|rfl|cases h
theorem Ha {env:Env}(h:bJ e=ah):((backTo pos<|starEach [e] env).all (λx=>!x.1)&&(backToKw pos<|keywordEach [] env).all (λx=>x.1.isSome)&&decide zad)=ah:=by
 rw[fH h];rfl
theorem Yr {Q:VK}(h:tD T Z (eY af ma) σ H Q):ac2 (tD T Z ma) σ H Q:=by
 let#[F,r,env,bx,R,h]:=h;refine#[F,r,env,bx,R,End.bind h λx bx1 F1 r1 v H1 g1 R1 d1 h1=>?_];cases x with
 |d d=>
   rw[An<|d1];cases d<;>show h1 F1 r1 _ H1 zU R1 zc
 |_=>show h1.elim
theorem VX {Q:VK}(h:tD T Z (eY ah ma) σ H Q):ac3 (tD T Z ma) σ H Q:=by
 let#[F,r,env,bx,R,h]:=h;refine#[F,r,env,bx,R,End.bind h λx bx1 F1 r1 v H1 g1 R1 d1 h1=>?_];cases x with
 |d d=>
   rw[An<|d1];cases d<;>show h1 F1 r1 _ H1 zU R1 zc
 |_=>show h1.elim
theorem Su (hu:X.A.units+1<cLine) (hi:PD X T Z e mb) (ho:PD X T Z o ma) (hm:behindInMarks .In o=af):eQ X T Z (.Compare e [.In] [o] pos) (dB<|dX af mb ma):=
 PT.imp (Cc (Fg hu hi ho) hm) λσ H Q h=>Dd<|LU h
theorem N9 (hu:X.A.units+1<cLine) (hi:PD X T Z e mb) (ho:PD X T Z o ma) (hm:behindInMarks .NotIn o=af):eQ X T Z (.Compare e [.NotIn] [o] pos) (dB<|dX ah mb ma):=
 PT.imp (Cc (BM hu hi ho) hm) λσ H Q h=>Mr<|LU h
end
section
variable {c:Cf} {k:Nat} {pos p:aC} {f:aq -> DE W} {o:aq}
def yq (c:Cf) (f:aq->DE W) (bo:Bool) (x:Str) (es:List aq):DE W:=
 match c.fs.lookup x with
 | some (n,fn)=>(match es with
   |[]=>aW
   |e::es=>if c.E8 x&&pH (e::es) then fj fn n (wO f (e::es)) else aW)
 | none=>match aai.lookup x with
   | some (_,_,g)=>(match es with
     |[]=>aW
     |e::es=>if c.nT x&&pH (e::es) then dN bo g (wO f (e::es)) else aW)
   |none=>aW
theorem Au (O:cK c k X Z) (h:∀ e,PD X T Z e<|f e) (bo:Bool) (es:List aq):PD X T Z (.Call (.Name x p) es [] pos) (yq c f bo x es):=by
 unfold yq;split
 .ext n fn e;split
  .show fI
  .split
   .ext a as q;rw[aJ]at q;let#[g1,g2,_]:=O.gb q.1;let#[kk,ps,hh,hn,hk]:=O.fs x n fn e;show WB hh O.room hk g1 O.ajR (oV h _) q.2 hn g2
   .show fI
 .split
  .ext ty id g e;split
   .show fI
   .split
    .ext a as q;rw[aJ]at q;let#[g1,g2,g3,g4]:=O.blt q.1;have b:=Sr O.calm O.u0 e;cases ty with
     |false=>
       let#[b1,qq,b2,b3]:=b;show WA bo b2 b3 g1 g4 b1 (oV h _) q.2 g3 g2
     |true=>
       let#[b1,qq,b2,b3]:=b;show UJ bo b2 b3 g1 g4 b1 (oV h _) q.2 g3 g2
    .show fI
  .show fI
noncomputable def aak (c:Cf):aq->Bool
 |.Name x _=>decide (x=c.KA)
 |_=>af
noncomputable def ajT:aq->Bool
 |.Call (.Name _ _) _ _ _=>ah
 |_=>af
def aal (c:Cf) (f:aq->DE W) (bo:Bool) (x:Str) (es:List aq):DE W:=
 if x="isinstance" then (match es with
  | [a,.Name t _]=>(match aaj.lookup t with
    |some n=>if c.nT "isinstance"&&c.nT t&&bJ a then lC n (f a) else aW
    |none=>aW)
  |_=>aW)
 else if x="repr" then (match es with
  |[a]=>if c.nT "repr"&&bJ a then aed (f a) else aW
  |_=>aW)
 else match es with
  |[.Call (.Name y _) [a] [] _]=>if x="sorted" /\ y="set" then (if c.nT "sorted"&&c.nT "set"&&bJ a then dN bo sY (fc (f a) ff) else aW) else yq c f bo x es
  |[.Call (.Attribute o n ap) [] [] cp]=>if x="sorted" /\ n="items" then (if c.nT "sorted"&&KH o&&(ap.endLine==cp.line) then EZ bo (f o) else aW) else yq c f bo x es
  | [a]=>if x="len" /\ aak c a=ah then (if c.nT "len"&&bJ a then uA (f a) else aW)
    else if x="list" /\ KC c 3 a=ah then (if c.nT "list"&&bJ a then EK bo (f a) else aW) else if x="dict" /\ ajT a=af then (if c.nT "dict"&&bJ a then wG bo (f a) else aW) else yq c f bo x es
  |_=>yq c f bo x es
theorem Oa (O:cK c k X Z) (h:∀ e,PD X T Z e<|f e) (bo:Bool) (es:List aq):PD X T Z (.Call (.Name x p) es [] pos) (aal c f bo x es):=by
 unfold aal;split
 .ext hx;subst hx;split
  .ext a t tp;split
   .ext n e;split
    .ext q;erw[aJ]at q;let#[g1,g2,g3,g4]:=O.blt q.1.1;let#[j1,j2,j3,j4]:=O.blt q.1.2;let#[y1,y2]:=N8 O e;show WC y1 g1 g4 j1 j4 y2 (h a) q.2 j3 j2
    .show fI
   .show fI
  .show fI
 .split
  .ext hx;subst hx;split
   .ext a;split
    .ext q;rw[aJ]at q;let#[g1,g2,g3,g4]:=O.blt q.1;show Pd O.room g1 g4 (h a)<|fH q.2 _ _
    .show fI
   .show fI
  .split
   .ext y q1 a q2;split
    .ext hx;let#[rfl,rfl]:=hx;split
     .ext q;erw[aJ]at q;let#[g1,g2,g3,g4]:=O.blt q.1.1;let#[j1,j2,j3,j4]:=O.blt q.1.2;show Fy bo O.calm g1 g4 j1 j4 (lj (h a) jP q.2) q.2
     .show fI
    .show Au O h bo _
   .ext o n ap cp;split
    .ext hx;let#[rfl,rfl]:=hx;split
     .ext q;erw[aJ]at q;let#[g1,g2,g3,g4]:=O.blt q.1.1;show Lk bo O.calm (by have:=O.u0;lia) g1 g4 (h o) (jg q.1.2) q.2
     .show fI
    .show Au O h bo _
   .rename_i a _ _;split
    .ext hx;let#[rfl,_]:=hx;split
     .ext q;rw[aJ]at q;let#[g1,g2,g3,g4]:=O.blt q.1;show Ph g1 g4 (h a)<|fH q.2 _ _
     .show fI
    .split
     .ext hx;let#[rfl,_]:=hx;split
      .ext q;rw[aJ]at q;let#[g1,g2,g3,g4]:=O.blt q.1;show MJ bo O.calm g1 g4 (h a) q.2
      .show fI
     .split
      .ext hx;let#[rfl,_]:=hx;split
       .ext q;rw[aJ]at q;let#[g1,g2,g3,g4]:=O.blt q.1;show JW bo g1 g4 (h a) q.2
       .show fI
      .show Au O h bo _
   .show Au O h bo _
def aam (dd:Bool) (f:aq->DE W) (o:aq) (m:Str) (es:List aq):DE W:=match es with
 |[e]=>if bJ e then (if dd then (if m="get" then vf (f o) (f e) else if m="pop" then yf (f o) (f e) else aW) else if m="extend" then rK (f o) (f e) else if m="append" then kX (f o) (f e) else if m="pop" then wB (f o) (f e) else aW) else aW
 |_=>aW
theorem Sv (hu:X.A.units+1<cLine) (dd:Bool) (h:∀ e,PD X T Z e<|f e) {m:Str}(es:List aq) (hb:KH o=ah) (hl:(apos.endLine==pos.line)=ah):PD X T Z (.Call (.Attribute o m apos) es [] pos) (aam dd f o m es):=by
 unfold aam;split
 .ext e;split
  .ext n;split
   .split
    .ext z;subst z;show MD hu (h o) (h e) #[jg hb,Ha n,hl,by rw[fH n];rfl]
    .split
     .ext z;subst z;show PK (h o) (h e) #[jg hb,Ha n,hl,by rw[fH n];rfl]
     .show fI
   .split
    .ext z;subst z;show JR (h o) (h e) (jg hb) (Ha n) hl<|fH n _ _
    .split
     .ext z;subst z;show JF (h o) (h e) (jg hb) (Ha n) hl<|fH n _ _
     .split
      .ext z;subst z;show Mp (h o) (h e) n (jg hb) (Ha n) hl
      .show fI
  .show fI
 .show fI
end
noncomputable def aan (on names:List<|Str×NameKind):List (Str×NameKind):=names.map λ(n,k)=>if k==NameKind.free&&on.lookup n==ae .cell then (n,NameKind.cell) else (n,k)
noncomputable def KJ:Nat->aq->List Str
 |_,.Name x _=>[x]
 |n+1,.Tuple es _ _=>es.flatMap<|KJ n
 |_,_=>[]
def Cf.cN (c:Cf) (tg:aq) (sc:bT):List Str:=KJ 4 tg++c.N.filter λx=>decide (sc.names.lookup x=ae .free)
def Cf.src (c:Cf) (tg:aq) (sc:bT):List (Option Nat):=(KJ 4 tg).map (λ_=>ag)++(c.N.filter λx=>decide (sc.names.lookup x=ae .free)).map c.ix
def Cf.inner (c:Cf) (tg:aq) (sc:bT):Cf:={ c with N:=c.cN tg sc,nm:=aan c.nm sc.names,f:=af,bx:=[],ow:=(KJ 4 tg).filter λx=>decide (sc.names.lookup x=ae .cell) }
def Cf.KL (c:Cf) (tg:aq) (sc:bT):Bool:=Zu c.N { kind:=.function,names:=c.nm,isGenerator:=af,isCoroutine:=af } sc (c.cN tg sc) (c.src tg sc)&&decide (c.cN tg sc).Nodup
section
variable {c:Cf} {k:Nat} {sc:bT}
theorem cK.inner (O:cK c k X Z) (h:c.KL tg sc=ah):sI X (c.cN tg sc) (c.src tg sc) sc /\ ∀ cl s H C fp,cK (c.inner tg sc) k (X.comp (c.cN tg sc) sc cl s H C fp) #[E0,Z.cl]:=by
 unfold Cf.KL at h;rw[aJ,decide_eq_true_eq]at h;have S:=Fm (λx=>by unfold Env.kindOf;rw[O.nm]) O.N h.1;refine#[S,λcl s H C fp=>#[rfl,?_,S.kind,O.calm,λz=>(by cases z),λx m=>(pR.mp m).2,h.2,O.room,O.fs,O.gl,O.bl,Gh,O.ti,O.tb,O.tt,O.tl,PassesOwn.never]];change (relabel sc X.env).names=aan c.nm sc.names;unfold relabel aan Env.kindOf;rw[O.kd,O.nm];simp
end
structure Cm where
 e:Cf->Bool->Bool->aq->DE W
 t:Cf->aq->DE Bool
 g:Cf->aq->DG
 s:Cf->cb->aA
structure Good (m:Cm):zk where
 e:∀ {c:Cf}{k:Nat}{X:Cx}{Z:Xs},cK c k X Z->∀ {T:Fr}(bo fz:Bool) (e:aq),PD X T Z e (m.e c bo fz e)
 t:∀ {c:Cf}{k:Nat}{X:Cx}{Z:Xs},cK c k X Z->∀ {T:Fr}(e:aq),eQ X T Z e (m.t c e)
 g:∀ {c:Cf}{k:Nat}{X:Cx}{Z:Xs},cK c k X Z->∀ {T:Fr}(e:aq),kW X T e (m.g c e)
 s:∀ {c:Cf}{k:Nat}{X:Cx}{Z:Xs},cK c k X Z->∀ {T:Fr}(st:cb),cD X T Z st (m.s c st)
section
variable (m:Cm) (c:Cf)
def cI (tg it:aq):DE zaf:=match it with
 |.Call (.Name x _) [a] [] _=>
   if x="range" then (if c.nT "range"&&bJ a then dR (fc zR ff) else aW)
   else bq (m.e c af ah it)
 |.Call (.Name x _) [a,b] [] _=>
   if x="range" then (if c.nT "range"&&bJ a&&bJ b then sN (fc zR<|fc zav ff) else aW)
   else if x="zip" then (if c.nT "zip"&&bJ a&&bJ b then p7 (fc zR<|fc zav ff) else aW)
   else bq (m.e c af ah it)
 |_=>bq<|m.e c af ah it
def cF (ifs:List aq):DE Bool:=match ifs with
 |[]=>fM
 |[t]=>m.t c t
 |_=>aW
def KN (e:aq):Option Nat:=match e with
 |.Name x _=>if c.dc.contains x&&c.KD x then c.ix x else ag
 |_=>ag
def aao (bo:Bool) (elt tg it:aq) (ifs:List aq) (sc:bT):DE W:=
 if c.KL tg sc&&KI it then fL bo (c.src tg sc) (cI m c tg it) (m.g (c.inner tg sc) tg) (cF m (c.inner tg sc) ifs) (m.e (c.inner tg sc) af af elt) else aW
def cO (o:Option aq):DE (Option Int):=match o with
 |none=>cQ
 |some e=>cG<|m.e c af af e
def Hb (a:aq) (op:CmpOp) (b:aq):DE W:=
 if wM c b then (match op with
  |.In=>if behindInMarks .In b=af then dX af zR zav else aW
  |.NotIn=>if behindInMarks .NotIn b=af then dX ah zR zav else aW
  |_=>aW)
 else if KC c 3 b then (match op with
  |.In=>if behindInMarks .In b=af then ZL zR zav else aW
  |_=>aW)
 else match op,b with
  |.Is,.Constant .none _ _=>eY af zR
  |.IsNot,.Constant .none _ _=>eY ah zR
  | _,_=>match vv op with
    |some g=>if behindInMarks op b=af then d2 af g zR zav else aW
    |none=>aW
def aap (a:aq) (op cZ:CmpOp) (b d:aq):DE W:=match vv op,vv cZ with
 |some g,ae g'=>if lastMarks [op,cZ] [b,d]=af then d3 g g' zR zav (m.e c af af d) else aW
 |_,_=>aW
def aaq (bo:Bool) (a b:aq):DE W:=match b with
 |.Slice lo hi ag _=>cH bo zR (cO m c lo)<|cO m c hi
 |.Slice ag ag (ae<|.UnaryOp .USub (.Constant (.int i) _ _) _) _=>if i=1 then IQ bo zR else aW
 |.Constant (.str k) _ _=>cS zR k
 |b=>if E9 b then (if aak c a then Ep zR zav else if wM c a then cW zR zav else d2 af ax zR zav) else aW
def aar (bo:Bool) (ks:List<|Option aq) (vs:List aq):DE W:=match ks,vs with
 |[],[]=>p6 bo []
 | ks,vs=>match ZH (λk=>c.kd k 3) ks vs with
   |some l=>if !ks.isEmpty&&decide (ks.length<=15) then yi l else aW
   |none=>aW
def aas (v:Const):DE W:=match v with
 |.int i=>dC<|.int i
 |.bool b=>dC<|.bl b
 |.none=>dC .non
 |.str x=>dC<|.str x
 |_=>aW
def aat (op:UnaryOp) (a:aq):DE W:=match op with
 |.USub=>wg zR
 |.Not=>IH zR
 |_=>aW
def aau (op:BoolOp) (es:List aq):DE W:=match op with
 |.And=>aaf (m.e c af af) es
 |.Or=>aW
def afh (a:aq) (ops:List CmpOp) (bs:List aq):DE W:=match ops,bs with
 |[op],[b]=>Hb m c a op b
 |[op,cZ],[b,d]=>aap m c a op cZ b d
 |_,_=>aW
def aav (bo:Bool) (f:aq) (es:List aq) (ks:List Keyword) (pos:aC):DE W:=match f with
 | .Name x _=>(match ks with
   |[]=>aal c (m.e c af af) bo x es
   |_::_=>aW)
 | .Attribute o n apos=>(match ks with
   |[]=>if KH o&&(apos.endLine==pos.line) then aam (wM c o) (m.e c af af) o n es else aW
   |_::_=>aW)
 |_=>aW
def aaw (bo:Bool) (elt:aq) (gs:List Comprehension) (sc:bT):DE W:=match gs with
 |[⟨tg,it,ifs,0⟩]=>aao m c bo elt tg it ifs sc
 |_=>aW
def sE (bo fz:Bool) (e:aq):DE W:=match e with
 |.Constant v _ _=>aas v
 |.Name x _=>aae c fz x
 |.Tuple es _ _=>fO<|wO (m.e c af af) es
 |.List es _=>gN bo<|wO (m.e c af af) es
 |.Dict ks vs _=>aar c bo ks vs
 | .BinOp a op b _=>(match afg op with
   |some g=>d2 bo g zR zav
   |none=>aW)
 |.UnaryOp op a _=>aat m c op a
 |.BoolOp op es _=>aau m c op es
 |.Compare a ops bs _=>afh m c a ops bs
 |.IfExp t a b _=>ph (m.t c t) zR zav
 |.Subscript a b _=>aaq m c bo a b
 |.Call f es ks pos=>aav m c bo f es ks pos
 |.ListComp elt gs sc _=>aaw m c bo elt gs sc
 |_=>aW
def sT (e:aq):DE Bool:=match e with
 |.BoolOp .And es _=>aag (m.t c) es
 |.BoolOp .Or es _=>aah (m.t c) es
 |.UnaryOp .Not a _=>eG<|m.t c a
 | .Compare a [op] [b] _=>if wM c b then dB (Hb m c a op b) else (match op,b with
   |.Is,.Constant .none _ _=>dB<|eY af zR
   |.IsNot,.Constant .none _ _=>dB<|eY ah zR
   | _,_=>match vv op with
     |some g=>if behindInMarks op b=af then dB (d2 af g zR zav) else aW
     |none=>aW)
 | .Compare a [op,cZ] [b,d] _=>(match vv op,vv cZ with
   |some g,ae g'=>if lastMarks [op,cZ] [b,d]=af then dB (d3 g g' zR zav<|m.e c af af d) else aW
   |_,_=>aW)
 |e=>if plainT e then dB (m.e c af af e) else aW
def sG (tg:aq):DG:=match tg with
 | .Name x _=>(match c.ix x with
   |some i=>if c.wN x then fe i else wL
   |none=>wL)
 |.Tuple es _ _=>if pH es then fR es.length (KG (m.g c) es) else wL
 |.Subscript o i _=>if E9 i then Eo (m.e c af af o) (m.e c af af i) else wL
 |_=>wL
end
section
variable {m:Cm} {c:Cf} {k:Nat} (G:Good m) (O:cK c k X Z)
include G O
theorem Ob (tg it:aq):uv X T Z tg it (cI m c tg it):=by
 cases it<;>try show mX zJ
 ext f es ks pos;cases f<;>try show mX zJ
 rcases es with _|⟨a,_|⟨b,_|_⟩⟩<;>cases ks<;>try show mX zJ
 .unfold cI;dsimp only;split
  .ext z;subst z;split
   .ext q;rw[aJ]at q;let#[g1,g2,g3,g4]:=O.blt q.1;show Fe g1 g4 (lj (G.e O _ _ a) jP q.2)<|fH q.2 _ _
   .show CM
  .show mX zJ
 .unfold cI;dsimp only;split
  .ext z;subst z;split
   .ext q;simp[aJ]at q;let#[#[q,n1],n2]:=q;let#[g1,g2,g3,g4]:=O.blt q;show Ff g1 g4 (lj (G.e O _ _ a) (lj (G.e O _ _ b) jP n2) n1) (by rw[fH n1,fH n2];rfl)<|fH n2 _ _
   .show CM
  .split
   .ext z;subst z;split
    .ext q;simp[aJ]at q;let#[#[q,n1],n2]:=q;let#[g1,g2,g3,g4]:=O.blt q;show Pj g1 g4 (lj (G.e O _ _ a) (lj (G.e O _ _ b) jP n2) n1) (by rw[fH n1,fH n2];rfl)<|fH n2 _ _
    .show CM
   .show mX zJ
theorem Oc (ifs:List aq):PF X ifs (sL T Z<|cF m c ifs):=by
 unfold cF;split
 .show OY
 .show OZ<|G.t O _
 .show λ_ _ _ _ _ _ h=>by let#[_,_,_,_,_,h]:=h;show h.elim
omit G in
theorem G9 {i:Nat}(h:KN c e=ae i):PD X T Z e (dV i):=by
 unfold KN at h;split at h
 .split at h
  .ext q;rw[aJ]at q;let#[a,b,d]:=O.aff q.2;show LQ i (O.at h) a b d
  .cases h
 .cases h
theorem Od (bo:Bool) (elt tg it:aq) (ifs:List aq) (sc:bT) (pos:aC):PD X T Z (.ListComp elt [#[tg,it,ifs,0]] sc pos) (aao m c bo elt tg it ifs sc):=by
 unfold aao;split
 .ext q;rw[aJ]at q;let#[S,OO]:=O.inner q.1;show OX bo O.calm S (Ob G O tg it) (λ_ _ _ _ _ _=>G.g (OO _ _ _ _ _) tg) (λ_ _ _ _ _ _=>Oc G (OO _ _ _ _ _) ifs) (λ_ _ _ _ _ _=>G.e (OO _ _ _ _ _) _ _ elt) λx=>jL q.2 x
 .show fI
theorem Oe (a:aq) (op:CmpOp) (b:aq) (pos:aC):PD X T Z (.Compare a [op] [b] pos) (Hb m c a op b):=by
 unfold Hb;split
 .split
  .split
   .ext q;show UM O.u1 (G.e O _ _ a) (G.e O _ _ b) q
   .show fI
  .split
   .ext q;show Ps O.u1 (G.e O _ _ a) (G.e O _ _ b) q
   .show fI
  .show fI
 split
 .split
  .split
   .ext q;show UZ O.u1 (G.e O _ _ a) (G.e O _ _ b) q
   .show fI
  .show fI
 .split
  .show UN<|G.e O _ _ a
  .show Pt<|G.e O _ _ a
  .split
   .ext g e;let#[q,h1,h2]:=l5 O.u0 e;split
    .ext z;show T9 h1 h2 (G.e O _ _ a) (G.e O _ _ b) z
    .show fI
   .show fI
theorem Of (a:aq) (op cZ:CmpOp) (b d:aq) (pos:aC):PD X T Z (.Compare a [op,cZ] [b,d] pos) (aap m c a op cZ b d):=by
 unfold aap;split
 .ext g g' e e';let#[q,h1,h2]:=l5 O.u0 e;let#[q',aax,aay]:=l5 O.u0 e';split
  .ext z;show LV h1 aax h2 aay (G.e O _ _ a) (G.e O _ _ b) (G.e O _ _ d) z
  .show fI
 .show fI
theorem Tj (o:Option aq):El X T Z o (cO m c o):=by
 unfold cO;split
 .show Uo
 .show L8 zJ
theorem Sw (bo:Bool) (a b:aq) (pos:aC):PD X T Z (.Subscript a b pos) (aaq m c bo a b):=by
 have third:∀ b,E9 b=ah->PD X T Z (.Subscript a b pos) (if aak c a then Ep zR zav else if wM c a then cW zR zav else d2 af ax zR zav):=λb n=>by
  split
  .show UC (G.e O _ _ a) zJ<|Bq n
  .split
   .show Pr O.u1 (G.e O _ _ a) zJ<|Ss n
   .show Wn TX ahY (G.e O _ _ a) zJ<|Bq n
 cases b<;>try show third _ zc
 .rename_i v _ _;cases v<;>try show third _ zc
  show UV O.u1<|G.e O _ _ a
 rename_i lo hi st _;rcases st with _|st
 .show L9 bo (G.e O _ _ a) (Tj G O _)<|Tj G O _
 cases st<;>try show fI
 rename_i op e _;cases op<;>try show fI
 cases e<;>try show fI
 rename_i v _ _;cases v<;>try show fI
 cases lo<;>cases hi<;>try show fI
 unfold aaq;try dsimp only
 split
 .ext z;subst z;show Ur bo<|G.e O _ _ a
 .show fI
omit G O in
theorem Sy (bo:Bool) (ks:List<|Option aq) (vs:List aq) (pos:aC):PD X T Z (.Dict ks vs pos) (aar c bo ks vs):=by
 unfold aar;split
 .show Pi bo
 .split
  .ext l e;split
   .ext q;rw[aJ,decide_eq_true_eq]at q;let#[a,b,d,_]:=GC e;show MK a b d (λz=>by rw[z]at q;show absurd q.1 ze) q.2
   .show fI
  .show fI
omit G O in
theorem Sz (v:Const) (k:Nat) (pos:aC):PD X T Z (.Constant v k pos) (aas v):=by
 unfold aas;split
 .show T5
 .show Wm
 .show T6
 .show T7
 .show fI
theorem VY (op:UnaryOp) (a:aq) (pos:aC):PD X T Z (.UnaryOp op a pos) (aat m c op a):=by
 unfold aat;split
 .show Us zJ
 .show Ud zJ
 .show fI
theorem VZ (op:BoolOp) (es:List aq) (pos:aC):PD X T Z (.BoolOp op es pos) (aau m c op es):=by
 unfold aau;split
 .show G7 (G.e O _ _) _
 .show fI
theorem V0 (a:aq) (ops:List CmpOp) (bs:List aq) (pos:aC):PD X T Z (.Compare a ops bs pos) (afh m c a ops bs):=by
 rcases ops with _|⟨op,_|⟨cZ,_|_⟩⟩<;>rcases bs with _|⟨b,_|⟨d,_|_⟩⟩<;>try show fI
 .show Oe G O _ _ _ _
 .show Of G O _ _ _ _ _ _
theorem V1 (bo:Bool) (f:aq) (es:List aq) (ks:List Keyword) (pos:aC):PD X T Z (.Call f es ks pos) (aav m c bo f es ks pos):=by
 unfold aav;split
 .split
  .show Oa O (G.e O _ _) bo _
  .show fI
 .split
  .split
   .ext q;rw[aJ]at q;show Sv O.u1 _ (G.e O _ _) _ q.1 q.2
   .show fI
  .show fI
 .show fI
theorem V2 (bo:Bool) (elt:aq) (gs:List Comprehension) (sc:bT) (pos:aC):PD X T Z (.ListComp elt gs sc pos) (aaw m c bo elt gs sc):=by
 unfold aaw;split
 .show Od G O bo _ _ _ _ _ _
 .show fI
theorem Ys (bo fz:Bool) (e:aq):PD X T Z e (sE m c bo fz e):=by
 cases e<;>try show fI
 .show VZ G O _ _ _
 .unfold sE;dsimp only;split
  .ext g e;let#[q,h1,h2]:=Sq e;show T8 bo h1 h2 zJ zJ
  .show fI
 .show VY G O _ _ _
 .show Ue (G.t O _) zJ zJ
 .show Sy bo _ _ _
 .show V2 G O bo _ _ _ _
 .show V0 G O _ _ _ _
 .show V1 G O bo _ _ _ _
 .show Sz _ _ _
 .show Sw G O bo _ _ _
 .show N6 O fz
 .show Ug bo<|oV (G.e O _ _) _
 .show Uf<|oV (G.e O _ _) _
theorem Yt (e:aq):eQ X T Z e (sT m c e):=by
 cases e<;>try show OH zJ λw=>Lm zc w
 .rename_i op _ _;cases op
  .show SM<|D5 (G.t O) _
  .show SM<|G8 (G.t O) _
 .rename_i op _ _;cases op<;>try show iy
  show OL<|G.t O _
 .show iy
 .ext a ops bs pos;rcases ops with _|⟨op,_|⟨cZ,_|_⟩⟩<;>rcases bs with _|⟨b,_|⟨d,_|_⟩⟩<;>try show iy
  .unfold sT;dsimp only;split
   .ext h;unfold Hb;rw[if_pos h];cases op<;>try show iy
    .dsimp only;split
     .ext q;show Su O.u1 (G.e O _ _ a) (G.e O _ _ b) q
     .show iy
    .dsimp only;split
     .ext q;show N9 O.u1 (G.e O _ _ a) (G.e O _ _ b) q
     .show iy
   .have dflt:∀ op b,eQ X T Z (.Compare a [op] [b] pos) (match vv op with
     |some g=>if behindInMarks op b=af then dB (d2 af g zR zav) else aW
     |none=>aW):=λop b=>by
     split
     .ext g e;let#[q,h1,h2]:=l5 O.u0 e;split
      .ext z;show OI h1 h2 zJ zJ z
      .show iy
     .show iy
    cases op<;>try show dflt _ _
    all_goals (cases b<;>try show dflt _ _)
    all_goals (rename_i v _ _ _;cases v<;>try show dflt _ _)
    .show PT.imp (Cc (Lr zJ) zc) λσ H Q h=>Yr<|LU h
    .show PT.imp (Cc (F6 zJ) zc) λσ H Q h=>VX<|LU h
  .unfold sT;dsimp only;split
   .ext g g' e e';let#[q,h1,h2]:=l5 O.u0 e;let#[q',aax,aay]:=l5 O.u0 e';split
    .ext z;show Jr h1 aax h2 aay zJ zJ zJ z
    .show iy
   .show iy
theorem Yu (tg:aq):kW X T tg (sG m c tg):=by
 unfold sG;split
 .split
  .ext i e;split
   .ext h;let#[a,b]:=O.lo h;show L1 i O.uL (O.at e) a b
   .show lZ
  .show lZ
 .split
  .ext h;show WD O.calm (N7 (G.g O) _) h zc
  .show lZ
 .split
  .ext o i pos h;show Pf (G.e O _ _ o) (G.e O _ _ i) (λv=>by cases i<;>first|rfl|cases h)
  .show lZ
 .show lZ
end
end L2.DL
namespace L2
end L2
namespace L2.DL
open PySem.W
section
variable {env:Env} {y:Str} {px py pt c7:aC} {kt k2:Nat} {a b:aq}
theorem SA (hk:env.blockKind=.function) (hx:env.kindOf x=ae .local) (hy:env.kindOf y=ae .local) (hl:(px.line==py.line)=ah) (eS:x≠y) (na:bJ a=ah) (nb:bJ b=ah)
 (nf:([a,b].all<|foldedForSure 8)=af) (nc:([a,b].all<|constantsAlone 8)=af) :
 swappedStores [.Tuple [.Name x px,.Name y py] kt pt] (.Tuple [a,b] k2 c7) env=pure (ae [x,y]):=by
 have hd:([x,y]).eraseDups.length=2:=by
  have:(y==x)=af:=by simpa using Ne.symm eS
  simp[abV,this]
 have hp:∀ (x) (p),(Expr.Name x p).pos=p:=λ_ _=>rfl;unfold swappedStores;erw[hk,Xl,pT,hp,];simp[(by simpa using hl),hd,hx,hy,nf,nc];rintro(h|h)
 .cases a<;>first|(cases h;done)|cases na
 .cases b<;>first|(cases h;done)|cases nb
theorem Og {z:Str}{pz:aC}{d:aq}(hk:env.blockKind=.function) (hx:env.kindOf x=ae .local) (hy:env.kindOf y=ae .local) (hz:env.kindOf z=ae .local) (hl:(px.line==py.line&&px.line==pz.line)=ah) (KO:x≠y) (KR:x≠z) (KS:y≠z) (na:bJ a=ah) (nb:bJ b=ah) (nd:bJ d=ah)
 (nf:([a,b,d].all<|foldedForSure 8)=af) (nc:([a,b,d].all<|constantsAlone 8)=af) :
 swappedStores [.Tuple [.Name x px,.Name y py,.Name z pz] kt pt] (.Tuple [a,b,d] k2 c7) env=pure (ae [x,y,z]):=by
 obtain⟨h1,h2⟩:px.line=py.line /\ px.line=pz.line:=by simpa using hl
 have hd:([x,y,z]).eraseDups.length=3:=by
  have e1:(y==x)=af:=by simpa using Ne.symm KO
  have e2:(z==x)=af:=by simpa using Ne.symm KR
  have e3:(z==y)=af:=by simpa using Ne.symm KS
  simp[abV,e1,e2,e3]
 have hp:∀ (x:Str) (p:aC),(Expr.Name x p).pos=p:=λ_ _=>rfl;unfold swappedStores;erw[hk,Xl,pT,hp,nc];simp[<-h1,<-h2,hd,qk,hx,hy,hz,nf,nc];rintro(h|h|h)
 .cases a<;>first|(cases h;done)|cases na
 .cases b<;>first|(cases h;done)|cases nb
 .cases d<;>first|(cases h;done)|cases nd
theorem SC (hk:env.blockKind=.function) (na:bJ a=ah) (nb:bJ b=ah) (h:(env.kindOf x==ae .local&&env.kindOf y==ae .local)=af) :
 swappedStores [.Tuple [.Name x px,.Name y py] kt pt] (.Tuple [a,b] k2 c7) env=pure ag:=by
 have hp:∀ (x:Str) (p:aC),(Expr.Name x p).pos=p:=λ_ _=>rfl;unfold swappedStores;erw[Xl,pT,hp];rw[Bool.and_eq_false_iff]at h;rcases h with h|h
 .erw[qk,abW,h,Hl];by_cases q:(env.kindOf y==ae .local&&py.line==px.line)=ah
  .simp[q]
  .simp[q]
 .erw[qk,abW,h,Hl];by_cases z:env.kindOf x=ae .local<;>simp[z]
end
def vw (f:cb->aA):List cb->aA
 |[]=>aU
 |[s]=>f s
 |s::r=>fu (f s)<|vw f r
theorem mM {X:Cx}{Z:Xs}{T:Fr}{f:cb->aA}(h:∀ s,cD X T Z s<|f s):∀ b,qz X T Z b (vw f b)
 |[]=>ON
 |[s]=>OP<|h s
 |s::a::r=>LY (h s)<|mM h _
noncomputable def aaz:aq->aq->Bool
 |.Tuple ..,.Tuple ..|.List ..,.Tuple ..=>af
 |_,_=>ah
theorem Tk {env:Env}(h:aaz tg e=ah):swappedStores [tg] e env=pure ag:=by
 cases tg with
 |Tuple es n p=>cases e<;>first|rfl|cases h
 |List es p=>cases e<;>first|rfl|cases h
 |_=>rfl
noncomputable def aaA (c:Cf) (x:Str) (tp cp:aC) (sc:bT):Bool:=c.nm.lookup x==ae .local&&tp.line==cp.line&&!(sc.names.any λ(n,k)=>n==x&&(k==.local||k==.cell))
section
variable {c:Cf} {k:Nat} 
theorem cK.block (O:cK c k X Z):X.env.blockKind=.function:=by unfold Env.blockKind;rw[O.kd];rfl
theorem SD (O:cK c k X Z) {elt:aq}{gs:List Comprehension}{sc:bT}{cp tp:aC}{l:Nat}:swapsWith (.ListComp elt gs sc cp) (ae<|.Name x tp) l X.env=pure (aaA c x tp cp sc):=by
 have h:swapsWith (.ListComp elt gs sc cp) (ae<|.Name x tp) l X.env=pure _:=rfl;rw[h,O.block];unfold Env.kindOf aaA;rw[O.nm];rfl
end
theorem jp {t:aq}{l:Nat}{env:Env}(h:k8 e=af):swapsWithSole [t] e l env=pure af:=lS h
section
variable (m:Cm) (c:Cf)
noncomputable def aaB:aq->Bool
 |.Dict [] [] _=>ah
 |_=>af
def aaC (x:Str) (tp:aC) (e:aq):aA:=match c.ix x with
 | some i=>if c.wN x then (match e with
   | .ListComp elt [⟨tg,it,ifs,0⟩] sc cp=>if c.KL tg sc&&KI it&&aaA c x tp cp sc then (match KN c it with
     |some j=>fF (wD (c.bx.contains x) (c.src tg sc) j (m.g (c.inner tg sc) tg) (cF m (c.inner tg sc) ifs)<|m.e (c.inner tg sc) af af elt)<|fe i
     |none=>fF (fL (c.bx.contains x) (c.src tg sc) (cI m c tg it) (m.g (c.inner tg sc) tg) (cF m (c.inner tg sc) ifs)<|m.e (c.inner tg sc) af af elt)<|fe i) else dj
   |e=>if k8 e then dj else fF (if c.kd x 3&&aaB e then ye else m.e c (c.bx.contains x) af e) (fe i)) else dj
 |none=>dj
def afi (c:Cf) (x y:Str) (px py:aC) (a b:aq):Bool:=bJ a&&bJ b&&decide (x≠y)&&c.wN x&&c.wN y&&(if c.nm.lookup x==ae .local&&c.nm.lookup y==ae .local then px.line==py.line&&!([a,b].all<|foldedForSure 8)&&!([a,b].all<|constantsAlone 8) else ah)
def aaD (x y:Str) (px py:aC) (a b:aq):aA:=match c.ix x,c.ix y with
 |some i,ae j=>if afi c x y px py a b then dQ i j (fc (m.e c (c.bx.contains x) af a)<|fc (m.e c (c.bx.contains y) af b) ff) else dj
 |_,_=>dj
def afj (c:Cf) (x y z:Str) (px py pz:aC) (a b d:aq):Bool:=bJ a&&bJ b&&bJ d&&decide (x≠y)&&decide (x≠z)&&decide (y≠z)&&(c.nm.lookup x==ae .local)&&(c.nm.lookup y==ae .local)&&(c.nm.lookup z==ae .local)&&(px.line==py.line&&px.line==pz.line)&&!([a,b,d].all<|foldedForSure 8)&&!([a,b,d].all<|constantsAlone 8)
def aaE (x y z:Str) (px py pz:aC) (a b d:aq):aA:=match c.ix x,c.ix y,c.ix z with
 |some i,ae j,ae k=>if afj c x y z px py pz a b d then E2 i j k (fc (m.e c (c.bx.contains x) af a)<|fc (m.e c (c.bx.contains y) af b)<|fc (m.e c (c.bx.contains z) af d) ff) else dj
 |_,_,_=>dj
def aaF (tg e:aq):aA:=match tg,e with
 |.Name x tp,e=>aaC m c x tp e
 |.Tuple [.Name x px,.Name y py] _ _,.Tuple [a,b] _ _=>aaD m c x y px py a b
 |.Tuple [.Name x px,.Name y py,.Name z pz] _ _,.Tuple [a,b,d] _ _=>aaE m c x y z px py pz a b d
 |.Subscript o i p,e=>if k8 e then dj else if KC c 3 o then rM (m.e c af af o) (m.e c af af i) (m.e c af af e) else if wM c o then k6 (m.e c af af o) (m.e c af af i) (m.e c af af e) else fF (m.e c af af e) (m.g c<|.Subscript o i p)
 |tg,e=>if !k8 e&&bJ tg&&aaz tg e then fF (m.e c af af e) (m.g c tg) else dj
def aaG (t:aq) (op:Operator) (e:aq):aA:=match t with
 | .Name x _=>(match c.ix x with
   | some i=>if c.wN x then (match op with
     |.Add=>vj af i<|m.e c af af e
     |.Sub=>vj ah i<|m.e c af af e
     |_=>dj) else dj
   |none=>dj)
 |_=>dj
def sS (st:cb):aA:=match st with
 |.Assign [tg] e _=>aaF m c tg e
 |.Return (ae e) _=>fJ<|m.e c c.rb (!c.rb) e
 |.Expr e _=>if k8 e then dj else gj (m.e c af af e)
 |.If t a b _=>aM (m.t c t) (vw (m.s c) a)<|vw (m.s c) b
 | .For tg it body [] _=>if KI it then (match KN c it with
   |some j=>wC j (m.g c tg)<|vw (m.s c) body
   |none=>if KC c 2 it then ZK (m.e c af af it) (m.g c tg) (vw (m.s c) body) else iX (cI m c tg it) (m.g c tg) (vw (m.s c) body)) else dj
 |.AugAssign t op e _=>aaG m c t op e
 |.Delete [.Subscript o i _] _=>if wM c o then uH (m.e c af af o) (m.e c af af i) else dj
 |.Break _=>II
 |.Continue _=>IJ
 |_=>dj
end
section
variable {m:Cm} {c:Cf} {k:Nat} (G:Good m) (O:cK c k X Z)
include G O
theorem SE (x:Str) (e:aq) (tp pos:aC):cD X T Z (.Assign [.Name x tp] e pos) (aaC m c x tp e):=by
 unfold aaC;split
 .ext i hi;split
  .ext hl;let#[l1,l2]:=O.lo hl;split
   .ext elt tg it ifs sc cp;split
    .ext q;rw[aJ,aJ]at q;let#[S,OO]:=O.inner q.1.1;have sw:=SD O (elt:=elt) (gs:=[#[tg,it,ifs,0]]) (sc:=sc) (cp:=cp) (tp:=tp) (x:=x) (l:=pos.line);rw[q.2]at sw;split
     .show JT i _ O.calm S (G9 O (by assumption)) (λ_ _ _ _ _ _=>G.g (OO _ _ _ _ _) tg) (λ_ _ _ _ _ _=>Oc G (OO _ _ _ _ _) ifs) (λ_ _ _ _ _ _=>G.e (OO _ _ _ _ _) _ _ elt) O.uL (O.at hi) l1 sw l2 λx=>jL q.1.2 x
     .show Mo i _ O.calm S (Ob G O tg it) (λ_ _ _ _ _ _=>G.g (OO _ _ _ _ _) tg) (λ_ _ _ _ _ _=>Oc G (OO _ _ _ _ _) ifs) (λ_ _ _ _ _ _=>G.e (OO _ _ _ _ _) _ _ elt) O.uL (O.at hi) l1 sw l2 λx=>jL q.1.2 x
    .show fU
   .split
    .show fU
    .ext h;refine OT i ?_ O.uL (O.at hi) l1 (lS (by simpa using h)) l2;split
     .ext q;rw[aJ]at q;revert q;cases e with
      |Dict ks vs p=>cases ks<;>cases vs<;>first|(intro _;show PH)|(intro q;show absurd q.2 (by simp[aaB]))
      |_=>intro q;show absurd q.2 (by simp[aaB])
     .show G.e O _ _ _
  .show fU
 .show fU
theorem SF (x y:Str) (a b:aq) (px py pt c7 pos:aC) (kt k2:Nat):cD X T Z zaq (aaD m c x y px py a b):=by
 unfold aaD;split
 .ext i j hi hj;split
  .ext q;unfold afi at q;rw[aJ,aJ,aJ,aJ,aJ,decide_eq_true_eq]at q;let#[#[#[#[#[na,nb],eS],hx],hy],q]:=q;have ps:dH X T Z _ (fc (m.e c (c.bx.contains x) af a)<|fc (m.e c (c.bx.contains y) af b) ff):=lj (G.e O _ _ a) (lj (G.e O _ _ b) jP nb) na;have kx:X.env.kindOf x=c.nm.lookup x:=by unfold Env.kindOf;rw[O.nm]
   have ky:X.env.kindOf y=c.nm.lookup y:=by unfold Env.kindOf;rw[O.nm]
   by_cases h:(c.nm.lookup x==ae NameKind.local&&c.nm.lookup y==ae NameKind.local)=ah
   .rw[if_pos h]at q;erw[aJ,rV]at q;rw[aJ]at h;have h1:c.nm.lookup x=ae .local:=by simpa using h.1
    have h2:c.nm.lookup y=ae .local:=by simpa using h.2
    refine Pp i j O.calm O.uL ps (O.at hi) (O.at hj) (λz=>?_) (by rw[O.nm];show h1) (by rw[O.nm];show h2) (SA O.block (kx.trans h1) (ky.trans h2) q.1.1 eS na nb q.1.2 q.2)<|jp zc;subst z;have:=(c.E7 hi).symm.trans<|c.E7 hj;show eS<|Option.some.inj this
   .let#[l1,l2]:=O.lo hx;let#[l3,l4]:=O.lo hy;refine Mt i j O.calm O.uL ps (O.at hi) (O.at hj) l1 l3 l2 l4 (jp zc) (SC O.block na nb ?_) zc zc zc zc zc;rw[kx,ky];simpa using h
  .show fU
 .show fU
theorem Oh (x y z:Str) (a b d:aq) (px py pz pt c7 pos:aC) (kt k2:Nat):cD X T Z (.Assign [.Tuple [.Name x px,.Name y py,.Name z pz] kt pt] (.Tuple [a,b,d] k2 c7) pos) (aaE m c x y z px py pz a b d):=by
 unfold aaE;split
 .ext i j k hi hj hk;split
  .ext q;unfold afj at q;erw[aJ,decide_eq_true_eq,rV,beq_iff_eq]at q;let#[#[#[#[#[#[#[#[#[#[#[na,nb],nd],KO],KR],KS],lx],ly],lz],hl],nf],nc]:=q;have kk:∀ v,X.env.kindOf v=c.nm.lookup v:=λv=>by unfold Env.kindOf;rw[O.nm]
   have ne:∀ {u v}{p q},c.ix u=ae p->c.ix v=ae q->u≠v->p≠q:=λhp hq h e=>by
    subst e;show h<|Option.some.inj<|(c.E7 hp).symm.trans<|c.E7 hq
   show NW i j k O.calm O.uL (lj (G.e O _ _ a) (lj (G.e O _ _ b) (lj (G.e O _ _ d) jP nd) nb) na) (O.at hi) (O.at hj) (O.at hk) (ne hi hj KO) (ne hi hk KR) (ne hj hk KS) (by rw[O.nm];show lx) (by rw[O.nm];show ly) (by rw[O.nm];show lz)
    (Og O.block ((kk x).trans lx) ((kk y).trans ly) ((kk z).trans lz) (by simpa using hl) KO KR KS na nb nd nf nc) (jp zc)
  .show fU
 .show fU
theorem SG (tg e:aq) (pos:aC):cD X T Z (.Assign [tg] e pos) (aaF m c tg e):=by
 have dflt:∀ tg e,cD X T Z (.Assign [tg] e pos) (if !k8 e&&bJ tg&&aaz tg e then fF (m.e c af af e) (m.g c tg) else dj):=λtg e=>by
  split
  .ext q;erw[aJ,rV]at q;show Gg zJ (G.g O _) (jp q.1.1) (Tk q.2) (by rw[lF q.1.2];rfl)
  .show fU
 cases tg<;>try show dflt _ _
 .unfold aaF;try dsimp only
  split
  .show fU
  .ext h;split
   .show JX O.u1 zJ zJ zJ<|lS (by simpa using h)
   split
   .show Ms O.u1 zJ zJ zJ<|lS (by simpa using h)
   .show Gg zJ (G.g O _) (jp (by simpa using h)) (Tk zc) zc
 .show SE G O _ _ _ _
 .rename_i es _ _;rcases es with _|⟨x,_|⟨y,es⟩⟩<;>try show dflt _ _
  all_goals (cases x<;>try show dflt _ _)
  all_goals (cases y<;>try show dflt _ _)
  rcases es with _|⟨z,es⟩
  .cases e<;>try show dflt _ _
   rename_i vs _ _;rcases vs with _|⟨a,_|⟨b,vs⟩⟩<;>try show dflt _ _
   cases vs<;>try show dflt _ _
   show SF G O _ _ _ _ _ _ _ _ _ _ _
  .cases z<;>try show dflt _ _
   cases es<;>try show dflt _ _
   cases e<;>try show dflt _ _
   rename_i vs _ _;rcases vs with _|⟨a,_|⟨b,_|⟨d,vs⟩⟩⟩<;>try show dflt _ _
   cases vs<;>try show dflt _ _
   show Oh G O _ _ _ _ _ _ _ _ _ _ _ _ _ _
theorem SH (t:aq) (op:Operator) (e:aq) (pos:aC):cD X T Z (.AugAssign t op e pos) (aaG m c t op e):=by
 unfold aaG;split
 .split
  .ext i hi;split
   .ext hl;let#[l1,l2]:=O.lo hl;split
    .show P5 i zJ O.uL (O.at hi) l1 l2
    .show P6 i zJ O.uL (O.at hi) l1 l2
    .show fU
   .show fU
  .show fU
 .show fU
theorem Yv (st:cb):cD X T Z st (sS m c st):=by
 cases st<;>try show fU
 .rename_i v _;cases v<;>try show fU
  show OQ zJ
 .rename_i ts _;rcases ts with _|⟨t,ts⟩<;>try show fU
  cases t<;>try show fU
  cases ts<;>try show fU
  unfold sS;dsimp only;split
  .show PL zJ zJ
  .show fU
 .rename_i ts _ _;rcases ts with _|⟨_,_|_⟩<;>try show fU
  show SG G O _ _ _
 .show SH G O _ _ _ _
 .rename_i tg it bd oe _;cases oe<;>try show fU
  unfold sS;dsimp only;split
  .ext h;split
   .show MG O.own O.calm (G9 O (by assumption)) (G.g O _) (mM (G.s O) _) λx=>jL h x
   .split
    .show ML O.own O.calm zJ (G.g O _) (mM (G.s O) _) λx=>jL h x
    .show OU O.own O.calm (Ob G O _ _) (G.g O _) (mM (G.s O) _) λx=>jL h x
  .show fU
 .show Ui (G.t O _) (mM (G.s O) _)<|mM (G.s O) _
 .unfold sS;dsimp only;split
  .show fU
  .ext h;show L0 zJ<|lS (by simpa using h)
 .show Jt
 .show LZ
end
def ajU (m:Cm):Cm:=#[λc bo fz e=>sE m c bo fz e,λc e=>sT m c e,λc e=>sG m c e,λc st=>sS m c st]
def cm:Nat->Cm
 |0=>#[λ_ _ _ _=>aW,λ_ _=>aW,λ_ _=>wL,λ_ _=>dj]
 |n+1=>ajU<|cm n
theorem ou:∀ n,Good (cm n)
 |0=>#[λ_ _ _ _ _=>fI,λ_ _ _=>iy,λ_ _ _=>lZ,λ_ _ _=>fU]
 |n+1=>#[λO _ bo fz e=>Ys (ou n) O bo fz e,λO _ e=>Yt (ou n) O e,λO _ e=>Yu (ou n) O e,λO _ st=>Yv (ou n) O st]
structure FI where
 x:Str
 ps:List Str
 N:List Str
 bx:List Str
 dc:List Str
 wk:List (Str×Nat)
 fl:Nat   -- 1: its list is a box as it is returned,2: may raise,4: has a try,8: calls itself
 st:cb
 fn:List W->List Bx->O W
structure Tx where
 KA:Str
 gl:List (Str×Int)
 bl:List Str
noncomputable def FI.b (f:FI) (i:Nat):Bool:=f.fl / i % 2==1
noncomputable def ajV (r:List FI):List (Str×(Nat×(List W->List Bx->O W))):=r.map λg=>(g.x,(g.ps.length,g.fn))
def FI.cf (t:Tx) (fs:List<|Str×(Nat×(List W->List Bx->O W))) (f:FI):Cf:=
 { N:=f.N,nm:=(fP f.st).names,f:=ah,bx:=f.bx,dc:=f.dc,wk:=f.wk,KA:=t.KA,fs:=fs,gl:=t.gl,bl:=t.bl,rb:=f.b 1,ow:=[] }
def FI.body (t:Tx) (fs:List<|Str×(Nat×(List W->List Bx->O W))) (f:FI):List W->List Bx->O W:=
 let m:=vw ((cm 40).s<|f.cf t fs)<|g6 f.st
 aX f.N.length (aP m)
def FI.ok (f:FI):Bool:=decide ((fP f.st).kind=.function)&&!(fP f.st).isCoroutine&&!(fP f.st).isGenerator&&decide f.N.Nodup&&decide (f.N.take f.ps.length=f.ps) &&
 f.ps.all (λx=>decide ((fP f.st).names.lookup x=ae .local)||decide ((fP f.st).names.lookup x=ae .cell))&&(fP f.st).names.all λy=>decide (y.2≠.free)
theorem FI.scope {f:FI}(h:f.ok=ah):xH f.N f.ps (fP f.st):=by
 erw[FI.ok,aJ,decide_eq_true_eq,cY,xc,rV]at h;let#[#[#[#[#[#[h1,h2],h3],h4],h5],h6],h7]:=h;show#[h1,h2,h3,h4,h5,h6,λy m=>h7 y m]
def FI.Is (t:Tx) (r:List FI) (f:FI):zk:=f.fn=f.body t (ajV r)
noncomputable def aaH (t:Tx):List FI->zk
 |[]=>True
 |f::r=>f.Is t r /\ aaH t r
noncomputable def KU:List FI->Nat
 |[]=>0
 |_::r=>KU r+1
structure aaI (K:PySem.W.Frag) (mg:Str->Option ai) (t:Tx):zk where
 gl:∀ x v,t.gl.lookup x=ae v->∃ u,mg x=ae (.int v u)
 bl:∀ x,x∈t.bl->mg x=ag
 ti:pZ K "int"
 tb:pZ K "bool"
 tt:pZ K "tuple"
 tl:pZ K "list"
theorem Oi {t:Tx}(B:aaI K mg t) {f:FI}(d:Def K mg f.x f.st f.ps) (ho:f.ok=ah) {k:Nat}
 {fs:List (Str×(Nat×(List W->List Bx->O W)))}(F:∀ x n fn,fs.lookup x=ae (n,fn)->∃ kk ps,sW P w K mg base cl kk x ps fn /\ ps.length=n /\ kk<=k):sW P w K mg base cl (k+1) f.x f.ps (f.body t fs):=by
 have S:=FI.scope ho;refine UG d S λfa bO A outer s H E n F0 hr=>mM ((ou 40).s (k:=k) ?_) _;show#[rfl,rfl,S.kind,rfl,λ_ _=>rfl,(λx m=>nomatch m),S.nd,hr,F,B.gl,B.bl,Gh,B.ti,B.tb,B.tt,B.tl,PassesOwn.never]
def KW:List FI->Bool
 |[]=>ah
 |f::r=>f.ok&&KW r
theorem SI {t:Tx}(B:aaI K mg t):∀ (l:List FI),aaH t l->KW l=ah->(∀ f∈l,Def K mg f.x f.st f.ps)->∀ f∈l,∃ kk,sW P w K mg base cl kk f.x f.ps f.fn /\ kk<=KU l:=by
 intro l_;induction l_ with
 |nil=>show λ_ _ _=>λf m=>nomatch m
 |cons f r ay=>
   intro A C D;let#[A1,A2]:=A;have C':(f.ok&&KW r)=ah:=C;rw[aJ]at C';have ih:=ay A2 C'.2 λg m=>D g<|bE _ m;intro g m;rcases bw.mp m with rfl|m
   .rw[A1];show#[KU r+1,Oi B (D g<|bD ..) C'.1 (λx n fn e=>by
    refine jo (P:=λx (p)=>∃ kk ps,sW P w K mg base cl kk x ps p.2 /\ ps.length=p.1 /\ kk<=KU r) (λp m=>?_) e;let#[g,ajW,rfl]:=bp.mp m;let#[kk,h1,h2]:=ih g ajW;show#[kk,g.ps,h1,rfl,h2]),aE _]
   .let#[kk,h1,h2]:=ih g m;show#[kk,h1,Hj h2]
noncomputable def afk (o:aZ):Bool:=match o.cls with|.type n=>n == "list"|_=>af
def KY (K:PySem.W.Frag):Bool:=K.all λp=>!afk p.2
theorem Ln (h:KY K=ah) (e:K.lookup a=ae o):o.cls≠.type "list":=by
 intro c;unfold KY at h;rw[cY]at h;have m:(a,o)∈K:=by
  clear h;induction K with
  |nil=>cases e
  |cons p K ih=>
    rw[kM]at e;cases q:a==p.1 with
    |true=>
      rw[q]at e;cases e;have:a=p.1:=by simpa using q
      subst this;show bD ..
    |false=>
      rw[q]at e;show bE _<|ih e
 have:=h _ m;simp[afk,c]at this
theorem V3 (nl:KY K=ah) (hO:Y5 H) (hS:bN K H a<|ns.map V.int) (hf:∃ bx',fn [.s ns] []=.val (.d<|.bl ah) bx') :
 ur cl 1 fn [.ref a] H (λv _=>v=.bl ah) λ_ _ _=>False:=by
 rcases hS with hS|⟨o,its,n,e1,e2,_⟩
 .rcases hS with hS|⟨o,hS⟩
  .rcases hO a with z|⟨o,xs,z⟩
   .rw[hS]at z;cases z
   .rw[hS]at z;cases z
  .let#[bx',hf]:=hf;refine#[H,[],[.s ns],[],#[Sub.refl H,λi w e=>by simp at e,rfl,.nil,λn c a e=>by simp,λa u e _=>e,λn a _ e=>by simp at e,aE _,aE _,λa u e=>.inr<|.inl e],#[.ref a,[],rfl,#[a,o,rfl,hS],rfl],rfl,?_];rw[hf];intro F' r' v H' _ _ d;show d
 .show absurd e2<|Ln nl e1
noncomputable def tys:List String:=["NoneType","bool","int","str","tuple","list","dict"]
def KZ (K:PySem.W.Frag):Bool:=tys.all λS=>["int","bool","tuple","list"].all λT=>PySem.W.kitOne K (.type S) (.type T)==ae (u4 S T)
theorem CN (h:KZ K=ah) {T:String}(m:T∈["int","bool","tuple","list"]):pZ K T:=by
 intro d;unfold KZ at h;rw[cY]at h;have m1:rm d∈tys:=by cases d<;>simp[rm,tys]
 have z:=h _ m1;rw[cY]at z;show beq_iff_eq.mp<|z _ m
theorem V4 {ps:List Str}{f:aj}{oc:ai}{od an:Option aj}{kV doc pm bO ct:ai}(X:K.In h) (G:h.Ns mainGlobals mg)
 (a:PySem.W.nsIn K mainGlobals x=ae (ae<|.ref f)) (l:K.lookup f=ae #[oc,od,.func<|PySem.W.fnOf x x (jr st) (g6 st) (fP st) .none kV doc pm an bO ct,qN])
 (c:PySem.W.codeIn K bO x=ah) (k:PySem.W.keepIn K (.ref f)=ah) (hb:∀ fd,qx K x x st f fd->Binds K fd ps []):Def K mg x st ps:=
 #[f,_,LP l c k,PySem.W.mg_of X G a,hb _<|LP l c k]
theorem V5 {l:PySem.W.OpenLaw}{fa:aj}{k:Nat}(cl:Nat->aj) (yr:mg "law"=ae (.ref fa)) (D:Def K mg "law" st ["_law_script"])
 (hB:∀ (fd:FuncData) (f:aj),qx K "law" "law" st f fd->∀ (s:au) (u:ai),BindsTo s fd #[[u],[]] [("_law_script",u)])
 (H:∀ base:aI,K.In base->base.Ns mainGlobals mg->sW l.prog w K mg base cl k "law" ["_law_script"] fn) :
 ∃ (cl:Nat->aj) (fd:FuncData),(∀ (s:au) (u:ai),BindsTo s fd #[[u],[]] [("_law_script",u)]) /\ ∀ base:aI,K.In base->base.Ns mainGlobals mg->kR l.prog w K mg base (qy l.prog w) k fa fd ["_law_script"] (ur cl 1 fn):=by
 let#[f,fd,F,hm,_]:=D;rw[yr]at hm;cases hm;refine#[cl,fd,hB fd fa F,λbase hK hN=>?_];let#[f',alW,ok,afl,_,_,o,hl,hd]:=H base hK hN;rw[yr]at afl;cases afl;let#[o2,rf,hd2]:=F.obj;rw[hl]at rf;cases rf;rw[hd]at hd2;cases hd2;show ok
theorem walk_d {l:PySem.W.OpenLaw}{q:dD}{loose:List Str}{YP:cw->aI->zk}{d:DefRec}{K:Params->PySem.W.Frag}{k:Nat}(hk:dE k callerA) (hn:l.most=ae 63) (Y3:d.params.defaults=[])
 (hY:∀ (w:cw) (h:aI),YP w h->(K w.params).In h) (nl:∀ w:cw,KY (K w.params)=ah) (hf:∀ ns:List Int,ns.length<=63->∃ bx',fn [.s ns] []=.val (.d<|.bl ah) bx')
 (F:∀ (w:cw) (mg:Str->Option ai) (fa:aj) (h:aI),(K w.params).In h->h.Ns mainGlobals mg->mg d.name=ae (.ref fa) ->
  ∃ (cl:Nat->aj) (fd:FuncData),(∀ (s:au) (u:ai),BindsTo s fd #[[u],[]] [("_law_script",u)]) /\ ∀ base:aI,(K w.params).In base->base.Ns mainGlobals mg->kR l.prog w (K w.params) mg base (qy l.prog w) k fa fd ["_law_script"] (ur cl 1 fn)) :
 PySem.W.WalkO q loose XP YP l.row.toRowW d [] (λf vs=>PySem.call f vs):=by
 refine adD.ahv hn Y3 λw s0 s1 mg mb fa o pm cd doc a vs ns G Y ho hd pX hmg Y4 hints hlen hg=>?_;have KX:=hY w _ Y;let#[cl,fd,hb,hF]:=F w mg fa _ KX G.T.g hmg;show LO KX G.T.g G.T.b G.T.builtins G.T.nolimit hg Y4 hints (cB hlen ze) hk hF hb (λH hO hS=>V3 (nl w) hO hS<|hf ns hlen) λH e s' z=>by
  let#[_,_,_,_,_,_,_,_,_,_,_,_,_,z]:=z;show z
noncomputable def K0 (K:Frag) (bl:List Str):Bool:=bl.all λx=>match nsIn K mainGlobals x with|some ag=>ah|_=>af
noncomputable def K3 (K:Frag) (gl:List<|Str×Int):Bool:=gl.all λp=>match nsIn K mainGlobals p.1 with|some (ae<|.int v _)=>v==p.2|_=>af
theorem FX {bl:List Str}(X:K.In h) (G:h.Ns mainGlobals mg) (c:K0 K bl=ah):∀ x,x∈bl->mg x=ag:=λx m=>by
 unfold K0 at c;rw[cY]at c;have z:=c x m;split at z
 .next e=>show mg_none_of X G e
 .cases z
theorem Oj {gl:List (Str×Int)}(X:K.In h) (G:h.Ns mainGlobals mg) (c:K3 K gl=ah):∀ x v,gl.lookup x=ae v->∃ u,mg x=ae (.int v u):=λx v e=>by
 unfold K3 at c;rw[cY]at c;refine jo (P:=λx (v)=>∃ u,mg x=ae (.int v u)) (λp m=>?_) e;have z:=c p m;split at z
 .next v u e=>
  have:v=p.2:=by simpa using z
  subst this;show#[u,mg_of X G e]
 .cases z
theorem Yw {t:Tx}(X:K.In h) (G:h.Ns mainGlobals mg) (z:K0 K t.bl=ah) (g:K3 K t.gl=ah) (y:KZ K=ah):aaI K mg t:=
 #[Oj X G g,FX X G z,CN y zj,CN y zj,CN y zj,CN y zj]
theorem SJ {l:PySem.W.OpenLaw}{fa:aj}{k:Nat}(cl:Nat->aj) (yr:mg "law"=ae (.ref fa)) (D:Def K mg "law" st ["_law_script"])
 (hB:∀ (fd:FuncData) (f:aj),qx K "law" "law" st f fd->∀ (s:au) (u:ai),BindsTo s fd #[[u],[]] [("_law_script",u)])
 (H:∀ base:aI,K.In base->base.Ns mainGlobals mg->∃ kk,sW l.prog w K mg base cl kk "law" ["_law_script"] fn /\ kk<=k) :
 ∃ (cl:Nat->aj) (fd:FuncData),(∀ (s:au) (u:ai),BindsTo s fd #[[u],[]] [("_law_script",u)]) /\ ∀ base:aI,K.In base->base.Ns mainGlobals mg->kR l.prog w K mg base (qy l.prog w) k fa fd ["_law_script"] (ur cl 1 fn):=
 V5 cl yr D hB λbase a b=>by
  let#[kk,#[f,fd,ok,r],le]:=H base a b;show#[f,fd,ok.mono le,r]
def bh (K:Frag) (x:Str) (st:cb):zk:=∃ (f:aj) (oc:ai) (od:Option aj) (kV dc pm:ai) (an:Option aj) (cd ct:ai) (sl:Array<|Option ai),nsIn K mainGlobals x=ae (ae<|.ref f) /\
 K.lookup f=ae #[oc,od,.func<|fnOf x x (jr st) (g6 st) (fP st) .none kV dc pm an cd ct,sl] /\ codeIn K cd x=ah /\ keepIn K (.ref f)=ah
theorem dIn_mk {f:aj}{oc:ai}{od:Option aj}{kV dc pm:ai}{an:Option aj}{cd ct:ai}(a:nsIn K mainGlobals x=ae (ae<|.ref f))
 (l:K.lookup f=ae #[oc,od,.func<|fnOf x x (jr st) (g6 st) (fP st) .none kV dc pm an cd ct,sl]) (c:codeIn K cd x=ah) (k:keepIn K (.ref f)=ah):bh K x st:=#[f,oc,od,kV,dc,pm,an,cd,ct,sl,a,l,c,k]
noncomputable def aaJ (a:Arguments) (ps:List Str):Bool:=a.posonlyargs.isEmpty&&a.vararg.isNone&&a.kwonlyargs.isEmpty&&a.kwarg.isNone&&decide (a.args.map (·.arg)=ps)&&decide ps.Nodup
theorem AH {β:Type}{f g:Str->Option β}:∀ {l:List Str},(∀ n∈l,f n=g n)->l.filterMap f=l.filterMap g:=by
 intro l_;induction l_ with
 |nil=>show λ_=>rfl
 |cons n l ay=>(intro h;rw[qk,qk,h n<|bD ..,ay λm q=>h m<|bE _ q])
theorem D6:∀ {ps:List Str}{us:List ai},us.length=ps.length->ps.Nodup->(∀ n∈ps,((ps.zip us).lookup n).isNone=af) /\ ps.filterMap (λn=>((ps.zip us).lookup n).map (n,·))=ps.zip us
 |[],_,_,_=>#[(λ_ h=>nomatch h),rfl]
 |p::ps,[],h,_=>by cases h
 | p::ps,u::us,h,nd=>by
   let#[n1,n2]:=se.mp nd;let#[a,b]:=D6 (by simpa using h) n2;have ne:∀ n∈ps,(n==p)=af:=λn m=>beq_eq_false_iff_ne.mpr λz=>n1<|z▸m;refine#[λn m=>?_,?_]
   .rw[uQ,kM];cases q:n==p with
    |true=>rfl
    |false=>
      rcases bw.mp m with z|z
      .rw[z]at q;simp at q
      .show a n z
   .rw[uQ,List.filterMap_cons_some (b:=(p,u)) zj];congr 1;show Eq.trans (AH λn m=>by rw[kM,ne n m]) b
theorem FY {a:Arguments}{b:List cb}{sc:bT}{ps:List Str}(h:aaJ a ps=ah) (kV doc pm:ai) (an:Option aj) (bO ct:ai) (us:List ai) (hl:us.length=ps.length) :
 bindArgs (fnOf x x a b sc .none kV doc pm an bO ct) #[us,[]]=pure (ps.zip us):=by
 let#[po,ar,va,ko,kd,kw,df]:=a;simp[aaJ,aJ,decide_eq_true_eq,List.isEmpty_iff,Option.isNone_iff_eq_none]at h;let#[#[#[#[#[rfl,rfl],rfl],rfl],rfl],nd]:=h;let#[z1,z2]:=D6 hl nd;erw[bindArgs];have m0:∀ l:List Str,(∀ n∈l,n∈ar.map _)->l.filter (λn=>(((ar.map _).zip us).lookup n).isNone)=[]:=λl h=>List.filter_eq_nil_iff.mpr λn m=>by rw[z1 n<|h n m];decide
 have n0:(do notAStandIn Value.none;pure (ag:Option<|Array ai))=pure ag:=rfl;erw[abJ,nW,tW,yI,pure_bind,seqItems?,n0,hl,hV,decide_false,Hl,yH,if_false,Xn,List.drop_nil,pQ,Hh,Xd,List.drop_length,abI,m0 _ λ_ h=>h,List.isEmpty_nil,Bool.not_true,z2]
noncomputable def AllIn (K:Frag):List FI->zk
 |[]=>True
 |f::r=>bh K f.x f.st /\ AllIn K r
theorem afm {K:Frag}{h:aI}{mg:Str->Option ai}(X:K.In h) (G:h.Ns mainGlobals mg):∀ {l:List FI},AllIn K l->(l.all λf=>aaJ (jr f.st) f.ps)=ah->∀ f∈l,Def K mg f.x f.st f.ps
 |[],_,_=>λ_ m=>nomatch m
 | g::r,d,q=>λf m=>by
   rw[tX,aJ]at q;rcases bw.mp m with rfl|m
   .let#[f,oc,od,kV,dc,pm,an,cd,ct,sl,a,l,c,k]:=d.1;show V4 X G a l c k λfd F=>F.binds<|FY q.1
   .show afm X G d.2 q.2 f m
end L2.DL
namespace K22
open L2 L2.DL
noncomputable section
def top (i:Nat):cb:=PySem.Challenge.pw_rimehold_k22_whole_sums_of_far_hours.main.body.getD i<|.Pass #[0,0,0,0]
noncomputable def tx:L2.DL.Tx:=#["_law_script",[("COLDEST",3),("MOST_OUTS",4),("MOST_PAGES",16),("LAST_LOT",9)],["all","any","bool","dict","int","isinstance","len","list","max","min","range","set","sorted","tuple","zip"]]
def i0:FI:=#["_law_pot",["_law_cell"],["_law_cell","_law_number","_law_j","_law_more"],[],[],[],1,top 55,K1.jZ]
def i1:FI:=#["_law_take",["_law_pot_here","_law_far"],["_law_pot_here","_law_far","_law_found"],[],[],[],0,top 56,K1.fm]
def i2:FI:=#["_law_kind_of",["_law_pot_here"],["_law_pot_here","_law_top","_law_rates"],[],[],[],0,top 58,K1.ie]
def i3:FI:=#["_law_house",["_law_pot_here"],["_law_pot_here","_law_rooms","_law_kinds","_law_pairs","_law_other"],[],[],[],0,top 59,aH.iY]
def i4:FI:=#["is_tuple",["thing","fewest","most"],["thing","fewest","most"],[],[],[],0,top 11,K1.gh]
def i5:FI:=#["is_whole",["thing"],["thing"],[],[],[],0,top 8,K1.ju]
def i6:FI:=#["is_within",["thing","least","greatest"],["thing","least","greatest"],[],[],[],0,top 9,K1.fX]
def i7:FI:=#["are_rooms",["thing"],["thing"],[],[],[],0,top 18,K1.jV]
def i8:FI:=#["are_rates",["thing"],["thing"],[],[],[],0,top 21,K1.jW]
def i9:FI:=#["is_kind",["thing"],["thing"],[],[],[],0,top 20,K1.mC]
def K4:FI:=#["are_kinds",["thing"],["thing"],[],[],[],0,top 19,K1.jX]
def K5:FI:=#["is_rising",["things"],["things"],[],[],[],0,top 12,K1.ia]
def i12:FI:=#["is_pair_apart",["thing","many"],["thing","many"],[],[],[],0,top 23,K1.iD]
def K6:FI:=#["are_apart",["thing","many"],["thing","many"],[],[],[],0,top 22,K1.jY]
def K7:FI:=#["is_house",["thing"],["thing","rooms","kinds","apart","hold"],[],[],[],0,top 17,K1.lG]
def K8:FI:=#["need_house",["thing"],["thing"],[],[],[],0,top 24,bG.iM]
def K9:FI:=#["greatest_parts",["house","word"],["house","word","last_kind","last_room"],[],[],[],0,top 35,aH.ij]
def Qa:FI:=#["is_hour",["thing"],["thing"],[],[],[],0,top 10,K2.iE]
def Qb:FI:=#["is_page",["house","thing"],["house","thing","greatest"],[],[],[],0,top 36,aH.j7]
def Qc:FI:=#["are_pages",["house","thing"],["house","thing"],[],[],[],0,top 37,aH.j8]
def Qd:FI:=#["need_pages",["house","thing"],["house","thing"],[],[],[],0,top 38,aH.iN]
def Qe:FI:=#["need_hour",["thing"],["thing"],[],[],[],0,top 13,aS.io]
def Qf:FI:=#["rooms_behind",["steps","hour"],["steps","hour","rooms","page","left","entered"],["rooms"],["rooms"],[],0,top 44,cn.gQ]
def Qg:FI:=#["room_entered",["page"],["page"],[],[],[],0,top 41,aH.fN]
def Qh:FI:=#["may_share",["house","kind","other"],["house","kind","other"],[],[],[],0,top 31,aH.ja]
def Qi:FI:=#["word_for",["house","kinds","rooms","page"],["house","kinds","rooms","page","deed","lot","room","kind","neighbours"],[],["kinds","rooms"],[],0,top 42,aH.iS]
def Qj:FI:=#["read",["house","pages"],["house","pages","told","kinds","rooms","page","lot","word"],["kinds","rooms","told"],["kinds","rooms"],[],0,top 40,aH.Ct]
def Qk:FI:=#["steps_taken",["house","pages"],["house","pages"],[],[],[],0,top 43,cn.gq]
def Ql:FI:=#["places",["house","pages","hour"],["house","pages","hour","rooms"],[],[],[],0,top 39,K22.iI]
def Qm:FI:=#["_law_cell_at",["_law_script","_law_k"],["_law_script","_law_k"],[],[],[],0,top 54,K1.ib]
def Qn:FI:=#["_law_mixed",["_law_pot_here","_law_some"],["_law_pot_here","_law_some","_law_left"],["_law_left"],[],[],0,top 57,aH.j6]
def Qo:FI:=#["_law_page",["_law_pot_here","_law_house_here","_law_near"],["_law_pot_here","_law_house_here","_law_near","_law_hour","_law_lot","_law_room","_law_way","_law_ripe"],[],[],[],0,top 61,aH.gY]
def Qp:FI:=#["_law_pages",["_law_pot_here","_law_house_here","_law_most","_law_near"],["_law_pot_here","_law_house_here","_law_most","_law_near","_law_found","_law_turn","_law_page_here"],["_law_found"],[],[("_law_found",3)],0,top 62,aH.iZ]
def Qq:FI:=#["lie_apart",["outs"],["outs"],[],[],[],0,top 27,K2.j0]
def Qr:FI:=#["is_out",["thing"],["thing"],[],[],[],0,top 26,K2.oJ]
def Qs:FI:=#["are_outs",["house","thing"],["house","thing"],[],[],[],0,top 25,aS.lK]
def Qt:FI:=#["need_outs",["house","thing"],["house","thing"],[],[],[],0,top 28,aS.lc]
def Qu:FI:=#["need_lot_of",["house","outs","pages","lot"],["house","outs","pages","lot"],[],[],[],0,top 48,aS.im]
def Qv:FI:=#["coming_of",["steps","lot"],["steps","lot","page","left","entered"],[],[],[],0,top 49,aS.gM]
def Qw:FI:=#["hours_of_change",["house","outs"],["house","outs","hours","begin","end"],["hours"],[],[],1,top 30,aS.gR]
def Qx:FI:=#["cold_by_outs",["house","outs","room","hour"],["house","outs","room","hour","cold","begin","end"],[],[],[],0,top 29,K2.iU]
def Qy:FI:=#["is_opened",["steps","room","hour"],["steps","room","hour"],[],[],[],0,top 45,aS.jb]
def Qz:FI:=#["points_in",["house","outs","steps","coming","hour"],["house","outs","steps","coming","hour","rooms","room","cold"],[],["rooms"],[],0,top 50,aS.jc]
def QA:FI:=#["stretches",["house","outs","steps","coming"],["house","outs","steps","coming","hours","page","left","entered","begins","ends"],["hours"],[],[],0,top 51,aS.lg]
def QB:FI:=#["ripe_at",["house","outs","steps","coming","hour"],["house","outs","steps","coming","hour","ripe","begin","end","points","until"],[],[],[],0,top 52,aS.mF]
def QC:FI:=#["ripeness",["house","outs","pages","lot","hour"],["house","outs","pages","lot","hour","steps","coming"],[],[],[],0,top 47,aS.gn]
def QD:FI:=#["_law_rows",["_law_house_here","_law_outs_here","_law_pages_here","_law_hours"],["_law_house_here","_law_outs_here","_law_pages_here","_law_hours"],[],[],[],0,top 66,K22.gZ]
def QE:FI:=#["_law_mates",["_law_house_here","_law_there","_law_kind"],["_law_house_here","_law_there","_law_kind","_law_found","_law_lot","_law_other"],["_law_found"],["_law_there"],[],0,top 63,aH.gK]
def QF:FI:=#["_law_read_one",["_law_house_here","_law_box","_law_page_here"],["_law_house_here","_law_box","_law_page_here","_law_hour","_law_word","_law_lot","_law_there","_law_kind","_law_room"],["_law_there"],["_law_there","came","gone","there"],[("doors",3)],0,top 64,aH.gG]
def QG:FI:=#["_law_read",["_law_house_here","_law_pages_here"],["_law_house_here","_law_pages_here","_law_box","_law_page_here"],[],["_law_box"],[("doors",3)],0,top 65,aH.jx]
def QH:FI:=#["_law_outs",["_law_pot_here","_law_near"],["_law_pot_here","_law_near","_law_found","_law_begin","_law_turn"],["_law_found"],[],[],0,top 60,K2.jv]
def QI:FI:=#["_law_rises",["_law_row"],["_law_row","_law_some"],[],[],[],0,top 67,K22.jd]
def QJ:FI:=#["_law_grows",["_law_house_here","_law_outs_here","_law_pages_here","_law_lot","_law_room","_law_kind"],["_law_house_here","_law_outs_here","_law_pages_here","_law_lot","_law_room","_law_kind","_law_begin","_law_ends","_law_rates","_law_cold","_law_still","_law_first","_law_second","_law_near"],[],[],[],0,top 68,K22.jf]
def yt:FI:=#["law",["_law_script"],["_law_script","_law_k","_law_pot_here","_law_house_here","_law_pages_here","_law_near","_law_begin","_law_ends","_law_outs_here","_law_still","_law_hours","_law_there","_law_rows_here","_law_came","_law_lot","_law_far","_law_room","_law_by","_law_later","_law_moved"],[],["_law_came","_law_there"],[],0,top 69,K22.CL]
noncomputable def r0:List FI:=[]
def r1:List FI:=i0::r0
def r2:List FI:=i1::r1
def r3:List FI:=i2::r2
def r4:List FI:=i3::r3
def r5:List FI:=i4::r4
def r6:List FI:=i5::r5
def r7:List FI:=i6::r6
def r8:List FI:=i7::r7
def r9:List FI:=i8::r8
def IX:List FI:=i9::r9
def afn:List FI:=K4::IX
def afo:List FI:=K5::afn
def afp:List FI:=i12::afo
def afq:List FI:=K6::afp
def afr:List FI:=K7::afq
def afs:List FI:=K8::afr
def aft:List FI:=K9::afs
def afu:List FI:=Qa::aft
def afv:List FI:=Qb::afu
def afw:List FI:=Qc::afv
def afx:List FI:=Qd::afw
def afy:List FI:=Qe::afx
def afz:List FI:=Qf::afy
def afA:List FI:=Qg::afz
def afB:List FI:=Qh::afA
def afC:List FI:=Qi::afB
def afD:List FI:=Qj::afC
def afE:List FI:=Qk::afD
def afF:List FI:=Ql::afE
def E6:List FI:=Qm::afF
def afG:List FI:=Qn::E6
def afH:List FI:=Qo::afG
def afI:List FI:=Qp::afH
def afJ:List FI:=Qq::afI
def afK:List FI:=Qr::afJ
def afL:List FI:=Qs::afK
def afM:List FI:=Qt::afL
def afN:List FI:=Qu::afM
def afO:List FI:=Qv::afN
def afP:List FI:=Qw::afO
def afQ:List FI:=Qx::afP
def afR:List FI:=Qy::afQ
def afS:List FI:=Qz::afR
def afT:List FI:=QA::afS
def afU:List FI:=QB::afT
def afV:List FI:=QC::afU
def afW:List FI:=QD::afV
def afX:List FI:=QE::afW
def afY:List FI:=QF::afX
def afZ:List FI:=QG::afY
def af0:List FI:=QH::afZ
def af1:List FI:=QI::af0
def af2:List FI:=QJ::af1
def QK:List FI:=yt::af2
theorem q0:i0.Is tx r0:=(by kernel_rfl:i0.fn=i0.body tx _)
theorem q1:i1.Is tx r1:=(by kernel_rfl:i1.fn=i1.body tx _)
theorem q2:i2.Is tx r2:=(by kernel_rfl:i2.fn=i2.body tx _)
theorem q3:i3.Is tx r3:=(by kernel_rfl:i3.fn=i3.body tx _)
theorem q4:i4.Is tx r4:=(by kernel_rfl:i4.fn=i4.body tx _)
theorem q5:i5.Is tx r5:=(by kernel_rfl:i5.fn=i5.body tx _)
theorem q6:i6.Is tx r6:=(by kernel_rfl:i6.fn=i6.body tx _)
theorem q7:i7.Is tx r7:=(by kernel_rfl:i7.fn=i7.body tx _)
theorem q8:i8.Is tx r8:=(by kernel_rfl:i8.fn=i8.body tx _)
theorem q9:i9.Is tx r9:=(by kernel_rfl:i9.fn=i9.body tx _)
theorem ajX:K4.Is tx IX:=(by kernel_rfl:K4.fn=K4.body tx _)
theorem ajY:K5.Is tx afn:=(by kernel_rfl:K5.fn=K5.body tx _)
theorem ajZ:i12.Is tx afo:=(by kernel_rfl:i12.fn=i12.body tx _)
theorem aj0:K6.Is tx afp:=(by kernel_rfl:K6.fn=K6.body tx _)
theorem aj1:K7.Is tx afq:=(by kernel_rfl:K7.fn=K7.body tx _)
theorem aj2:K8.Is tx afr:=(by kernel_rfl:K8.fn=K8.body tx _)
theorem aj3:K9.Is tx afs:=(by kernel_rfl:K9.fn=K9.body tx _)
theorem aj4:Qa.Is tx aft:=(by kernel_rfl:Qa.fn=Qa.body tx _)
theorem aj5:Qb.Is tx afu:=(by kernel_rfl:Qb.fn=Qb.body tx _)
theorem aj6:Qc.Is tx afv:=(by kernel_rfl:Qc.fn=Qc.body tx _)
theorem aj7:Qd.Is tx afw:=(by kernel_rfl:Qd.fn=Qd.body tx _)
theorem aj8:Qe.Is tx afx:=(by kernel_rfl:Qe.fn=Qe.body tx _)
theorem aj9:Qf.Is tx afy:=(by kernel_rfl:Qf.fn=Qf.body tx _)
theorem aka:Qg.Is tx afz:=(by kernel_rfl:Qg.fn=Qg.body tx _)
theorem akb:Qh.Is tx afA:=(by kernel_rfl:Qh.fn=Qh.body tx _)
theorem akc:Qi.Is tx afB:=(by kernel_rfl:Qi.fn=Qi.body tx _)
theorem akd:Qj.Is tx afC:=(by kernel_rfl:Qj.fn=Qj.body tx _)
theorem ake:Qk.Is tx afD:=(by kernel_rfl:Qk.fn=Qk.body tx _)
theorem akf:Ql.Is tx afE:=(by kernel_rfl:Ql.fn=Ql.body tx _)
theorem akg:Qm.Is tx afF:=(by kernel_rfl:Qm.fn=Qm.body tx _)
theorem akh:Qn.Is tx E6:=(by kernel_rfl:Qn.fn=Qn.body tx _)
theorem aki:Qo.Is tx afG:=(by kernel_rfl:Qo.fn=Qo.body tx _)
theorem akj:Qp.Is tx afH:=(by kernel_rfl:Qp.fn=Qp.body tx _)
theorem akk:Qq.Is tx afI:=(by kernel_rfl:Qq.fn=Qq.body tx _)
theorem akl:Qr.Is tx afJ:=(by kernel_rfl:Qr.fn=Qr.body tx _)
theorem akm:Qs.Is tx afK:=(by kernel_rfl:Qs.fn=Qs.body tx _)
theorem akn:Qt.Is tx afL:=(by kernel_rfl:Qt.fn=Qt.body tx _)
theorem ako:Qu.Is tx afM:=(by kernel_rfl:Qu.fn=Qu.body tx _)
theorem akp:Qv.Is tx afN:=(by kernel_rfl:Qv.fn=Qv.body tx _)
theorem akq:Qw.Is tx afO:=(by kernel_rfl:Qw.fn=Qw.body tx _)
theorem akr:Qx.Is tx afP:=(by kernel_rfl:Qx.fn=Qx.body tx _)
theorem aks:Qy.Is tx afQ:=(by kernel_rfl:Qy.fn=Qy.body tx _)
theorem akt:Qz.Is tx afR:=(by kernel_rfl:Qz.fn=Qz.body tx _)
theorem aku:QA.Is tx afS:=(by kernel_rfl:QA.fn=QA.body tx _)
theorem akv:QB.Is tx afT:=(by kernel_rfl:QB.fn=QB.body tx _)
theorem akw:QC.Is tx afU:=(by kernel_rfl:QC.fn=QC.body tx _)
theorem akx:QD.Is tx afV:=(by kernel_rfl:QD.fn=QD.body tx _)
theorem aky:QE.Is tx afW:=(by kernel_rfl:QE.fn=QE.body tx _)
theorem akz:QF.Is tx afX:=(by kernel_rfl:QF.fn=QF.body tx _)
theorem akA:QG.Is tx afY:=(by kernel_rfl:QG.fn=QG.body tx _)
theorem akB:QH.Is tx afZ:=(by kernel_rfl:QH.fn=QH.body tx _)
theorem akC:QI.Is tx af0:=(by kernel_rfl:QI.fn=QI.body tx _)
theorem akD:QJ.Is tx af1:=(by kernel_rfl:QJ.fn=QJ.body tx _)
theorem akE:yt.Is tx af2:=(by kernel_rfl:yt.fn=yt.body tx _)
theorem V6:aaH tx QK:=#[akE,#[akD,#[akC,#[akB,#[akA,#[akz,#[aky,#[akx,#[akw,#[akv,#[aku,#[akt,#[aks,#[akr,#[akq,#[akp,#[ako,#[akn,#[akm,#[akl,#[akk,#[akj,#[aki,#[akh,#[akg,#[akf,#[ake,#[akd,#[akc,#[akb,#[aka,#[aj9,#[aj8,#[aj7,#[aj6,#[aj5,#[aj4,#[aj3,#[aj2,#[aj1,#[aj0,#[ajZ,#[ajY,#[ajX,#[q9,#[q8,#[q7,#[q6,#[q5,#[q4,#[q3,#[q2,#[q1,#[q0,trivial]]]]]]]]]]]]]]]]]]]]]]]]]]]]]]]]]]]]]]]]]]]]]]]]]]]]]]
theorem V7:KW QK=ah:=by kernel_rfl
end
open PySem.W
theorem V8 {l:PySem.W.OpenLaw}{fa:aj}(X:K.In h) (G:h.Ns mainGlobals mg) (yr:mg "law"=ae (.ref fa))
 (z0:K0 K tx.bl=ah) (g0:K3 K tx.gl=ah) (y1:KZ K=ah)
 (d0:bh K "_law_pot"<|top 55)
 (d1:bh K "_law_take"<|top 56)
 (d2:bh K "_law_kind_of"<|top 58)
 (d3:bh K "_law_house"<|top 59)
 (d4:bh K "is_tuple"<|top 11)
 (d5:bh K "is_whole"<|top 8)
 (d6:bh K "is_within"<|top 9)
 (d7:bh K "are_rooms"<|top 18)
 (d8:bh K "are_rates"<|top 21)
 (d9:bh K "is_kind"<|top 20)
 (akF:bh K "are_kinds"<|top 19)
 (akG:bh K "is_rising"<|top 12)
 (akH:bh K "is_pair_apart"<|top 23)
 (akI:bh K "are_apart"<|top 22)
 (akJ:bh K "is_house"<|top 17)
 (akK:bh K "need_house"<|top 24)
 (akL:bh K "greatest_parts"<|top 35)
 (akM:bh K "is_hour"<|top 10)
 (akN:bh K "is_page"<|top 36)
 (akO:bh K "are_pages"<|top 37)
 (akP:bh K "need_pages"<|top 38)
 (akQ:bh K "need_hour"<|top 13)
 (akR:bh K "rooms_behind"<|top 44)
 (akS:bh K "room_entered"<|top 41)
 (akT:bh K "may_share"<|top 31)
 (akU:bh K "word_for"<|top 42)
 (akV:bh K "read"<|top 40)
 (akW:bh K "steps_taken"<|top 43)
 (akX:bh K "places"<|top 39)
 (akY:bh K "_law_cell_at"<|top 54)
 (akZ:bh K "_law_mixed"<|top 57)
 (ak0:bh K "_law_page"<|top 61)
 (ak1:bh K "_law_pages"<|top 62)
 (ak2:bh K "lie_apart"<|top 27)
 (ak3:bh K "is_out"<|top 26)
 (ak4:bh K "are_outs"<|top 25)
 (ak5:bh K "need_outs"<|top 28)
 (ak6:bh K "need_lot_of"<|top 48)
 (ak7:bh K "coming_of"<|top 49)
 (ak8:bh K "hours_of_change"<|top 30)
 (ak9:bh K "cold_by_outs"<|top 29)
 (ala:bh K "is_opened"<|top 45)
 (alb:bh K "points_in"<|top 50)
 (alc:bh K "stretches"<|top 51)
 (ald:bh K "ripe_at"<|top 52)
 (ale:bh K "ripeness"<|top 47)
 (alf:bh K "_law_rows"<|top 66)
 (alg:bh K "_law_mates"<|top 63)
 (alh:bh K "_law_read_one"<|top 64)
 (ali:bh K "_law_read"<|top 65)
 (alj:bh K "_law_outs"<|top 60)
 (alk:bh K "_law_rises"<|top 67)
 (alm:bh K "_law_grows"<|top 68)
 (aln:bh K "law"<|top 69) :
 ∃ (cl:Nat->aj) (fd:FuncData),(∀ (s:au) (u:ai),BindsTo s fd #[[u],[]] [("_law_script",u)]) /\ ∀ base:aI,K.In base->base.Ns mainGlobals mg->kR l.prog w K mg base (qy l.prog w) 54 fa fd ["_law_script"] (ur cl 1 K22.CL):=by
 have DF:=afm X G (l:=QK) #[aln,alm,alk,alj,ali,alh,alg,alf,ale,ald,alc,alb,ala,ak9,ak8,ak7,ak6,ak5,ak4,ak3,ak2,ak1,ak0,akZ,akY,akX,akW,akV,akU,akT,akS,akR,akQ,akP,akO,akN,akM,akL,akK,akJ,akI,akH,akG,akF,d9,d8,d7,d6,d5,d4,d3,d2,d1,d0,trivial] (by kernel_rfl);refine SJ (λ_=>0) yr (DF yt<|bD ..) (λfd f F s u=>?_) λbase _ _=>(SI (Yw X G z0 g0 y1) QK V6 V7 DF yt<|bD ..)
 .let#[#[oc,od,kV,doc,pm,an,bO,ct,qN,rfl,_,_],_]:=F;show .of_eq zc
end K22
end
structure PySem.W.Fast:Prop where(tw1004284521969164050 tw10131687950813498077 tw10137389409424496119 tw10186950496519014210 tw10191837242290613548 tw10198870508230256385 tw10259005902839057987 tw10270220261229480088 tw10277692477300386156 tw10347024071291887673 tw10402996173222479260 tw10434370082046933961 tw10457848063176715144 tw1045913891930895652 tw10473114734142094368 tw10489866871525200818 tw1053967033145433600 tw10554789380080589992 tw10726287536421580205 tw1074092613944109291 tw10824799462073223728 tw10830346126698391580 tw10846119089404927851 tw10913442680697939075 tw11018904168611090911 tw11070931678418707420 tw11098778145740363863 tw11115262579621167015 tw11123466752597299958 tw11217929625258426983 tw11279933615123075092 tw11316071656885003190 tw11324379915846773804 tw11328978142913347602 tw11376574729422565340 tw11442360013754691830 tw11449714497741541898 tw11451532739114824058 tw11477461163098606592 tw11557498137613038690 tw11611257089814765228 tw11617588712749430983 tw11653583240869156532 tw11684079037320113947 tw11783114657021369211 tw11829296426872367163 tw1193261318806143766 tw12045304113393906839 tw12100811889410426160 tw12123246281920074373 tw12188520121476171312 tw12198139221198471503 tw12270627572364055571 tw12339199625648048053 tw12446457699298379054 tw12471497107864666641 tw12566507755383825898 tw12584527025174596502 tw12639014459212280546 tw12666068198566412171 tw12702933333819438344 tw12822508707131940965 tw1297349917292173590 tw12989181069249114507 tw13167682406192207585 tw13198369412647992406 tw13215904167816656370 tw13314918963242876951 tw13356078935443823749 tw1338251267002145607 tw13383305151744669850 tw13416121801208680988 tw13422245244661211183 tw13518584565271168180 tw1352426110064795380 tw13566384275994446684 tw13566688217407995049 tw13578282756325135322 tw13623409465377932428 tw13659739358555685891 tw13686430825136148703 tw13694402797634899941 tw13742125484478031521 tw13845687229557076355 tw13868417973973849186 tw1394907661612321570 tw13976650199165921409 tw13981835475284603714 tw14015526808451949473 tw14126056023564405258 tw14179438248020735218 tw14205044916796870273 tw14256867249785024041 tw14267605936022055882 tw1427578074217340129 tw14308453892276213837 tw1431399355488336390 tw14346239082556325506 tw14416189080295766282 tw14454842186722267775 tw14565835637158489986 tw14695159784872568642 tw14715769141367681187 tw14786770202648803334 tw14805108356527707036 tw14810465752946628144 tw14826083934302331959 tw14946356550692970776 tw14954417901521546685 tw15055622462531714642 tw15081416585843077809 tw15134597805030465363 tw15165810774195576156 tw15183640942865657803 tw15199918927832067449 tw15227646098650350880 tw15247669994519229959 tw15326645442022071893 tw15344290394381065325 tw15393655217184183675 tw15429316952275215718 tw15457436663729014643 tw15492174023530909707 tw15566050779885776248 tw15809276530328103486 tw15829709782365369042 tw15893322859424852663 tw1594929237931814629 tw15978377111938266361 tw15992251162782532252 tw16034870143290891848 tw16039020284053033171 tw16184796466117141234 tw16225145362753689766 tw16279357676249594255 tw16433273750713390708 tw16456981164397362497 tw16520501424135886102 tw16529699035737062371 tw16581076670199665893 tw16593944685525378 tw16620347262083327875 tw16629777773687937879 tw16683628362804935698 tw16697786163049137647 tw16751631072440659029 tw16781577422732664546 tw16798376171308862754 tw16815187066929328851 tw16825974909664181557 tw16850945469097015051 tw16860132336810515192 tw16916524746876533902 tw17057813091371819516 tw17061882595592401140 tw17079636727781651114 tw17084820929191504523 tw17114268061033752714 tw17165582914389811550 tw17210088257731796950 tw17222407019000429825 tw17240519426602326976 tw1726828778853135991 tw17291178379708453861 tw17308856745075107511 tw17346466828142281802 tw17386585361708519871 tw17437883081468220961 tw17525589193817513223 tw17677923790900194548 tw1768372946387984857 tw17742598219666842973 tw17805981166246813632 tw17820811087387438978 tw17869094586317464603 tw17885313911365436124 tw17898794340624714718 tw17940470960702011066 tw17950604770596929857 tw1804711421929914294 tw18075514828958959298 tw18125171997227715173 tw18126689120987682913 tw18308894384357465488 tw18322592803850988132 tw18332018899430006862 tw18349272641859125395 tw18355429429898939645 tw1903329869959596335 tw2055785988380587179 tw2097735048478752963 tw2129880083687388883 tw2144198050180449995 tw2187074831438605346 tw2201124926698368745 tw2218854720217496360 tw2230668765026874220 tw2286543479782257853 tw2370748694754942345 tw2396358178340879575 tw2441138235582680731 tw248881239566303194 tw2498586083367078239 tw2537680258517034123 tw2559489843731566360 tw2618045835223982105 tw272049541991189551 tw2791571154351146226 tw2817183703186432552 tw2828023451040501009 tw2871479521641447410 tw3028512489028207668 tw3047132064592287249 tw3148252309310255571 tw317771618453911905 tw3207042556471518589 tw321318501740215884 tw3225165529896775975 tw3238188767085845680 tw3241777689439169325 tw3269613770462671091 tw3346040766916732567 tw3362589856585858562 tw3430179827492041754 tw343691028002202106 tw3456211668773886148 tw3458197790213279456 tw3462667525044868766 tw3481026716018274842 tw3505894941608336561 tw3676683384940483032 tw3708559054768948984 tw3729652609455958937 tw3741574916742475835 tw3882085857028822223 tw3906771849401654806 tw3946675121072657479 tw3979163220200750850 tw3993080080059166505 tw4030224666004210095 tw4062572853096749267 tw4165979200096363969 tw4250462197755232725 tw4288239951352349782 tw4456940198992121790 tw4513727370747267285 tw453163553810623365 tw4565730927749814229 tw4638757438569349848 tw472267017570242248 tw4792648814011785511 tw4805592123029720249 tw4850608964723336706 tw4866073552065011652 tw4928729372816923927 tw4974371865132973669 tw5016081365579791716 tw503026849849471060 tw5202574331994775692 tw522464353360422052 tw5289015205214765999 tw5360068919584476455 tw5385035236117738972 tw5391575161341404222 tw5447950551511543784 tw5454340080830053761 tw5470091259608782675 tw5471064091047143445 tw5478778793071944991 tw5531644868278129068 tw5623478163613837314 tw5656690224246158012 tw5676687955995356573 tw5687586402291263553 tw5700238521658824068 tw5768176039123653538 tw5822185549376090715 tw5826004326929053647 tw5846855446844109351 tw5854818857947061132 tw5932741580514215174 tw5956981479184381392 tw5978087292933527587 tw6025349322525304275 tw6035685773393223491 tw611044750423597334 tw6150110820136010848 tw6160143182421533026 tw6174650982666186397 tw6265120632220226338 tw6265172893859153153 tw6291828045423203923 tw6315802087705013293 tw6332179932625227451 tw6509971677892540707 tw6626587210562826527 tw6627415912006031134 tw6676934352439052782 tw6706122121644902262 tw6720457019420241741 tw6771829118891965779 tw6861617669856408987 tw6872820074647828244 tw6897107819661176453 tw6993633424734524267 tw6999894107005972824 tw7023910808427325574 tw7075350995264125212 tw7121789231538166559 tw7134843997607093191 tw7159432776657900346 tw7174041769677081367 tw717601762729805718 tw7184453958365370262 tw7214020619724513384 tw7359690538939198281 tw736855916576496964 tw7396908153946870321 tw7513270794521876976 tw7525574631347521873 tw7533157027574261746 tw7586285195592236044 tw7669506509041447306 tw7692498778982412730 tw7766658132136598435 tw7767807309632224926 tw7782608169884987154 tw7782714517481989927 tw7846359792789937341 tw7885672778376890826 tw7915856591095037601 tw7963173863321315947 tw7966617424533651675 tw7967529350920440586 tw8016311127302735324 tw808593309149757321 tw8093119945078103400 tw8094996639269068539 tw8135491038915171820 tw8142078834417968312 tw823468376945597314 tw8244744094360966124 tw8344258860957467149 tw8455294645939794862 tw8467413032616390173 tw8494638201650761118 tw8518495898380201343 tw8526833325933297490 tw8532217541490860339 tw8553634700303899062 tw8558421416277734492 tw8632571856492353404 tw8766163037366106343 tw8783507874537410098 tw8806985347387681612 tw8976110777222863894 tw9062702817591563332 tw9114600080390760226 tw9193969003133956206 tw9237452553085169695 tw9238559093907997642 tw9260370446906563787 tw9356565559923932850 tw9367373661670791195 tw9400999603586960695 tw9434858264291662208 tw9436458899724237547 tw9441924342063049467 tw9451338151238804197 tw9466492887974288326 tw9512589294200814582 tw9567597604268419569 tw9569489636057980103 tw9630501897271641680 tw9687088655789849106 tw969879010113447129 tw9845247318409212135 tw9924573854895741889 tw9971078691579539462:True)
open_top hdk22 for PySem.Challenge.rw_rimehold_k22_whole_sums_of_far_hours

set_option maxRecDepth 100000 in
set_option maxHeartbeats 0 in
theorem PySem.Challenge.cw_rimehold_k22_whole_sums_of_far_hours_holds : PySem.Challenge.rw_rimehold_k22_whole_sums_of_far_hours.Holds :=
 hdk22 (by
 k_fill
 refine L2.DL.walk_d (l:=PySem.Challenge.rw_rimehold_k22_whole_sums_of_far_hours) (k:=54) (fn:=K22.CL) ⟨rfl,by decide,by decide,rfl⟩ rfl rfl (λw h Y=>PySem.W.kIn_of Y) ?kq_nl (λns h=>K22.law_true ns (by lia)) ?kq_F
 case kq_nl =>
  intro w;kernel_rfl
 case kq_F =>
  intro w mg fa h KX G hmg
  refine' K22.V8 KX G hmg ?kq_z0 ?kq_g0 ?kq_y1 ?_ ?_ ?_ ?_ ?_ ?_ ?_ ?_ ?_ ?_ ?_ ?_ ?_ ?_ ?_ ?_ ?_ ?_ ?_ ?_ ?_ ?_ ?_ ?_ ?_ ?_ ?_ ?_ ?_ ?_ ?_ ?_ ?_ ?_ ?_ ?_ ?_ ?_ ?_ ?_ ?_ ?_ ?_ ?_ ?_ ?_ ?_ ?_ ?_ ?_ ?_ ?_ ?_ ?_
  (case kq_z0=>kernel_rfl)
  (case kq_g0=>kernel_rfl)
  (case kq_y1=>kernel_rfl)
  any_goals exact L2.DL.dIn_mk (by k_is) (by k_is) (by k_is) (by k_is)
 )
