import PyProof.Rows.All
import Wide.All
import OpenK.AllK
import Wide.FinOn
import Lean
import PyProof.EqAt
import PyProof.EqKinds
import PyProof.TupleCall
import PyProof.LongRange
import PyProof.Walks
import PyProof.ListMulRoad
import PyProof.ReprRoads
import PyProof.NeData
import PyProof.P3In
import PyProof.ZipIter
import PyProof.Draws
import PyProof.TupleIter
import PyProof.Rows.StrRules
import PyProof.CompUse
import PyProof.ListRange
import KE.KDictLaws
import PyProof.EnumFor
import PyProof.EnumMake
import PyProof.EnumStmt
import PyProof.ConsumeWalk
import KE.KMinKey
import PyProof.ListNew
import PyProof.Rows.SetFrom
import PyProof.WalksMore
import KE.KDictList
import PyProof.DictWalks
import KE.KDictOf
import KE.KDictSum
import KE.KItemsList
import PyProof.AttrMissSeq
import PySem.Challenge.RW_rimehold_k24_lots_and_hours_refused
set_option Elab.async false
set_option linter.all false
set_option maxRecDepth 100000
set_option maxHeartbeats 4000000
set_option exponentiation.threshold 3000
set_option hygiene false
set_option compiler.extract_closed false
set_option genSizeOf false
local macro_rules|`(zat)=>`((aR (dB (d2 af pP (fj (K24.jA C) 7 (fc (dV 13) (fc (dV 3) (fc (dV 4) (fc (dV 5) (fc (dV 6) (fc (dV 11) (fc (dV 12) ff)))))))) (fj K24.lb 3 (fc (dV 13) (fc (dV 11) (fc (dV 12) ff)))))) (fF (dC (.bl af))) aY))
local macro_rules|`(zas)=>`((.d (.aG (bB (pre h ps [] [] qs).2))))
local macro_rules|`(zar)=>`((d2 af aA (dV 0) zd))
local macro_rules|`(zaq)=>`((qs.map enc))
local macro_rules|`(zap)=>`((.bF o (.dK ao)))
local macro_rules|`(zao)=>`((.builtin "object.__class__"))
local macro_rules|`(zan)=>`((fq (fX (qD (dV 2) (gf (fc (dV 3) (fc (d2 af fP (d2 af fP (dV 3) zd) (fj K1.fk 2 (fc (dV 0) zE))) ff))))) (fJ (d2 af fP (d2 af fP (d2 af aA (d2 af aA (dV 2) (tK zd)) zd) zd) (fj K1.fk 2 (fc (dV 0) zE))) (fe 3))))
local macro_rules|`(zam)=>`((fc (dV 3) ff))
local macro_rules|`(zal)=>`((.Assign [.Tuple [.Name x px,.Name y py] kt pt] (.Tuple [a,b] k2 nH) pos))
local macro_rules|`(zak)=>`((gj 3 (fm (fe 5) (fm (fe 6) (fm (fe 7) gn)))))
local macro_rules|`(zaj)=>`((∀ c o,c≠z->c≠TO->c≠i1->c≠i2->s.heap.get? c=ae o->h'.get? c=ae o))
local macro_rules|`(zai)=>`((g,word ps K R g,((look R (bM g)).map D.int).getD .aB,eS g))
local macro_rules|`(zah)=>`((List W))
local macro_rules|`(zag)=>`((ha pins s σ H _ I h))
local macro_rules|`(zaf)=>`((.ref a))
local macro_rules|`(zae)=>`((af,eval e X.env))
local macro_rules|`(zad)=>`((.ref s.heap.objs.size))
local macro_rules|`(zac)=>`((ps.map dP))
local macro_rules|`(zab)=>`(([e].length+([]:List Keyword).length+(if ([]:List Keyword).isEmpty then 0 else 1)<30))
local macro_rules|`(zaa)=>`((.ref C))
local macro_rules|`(z9)=>`((XW P w K mg base f cdv A outer s Hx E))
local macro_rules|`(z8)=>`((aR (dB (d2 af kP (dV 7) zh)) (fq (fJ (d2 af fP (dV 5) (d2 af pK (d2 af cB (d2 af fP (dV 4) (dV 7)) zd) (dV 7))) (fe 8)) (fq (aR (nW (dB (kF af (dV 6))) (dB (d2 af dX (dV 8) (dV 6)))) (fF (dV 8)) aY) (rW ag 4 (d2 af dj (dV 7) (d2 af cB (dV 6) (dV 5)))))) aY))
local macro_rules|`(z7)=>`((A.deeper (envOfC qual (fE st) s.heap.objs.size f cdv)))
local macro_rules|`(zZ)=>`((bx++[.dT (gs.map ke)]))
local macro_rules|`(zY)=>`((a7 items.size items.size hi-a7 items.size 0 lo))
local macro_rules|`(zX)=>`((bk L C h K Od er))
local macro_rules|`(zW)=>`((fc (dC (.int 4)) ff))
local macro_rules|`(zV)=>`((pt bx n p))
local macro_rules|`(zU)=>`((enc (.aZ h0 l k r p w)))
local macro_rules|`(zT)=>`((X.comp N scope cl s3 H3 C fp))
local macro_rules|`(zS)=>`((.refl F1 r1))
local macro_rules|`(zR)=>`((m.e c af af a))
local macro_rules|`(zQ)=>`((fq (fJ (fj aN.g6 3 (fc (dV 0) (fc (dV 1) (fc (dV 3) ff)))) (fe 6)) (fq (aR (nK (dB (d2 af bf (d2 af aA (dV 6) zd) (dC (.str "in")))) (dB (d2 af kP (fj K1.fk 2 (fc (dV 0) (fc zB ff))) zh))) (fJ (d2 af fP (gf (fc (d2 af pK (d2 af aA (dV 6) zh) zB) ff)) (qi af (dV 6) (qh zd) qC)) (fe 6)) aY) (yH (dV 4) (dV 6) (dC (.bl ag))))))
local macro_rules|`(zP)=>`((dC (.int 2)))
local macro_rules|`(zN)=>`((X.comp N scope cl s H C fp))
local macro_rules|`(zM)=>`((fc (dV 2) ff))
local macro_rules|`(zL)=>`((ae (.d (enc g))))
local macro_rules|`(zK)=>`((ws.map ae++List.replicate (n-ws.length) ah))
local macro_rules|`(zJ)=>`((.Call (.Name x p) (e::es) [] pos))
local macro_rules|`(zI)=>`((m env bx))
local macro_rules|`(zH)=>`((fq (fJ (d2 af pL (d2 af dj (d2 af fP (d2 af fP (d2 af pL (dV 0) (dC (.int 2147483629))) (d2 af dj (dC (.int 7919)) (dV 2))) zd) (dC (.int 48271))) (dC (.int 2147483647))) (fe 3)) (fq (fJ (d2 af pL (d2 af fP (d2 af fP (d2 af dj (dV 3) (dV 3)) (d2 af dj (dC (.int 69621)) (dV 2))) (dC (.int 7))) (dC (.int 2147483587))) (fe 3)) (fJ (d2 af fP (d2 af dj (dV 1) (dC (.int 2147483587))) (dV 3)) (fe 1)))))
local macro_rules|`(zG)=>`((G.e O _ _ _))
local macro_rules|`(zF)=>`((s.heap.objs.size+1))
local macro_rules|`(zE)=>`((fc (dV 1) ff))
local macro_rules|`(zD)=>`((.ListComp elt [⟨tg,iter,ifs,0⟩] scope pos))
local macro_rules|`(zB)=>`((dC (.int 3)))
local macro_rules|`(zA)=>`((fq (aR (dB (d2 af pP (dV 7) (dC (.str "takes")))) (fq (fX (qD (dV 2) (gf (fc (dV 5) (fc (dV 7) (fc (dC .aB) (fc (dC .aB) ff))))))) KD) aY) (fq (fX (qD (dV 2) (gf (fc (dV 5) (fc (dV 7) (fc (vG (dV 4) (dV 6)) (fc (fj aN.fN 1 (fc (dV 5) ff)) ff))))))) (fq (aR (dB (d2 af bf (d2 af aA (dV 5) zd) (dC (.str "in")))) (rR (dV 3) (dV 6) (d2 af aA (dV 5) (dC (.int 3)))) aY) (aR (dB (d2 af bf (d2 af aA (dV 5) zd) (dC (.str "out")))) (uN (dV 4) (dV 6)) (rR (dV 4) (dV 6) (fj aN.fN 1 (fc (dV 5) ff))))))))
local macro_rules|`(zy)=>`((k==NameKind.free&&env.scope.kind==.function&&env.kindOf n==ae .cell))
local macro_rules|`(zx)=>`((.lst (gs.map enc)))
local macro_rules|`(zq)=>`((fc (tK zd) (fc zh (fc (dC (.int 9)) (fc (dC (.int 10)) (fc (d2 af cB (d2 af pM (dC (.int 10)) (dC (.int 40))) zd) (fc (d2 af cB zh (d2 af pM (dC (.int 10)) (dC (.int 30)))) (fc (dC (.bl ag)) (fc (dC .aB) (fc (dC (.str "3")) (fc (gf (fc (dC (.int 3)) ff)) (fc (gF af (fc (dC (.int 3)) ff)) (fc (eO af []) (fc (fj K1.jo 1 (fc (dV 2) ff)) ff))))))))))))))
local macro_rules|`(zp)=>`((.tup (op.map dP)))
local macro_rules|`(zo)=>`((by simp;lia))
local macro_rules|`(zh)=>`((dC (.int 0)))
local macro_rules|`(zg)=>`((by simp))
local macro_rules|`(zf)=>`((model prog w))
local macro_rules|`(ze)=>`((model X.prog X.w))
local macro_rules|`(zd)=>`((dC (.int 1)))
local macro_rules|`(zc)=>`((by decide))
local macro_rules|`(zb)=>`((by lia))
local macro_rules|`(za)=>`((hs rs ks ps hd))
local macro_rules|`(zj)=>`(rfl)
local macro_rules|`(zk)=>`(Prop)
open Lean Parser.Tactic in
def gp0:Nat->Syntax->MacroM (TSyntax `rcasesPat)
|0,_=>Macro.throwUnsupported
|n+1,s=>match s with
|`(#[$xs,*])=>do
  let ys<-xs.getElems.mapM fun x=>do`(rcasesPatLo|$(<-gp0 n x):rcasesPat)
  `(rcasesPat|⟨$ys,*⟩)
|`(_)=>`(rcasesPat|_)
|`($i:ident)=>if i.getId==`rfl then`(rcasesPat|rfl)else`(rcasesPat|$i:ident)
|_=>Macro.throwUnsupported
local macro_rules|`(tactic|let#[$xs,*]:=$e)=>do let p<-gp0 9 (<-`(#[$xs,*]));`(tactic|obtain $p:rcasesPat:=$e)
local macro_rules|`(#[$x,$xs,*])=>`(⟨$x,$xs,*⟩)
local macro_rules|`(tactic|erw[$[$r:term],*]$[$l:location]?)=>`(tactic|simp only[$[$r:term],*]$[$l]?)
local macro_rules|`(tactic|ext $[$r:ident]*)=>`(tactic|rename_i $[$r:ident]*)
set_option hygiene true
noncomputable section
local macro_rules|`(tactic|show $a:term)=>`(tactic|exact $a)
variable {a it p f C:PySem.Addr}{o:PySem.Obj}{u:PySem.Value}{P prog:PySem.Program}{w:PySem.World}{h' base:PySem.Heap}{x qual:PySem.Str}{e tg iter:PySem.Expr}{pins:List (PySem.Addr × PySem.Obj)}{t' j n ep:Nat}{ch fp r:List PySem.Addr}{N:List PySem.Str}{M:PySem.Model}{A:PySem.Around}{E Q:PySem.Value -> PySem.Shared -> zk}{t:PySem.SetTable}{α:Type}{R:PySem.Result -> PySem.Shared -> zk}{pos pos' apos:PySem.Pos}{op:PySem.CmpOp}{K:PySem.W.Frag}{st:PySem.Stmt}{es ifs:List PySem.Expr}{vs us:List PySem.Value}{mA mg:PySem.Str -> Option PySem.Value}{ns rl:List Int}{kw:List (PySem.Str × PySem.Value)}{outer:List PySem.Env}{fd:PySem.FuncData}{ps:List (Int × Int)}{pf:Array (Option PySem.Value)}{items:Array PySem.Value}{q:Int × List Int}{XP:(PySem.Str -> Option PySem.Value) -> PySem.Heap -> zk}{cl:Nat -> PySem.Addr}{bo:Bool}{hold:Int}{kl:List (Int × List Int)}
open PySem renaming wpAny_bind->ak,wpAny_pure->ay,sizeLine_eq->bC,wpAny_holding->eU,wpAny_newObj_type->eV,wpAny_call_entry->eW,wpAny_mono->kn,wpAny_field->kY,mem_of_lookup->ph,wpAny_truthy_bool->qt,wpAny_rule->qu,wpAny_callSpecial?_slot->qQ,wpAny_Call_Name_kw->sk,wpAny_setField->sq,codeAny_builtin->tZ,wpAny_attempt->ua,codeAny_mono->uV,wpAny_seqItems->uW,wpAny_setField_rec->uX,wpAny_askSetting->uY,wpAny_typeOf->vQ,call_meets->vR,wpAny_setState_of->vS,wpAny_load->xl,wpAny_newList->xm,wpAny_fieldsOf->xn,wpAny_passesOwn->Ek,tupleKind_room_in1->El,wpAny_of_eq->Em,wpAny_onRaise->En,wpAny_pyIter_slot->Eo,wpAny_isInstance->Ep,intKind_is->Er,wpAny_setEntries_of->Es,wpAny_execs_nil->Ib,wpAny_standAt->Ic,wpAny_call->Ie,pushCells_keeps->Ig,wpAny_pyIter_list->Ih,call_meetsIn->Ii,wpAny_handled->Ij,wpAny_throw->Ik,isSubtype_stop->Il,plainId_quiet->Im,wpAny_Name->QJ,concat_meets->QK,noFill_tuple_add->QL,seq_tuple_add->QM,seqIndex_of->QN,typeIs_int->QO,codeAny_call_builtin->QP,wpAny_runValue->QQ,wpAny_updateSeq_pair->QR,wpAny_letGo->QS,wpAny_newTuple->QT,wpAny_pyIter_tuple->QU,fits_of_scanBound->QV,wpAny_typeNameOfWhole_keyiter->QW,wpAny_typeNameOf_keyiter->QX,wpAny_isOneOf_keyiter->QY,wpAny_eqBool_int->aaz,wpAny_loadName_local->aaA,wpAny_loadName_cell->aaB,wpAny_Compare1->aaC,wpAny_isTrue_Compare1->aaD,wpAny_execs_cons->aaE,wpAny_assign_Name->aaF,wpAny_bindName->aaG,wpAny_pyIter_range->aaH,rangeSize_one->aaI,intBits_le_64->aaJ,wpAny_loadPart->aaK,name_of_addr->aaL,codeAny_call_function->aaM,wpAny_newFunctionEnv_cells->aaN,codeAny_func->aaO,wpAny_sequenceKey->aaP,wpAny_Slice->aaQ,wpAny_getItem_list_slice->aaR,call_list_seq->aaS,fitsIndex_both->aaT,wpAny_alloc->aaU,wpAny_comprehension_free->aaV,codeAny_compStart_list->aaW,wpAny_specialOf->aaX,wpAny_Dict_empty->aaY,wpAny_Call_method->aaZ,wpAny_storeSet_of->aa0,codeAny_of_tree->aa1,sub_set_self->aa2,entryFor_alias->aa3,wpAny_setEpoch_of->aa4,wpAny_updateSeq->aa5,wpAny_pyIter_keyiter->aa6,wpAny_dictEntries->aa7,wpAny_dictEpoch->aa8
open Nat renaming le_refl->aH,ne_of_lt->bJ,le_trans->dF,zero_le->dR,lt_of_lt_of_le->eG,le_of_lt->eX,lt_irrefl->kq,sub_self->nO,lt_succ_of_lt->pS,lt_succ_self->sr,le_succ->sx,le_add_right->uZ,le_of_eq->vT,le_of_not_lt->vU,lt_trans->vV,ne_of_gt->xo,lt_or_ge->xp,lt_of_le_of_lt->Et,sub_zero->QZ,zero_add->Q0,min_eq_left->Q2,not_lt_zero->Q3,le_succ_of_le->Q4,succ_le_succ->aa9,max_eq_right->aba,mod_lt->abb,add_sub_cancel->abc
open Bool renaming and_eq_true->aL,false_ne_true->dG,not_eq_true'->pz,eq_iff_iff->pT,or_eq_true->vW,or_eq_false_iff->Eu,false_and->Io,false_eq_true->Q5,or_false->abd,or_true->abe,and_self->abf,true_and->abg,not_eq_true->abh,and_eq_false_iff->abi
open PySem.Heap renaming get?_push_of_some->aS,lt_size->ba,get?_push_size->bA,size_push->qT,get?_update_self->sy,get?_update_other->Ip,get?_none_of_le->Q6,size_update->abj
open List renaming map_cons->aU,length_map->a8,length_cons->bw,mem_cons_of_mem->bG,mem_cons_self->bN,map_map->bO,length_append->bQ,size_toArray->bU,getElem?_eq_getElem->cX,getElem?_append_left->dH,all_eq_true->bR,getElem?_append_right->eI,prefix_refl->eY,lookup_cons->kH,getElem?_map->kZ,mem_cons->bz,mem_append_right->pB,mem_append_left->pU,getElem?_set_self->pV,all_cons->pW,prefix_append->pX,append_nil->qv,length_nil->qw,filterMap_cons->qU,mem_of_getElem?->qV,length_set->qW,getElem?_eq_none->qX,not_mem_nil->qY,getElem?_set_ne->sC,append_assoc->sD,getElem_mem->sF,any_cons->u7,nil_append->u9,mem_map_of_mem->vb,nodup_append->sH,take_length->vX,pairwise_map->ub,zip_cons_cons->vY,all_map->vZ,forIn_cons->xq,length_range->xr,map_congr_left->xt,ext_getElem?->xu,eq_nil_of_length_eq_zero->xw,find?_cons->xx,filter_cons_of_neg->xA,filter_cons_of_pos->xC,exists_cons_of_length_pos->xD,length_take->Ew,mem_singleton->ku,forIn_nil->Ex,map_append->Ey,any_eq_false->Iq,of_mem_zip->Ir,length_drop->Iu,reverse_cons->Iv,length_singleton->Iw,filter_cons->Iy,length_filter_le->Iz,take_of_length_le->IC,mem_of_find?_eq_some->ID,length_replicate->Q7,replicate_succ->Q8,nodup_cons->uc,cons_append->Q9,zipIdx_cons->Xa,map_snd_zip->Xb,any_map->Xc,any_eq_true->ud,length_eraseIdx_of_lt->Xd,mem_map->bE,length_zip->Xe,find?_some->Xf,getD_eq_getElem?_getD->Xg,getElem?_replicate->abk,getElem?_take_of_lt->abl,take_sublist->abm,filterMap_map->abn,pairwise_singleton->abo,flatten_cons->abp,foldl_cons->abq,countP_cons->abr,mergeSort_perm->abt,pairwise_mergeSort->abu,zipIdx_nil->abv,forIn_toArray->abw,mapM_toArray->abx,getElem_of_mem->aby,pairwise_lt_range->abz,zip_nil_left->abA,map_nil->abB,getElem?_cons_zero->abC,set_set->abD,map_id->abE,getElem?_concat_length->abF,set_append_right->abG,take_append->abH,length_flatten->abI,sum_cons->abJ,head?_cons->abK,filterMap_nil->abL
open Option renaming bind_some->bS,map_some->ue,isSome_map->v7,getD_none->Xh
open PyProof.Rows renaming wpS_bind->cL,wpS_pure->d9,boot_isinstance->kI,step_dedup->sI,size_push'->uf,listItems_at->xE,wpS_get->xF,wpS_forRange->xG,callWith_type1->IE,slot_tuple_getitem->xH,listUpdate_at->IG,kind_sorted->IH,plain_sorted->II,entry_sorted->IJ,args_sorted1->IK,slot_list_sort->IL,entry_list_sort->IM,args_list_sort->IP,mirror_perm->IQ,wpS_reverse->IT,wpS_mono->IU,assignInOrder_cons->Xi,tail_any->Xj,wpS_lift->Xk,wpS_modify->Xl,mem_zip_self->Xm,seqEpoch_at->Xn,pairsOf_size->Xo,sortedHeap_old->Xp,assignInOrder_nil->abM,slicePart_none->abN,entry_tuple_getitem->abO,args_tuple_getitem->abP,tupleItemsOf_->abQ,subscriptTail_builtinR->abR,get?_update_seq->abS,list_sort_tree->abT,sortedAll_at->abU,sortedAll_old->abV,lt_int->abW,pairsOf_toList->abX,sortedHeap_at->abY,callWith_builtin1->ae5,evalArgs_empty->ae6
open Array renaming length_toList->nP,getElem?_toList->qZ,toList_push->Xq,getElem?_eq_none->Xr,getElem_toList->abZ,toList_extract->ab0
open Int renaming toNat_natCast->pC,eq_ofNat_of_zero_le->IV,zero_add->Xt,mul_one->ab1,le_refl->ab2
open PySem.W renaming kia_one->qx,callWith_K->IW,plainGet_of->Xu,cellsFrom_some->Xv,looks_findIn->Xw,looks_mroIn->Xx,mg_none_of->Xy,kitx_list->ab3,kitx_dict->ab4,methodCall_KW->ab5,codeRec_of->ab6
open PySem.Obj renaming data_mapFields->qy,isFreed_of_fields->xI,cls_mapFields->Ez
open PySem.F renaming plainAttrs_list->xK,slot_tuple_iterator_next->IX,slot_zip_next->EA,slot_tuple_add->Xz,entry_tuple_add->XA,args_tuple_add_2->XB,slot_dict_get->XC,slot_int_rmul->ab7,slot_dict_delitem->ab8,entry_dict_get->ab9,args_dict_get_2->aca,plainAttrs_dict->acb,slot_list_append->acd,type_list_append->ace,entry_tuple_iterator_next->acf,args_tuple_iterator_next_1->acg,slot_zip_iter->ach,entry_zip_next->aci,args_zip_next_1->acj,slot_set_iter->ack,plain_list_iadd->acm,slot_dict_iter->acn,slot_dict_keyiterator_next->XD,slot_dict_items->aco
open PyProof.Rows.KeyOrd renaming kle_refl->xM,kle_trans->IZ,kle_of_klt->Ka,kle_antisymm->acp
open PySem.Calls renaming spliced_nil->EB,spliced_cons->EC,call_function_entry->Kb,callWith_builtin->XF,evalArgs_plain->XG
open PySem.SeqAt.EqAt renaming int_int->XH,str_str->XI,int_str->acq,str_int->acr,none_bool->ae7,none_int->ae8,none_str->ae9,bool_none->afa,bool_bool->afb,bool_int->afc,bool_str->afd,int_none->afe,int_bool->aff,str_none->afg,str_bool->afh
open PySem.Code renaming quiet_builtin->XJ
open List.Pairwise renaming imp_of_mem->XM
open PySem.Around renaming under_plainId->XO,frames_deeper->acs
open PyProof.Rows.LSm renaming kept_iter->acu
open PyProof.Rows.F renaming entry_set_update_loop->acv,plain_set_update_loop->acw
open PySem.EqNone renaming eq_none_none->afi,eq_none_bool->afj,eq_none_int->afk,eq_none_str->afl,eq_bool_none->afm,eq_int_none->afn,eq_str_none->afo,ne_none_none->afp,ne_none_bool->afq,ne_none_int->afr,ne_none_str->afs,ne_bool_none->aft,ne_int_none->afu,ne_str_none->afv
open PySem.EqMixed renaming eq_bool_str->afw,eq_int_str->afx,eq_str_bool->afy,eq_str_int->afz,ne_bool_str->afA,ne_int_str->afB,ne_str_bool->afC,ne_str_int->afD
open PySem.Heap.Ns1 renaming of_empty->afE
open PySem.AutoSeq1 renaming list_extend_list_list_0->afF,sub_tuple_tuple->afG
open PySem.MeetsSeq renaming list_pop_at->afH
open PySem.AutoListH renaming list___mul___list_int_3->afI
open PySem.SeqAt.RcNeAt renaming lists_lengths->afJ
open PySem.SetTable renaming fits_plain_off->afK
open List.Perm renaming append_left->afL,of_eq->afM
open Function renaming comp_def->afN
open Option renaming some->ae,none->ah
open Bool renaming true->ag,false->af
open PySem renaming Value->aj,Shared->aq,Heap->aE,Addr->ai,Expr->au,Around->cE,Stmt->bp,Program->cG,World->bH,Scope->bK,Pos->aK,Obj->aV
open PySem PySem.Spec PyProof.Rows
namespace L2
noncomputable abbrev Key:=Sum Int Str
noncomputable def xO:Key->aj->Bool
 |.inl k,v=>Value.isInt k v
 |.inr x,v=>Value.isStrOf x v
noncomputable def afO (w:bH):Key->Int
 |.inl k=>hashInt k
 |.inr x=>hashStr w x
theorem gh:∀ {k:Key}{v:aj},xO k v=ag->(∃ i t,k=Sum.inl i /\ v=Value.int i t) \/ (∃ x t,k=Sum.inr x /\ v=Value.str x t)
 | .inl i,v,h=>by
   let#[t,e]:=Value.isInt_shape h;show .inl #[i,t,rfl,e]
 | .inr x,v,h=>by
   let#[t,e]:=Value.isStrOf_shape h;show .inr #[x,t,rfl,e]
theorem Js (i:Int) (t:Tok):xO (.inl i) (.int i t)=ag:=by simp[xO,Value.isInt]
theorem Jt (x:Str) (t:Tok):xO (.inr x) (.str x t)=ag:=by simp[xO,Value.isStrOf]
theorem TB (a b:Int):decide ((Sum.inl a:Key)=Sum.inl b)=(a==b):=by
 by_cases e:a=b
 .subst e;simp
 .rw[decide_eq_false λq=>e<|Sum.inl.inj q];show(beq_eq_false_iff_ne.mpr e).symm
theorem TC (a b:Str):decide ((Sum.inr a:Key)=Sum.inr b)=decide (a=b):=by
 by_cases e:a=b
 .simp
 .rw[decide_eq_false λq=>e<|Sum.inr.inj q,decide_eq_false e]
theorem TD (a:Int) (b:Str):decide ((Sum.inl a:Key)=Sum.inr b)=af:=decide_eq_false λq=>nomatch q
theorem TF (a:Str) (b:Int):decide ((Sum.inr a:Key)=Sum.inl b)=af:=decide_eq_false λq=>nomatch q
def eu (prog:cG) (w:bH):PySem.KeyKind prog w Key where
 is:=xO
 hash:=afO w
 inj:=λv a b ha hb=>by
  rcases gh ha with⟨i,t,rfl,rfl⟩|⟨x,t,rfl,rfl⟩
  .rcases gh hb with⟨j,u,rfl,e⟩|⟨y,u,rfl,e⟩
   .injection e with e1 _;rw[e1]
   .show nomatch e
  .rcases gh hb with⟨j,u,rfl,e⟩|⟨y,u,rfl,e⟩
   .show nomatch e
   .injection e with e1 _;rw[e1]
 byValue:=λk v h=>by
  rcases gh h with⟨i,t,rfl,rfl⟩|⟨x,t,rfl,rfl⟩<;>rfl
 pyHash:=λhv h=>by
  rcases gh hv with⟨i,t,rfl,rfl⟩|⟨x,t,rfl,rfl⟩
  .show wpAny_pyHash_int h
  .show wpAny_pyHash_str h
 eqBool:=λhu hv h=>by
  rcases gh hu with⟨i,t,rfl,rfl⟩|⟨x,t,rfl,rfl⟩
  .rcases gh hv with⟨j,u,rfl,rfl⟩|⟨y,u,rfl,rfl⟩
   .rw[TB]at h;show aaz h
   .rw[TD]at h;show acq i t y u _ _ _ _ h
  .rcases gh hv with⟨j,u,rfl,rfl⟩|⟨y,u,rfl,rfl⟩
   .rw[TF]at h;show acr x t j u _ _ _ _ h
   .rw[TC]at h;show wpAny_eqBool_str h
 «strs»:=λk x t v h=>by
  rcases gh h with⟨i,u,rfl,e⟩|⟨y,u,rfl,e⟩
  .show nomatch e
  .injection e with e1 _;subst e1;cases v<;>rfl
theorem Dk (prog:cG) (w:bH) (i:Int) (t:Tok):(eu prog w).is (.inl i) (.int i t)=ag:=Js i t
theorem Dl (prog:cG) (w:bH) (x:Str) (t:Tok):(eu prog w).is (.inr x) (.str x t)=ag:=Jt x t
end L2
variable {xs:List (List L2.Key × PySem.Addr × PySem.Value)}
namespace L2
inductive V where
 |aB|bl (b:Bool)|int (i:Int)|str (x:Str)|nQ (b:Array UInt8)|sJ (b:UInt64)|ref (a:ai)|ty (n:String)
 deriving DecidableEq
noncomputable def RelV:V->aj->zk
 |.aB,u=>u=Value.none
 |.bl b,u=>u=Value.bool b
 |.int i,u=>∃ t,u=Value.int i t
 |.str x,u=>∃ t,u=Value.str x t
 |.nQ b,u=>∃ t,u=Value.bytes b t
 |.sJ b,u=>∃ t,u=Value.float b t
 |.ref a,u=>u=Value.ref a
 |.ty n,u=>u=Value.type n
abbrev Vals:List V->List aj->zk:=Paired RelV
theorem Vals.length {xs:List V}{us:List aj}(r:Vals xs us):xs.length=us.length:=Paired.length r
theorem Vals.get:∀ {xs:List V}{us:List aj}{i:Nat}{x:V},Vals xs us->xs[i]?=ae x->∃ u,us[i]?=ae u /\ RelV x u
 |_,_,_,_,.nil,e=>by simp at e
 |_,_,0,_,.cons r _,e=>by simp at e;subst e;show#[_,rfl,r]
 | _,_,i+1,x,.cons _ t,e=>by
   let#[u,h1,h2]:=Vals.get t (by simpa using e);show#[u,by simpa using h1,h2]
theorem Vals.set {x:V}{u:aj}(r:RelV x u):∀ {xs:List V}{us:List aj}(i:Nat),Vals xs us->Vals (xs.set i x) (us.set i u)
 |_,_,_,.nil=>.nil
 |_,_,0,.cons _ t=>.cons r t
 |_,_,i+1,.cons q t=>.cons q<|Vals.set r i t
theorem Vals.append:∀ {xs ys:List V}{us ws:List aj},Vals xs us->Vals ys ws->Vals (xs++ys) (us++ws)
 |_,_,_,_,.nil,s=>s
 |_,_,_,_,.cons r t,s=>.cons r<|Vals.append t s
theorem Vals.take:∀ {xs:List V}{us:List aj}(n:Nat),Vals xs us->Vals (xs.take n) (us.take n)
 |_,_,0,_=>.nil
 |_,_,_+1,.nil=>.nil
 |_,_,n+1,.cons r t=>.cons r<|Vals.take n t
theorem Vals.drop:∀ {xs:List V}{us:List aj}(n:Nat),Vals xs us->Vals (xs.drop n) (us.drop n)
 |_,_,0,r=>r
 |_,_,_+1,.nil=>.nil
 |_,_,n+1,.cons _ t=>Vals.drop n t
def k6:Option V->Option aj->zk
 |some v,ae u=>RelV v u
 |none,ah=>True
 |_,_=>False
def KV {κ:Type}:List (κ×V)->List (κ×aj)->zk:=Paired λ(p:κ×V) (q:κ×aj)=>p.1=q.1 /\ RelV p.2 q.2
noncomputable def kV:Key->V
 |.inl i=>.int i
 |.inr x=>.str x
inductive HO where
 /-- a list -/
 |lst (xs:List V)
 /-- a tuple (never changes) -/
 |tup (xs:List V)
 /-- a dict whose keys are ints and texts;one whose keys are tuples of ints and texts (the empty one is both) -/
 |dK (ao:List<|Key×V)|dT (ao:List<|List Key×V)
 /-- a set of ints: its members,its size -/
 |set (S:Int->Bool) (n:Nat)
 /-- an instance of the class at C,its dict at dx,its attributes -/
 |ins (C dx:ai) (fs:List<|Str×V)
 /-- the dict of the instance at x -/
 |own (x:ai)
 /-- the dict of an exception -/
 |xd (fs:List<|Str×V)
 /-- a bound method,f of x -/
 |met (f x:ai)
 /-- a range object lo,lo+1,.. below hi -/
 |xQ (lo hi:Int)
 /-- a thing that is known to the object (the aks;a dict while a loop walks it): read,never written while it is so -/
 |bF (o:aV) (u:HO)
 /-- a code akt table -/
 |rf (ps:Array aj)
 /-- any other thing,by what is ag of its one object (a def of afP own: aku a S n:=HO.ext λh=>..) -/
 |ext (φ:aE->zk)
noncomputable abbrev Hp:=ai->Option HO
noncomputable def upd (H:Hp) (a:ai) (o:HO):Hp:=λb=>if b=a then ae o else H b
theorem fv {H:Hp}{o:HO}:upd H a o a=ae o:=by unfold upd;rw[if_pos rfl]
theorem fu {H:Hp}{b:ai}{o:HO}(h:b≠a):upd H a o b=H b:=by unfold upd;rw[if_neg h]
theorem OP {H:Hp}{o u:HO}:upd (upd H a o) a u=upd H a u:=by
 funext b;unfold upd;split<;>rfl
theorem Wh {H:Hp}{b:ai}{o u:HO}(h:H a=ae o) (h':H b=ae u) (d:o≠u):a≠b:=by
 intro e;subst e;rw[h]at h';show d<|Option.some.inj h'
theorem fL {H:Hp}{b:ai}{o:HO}(h:H a=ae o) (h':H b=ah):a≠b:=by
 intro e;subst e;rw[h]at h';cases h'
section
variable (P:cG) (w:bH)
noncomputable def dn (H:Hp) (h:aE) (a:ai):HO->zk
 |.lst xs=>xs.length<=sizeLine /\ ∃ (its:List aj) (n:Nat),Vals xs its /\ h.get? a=ae { cls:=.type "list",data:=.seq its.toArray n }
 |.tup xs=>xs.length<=sizeLine /\ ∃ its:List aj,Vals xs its /\ IsTup h a its.toArray
 |.dK ao=>ao.length<=sizeLine /\ (a==sysModules)=af /\ ∃ vs,KV ao vs /\ h.DictOf (eu P w) a vs
 |.dT ao=>ao.length<=sizeLine /\ (a==sysModules)=af /\ ∃ xs:List (List Key×ai×aj),
  Paired (λ(p:List Key×V) (q:List Key×ai×aj)=>p.1=q.1 /\ H q.2.1=ae (.tup<|p.1.map kV) /\ RelV p.2 q.2.2) ao xs /\
  ∃ o es ep,h.get? a=ae o /\ o.ExactDict /\ o.data=.dict es ep /\ es.toList=xs.map (entryOfKey<|tupleKind<|eu P w) /\ (xs.map (·.1)).Nodup
 |.set S n=>h.SetOf (intKind P w) a S n
 |.ins C dx fs=>H dx=ae (.own a) /\ fs.length<=1000 /\ dx≠a /\ h.get? a=ae (PySem.W.instObj C dx) /\
  ∃ mA,h.Ns1 dx mA /\ (∀ f,k6 (fs.lookup f)<|mA f) /\ PySem.Within mA (fs.map (·.1))
 |.own _=>∃ o,h.get? a=ae o
 |.xd fs=>∃ mA,h.Ns1 a mA /\ ∀ f,k6 (fs.lookup f) (mA f)
 |.xQ lo hi=>∃ t u v,h.get? a=ae { cls:=.type "range",data:=.fields (List.toArray [.int lo t,.int hi u,.int 1 v]) }
 |.bF o u=>h.get? a=ae o /\ dn H h a u
 |.rf ps=>h.get? a=ae { cls:=.none,data:=.fields ps }
 |.met f x=>h.get? a=ae (PySem.W.methodObj (.ref f)<|.ref x)
 |.ext φ=>φ h /\ (∃ o,h.get? a=ae o) /\ ∀ h1 h2:aE,φ h1->(∀ o,h1.get? a=ae o->h2.get? a=ae o)->φ h2
def cH (H:Hp) (h:aE):zk:=∀ a o,H a=ae o->dn P w H h a o
end
section
variable {H H':Hp} {h:aE} {o:HO}
theorem dn.lt (x:dn P w H h a o):a<h.objs.size:=by
 cases o with
 |lst xs=>let#[_,_,_,_,e]:=x;show ba e
 |tup xs=>let#[_,_,_,p]:=x;show p.lt
 |dK ao=>let#[_,_,_,_,o,_,_,e,_]:=x;show ba e
 |dT ao=>let#[_,_,_,_,o,_,_,e,_]:=x;show ba e
 |set S n=>let#[o,_,_,_,e,_]:=x;show ba e
 |ins C dx fs=>let#[_,_,_,e,_]:=x;show ba e
 |own y=>let#[_,e]:=x;show ba e
 |xd fs=>let#[_,#[_,_,_,e,_],_]:=x;show ba e
 |xQ lo hi=>let#[_,_,_,e]:=x;show ba e
 |bF ob u=>let#[e,_]:=x;show ba e
 |rf ps=>show ba<|x
 |met f y=>show ba<|x
 |ext φ=>let#[_,#[_,e],_]:=x;show ba e
theorem Paired.XQ {α β:Type}{F G:α->β->zk}:∀ {l₁:List α}{l₂:List β},Paired F l₁ l₂->(∀ a b,F a b->G a b)->Paired G l₁ l₂
 |_,_,.nil,_=>.nil
 |_,_,.cons r t,f=>.cons (f _ _ r)<|Paired.XQ t f
theorem dn.eZ (x:dn P w H h a o) (k:∀ b u,(b=a \/ H b=ae (.own a))->h.get? b=ae u->h'.get? b=ae u)
 (ho:∀ b,H b=ae (.own a)->H' b=ae (.own a)) (ht:∀ b xs,H b=ae (.tup xs)->H' b=ae (.tup xs)):dn P w H' h' a o:=by
 induction o with
 |lst xs=>let#[z,its,n,r,e]:=x;show#[z,its,n,r,k _ _ (.inl zj) e]
 |tup xs=>let#[z,its,r,ob,e,c]:=x;show#[z,its,r,ob,k _ _ (.inl zj) e,c]
 |dK ao=>let#[z,y,vs,r,ob,es,ep,e,c]:=x;show#[z,y,vs,r,ob,es,ep,k _ _ (.inl zj) e,c]
 |dT ao=>
   let#[z,y,xs,r,ob,es,ep,e,c]:=x;show#[z,y,xs,Paired.XQ r λp q z=>#[z.1,ht _ _ z.2.1,z.2.2],ob,es,ep,k _ _ (.inl zj) e,c]
 |set S n=>let#[ob,es,ep,t,e,c]:=x;show#[ob,es,ep,t,k _ _ (.inl zj) e,c]
 |ins C dx fs=>
   let#[d,z,ne,e,mA,#[od,es,ep,e2,c],r]:=x;show#[ho _ d,z,ne,k _ _ (.inl zj) e,mA,#[od,es,ep,k _ _ (.inr d) e2,c],r]
 |own y=>let#[ob,e]:=x;show#[ob,k _ _ (.inl zj) e]
 |xd fs=>let#[mA,#[od,es,ep,e,c],r]:=x;show#[mA,#[od,es,ep,k _ _ (.inl zj) e,c],r]
 |xQ lo hi=>let#[t,u,v,e]:=x;show#[t,u,v,k _ _ (.inl zj) e]
 |bF ob u ih=>let#[e,q]:=x;show#[k _ _ (.inl zj) e,ih q]
 |rf ps=>
   show k a _ (.inl zj) x
 |met f y=>
   show k a _ (.inl zj) x
 |ext φ=>let#[p,#[o,e],st]:=x;show#[st _ _ p λo q=>k _ _ (.inl zj) q,#[o,k _ _ (.inl zj) e],st]
theorem cH.lt (x:cH P w H h) (e:H a=ae o):a<h.objs.size:=(x a o e).lt
theorem cH.fresh (x:cH P w H h) (e:h.objs.size<=a):H a=ah:=by
 cases q:H a with
 |none=>rfl
 |some u=>show absurd (eG (x.lt q) e)<|kq _
theorem cH.kept (x:cH P w H h) (k:∀ b u,h.get? b=ae u->h'.get? b=ae u):cH P w H h':=λa o e=>
 (x a o e).eZ (λb u _ q=>k b u q) (λ_ q=>q) λ_ _ q=>q
theorem cH.laid (x:cH P w H h) (k:∀ b u,h.get? b=ae u->h'.get? b=ae u) (hp:h.objs.size<=a) (new:dn P w (upd H a o) h' a o):cH P w (upd H a o) h':=λb u e=>by
 have hn:=x.fresh hp;by_cases hb:b=a
 .subst hb;rw[fv]at e;cases e;show new
 .rw[fu hb]at e;show(x b u e).eZ (λc v _ q=>k c v q) (λc q=>by rw[fu<|fL q hn];show q) λc xs q=>by rw[fu<|fL q hn];show q
end
def Rd (H:Hp) (a:ai) (u:HO):zk:=H a=ae u \/ ∃ o,H a=ae (.bF o u)
theorem Rd.ok {H:Hp}{h:aE}{u:HO}(r:Rd H a u) (x:cH P w H h):dn P w H h a u:=by
 rcases r with r|⟨o,r⟩
 .show x a u r
 .let#[_,q]:=x a _ r;show q
noncomputable def ED:Option HO->zk
 |some (.lst _)=>True
 |some (.dK _)=>True
 |some (.dT _)=>True
 |some (.set _ _)=>True
 |some (.ins _ _ _)=>True
 |some (.ext _)=>True
 |_=>False
section
variable {H:Hp} {h:aE} {x e:ai} {o':HO}
theorem cH.write (ok:cH P w H h) (mu:ED<|H x) (he:e=x \/ H e=ae (.own x)) (k:∀ b u,b≠e->h.get? b=ae u->h'.get? b=ae u) (xR:∃ u,h'.get? e=ae u)
 (new:dn P w (upd H x o') h' x o'):cH P w (upd H x o') h':=λb u q=>by
 have acx:∀ c y,H c=ae (.own y)->c≠x:=λc y r z=>by subst z;rw[r]at mu;show mu
 by_cases hb:b=x
 .subst hb;rw[fv]at q;cases q;show new
 .rw[fu hb]at q;by_cases v8:b=e
  .have q':H b=ae (.own x):=by
    rcases he with z|z
    .show absurd (v8.trans z) hb
    .rw[v8];show z
   rw[q]at q';cases q';let#[v,hv]:=xR;show#[v,by rw[v8];show hv]
  .refine(ok b u q).eZ (λc v hc r=>k c v ?_ r) (λc r=>by rw[fu<|acx c b r];show r) λc xs r=>by rw[fu<|(λc xs r z=>by subst z;rw[r]at mu;show mu) c xs r];show r
   rcases hc with rfl|hc
   .show v8
   .rintro rfl;rcases he with z|z
    .show acx c b hc z
    .rw[hc]at z;cases z;show hb zj
end
structure Un (fs ex:List ai) (H H':Hp) (h h':aE):zk where
 keep:∀ b o,h.get? b=ae o->H b=ah->b∉fs->b∉ex->h'.get? b=ae o
 slot:∀ b o,h.get? b=ae o->H b=ah->b∈fs->b∉ex->∃ sl,h'.get? b=ae { o with slots:=sl }
 free:∀ b o,h.get? b=ae o->H b=ah->b∉ex->H' b=ah
 there:∀ b o,h.get? b=ae o->b∉ex->∃ o',h'.get? b=ae o'
 kJ:∀ b xs,H b=ae (.tup xs)->H' b=ae (.tup xs)
 k7:∀ b o u,H b=ae (.bF o u)->H' b=ae (.bF o u)
 nR:∀ b ps,H b=ae (.rf ps)->∃ more,H' b=ae (.rf<|ps++more)
section
variable {fs afQ ex akv:List ai} {H H1 H2:Hp} {h h1 h2:aE} {x e:ai} {o:HO}
theorem Un.any (u:Un fs ex H H1 h h1) {b:ai}{ob:aV}(q:h.get? b=ae ob) (n:H b=ah) (hx:b∉ex):∃ sl,h1.get? b=ae { ob with slots:=sl }:=by
 by_cases hb:b∈fs
 .show u.slot b ob q n hb hx
 .show#[ob.slots,u.keep b ob q n hb hx]
theorem Un.kept (k:∀ b u,h.get? b=ae u->h'.get? b=ae u):Un fs ex H H h h' :=
 #[λb ob q _ _ _=>k b ob q,λb ob q _ _ _=>#[ob.slots,k b ob q],λ_ _ _ n _=>n,λb ob q _=>#[ob,k b ob q],λ_ _ q=>q,λ_ _ _ q=>q,λ_ ps q=>#[#[],by rw[q];simp]]
theorem Un.refl:Un fs ex H H h h:=Un.kept λ_ _ q=>q
theorem Un.laid (k:∀ b u,h.get? b=ae u->h'.get? b=ae u) (hp:h.objs.size<=a) (hn:H a=ah):Un fs ex H (upd H a o) h h' where
 keep:=λb u q _ _ _=>k b u q
 slot:=λb u q _ _ _=>#[u.slots,k b u q]
 free:=λb u q n _=>by rw[fu<|bJ<|eG (ba q) hp];show n
 there:=λb u q _=>#[u,k b u q]
 kJ:=λb xs q=>by rw[fu<|fL q hn];show q
 k7:=λb u xs q=>by rw[fu<|fL q hn];show q
 nR:=λb ps q=>#[#[],by rw[fu<|fL q hn,q];simp]
theorem Un.write (mu:ED<|H x) (he:e=x \/ H e=ae (.own x)) (k:∀ b u,b≠e->h.get? b=ae u->h'.get? b=ae u) (xR:∃ u,h'.get? e=ae u):Un fs ex H (upd H x o) h h':=by
 have hx:∀ b,H b=ah->b≠x:=λb n z=>by subst z;rw[n]at mu;show mu
 have hb:∀ b,H b=ah->b≠e:=λb n z=>by
  subst z;rcases he with r|r
  .show hx b n r
  .rw[n]at r;cases r
 have hm:∀ b u,H b=ae u->¬ ED (ae u)->b≠x:=λb u q nm z=>by subst z;rw[q]at mu;show nm mu
 refine#[λb u q n _ _=>k b u (hb b n) q,λb u q n _ _=>#[u.slots,k b u (hb b n) q],λb u q n _=>by rw[fu<|hx b n];show n,λb u q _=>?_,
  λb xs q=>by rw[fu<|hm b _ q λz=>z];show q,λb u xs q=>by rw[fu<|hm b _ q λz=>z];show q,λb ps q=>#[#[],by rw[fu<|hm b _ q λz=>z,q];simp]]
 by_cases v8:b=e
 .subst v8;show xR
 .show#[u,k b u v8 q]
end
noncomputable def afR (h:aE) (H:Hp):List ai:=(List.range h.objs.size).filter λa=>(H a).isSome
def xS (h:aE) (H:Hp):aE:=PySem.W.hideAll h<|afR h H
theorem Ju (h:aE) (H:Hp):(xS h H).objs.size=h.objs.size:=PySem.W.hideAll_size _ _
theorem Ly {h:aE}{H:Hp}{b:ai}(e:h.get? b=ae o) (n:H b=ah):(xS h H).get? b=ae o:=
 PySem.W.hideAll_get _ e λhm=>by
  have q:=(List.mem_filter.mp hm).2;rw[n]at q;simp at q
theorem OQ {h:aE}{H:Hp}{b:ai}(e:(xS h H).get? b=ae o):h.get? b=ae o /\ H b=ah:=by
 have e':=PySem.W.of_hideAll _ e;refine#[e',?_];cases q:H b with
 |none=>rfl
 |some x=>
   have z:(xS h H).get? b=ah:=PySem.W.hideAll_none _ (List.mem_filter.mpr #[List.mem_range.mpr<|ba e',by simp[q]]);rw[z]at e;cases e
end L2
variable {H H' F F' H0:L2.Hp}{v:L2.V}{ao:List (List L2.Key × L2.V)}
namespace L2
structure Mod (K:PySem.W.Frag) (mg:Str->Option aj) (base:aE):zk where
 vc:K.In base
 glob:base.Ns mainGlobals mg
 blt:∃ mb,base.Ns builtinsNs mb /\ ∀ x:Str,x ≠ "__name__"->mb x=bootBuiltins x
 nolimit:base.NoLimit
structure Cx where
 prog:cG
 w:bH
 K:PySem.W.Frag
 mg:Str->Option aj
 base:aE
 A:cE
 N:List Str
 s₀:aq
 H₀:Hp
 env:Env
 outer:List Env
 stack:List Env
 ex:List ai
 fn:Str->Bool
 calm:Bool
 pn:List (ai×aV)
 xe:aj->aq->zk
noncomputable def kz (l:List Env):List ai:=l.filterMap (·.frame)
abbrev Cx.fs (X:Cx):List ai:=kz X.outer
def sL (sc:bK) (x:Str):zk:=sc.names.lookup x=ae .local \/ sc.names.lookup x=ae .cell \/ sc.names.lookup x=ae .free
def Loc (sc:bK) (x:Str):zk:=sc.names.lookup x=ae .local \/ sc.names.lookup x=ae .cell
def Look (env:Env) (h:aE) (m:Str->Option aj) (x:Str) (u:aj):zk:=
 (env.kindOf x=ae .local /\ m x=ae u) \/ ((env.kindOf x=ae .cell \/ env.kindOf x=ae .free) /\ ∃ c,env.cells.lookup x=ae c /\ h.IsCell c (ae u))
structure Cx.Ok (X:Cx):zk where
 mod:Mod X.K X.mg X.base
 kind:X.env.scope.kind=.function
 glob:X.env.globals=mainGlobals
 blt:X.env.builtins=builtinsNs
 above:X.s₀.heap.objs.size<=X.env.locals
 inj:∀ x y c,X.env.cells.lookup x=ae c->X.env.cells.lookup y=ae c->x=y
 has:∀ x,(X.env.kindOf x=ae .cell \/ X.env.kindOf x=ae .free)->∃ c,X.env.cells.lookup x=ae c
 xT:∀ x c,X.fn x=ag->X.env.cells.lookup x=ae c->X.s₀.heap.objs.size<=c
 hd:X.calm=ag->X.A.handled=ah
 frames:X.A.frames=ae X.stack
 EE:X.stack=X.outer \/ (X.stack=X.env::X.outer /\ X.env.frame=ae X.env.locals)
 v9:∀ b∈X.ex,b≠X.env.locals /\ ∀ x c,X.env.cells.lookup x=ae c->c≠b
 bs:∀ b o,X.base.get? b=ae o->X.s₀.heap.get? b=ae o /\ X.H₀ b=ah
 sM:X.base.objs.size<=X.s₀.heap.objs.size
 xV:∀ b o,X.base.get? b=ae o->b∉X.ex
 wa:∀ b∈X.ex,b∉X.fs
 k8:X.s₀.heap.FunFrames X.base X.outer
 rh:∀ b∈X.fs,X.H₀ b=ah
structure Inv (X:Cx) (pins:List<|ai×aV) (σ:List<|Option V) (H:Hp) (s:aq):zk where
 ok:X.Ok
 os:s.os=X.s₀.os
 bare:AllBare s.gens
 base:Un X.fs X.ex X.H₀ H X.s₀.heap s.heap
 loc:∃ m,s.heap.Ns X.env.locals m /\ ∀ (i:Nat) (x:Str) (v:V),X.N[i]?=ae x->σ[i]?=ae (ae v)->sL X.env.scope x->∃ u,RelV v u /\ Look X.env s.heap m x u
 cell:∀ x c,X.env.cells.lookup x=ae c->∃ v,s.heap.IsCell c v
 free:H X.env.locals=ah
 nG:∀ x c,X.env.cells.lookup x=ae c->H c=ah
 pin:∀ p∈X.pn++pins,s.heap.get? p.1=ae p.2 /\ H p.1=ah /\ p.1≠X.env.locals /\ p.1∉X.fs /\ ∀ v,p.2.data≠.cell v
 aF:cH X.prog X.w H s.heap
 len:σ.length=X.N.length
section
variable {X:Cx} {σ:List (Option V)} {s:aq} 
theorem Cx.Ok.afS (ok:X.Ok) {b:ai}(e:X.base.get? b=ae o):b∉X.fs:=λhb=>by
 have:=(ok.k8.mem hb).1;rw[e]at this;cases this
theorem Inv.bs (I:Inv X pins σ H s):∀ b o,X.base.get? b=ae o->s.heap.get? b=ae o /\ H b=ah:=λb o e=>
 #[I.base.keep b o (I.ok.bs b o e).1 (I.ok.bs b o e).2 (I.ok.afS e)<|I.ok.xV b o e,I.base.free b o (I.ok.bs b o e).1 (I.ok.bs b o e).2<|I.ok.xV b o e]
theorem Inv.bk (I:Inv X pins σ H s):∀ b o,X.base.get? b=ae o->s.heap.get? b=ae o:=λb o e=>(I.bs b o e).1
theorem Inv.mod (I:Inv X pins σ H s):Mod X.K X.mg X.base:=I.ok.mod
theorem Inv.cY (I:Inv X pins σ H s):X.K.In s.heap:=I.ok.mod.vc.keeps I.bk
theorem Inv.lt (I:Inv X pins σ H s):X.env.locals<s.heap.objs.size:=let ⟨_,hn,_⟩:=I.loc;hn.lt
theorem Inv.sz (I:Inv X pins σ H s):X.s₀.heap.objs.size<=s.heap.objs.size:=dF I.ok.above<|eX I.lt
theorem Inv.afT (I:Inv X pins σ H s) (h:s.heap.objs.size<=a):a∉X.fs:=λhb=>by
 let#[_,o,ho,_]:=I.ok.k8.mem hb;show absurd (eG (ba ho)<|dF I.sz h)<|kq _
theorem Inv.ug (I:Inv X pins σ H s):∀ x c,X.env.cells.lookup x=ae c->c≠X.env.locals:=λx c e z=>by
 let#[v,o,ho,hd]:=I.cell x c e;let#[m,#[o',es,ep,nS,XR,_],_]:=I.loc;rw[z,nS]at ho;cases ho;rw[XR]at hd;cases hd
theorem Inv.k8 (I:Inv X pins σ H s):s.heap.FunFrames X.base X.outer:=by
 have all:∀ (l),(∀ b∈kz l,b∈X.fs)->X.s₀.heap.FunFrames X.base l->s.heap.FunFrames X.base l:=by
  intro l;induction l with
  |nil=>intro _ _;trivial
  |cons env r ih=>
    intro hs hl;let#[hk,#[L,o,hf,hn,ho,hd],hr]:=hl;have hL:=hs L (by unfold kz;rw[qU,hf];show bN);let#[sl,e]:=I.base.slot L o ho (I.ok.rh L hL) hL λz=>I.ok.wa L z hL;show#[hk,#[L,_,hf,hn,e,hd],ih (λb hb=>hs b (by unfold kz;rw[qU,hf];show bG _ hb)) hr]
 show all X.outer (λ_ hb=>hb) I.ok.k8
theorem Inv.stack (I:Inv X pins σ H s):s.heap.FunFrames X.base X.stack:=by
 rcases I.ok.EE with e|⟨e,hf⟩
 .rw[e];show I.k8
 .rw[e];let#[m,hn,_]:=I.loc;show .cons (by rw[I.ok.kind];decide) hf hn (Q6<|dF I.ok.sM I.ok.above) I.k8
theorem Inv.xW (I:Inv X pins σ H s):∀ b∈kz X.stack,b∈X.env.locals::X.fs:=λb hb=>by
 rcases I.ok.EE with e|⟨e,hf⟩
 .rw[e]at hb;show bG _ hb
 .rw[e]at hb;unfold kz at hb;rw[qU,hf]at hb;show hb
theorem Inv.XS (I:Inv X pins σ H s):∀ b∈kz X.stack,H b=ah:=λb hb=>by
 rcases bz.mp (I.xW b hb) with e|hb
 .rw[e];show I.free
 .let#[_,o,ho,_]:=I.ok.k8.mem hb;show I.base.free b o ho (I.ok.rh b hb) λz=>I.ok.wa b z hb
theorem Inv.step {g':Array GenState}{d':Drawn}(I:Inv X pins σ H s)
 (sN:∀ b∈ch,(b∈X.ex \/ X.s₀.heap.objs.size<=b) /\ b≠X.env.locals /\ (∀ x c,X.env.cells.lookup x=ae c->c≠b) /\ ∀ p∈X.pn++pins,p.1≠b)
 (keep:∀ b o,b≠X.env.locals->b∉X.fs->b∉ch->s.heap.get? b=ae o->H b=ah->h'.get? b=ae o)
 (slot:∀ b o,b≠X.env.locals->b∈X.fs->b∉ch->s.heap.get? b=ae o->H b=ah->∃ sl,h'.get? b=ae { o with slots:=sl }) (free:∀ b o,b∉ch->s.heap.get? b=ae o->H b=ah->H' b=ah)
 (there:∀ b o,b∉ch->s.heap.get? b=ae o->∃ o',h'.get? b=ae o')
 (kJ:∀ b xs,H b=ae (.tup xs)->H' b=ae (.tup xs)) (k7:∀ b o u,H b=ae (.bF o u)->H' b=ae (.bF o u)) (nR:∀ b ps,H b=ae (.rf ps)->∃ more,H' b=ae (.rf<|ps++more))
 (ns:∀ m,s.heap.Ns X.env.locals m->h'.Ns X.env.locals m) (aF:cH X.prog X.w H' h') (hg:AllBare g') :
 Inv X pins σ H' { s with heap:=h',gens:=g',drawn:=d',toks:=t' }:=by
 have acy:∀ b o,X.s₀.heap.get? b=ae o->b≠X.env.locals:=λb o e=>bJ<|eG (ba e) I.ok.above;have qz:∀ b o,X.s₀.heap.get? b=ae o->b∉X.ex->b∉ch:=λb o e hx hb=>by
  rcases(sN b hb).1 with z|z
  .show hx z
  .show absurd (eG (ba e) z)<|kq _
 have cellK:∀ x c,X.env.cells.lookup x=ae c->∀ v,s.heap.IsCell c v->h'.IsCell c v:=λx c e v ⟨o,ho,hd⟩=>by
  have rj:=λz=>(sN c z).2.2.1 x c e zj;by_cases hc:c∈X.fs
  .let#[sl,q]:=slot c o (I.ug x c e) hc rj ho<|I.nG x c e;show#[_,q,hd]
  .show#[o,keep c o (I.ug x c e) hc rj ho<|I.nG x c e,hd]
 refine#[I.ok,I.os,hg,#[λb o e n hb hx=>(keep b o (acy b o e) hb (qz b o e hx) (I.base.keep b o e n hb hx)<|I.base.free b o e n hx),λb o e n hb hx=>?_,λb o e n hx=>?_,λb o e hx=>?_,λb xs e=>kJ b xs<|I.base.kJ b xs e,λb o xs e=>k7 b o xs<|I.base.k7 b o xs e,λb ps e=>?_],?_,λx c e=>?_,?_,λx c e=>?_,λp hp=>?_,aF,I.len]
 .let#[sl,e1]:=I.base.slot b o e n hb hx;let#[xX,e2]:=slot b _ (acy b o e) hb (qz b o e hx) e1<|I.base.free b o e n hx;show#[xX,e2]
 .let#[o',e1]:=I.base.there b o e hx;show free b o' (qz b o e hx) e1<|I.base.free b o e n hx
 .let#[o',e1]:=I.base.there b o e hx;show there b o' (qz b o e hx) e1
 .let#[m1,e1]:=I.base.nR b ps e;let#[m2,e2]:=nR b _ e1;show#[m1++m2,by rw[e2,Array.append_assoc]]
 .let#[m,hn,hl]:=I.loc;refine#[m,ns m hn,λi x v e1 e2 e3=>?_];let#[u,r,l]:=hl i x v e1 e2 e3;refine#[u,r,?_];rcases l with l|⟨k,c,e,z⟩
  .show .inl l
  .show .inr #[k,c,e,cellK x c e _ z]
 .let#[v,z]:=I.cell x c e;show#[v,cellK x c e v z]
 .let#[m,#[o,_,_,ho,_],_]:=I.loc;show free _ o (λz=>(sN _ z).2.1 zj) ho I.free
 .let#[v,o,ho,hd]:=I.cell x c e;show free c o (λz=>(sN c z).2.2.1 x c e zj) ho<|I.nG x c e
 .let#[e,n,ne,nf,d]:=I.pin p hp;have rj:=λz=>(sN p.1 z).2.2.2 p hp zj;show#[keep p.1 p.2 ne nf rj e n,free p.1 p.2 rj e n,ne,nf,d]
theorem Inv.un (I:Inv X pins σ H s) (u:Un X.fs [] H H' s.heap h') (aF:cH X.prog X.w H' h'):Inv X pins σ H' { s with heap:=h',toks:=t' }:=by
 let#[m,#[o,es,ep,ho,r],_]:=id I.loc;let#[sl,hL]:=u.any ho I.free zg;show I.step (ch:=[]) (λ_ z=>nomatch z) (λb o _ hb _ e n=>u.keep b o e n hb zg) (λb o _ hb _ e n=>u.slot b o e n hb zg) (λb o _ e n=>u.free b o e n zg) (λb o _ e=>u.there b o e zg) u.kJ u.k7 u.nR (λm' hm=>by
  let#[o',es',sO,nS,r']:=hm;rw[ho]at nS;cases nS;show#[_,es',sO,hL,r']) aF I.bare
theorem Inv.call {g':Array GenState}{d':Drawn}(I:Inv X pins σ H s) (u:Un (kz X.stack) ch H H' s.heap h') (aF:cH X.prog X.w H' h') (hg:AllBare g')
 (sN:∀ b∈ch,(b∈X.ex \/ X.s₀.heap.objs.size<=b) /\ b≠X.env.locals /\ (∀ x c,X.env.cells.lookup x=ae c->c≠b) /\ ∀ p∈X.pn++pins,p.1≠b) :
 Inv X pins σ H' { s with heap:=h',gens:=g',drawn:=d',toks:=t' }:=by
 let#[m,#[o,es,ep,ho,r],_]:=id I.loc;let#[sl,hL]:=u.any ho I.free λz=>(sN _ z).2.1 zj;show I.step sN (λb o hL hb hc e n=>u.keep b o e n (λz=>(bz.mp<|I.xW b z).elim hL hb) hc) (λb o _ _ hc e n=>u.any e n hc) (λb o hc e n=>u.free b o e n hc) (λb o hc e=>u.there b o e hc) u.kJ u.k7 u.nR (λm' hm=>by
  let#[o',es',sO,nS,r']:=hm;rw[ho]at nS;cases nS;show#[_,es',sO,hL,r']) aF hg
theorem Inv.turned (I:Inv X pins σ H s) (k:∀ b o,b≠it->s.heap.get? b=ae o->h'.get? b=ae o) (hn:H it=ah) (hL:it≠X.env.locals)
 (h1:it∈X.ex \/ X.s₀.heap.objs.size<=it) (h2:∀ x c,X.env.cells.lookup x=ae c->c≠it) (h3:∀ p∈X.pn++pins,p.1≠it):Inv X pins σ H { s with heap:=h',toks:=t' }:=by
 have acz:∀ b u,H b=ae u->b≠it:=λb u e z=>by rw[z,hn]at e;cases e
 refine I.step (ch:=[it]) (λb hb=>?_) (λb o _ _ hc e _=>k b o (λz=>hc (by simp[z])) e) (λb o _ _ hc e _=>#[o.slots,k b o (λz=>hc (by simp[z])) e]) (λ_ _ _ _ n=>n)
  (λb o hc e=>#[o,k b o (λz=>hc (by simp[z])) e]) (λ_ _ e=>e) (λ_ _ _ e=>e) (λb ps e=>#[#[],by rw[e];simp]) (λm hm=>?_) (λb u e=>?_) I.bare
 .have e:b=it:=by simpa using hb
  subst e;show#[h1,hL,h2,h3]
 .let#[o,es,ep,ho,r]:=hm;show#[o,es,ep,k _ o (Ne.symm hL) ho,r]
 .refine(I.aF b u e).eZ (λc v hc q=>k c v ?_ q) (λ_ q=>q) λ_ _ q=>q;rcases hc with z|z
  .rw[z];show acz b u e
  .show acz c _ z
theorem Inv.tok (I:Inv X pins σ H s) (t:Nat):Inv X pins σ H { s with toks:=t }:=I.un Un.refl I.aF
theorem Inv.kept {t':Nat}(I:Inv X pins σ H s) (k:∀ b u,s.heap.get? b=ae u->h'.get? b=ae u):Inv X pins σ H { s with heap:=h',toks:=t' }:=I.un (Un.kept k)<|I.aF.kept k
theorem Inv.laid {a:ai}{o:HO}{t':Nat}(I:Inv X pins σ H s) (k:∀ b u,s.heap.get? b=ae u->h'.get? b=ae u) (hp:s.heap.objs.size<=a) (new:dn X.prog X.w (upd H a o) h' a o) :
 Inv X pins σ (upd H a o) { s with heap:=h',toks:=t' }:=I.un (Un.laid k hp<|I.aF.fresh hp)<|I.aF.laid k hp new
theorem Inv.write {x e:ai}{o:HO}{t':Nat}(I:Inv X pins σ H s) (mu:ED<|H x) (he:e=x \/ H e=ae (.own x)) (k:∀ b u,b≠e->s.heap.get? b=ae u->h'.get? b=ae u) (xR:∃ u,h'.get? e=ae u)
 (new:dn X.prog X.w (upd H x o) h' x o):Inv X pins σ (upd H x o) { s with heap:=h',toks:=t' }:=I.un (Un.write mu he k xR)<|I.aF.write mu he k xR new
theorem Inv.XT {vd:List (ai×aV)}(I:Inv X pins σ H s) (h:∀ p∈vd,s.heap.get? p.1=ae p.2 /\ H p.1=ah /\ p.1≠X.env.locals /\ p.1∉X.fs /\ ∀ v,p.2.data≠.cell v):Inv X vd σ H s:=
 #[I.ok,I.os,I.bare,I.base,I.loc,I.cell,I.free,I.nG,λp hp=>(List.mem_append.mp hp).elim (λz=>I.pin p<|pU _ z)<|h p,I.aF,I.len]
theorem AJ (hN:N.Nodup) {i:Nat}(a:N[i]?=ae x) (b:N[j]?=ae x):i=j:=by
 let#[h1,e1]:=List.getElem?_eq_some_iff.mp a;let#[h2,e2]:=List.getElem?_eq_some_iff.mp b;show(List.getElem_inj hN).mp (e1.trans e2.symm)
theorem BS {i:Nat}{Q:Unit->aq->zk}(I:Inv X pins σ H s) (hN:X.N.Nodup) (hi:X.N[i]?=ae x) (hx:Loc X.env.scope x) (r:RelV v u)
 (h:∀ s',Inv X pins (σ.set i<|ae v) H s'->(∃ a,Heap.SameBut a s.heap s'.heap /\ (a=X.env.locals \/ X.env.cells.lookup x=ae a))->Q () s') (hf:X.fn x=ag \/ X.env.scope.names.lookup x=ae .local:=by first|show .inl zj|show .inr zj|assumption):wpAny M A (storeName X.env x u) Q E s:=by
 let#[m,hn,hl]:=id I.loc;have acA:i<σ.length:=by rw[I.len];show(List.getElem?_eq_some_iff.mp hi).1
 have ug:=I.ug;have tracked:∀ {a}{h'},(∃ o,s.heap.get? a=ae o /\ H a=ah)->Heap.SameBut a s.heap h'->cH X.prog X.w H h':=λ{a h'} ha hs b ob e=>by
  let#[_,_,acB]:=ha;refine(I.aF b ob e).eZ (λc w' hc q=>(hs.2 c ?_).trans q) (λ_ q=>q) λ_ _ q=>q;rintro rfl;rcases hc with rfl|hc
  .rw[acB]at e;cases e
  .rw[acB]at hc;cases hc
 rcases hx with hk|hk
 .refine wpAny_storeName_local hk hn (λh' uh hs=>?_) (by rw[I.ok.kind];rfl);let#[oL,_,_,ve,_]:=id hn;refine h _ #[I.ok,I.os,I.bare,#[λb o e n hb hx=>((hs.2 b<|bJ<|eG (ba e) I.ok.above).trans<|I.base.keep b o e n hb hx),λb o e n hb hx=>?_,I.base.free,λb o e hx=>?_,I.base.kJ,I.base.k7,I.base.nR],#[_,uh,λj y v' e1 e2 e3=>?_],λy c e=>?_,I.free,I.nG,λp hp=>?_,tracked #[oL,ve,I.free] hs,by simpa using I.len] #[_,hs,.inl zj]
  .let#[sl,e1]:=I.base.slot b o e n hb hx;show#[sl,(hs.2 b<|bJ<|eG (ba e) I.ok.above).trans e1]
  .let#[o',e1]:=I.base.there b o e hx;show#[o',(hs.2 b<|bJ<|eG (ba e) I.ok.above).trans e1]
  .by_cases hj:j=i
   .subst hj;rw[hi]at e1;cases e1;rw[pV acA]at e2;cases e2;show#[u,r,.inl #[hk,by simp]]
   .rw[sC<|Ne.symm hj]at e2;let#[u',r',q]:=hl j y v' e1 e2 e3;refine#[u',r',?_];rcases q with⟨k,e⟩|⟨k,c,e,z⟩
    .refine .inl #[k,?_];have:y≠x:=λe=>hj<|AJ hN e1<|e▸hi;simp[this,e]
    .show .inr #[k,c,e,z.sameBut hs<|ug y c e]
  .let#[w',z]:=I.cell y c e;show#[w',z.sameBut hs<|ug y c e]
  .let#[e,n,ne,nf,d]:=I.pin p hp;show#[(hs.2 p.1 ne).trans e,n,ne,nf,d]
 .have XU:X.fn x=ag:=by
   rcases hf with z|z
   .show z
   .rw[z]at hk;cases hk
  let#[c,hc]:=I.ok.has x<|.inl hk;let#[w',z]:=I.cell x c hc;refine wpAny_storeName_cell I.ok.kind hk hc z λh' acC hs=>?_;let#[oc,Kc,afU]:=id z;refine h { s with heap:=h' } #[I.ok,I.os,I.bare,#[λb o e n hb hx=>((hs.2 b<|bJ<|eG (ba e)<|I.ok.xT x c XU hc).trans<|I.base.keep b o e n hb hx),λb o e n hb hx=>?_,I.base.free,λb o e hx=>?_,I.base.kJ,I.base.k7,I.base.nR],#[m,hn.sameBut hs<|Ne.symm<|ug x c hc,λj y v' e1 e2 e3=>?_],λy c' e=>?_,I.free,I.nG,λp hp=>?_,tracked #[oc,Kc,I.nG x c hc] hs,by simpa using I.len] #[c,hs,.inr hc]
  .let#[sl,e1]:=I.base.slot b o e n hb hx;show#[sl,(hs.2 b<|bJ<|eG (ba e)<|I.ok.xT x c XU hc).trans e1]
  .let#[o',e1]:=I.base.there b o e hx;show#[o',(hs.2 b<|bJ<|eG (ba e)<|I.ok.xT x c XU hc).trans e1]
  .by_cases hj:j=i
   .subst hj;rw[hi]at e1;cases e1;rw[pV acA]at e2;cases e2;show#[u,r,.inr #[.inl hk,c,hc,acC]]
   .rw[sC<|Ne.symm hj]at e2;let#[u',r',q]:=hl j y v' e1 e2 e3;refine#[u',r',?_];rcases q with q|⟨k,c',e,z'⟩
    .show .inl q
    .refine .inr #[k,c',e,z'.sameBut hs ?_];rintro rfl;show hj<|AJ hN e1<|I.ok.inj _ _ _ e hc▸hi
  .by_cases dS:c'=c
   .subst dS;show#[_,acC]
   .let#[w2,z2]:=I.cell y c' e;show#[w2,z2.sameBut hs dS]
  .let#[e,n,ne,nf,d]:=I.pin p hp;refine#[(hs.2 p.1 ?_).trans e,n,ne,nf,d];intro q;rw[q,Kc]at e;show d w' (by rw[<-(Option.some.inj e)];show afU)
theorem jG {i:Nat}{Q:Unit->aq->zk}(I:Inv X pins σ H s) (hN:X.N.Nodup) (hi:X.N[i]?=ae x) (hx:Loc X.env.scope x) (r:RelV v u)
 (h:∀ s',Inv X pins (σ.set i<|ae v) H s'->Q () s') (hf:X.fn x=ag \/ X.env.scope.names.lookup x=ae .local:=by first|show .inl zj|show .inr zj|assumption):wpAny M A (storeName X.env x u) Q E s:=
 BS I hN hi hx r (λs' I' _=>h s' I') hf
theorem Inv.XX {s':aq}(I:Inv X pins σ H s) (ho:s'.os=s.os) (u:Un (kz X.stack) ch H H' s.heap s'.heap) (aF:cH X.prog X.w H' s'.heap) (hg:AllBare s'.gens)
 (sN:∀ b∈ch,(b∈X.ex \/ X.s₀.heap.objs.size<=b) /\ b≠X.env.locals /\ (∀ x c,X.env.cells.lookup x=ae c->c≠b) /\ ∀ p∈X.pn++pins,p.1≠b):Inv X pins σ H' s':=by
 let#[h',g',d',t',o']:=s';subst ho;show I.call u aF hg sN
end
abbrev XK:=aj->Option ai->Hp->zk
noncomputable abbrev St:=List<|Option V
abbrev VK:=V->Hp->zk
abbrev TE:=St->Hp->VK->zk
abbrev TT:=St->Hp->(Bool->Hp->zk)->zk
abbrev TA:=St->Hp->(List V->Hp->zk)->zk
structure Ends where
 nx:St->Hp->zk
 rt:VK
 bk:St->Hp->zk:=λ_ _=>False
 ct:St->Hp->zk:=λ_ _=>False
abbrev TS:=Ends->St->Hp->zk
def EP (X:Cx) (pins:List<|ai×aV) (σ:St) (Q:VK) (u:aj) (s':aq):zk:=∃ v H',Inv X pins σ H' s' /\ RelV v u /\ Q v H'
def TP (X:Cx) (pins:List<|ai×aV) (σ:St) (Q:Bool->Hp->zk) (b:Bool) (s':aq):zk:=∃ H',Inv X pins σ H' s' /\ Q b H'
def AP (X:Cx) (pins:List<|ai×aV) (σ:St) (Q:List V->Hp->zk) (us:List aj) (s':aq):zk:=∃ vs H',Inv X pins σ H' s' /\ Vals vs us /\ Q vs H'
def SP (X:Cx) (pins:List<|ai×aV) (D:Ends) (f:Flow) (s':aq):zk:=
 match f with
 |.next=>∃ σ' H',Inv X pins σ' H' s' /\ D.nx σ' H'
 |.brk=>∃ σ' H',Inv X pins σ' H' s' /\ D.bk σ' H'
 |.cont=>∃ σ' H',Inv X pins σ' H' s' /\ D.ct σ' H'
 |.ret u=>∃ v σ' H',Inv X pins σ' H' s' /\ RelV v u /\ D.rt v H'
def PE (X:Cx) (e:au) (t:TE):zk:=
 ∀ (pins:List<|ai×aV) (s:aq) (σ:St) (H:Hp) (Q:VK),Inv X pins σ H s->t σ H Q->wpAny ze X.A (eval e X.env) (EP X pins σ Q) X.xe s
def PT (X:Cx) (e:au) (t:TT):zk:=
 ∀ (pins:List<|ai×aV) (s:aq) (σ:St) (H:Hp) (Q:Bool->Hp->zk),Inv X pins σ H s->t σ H Q->wpAny ze X.A (isTrue e X.env<|eval e X.env) (TP X pins σ Q) X.xe s
def PW (X:Cx) (e:au) (t:TT):zk:=
 ∀ (whole:Sem aj) (pins:List<|ai×aV) (s:aq) (σ:St) (H:Hp) (Q:Bool->Hp->zk),Inv X pins σ H s->t σ H Q->wpAny ze X.A (isTrue e X.env whole) (TP X pins σ Q) X.xe s
theorem PW.pt {X:Cx}{t:TT}(h:PW X e t):PT X e t:=h _
def PA (X:Cx) (es:List au) (t:TA):zk:=
 ∀ (pos:aK) (pins:List<|ai×aV) (s:aq) (σ:St) (H:Hp) (Q:List V->Hp->zk),Inv X pins σ H s->t σ H Q->wpAny ze X.A (spliced<|backTo pos<|starEach es X.env) (AP X pins σ Q) X.xe s
def PS (X:Cx) (st:bp) (t:TS):zk:=
 ∀ (pins:List<|ai×aV) (s:aq) (σ:St) (H:Hp) (D:Ends),Inv X pins σ H s->t D σ H->wpAny ze X.A (exec st X.env) (SP X pins D) X.xe s
def dD (X:Cx) (st:List bp) (t:TS):zk:=
 ∀ (pins:List<|ai×aV) (s:aq) (σ:St) (H:Hp) (D:Ends),Inv X pins σ H s->t D σ H->wpAny ze X.A (execs st X.env) (SP X pins D) X.xe s
theorem cb {t:Sem α}{Q Q':α->aq->zk}{s:aq}(h:wpAny M A t Q E s) (hQ:∀ a s,Q a s->Q' a s):wpAny M A t Q' E s:=kn h hQ λ_ _ x=>x
theorem tE {X:Cx}{σ:St}{Q:VK}{t:Sem aj}{Q':aj->aq->zk}{s:aq}(h:wpAny M A t (EP X pins σ Q) E s) (k:∀ v s x H,Inv X pins σ H s->RelV x v->Q x H->Q' v s):wpAny M A t Q' E s:=cb h λv s ⟨x,H,I,r,q⟩=>k v s x H I r q
theorem tA {X:Cx}{σ:St}{Q:List V->Hp->zk}{t:Sem (List aj)}{Q':List aj->aq->zk}{s:aq}(h:wpAny M A t (AP X pins σ Q) E s) (k:∀ v s x H,Inv X pins σ H s->Vals x v->Q x H->Q' v s):wpAny M A t Q' E s:=cb h λv s ⟨x,H,I,r,q⟩=>k v s x H I r q
theorem tP {β:Type}{X:Cx}{σ:St}{Q:β->Hp->zk}{R:β->α->zk}{t:Sem α}{Q':α->aq->zk}{s:aq}(h:wpAny M A t (λv s=>∃ x H,Inv X pins σ H s /\ R x v /\ Q x H) E s) (k:∀ v s x H,Inv X pins σ H s->R x v->Q x H->Q' v s):wpAny M A t Q' E s:=cb h λv s ⟨x,H,I,r,q⟩=>k v s x H I r q
theorem tT {X:Cx}{σ:St}{Q:Bool->Hp->zk}{t:Sem Bool}{Q':Bool->aq->zk}{s:aq}(h:wpAny M A t (TP X pins σ Q) E s) (k:∀ v s H,Inv X pins σ H s->Q v H->Q' v s):wpAny M A t Q' E s:=cb h λv s ⟨H,I,q⟩=>k v s H I q
end L2
variable {X:L2.Cx}{σ:L2.St}
namespace L2
section
def acD (i:Nat):TE:=λσ H Q=>∃ v,σ[i]?=ae (ae v) /\ Q v H
def tC (v:V):TE:=λ_ H Q=>Q v H
theorem AK {i:Nat}(hN:X.N[i]?=ae x) (hv:sL X.env.scope x) (hd:(x==("__debug__":Str))=af:=by decide) (dI:(x==("__classdict__":Str))=af:=by decide):PE X (.Name x pos) (acD i):=by
 intro pins s σ H Q I h;let#[v,e,h]:=h;let#[m,hn,hl]:=I.loc;let#[u,r,l]:=hl i x v hN e hv;have fin:EP X pins σ Q u s:=#[v,H,I,r,h];rcases l with⟨hk,hm⟩|⟨hk,c,hc,xY⟩
 .show QJ (aaA I.ok.kind hk hn hm fin) hd
 .rcases hk with hk|hk
  .show QJ (aaB I.ok.kind hk hc xY fin) hd
  .show QJ (wpAny_loadName_free I.ok.kind hk hc xY fin dI) hd
theorem AL {i j pos}:PE X (.Constant (.int i) j pos) (tC<|.int i):=λ_ _ _ H _ I h=>wpAny_Constant_int #[.int i,H,I.tok _,#[_,rfl],h]
theorem Lz {b j pos}:PE X (.Constant (.bool b) j pos) (tC<|.bl b):=λ_ _ _ H _ I h=>Constant_bool #[.bl b,H,I,rfl,h]
theorem TH {j pos}:PE X (.Constant .none j pos) (tC .aB):=λ_ _ _ H _ I h=>Constant_none #[.aB,H,I,rfl,h]
theorem Fp {x j pos}:PE X (.Constant (.str x) j pos) (tC<|.str x):=λ_ _ _ H _ I h=>Calls.Constant_str #[.str x,H,I.tok _,#[_,rfl],h]
def Gl (X:Cx) (x:Str):zk:=X.env.kindOf x=ae .globalImplicit
theorem mX {s:aq}(I:Inv X pins σ H s) (hg:Gl X x) (hm:X.mg x=ae u) (h:Q u s)
 (hd:(x==("__debug__":Str))=af:=by decide):wpAny ze X.A (eval (.Name x pos) X.env) Q E s:=
 Calls.Name_function_global I.ok.kind hg (Calls.loadGlobal_global (by rw[I.ok.glob];show I.mod.glob.keeps I.bk) hm h) hd
theorem jC {s:aq}(I:Inv X pins σ H s) (hg:Gl X x) (hm:X.mg x=ah) (hv:bootBuiltins x=ae u) (h:Q u s)
 (hn:x ≠ "__name__":=by decide) (hd:(x==("__debug__":Str))=af:=by decide):wpAny ze X.A (eval (.Name x pos) X.env) Q E s:=by
 let#[mb,h1,h2]:=I.mod.blt;show Calls.Name_function_global I.ok.kind hg (Calls.loadGlobal_builtin (by rw[I.ok.glob];show I.mod.glob.keeps I.bk) hm (by rw[I.ok.blt];show h1.keeps I.bk) ((h2 x hn).trans hv) h) hd
theorem gp (hg:Gl X x) (hm:X.mg x=ae u) (r:RelV v u) (hd:(x==("__debug__":Str))=af:=by decide):PE X (.Name x pos) (tC v):=
 λ_ _ _ H _ I h=>mX I hg hm #[v,H,I,r,h] hd
theorem Gu (hg:Gl X x) (hm:X.mg x=ah) (hv:bootBuiltins x=ae u) (r:RelV v u) (hn:x ≠ "__name__":=by decide) (hd:(x==("__debug__":Str))=af:=by decide):PE X (.Name x pos) (tC v):=
 λ_ _ _ H _ I h=>jC I hg hm hv #[v,H,I,r,h] hn hd
variable {a b:au} {ta tb:TE} 
def PC (X:Cx) (op:CmpOp) (a b:au) (t:TE):zk:=
 ∀ (pins:List<|ai×aV) (s:aq) (σ:St) (H:Hp) (Q:VK),Inv X pins σ H s->t σ H Q ->
  wpAny ze X.A (eval a X.env) (λv s₁=>wpAny ze X.A (eval b X.env) (λu s₂=>wpAny ze X.A (compareOp op v u) (EP X pins σ Q) X.xe s₂) X.xe s₁) X.xe s
theorem acE (b:au) (h:op≠.In) (h2:op≠.NotIn):behindInMarks op b=af:=by
 have e1:(op==CmpOp.In)=af:=by cases op<;>first|rfl|show absurd zj h
 have e2:(op==CmpOp.NotIn)=af:=by cases op<;>first|rfl|show absurd zj h2
 cases b<;>simp[behindInMarks,e1,e2]
def acF (ta:TE):TE:=λσ H Q=>ta σ H λx H1=>Q (.bl<|decide (x=.aB)) H1
def acG (ta:TE):TE:=λσ H Q=>ta σ H λx H1=>Q (.bl<|!decide (x=.aB)) H1
theorem RelV.acH {x:V}{v:aj}(r:RelV x v):(v==Value.none)=decide (x=.aB):=by
 cases x with
 |int _=>let#[t,rfl]:=r;rfl
 |str _=>let#[t,rfl]:=r;rfl
 |nQ _=>let#[t,rfl]:=r;rfl
 |sJ _=>let#[t,rfl]:=r;rfl
 |_=>cases r;rfl
theorem LA {j pos'}(ha:PE X a ta):PC X .Is a (.Constant .none j pos') (acF ta):=by
 intro pins s σ H Q I h;show tE zag λv s1 x H1 I1 r1 q1=>(Constant_none (is_none_gen #[.bl _,H1,I1,by rw[r1.acH];rfl,q1]))
theorem Gv {j pos'}(ha:PE X a ta):PC X .IsNot a (.Constant .none j pos') (acG ta):=by
 intro pins s σ H Q I h;show tE zag λv s1 x H1 I1 r1 q1=>(Constant_none (isnot_none_gen #[.bl _,H1,I1,by rw[r1.acH];rfl,q1]))
noncomputable def tB (t:TE):TT:=λσ H Q=>t σ H λx H1=>∃ c,x=.bl c /\ Q c H1
theorem Cz {t:TE}(h:PC X op a b t) (h1:behindInMarks op b=af:=by first|show acE _ (by decide) (by decide)|rfl):PE X (.Compare a [op] [b] pos) t:=λpins s σ H Q I hw=>aaC (h pins s σ H Q I hw) h1
theorem CA {t:TE}(h:PC X op a b t) (h1:behindInMarks op b=af:=by first|show acE _ zc zc|rfl):PT X (.Compare a [op] [b] pos) (tB t):=by
 intro pins s σ H Q I hw;refine aaD (cb (h pins s σ H _ I hw) λv s1 h1=>cb h1 λu s2 h2=>tE h2 λc s3 x H1 I1 r1 q1=>?_) h1;let#[d,rfl,q]:=q1;cases r1;show qt #[H1,I1,q]
theorem LB {t:TE}(h:PE X e t) (he:∀ whole,isTrue e X.env whole=(do let v <-whole;standAt e.pos;holding [v] (truthy v)):=by intro _;rfl):PT X e (tB t):=by
 intro pins s σ H Q I hw;refine isTrue_plain (tE (h pins s σ H _ I hw) λv s1 x H1 I1 r1 q1=>?_)<|he _;let#[d,rfl,q]:=q1;cases r1;show qt #[H1,I1,q]
variable {tA Kd:TT} {rest:List au}
noncomputable def afV (t u:TT):TT:=λσ H Q=>t σ H λc H1=>if c=ag then u σ H1 Q else Q af H1
noncomputable def afW (t u:TT):TT:=λσ H Q=>t σ H λc H1=>if c=ag then Q ag H1 else u σ H1 Q
noncomputable def afX (t:TT):TT:=λσ H Q=>t σ H λc H1=>Q (!c) H1
theorem OR (ha:PT X a tA):PW X (.BoolOp .And [a] pos) tA:=by
 intro wh pins s σ H Q I h;refine isTrue_and<|cb (ha pins s σ H Q I h) λc s1 e=>?_;cases c with
 |true=>show isTrue_and_nil e
 |false=>show e
theorem LC (ha:PT X a tA):PW X (.BoolOp .Or [a] pos) tA:=by
 intro wh pins s σ H Q I h;refine isTrue_or<|cb (ha pins s σ H Q I h) λc s1 e=>?_;cases c with
 |false=>show isTrue_or_nil e
 |true=>show e
theorem TJ (ha:PT X a tA) (hb:PW X (.BoolOp .And (b::rest) pos) Kd):PW X (.BoolOp .And (a::b::rest) pos) (afV tA Kd):=by
 intro wh pins s σ H Q I h;refine isTrue_and<|tT zag λc s1 H1 I1 q1=>?_;cases c with
 |true=>show hb wh pins s1 σ H1 Q I1 q1
 |false=>show#[H1,I1,q1]
theorem S0 (ha:PT X a tA) (hb:PW X (.BoolOp .Or (b::rest) pos) Kd):PW X (.BoolOp .Or (a::b::rest) pos) (afW tA Kd):=by
 intro wh pins s σ H Q I h;refine isTrue_or<|tT zag λc s1 H1 I1 q1=>?_;cases c with
 |true=>show#[H1,I1,q1]
 |false=>show hb wh pins s1 σ H1 Q I1 q1
theorem LD (ha:PT X a tA):PT X (.UnaryOp .Not a pos) (afX tA):=by
 intro pins s σ H Q I h;show isTrue_not zag
def afY (ta tb:TE):TE:=λσ H Q=>ta σ H λx H1=>∃ c,x=.bl c /\ if c=ag then tb σ H1 Q else Q (.bl af) H1
def afZ (ta:TE):TE:=λσ H Q=>ta σ H λx H1=>∃ c,x=.bl c /\ Q (.bl<|!c) H1
theorem TL {op}{t:TE}(h:PE X a t):PE X (.BoolOp op [a] pos) t:=λpins s σ H Q I hw=>BoolOp_one<|h pins s σ H Q I hw
theorem TM (ha:PE X a ta) (hb:PE X (.BoolOp .And (b::rest) pos) tb):PE X (.BoolOp .And (a::b::rest) pos) (afY ta tb):=by
 intro pins s σ H Q I h;refine BoolOp_and<|tE zag λv s1 x H1 I1 r1 q1=>?_;let#[c,rfl,q1]:=q1;cases r1;refine qt ?_;cases c with
 |true=>show hb pins s1 σ H1 Q I1 q1
 |false=>show#[.bl af,H1,I1,rfl,q1]
theorem TN (ha:PE X a ta):PE X (.UnaryOp .Not a pos) (afZ ta):=by
 intro pins s σ H Q I h;refine UnaryOp_<|tE zag λv s1 x H1 I1 r1 q1=>?_;let#[c,rfl,q1]:=q1;cases r1;show not_of<|qt #[.bl<|!c,H1,I1,rfl,q1]
def af0 (t:TT) (ta tb:TE):TE:=λσ H Q=>t σ H λc H1=>if c=ag then ta σ H1 Q else tb σ H1 Q
theorem LF {c:au}(hc:PT X c tA) (ha:PE X a ta) (hb:PE X b tb):PE X (.IfExp c a b pos) (af0 tA ta tb):=by
 intro pins s σ H Q I h;refine wpAny_IfExp<|tT (hc pins s σ H _ I h) λd s1 H1 I1 q1=>?_;cases d with
 |true=>show ha pins s1 σ H1 Q I1 q1
 |false=>show hb pins s1 σ H1 Q I1 q1
end
def bI (K:PySem.W.Frag) (H:Hp) (a:ai) (xs:List V):zk:=
 Rd H a (.lst xs) \/
  ∃ (o:aV) (its:Array aj) (n:Nat),K.lookup a=ae o /\ o.cls=.type "list" /\ o.dict=ah /\ o.data=.seq its n /\ its.size<=sizeLine /\ Vals xs its.toList
def cM (K:PySem.W.Frag) (H:Hp) (a:ai) (xs:List V):zk:=
 Rd H a (.tup xs) \/
  ∃ (o:aV) (its:Array aj) (n:Nat),K.lookup a=ae o /\ o.cls=.type "tuple" /\ o.data=.seq its n /\ its.size<=sizeLine /\ Vals xs its.toList
noncomputable def af1:aj->Option V
 |.none=>ae .aB
 |.bool b=>ae<|.bl b
 |.int i _=>ae<|.int i
 |.str x _=>ae<|.str x
 |.bytes b _=>ae<|.nQ b
 |.float b _=>ae<|.sJ b
 |.ref a=>ae zaf
 |.type n=>ae<|.ty n
 |_=>ah
theorem RelV.abs {x:V}(r:RelV x u):af1 u=ae x:=by
 cases x with
 |int _=>let#[t,rfl]:=r;rfl
 |str _=>let#[t,rfl]:=r;rfl
 |nQ _=>let#[t,rfl]:=r;rfl
 |sJ _=>let#[t,rfl]:=r;rfl
 |_=>cases r;rfl
theorem RelV.inj {x y:V}{u:aj}(r:RelV x u) (q:RelV y u):x=y:=Option.some.inj<|r.abs.symm.trans q.abs
theorem Vals.inj:∀ {xs ys:List V}{us:List aj},Vals xs us->Vals ys us->xs=ys
 |_,_,_,.nil,.nil=>rfl
 |_,_,_,.cons r t,.cons r' t'=>by rw[r.inj r',Vals.inj t t']
section
variable {s:aq} {xs ys:List V}
theorem bI.of (h:H a=ae (.lst xs)):bI K H a xs:=.inl<|.inl h
theorem cM.of (h:H a=ae (.tup xs)):cM K H a xs:=.inl<|.inl h
theorem Inv.list (I:Inv X pins σ H s) (h:bI X.K H a xs):∃ its:List aj,Vals xs its /\ PlainL s.heap a its.toArray /\ xs.length<=sizeLine:=by
 rcases h with h|⟨o,its,n,hk,hc,hd,hs,hz,r⟩
 .let#[z,its,n,r,e]:=h.ok I.aF;show#[its,r,#[_,n,e,rfl,rfl,rfl],z]
 .refine#[its.toList,r,#[o,n,I.cY a o hk,hc,hd,by simpa using hs],?_];have e:=r.length;simp[nP]at e;lia
theorem Inv.tuple (I:Inv X pins σ H s) (h:cM X.K H a xs):∃ its:List aj,Vals xs its /\ IsTup s.heap a its.toArray /\ xs.length<=sizeLine:=by
 rcases h with h|⟨o,its,n,hk,hc,hs,hz,r⟩
 .let#[z,its,r,p]:=h.ok I.aF;show#[its,r,p,z]
 .refine#[its.toList,r,#[o,I.cY a o hk,hc,n,by simpa using hs],?_];have e:=r.length;simp[nP]at e;lia
theorem Inv.acI (I:Inv X pins σ H s) (h:bI X.K H a xs) (h':bI X.K H a ys):xs=ys:=by
 let#[its,r,#[o,n,e,_,_,d],_]:=I.list h;let#[qA,r',#[o',n',e',_,_,d'],_]:=I.list h';rw[e]at e';cases e';rw[d]at d';injection d' with d1 _;have:its=qA:=by simpa using congrArg Array.toList d1
 subst this;show r.inj r'
theorem Inv.acJ (I:Inv X pins σ H s) (h:cM X.K H a xs) (h':cM X.K H a ys):xs=ys:=by
 let#[its,r,#[o,e,_,n,d],_]:=I.tuple h;let#[qA,r',#[o',e',_,n',d'],_]:=I.tuple h';rw[e]at e';cases e';rw[d]at d';injection d' with d1 _;have:its=qA:=by simpa using congrArg Array.toList d1
 subst this;show r.inj r'
end
noncomputable abbrev Cx.sP (X:Cx) (E:aj->aq->zk):Cx:={ X with xe:=E }
abbrev Cx.ui (X:Cx):Cx:=X.sP λ_ _=>False
theorem Cx.Ok.sP {X:Cx}(ok:X.Ok) (E:aj->aq->zk):(X.sP E).Ok:=
 #[ok.mod,ok.kind,ok.glob,ok.blt,ok.above,ok.inj,ok.has,ok.xT,ok.hd,ok.frames,ok.EE,ok.v9,ok.bs,ok.sM,ok.xV,ok.wa,ok.k8,ok.rh]
theorem Cx.Ok.vf (ok:(X.sP E).Ok):X.Ok:=
 #[ok.mod,ok.kind,ok.glob,ok.blt,ok.above,ok.inj,ok.has,ok.xT,ok.hd,ok.frames,ok.EE,ok.v9,ok.bs,ok.sM,ok.xV,ok.wa,ok.k8,ok.rh]
section
variable {s:aq} 
theorem Inv.sP (I:Inv X pins σ H s) (E:aj->aq->zk):Inv (X.sP E) pins σ H s:=#[I.ok.sP E,I.os,I.bare,I.base,I.loc,I.cell,I.free,I.nG,I.pin,I.aF,I.len]
theorem Inv.vf (I:Inv (X.sP E) pins σ H s):Inv X pins σ H s:=#[I.ok.vf,I.os,I.bare,I.base,I.loc,I.cell,I.free,I.nG,I.pin,I.aF,I.len]
theorem SP.vf {D:Ends}{f:Flow}{s':aq}(h:SP (X.sP E) pins D f s'):SP X pins D f s':=by
 cases f with
 |ret u=>let#[v,σ',H',I,r,q]:=h;show#[v,σ',H',I.vf,r,q]
 |_=>let#[σ',H',I,q]:=h;show#[σ',H',I.vf,q]
theorem dD.ui {st:List bp}{t:TS}(h:dD X.ui st t):dD X st t:=λpins s σ H D I hw=>
 kn (h pins s σ H D (I.sP _) hw) (λ_ _ q=>q.vf) λ_ _ z=>False.elim z
end
section
variable {rest:List bp} {t u:TS} {te:TE} 
def af2:TS:=λD σ H=>D.nx σ H
def af3 (t u:TS):TS:=λD σ H=>t { D with nx:=u D } σ H
theorem Gw:dD X [] af2:=λ_ _ σ H _ I h=>Ib #[σ,H,I,h]
theorem g9 (h1:PS X st t) (h2:dD X rest u):dD X (st::rest) (af3 t u):=by
 intro pins s σ H D I h;refine aaE<|cb (h1 pins s σ H { D with nx:=u D } I h) λf s1 q=>?_;cases f with
 |next=>
   let#[σ',H',I',q]:=q;show h2 pins s1 σ' H' D I' q
 |ret v=>show q
 |_=>show q
theorem mY (h1:PS X st t):dD X [st] t:=by
 intro pins s σ H D I h;refine aaE<|cb (h1 pins s σ H D I h) λf s1 q=>?_;cases f with
 |next=>show Ib q
 |ret v=>show q
 |_=>show q
def af4:TS:=λD σ H=>D.bk σ H
def af5:TS:=λD σ H=>D.ct σ H
theorem LG:PS X (.Break pos) af4:=λ_ _ σ H _ I h=>wpAny_Break #[σ,H,I,h]
theorem Dm:PS X (.Continue pos) af5:=λ_ _ σ H _ I h=>wpAny_Continue #[σ,H,I,h]
theorem Inv.quiet {s:aq}(I:Inv X pins σ H s):interactive X.env=af:=by simp[interactive,I.ok.kind]
def af6 (te:TE):TS:=λD σ H=>te σ H λ_ H1=>D.nx σ H1
theorem Gx (he:PE X e te) (hs:swapsWith e ah pos.line X.env=pure af:=by rfl):PS X (.Expr e pos) (af6 te):=by
 intro pins s σ H D I h;show wpAny_Expr_any (tE (he pins s σ H _ I h) λv s1 x H1 I1 r1 q1=>#[σ,H1,I1,q1]) I.quiet hs
def af7 (te:TE):TS:=λD σ H=>te σ H D.rt
theorem CB (he:PE X e te):PS X (.Return (ae e) pos) (af7 te):=by
 intro pins s σ H D I h;show wpAny_Return_some<|tE (he pins s σ H _ I h) λv s1 x H1 I1 r1 q1=>#[x,σ,H1,I1,r1,q1]
def af8 (c:TT) (t u:TS):TS:=λD σ H=>c σ H λb H1=>if b=ag then t D σ H1 else u D σ H1
theorem S3 {c:au}{a b:List bp}{tc:TT}(hc:PT X c tc) (ha:dD X a t) (hb:dD X b u):PS X (.If c a b pos) (af8 tc t u):=by
 intro pins s σ H D I h;refine wpAny_If<|tT (hc pins s σ H _ I h) λd s1 H1 I1 q1=>?_;cases d with
 |true=>show ha pins s1 σ H1 D I1 q1
 |false=>show hb pins s1 σ H1 D I1 q1
end
abbrev TG:=V->St->Hp->(St->Hp->zk)->zk
abbrev uj:=List V->St->Hp->(St->Hp->zk)->zk
def PG (X:Cx) (target:au) (t:TG):zk:=
 ∀ (pins:List<|ai×aV) (s:aq) (σ:St) (H:Hp) (v:V) (u:aj) (Q:St->Hp->zk),Inv X pins σ H s->RelV v u->t v σ H Q ->
  wpAny ze X.A (assign target X.env u) (λ_ s'=>∃ σ' H',Inv X pins σ' H' s' /\ Q σ' H') X.xe s
def sQ (X:Cx) (ts:List au) (t:uj):zk:=
 ∀ (pins:List<|ai×aV) (s:aq) (σ:St) (H:Hp) (vs:List V) (us:List aj) (Q:St->Hp->zk),Inv X pins σ H s->Vals vs us->t vs σ H Q ->
  wpAny ze X.A (assignInOrder ((assignEach ts X.env).map (·.2)) us) (λ_ s'=>∃ σ' H',Inv X pins σ' H' s' /\ Q σ' H') X.xe s
abbrev XY:=V->V->V->Hp->(Hp->zk)->zk
def acK (X:Cx) (t:XY):zk:=
 ∀ (pins:List<|ai×aV) (s:aq) (σ:St) (H:Hp) (o i v:V) (ov iv u:aj) (Q:Hp->zk),Inv X pins σ H s->RelV o ov->RelV i iv->RelV v u->t o i v H Q ->
  wpAny ze X.A (setItem ov iv u) (λ_ s'=>∃ H',Inv X pins σ H' s' /\ Q H') X.xe s
abbrev Ke:=V->V->Hp->VK->zk
def XZ (X:Cx) (op:Operator) (t:Ke):zk:=
 ∀ (pins:List<|ai×aV) (s:aq) (σ:St) (H:Hp) (x y:V) (v u:aj) (Q:VK),Inv X pins σ H s->RelV x v->RelV y u->t x y H Q ->
  wpAny ze X.A (inplaceOp op v u) (EP X pins σ Q) X.xe s
def X0 (i:Nat):TG:=λv σ H Q=>Q (σ.set i<|ae v) H
theorem CC {i:Nat}(hN:X.N.Nodup) (hi:X.N[i]?=ae x) (hx:Loc X.env.scope x) (hf:X.fn x=ag \/ X.env.scope.names.lookup x=ae .local:=by first|show .inl zj|show .inr zj|assumption):PG X (.Name x pos) (X0 i):=by
 intro pins s σ H v u Q I r h;show aaF<|jG I hN hi hx r (λs' I'=>#[_,H,I',h]) hf
noncomputable def af9:uj:=λvs σ H Q=>vs=[] /\ Q σ H
noncomputable def aga (t:TG) (u:uj):uj:=λvs σ H Q=>∃ v r,vs=v::r /\ t v σ H λσ' H'=>u r σ' H' Q
theorem Gy:sQ X [] af9:=by
 intro pins s σ H vs us Q I r h;let#[e,h]:=h;subst e;cases r;show abM #[σ,H,I,h]
theorem AM {t:TG}{u:uj}(h1:PG X e t) (h2:sQ X es u)
 (hs:(assignEach (e::es) X.env).map (·.2)=assign e X.env::(assignEach es X.env).map (·.2):=by rfl):sQ X (e::es) (aga t u):=by
 intro pins s σ H vs us Q I r h;let#[v,vr,e1,h]:=h;subst e1;cases r with
 |cons r rr=>
   rw[hs];show Xi<|cb (h1 pins s σ H _ _ _ I r h) λ_ s1 ⟨σ1,H1,I1,q1⟩=>(h2 pins s1 σ1 H1 _ _ Q I1 rr q1)
def agb (K:PySem.W.Frag) (n:Nat) (t:uj):TG:=λv σ H Q=>∃ a xs,v=.ref a /\ cM K H a xs /\ xs.length=n /\ t xs σ H Q
theorem LH {k:Nat}{t:uj}(hc:X.calm=ag) (h:sQ X es t)
 (hn:(assignEach es X.env).length=n:=by rfl) (pD:(assignEach es X.env).findIdx? (·.1)=ah:=by rfl):PG X (.Tuple es k pos) (agb X.K n t):=by
 intro pins s σ H v u Q I r hw;let#[a,xs,e1,hq,hl,hw]:=hw;subst e1;cases r;let#[its,rv,ht,hz]:=I.tuple hq;show assign_Tuple_tuple (I.ok.hd hc) ht (by simp[hn,<-hl,rv.length]) pD λh' hx=>(h pins _ σ H xs _ Q (I.kept λb o e=>hx b o (bJ<|ba e) e) (by simpa using rv) hw)
def agc (to ti:TE) (t:XY):TG:=λv σ H Q=>to σ H λo H1=>ti σ H1 λi H2=>t o i v H2 λH3=>Q σ H3
theorem TQ {o i:au}{to ti:TE}{t:XY}(ho:PE X o to) (hi:PE X i ti) (hs:acK X t)
 (ha:∀ v,assign (.Subscript o i pos) X.env v=(do
  let ov <-holding [v] (eval o X.env)
  let iv <-holding [v,ov] (eval i X.env)
  standAt pos
  holding [v,ov,iv] (setItem ov iv v)
  release [v,ov,iv] []):=by intro _;rfl):PG X (.Subscript o i pos) (agc to ti t):=by
 intro pins s σ H v u Q I r h;show ak<|eU<|tE (ho pins s σ H _ I h) λov s1 x H1 I1 r1 q1=>(ak<|eU<|tE (hi pins s1 σ H1 _ I1 q1) λiv s2 y H2 I2 r2 q2=>(ak<|Ic<|ak<|eU<|cb (hs pins s2 σ H2 x y v ov iv u _ I2 r1 r2 r q2) λ_ s3 ⟨H3,I3,q3⟩=>(wpAny_release #[σ,H3,I3,q3])))
def Kf (te:TE) (g:TG):TS:=λD σ H=>te σ H λx H1=>g x σ H1 D.nx
theorem LJ {te:TE}{g:TG}(he:PE X e te) (hg:PG X tg g) (hs:swapsWithSole [tg] e pos.line X.env=pure af:=by rfl) (hw:swappedStores [tg] e X.env=pure ah:=by rfl)
 (h1:(assignEach [tg] X.env).map (·.2)=[assign tg X.env]:=by rfl):PS X (.Assign [tg] e pos) (Kf te g):=by
 intro pins s σ H D I h;refine wpAny_Assign_stores (tE (he pins s σ H _ I h) λv s1 x H1 I1 r1 q1=>?_) hs hw;rw[h1];show cb (hg pins s1 σ H1 x v _ I1 r1 q1) λ_ s2 q=>q
theorem oK {i:Nat}{te:TE}(hN:X.N.Nodup) (hi:X.N[i]?=ae x) (hx:Loc X.env.scope x) (he:PE X e te) (hs:swapsWith e (ae<|.Name x pos') pos.line X.env=pure af:=by rfl) (hf:X.fn x=ag \/ X.env.scope.names.lookup x=ae .local:=by first|show .inl zj|show .inr zj|assumption) :
 PS X (.Assign [.Name x pos'] e pos) (Kf te<|X0 i):=by
 intro pins s σ H D I h;show wpAny_Assign_Name (tE (he pins s σ H _ I h) λv s1 y H1 I1 r1 q1=>(jG I1 hN hi hx r1 (λs2 I2=>#[_,H1,I2,q1]) hf)) hs
def acL (i j:Nat) (ta:TA):TS:=λD σ H=>ta σ H λvs H1=>∃ v w,vs=[v,w] /\ D.nx ((σ.set i<|ae v).set j<|ae w) H1
theorem TR {i:Nat}{y:Str}{a b:au}{ta:TA}{px py pt:aK}{kt k2 nH}(hc:X.calm=ag) (hN:X.N.Nodup) (hi:X.N[i]?=ae x) (hj:X.N[j]?=ae y) (EF:i≠j)
 (hx:X.env.scope.names.lookup x=ae .local) (hy:X.env.scope.names.lookup y=ae .local) (ha:PA X [a,b] ta)
 (hw:swappedStores [.Tuple [.Name x px,.Name y py] kt pt] (.Tuple [a,b] k2 nH) X.env=pure (ae [x,y]))
 (hs:swapsWithSole [.Tuple [.Name x px,.Name y py] kt pt] (.Tuple [a,b] k2 nH) pos.line X.env=pure af:=by rfl) :
 PS X zal (acL i j ta):=by
 intro pins s σ H D I h;refine ak<|Ic ?_;refine ak<|ay ?_;refine ak<|Tuple_<|tA (ha _ pins s σ H _ I h) λus s1 vs H1 I1 r1 q1=>?_;let#[v,w,e1,q1]:=q1;subst e1;obtain⟨u1,u2,rfl,rv,nT⟩:∃ u1 u2,us=[u1,u2] /\ RelV v u1 /\ RelV w u2:=by
  cases r1 with
  |cons p q=>
    cases q with
    |cons p' q'=>
      cases q';show#[_,_,rfl,p,p']
 refine eV ?_ (by change 2<=sizeLine;decide);rw[hw];refine ak<|ay ?_;change wpAny ze X.A (do rule "assign.swapped-stores";let items <-unpackItems (.ref s1.heap.objs.size) 2 ah;assignInOrder [λv=>bindName X.env y v,λv=>bindName X.env x v] items.reverse;pure Flow.next) _ _ _;refine ak<|qu<|ak<|unpackItems_tuple (items:=(List.toArray [u1,u2])) (I.ok.hd hc) (IsTup.new s1.heap _) λh' agd=>?_;change wpAny _ _ (assignInOrder [λv=>bindName X.env y v,λv=>bindName X.env x v] [u2,u1] >>= λ_=>pure Flow.next) _ _ _;refine ak<|Xi<|aaG<|jG ((I1.kept λb o e=>aS _ e).kept (t':=s1.toks) λb o e=>agd b o (bJ<|ba e) e) hN hj (.inl hy) nT (λs2 I4=>?_)<|.inr hy;refine Xi<|aaG<|jG I4 hN hi (.inl hx) rv (λs3 I5=>abM<|ay ?_)<|.inr hx;rw[List.set_comm _ _<|Ne.symm EF]at I5;show#[_,H1,I5,q1]
def acM (i:Nat) (te:TE) (ti:Ke):TS:=λD σ H=>∃ x,σ[i]?=ae (ae x) /\ te σ H λy H1=>ti x y H1 λz H2=>D.nx (σ.set i<|ae z) H2
theorem LK {i:Nat}{te:TE}{op:Operator}{ti:Ke}(hN:X.N.Nodup) (hi:X.N[i]?=ae x) (hx:Loc X.env.scope x) (he:PE X e te) (ho:XZ X op ti) (hf:X.fn x=ag \/ X.env.scope.names.lookup x=ae .local:=by first|show .inl zj|show .inr zj|assumption) :
 PS X (.AugAssign (.Name x pos') op e pos) (acM i te ti):=by
 intro pins s σ H D I h;let#[v,e1,h]:=h;let#[m,hn,hl]:=I.loc;let#[u,r,l]:=hl i x v hi e1 (by rcases hx with k|k;show .inl k;show .inr (.inl k));refine wpAny_AugAssign_Name ?_;have go:wpAny (model X.prog X.w) X.A (eval e X.env) (λw s₂=>wpAny ze X.A (inplaceOp op u w) (λr s₃=>wpAny ze X.A (storeName X.env x r) (λ_=>SP X pins D .next) X.xe s₃) X.xe s₂) X.xe s:=tE (he pins s σ H _ I h) λw s1 y H1 I1 r1 q1=>(tE (ho pins s1 σ H1 v y u w _ I1 r r1 q1) λz s2 zv H2 I2 r2 q2=>(jG I2 hN hi hx r2 (λs3 I3=>#[_,H2,I3,q2]) hf));rcases l with⟨hk,hm⟩|⟨hk,c,hc,xY⟩
 .show aaA I.ok.kind hk hn hm go
 .rcases hk with hk|hk
  .show aaB I.ok.kind hk hc xY go
  .rcases hx with k|k
   .have:X.env.scope.names.lookup x=ae .free:=hk;rw[k]at this;cases this
   .have:X.env.scope.names.lookup x=ae .free:=hk;rw[k]at this;cases this
noncomputable def X1 (f:Int->Int->Int):Ke:=λx y H Q=>∃ i j,x=.int i /\ y=.int j /\ Q (.int<|f i j) H
theorem TU:XZ X .Add (X1 λi j=>i+j):=by
 intro pins s σ H x y v u Q I r1 r2 h;let#[i,j,e1,e2,q]:=h;subst e1;subst e2;let#[t,rfl]:=r1;let#[t',rfl]:=r2;show iadd_int #[.int _,H,I.tok _,#[_,rfl],q]
theorem TV:XZ X .Sub (X1 λi j=>i-j):=by
 intro pins s σ H x y v u Q I r1 r2 h;let#[i,j,e1,e2,q]:=h;subst e1;subst e2;let#[t,rfl]:=r1;let#[t',rfl]:=r2;show isub_int #[.int _,H,I.tok _,#[_,rfl],q]
structure It where
 go:Nat->Hp->zk
 EG:Nat->Hp->V->Hp->zk
 stop:Nat->Hp->zk
def pE (X:Cx) (pins:List<|ai×aV) (H:Hp) (b:ai):zk:=
 H b=ah /\ b≠X.env.locals /\ b∉X.fs /\ (b∈X.ex \/ X.s₀.heap.objs.size<=b) /\ (∀ x c,X.env.cells.lookup x=ae c->c≠b) /\ ∀ p∈X.pn++pins,p.1≠b
theorem Inv.xZ {s:aq}{b:ai}(I:Inv X pins σ H s) (hb:s.heap.objs.size<=b) (hn:H' b=ah):pE X pins H' b:=by
 refine#[hn,xo<|eG I.lt hb,I.afT hb,.inr<|dF I.sz hb,λx c e z=>?_,λp hp z=>(absurd (eG (ba (I.pin p hp).1) (by rw[z];show hb))<|kq _)]
 .let#[v,q]:=I.cell x c e;show absurd (eG q.lt (by rw[z];show hb))<|kq _
structure Turn (P:cG) (w:bH) (K:PySem.W.Frag) (tg:au) (J:It) (fp:List ai) (it:ai) (tn:Nat->aE->zk):zk where
 mem:it∈fp
 obj:∀ i h,tn i h->∀ b∈fp,∃ o,h.get? b=ae o /\ ∀ v,o.data≠.cell v
 keep:∀ i h h',tn i h->(∀ b∈fp,∀ o,h.get? b=ae o->h'.get? b=ae o)->tn i h'
 item:∀ (X:Cx),X.prog=P->X.w=w->X.K=K->X.calm=ag->∀ (i:Nat) (pins:List<|ai×aV) (s:aq) (σ:St) (H:Hp) (E:aj->aq->zk),Inv X pins σ H s->(∀ b∈fp,pE X pins H b)->tn i s.heap->J.go i H ->
  wpAny (model P w) X.A (pyNext<|.ref it) (λr s1=>∃ u,r=ae u /\
   wpAny (model P w) X.A (letOwnedTupleGo tg (.ref it) u) (λ_ s2=>∃ x H',Inv X pins σ H' s2 /\ RelV x u /\ J.EG i H x H' /\ tn (i+1) s2.heap /\ ∀ b∈fp,H' b=ah) E s1) E s
 done:∀ (X:Cx),X.prog=P->X.w=w->X.K=K->X.calm=ag->∀ (i:Nat) (pins:List<|ai×aV) (s:aq) (σ:St) (H:Hp) (E:aj->aq->zk),Inv X pins σ H s->(∀ b∈fp,pE X pins H b)->tn i s.heap->J.stop i H ->
  wpAny (model P w) X.A (pyNext<|.ref it) (λr s1=>r=ah /\ Inv X pins σ H s1) E s
 self:∀ (A:cE) (i:Nat) (s:aq) (Q:aj->aq->zk) (E:aj->aq->zk),tn i s.heap->Q (.ref it) s->wpAny (model P w) A (pyIter<|.ref it) Q E s
abbrev TI:=St->Hp->(It->Hp->zk)->zk
def X2 (X:Cx) (pins:List<|ai×aV) (σ:St) (tg:au) (R:It->Hp->zk) (Kg:aj) (s2:aq):zk:=
 ∃ (it:ai) (fp:List ai) (tn:Nat->aE->zk) (J:It) (H':Hp),Kg=.ref it /\ Inv X pins σ H' s2 /\ Turn X.prog X.w X.K tg J fp it tn /\ tn 0 s2.heap /\ (∀ b∈fp,pE X pins H' b) /\ R J H'
def PI (X:Cx) (tg iter:au) (wi:TI):zk:=
 ∀ (pins:List<|ai×aV) (s:aq) (σ:St) (H:Hp) (R:It->Hp->zk),Inv X pins σ H s->wi σ H R ->
  wpAny ze X.A (eval iter X.env) (λv s1=>wpAny ze X.A (pyIter v) (X2 X pins σ tg R) X.xe s1) X.xe s
theorem Do {s:aq}{n:String}{vs:Array aj}{Q:Unit->aq->zk}(ho:s.heap.get? it=ae o) (hc:o.cls=.type n) (hd:o.data=.fields vs)
 (hn:["enumerate","zip","dict_itemiterator","dict_reverseitemiterator","odict_iterator","itertools.zip_longest","itertools.pairwise"].contains n=af) (hQ:Q () s):wpAny M A (letOwnedTupleGo tg (.ref it) u) Q E s:=by
 cases tg<;>first
  |show ay hQ
  |(cases u<;>first
   |show ay hQ
   | (refine ak (xl ho ?_)
      rw[hc,hd];change wpAny M A (if (["enumerate","zip","dict_itemiterator","dict_reverseitemiterator","odict_iterator","itertools.zip_longest","itertools.pairwise"].contains n&&vs[0]?==ae _)=ag then _ else _) Q E s;rw[if_neg (by intro h;rw[hn,Io]at h;cases h)];show ay hQ))
noncomputable def X3 (K:PySem.W.Frag) (a:ai):It:=
 #[λi H=>∃ xs x,bI K H a xs /\ xs[i]?=ae x,λi H x H'=>H'=H /\ ∀ xs,bI K H a xs->xs[i]?=ae x,λi H=>∃ xs,bI K H a xs /\ xs.length<=i]
noncomputable def X4 (K:PySem.W.Frag) (a:ai):It:=
 #[λi H=>∃ xs x,cM K H a xs /\ xs[i]?=ae x,λi H x H'=>H'=H /\ ∀ xs,cM K H a xs->xs[i]?=ae x,λi H=>∃ xs,cM K H a xs /\ xs.length<=i]
noncomputable def wb (lo:Int) (n:Nat):It:=#[λi _=>i<n,λi H x H'=>H'=H /\ x=.int (lo+i),λi _=>n<=i]
theorem Jv (a it:ai):Turn P w K tg (X3 K a) [it] it (λi h=>h.IsListIter it a i) where
 mem:=by simp
 obj:=λi h st b hb=>by
  have e:b=it:=by simpa using hb
  subst e;let#[o,e,c,d]:=st;show#[o,e,λv z=>by rw[d]at z;cases z]
 keep:=λi h h' st k=>st.at λo e=>k it zg o e
 item:=by
  intro X hP hw hK hc i pins s σ H E I hf st hg;subst hP hw hK;let#[xs,x,hq,hx]:=hg;let#[its,rv,p,hz]:=I.list hq;let#[u,hu,ru]:=rv.get hx;let#[f0,f1,f2,f3,f4,f5]:=hf it zg;refine wpAny_pyNext_list_item st p.isList (by simpa using hu) λh' pF sb=>?_;let#[o,e,c,d]:=id pF;show#[u,rfl,Do e c d zc #[x,H,(I.turned (λb o hb e=>(sb.2 b hb).trans e) f0 f1 f3 f4 f5),ru,#[rfl,λys hy=>by rw[I.acI hy hq];show hx],pF,λb hb=>(hf b hb).1]]
 done:=by
  intro X hP hw hK hc i pins s σ H E I hf st hg;subst hP hw hK;let#[xs,hq,hx]:=hg;let#[its,rv,p,hz]:=I.list hq;let#[f0,f1,f2,f3,f4,f5]:=hf it zg;have hl:=rv.length;show wpAny_pyNext_list_end (I.ok.hd hc) st p.isList zo λh' eb=>#[rfl,I.turned (λb o hb e=>eb b o hb e) f0 f1 f3 f4 f5]
 self:=λ_ _ _ _ _ st h=>wpAny_pyIter_listiter st h
theorem Fq (a it:ai):Turn P w K tg (X4 K a) [it] it (λi h=>h.IsTupleIter it a i) where
 mem:=by simp
 obj:=λi h st b hb=>by
  have e:b=it:=by simpa using hb
  subst e;let#[o,e,c,d]:=st;show#[o,e,λv z=>by rw[d]at z;cases z]
 keep:=λi h h' st k=>st.at λo e=>k it zg o e
 item:=by
  intro X hP hw hK hc i pins s σ H E I hf st hg;subst hP hw hK;let#[xs,x,hq,hx]:=hg;let#[its,rv,p,hz]:=I.tuple hq;let#[u,hu,ru]:=rv.get hx;let#[f0,f1,f2,f3,f4,f5]:=hf it zg;refine wpAny_pyNext_tuple_item st (p) (by simpa using hu) λh' pF sb=>?_;let#[o,e,c,d]:=id pF;show#[u,rfl,Do e c d zc #[x,H,(I.turned (λb o hb e=>(sb.2 b hb).trans e) f0 f1 f3 f4 f5),ru,#[rfl,λys hy=>by rw[I.acJ hy hq];show hx],pF,λb hb=>(hf b hb).1]]
 done:=by
  intro X hP hw hK hc i pins s σ H E I hf st hg;subst hP hw hK;let#[xs,hq,hx]:=hg;let#[its,rv,p,hz]:=I.tuple hq;let#[f0,f1,f2,f3,f4,f5]:=hf it zg;have hl:=rv.length;show wpAny_pyNext_tuple_end (I.ok.hd hc) st (p) zo λh' eb=>#[rfl,I.turned (λb o hb e=>eb b o hb e) f0 f1 f3 f4 f5]
 self:=λ_ _ _ _ _ st h=>wpAny_pyIter_tupleiter st h
theorem AN (it:ai) (lo:Int) (n:Nat):Turn P w K tg (wb lo n) [it] it (λi h=>IsRangeIter h it (lo+(i:Nat)*1) ((n:Int)-(i:Nat)) 1) where
 mem:=by simp
 obj:=λi h st b hb=>by
  have e:b=it:=by simpa using hb
  subst e;show#[_,st,λv z=>by
   cases z]
 keep:=λi h h' st k=>k it zg _ st
 item:=by
  intro X hP hw hK hc i pins s σ H E I hf st hg;subst hP hw hK;let#[f0,f1,f2,f3,f4,f5]:=hf it zg;refine(Walks.range (prog:=X.prog) (w:=X.w) (I.ok.hd hc) it lo 1 n).item i s _ _ hg st λv h' tk hv pF kk=>?_;let#[t,rfl]:=hv;refine#[_,rfl,Do pF zj zj (by decide) #[.int<|lo+i,H,(I.turned (λb o hb e=>kk b o (by simpa using hb) e) f0 f1 f3 f4 f5),#[t,?_],#[rfl,rfl],pF,λb hb=>(hf b hb).1]];rw[ab1]
 done:=by
  intro X hP hw hK hc i pins s σ H E I hf st hg;let#[f0,f1,f2,f3,f4,f5]:=hf it zg;show wpAny_pyNext_range_end (I.ok.hd hc) st (by have:n<=i:=hg;lia) λh' eb=>#[rfl,I.turned (λb o hb e=>eb b o hb e) f0 f1 f3 f4 f5]
 self:=λ_ _ _ _ _ st h=>wpAny_pyIter_rangeiter st h
theorem LL {s:aq}{R:It->Hp->zk}{lo hi:Int}{t u v:Tok}{tk:Nat}(I:Inv X pins σ H s) (h1:-(2 ^ 62)<=lo) (h2:lo<2 ^ 62) (h3:-(2 ^ 62)<=hi) (h4:hi<2 ^ 62)
 (q:R (wb lo (hi-lo).toNat) H):wpAny ze X.A (pyIter zad) (X2 X pins σ tg R) E { s with heap:=s.heap.push { cls:=.type "range",data:=.fields (List.toArray [.int lo t,.int hi u,.int 1 v]) },toks:=tk }:=by
 refine aaH (IsRange.new ..) (small_one h1 h2 h3 h4) ?_;have I1:Inv X pins σ H { s with heap:=s.heap.push { cls:=.type "range",data:=.fields (List.toArray [.int lo t,.int hi u,.int 1 v]) },toks:=tk }:=I.kept λb o e=>aS _ e;refine#[(s.heap.push { cls:=.type "range",data:=.fields (List.toArray [.int lo t,.int hi u,.int 1 v]) }).objs.size,[(s.heap.push { cls:=.type "range",data:=.fields (List.toArray [.int lo t,.int hi u,.int 1 v]) }).objs.size],_,_,H,rfl,
  I1.kept λb o e=>aS _ e,AN _ lo (hi-lo).toNat,?_,λb hb=>?_,q]
 .have e1:lo+((0))*1=lo:=by simp
  have e2:(((hi-lo).toNat))-((0))=Builtin.Range.rangeSize lo hi 1:=by rw[aaI];split<;>lia
  change IsRangeIter _ _ (lo+((0))*1) ((((hi-lo).toNat))-((0))) 1;rw[e1,e2];show bA _ zj
 .have e:b=(s.heap.push { cls:=.type "range",data:=.fields (List.toArray [.int lo t,.int hi u,.int 1 v]) }).objs.size:=by simpa using hb
  subst e;show I1.xZ (aH _)<|I1.aF.fresh<|aH _
def age (ta:TA):TI:=λσ H R=>ta σ H λvs H1=>∃ j:Int,vs=[.int j] /\ -(2 ^ 62)<=j /\ j<2 ^ 62 /\ R (wb 0 j.toNat) H1
theorem Jw {a:au}{ta:TA}{p:aK}(hg:Gl X "range") (hm:X.mg "range"=ah) (ha:PA X [a] ta) (hs:starEach [a] X.env=[(af,eval a X.env)]:=by rfl):PI X tg (.Call (.Name "range" p) [a] [] pos) (age ta):=by
 intro pins s σ H R I h;refine Call_<|jC I hg hm boot_range<|IE (tA (ha pos pins s σ H _ I h) λus s1 vs H1 I1 r1 q1=>?_) hs zj;let#[j,e,q1,q2,q]:=q1;subst e;cases r1 with
 |cons r rr=>
   cases rr;let#[t,rfl]:=r;show call_range_1<|LL I1 zb zb q1 q2 (by simpa using q)
def acN (wi:TI) (g:TG) (tb:TS):TS:=λD σ H=>wi σ H λJ H1=>∃ W:Nat->Nat->St->Hp->zk,(∃ m,W 0 m σ H1) /\ ∀ i m σ H,W i m σ H ->
 (J.stop i H /\ D.nx σ H) \/ (J.go i H /\ ∃ N:St->Hp->zk,(∀ σ' H',N σ' H'->∃ m',m'<m /\ W (i+1) m' σ' H') /\ ∀ x H',J.EG i H x H'->g x σ H' λσ2 H2=>tb { D with nx:=N,ct:=N,bk:=D.nx } σ2 H2)
noncomputable def ya (fp:List ai) (h:aE):List (ai×aV):=fp.filterMap λb=>(h.get? b).map λo=>(b,o)
theorem iG {h:aE}{b:ai}(hb:b∈fp) (e:h.get? b=ae o):(b,o)∈ya fp h:=List.mem_filterMap.mpr #[b,hb,by rw[e];rfl]
theorem Jx {h:aE}{p:ai×aV}(hp:p∈ya fp h):p.1∈fp /\ h.get? p.1=ae p.2:=by
 let#[b,hb,e]:=List.mem_filterMap.mp hp;cases q:h.get? b with
 |none=>rw[q]at e;cases e
 |some o=>
   rw[q]at e;have e':=Option.some.inj e;subst e';show#[hb,q]
theorem Inv.pinned {s:aq}(I:Inv X pins σ H s) (hf:∀ b∈fp,pE X pins H b) (ho:∀ b∈fp,∃ o,s.heap.get? b=ae o /\ ∀ v,o.data≠.cell v):Inv X (pins++ya fp s.heap) σ H s:=
 I.XT λp hp=>(List.mem_append.mp hp).elim (λz=>I.pin p<|pB _ z) λz=>by
  let#[hb,e]:=Jx z;let#[f0,f1,f2,_]:=hf p.1 hb;let#[o,e',d]:=ho p.1 hb;rw[e]at e';cases e';show#[e,f0,f1,f2,d]
theorem Inv.EH {pl:List (ai×aV)}{s:aq}(I:Inv X (pins++pl) σ H s):Inv X pins σ H s:=I.XT λp hp=>I.pin p<|pB _<|pU _ hp
theorem TW {body:List bp}{wi:TI}{g:TG}{tb:TS}(hp:PassesOwn ze X.A X.env X.xe) (hc:X.calm=ag) (hi:PI X tg iter wi) (hg:PG X tg g) (hb:dD X body tb)
 (hs:∀ x,foldedSetIterable iter X.env x=pure x:=by intro _;rfl):PS X (.For tg iter body [] pos) (acN wi g tb):=by
 intro pins s σ H D I h;refine wpAny_For (cb (hi pins s σ H _ I h) λv s1 h1=>cb h1 λKg s2 h2=>?_) hs;let#[it,fp,tn,J,H2,e,I2,T,wc,f2,W,#[m0,w0],turn]:=h2;subst e;have stat:∀ {H'},(∀ b∈fp,H' b=ah)->∀ b∈fp,pE X pins H' b:=λhn b hb=>#[hn b hb,(f2 b hb).2];refine codeAny_forLoop_any (λn s'=>∃ i σ' H',Inv X pins σ' H' s' /\ tn i s'.heap /\ (∀ b∈fp,H' b=ah) /\ W i n σ' H') ?_ m0 #[0,σ,H2,I2,wc,λb hb=>(f2 b hb).1,w0];rintro n s3 ⟨i,σ3,H3,I3,vg,acO,w3⟩;rcases turn i n σ3 H3 w3 with⟨stop,qn⟩|⟨go,N,hN,step⟩
 .refine Ek hp<|cb (T.done X zj zj zj hc i pins s3 σ3 H3 X.xe I3 (stat acO) vg stop) ?_;rintro r s4 ⟨hr,I4⟩;subst hr;show Ib #[σ3,H3,I4,qn]
 .refine Ek hp<|cb (T.item X zj zj zj hc i pins s3 σ3 H3 X.xe I3 (stat acO) vg go) ?_;rintro r s4 ⟨u,hr,h4⟩;subst hr;refine Ek hp<|cb h4 ?_;rintro _ s5 ⟨x,H5,I5,r5,y5,uk,wg⟩;refine Ek hp<|cb (hg _ s5 σ3 H5 x u _ (I5.pinned (stat wg)<|T.obj _ _ uk) r5<|step x H5 y5) ?_;rintro _ s6 ⟨σ6,H6,I6,q6⟩;refine Ek hp<|cb (hb _ s6 σ6 H6 _ I6 q6) λf s7 q7=>?_;have again:∀ {σ7}{H7},Inv X (pins++ya fp s5.heap) σ7 H7 s7->N σ7 H7->∃ m,m<n /\ ∃ i σ' H',Inv X pins σ' H' s7 /\ tn i s7.heap /\ (∀ b∈fp,H' b=ah) /\ W i m σ' H':=λ{σ7 H7} I7 n7=>by
   let#[m',hm,w7]:=hN σ7 H7 n7;refine#[m',hm,i+1,σ7,H7,I7.EH,T.keep _ _ _ uk λb hb o e=>(I7.pin (b,o)<|pB _<|pB _<|iG hb e).1,λb hb=>?_,w7];let#[o,e,d]:=T.obj _ _ uk b hb;show(I7.pin (b,o)<|pB _<|pB _<|iG hb e).2.1
  cases f with
  |brk=>let#[σ7,H7,I7,q7]:=q7;show#[σ7,H7,I7.EH,q7]
  |ret v=>let#[x7,σ7,H7,I7,r7,q7]:=q7;show#[x7,σ7,H7,I7.EH,r7,q7]
  |_=>let#[σ7,H7,I7,n7]:=q7;show again I7 n7
abbrev R2:=V->V->Hp->VK->zk
def bc (X:Cx) (f:aj->aj->Sem aj) (r:R2):zk:=
 ∀ (pins:List<|ai×aV) (s:aq) (σ:St) (H:Hp) (x y:V) (v u:aj) (Q:VK),Inv X pins σ H s->RelV x v->RelV y u->r x y H Q ->
  wpAny ze X.A (f v u) (EP X pins σ Q) X.xe s
def X5 (X:Cx) (f:aj->Sem aj) (r:V->Hp->VK->zk):zk:=
 ∀ (pins:List<|ai×aV) (s:aq) (σ:St) (H:Hp) (x:V) (v:aj) (Q:VK),Inv X pins σ H s->RelV x v->r x H Q ->
  wpAny ze X.A (f v) (EP X pins σ Q) X.xe s
def kA (X:Cx) (f:aj) (r:List V->Hp->VK->zk):zk:=
 ∀ (pins:List<|ai×aV) (s:aq) (σ:St) (H:Hp) (xs:List V) (us:List aj) (Q:VK),Inv X pins σ H s->Vals xs us->r xs H Q ->
  wpAny ze X.A (call f us) (EP X pins σ Q) X.xe s
def EI (r:R2) (ta tb:TE):TE:=λσ H Q=>ta σ H λx H1=>tb σ H1 λy H2=>r x y H2 Q
def agf (r:V->Hp->VK->zk) (ta:TE):TE:=λσ H Q=>ta σ H λx H1=>r x H1 Q
def rI (C:Int->Int->zk) (g:Int->Int->V):R2:=λx y H Q=>∃ i j,x=.int i /\ y=.int j /\ C i j /\ Q (g i j) H
def k9 (g:Int->Int->V):R2:=λx y H Q=>∃ i j,x=.int i /\ y=.int j /\ Q (g i j) H
def rU (g:Int->V):V->Hp->VK->zk:=λx H Q=>∃ i,x=.int i /\ Q (g i) H
section
variable {a b c:au} {ta tb tc:TE} 
theorem X6 (ha:PE X a ta) (hb:PE X b tb) {s:aq}{R:V->V->Hp->zk}(I:Inv X pins σ H s)
 (h:ta σ H λx H1=>tb σ H1 λy H2=>R x y H2) {f:aj->aj->Sem aj}
 (hf:∀ v u s2 x y H2,Inv X pins σ H2 s2->RelV x v->RelV y u->R x y H2->wpAny ze X.A (f v u) Q X.xe s2) :
 wpAny ze X.A (eval a X.env) (λv s₁=>wpAny ze X.A (eval b X.env) (λu s₂=>wpAny ze X.A (f v u) Q X.xe s₂) X.xe s₁) X.xe s:=tE zag λv s1 x H1 I1 r1 q1=>(tE (hb pins s1 σ H1 _ I1 q1) λu s2 y H2 I2 r2 q2=>(hf v u s2 x y H2 I2 r1 r2 q2))
theorem Dp {op:Operator}{r:R2}(ho:bc X (binaryOp op) r) (ha:PE X a ta) (hb:PE X b tb):PE X (.BinOp a op b pos) (EI r ta tb):=by
 intro pins s σ H Q I h;show wpAny_BinOp<|X6 ha hb I h λv u s2 x y H2 I2 rx ry q=>ho pins s2 σ H2 x y v u Q I2 rx ry q
theorem S5 {op:UnaryOp}{r:V->Hp->VK->zk}(ho:X5 X (unaryOp op) r) (ha:PE X a ta):PE X (.UnaryOp op a pos) (agf r ta):=by
 intro pins s σ H Q I h;show UnaryOp_<|tE zag λv s1 x H1 I1 r1 q1=>ho pins s1 σ H1 x v Q I1 r1 q1
theorem Kh {f:aj->aj->Sem aj}{C:Int->Int->zk}{g:Int->Int->Int}
 (rule:∀ (i j:Int) (t u:Tok) (s:aq) (Q:aj->aq->zk) (E:aj->aq->zk),C i j->Q (.int (g i j) s.toks) { s with toks:=s.toks+1 }->wpAny ze X.A (f (.int i t)<|.int j u) Q E s) :
 bc X f (rI C λi j=>.int<|g i j):=by
 intro pins s σ H x y v u Q I rx ry h;let#[i,j,rfl,rfl,hc,q]:=h;let#[t,rfl]:=rx;let#[t',rfl]:=ry;show rule i j t t' s _ _ hc #[.int _,H,I.tok _,#[_,rfl],q]
theorem acP {f:aj->aj->Sem aj}{g:Int->Int->Int}
 (rule:∀ (i j:Int) (t u:Tok) (s:aq) (Q:aj->aq->zk) (E:aj->aq->zk),Q (.int (g i j) s.toks) { s with toks:=s.toks+1 }->wpAny ze X.A (f (.int i t)<|.int j u) Q E s) :
 bc X f (k9 λi j=>.int<|g i j):=by
 intro pins s σ H x y v u Q I rx ry h;let#[i,j,rfl,rfl,q]:=h;let#[t,rfl]:=rx;let#[t',rfl]:=ry;show rule i j t t' s _ _ #[.int _,H,I.tok _,#[_,rfl],q]
theorem Ki {f:aj->aj->Sem aj}{g:Int->Int->Bool}
 (rule:∀ (i j:Int) (t u:Tok) (s:aq) (Q:aj->aq->zk) (E:aj->aq->zk),Q (.bool<|g i j) s->wpAny ze X.A (f (.int i t)<|.int j u) Q E s) :
 bc X f (k9 λi j=>.bl<|g i j):=by
 intro pins s σ H x y v u Q I rx ry h;let#[i,j,rfl,rfl,q]:=h;let#[t,rfl]:=rx;let#[t',rfl]:=ry;show rule i j t t' s _ _ #[.bl _,H,I,rfl,q]
def wj (i j:Int):zk:=0<=j /\ j<=1000000 /\ i.natAbs<2 ^ 64
def wm (i j:Int):zk:=(-(2 ^ 64)<i /\ i<2 ^ 64) \/ (-(2 ^ 64)<j /\ j<2 ^ 64)
theorem wm.ok {i j:Int}(h:wm i j):IntMulOk i j:=by
 rcases h with⟨h1,h2⟩|⟨h1,h2⟩
 .show .of_left<|aaJ h1 h2
 .show .of_right<|aaJ h1 h2
theorem TX:bc X (binaryOp .Add) (k9 λi j=>.int<|i+j):=acP λ_ _ _ _ _ _ _ q=>add_int q
theorem TY:bc X (binaryOp .Sub) (k9 λi j=>.int<|i-j):=acP λ_ _ _ _ _ _ _ q=>sub_int q
theorem TZ:bc X (binaryOp .Mult) (rI wm λi j=>.int<|i*j):=Kh λ_ _ _ _ _ _ _ hc q=>mul_int q hc.ok
theorem T0:bc X (binaryOp .Mod) (rI (λ_ j=>0<j) λi j=>.int<|i % j):=Kh λi j _ _ _ _ _ hc q=>mod_int' zb (by rw[Int.fmod_eq_emod_of_nonneg i zb];show q)
theorem T1:bc X (binaryOp .Pow) (rI wj λi j=>.int<|i ^ j.toNat):=Kh λ_ _ _ _ _ _ _ hc q=>pow_int_small hc.1 hc.2.1 hc.2.2 q
theorem agg {f:aj->Sem aj}{g:Int->Int}
 (rule:∀ (i:Int) (t:Tok) (s:aq) (Q:aj->aq->zk) (E:aj->aq->zk),Q (.int (g i) s.toks) { s with toks:=s.toks+1 }->wpAny ze X.A (f<|.int i t) Q E s) :
 X5 X f (rU λi=>.int<|g i):=by
 intro pins s σ H x v Q I rx h;let#[i,rfl,q]:=h;let#[t,rfl]:=rx;show rule i t s _ _ #[.int _,H,I.tok _,#[_,rfl],q]
theorem LM:X5 X (unaryOp .USub) (rU λi=>.int<|-i):=agg λ_ _ _ _ _ q=>neg_int q
end
noncomputable def acQ:V->V->Bool
 |.aB,.aB=>ag|.aB,.int _=>ag|.int _,.aB=>ag|.aB,.bl _=>ag|.bl _,.aB=>ag|.aB,.str _=>ag|.str _,.aB=>ag
 |.int _,.int _=>ag|.bl _,.bl _=>ag|.str _,.str _=>ag|.nQ _,.nQ _=>ag
 |.int _,.str _=>ag|.str _,.int _=>ag|.bl _,.str _=>ag|.str _,.bl _=>ag
 |_,_=>af
def acR:R2:=λx y H Q=>acQ x y=ag /\ Q (.bl<|decide (x=y)) H
def acS:R2:=λx y H Q=>acQ x y=ag /\ Q (.bl<|!decide (x=y)) H
theorem Gz {i j:Int}:decide (V.int i=V.int j)=(i==j):=by
 rw[pT];simp
theorem LN {i j:Bool}:decide (V.bl i=V.bl j)=(i==j):=by
 rw[pT];simp
theorem GA {i j:Str}:decide (V.str i=V.str j)=(i==j):=by
 rw[pT];simp
theorem GB {i j:Array UInt8}:decide (V.nQ i=V.nQ j)=(i.toList==j.toList):=by
 rw[pT];cases i;cases j;simp
section
variable {a b c:au} {ta tb tc:TE} 
theorem fZ {s:aq}{Q:VK}{k k':Bool}(I:Inv X pins σ H s) (q:Q (.bl k) H) (e:k=k'):EP X pins σ Q (.bool k') s:=by
 subst e;show#[.bl k,H,I,rfl,q]
theorem Wi:bc X (compareOp .Eq) acR:=by
 intro pins s σ H x y v u Q I rx ry h;let#[hs,q]:=h;cases x with
 |aB=>
   cases rx;cases y with
   |aB=>cases ry;show afi<|fZ I q zg
   |bl j=>cases ry;show afj<|fZ I q zg
   |int j=>let#[t',rfl]:=ry;show afk<|fZ I q zg
   |str j=>let#[t',rfl]:=ry;show afl<|fZ I q zg
   |_=>show absurd (hs) dG
 |bl i=>
   cases rx;cases y with
   |aB=>cases ry;show afm<|fZ I q zg
   |bl j=>cases ry;show eq_bool<|fZ I q LN
   |str j=>let#[t',rfl]:=ry;show afw<|fZ I q zg
   |_=>show absurd (hs) dG
 |int i=>
   let#[t,rfl]:=rx;cases y with
   |aB=>cases ry;show afn<|fZ I q zg
   |int j=>let#[t',rfl]:=ry;show eq_int<|fZ I q Gz
   |str j=>let#[t',rfl]:=ry;show afx<|fZ I q zg
   |_=>show absurd (hs) dG
 |str i=>
   let#[t,rfl]:=rx;cases y with
   |aB=>cases ry;show afo<|fZ I q zg
   |bl j=>cases ry;show afy<|fZ I q zg
   |int j=>let#[t',rfl]:=ry;show afz<|fZ I q zg
   |str j=>let#[t',rfl]:=ry;show eq_str<|fZ I q GA
   |_=>show absurd (hs) dG
 |nQ i=>
   let#[t,rfl]:=rx;cases y with
   |nQ j=>let#[t',rfl]:=ry;show PySem.W.eq_bytes<|fZ I q GB
   |_=>show absurd (hs) dG
 |_=>cases y<;>show absurd (show af=ag from hs) dG
theorem S6:bc X (compareOp .NotEq) acS:=by
 intro pins s σ H x y v u Q I rx ry h;let#[hs,q]:=h;cases x with
 |aB=>
   cases rx;cases y with
   |aB=>cases ry;show afp<|fZ I q zg
   |bl j=>cases ry;show afq<|fZ I q zg
   |int j=>let#[t',rfl]:=ry;show afr<|fZ I q zg
   |str j=>let#[t',rfl]:=ry;show afs<|fZ I q zg
   |_=>show absurd (hs) dG
 |bl i=>
   cases rx;cases y with
   |aB=>cases ry;show aft<|fZ I q zg
   |bl j=>cases ry;show ne_bool<|fZ I q<|congrArg not LN
   |str j=>let#[t',rfl]:=ry;show afA<|fZ I q zg
   |_=>show absurd (hs) dG
 |int i=>
   let#[t,rfl]:=rx;cases y with
   |aB=>cases ry;show afu<|fZ I q zg
   |int j=>let#[t',rfl]:=ry;show ne_int<|fZ I q<|congrArg not Gz
   |str j=>let#[t',rfl]:=ry;show afB<|fZ I q zg
   |_=>show absurd (hs) dG
 |str i=>
   let#[t,rfl]:=rx;cases y with
   |aB=>cases ry;show afv<|fZ I q zg
   |bl j=>cases ry;show afC<|fZ I q zg
   |int j=>let#[t',rfl]:=ry;show afD<|fZ I q zg
   |str j=>let#[t',rfl]:=ry;show ne_str<|fZ I q<|congrArg not GA
   |_=>show absurd (hs) dG
 |nQ i=>
   let#[t,rfl]:=rx;cases y with
   |nQ j=>let#[t',rfl]:=ry;show PySem.W.ne_bytes<|fZ I q<|congrArg not GB
   |_=>show absurd (hs) dG
 |_=>cases y<;>show absurd (show af=ag from hs) dG
theorem Wj:bc X (compareOp .Lt) (k9 λi j=>.bl<|decide (i<j)):=Ki λ_ _ _ _ _ _ _ q=>lt_int q
theorem Wk:bc X (compareOp .LtE) (k9 λi j=>.bl<|decide (i<=j)):=Ki λ_ _ _ _ _ _ _ q=>le_int q
theorem Wl:bc X (compareOp .Gt) (k9 λi j=>.bl<|decide (j<i)):=Ki λ_ _ _ _ _ _ _ q=>gt_int q
theorem Wm:bc X (compareOp .GtE) (k9 λi j=>.bl<|decide (j<=i)):=Ki λ_ _ _ _ _ _ _ q=>ge_int q
theorem bc.or {f:aj->aj->Sem aj}{r r':R2}(h:bc X f r) (h':bc X f r'):bc X f (λx y H Q=>r x y H Q \/ r' x y H Q):=by
 intro pins s σ H x y v u Q I rx ry q;rcases q with q|q
 .show h pins s σ H x y v u Q I rx ry q
 .show h' pins s σ H x y v u Q I rx ry q
theorem agh (b:au) (h:op≠.In:=by decide) (h2:op≠.NotIn:=by decide):behindInMarks op b=af:=by
 have e1:(op==CmpOp.In)=af:=by cases op<;>first|rfl|show absurd zj h
 have e2:(op==CmpOp.NotIn)=af:=by cases op<;>first|rfl|show absurd zj h2
 cases b<;>simp[behindInMarks,e1,e2]
theorem OT {r:R2}(ho:bc X (compareOp op) r) (ha:PE X a ta) (hb:PE X b tb) (hm:behindInMarks op b=af):PE X (.Compare a [op] [b] pos) (EI r ta tb):=by
 intro pins s σ H Q I h;show aaC (X6 ha hb I h λv u s2 x y H2 I2 rx ry q=>ho pins s2 σ H2 x y v u Q I2 rx ry q) hm
noncomputable def acT (t:TE):TT:=λσ H Q=>t σ H λx H'=>∃ k,x=.bl k /\ Q k H'
theorem GC {r:R2}(ho:bc X (compareOp op) r) (ha:PE X a ta) (hb:PE X b tb) (hm:behindInMarks op b=af):PT X (.Compare a [op] [b] pos) (acT<|EI r ta tb):=by
 intro pins s σ H Q I h;refine aaD (tE zag λv s1 x H1 I1 r1 q1=>tE (hb pins s1 σ H1 _ I1 q1) λu s2 y H2 I2 r2 q2=>tE (ho pins s2 σ H2 x y v u _ I2 r1 r2 q2) λc s3 z H3 I3 r3 hh=>?_) hm;let#[k,e,q3]:=hh;subst e;cases r3;show qt #[H3,I3,q3]
def X7 (r r':R2) (ta tb tc:TE):TE:=λσ H Q=>ta σ H λx H1=>tb σ H1 λy H2=>r x y H2 λz H3=>∃ k,z=.bl k /\
 (if k=ag then tc σ H3 λw' H4=>r' y w' H4 Q else Q (.bl af) H3)
theorem LO {dq:CmpOp}{r r':R2}(ho:bc X (compareOp op) r) (nS:bc X (compareOp dq) r') (ha:PE X a ta) (hb:PE X b tb) (hc:PE X c tc)
 (hm:lastMarks [op,dq] [b,c]=af:=by with_unfolding_all rfl):PE X (.Compare a [op,dq] [b,c] pos) (X7 r r' ta tb tc):=by
 intro pins s σ H Q I h;refine Compare_chain (tE zag λv s1 x H1 I1 r1 q1=>chain_link<|tE (hb pins s1 σ H1 _ I1 q1) λu s2 y H2 I2 r2 q2=>tE (ho pins s2 σ H2 x y v u _ I2 r1 r2 q2) λd s3 z H3 I3 r3 hh=>?_) hm;let#[k,e,q3]:=hh;subst e;cases r3;refine qt ?_;cases k with
 |false=>show ite_ff #[.bl af,H3,I3,rfl,q3]
 |true=>show ite_tt<|chain_last<|tE (hc pins s3 σ H3 _ I3 q3) λw' s4 z' H4 I4 r4 q4=>nS pins s4 σ H4 y z' u w' Q I4 r2 r4 q4
theorem LP {dq:CmpOp}{r r':R2}(ho:bc X (compareOp op) r) (nS:bc X (compareOp dq) r') (ha:PE X a ta) (hb:PE X b tb) (hc:PE X c tc)
 (hm:lastMarks [op,dq] [b,c]=af:=by with_unfolding_all rfl):PT X (.Compare a [op,dq] [b,c] pos) (acT<|X7 r r' ta tb tc):=by
 intro pins s σ H Q I h;refine isTrue_chain (tE zag λv s1 x H1 I1 r1 q1=>test_link<|tE (hb pins s1 σ H1 _ I1 q1) λu s2 y H2 I2 r2 q2=>tE (ho pins s2 σ H2 x y v u _ I2 r1 r2 q2) λd s3 z H3 I3 r3 hh=>?_) hm;let#[k,e,q3]:=hh;subst e;cases r3;refine qt ?_;cases k with
 |false=>
   let#[k',e',q']:=q3;cases e';show ite_ff #[H3,I3,q']
 |true=>
   refine ite_tt<|test_last<|tE (hc pins s3 σ H3 _ I3 q3) λw' s4 z' H4 I4 r4 q4=>tE (nS pins s4 σ H4 y z' u w' _ I4 r2 r4 q4) λd' s5 z2 H5 I5 r5 hh=>?_;let#[k2,e2,q5]:=hh;subst e2;cases r5;show qt #[H5,I5,q5]
theorem yb:(sizeLine:Nat)<2 ^ 63:=by decide
theorem Ft:bc X (binaryOp .Add) (λx y H Q=>∃ i j,x=.str i /\ y=.str j /\ i.length+j.length<=sizeLine /\ Q (.str<|i++j) H):=by
 intro pins s σ H x y v u Q I rx ry h;let#[i,j,rfl,rfl,hz,q]:=h;let#[t,rfl]:=rx;let#[t',rfl]:=ry;show add_str (λt' tk=>#[.str _,H,I.tok _,#[_,rfl],q]) hz
theorem vals1 {x:V}(r:Vals [x] us):∃ u,us=[u] /\ RelV x u:=by
 cases r with
 |cons r1 r2=>cases r2;show#[_,rfl,r1]
theorem vals2 {x y:V}(r:Vals [x,y] us):∃ u w',us=[u,w'] /\ RelV x u /\ RelV y w':=by
 cases r with
 |cons r1 r2=>
   cases r2 with
   |cons r3 r4=>cases r4;show#[_,_,rfl,r1,r3]
theorem Jy (hc:X.calm=ag):kA X (.builtin "max") (λxs H Q=>∃ i j,xs=[.int i,.int j] /\ Q (.int (if j>i then j else i)) H):=by
 intro pins s σ H xs us Q I r h;let#[i,j,rfl,q]:=h;let#[u,w',rfl,#[t,rfl],#[t',rfl]]:=vals2 r;refine max_two_ints (I.ok.hd hc) λh' tk k=>#[_,H,I.kept k,?_,q];by_cases hj:j>i
 .rw[if_pos hj,if_pos hj];show#[_,rfl]
 .rw[if_neg hj,if_neg hj];show#[_,rfl]
theorem Jz (hc:X.calm=ag):kA X (.builtin "min") (λxs H Q=>∃ i j,xs=[.int i,.int j] /\ Q (.int (if j<i then j else i)) H):=by
 intro pins s σ H xs us Q I r h;let#[i,j,rfl,q]:=h;let#[u,w',rfl,#[t,rfl],#[t',rfl]]:=vals2 r;refine min_two_ints (I.ok.hd hc) λh' tk k=>#[_,H,I.kept k,?_,q];by_cases hj:j<i
 .rw[if_pos hj,if_pos hj];show#[_,rfl]
 .rw[if_neg hj,if_neg hj];show#[_,rfl]
end
structure wo (h:aE) (x dx C:ai) (mA:Str->Option aj):zk where
 obj:h.get? x=ae (PySem.W.instObj C dx)
 ns:h.Ns1 dx mA
 ne:dx≠x
theorem JA {h:aE}{dx:ai}(n:h.Ns1 dx mA):∃ od,h.get? dx=ae od /\ ∀ name,PySem.W.lookIn name od=ae (mA name):=by
 let#[o,es,ep,ho,hd,hk,_,hm]:=n;refine#[o,ho,λname=>?_];have e:=hm name;unfold nsFind findBy at e;rw[<-Array.find?_toList]at e;unfold PySem.W.lookIn;rw[hd];dsimp only;split
 .ext y q;rw[q]at e;show congrArg ae e
 .ext q;rw[q]at e;have a:es.toList.any (·.refKey)=af:=by
   rw[Iq];intro y hy;let#[z,t,X8]:=hk y<|Array.mem_toList_iff.mp hy;simp[DictEntry.refKey,X8]
  rw[if_neg (by rw[a];show dG)];show congrArg ae e
theorem wo.look {h:aE}{x dx:ai}(I:wo h x dx C mA):∃ od,PySem.W.InstAt h x (PySem.W.instObj C dx) C (ae od) /\ ∀ name,PySem.W.lookIn name od=ae (mA name):=
 let ⟨od,ho,hl⟩:=JA I.ns
 #[od,#[I.obj,rfl,rfl,ho],hl]
section
variable {s:aq} {x dx:ai} {name:Str} {v:aj}
theorem OU {expr:Bool}(X:K.In s.heap) (I:wo s.heap x dx C mA) (hg:PySem.W.plainGet K C name=ag) (hh:PySem.W.hasDictIn K C=ag)
 (ha:PySem.W.findIn K zaa name=ae ah) (hv:mA name=ae v) (EJ:PySem.W.handedIn v=ag) (h:Q v { s with toks:=s.toks+1 }) :
 wpAny zf A (getAttr (.ref x) name expr) Q E s:=by
 let#[od,J,hl]:=I.look;show PySem.W.get_value X J (Xu hg).1 (PySem.W.findObj_own hh ha zj (by rw[hl,hv])) EJ h
theorem LQ {pl:Sem Bool}{Q:aj×List aj->aq->zk}(X:K.In s.heap) (I:wo s.heap x dx C mA) (hg:PySem.W.plainGet K C name=ag)
 (hf:PySem.W.findIn K zaa name=ae (ae<|.ref f)) (ht:PySem.W.isFn K (.ref f)=ag) (hv:mA name=ah) (h:Q (.ref f,[.ref x]) s) :
 wpAny zf A (getMethod (.ref x) name pl) Q E s:=by
 let#[od,J,hl]:=I.look;show PySem.W.method_fn X J (Xu hg).1 (Xu hg).2 hf (beq_iff_eq.mp ht) (by change (PySem.W.lookIn name od).map _=ae af;rw[hl,hv];rfl) h
theorem OV {ns:List Str}{Q:Unit->aq->zk}(X:K.In s.heap) (I:wo s.heap x dx C mA)
 (hs:PySem.W.findIn K zaa "__setattr__"=ae (ae<|.builtin "object.__setattr__")) (hp:PySem.W.plainOver K C=ag) (ht:PySem.W.takerIn K C name=ae ah) (hh:PySem.W.hasDictIn K C=ag)
 (hw:PySem.Within mA ns) (hsz:ns.length<=sizeLine)
 (h:∀ h',wo h' x dx C (λy=>if y=name then ae v else mA y)->Heap.SameBut dx s.heap h'->Q () { s with heap:=h',toks:=s.toks+2 }) :
 wpAny zf A (setAttr (.ref x) name v) Q E s:=by
 let#[od,J,hl]:=I.look;refine PySem.W.set_plain X J hs<|PySem.W.osa_open X J hp ht λb=>?_;let#[cd,hc,XR]:=PySem.W.any_some hh;refine ak<|ay<|ak<|ak<|aaK I.obj<|ak<|PySem.W.Looks.here (PySem.W.looks_clsIn X hc) ?_;rw[XR];refine ay<|ak<|ay<|ak ?_;refine wpAny_nsSet1 I.ns λh' acU kB=>?_;let#[oD,akw,akx,agi,agj,uo]:=acU.count<|PySem.Within.cons name v hw;show ak<|wpAny_lookBehind agi (by rw[agj];show pastItsLine_dict (dF uo (by rw[bw];lia)))<|ay<|h _ #[(kB.2 _<|Ne.symm I.ne).trans I.obj,acU,I.ne] kB
theorem LR (X:K.In s.heap) (hm:PySem.W.makesIn K C=ag)
 (hi:PySem.W.findIn K zaa "__init__"=ae (ae<|.ref f)) (hf:PySem.W.typeIn K (.ref f)=ae (.type "function"))
 (h:codeAny zf (A.under<|.builtin "type.__call__" #[.ref C::vs,kw]) (.call (.ref f) #[.ref zF::vs,kw]) (PySem.W.InitBack zF R)
  { s with heap:=(s.heap.push PySem.W.emptyDict).push (PySem.W.instObj C s.heap.objs.size) }) :
 codeAny zf A (.call zaa #[vs,kw]) R s:=PySem.W.make_core (PySem.W.makes_of X hm) (PySem.W.looks_findIn X hi) (λself=>PySem.W.bind_fn X self hf) (.inl zj) h
end
noncomputable def kK (f:Str) (v:V):List (Str×V)->List (Str×V)
 |[]=>[(f,v)]
 |(g,x)::r=>if g=f then (g,v)::r else (g,x)::kK f v r
theorem oZ (f g:Str) (v:V):∀ fs:List (Str×V),(kK f v fs).lookup g=if g=f then ae v else fs.lookup g
 | []=>by
   change List.lookup g [(f,v)]=_;by_cases h:g=f
   .simp[List.lookup,(beq_iff_eq.mpr h),if_pos h]
   .simp[List.lookup,(beq_eq_false_iff_ne.mpr h),if_neg h]
 | (k,x)::r=>by
   rw[show kK f v ((k,x)::r)=(if k=f then (k,v)::r else (k,x)::kK f v r) from rfl];by_cases hk:k=f
   .rw[if_pos hk];by_cases h:g=k
    .simp[List.lookup,(beq_iff_eq.mpr h),if_pos<|h.trans hk]
    .simp[List.lookup,(beq_eq_false_iff_ne.mpr h),if_neg λe:g=f=>h<|e.trans hk.symm]
   .rw[if_neg hk];by_cases h:g=k
    .simp[List.lookup,(beq_iff_eq.mpr h),if_neg λe:g=f=>hk<|h.symm.trans e]
    .simp[List.lookup,(beq_eq_false_iff_ne.mpr h)];show(oZ f g v r)
theorem oM (f:Str) (v:V):∀ fs:List (Str×V),f∈(kK f v fs).map (·.1) /\ ∀ g,g∈fs.map (·.1)->g∈(kK f v fs).map (·.1)
 |[]=>#[by simp[kK],λg h=>by simp at h]
 | (k,x)::r=>by
   let#[i1,i2]:=oM f v r;rw[show kK f v _=(if k=f then (k,v)::r else (k,x)::kK f v r) from rfl];by_cases hk:k=f
   .subst hk;show#[by simp,λg h=>by simpa using h]
   .rw[if_neg hk];refine#[(bG _ i1),λg h=>?_]
    .rcases bz.mp h with e|e
     .show bz.mpr<|.inl e
     .show bG _<|i2 g e
theorem o7 (f:Str) (v:V):∀ fs:List (Str×V),(kK f v fs).length<=fs.length+1
 |[]=>by simp[kK]
 | (k,x)::r=>by
   have ih:=o7 f v r;rw[show kK f v _=(if k=f then (k,v)::r else (k,x)::kK f v r) from rfl];by_cases hk:k=f
   .rw[if_pos hk,bw,bw];lia
   .rw[if_neg hk,bw,bw];lia
theorem k6.some_of {o:Option aj}(r:k6 (ae v) o):∃ u,o=ae u /\ RelV v u:=by
 cases o with
 |none=>show(r).elim
 |some u=>show#[u,rfl,r]
theorem k6.none_of {o:Option aj}(r:k6 ah o):o=ah:=by
 cases o with
 |none=>rfl
 |some u=>show(r).elim
theorem JB (r:RelV v u):PySem.W.handedIn u=ag:=by
 cases v with
 |aB=>cases (r);rfl
 |bl b=>cases (r);rfl
 |int i=>let#[t,e]:=(r);cases e;rfl
 |str x=>let#[t,e]:=(r);cases e;rfl
 |nQ b=>let#[t,e]:=(r);cases e;rfl
 |sJ b=>let#[t,e]:=(r);cases e;rfl
 |ref a=>cases (r);rfl
 |ty n=>cases (r);rfl
section
variable {h:aE} {dx:ai} {fs afQ:List (Str × V)}
theorem As (aF:cH P w H h) (e:H a=ae (.ins C dx fs)):∃ mA,wo h a dx C mA /\ (∀ f,k6 (fs.lookup f)<|mA f) /\ PySem.Within mA (fs.map (·.1)) /\ fs.length<=1000 /\ H dx=ae (.own a):=by
 let#[d,z,ne,ob,mA,n,r,q]:=(aF a _ e);show#[mA,#[ob,n,ne],r,q,z,d]
end
structure kL (K:PySem.W.Frag) (C:ai):zk where
 pg:PySem.W.plainGet K C Str.empty=ag
 hd:PySem.W.hasDictIn K C=ag
 po:PySem.W.plainOver K C=ag
 sa:PySem.W.findIn K zaa "__setattr__"=ae (ae<|.builtin "object.__setattr__")
theorem kL.get (c:kL K C) (f:Str):PySem.W.plainGet K C f=ag:=c.pg
def rm (K:PySem.W.Frag) (C:ai) (f:Str):zk:=PySem.W.findIn K zaa f=ae ah
theorem rm.agk {f:Str}(n:rm K C f):PySem.W.takerIn K C f=ae ah:=by
 unfold PySem.W.takerIn;rw[n];rfl
structure Meth (K:PySem.W.Frag) (C:ai) (m:Str) (f:ai):zk where
 at_:PySem.W.findIn K zaa m=ae (ae<|.ref f)
 fn:PySem.W.isFn K (.ref f)=ag
 kp:PySem.W.keepIn K (.ref f)=ag
section
variable {s:aq} {dx:ai} {fs:List (Str × V)} {f:Str} 
theorem Fv {b:Bool}(I:Inv X pins σ H s) (e:H a=ae (.ins C dx fs)) (c:kL X.K C) (n:rm X.K C f) (l:fs.lookup f=ae v)
 (h:∀ u s',Inv X pins σ H s'->RelV v u->Q u s'):wpAny ze A (getAttr zaf f b) Q E s:=by
 let#[mA,O,r,_,_,_]:=As I.aF e;let#[u,hu,ru]:=k6.some_of (by rw[<-l];show r f);show OU I.cY O (c.get f) c.hd n hu (JB ru)<|h u _ (I.tok _) ru
theorem AO {m:Str}{g:ai}{pl:Sem Bool}{Q:aj×List aj->aq->zk}(I:Inv X pins σ H s) (e:H a=ae (.ins C dx fs)) (c:kL X.K C) (k:Meth X.K C m g) (l:fs.lookup m=ah)
 (h:Q (.ref g,[.ref a]) s):wpAny ze A (getMethod zaf m pl) Q E s:=by
 let#[mA,O,r,_,_,_]:=As I.aF e;show LQ I.cY O (c.get m) k.at_ k.fn (k6.none_of (by rw[<-l];show r m)) h
theorem Fw {y:V}{Q:Unit->aq->zk}(I:Inv X pins σ H s) (e:H a=ae (.ins C dx fs)) (c:kL X.K C) (n:rm X.K C f) (hl:fs.length<1000) (ry:RelV y u)
 (h:∀ s',Inv X pins σ (upd H a<|.ins C dx<|kK f y fs) s'->Q () s'):wpAny ze A (setAttr zaf f u) Q E s:=by
 let#[mA,O,r,wi,_,ho]:=As I.aF e;refine OV I.cY O c.sa c.po n.agk c.hd wi (by rw[a8,bC];lia) λh' O' sb=>h _ ?_;refine I.write (by rw[e];show True.intro) (.inr ho) (λb q hb z=>(sb.2 b hb).trans z) (let ⟨o,_,_,e',_⟩:=O'.ns;#[o,e']) ?_;refine#[by rw[fu O.ne];show ho,?_,O.ne,O'.obj,_,O'.ns,λg=>?_,λg hg=>?_]
 .have:=o7 f y fs;lia
 .rw[oZ];by_cases q:g=f
  .rw[if_pos q,if_pos q];show ry
  .rw[if_neg q,if_neg q];show r g
 .by_cases q:g=f
  .rw[q];show(oM f y fs).1
  .refine(oM f y fs).2 g (wi g λz=>hg ?_);change (if g=f then ae u else mA g)=ah;rw[if_neg q];show z
theorem Inv.made (I:Inv X pins σ H s):Inv X pins σ (upd (upd H s.heap.objs.size<|.own zF) zF<|.ins C s.heap.objs.size [])
 { s with heap:=(s.heap.push PySem.W.emptyDict).push (PySem.W.instObj C s.heap.objs.size) }:=by
 have e1:(s.heap.push PySem.W.emptyDict).get? s.heap.objs.size=ae PySem.W.emptyDict:=bA s.heap zj;have e2:((s.heap.push PySem.W.emptyDict).push<|PySem.W.instObj C s.heap.objs.size).get? zF=ae (PySem.W.instObj C s.heap.objs.size):=by
  have:=bA (s.heap.push PySem.W.emptyDict) (o:=PySem.W.instObj C s.heap.objs.size) zj
  rwa [qT]at this
 refine(I.laid (o:=.own _) (t':=s.toks) (λb u q=>aS _ q) (aH _) #[_,e1]).laid (λb u q=>aS _ q) (vT<|qT _ _) ?_;have ne:s.heap.objs.size≠s.heap.objs.size+1:=bJ<|sr _;refine#[by rw[fu ne,fv],dR _,ne,e2,λ_=>ah,(afE #[PySem.W.emptyDict,#[],_,e1,rfl,(λe he=>absurd he zg),λ_=>rfl]).at λo q=>aS _ q,λ_=>True.intro,λy hy=>absurd rfl hy]
theorem OW {env:Env}{f:Str}{s:aq}(hb:attributeBase e f env (eval e env)=eval e env)
 (h:wpAny zf A (eval e env) (λo s₁=>wpAny zf A (getAttr o f ag) Q E s₁) E s):wpAny zf A (eval (.Attribute e f pos) env) Q E s:=
 Attribute_any_ h (by rw[arm_eval_Attribute,hb])
end
def agl (K:PySem.W.Frag) (ta:TE) (f:Str):TE:=λσ H Q=>ta σ H λx H1=>∃ a C dx fs v,x=.ref a /\ H1 a=ae (.ins C dx fs) /\ kL K C /\ rm K C f /\ fs.lookup f=ae v /\ Q v H1
def agm (K:PySem.W.Frag) (ta tv:TE) (f:Str):TS:=λD σ H=>tv σ H λy H1=>ta σ H1 λx H2=>∃ a C dx fs,x=.ref a /\ H2 a=ae (.ins C dx fs) /\ kL K C /\ rm K C f /\ fs.length<1000 /\
 D.nx σ (upd H2 a<|.ins C dx<|kK f y fs)
section
variable {o value:au} {f:Str} {Kj:aK} {ta tv:TE}
theorem T3 (he:PE X e ta) (hb:attributeBase e f X.env (eval e X.env)=eval e X.env):PE X (.Attribute e f pos) (agl X.K ta f):=by
 intro pins s σ H Q I h;refine OW hb<|tE (he pins s σ H _ I h) λu s1 x H1 I1 rx hh=>?_;let#[a,C,dx,fs,v,ex,ea,c,n,l,q]:=hh;subst ex;obtain rfl:u=Value.ref a:=rx;show Fv I1 ea c n l λu' s2 I2 ru=>#[v,H1,I2,ru,q]
theorem LS (ha:PE X o ta) (hv:PE X value tv) (hs:swapsWith value (ae<|.Attribute o f pos') pos.line X.env=pure af):PS X (.Assign [.Attribute o f pos'] value pos) (agm X.K ta tv f):=by
 intro pins s σ H D I h;refine plainObj_wpAny_Assign_Attribute (tE (hv pins s σ H _ I h) λu s1 y H1 I1 ry q=>tE (ha pins s1 σ H1 _ I1 q) λov s2 x H2 I2 rx hh=>?_) hs;let#[a,C,dx,fs,ex,ea,c,n,l,q2]:=hh;subst ex;obtain rfl:ov=Value.ref a:=rx;show Fw I2 ea c n l ry λs3 I3=>#[σ,_,I3,q2]
end
section
variable {s:aq} {c:aj} {b:Bool}
inductive pG (K:PySem.W.Frag) (H:Hp):V->aj->zk where
 |aB:pG K H .aB (.type "NoneType")
 |bl (x:Bool):pG K H (.bl x) (.type "bool")
 |int (i:Int):pG K H (.int i) (.type "int")
 |str (x:Str):pG K H (.str x) (.type "str")
 |sJ (x:UInt64):pG K H (.sJ x) (.type "float")
 |lst {a:ai}{xs:List V}(e:H a=ae (.lst xs)):pG K H zaf (.type "list")
 |bF {a:ai}{o:aV}{xs:List V}(e:H a=ae (.bF o<|.lst xs)):pG K H zaf (.type "list")
 |tup {a:ai}{xs:List V}(e:H a=ae (.tup xs)):pG K H zaf (.type "tuple")
 |dK {a:ai}{ao:List (Key×V)}(e:H a=ae (.dK ao)):pG K H zaf (.type "dict")
 |dT {a:ai}{ao:List (List Key×V)}(e:H a=ae (.dT ao)):pG K H zaf (.type "dict")
 |ins {a C dx:ai}{fs:List (Str×V)}(e:H a=ae (.ins C dx fs)) (cl:kL K C) (ha:PySem.W.findIn K zaa "__class__"=ae (ae zao))
  (hn:PySem.W.specialIn K zao "__get__"=ae (ae<|.builtin "getset_descriptor.__get__")) (acV:PySem.W.takesIn K zao=ae ag)
  (hm:PySem.W.mroIn K C (.type "object")=ae ag):pG K H zaf zaa
theorem JC {x:V}{t:aj}(I:Inv X pins σ H s) (rx:RelV x u) (ty:pG X.K H x t) (e:PySem.W.kitOne X.K t c=ae b) (h:∀ tk,Q (.bool b) { s with toks:=tk }) :
 wpAny ze A (call (.builtin "isinstance") [u,c]) Q E s:=by
 cases ty with
 |aB=>cases (rx);show qx PySem.W.kitx_none I.cY True.intro e (λz=>nomatch z) h
 |bl y=>cases (rx);show qx PySem.W.kitx_bool I.cY True.intro e (λz=>nomatch z) h
 |int i=>let#[t,q]:=(rx);cases q;show qx PySem.W.kitx_int I.cY True.intro e (λz=>nomatch z) h
 |str y=>let#[t,q]:=(rx);cases q;show qx PySem.W.kitx_str I.cY True.intro e (λz=>nomatch z) h
 |sJ y=>let#[t,q]:=(rx);cases q;show qx PySem.W.kitx_float I.cY True.intro e (λz=>nomatch z) h
 |@lst a xs ea=>
   cases (rx);let#[_,_,n,_,h1]:=(I.aF a _ ea);show qx ab3 I.cY #[_,h1,rfl] e (λz=>nomatch z) h
 |@bF a ob xs ea=>
   cases (rx);let#[_,_,_,n,_,h1]:=(I.aF a _ ea);show qx ab3 I.cY #[_,h1,rfl] e (λz=>nomatch z) h
 |@tup a xs ea=>
   cases (rx);let#[_,_,_,p]:=(I.aF a _ ea);let#[o,h1,h2,_]:=p;show qx PySem.W.kitx_tuple I.cY #[o,h1,h2] e (λz=>nomatch z) h
 |@dK a ao ea=>
   cases (rx);let#[_,_,vs,_,p]:=(I.aF a _ ea);let#[o,es,ep,h1,h2,_]:=p;show qx ab4 I.cY #[o,h1,h2.1] e (λz=>nomatch z) h
 |@dT a ao ea=>
   cases (rx);let#[_,_,xs,_,o,es,ep,h1,h2,_]:=(I.aF a _ ea);show qx ab4 I.cY #[o,h1,h2.1] e (λz=>nomatch z) h
 |@ins a C dx fs ea cl ha hn acV hm=>
   cases (rx);let#[mA,O,_]:=As I.aF ea;let#[od,J,_]:=O.look;show qx (PySem.W.kitx_own (cl.get _) cl.hd ha hn acV hm) I.cY J e (λz=>nomatch z) h
end
structure cg (k:Nat) (A:cE):zk where
 hd:A.handled=ah
 dp:A.depth+3*k+5<recursionLimit
 un:A.units+16*k+200<cLine
 gd:A.guards=ae []
theorem cg.mono {k:Nat}(r:cg k A) (h:j<=k):cg j A:=#[r.hd,by have:=r.dp;lia,by have:=r.un;lia,r.gd]
theorem cg.deeper {k:Nat}{A:cE}(r:cg (k+1) A) (env:Env):cg k (A.deeper env):=
 #[r.hd,by have:=r.dp;change A.depth+1+3*k+5<_;lia,by have:=r.un;change A.units+3+16*k+200<_;lia,by first|show r.gd|(first|rfl|simp[guardIds])]
theorem Fx:(A.under<|.builtin "type.__call__" #[.ref C::us,kw]).depth=A.depth+1:=by
 first|rfl|simp[guardIds]
theorem Fy:(A.under<|.builtin "type.__call__" #[.ref C::us,kw]).units=A.units+1:=by
 first|rfl|simp[Code.isFrame]
theorem cg.make {k:Nat}(r:cg (k+1) A) (C:ai) (us:List aj) (kw:List<|Str×aj):cg k (A.under<|.builtin "type.__call__" #[.ref C::us,kw]):=
 #[r.hd,by have:=r.dp;rw[Fx];lia,by have:=r.un;rw[Fy];lia,by first|show r.gd|(first|rfl|simp[guardIds])]
theorem cg.depth {k:Nat}{A:cE}(r:cg k A):A.depth<recursionLimit:=by have:=r.dp;lia
def EK:TA:=λ_ H Q=>Q [] H
def Kk (ta:TE) (tr:TA):TA:=λσ H Q=>ta σ H λx H1=>tr σ H1 λxs H2=>Q (x::xs) H2
section
variable {te:TE} {t:TA} 
theorem fR:PA X [] EK:=λ_ _ _ _ H Q I h=>EB #[[],H,I,.nil,h]
theorem fw (ha:PE X e te) (hr:PA X es t) (hs:starEach (e::es) X.env=zae::starEach es X.env:=by rfl):PA X (e::es) (Kk te t):=by
 intro pos pins s σ H Q I h;rw[hs];change wpAny _ _ (spliced (zae::backTo pos _)) _ _ s;show EC<|tE zag λu s1 x H1 I1 r1 q1=>(tA (hr pos pins s1 σ H1 _ I1 q1) λus s2 xs H2 I2 r2 q2=>#[x::xs,H2,I2,.cons r1 r2,q2])
def agn (t:TA):TE:=λσ H Q=>t σ H λxs H1=>xs.length<=sizeLine /\ ∀ p,H1 p=ah->Q (.ref p) (upd H1 p<|.tup xs)
def ago (t:TA):TE:=λσ H Q=>t σ H λxs H1=>xs.length<=sizeLine /\ ∀ p,H1 p=ah->Q (.ref p) (upd H1 p<|.lst xs)
theorem LU {x1}(h:PA X es t):PE X (.Tuple es x1 pos) (agn t):=by
 intro pins s σ H Q I hq;show wpAny_Tuple_spliced (tA (h pos pins s σ H _ I hq) λus s1 xs H1 I1 r ⟨z,q⟩=>#[by rw[<-r.length];show z,(#[.ref s1.heap.objs.size,upd H1 s1.heap.objs.size<|.tup xs,I1.laid (λb u e=>aS _ e) (aH _)<|#[z,us,r,#[_,bA _ zj,rfl,_,rfl]],rfl,q _<|I1.aF.fresh<|aH _])])
theorem lC (h:PA X es t):PE X (.List es pos) (ago t):=by
 intro pins s σ H Q I hq;show wpAny_List_spliced (tA (h pos pins s σ H _ I hq) λus s1 xs H1 I1 r ⟨z,q⟩=>#[by rw[<-r.length];show z,(#[.ref s1.heap.objs.size,upd H1 s1.heap.objs.size<|.lst xs,I1.laid (λb u e=>aS _ e) (aH _)<|#[z,us,0,r,bA _ zj],rfl,q _<|I1.aF.fresh<|aH _])])
end
abbrev Sp:=List V->Hp->VK->XK->zk
abbrev pH:=List Env->Hp->aq->XK->aj->aq->zk
structure wq (P:cG) (w:bH) (K:PySem.W.Frag) (mg:Str->Option aj) (base:aE) (A:cE) (outer:List Env) (s:aq) (H:Hp):zk where
 frames:A.frames=ae outer
 mod:Mod K mg base
 bs:∀ b o,base.get? b=ae o->s.heap.get? b=ae o /\ H b=ah
 sM:base.objs.size<=s.heap.objs.size
 k8:s.heap.FunFrames base outer
 rh:∀ b∈kz outer,H b=ah
 aF:cH P w H s.heap
 bare:AllBare s.gens
def CE (outer:List Env) (P:cG) (w:bH) (H:Hp) (s:aq) (Q:VK) (u:aj) (s':aq):zk:=
 ∃ v H',s'.os=s.os /\ AllBare s'.gens /\ Un (kz outer) [] H H' s.heap s'.heap /\ cH P w H' s'.heap /\ RelV v u /\ Q v H'
def CR (CX:pH) (outer:List Env) (P:cG) (w:bH) (H:Hp) (s:aq) (Q:VK) (E:XK) (r:Result) (s':aq):zk:=
 match r with
 |.ok (.ret u)=>CE outer P w H s Q u s'
 |.ok _=>False
 |.error e=>CX outer H s E e s'
structure cZ (P:cG) (w:bH) (K:PySem.W.Frag) (mg:Str->Option aj) (base:aE) (CX:pH) (k:Nat) (f:ai) (fd:FuncData) (ps:List Str) (sp:Sp):zk where
 len:∀ vs H Q E,sp vs H Q E->vs.length=ps.length
 run:∀ (A:cE) (outer:List Env) (s:aq) (H:Hp) (args:Args) (us:List aj) (vs:List V) (Q:VK) (E:XK),cg k A->wq P w K mg base A outer s H->BindsTo s fd args (ps.zip us)->Vals vs us->sp vs H Q E ->
  codeAny (model P w) A (.call (.ref f) args) (CR CX outer P w H s Q E) s
theorem cZ.mono {P:cG}{w:bH}{K:PySem.W.Frag}{mg:Str->Option aj}{base:aE}{CX:pH}{j k:Nat}{f:ai}{fd:FuncData}{ps:List Str}{sp:Sp}(F:cZ P w K mg base CX j f fd ps sp) (h:j<=k) :
 cZ P w K mg base CX k f fd ps sp:=#[F.len,λA outer s H args us vs Q E hr=>F.run A outer s H args us vs Q E<|hr.mono h]
theorem wq.make {s:aq}(e:wq P w K mg base A outer s H) (C:ai) (us:List aj) (kw:List<|Str×aj) :
 wq P w K mg base (A.under<|.builtin "type.__call__" #[.ref C::us,kw]) outer s H:=#[by first|show e.frames|(simpa[pushEnvs] using e.frames),e.mod,e.bs,e.sM,e.k8,e.rh,e.aF,e.bare]
section
variable {s s':aq}
theorem Inv.X9 (I:Inv X pins σ H s):wq X.prog X.w X.K X.mg X.base X.A X.stack s H:=
 #[I.ok.frames,I.ok.mod,I.bs,dF I.ok.sM I.sz,I.stack,I.XS,I.aF,I.bare]
theorem Inv.after {Q:VK}(I:Inv X pins σ H s) (h:CE X.stack X.prog X.w H s Q u s'):EP X pins σ Q u s':=by
 let#[v,H',os,bare,un,aF,r,q]:=h;let#[hh,g,d,t,YT]:=s';obtain rfl:YT=s.os:=os;show#[v,H',I.call un aF bare λb z=>absurd z zg,r,q]
end
def YU (sp:Sp) (ez:List V) (E:XK) (t:TA):TE:=λσ H Q=>t σ H λvs H1=>sp (vs++ez) H1 Q E
def YV (C:ai) (m:Str) (sp:Sp) (ez:List V) (E:XK) (ta:TE) (t:TA):TE:=λσ H Q=>ta σ H λx H1=>∃ a dx fs,x=.ref a /\ H1 a=ae (.ins C dx fs) /\ fs.lookup m=ah /\
 t σ H1 λvs H2=>sp (x::(vs++ez)) H2 Q E
def agp (C:ai) (sp:Sp) (ez:List V) (E:XK) (t:TA):TE:=λσ H Q=>t σ H λvs H1=>∀ x dx,H1 x=ah->H1 dx=ah->dx≠x ->
 sp (.ref x::(vs++ez)) (upd (upd H1 dx<|.own x) x<|.ins C dx []) (λv H2=>v=.aB /\ Q (.ref x) H2) E
def Binds (K:PySem.W.Frag) (fd:FuncData) (ps:List Str) (ds:List aj):zk:=
 ∀ (s:aq) (us:List aj),K.In s.heap->(us++ds).length=ps.length->BindsTo s fd #[us,[]] (ps.zip<|us++ds)
theorem Binds.all {ps:List Str}(h:∀ us:List aj,us.length=ps.length->bindArgs fd #[us,[]]=pure (ps.zip us)):Binds K fd ps []:=λs us _ hl=>by
 rw[qv]at hl ⊢;show .of_eq<|h us hl
def Passes (CX:pH) (X:Cx) (E:XK):zk:=∀ (pins:List<|ai×aV) (σ:St) (H:Hp) (s:aq) (e:aj) (s':aq),Inv X pins σ H s->CX X.stack H s E e s'->X.xe e s'
section
variable {CX:pH} {k:Nat} {ps:List Str} {sp:Sp} {ez:List V} {ds:List aj} {E:XK} {m:Str} {p:aK} {o:au} {ta:TE} {t:TA}
theorem Fz {s:aq}{Q:VK}{vs:List V}(F:cZ X.prog X.w X.K X.mg X.base CX k f fd ps sp) (hr:cg k X.A) (hb:Binds X.K fd ps ds) (hd:Vals ez ds) (hx:Passes CX X E)
 (I:Inv X pins σ H s) (r:Vals vs us) (h:sp (vs++ez) H Q E):wpAny ze X.A (call (.ref f) us) (EP X pins σ Q) X.xe s:=by
 have r2:=r.append hd;refine Ie<|uV (F.run X.A X.stack s H _ _ _ Q E hr I.X9 (hb s us I.cY (by rw[<-r2.length];show F.len _ _ _ _ h)) r2 h) λr s' hq=>?_;cases r with
 |error e=>show hx pins σ H s e s' I hq
 |ok fl=>
   cases fl with
   |ret u=>show I.after hq
   |_=>show False.elim hq
theorem OX (F:cZ X.prog X.w X.K X.mg X.base CX k f fd ps sp) (hr:cg k X.A) (hg:Gl X x) (hm:X.mg x=ae (.ref f)) (hk:PySem.W.keepIn X.K (.ref f)=ag) (hb:Binds X.K fd ps ds) (hd:Vals ez ds) (hx:Passes CX X E)
 (ha:PA X (e::es) t) (dg:(x==("__debug__":Str))=af:=by decide) (he:starEach (e::es) X.env=zae::starEach es X.env:=by rfl) (eA:(backTo pos<|starEach es X.env).any (·.1)=af:=by rfl) :
 PE X zJ (YU sp ez E t):=by
 intro pins s σ H Q I h;show sk<|mX I hg hm (IW I.ok.mod.vc hk (tA (ha pos pins s σ H _ I h) λus s1 vs H1 I1 r q=>#[I1.cY,(Fz F hr hb hd hx I1 r q)]) he eA) dg
theorem OY {pl:Sem Bool}(he:PE X o ta) (c:kL X.K C) (hm:Meth X.K C m f) (F:cZ X.prog X.w X.K X.mg X.base CX k f fd ps sp) (hr:cg k X.A) (hb:Binds X.K fd ps ds) (hd:Vals ez ds) (hx:Passes CX X E) (ha:PA X (e::es) t)
 (pD:starEach (e::es) X.env=zae::starEach es X.env:=by rfl) (eA:(backTo pos<|starEach es X.env).any (·.1)=af:=by rfl)
 (ht:eval (.Call (.Attribute o m apos) (e::es) [] pos) X.env=(do
  let ov <-eval o X.env
  standAt apos.atName
  let (f,first) <-holding [ov] (getMethod ov m pl)
  callWith pos f first (backTo pos<|starEach (e::es) X.env) (backToKw pos<|keywordEach [] X.env)):=by rfl) :
 PE X (.Call (.Attribute o m apos) (e::es) [] pos) (YV C m sp ez E ta t):=by
 intro pins s σ H Q I h;refine ab5 (tE (he pins s σ H _ I h) λu s1 x H1 I1 rx hh=>?_) ht;let#[a,dx,fs,ex,ea,l,q]:=hh;subst ex;obtain rfl:u=Value.ref a:=rx;show AO I1 ea c hm l<|IW I.ok.mod.vc hm.kp (tA (ha pos pins s1 σ H1 _ I1 q) λus s2 vs H2 I2 r q2=>#[I2.cY,(Fz (vs:=.ref a::vs) F hr hb hd hx I2 (.cons zj r) q2)]) pD eA
theorem LV {pl:Sem Bool}(he:PE X o ta) (c:kL X.K C) (hm:Meth X.K C m f) (F:cZ X.prog X.w X.K X.mg X.base CX k f fd ps sp) (hr:cg k X.A) (hb:Binds X.K fd ps ds) (hd:Vals ez ds) (hx:Passes CX X E)
 (ht:eval (.Call (.Attribute o m apos) [] [] pos) X.env=(do
  let ov <-eval o X.env
  standAt apos.atName
  let (f,first) <-holding [ov] (getMethod ov m pl)
  callWith pos f first (backTo pos<|starEach [] X.env) (backToKw pos<|keywordEach [] X.env)):=by rfl) :
 PE X (.Call (.Attribute o m apos) [] [] pos) (YV C m sp ez E ta EK):=by
 intro pins s σ H Q I h;refine ab5 (tE (he pins s σ H _ I h) λu s1 x H1 I1 rx hh=>?_) ht;let#[a,dx,fs,ex,ea,l,q]:=hh;subst ex;obtain rfl:u=Value.ref a:=rx;show AO I1 ea c hm l<|PySem.W.callWith_K0 I1.cY hm.kp<|Fz (vs:=[.ref a]) F hr hb hd hx I1 (.cons zj .nil) q
structure Mk (K:PySem.W.Frag) (C f:ai):zk where
 makes:PySem.W.makesIn K C=ag
 init:PySem.W.findIn K zaa "__init__"=ae (ae<|.ref f)
 fn:PySem.W.isFn K (.ref f)=ag
 kp:PySem.W.keepIn K zaa=ag
theorem LW {s:aq}{Q:VK}{vs:List V}(M:Mk X.K C f) (F:cZ X.prog X.w X.K X.mg X.base CX k f fd ps sp) (hr:cg (k+1) X.A) (hb:Binds X.K fd ps ds) (hd:Vals ez ds)
 (hx:Passes CX X E) (I:Inv X pins σ H s) (r:Vals vs us)
 (h:∀ x dx,H x=ah->H dx=ah->dx≠x->sp (.ref x::(vs++ez)) (upd (upd H dx<|.own x) x<|.ins C dx []) (λv H2=>v=.aB /\ Q (.ref x) H2) E) :
 wpAny ze X.A (call zaa us) (EP X pins σ Q) X.xe s:=by
 have hq:=h _ s.heap.objs.size (I.aF.fresh<|sx _) (I.aF.fresh<|aH _)<|bJ<|sr _;have I2:=Inv.made (C:=C) I;have r2:Vals (V.ref zF::(vs++ez)) _:=.cons zj<|r.append hd;have hl:(Value.ref zF::us++ds).length=ps.length:=by
  have e:=r2.length;rw[F.len _ _ _ _ hq]at e;show e.symm
 refine Ie<|LR I.cY M.makes M.init (beq_iff_eq.mp M.fn)<|uV (F.run _ X.stack _ _ _ _ _ _ E (hr.make C us [])
  (I2.X9.make C us []) (hb _ _ I2.cY hl) r2 hq) λr s' EL=>?_
 cases r with
 |error e=>show hx pins σ _ _ e s' I2 EL
 |ok fl=>
   cases fl with
   |ret u=>
     let#[v,H',I3,rv,ev,q3]:=I2.after EL;subst ev;show#[rv,#[V.ref _,H',I3,rfl,q3]]
   |_=>show False.elim EL
theorem OZ (M:Mk X.K C f) (F:cZ X.prog X.w X.K X.mg X.base CX k f fd ps sp) (hr:cg (k+1) X.A) (hg:Gl X x) (hm:X.mg x=ae zaa) (hb:Binds X.K fd ps ds) (hd:Vals ez ds) (hx:Passes CX X E)
 (ha:PA X (e::es) t) (dg:(x==("__debug__":Str))=af:=by decide) (he:starEach (e::es) X.env=zae::starEach es X.env:=by rfl) (eA:(backTo pos<|starEach es X.env).any (·.1)=af:=by rfl) :
 PE X zJ (agp C sp ez E t):=by
 intro pins s σ H Q I h;show sk<|mX I hg hm (IW I.ok.mod.vc M.kp (tA (ha pos pins s σ H _ I h) λus s1 vs H1 I1 r q=>#[I1.cY,(LW M F hr hb hd hx I1 r q)]) he eA) dg
end
section
variable {CX:pH} {k:Nat} {ps ks:List Str} {sp:Sp} {E:XK} {m:Str} {p aky:aK} {o:au} {akz:List Keyword} {te ta:TE} {t tk:TA} {nm:Option Str}
variable {g:List aj -> List aj -> List aj} {gV:List V -> List V -> List V}
end
structure rn (N P:List Str) (sc:bK):zk where
 kind:sc.kind=.function
 co:sc.isCoroutine=af
 gen:sc.isGenerator=af
 nd:N.Nodup
 pre:N.take P.length=P
 par:∀ x∈P,sc.names.lookup x=ae .local \/ sc.names.lookup x=ae .cell
 agq:∀ y∈sc.names,y.2≠.free
theorem BU {kindOf:Str->Option NameKind}{x:Str}:∀ {binds:List (Str×aj)}{m:Str->Option aj},(∀ v,(x,v)∉binds)->bindL kindOf binds m x=m x
 |[],_,_=>rfl
 | (n,v)::r,m,h=>by
   unfold bindL;rw[BU λw hw=>h w<|bG _ hw];split
   .have:x≠n:=by rintro rfl;show h v bN
    simp[this]
   .rfl
theorem BV {kindOf:Str->Option NameKind}{x:Str}:∀ {binds:List (Str×aj)}{m:Str->Option aj},(∀ v,(x,v)∉binds)->bindC kindOf binds m x=m x
 |[],_,_=>rfl
 | (n,v)::r,m,h=>by
   unfold bindC;rw[BV λw hw=>h w<|bG _ hw];split
   .rfl
   .have:x≠n:=by rintro rfl;show h v bN
    simp[this]
theorem BW {kindOf:Str->Option NameKind}{x:Str}{v:aj}:∀ {P:List Str}{vs:List aj}{i:Nat}{m:Str->Option aj},P.Nodup->P[i]?=ae x->vs[i]?=ae v->kindOf x=ae .local ->
 bindL kindOf (P.zip vs) m x=ae v
 |[],_,_,_,_,h,_,_=>by simp at h
 |_::_,[],_,_,_,_,h,_=>by simp at h
 | p::P,w::vs,0,m,nd,h1,h2,hk=>by
   simp at h1 h2;subst h1;subst h2;change bindL kindOf ((p,w)::P.zip vs) m p=_;unfold bindL;rw[BU λv hv=>(uc.mp nd).1 (Ir hv).1,if_pos hk];simp
 | p::P,w::vs,i+1,m,nd,h1,h2,hk=>by
   unfold bindL;show BW (uc.mp nd).2 (by simpa using h1) (by simpa using h2) hk
theorem BX {kindOf:Str->Option NameKind}{x:Str}{v:aj}:∀ {P:List Str}{vs:List aj}{i:Nat}{m:Str->Option aj},P.Nodup->P[i]?=ae x->vs[i]?=ae v->kindOf x≠ae .local ->
 bindC kindOf (P.zip vs) m x=ae v
 |[],_,_,_,_,h,_,_=>by simp at h
 |_::_,[],_,_,_,_,h,_=>by simp at h
 | p::P,w::vs,0,m,nd,h1,h2,hk=>by
   simp at h1 h2;subst h1;subst h2;change bindC kindOf ((p,w)::P.zip vs) m p=_;unfold bindC;rw[BV λv hv=>(uc.mp nd).1 (Ir hv).1,if_neg hk];simp
 | p::P,w::vs,i+1,m,nd,h1,h2,hk=>by
   unfold bindC;show BX (uc.mp nd).2 (by simpa using h1) (by simpa using h2) hk
noncomputable def start (N:List Str) (vs:List V):St:=vs.map ae++List.replicate (N.length-vs.length) ah
noncomputable def qB (CX:pH) (P:cG) (w:bH) (K:PySem.W.Frag) (mg:Str->Option aj) (base:aE) (N:List Str) (qual:Str) (scope:bK) (f:ai) (cd:aj) (A:cE) (outer:List Env) (s:aq) (H:Hp) (E:XK):Cx where
 prog:=P
 w:=w
 K:=K
 mg:=mg
 base:=base
 A:=A.deeper<|envOfC qual scope s.heap.objs.size f cd
 N:=N
 s₀:=s
 H₀:=H
 env:=envOfC qual scope s.heap.objs.size f cd
 outer:=outer
 stack:=envOfC qual scope s.heap.objs.size f cd::outer
 ex:=[]
 calm:=ag
 fn:=λ_=>ag
 pn:=[]
 xe:=λe s'=>wpAny (model P w) (A.deeper<|envOfC qual scope s.heap.objs.size f cd) (leaving (envOfC qual scope s.heap.objs.size f cd) e) (λ_ YW=>CX outer H s E e YW) (λe' YW=>CX outer H s E e' YW) s'
theorem AQ {sc:bK}(h:sc.names.lookup x=ae .cell):∃ c,(cellsFrom n sc.names []).lookup x=ae c:=Option.isSome_iff_exists.mp<|Xv sc.names n []<|.inl h
theorem BY {CX:pH}{ps:List Str}{scope:bK}{cd:aj}{s s1:aq}{E:XK}{vs:List V}
 (S:rn N ps scope) (hd:A.handled=ah) (e0:wq P w K mg base A outer s H) (hl:vs.length=ps.length) (r:Vals vs us)
 (x:InCallC s s.heap.objs.size (bindL (envOfC qual scope s.heap.objs.size f cd).kindOf (ps.zip us) λ_=>ah) (cellsFrom zF scope.names []) (bindC (envOfC qual scope s.heap.objs.size f cd).kindOf (ps.zip us) λ_=>ah) s1) :
 Inv (qB CX P w K mg base N qual scope f cd A outer s H E) [] (start N vs) H s1:=by
 have eA:ps.length<=N.length:=by have:=congrArg List.length S.pre;rw[Ew]at this;lia
 let#[h1,tk,rfl,hk]:=x.done;have EM:∀ b,b∉(qB CX P w K mg base N qual scope f cd A outer s H E).ex:=λb z=>absurd (show b∈([]) from z) zg;refine#[#[e0.mod,S.kind,rfl,rfl,aH _,λy z c h1 h2=>(aaL x.apart (ph h1)<|ph h2),λy hy=>?_,λy c _ h=>(eX<|x.above y c<|ph h),λ_=>hd,acs e0.frames,.inr #[rfl,rfl],λb z=>absurd z<|EM b,e0.bs,e0.sM,λb _ _=>EM b,λb z=>absurd z<|EM b,e0.k8,e0.rh],
  rfl,e0.bare,Un.kept hk,#[_,x.toInCall.ns,λi y v h1 h2 h3=>?_],λy c h=>#[_,x.cell y c h],e0.aF.fresh<|aH _,λy c h=>(e0.aF.fresh<|eX<|x.above y c<|ph h),λp hp=>absurd (show p∈([]) from hp) zg,e0.aF.kept hk,?_]
 .rcases hy with hy|hy
  .show AQ hy
  .show absurd zj<|S.agq _<|ph hy
 .have hi:i<vs.length:=by
   unfold start at h2;by_cases hi:i<vs.length
   .show hi
   .rw[eI (by simpa using hi)]at h2;rw[abk]at h2;split at h2<;>cases h2
  have ha:vs[i]?=ae v:=by
   unfold start at h2;rw[dH (by simpa using hi),kZ]at h2;cases e:vs[i]? with
   |none=>rw[e]at h2;cases h2
   |some a=>rw[e]at h2;cases h2;rfl
  let#[u,hu,rv]:=r.get ha;have hp:ps[i]?=ae y:=by
   rw[<-S.pre,abl zb];show h1
  have acW:ps.Nodup:=by rw[<-S.pre];show S.nd.sublist<|abm _ _
  refine#[u,rv,?_];rcases S.par y (qV hp) with k|k
  .show .inl #[k,BW acW hp hu k]
  .let#[c,e]:=AQ k;refine .inr #[.inl k,c,e,?_];have q:=x.cell y c e;rw[BX acW hp hu (by change scope.names.lookup y≠_;rw[k];decide)]at q;show q
 .unfold start;change _=N.length;rw[bQ,a8,Q7];lia
theorem S7 {CX:pH}{k:Nat}{name:Str}{params:Arguments}{body:List bp}{scope:bK}{dV kV doc pm cdv ct oc:aj}{an od:Option ai}
 {ps:List Str}{sp:Sp}(lk:K.lookup f=ae #[oc,od,.func<|PySem.W.fnOf name qual params body scope dV kV doc pm an cdv ct,pf]) (dI:PySem.W.codeIn K cdv qual=ag) (S:rn N ps scope)
  (len:∀ vs H Q E,sp vs H Q E->vs.length=ps.length)
  (nU:∀ (A:cE) (outer:List Env) (s:aq) (H:Hp) (vs:List V) (Q:VK) (E:XK),cg k (A.deeper<|envOfC qual scope s.heap.objs.size f cdv)->sp vs H Q E ->
   ∃ t,dD (qB CX P w K mg base N qual scope f cdv A outer s H E) body t /\ t { nx:=λ_ H'=>Q .aB H',rt:=Q } (start N vs) H) :
  cZ P w K mg base CX (k+1) f (PySem.W.fnOf name qual params body scope dV kV doc pm an cdv ct) ps sp:=by
  refine#[len,λA outer s H args us vs Q E hr e0 hb r pY=>?_];have KX:=e0.mod.vc.keeps λb o e=>(e0.bs b o e).1;refine aaM hr.depth (KX _ _ lk) zj S.co S.gen zj (ab6 KX dI)<|hb _ _ _ _ ?_;refine aaN S.kind (λ⟨n,v⟩ hy=>by
   rcases S.par n (Ir hy).1 with q|q
   .show .inl q
   .show .inr #[q,Xv _ _ _<|.inl q]) λenv he s1 x=>?_
  subst he;refine#[(e0.mod.nolimit.keeps λb o e=>(e0.bs b o e).1).keeps x.toInCall.keep,aaO ?_];let#[t,ht,hq]:=nU A outer s H vs Q E (hr.deeper _) pY;refine kn (ht [] s1 _ H _ (BY S hr.hd e0 (len _ _ _ _ pY) r x) hq) (λfl s' hs=>?_) λe s' hs=>hs;have fin:∀ {σ'}{H'}{v}{u},Inv (qB CX P w K mg base N qual scope f cdv A outer s H E) [] σ' H' s'->RelV v u->Q v H'->CE outer P w H s Q u s' :=
   λ{σ' H' v u} J rv q=>#[v,H',J.os,J.bare,J.base,J.aF,rv,q]
  cases fl with
  |ret u=>
    let#[v,σ',H',J,rv,q]:=hs;show fin J rv q
  |next=>
    let#[σ',H',J,q]:=hs;show fin (v:=V.aB) J zj q
  |brk=>
    let#[_,_,_,q]:=hs;show False.elim q
  |cont=>
    let#[_,_,_,q]:=hs;show False.elim q
end L2
variable {CX:L2.pH}{sp:L2.Sp}
namespace L2
section
variable {p:aK} {t:TA} {id T:String} {r:List V -> Hp -> VK -> zk}
def Kl (r:List V->Hp->VK->zk) (t:TA):TE:=λσ H Q=>t σ H λvs H1=>r vs H1 Q
theorem fV (hc:kA X (.builtin id) r) (hg:Gl X x) (hm:X.mg x=ah) (hv:bootBuiltins x=ae (.builtin id)) (ha:PA X (e::es) t) (hn:x ≠ "__name__":=by decide) (dg:(x==("__debug__":Str))=af:=by decide)
 (he:starEach (e::es) X.env=zae::starEach es X.env:=by rfl) (eA:(backTo pos<|starEach es X.env).any (·.1)=af:=by rfl):PE X zJ (Kl r t):=by
 intro pins s σ H Q I h;show sk<|jC I hg hm hv (ae5 (tA (ha pos pins s σ H _ I h) λus s1 vs H1 I1 r1 q1=>hc pins s1 σ H1 vs us Q I1 r1 q1) he eA) hn dg
theorem JD (hc:kA X (.type T) r) (hg:Gl X x) (hm:X.mg x=ah) (hv:bootBuiltins x=ae (.type T)) (ha:PA X (e::es) t) (hn:x ≠ "__name__":=by decide) (dg:(x==("__debug__":Str))=af:=by decide)
 (he:starEach (e::es) X.env=zae::starEach es X.env:=by rfl) (eA:(backTo pos<|starEach es X.env).any (·.1)=af:=by rfl):PE X zJ (Kl r t):=by
 intro pins s σ H Q I h;show sk<|jC I hg hm hv (IE (tA (ha pos pins s σ H _ I h) λus s1 vs H1 I1 r1 q1=>hc pins s1 σ H1 vs us Q I1 r1 q1) he eA) hn dg
end
end L2
namespace HT
noncomputable def lexLt:List Int->List Int->Bool
 |[],[]=>af
 |[],_::_=>ag
 |_::_,[]=>af
 |x::xs,y::ys=>if x=y then lexLt xs ys else decide (x<y)
theorem gD (x y:Int) (xs ys:List Int):lexLt (x::xs) (y::ys)=if x=y then lexLt xs ys else decide (x<y):=rfl
section
open PySem.SeqAt
open PySem.AutoSeq1 (wpAny_loadPart')
open PySem.MeetsSeq PySem.MeetsSeq2 PySem.MeetsSeq3
end
section
variable {s:aq}
theorem O0 {t b:ai}{ws:List aj}(ht:IsTup s.heap t vs.toArray) (hb:IsTup s.heap b ws.toArray) (hv:vs≠[])
 (h1:ws=[]->Q (.ref t) s) (h2:ws≠[]->Q zad { s with heap:=s.heap.push { cls:=.type "tuple",data:=.seq (vs++ws).toArray } })
 (hsz:vs.length+ws.length<=sizeLine):wpAny zf A (binaryOp .Add (.ref t)<|.ref b) Q E s:=by
 let#[#[cls,dd,data,sl],ho,hc,n,hd]:=id ht;let#[#[acX,vh,data2,vi],sR,nV,n2,hd2]:=id hb;subst hc hd nV hd2;have e:vs.toArray++ws.toArray=(vs++ws).toArray:=by simp
 by_cases hw:ws=[]
 .show QK #[_,ho,rfl] #[_,sR,rfl] QL QM Xz XA (XB _ _)
   (tuple_addW1 t b vs.toArray ws.toArray n n2 dd vh sl vi (by simpa using hv) (by simp[hw])) #[ho,sR,h1 hw]
 .refine QK #[_,ho,rfl] #[_,sR,rfl] QL QM Xz XA (XB _ _)
   (tuple_addW2 t b vs.toArray ws.toArray n n2 dd vh sl vi (by simpa using hv) (by simpa using hw)<|hsz) #[ho,sR,?_]
  rw[e];show h2 hw
noncomputable def a7 (n d:Nat):Option Int->Nat
 |none=>d
 |some v=>if v<0 then (v+(n:Int)).toNat else min v.toNat n
theorem LX (n d:Nat):a7 n d ah=d:=rfl
theorem O2 (n d k:Nat):a7 n d (ae (k:Int))=min k n:=by
 change (if (k)<0 then ((k)+(n:Int)).toNat else min (k:Int).toNat n)=min k n;rw[if_neg zb,pC]
theorem Yu (n d:Nat) (hd:d<=n) (o:Option Int):a7 n d o<=n:=by
 cases o with
 |none=>show hd
 |some v=>
   change (if v<0 then (v+(n)).toNat else min v.toNat n)<=n;by_cases hv:v<0
   .lia
   .rw[if_neg hv];show Nat.min_le_right _ _
theorem GD (v:Int) (n d:Nat):(if v<0 then max (v+(n:Int)) 0 else min v (n:Int))=((a7 n d (ae v):Nat):Int):=by
 change (if v<0 then max _ 0 else min v (n))=(((if v<0 then (v+(n)).toNat else min v.toNat n)));by_cases hv:v<0
 .lia
 .lia
theorem FA (lo hi:Option Int) (n:Nat):Builtin.Slice.sliceAdjust lo hi 1 (n:Int)=(((a7 n 0 lo:Nat):Int),((a7 n n hi:Nat):Int)):=by
 refine Prod.ext ?_ ?_
 .cases lo with
  |none=>rfl
  |some v=>show GD v n 0
 .cases hi with
  |none=>rfl
  |some v=>show GD v n n
theorem FB (i j:Nat):Builtin.Slice.slicePlaces (i:Int) (j:Int) 1=j-i:=by
 unfold Builtin.Slice.slicePlaces;split<;>lia
theorem AR {v:aj}{o:Option Int}{Q:Option Int->aq->zk}(p:IsPart v o) (h:Q o s):wpAny zf A (Builtin.Slice.slicePartIndex v) Q E s:=by
 cases p with
 |none=>show abN h
 |int i t=>show slicePart_int h
theorem jH {sl:ai}{vl vu:aj}{lo hi:Option Int}{Q:Int×Int×Nat->aq->zk}(hs:s.heap.IsSliceOf sl vl vu .none) (pl:IsPart vl lo) (pu:IsPart vu hi)
 (h:Q (((a7 n 0 lo:Nat):Int),1,a7 n n hi-a7 n 0 lo) s):wpAny zf A (Builtin.Slice.sliceApplied (.ref sl)<|pure (n:Int)) Q E s:=by
 let#[os,wt,Km,pZ]:=id hs;refine ak<|ak<|kY wt pZ zj<|ak<|kY wt pZ (x:=vu) zj<|ak<|kY wt pZ zj<|ay ?_;refine ak<|abN ?_;refine ak<|AR pl<|ak<|AR pu<|ak<|ay ?_;change wpAny _ _ (match Builtin.Slice.sliceAdjust lo hi 1 (n) with|(lo,hi)=>pure (lo,(1:Int),Builtin.Slice.slicePlaces lo hi 1)) _ _ s;rw[FA lo hi n];change wpAny _ _ (pure (((a7 n 0 lo):Int),(1),Builtin.Slice.slicePlaces ((a7 n 0 lo)) ((a7 n n hi)) 1)) _ _ s;rw[FB];show ay h
theorem LY (xs:Array aj) (i k:Nat):((List.range k).filterMap λ(m:Nat)=>xs[((i:Int)+(m:Int)*1).toNat]?).toArray=((xs.toList.drop i).take k).toArray:=by
 have e:(λ(m:Nat)=>xs[((i)+(m:Int)*1).toNat]?)=λm=>xs[i+m]?:=by
  funext m;have:((i)+(m:Int)*1).toNat=i+m:=by lia
  rw[this]
 rw[e];have:=pick_run xs i k;rw[abn]at this;have e2:((λx=>xs[x]?)∘λx=>i+x)=λm=>xs[i+m]?:=rfl;rw[e2]at this;rw[this]
theorem mZ {t sl:ai}{vl vu:aj}{lo hi:Option Int}(ht:IsTup s.heap t items) (hs:s.heap.IsSliceOf sl vl vu .none) (pl:IsPart vl lo) (pu:IsPart vu hi)
 (hw:¬ (a7 items.size 0 lo=0 /\ a7 items.size items.size hi=items.size))
 (h:Q zad { s with heap:=s.heap.push { cls:=.type "tuple",data:=.seq ((items.toList.drop<|a7 items.size 0 lo).take zY).toArray } })
 (hsz:items.size<=sizeLine):wpAny zf A (getItem (.ref t)<|.ref sl) Q E s:=by
 have Kn:sizeOk (.seq ((items.toList.drop<|a7 items.size 0 lo).take zY).toArray):=by
  change ((items.toList.drop<|a7 items.size 0 lo).take zY).toArray.size<=sizeLine;rw[bU,Ew,Iu,nP];lia
 let#[os,wt,Km,pZ]:=id hs;unfold getItem;try with_reducible refine eU ?_
 first|refine ak (ay ?_)|skip
 refine ak<|aaP ht.typeIs zc ?_;refine ak (qQ ht.typeIs xH
  (eW xH ht.typeIs abO ?_<|abP _ _))
 change wpAny _ _ (Builtin.Tuple.tupleItemsOf (.ref t) >>= _) _ _ s;refine ak<|abQ ht ?_;refine ak<|vQ #[os,wt,Km] ?_;rw[if_pos zc];refine ak<|jH hs pl pu ?_;have vj:¬ ((((a7 items.size 0 lo):Int)==0&&(1:Int)==1&&zY==items.size)=ag):=by
  intro q;rw[aL,aL]at q;have q1:=eq_of_beq q.1.1;have q2:=eq_of_beq q.2;show hw #[by lia,by lia]
 change wpAny _ _ (if (((a7 items.size 0 lo):Int)==0&&(1)==1&&zY==items.size)=ag then _ else _) _ _ s;rw[if_neg vj,LY];first
  |show ak<|eV (ay #[_,rfl,ay h]) Kn
  |show ak<|eV (ak<|ay<|ay #[_,rfl,ay h]) Kn
  |show ak<|ak<|eV (ay<|ay #[_,rfl,ay h]) Kn
  |show ak<|ak<|eV (ay #[_,rfl,ay h]) Kn
end
end HT
namespace L2
abbrev TO:=St->Hp->(Option Int->Hp->zk)->zk
def PO (X:Cx) (e:Option au) (t:TO):zk:=
 ∀ (pins:List<|ai×aV) (s:aq) (σ:St) (H:Hp) (Q:Option Int->Hp->zk),Inv X pins σ H s->t σ H Q ->
  wpAny ze X.A (evalPart e X.env) (λu s'=>∃ o H',Inv X pins σ H' s' /\ IsPart u o /\ Q o H') X.xe s
noncomputable def agr:TO:=λ_ H Q=>Q ah H
noncomputable def ags (t:TE):TO:=λσ H Q=>t σ H λx H1=>∃ i,x=.int i /\ Q (ae i) H1
theorem AS:∀ {us:List aj},Vals (ns.map V.int) us->IntsAre us ns:=by
 induction ns with
 |nil=>intro us r;cases r;show .nil
 |cons n ns ih=>
   intro us r;cases r with
   |cons r1 r2=>
     let#[t,e]:=r1;subst e;show .cons n t<|ih r2
section
variable {te:TE} {lo hi:Option au} {tl th:TO} {p2:aK}
theorem O3:PO X ah agr:=by
 intro pins s σ H Q I h;show ay #[ah,H,I,.none,h]
theorem O4 (h:PE X e te):PO X (ae e) (ags te):=by
 intro pins s σ H Q I hw;refine tE (h pins s σ H _ I hw) λu s1 x H1 I1 r1 q1=>?_;let#[i,rfl,q]:=q1;let#[t,rfl]:=r1;show#[ae i,H1,I1,.int i t,q]
def uq (X:Cx) (r:V->Option Int->Option Int->Hp->VK->zk):zk:=
 ∀ (pins:List<|ai×aV) (s:aq) (σ:St) (H:Hp) (x:V) (v vl vu:aj) (lo hi:Option Int) (sl:ai) (Q:VK),Inv X pins σ H s->RelV x v->s.heap.IsSliceOf sl vl vu .none->IsPart vl lo->IsPart vu hi->r x lo hi H Q ->
  ∃ T id,typeLookup (.type T) "__getitem__"=pure (ae<|.builtin id) /\ s.TypeIs v T /\ wpAny ze X.A (getItem v<|.ref sl) (EP X pins σ Q) X.xe s
theorem uq.or {r r':V->Option Int->Option Int->Hp->VK->zk}(h:uq X r) (h':uq X r'):uq X (λx lo hi H Q=>r x lo hi H Q \/ r' x lo hi H Q):=by
 intro pins s σ H x v vl vu lo hi sl Q I rx hs pl pu q;rcases q with q|q
 .show h pins s σ H x v vl vu lo hi sl Q I rx hs pl pu q
 .show h' pins s σ H x v vl vu lo hi sl Q I rx hs pl pu q
def agt (r:V->Option Int->Option Int->Hp->VK->zk) (te:TE) (tl th:TO):TE:=λσ H Q=>te σ H λx H1=>tl σ H1 λl H2=>th σ H2 λu H3=>r x l u H3 Q
theorem LZ {r:V->Option Int->Option Int->Hp->VK->zk}(hr:uq X r) (he:PE X e te) (hl:PO X lo tl) (hu:PO X hi th):PE X (.Subscript e (.Slice lo hi ah p2) pos) (agt r te tl th):=by
 intro pins s σ H Q I h;refine Subscript_<|tE (he pins s σ H _ I h) λv s1 x H1 I1 r1 q1=>?_;refine aaQ<|tP (hl pins s1 σ H1 _ I1 q1) λvl s2 l H2 I2 pl q2=>tP (hu pins s2 σ H2 _ I2 q2) λvu s3 u H3 I3 pu q3=>?_;refine ay ?_;let#[T,id,hT,ht,hg]:=hr pins { s3 with heap:=s3.heap.push { cls:=.type "slice",data:=.fields (List.toArray [vl,vu,.none]) } } σ H3 x v vl vu l u s3.heap.objs.size Q (I3.kept λb ob q=>aS _ q) r1 (Heap.IsSliceOf.new ..) pl pu q3;show Xj ht hT hg (by with_unfolding_all rfl)
def yc (xs:List V) (lo hi:Option Int):List V:=(xs.drop<|HT.a7 xs.length 0 lo).take<|HT.a7 xs.length xs.length hi-HT.a7 xs.length 0 lo
theorem o8 (xs:List V) (lo hi:Option Int):(yc xs lo hi).length<=xs.length:=by
 unfold yc;rw[Ew,Iu];lia
def acY (K:PySem.W.Frag):V->Option Int->Option Int->Hp->VK->zk:=λx lo hi H Q=>∃ a xs,x=.ref a /\ cM K H a xs /\
 ¬ (HT.a7 xs.length 0 lo=0 /\ HT.a7 xs.length xs.length hi=xs.length) /\ ∀ p,H p=ah->Q (.ref p) (upd H p<|.tup<|yc xs lo hi)
theorem T4:uq X (acY X.K):=by
 intro pins s σ H x v vl vu lo hi sl Q I rx hs pl pu h;let#[a,xs,rfl,hx,hw,q]:=h;cases rx;let#[its,r,ht,hz]:=I.tuple hx;have hlen:its.toArray.size=xs.length:=r.length.symm;refine#["tuple",_,xH.lookup,ht.typeIs,?_];refine HT.mZ ht hs pl pu (by rw[hlen];show hw) ?_ (by rw[hlen];show hz);rw[hlen];refine#[.ref s.heap.objs.size,_,I.laid (λb ob q=>aS _ q) (aH _) ?_,rfl,q _<|I.aF.fresh<|aH _];show#[dF (o8 xs lo hi) hz,_,(r.drop _).take _,IsTup.new _ _]
def acZ (K:PySem.W.Frag):R2:=λx y H Q=>∃ a b xs ys,x=.ref a /\ y=.ref b /\ cM K H a xs /\ cM K H b ys /\ xs≠[] /\ xs.length+ys.length<=sizeLine /\
 (ys=[]->Q zaf H) /\ (ys≠[]->∀ p,H p=ah->Q (.ref p) (upd H p<|.tup<|xs++ys))
theorem Vals.YX {xs:List V}(r:Vals xs us):us=[] ↔ xs=[]:=by
 cases r with
 |_=>simp
theorem O5:bc X (binaryOp .Add) (acZ X.K):=by
 intro pins s σ H x y v u Q I rx ry h;let#[a,b,xs,ys,rfl,rfl,ha,hb,hx,hz,q1,q2]:=h;cases rx;cases ry;let#[its,r1,p1,_]:=I.tuple ha;let#[sU,r2,p2,_]:=I.tuple hb;refine HT.O0 p1 p2 (λz=>hx<|r1.YX.mp z) (λz=>#[.ref a,H,I,rfl,q1<|r2.YX.mp z]) (λz=>?_) (by rw[<-r1.length,<-r2.length];show hz);refine#[.ref s.heap.objs.size,_,I.laid (λb ob q=>aS _ q) (aH _) ?_,rfl,q2 (λw=>z<|r2.YX.mpr w) _<|I.aF.fresh<|aH _];show#[by rw[bQ];show hz,_,r1.append r2,IsTup.new _ _]
end
noncomputable def cy (n:Nat) (i:Int):Option Nat:=if 0<=i then (if i<n then ae i.toNat else ah) else if -(n:Int)<=i then ae (i+n).toNat else ah
def bD (xs:List α) (i:Int):Option α:=(cy xs.length i).bind λj=>xs[j]?
theorem CD {i:Int}(h:cy n i=ae j):seqIndex? i n=ae j /\ j<n /\ -(n:Int)<=i /\ i<n:=by
 unfold cy at h;by_cases h0:0<=i
 .rw[if_pos h0]at h;by_cases h1:i<n
  .rw[if_pos h1]at h;show#[by rw[QN h0 h1,(Option.some.inj h)],by lia,by lia,h1]
  .rw[if_neg h1]at h;cases h
 .rw[if_neg h0]at h;by_cases h1:-(n)<=i
  .rw[if_pos h1]at h;show#[by rw[seqIndex_neg zb h1,(Option.some.inj h)],by lia,h1,by lia]
  .rw[if_neg h1]at h;cases h
theorem CF {xs:List α}{i:Int}{v:α}(h:bD xs i=ae v):∃ j,seqIndex? i xs.length=ae j /\ xs[j]?=ae v /\ j<xs.length /\ -(xs.length:Int)<=i /\ i<xs.length:=by
 unfold bD at h;cases e:cy xs.length i with
 |none=>rw[e]at h;cases h
 |some j=>
   rw[e]at h;let#[h1,h2,h3,h4]:=CD e;show#[j,h1,h,h2,h3,h4]
theorem Au {xs:List α}{v:α}(h:xs[j]?=ae v):bD xs (j:Int)=ae v:=by
 have hj:=(List.getElem?_eq_some_iff.mp h).1;have e:cy xs.length (j)=ae j:=by
  unfold cy;rw[if_pos zb,if_pos zb];simp
 unfold bD;rw[e];show h
def Ko (b:au):zk:=∀ o i,subscripted b af o i=operate [o,i] (getItem o i)
def sV (X:Cx) (r:R2):zk:=
 ∀ (value slice:au) (pins:List<|ai×aV) (s:aq) (σ:St) (H:Hp) (x y:V) (v u:aj) (Q:VK),Inv X pins σ H s->RelV x v->RelV y u->r x y H Q ->
  subscripted slice af v u=operate [v,u] (getItem v u)->wpAny ze X.A (subscriptTail value slice v u) (EP X pins σ Q) X.xe s
def agu (X:Cx) (id:String) (r:V->List V->Hp->VK->zk):zk:=
 ∀ (pins:List<|ai×aV) (s:aq) (σ:St) (H:Hp) (x:V) (xs:List V) (v:aj) (us:List aj) (Q:VK),Inv X pins σ H s->RelV x v->Vals xs us->r x xs H Q ->
  wpAny ze X.A (call (.builtin id) (v::us)) (EP X pins σ Q) X.xe s
section
variable {a b:au} {ta tb:TE} 
theorem sV.or {r r':R2}(h:sV X r) (h':sV X r'):sV X (λx y H Q=>r x y H Q \/ r' x y H Q):=by
 intro value slice pins s σ H x y v u Q I rx ry q hs;rcases q with q|q
 .show h value slice pins s σ H x y v u Q I rx ry q hs
 .show h' value slice pins s σ H x y v u Q I rx ry q hs
theorem L3 {r:R2}(hr:sV X r) (ha:PE X a ta) (hb:PE X b tb) (hs:Ko b):PE X (.Subscript a b pos) (EI r ta tb):=by
 intro pins s σ H Q I h;show Subscript_<|X6 ha hb I h λv u s2 x y H2 I2 rx ry q=>hr a b pins s2 σ H2 x y v u Q I2 rx ry q<|hs _ _
def ac0 (K:PySem.W.Frag):R2:=λx y H Q=>∃ p xs i v,x=.ref p /\ y=.int i /\ bI K H p xs /\ bD xs i=ae v /\ Q v H
def ac1 (K:PySem.W.Frag):R2:=λx y H Q=>∃ p xs i v,x=.ref p /\ y=.int i /\ cM K H p xs /\ bD xs i=ae v /\ Q v H
def ac2:R2:=λx y H Q=>∃ z i c,x=.str z /\ y=.int i /\ z.length<=sizeLine /\ bD z.cps.toList i=ae c /\ Q (.str ⟨(List.toArray [c])⟩) H
theorem CG:sV X (ac0 X.K):=by
 intro value slice pins s σ H x y v u Q I rx ry h hs;let#[p,xs,i,z,rfl,rfl,hq,he,q]:=h;cases rx;let#[t,rfl]:=ry;let#[its,r,pl,hz]:=I.list hq;let#[j,h1,h2,h3,h4,h5]:=CF he;let#[w,ew,nT]:=r.get h2;have hl:=r.length;have hn:=yb;have fin:EP X pins σ Q w s:=#[z,H,I,nT,q];by_cases h0:0<=i
 .have hj:i.toNat=j:=by
   rw[QN h0 h5]at h1;show Option.some.inj h1
  show item_listR pl.isList h0 zb (by rw[hj];simpa using ew) fin hs
 .have hj:(i+(its.toArray.size)).toNat=j:=by
   rw[seqIndex_neg zb h4]at h1;rw[bU,<-hl];show Option.some.inj h1
  show abR pl.isList.typeIs slot_list_getitem.lookup
   (wpAny_getItem_list_neg pl.isList zb (by rw[bU]<;>lia) zb (by rw[hj];simpa using ew) #[rfl,fin]) hs
theorem T5:sV X (ac1 X.K):=by
 intro value slice pins s σ H x y v u Q I rx ry h hs;let#[p,xs,i,z,rfl,rfl,hq,he,q]:=h;cases rx;let#[t,rfl]:=ry;let#[its,r,pl,hz]:=I.tuple hq;let#[j,h1,h2,h3,h4,h5]:=CF he;let#[w,ew,nT]:=r.get h2;have hn:=yb;show abR pl.typeIs slot_tuple_getitem.lookup
  (getItem_tuple pl zb zb (by rw[bU,<-r.length];show h1) (by simpa using ew) #[rfl,#[z,H,I,nT,q]]) hs
theorem T6:sV X ac2:=by
 intro value slice pins s σ H x y v u Q I rx ry h hs;let#[z,i,c,rfl,rfl,hz,he,q]:=h;let#[t,rfl]:=rx;let#[t',rfl]:=ry;let#[j,h1,h2,h3,h4,h5]:=CF he;have hl:z.cps.toList.length=z.length:=by simp[Str.length]
 rw[hl]at h1 h4 h5;have hn:=yb;show Xj (typeIs_str s z t) slot_str_getitem.lookup (getItem_str (by
  rw[(decide_eq_false zb),(decide_eq_false zb),abd]) (by rw[h1];simpa using h2) #[.str ⟨(List.toArray [c])⟩,H,I.tok _,#[_,rfl],q]) hs
def ac3 (K:PySem.W.Frag):R2:=λx y H Q=>ac0 K x y H Q \/ ac1 K x y H Q \/ ac2 x y H Q
theorem T7:sV X (ac3 X.K):=CG.or<|T5.or T6
theorem FC (its:List aj) (n j:Nat) (u:aj):Obj.mapSeq (·.setIfInBounds j u) { cls:=.type "list",data:=.seq its.toArray n }={ cls:=.type "list",data:=.seq (its.set j u).toArray n }:=by
 simp[Obj.mapSeq]
theorem Inv.lst {pins:List (ai×aV)}{σ:St}{H:Hp}{s:aq}{p:ai}{xs:List V}(I:Inv X pins σ H s) (h:H p=ae (.lst xs)) :
 ∃ (its:List aj) (n:Nat),Vals xs its /\ s.heap.get? p=ae { cls:=.type "list",data:=.seq its.toArray n } /\ xs.length<=sizeLine:=by
 let#[z,its,n,r,e]:=I.aF p _ h;show#[its,n,r,e,z]
theorem Inv.agv {s:aq}{xs ys:List V}{its qA:List aj}{n':Nat}{f:aV->aV}(I:Inv X pins σ H s) (h:H p=ae (.lst xs))
 (ho:s.heap.get? p=ae { cls:=.type "list",data:=.seq its.toArray n }) (hf:f { cls:=.type "list",data:=.seq its.toArray n }={ cls:=.type "list",data:=.seq qA.toArray n' }) (r:Vals ys qA) (hz:ys.length<=sizeLine) (t:Nat) :
 Inv X pins σ (upd H p<|.lst ys) { s with heap:=s.heap.update p f,toks:=t }:=by
 have e:(s.heap.update p f).get? p=ae { cls:=.type "list",data:=.seq qA.toArray n' }:=by
  rw[sy f ho (by rw[hf]<;>rfl),hf]
 show I.write (by rw[h];trivial) (.inl zj) (λb u hb q=>(Ip _ _<|Ne.symm hb).trans q) #[_,e]<|#[hz,qA,n',r,e]
def agw:V->V->V->Hp->(Hp->zk)->zk:=λo i v H Q=>∃ p xs k j,o=.ref p /\ i=.int k /\ H p=ae (.lst xs) /\ cy xs.length k=ae j /\ Q (upd H p<|.lst<|xs.set j v)
theorem L4:acK X agw:=by
 intro pins s σ H o i v ov iv u Q I ro ri rv h;let#[p,xs,k,j,rfl,rfl,hp,hj,q]:=h;cases ro;let#[t,rfl]:=ri;let#[its,n,r,ho,hz]:=I.lst hp;let#[h1,h2,h3,h4]:=CD hj;have hl:=r.length;have hn:=yb;have I' :=
  I.agv hp ho (FC its n j u) (r.set rv j) (by rw[qW];show hz) s.toks
 by_cases h0:0<=k
 .have hk:k.toNat=j:=by
   rw[QN h0 h4]at h1;show Option.some.inj h1
  show PySem.W.ki_setAt ho h0 zb (by rw[bU,<-hl];show h4) (by rw[hk];show#[_,I',q])
 .have hk:(k+(its.toArray.size)).toNat=j:=by
   rw[seqIndex_neg zb h3]at h1;rw[bU,<-hl];show Option.some.inj h1
  show PySem.W.ki_setBack ho zb (by rw[bU,<-hl];show h3) zb (by rw[hk];show#[_,I',q])
theorem CH (lo hi:Option Int) (n:Nat):(sliceBounds lo hi ah n).1=((HT.a7 n 0 lo:Nat):Int) /\ (sliceBounds lo hi ah n).2.1=((HT.a7 n n hi:Nat):Int) /\ (sliceBounds lo hi ah n).2.2=1:=by
 refine#[?_,?_,rfl]
 .cases lo with
  |none=>simp[sliceBounds,HT.a7]
  |some i=>
    erw[sliceBounds,HT.a7,Xh,show (1:Int)>0 by decide,if_true];by_cases h:i<0
    .erw[h]<;>lia
    .erw[h]<;>lia
 .cases hi with
  |none=>simp[sliceBounds,HT.a7]
  |some i=>
    erw[sliceBounds,HT.a7,Xh,show (1:Int)>0 by decide,if_true];by_cases h:i<0
    .erw[h,if_true]<;>lia
    .erw[h,if_false]<;>lia
theorem BG (its:List aj) (lo hi:Option Int):slicePick its.toArray lo hi ah=((its.drop<|HT.a7 its.length 0 lo).take<|HT.a7 its.length its.length hi-HT.a7 its.length 0 lo).toArray:=by
 let#[h1,h2,h3]:=CH lo hi its.toArray.size;unfold slicePick;rw[h1,h2,h3];erw[sliceRange_one,pick_run]<;>rfl
def ac4 (K:PySem.W.Frag):V->Option Int->Option Int->Hp->VK->zk:=λx lo hi H Q=>∃ a xs,x=.ref a /\ bI K H a xs /\ ∀ p,H p=ah->Q (.ref p) (upd H p<|.lst<|yc xs lo hi)
theorem O6:uq X (ac4 X.K):=by
 intro pins s σ H x v vl vu lo hi sl Q I rx hs pl pu h;let#[a,xs,rfl,hx,q]:=h;cases rx;let#[its,r,ht,hz]:=I.list hx;have hlen:=r.length;refine#["list",_,slot_list_getitem.lookup,ht.isList.typeIs,?_];refine aaR ht.isList hs pl pu .none zg ?_ (by rw[bU]<;>lia);rw[BG,<-hlen];refine#[.ref s.heap.objs.size,_,I.laid (λb ob q=>aS _ q) (aH _) ?_,rfl,q _<|I.aF.fresh<|aH _];show#[dF (o8 xs lo hi) hz,_,0,(r.drop _).take _,bA _ zj]
noncomputable def hG:V->Bool
 |.aB=>ag
 |.bl _=>ag
 |.int _=>ag
 |.str _=>ag
 |_=>af
noncomputable def eB:V->V->Bool
 |.aB,.aB=>ag
 |.bl a,.bl b=>a==b
 |.bl a,.int b=>(if a then 1 else 0)==b
 |.int a,.bl b=>a==(if b then 1 else 0)
 |.int a,.int b=>a==b
 |.str a,.str b=>a==b
 |_,_=>af
theorem L5 {s:aq}{y x:V}{v:aj}(ry:RelV y u) (rx:RelV x v) (fy:hG y=ag) (fx:hG x=ag):SeqAt.EqAt A s u v (eB y x):=by
 cases y with
 |aB=>
   cases ry;cases x with
   |aB=>cases rx;show SeqAt.EqAt.same _
   |bl b=>cases rx;show ae7 b
   |int b=>let#[t,rfl]:=rx;show ae8 b t
   |str b=>let#[t,rfl]:=rx;show ae9 b t
   |_=>show absurd (fx) dG
 |bl a=>
   cases ry;cases x with
   |aB=>cases rx;show afa a
   |bl b=>cases rx;show afb a b
   |int b=>let#[t,rfl]:=rx;show afc a b t
   |str b=>let#[t,rfl]:=rx;show afd a b t
   |_=>show absurd (fx) dG
 |int a=>
   let#[t',rfl]:=ry;cases x with
   |aB=>cases rx;show afe a t'
   |bl b=>cases rx;show aff a t' b
   |int b=>let#[t,rfl]:=rx;show XH a t' b t
   |str b=>let#[t,rfl]:=rx;show acq a t' b t
   |_=>show absurd (fx) dG
 |str a=>
   let#[t',rfl]:=ry;cases x with
   |aB=>cases rx;show afg a t'
   |bl b=>cases rx;show afh a t' b
   |int b=>let#[t,rfl]:=rx;show acr a t' b t
   |str b=>let#[t,rfl]:=rx;show XI a t' b t
   |_=>show absurd (fx) dG
 |_=>show absurd (fy) dG
def wu (x:V) (u:aj):Bool:=match u with
 |.none=>eB .aB x
 |.bool b=>eB (.bl b) x
 |.int i _=>eB (.int i) x
 |.str z _=>eB (.str z) x
 |_=>af
theorem L6 {x y:V}(r:RelV y u) (f:hG y=ag):wu x u=eB y x:=by
 cases y with
 |aB=>cases r;rfl
 |bl b=>cases r;rfl
 |int i=>let#[t,rfl]:=r;rfl
 |str z=>let#[t,rfl]:=r;rfl
 |_=>show absurd (f) dG
theorem m7 {x:V}:∀ {xs:List V}{us:List aj},Vals xs us->xs.all hG=ag->us.any (wu x)=xs.any λy=>eB y x
 |_,_,.nil,_=>rfl
 | y::xs,u::us,.cons r t,f=>by
   rw[pW,aL]at f;rw[u7,u7,L6 r f.1,m7 t f.2]
theorem lD {A:cE}{s:aq}{x:V}{v:aj}(rx:RelV x v) (fx:hG x=ag):∀ {xs:List V}{us:List aj},Vals xs us->xs.all hG=ag->∀ u∈us,SeqAt.EqAt A s u v (wu x u)
 |_,_,.nil,_=>λu hu=>by cases hu
 | y::xs,u::us,.cons r t,f=>λu' hu=>by
   rw[pW,aL]at f;rcases bz.mp hu with rfl|hu
   .rw[L6 r f.1];show L5 r rx f.1 fx
   .show lD rx fx t f.2 u' hu
def Kq (x:V) (xs:List V):Bool:=xs.any λy=>eB y x
def Kr (K:PySem.W.Frag) (neg:Bool):R2:=λx y H Q=>∃ p xs,y=.ref p /\ (bI K H p xs \/ cM K H p xs) /\ hG x=ag /\ xs.all hG=ag /\ Q (.bl (if neg then !Kq x xs else Kq x xs)) H
theorem JE:bc X (compareOp .In) (Kr X.K af):=by
 intro pins s σ H x y v u Q I rx ry h;let#[p,xs,rfl,hq,fx,fs,q]:=h;cases ry;rcases hq with hq|hq
 .let#[its,r,pl,hz]:=I.list hq;refine SeqAt.in_listAt _ pl.isList (λw hw=>lD rx fx r fs w (by simpa using hw)) #[.bl _,H,I,rfl,?_];rw[show its.toArray.any _=its.any (wu x) by simp,m7 r fs];show q
 .let#[its,r,pl,hz]:=I.tuple hq;refine SeqAt.in_tupleAt _ pl (λw hw=>lD rx fx r fs w (by simpa using hw)) #[.bl _,H,I,rfl,?_];rw[show its.toArray.any _=its.any (wu x) by simp,m7 r fs];show q
theorem CI:bc X (compareOp .NotIn) (Kr X.K ag):=by
 intro pins s σ H x y v u Q I rx ry h;let#[p,xs,rfl,hq,fx,fs,q]:=h;cases ry;rcases hq with hq|hq
 .let#[its,r,pl,hz]:=I.list hq;refine SeqAt.notIn_listAt _ pl.isList (λw hw=>lD rx fx r fs w (by simpa using hw)) #[.bl _,H,I,rfl,?_];rw[show its.toArray.any _=its.any (wu x) by simp,m7 r fs];show q
 .let#[its,r,pl,hz]:=I.tuple hq;refine SeqAt.notIn_tupleAt _ pl (λw hw=>lD rx fx r fs w (by simpa using hw)) #[.bl _,H,I,rfl,?_];rw[show its.toArray.any _=its.any (wu x) by simp,m7 r fs];show q
theorem m8:kA X (.builtin "len") (λxs H Q=>∃ p ys,xs=[.ref p] /\ (bI X.K H p ys \/ cM X.K H p ys) /\ Q (.int ys.length) H):=by
 intro pins s σ H xs us Q I r h;let#[p,ys,rfl,hq,q]:=h;let#[u,rfl,rx]:=vals1 r;cases rx;have hn:=yb;rcases hq with hq|hq
 .let#[its,r',pl,hz]:=I.list hq;have hlen:=r'.length;show Calls.call_len_list pl.isList (by simp[bU]<;>lia) #[.int ys.length,H,I.tok _,#[s.toks+1,by rw[bU,hlen]],q]
 .let#[its,r',pl,hz]:=I.tuple hq;have hlen:=r'.length;show len_tuple pl (by simp[bU]<;>lia) #[.int ys.length,H,I.tok _,#[s.toks+1,by rw[bU,hlen]],q]
theorem CJ:kA X (.type "list") (λxs H Q=>∃ p ys,xs=[.ref p] /\ (bI X.K H p ys \/ cM X.K H p ys) /\ ∀ l,H l=ah->Q (.ref l) (upd H l<|.lst ys)):=by
 intro pins s σ H xs us Q I r h;let#[p,ys,rfl,hq,q]:=h;let#[u,rfl,rx]:=vals1 r;cases rx
 have fin:∀ (its),Vals ys its->ys.length<=sizeLine->∀ (h') (c'),(∀ b o',s.heap.get? b=ae o'->h'.get? b=ae o') ->
  h'.get? s.heap.objs.size=ae { cls:=.type "list",dict:=ah,data:=.seq its.toArray c',slots:=#[] }->EP X pins σ Q _ { s with heap:=h' }:=λits r' hz h' c' kp e=>
  #[.ref s.heap.objs.size,_,I.laid kp (aH _) (show dn X.prog X.w _ h' _ (.lst ys) from#[hz,its,c',r',e]),rfl,q _<|I.aF.fresh<|aH _]
 rcases hq with hq|hq
 .let#[its,r',pl,hz]:=I.list hq;have hlen:=r'.length;let#[o,ho,hc,n,hd]:=pl.isList;show aaS p (.inl zj) ho hc hd (λh' c' kp e=>fin its r' hz h' c' kp e) (by simp[bU]<;>lia)
 .let#[its,r',pl,hz]:=I.tuple hq;have hlen:=r'.length;let#[o,ho,hc,n,hd]:=pl;show aaS p (.inr zj) ho hc hd (λh' c' kp e=>fin its r' hz h' c' kp e) (by simp[bU]<;>lia)
theorem BH:kA X (.type "tuple") (λxs H Q=>∃ p ys,xs=[.ref p] /\ ((bI X.K H p ys /\ ∀ l,H l=ah->Q (.ref l) (upd H l<|.tup ys)) \/ (cM X.K H p ys /\ Q (.ref p) H))):=by
 intro pins s σ H xs us Q I r h;let#[p,ys,rfl,h]:=h;let#[u,rfl,rx]:=vals1 r;cases rx;rcases h with⟨hq,q⟩|⟨hq,q⟩
 .let#[its,r',pl,hz]:=I.list hq;have hlen:=r'.length;refine call_tuple_list pl.isList (λh' kp=>?_) (by simp[bU]<;>lia);have I1:Inv X pins σ H { s with heap:=h' }:=I.kept kp;have I2:Inv X pins σ (upd H h'.objs.size<|.tup ys) { s with heap:=h'.push { cls:=.type "tuple",data:=.seq its.toArray } }:=
   I1.laid (λb o e=>aS _ e) (aH _) (#[hz,its,r',IsTup.new _ _])
  show#[.ref h'.objs.size,_,I2,rfl,q _<|I1.aF.fresh<|aH _]
 .let#[its,r',pl,hz]:=I.tuple hq;show call_tuple_same pl #[.ref p,H,I,rfl,q]
def ac5 (K:PySem.W.Frag) (T:String) (x:V) (H:Hp):zk:=match x with
 |.str _=>T="str"
 |.int _=>T="int"
 |.ref p=>(T="list" /\ ∃ xs,bI K H p xs) \/ (T="tuple" /\ ∃ o,K.lookup p=ae o /\ o.cls=.type "tuple" /\ o.dict=ah) \/
  (T="dict" /\ ((∃ ao,H p=ae (.dK ao)) \/ ∃ ao,H p=ae (.dT ao))) \/ (T="set" /\ ∃ S n,H p=ae (.set S n))
 |_=>False
theorem T8 {s:aq}{T:String}{x:V}{v:aj}(I:Inv X pins σ H s) (r:RelV x v) (ty:ac5 X.K T x H) :
 s.TypeIs v T /\ ∀ a,v=.ref a->∃ ob,s.heap.get? a=ae ob /\ ob.dict=ah:=by
 cases x with
 |str z=>
   let#[t,rfl]:=r;cases (ty);show#[typeIs_str s z t,λ_ e=>nomatch e]
 |int i=>
   let#[t,rfl]:=r;cases (ty);show#[QO s i t,λ_ e=>nomatch e]
 |ref p=>
   cases r;rcases ty with⟨rfl,xs,hq⟩|⟨rfl,o,hk,hc,hd⟩|⟨rfl,hk⟩|⟨rfl,S,n,hk⟩
   .let#[its,_,pl,_]:=I.list hq;refine#[pl.isList.typeIs,λa e=>?_];cases e;let#[o,n,e,c,hd,_]:=pl;show#[o,e,hd]
   .refine#[#[o,I.cY p o hk,hc],λa e=>?_];cases e;show#[o,I.cY _ o hk,hd]
   .have z:∃ o,s.heap.get? p=ae o /\ o.ExactDict:=by
     rcases hk with⟨ao,hk⟩|⟨ao,hk⟩
     .let#[_,_,_,_,o,_,_,e,ex,_]:=I.aF p _ hk;show#[o,e,ex]
     .let#[_,_,_,_,o,_,_,e,ex,_]:=I.aF p _ hk;show#[o,e,ex]
    let#[o,e,ex]:=z;refine#[#[o,e,ex.1],λa e2=>?_];cases e2;show#[o,e,ex.2.1]
   .let#[o,_,_,_,e,ex,_]:=I.aF p _ hk;refine#[#[o,e,ex.1],λa e2=>?_];cases e2;show#[o,e,ex.2.1]
 |_=>show False.elim ty
def Ks (K:PySem.W.Frag) (T:String) (r:V->List V->Hp->VK->zk) (to:TE) (t:TA):TE:=λσ H Q=>to σ H λx H1=>ac5 K T x H1 /\ t σ H1 λxs H2=>r x xs H2 Q
variable {o:au} {to:TE} {t:TA} {name:Str} {cJ:aK} {T id:String} {r:V -> List V -> Hp -> VK -> zk}
theorem BZ (pa:PlainAttrs T) (slot:Slot T name id) (agx:typeOf (.builtin id)=pure (.type "method_descriptor")) (hm:agu X id r) (ho:PE X o to) (ha:PA X (e::es) t)
 (ur:attributeBase o name X.env (eval o X.env)=eval o X.env:=by rfl)
 (wx:((backTo cJ<|starEach (e::es) X.env).all (λx=>!x.1)&&(backToKw cJ<|keywordEach [] X.env).all (λx=>x.1.isSome)
  && decide ((e::es).length+([]:List Keyword).length+(if ([]:List Keyword).isEmpty then 0 else 1)<30))=ag:=by rfl)
 (p8:(apos.endLine==cJ.line)=ag:=by rfl) (hs:starEach (e::es) X.env=zae::starEach es X.env:=by rfl) (agy:(backTo cJ<|starEach es X.env).any (·.1)=af:=by rfl) :
 PE X (.Call (.Attribute o name apos) (e::es) [] cJ) (Ks X.K T r to t):=by
 intro pins s σ H Q I h;refine wpAny_Call_method_late ur wx p8 zj<|tE (ho pins s σ H _ I h) λv s1 x H1 I1 r1 hh=>?_;let#[ty,q1]:=hh;let#[h1,h2]:=T8 I1 r1 ty;refine#[T,id,pa,slot,agx,h1,h2,?_];have hA:=ha cJ pins s1 σ H1 _ I1 q1;rw[hs]at hA ⊢;show XF (by change (af||(backTo cJ _).any _)=af;rw[agy]<;>rfl)<|XG<|tA hA λus s2 vs H2 I2 r2 q2=>hm pins s2 σ H2 x vs v us Q I2 r1 r2 q2
end
def EN (X:Cx) (id:String) (r:V->List V->Hp->VK->zk):zk:=
 ∀ (pins:List<|ai×aV) (s:aq) (σ:St) (H:Hp) (x:V) (xs:List V) (v:aj) (us:List aj) (Q:VK),Inv X pins σ H s->RelV x v->Vals xs us->r x xs H Q ->
  wpAny ze X.A (call (.builtin id) (v::us)) (EP X pins σ Q) X.xe s
theorem Vals.one {x:V}(h:Vals [x] us):∃ u,us=[u] /\ RelV x u:=by
 cases h with|cons r t=>cases t;show#[_,rfl,r]
theorem Vals.two {x y:V}(h:Vals [x,y] us):∃ u v,us=[u,v] /\ RelV x u /\ RelV y v:=by
 cases h with|cons r t=>let#[v,rfl,q]:=Vals.one t;show#[_,_,rfl,r,q]
theorem T9 {r:α->α->zk}:∀ {l:List α},l.length<2->l.Pairwise r
 |[],_=>.nil
 |[_],_=>abo ..
theorem Vals.eraseIdx:∀ {xs:List V}{us:List aj}(i:Nat),Vals xs us->Vals (xs.eraseIdx i) (us.eraseIdx i)
 |_,_,_,.nil=>.nil
 |_,_,0,.cons _ t=>t
 |_,_,i+1,.cons r t=>.cons r<|Vals.eraseIdx i t
theorem Vals.reverse {xs:List V}{us:List aj}(h:Vals xs us):Vals xs.reverse us.reverse:=by
 induction h with
 |nil=>show .nil
 |cons r t ih=>rw[Iv,Iv];show Vals.append ih<|.cons r .nil
theorem Vals.rep {xs:List V}(h:Vals xs us):∀ k:Nat,Vals (List.replicate k xs).flatten (List.replicate k us).flatten:=by
 intro l_;induction l_ with
 |zero=>show .nil
 |succ k aD=>show Vals.append h<|aD
theorem B0 {α:Type}:∀ (l:List α) (i:Nat),(l.eraseIdx i).length<=l.length
 |[],_=>aH _
 |_::_,0=>sx _
 |_::r,i+1=>aa9<|B0 r i
theorem B3 (its:List aj):∀ (k:Nat) (acc:List aj),
 List.foldl (λx1 x2=>x1++x2) acc.toArray (List.replicate k its.toArray)=(acc++(List.replicate k its).flatten).toArray
 |0,acc=>by simp
 | k+1,acc=>by
   have e:acc.toArray++its.toArray=(acc++its).toArray:=by simp
   have e2:(acc++its)++(List.replicate k its).flatten=acc++(List.replicate (k+1) its).flatten:=by
    rw[Q8,abp,sD]
   rw[<-e2,<-B3 its k _,<-e,Q8,abq]
section
variable {s:aq} {l b:ai} {xs ys zs:List V}
theorem Inv.YY {its qA:List aj}{f:Array aj->Array aj}(I:Inv X pins σ H s) (hH:H l=ae (.lst xs))
 (e:s.heap.get? l=ae { cls:=.type "list",data:=.seq its.toArray n }) (hf:f its.toArray=qA.toArray) (hv:Vals ys qA) (hz:ys.length<=sizeLine) :
 Inv X pins σ (upd H l<|.lst ys) { s with heap:=s.heap.update l (Obj.mapSeq f),toks:=t' }:=by
 have q:=PySem.IsL.update e f;rw[hf]at q;show I.write (by rw[hH];show trivial) (.inl zj) (λb' u hb hu=>(Ip s.heap _<|Ne.symm hb).trans hu) #[_,q]<|#[hz,qA,_,hv,q]
theorem Inv.ac6 {its:List aj}(I:Inv X pins σ H s) (hv:Vals ys its) (hz:ys.length<=sizeLine) :
 Inv X pins σ (upd H s.heap.objs.size<|.lst ys) { s with heap:=s.heap.push { cls:=.type "list",data:=.seq its.toArray },toks:=t' }:=
 I.laid (λ_ _ q=>aS _ q) (aH _) #[hz,its,0,hv,bA _ zj]
theorem Inv.fresh (I:Inv X pins σ H s):H s.heap.objs.size=ah:=I.aF.fresh<|aH _
theorem Inv.uu (I:Inv X pins σ H s) (hH:H l=ae (.lst xs)):xs.length<=sizeLine /\ ∃ (its:List aj) (n:Nat),Vals xs its /\ xs.length=its.length /\ s.heap.get? l=ae { cls:=.type "list",data:=.seq its.toArray n }:=by
 let#[z,its,n,r,e]:=I.aF l _ hH;show#[z,its,n,r,r.length,e]
theorem ac7 (h:n<=sizeLine):Builtin.List.listTooLong n=af:=decide_eq_false zb
end
def ac8:V->List V->Hp->VK->zk:=λx vs H Q=>∃ l xs y,x=.ref l /\ vs=[y] /\ H l=ae (.lst xs) /\ xs.length<sizeLine /\ Q .aB (upd H l<|.lst<|xs++[y])
theorem lU:EN X "list.append" ac8:=by
 intro pins s σ H x vs v us Q I rx rv h;let#[l,xs,y,rfl,rfl,hH,hz,q]:=h;cases rx;let#[u,rfl,ru]:=rv.one;let#[z,its,n,r,hl,e]:=I.uu hH;refine vR F.slot_list_append #[_,e,rfl] F.entry_list_append (F.args_list_append_2 _ _) (PySem.list_append l its.toArray n u (by rw[bU];lia)) #[e,?_];refine#[.aB,_,I.YY hH e zg (r.append<|.cons ru .nil) ?_,rfl,q];rw[bQ,Iw];lia
def ac9:V->List V->Hp->VK->zk:=λx vs H Q=>∃ l b xs zs,x=.ref l /\ vs=[.ref b] /\ H l=ae (.lst xs) /\ H b=ae (.lst zs) /\ xs.length+zs.length<=sizeLine /\ Q .aB (upd H l<|.lst<|xs++zs)
theorem JF:EN X "list.extend" ac9:=by
 intro pins s σ H x vs v us Q I rx rv h;let#[l,b,xs,zs,rfl,rfl,hH,hB,hz,q]:=h;cases rx;let#[u,rfl,ru]:=rv.one;cases ru;let#[z,its,n,r,hl,e]:=I.uu hH;let#[z2,sU,n2,r2,rq,e2]:=I.uu hB;have hsz:its.toArray.size+sU.toArray.size<=sizeLine:=by rw[bU,bU];lia
 have YZ:¬ (!its.toArray.isEmpty&&Builtin.List.listTooLong (its.toArray.size+sU.toArray.size))=ag:=by
  rw[ac7 hsz,Bool.and_false];show dG
 refine vR F.slot_list_extend #[_,e,rfl] F.entry_list_extend (F.args_list_extend_2 _ _)
  (afF l its.toArray n b sU.toArray n2 YZ zb zb) #[e,e2,?_]
 refine#[.aB,_,I.YY hH e zg (r.append r2) ?_,rfl,q];rw[bQ];lia
def ada:V->List V->Hp->VK->zk:=λx vs H Q=>∃ l xs i k y,x=.ref l /\ vs=[.int i] /\ H l=ae (.lst xs) /\ -(2 ^ 63)<=i /\ i<2 ^ 63 /\ seqIndex? i xs.length=ae k /\ xs[k]?=ae y /\ Q y (upd H l<|.lst<|xs.eraseIdx k)
theorem L7:EN X "list.pop" ada:=by
 intro pins s σ H x vs v us Q I rx rv h;let#[l,xs,i,k,y,rfl,rfl,hH,h1,h2,hk,hy,q]:=h;cases rx;let#[u,rfl,ru]:=rv.one;let#[t,rfl]:=ru;let#[z,its,n,r,hl,e]:=I.uu hH;let#[w,hw,nT]:=r.get hy;refine vR F.slot_list_pop #[_,e,rfl] F.entry_list_pop (F.args_list_pop_2 _ _)
  (afH l its.toArray n i t k w (aaT h1 h2) (by rw[bU,<-hl];show hk) (by rw[<-qZ];show hw) (by rw[bU];lia)) #[e,?_]
 refine#[y,_,I.YY hH e ?_ (r.eraseIdx k) ?_,nT,q]
 .rw[List.eraseIdxIfInBounds_toArray]
 .have:=B0 xs k;lia
def adb:R2:=λx y H Q=>∃ l b xs zs,x=.ref l /\ y=.ref b /\ H l=ae (.lst xs) /\ H b=ae (.lst zs) /\ xs.length+zs.length<=sizeLine /\ ∀ p,H p=ah->Q (.ref p) (upd H p<|.lst<|xs++zs)
theorem AT:bc X (binaryOp .Add) adb:=by
 intro pins s σ H x y v u Q I rx ry h;let#[l,b,xs,zs,rfl,rfl,hH,hB,hz,q]:=h;cases rx;cases ry;let#[z,its,n,r,hl,e]:=I.uu hH;let#[z2,sU,n2,r2,rq,e2]:=I.uu hB;refine PySem.P.add_list e e2 ?_ (by rw[bU,bU];lia);have ea:its.toArray++sU.toArray=(its++sU).toArray:=by simp
 rw[ea];show#[.ref _,_,I.ac6 (r.append r2) (by rw[bQ];lia),rfl,q _ I.fresh]
def ade:R2:=λx y H Q=>∃ l k xs,x=.ref l /\ y=.int k /\ H l=ae (.lst xs) /\ -(2 ^ 63)<=k /\ k<2 ^ 63 /\ xs.length*k.toNat<=sizeLine /\
 ∀ p,H p=ah->Q (.ref p) (upd H p<|.lst (List.replicate k.toNat xs).flatten)
theorem O7 (xs:List α) (k:Nat):(List.replicate k xs).flatten.length=k*xs.length:=by
 induction k with
 |zero=>simp
 |succ k ih=>rw[Q8,abp,bQ,ih,Nat.succ_mul,Nat.add_comm]
theorem Ua:bc X (binaryOp .Mult) ade:=by
 intro pins s σ H x y v u Q I rx ry h;let#[l,k,xs,rfl,rfl,hH,h1,h2,hz,q]:=h;cases rx;let#[t,rfl]:=ry;let#[z,its,n,r,hl,e]:=I.uu hH;have hlen:its.toArray.size*k.toNat<=sizeLine:=by rw[bU,<-hl];show hz
 have agz:¬ its.toArray.size*k.toNat>(2 ^ 63-1) / 8:=by
  have:(sizeLine)<=(2 ^ 63-1) / 8:=by decide
  lia
 have agA:¬ (!Builtin.List.listFitsIndex k)=ag:=by
  rw[aaT h1 h2];show dG
 have YZ:¬ Builtin.List.listTooLong (its.toArray.size*k.toNat)=ag:=by
  rw[ac7 hlen];show dG
 have agB:List.foldl (λx1 x2=>x1++x2) #[] (List.replicate (if its.toArray.isEmpty=ag then 0 else k.toNat) its.toArray)=(List.replicate k.toNat its).flatten.toArray:=by
  have f0:=λm=>by
   have:=B3 its m [];rw[u9]at this;show this
  rw[f0];cases its with
  |nil=>simp
  |cons a r'=>rw[if_neg zg]
 refine wpAny_binaryOp_repeat_ref zc #[_,e,rfl] (λs'=>QO s' k t) noFill_list_mul F.fills_int_mul ab7 repeat_list F.slot_int_index.lookup
  (vR ab7 (QO s k t) F.entry_int_rmul (F.args_int_rmul_2 _ _) (int___rmul___int_list k t l its.toArray n)
   #[e,rfl,#[_,e,rfl],vR F.slot_list_mul #[_,e,rfl] F.entry_list_mul (F.args_list_mul_2 _ _) (afI l its.toArray n k t agA agz YZ) #[e,?_]])
 rw[agB];show#[.ref _,_,I.ac6 (r.rep k.toNat) (by rw[O7,Nat.mul_comm];show hz),rfl,q _ I.fresh]
section
variable {s:aq}
end
end L2
namespace adf
open PySem.W PySem.Calls
theorem Ap {P:Params}{h:aE}:∀ (ns:List Int) (vs:List aj),WellAll P h vs (ns.map WData.int)->IntsAre vs ns:=by
 intro ns;induction ns with
 |nil=>
   intro vs w;cases w;show .nil
 |cons n ns ih=>
   intro vs w;cases w with
   |cons a b=>
     cases a;show .cons _ _<|ih _ b
theorem JG {l:OpenLaw}(hn:l.most=ae n) {P:Params}{h:aE}{args:List WData}{vals:List aj}
 (Kt:l.row.toRowW.claim.pre args=ag) (Y0:WellAll P h vals args) :
 ∃ a vs ns,vals=[Value.ref a] /\ args=[WData.list<|ns.map WData.int] /\ h.get? a=ae { cls:=.type "list",data:=.seq vs.toArray } /\ IntsAre vs ns /\ ns.length<=n:=by
 let#[d,r,rfl,h1,h2]:=hasAllW_cons (pre_splitW Kt).1;obtain rfl:=hasAllW_nil h2;let#[xs,rfl,h3]:=hasW_list h1;let#[ns,rfl]:=items_int h3;have hlen:ns.length<=n:=by
  have h4:(WTm.not<|.lt (.lit<|.int<|n)<|.len<|.arg 0).holds [] { args:=[.list<|ns.map .int] }=ag:=by
   have h4:=(holds_andW (pre_splitW Kt).2).1;rw[hn]at h4;show h4
  have h5:=condW_of h4<|w_not<|w_lt w_lit<|w_len_list<|w_arg zj;refine vU λq=>?_;first
   |(show absurd h5 (rfl))
   |(simp at h5;lia)
 cases Y0 with
 |cons w1 w2=>
   cases w2;cases w1 with
   |list ho EO=>show#[_,_,ns,rfl,rfl,ho,Ap ns _ EO,hlen]
theorem JH (l:OpenLaw) (args:List WData):l.row.toRowW.claim.post args (.bool ag) args=ag:=
 postW_of
  (by first|rfl|decide|simp[WShape.armsAll])
  (w_eq_bool (w_res zj) w_lit) zj
theorem agC {l:OpenLaw}{q:cG}{loose:List Str}{YP:bH->aE->zk}{d:DefRec}
 (hn:l.most=ae n) (Y1:d.params.defaults=[])
 (call:∀ (w:bH) (s₀ s₁:aq) (mg mb:Str->Option aj) (fa:ai) (o:aV) (pm cd doc:aj) (a:ai) (vs:List aj) (ns:List Int),
  Ground q loose [] XP w s₀ mg mb s₁.heap->YP w s₁.heap ->
  s₁.heap.get? fa=ae o->o.data=.func (docDef d.name d.params d.body d.scope pm cd doc)->s₁.heap.CodeRec cd d.name->mg d.name=ae (.ref fa) ->
  s₁.heap.get? a=ae { cls:=.type "list",data:=.seq vs.toArray }->IntsAre vs ns->ns.length<=n->s₁.gens=#[] ->
  codeAny (model l.prog w) callerA (.call (.ref fa) #[[.ref a],[]]) (λr s'=>r=.ok (.ret<|.bool ag) /\ OldK s₁.heap s'.heap /\ s'.os=s₁.os /\ AllBare s'.gens) s₁) :
 WalkO q loose XP YP l.row.toRowW d [] (λf vs=>PySem.call f vs):=by
 intro w s₀ s₁ mg mb G Y fa o pm cd doc dV kV ho hd dI hD hmg hg args vals as Kt akA akB Y0 akC;obtain rfl:dV=.none:=Dflts.none hD Y1;obtain rfl:kV=.none:=Dflts.noKw hD;let#[a,vs,ns,rfl,rfl,Y2,hints,hlen]:=JG hn Kt Y0;refine enter_call<|uV (call w s₀ s₁ mg mb fa o pm cd doc a vs ns G Y ho (fd_plain hd) dI hmg Y2 hints hlen hg) λr s' hq=>?_;let#[rfl,h2,h3,h4]:=hq;show#[.inl #[.bool ag,.bool ag,[],rfl,λ_=>rfl,.bool ag,JH l _,λ_=>#[List.Pairwise.nil,λ_ hm=>(nomatch hm)]],h2,h3,h4]
section
variable {s:aq} 
end
end adf
namespace L2
theorem B4:∀ {vs:List aj}{ns:List Int},IntsAre vs ns->Vals (ns.map V.int) vs
 |_,_,.nil=>.nil
 |_,_,.cons n t h=>.cons #[t,rfl]<|B4 h
def Y3 (H:Hp):zk:=∀ b,H b=ah \/ ∃ o xs,H b=ae (.bF o<|.lst xs)
theorem L8 {mb:Str->Option aj}{k:Nat}{fa:ai}{s₁:aq} 
 (KX:K.In s₁.heap) (cS:s₁.heap.Ns mainGlobals mg) (hb:s₁.heap.Ns builtinsNs mb) (agD:∀ x:Str,x ≠ "__name__"->mb x=bootBuiltins x) (agE:s₁.heap.NoLimit) (hg:s₁.gens=#[])
 (ha:s₁.heap.get? a=ae { cls:=.type "list",data:=.seq vs.toArray }) (hi:IntsAre vs ns) (hl:ns.length<=sizeLine) (hr:cg k callerA)
 (F:∀ base:aE,K.In base->base.Ns mainGlobals mg->cZ P w K mg base CX k fa fd [x] sp) (agF:∀ (s:aq) (u:aj),BindsTo s fd #[[u],[]] [(x,u)])
 (pY:∀ H:Hp,Y3 H->bI K H a (ns.map V.int)->sp [.ref a] H (λv _=>v=.bl ag) λ_ _ _=>False)
 (agG:∀ H e s',CX [] H s₁ (λ_ _ _=>False) e s'->False) :
 codeAny (model P w) callerA (.call (.ref fa) #[[.ref a],[]]) (λr s'=>r=.ok (.ret<|.bool ag) /\ OldK s₁.heap s'.heap /\ s'.os=s₁.os /\ AllBare s'.gens) s₁:=by
 have rv:=B4 hi
 have core:∀ H,Y3 H->bI K H a (ns.map V.int)->cH P w H s₁.heap->(∀ b,H b≠ah->b=a)->(H a≠ah->K.lookup a=ah) ->
  codeAny (model P w) callerA (.call (.ref fa) #[[.ref a],[]]) (λr s'=>r=.ok (.ret<|.bool ag) /\ OldK s₁.heap s'.heap /\ s'.os=s₁.os /\ AllBare s'.gens) s₁:=by
  intro H hO hS aF hA hK;have iE:∀ {b}{o},s₁.heap.get? b=ae o->H b=ah->(xS s₁.heap H).get? b=ae o:=λe n=>Ly e n;have EM:∀ {b}{o}{es}{ep},s₁.heap.get? b=ae o->o.data=.dict es ep->H b=ah:=λ{b o es ep} e d=>by
   cases q:H b with
   |none=>rfl
   |some u=>
     have e':=hA b (by rw[q];simp);subst e';rw[ha]at e;cases e;cases d
  have Ku:∀ {b}{m},s₁.heap.Ns b m->(xS s₁.heap H).Ns b m:=λ{b m} ⟨o,es,ep,e,d,r⟩=>#[o,es,ep,iE e<|EM e d,d,r];have adg:=λb o e=>iE (KX b o e) (by
   cases q:H b with
   |none=>rfl
   |some u=>
     have e':=hA b (by rw[q];simp);subst e';rw[hK (by rw[q];simp)]at e;cases e)
  refine uV ((F _ adg<|Ku cS).run callerA [] s₁ H #[[.ref a],[]] [.ref a] [.ref a] _ _ hr #[rfl,#[adg,Ku cS,#[mb,Ku hb,agD],let ⟨mc,h1,h2⟩:=agE;#[mc,Ku h1,h2]],λb o e=>OQ e,vT<|Ju _ _,trivial,λb hb=>absurd (show b∈([]) from hb) zg,aF,.of_eq hg] (agF s₁ zaf) (.cons zj .nil)<|pY H hO hS) λr s' h=>?_;cases r with
  |error e=>show(agG H e s' h).elim
  |ok fl=>
    cases fl with
    |ret u=>
      let#[v,H',os,bare,un,agH,r',q]:=h;subst q;obtain rfl:u=Value.bool ag:=r';refine#[rfl,OldK.of_keep λb o e=>?_,os,bare];cases q:H b with
      |none=>show un.keep b o e q (by intro z;show absurd (show b∈([]) from z) zg) zg
      |some u=>
        rcases hO b with z|⟨ob,xs,z⟩
        .rw[q]at z;cases z
        .let#[e1,_]:=aF b _ z;let#[e2,_]:=agH b _<|un.k7 b ob _ z;rw[e]at e1;cases e1;show e2
    |_=>show False.elim h
 cases hk:K.lookup a with
 |some o=>
   have e:=KX a o hk;rw[ha]at e;cases e;refine core (λ_=>ah) (λ_=>.inl zj) (.inr #[_,vs.toArray,_,hk,rfl,rfl,rfl,by rw[bU,hi.length];show hl,by simpa using rv]) (λb u z=>by cases z) (λb z=>absurd rfl z) λz=>absurd rfl z
 |none=>
   refine core (λb=>if b=a then ae (.bF { cls:=.type "list",data:=.seq vs.toArray }<|.lst<|ns.map V.int) else ah) (λb=>?_) (.inl<|.inr #[{ cls:=.type "list",data:=.seq vs.toArray },if_pos zj]) (λb u z=>?_) (λb z=>?_) λ_=>hk
   .by_cases hb:b=a
    .show .inr #[_,_,if_pos hb]
    .show .inl<|if_neg hb
   .by_cases hb:b=a
    .cases ((if_pos hb).symm.trans z);subst hb;show#[ha,by rw[a8];show hl,vs,_,rv,ha]
    .cases ((if_neg hb).symm.trans z)
   .by_cases hb:b=a
    .show hb
    .show absurd (if_neg hb) z
noncomputable abbrev akD {h:aE}(_:K.In h):PySem.W.Frag:=K
noncomputable def inClass (s:bp) (j:Nat):bp:=match s with
 |.ClassDef _ _ _ body _ _ _ _ _ _ _=>body.getD j<|.Pass #[0,0,0,0]
 |_=>.Pass #[0,0,0,0]
noncomputable def ia (s:bp):Arguments:=match s with
 |.FunctionDef _ a _ _ _ _ _ _ _ _=>a
 |_=>{ posonlyargs:=[],args:=[],vararg:=ah,kwonlyargs:=[],kw_defaults:=[],kwarg:=ah,defaults:=[] }
noncomputable def f8 (s:bp):List bp:=match s with
 |.FunctionDef _ _ b _ _ _ _ _ _ _=>b
 |_=>[]
noncomputable def fE (s:bp):bK:=match s with
 |.FunctionDef _ _ _ _ _ _ sc _ _ _=>sc
 |_=>{ kind:=.function,names:=[],isGenerator:=af,isCoroutine:=af }
abbrev rC:pH:=λ_ _ _ _ _ _=>False
noncomputable abbrev E0:XK:=λ_ _ _=>False
theorem agI:Passes rC X E0:=λ_ _ _ _ _ _ _ h=>h.elim
structure eD (K:PySem.W.Frag) (x qual:Str) (st:bp) (f:ai) (fd:FuncData):zk where
 ex:∃ (oc:aj) (od:Option ai) (kV doc pm:aj) (an:Option ai) (cdv ct:aj) (pf:Array<|Option aj),
  fd=PySem.W.fnOf x qual (ia st) (f8 st) (fE st) .none kV doc pm an cdv ct /\ K.lookup f=ae #[oc,od,.func fd,pf] /\ PySem.W.codeIn K cdv qual=ag
 kp:PySem.W.keepIn K (.ref f)=ag
theorem eD.ok {ps:List Str}{k:Nat}(F:eD K x qual st f fd) (S:rn N ps<|fE st) (len:∀ vs H Q E,sp vs H Q E->vs.length=ps.length)
 (nU:∀ (cdv:aj) (A:cE) (outer:List Env) (s:aq) (H:Hp) (vs:List V) (Q:VK) (E:XK),cg k z7->sp vs H Q E ->
  ∃ t,dD (qB rC P w K mg base N qual (fE st) f cdv A outer s H E).ui (f8 st) t /\ t { nx:=λ_ H'=>Q .aB H',rt:=Q } (start N vs) H):cZ P w K mg base rC (k+1) f fd ps sp:=by
 let#[oc,od,kV,doc,pm,an,cdv,ct,pf,rfl,lk,dI]:=F.ex;refine S7 lk dI S len λA outer s H vs Q E hr pY=>?_;let#[t,h,q]:=nU cdv A outer s H vs Q E hr pY;show#[t,h.ui,q]
theorem eD.binds {ps:List Str}(F:eD K x qual st f fd)
 (h:∀ (kV doc pm:aj) (an:Option ai) (cdv ct:aj) (us:List aj),us.length=ps.length->bindArgs (PySem.W.fnOf x qual (ia st) (f8 st) (fE st) .none kV doc pm an cdv ct) #[us,[]]=pure (ps.zip us)):Binds K fd ps []:=by
 let#[oc,od,kV,doc,pm,an,cdv,ct,pf,rfl,lk,dI]:=F.ex;show .all<|h kV doc pm an cdv ct
theorem CK {oc:aj}{od an:Option ai}{kV doc pm cdv ct:aj}(l:K.lookup f=ae #[oc,od,.func<|PySem.W.fnOf x qual (ia st) (f8 st) (fE st) .none kV doc pm an cdv ct,pf])
 (c:PySem.W.codeIn K cdv qual=ag) (k:PySem.W.keepIn K (.ref f)=ag):eD K x qual st f (PySem.W.fnOf x qual (ia st) (f8 st) (fE st) .none kV doc pm an cdv ct):=#[#[oc,od,kV,doc,pm,an,cdv,ct,pf,rfl,l,c],k]
theorem Kv (h:n<=1000):n<sizeLine:=Et h zc
theorem pv (i:Nat) (hN:X.N[i]?=ae x:=by rfl) (hv:sL X.env.scope x:=by first|show Or.inl zj|show Or.inr (Or.inl zj)|show Or.inr (Or.inr zj)) (hd:(x==("__debug__":Str))=af:=by decide)
 (dI:(x==("__classdict__":Str))=af:=by decide):PE X (.Name x pos) (acD i):=AK hN hv hd dI
theorem adh {A B:zk}(h:B):if af=ag then A else B:=h
def hM (H H':Hp):zk:=∀ b o,H b=ae o->H' b=ae o
theorem hM.free (e:hM H H') {l:ai}(h:H' l=Option.none):H l=Option.none:=by
 cases q:H l with
 |none=>rfl
 |some o=>
   rw[e l o q]at h;cases h
noncomputable def eJ (cells:List<|Str×ai):List (Str×NameKind)->List (Str×ai)->List (Str×ai)
 |[],acc=>acc
 |(n,k)::r,acc=>eJ cells r (if k==.free then (match cells.lookup n with|some c=>(n,c)::acc|none=>acc) else acc)
theorem jN {env:Env}:∀ (names:List<|Str×NameKind) (acc:List<|Str×ai),(∀ y∈names,y.2=.free->∃ c,env.cells.lookup y.1=ae c) ->
 (forIn names acc λ(x:Str×NameKind) (r:List<|Str×ai)=>(match x with
  |(name,kind)=>if (kind==NameKind.free)=ag then (do let a <-cellOf env name;pure (ForInStep.yield ((name,a)::r))) else pure (ForInStep.yield r):Sem<|ForInStep<|List<|Str×ai))=(pure (eJ env.cells names acc):Sem _)
 |[],acc,_=>rfl
 | (n,k)::r,acc,h=>by
   rw[xq];by_cases hk:k=.free
   .subst hk;let#[c,e]:=h (n,.free) bN zj;have e':=e;have e1:cellOf env n=pure c:=by unfold cellOf;rw[e']
    dsimp only;rw[if_pos zc,e1];have z:eJ env.cells ((n,NameKind.free)::r) acc=eJ env.cells r ((n,c)::acc):=by
     change eJ env.cells r _=_;rw[if_pos zc,e']
    rw[z,<-(jN r _ λy hy=>h y<|bG _ hy)];rfl
   .dsimp only;have hb:(k==NameKind.free)=af:=by simpa using hk
    rw[if_neg (by rw[hb];decide)];have z:eJ env.cells ((n,k)::r) acc=eJ env.cells r acc:=by
     change eJ env.cells r _=_;rw[if_neg (by rw[hb];decide)]
    rw[z,<-(jN r acc λy hy=>h y<|bG _ hy)];rfl
theorem AU {scope:bK}{env:Env}(h:∀ y∈scope.names,y.2=.free->∃ c,env.cells.lookup y.1=ae c):closureFor scope env=pure (eJ env.cells scope.names []):=by
 have q:=jN scope.names [] h;unfold closureFor;first
  |show q
  |(dsimp only;rw[q];rfl)
  |(rfl)
theorem Dq {cells:List (Str×ai)}:∀ (names:List<|Str×NameKind) (acc:List<|Str×ai),(∀ x c,acc.lookup x=ae c->cells.lookup x=ae c)->∀ x c,(eJ cells names acc).lookup x=ae c->cells.lookup x=ae c
 |[],_,h=>h
 | (n,k)::r,acc,h=>by
   refine Dq r _ ?_;intro x c e;by_cases hk:(k==NameKind.free)=ag
   .rw[if_pos hk]at e;cases q:cells.lookup n with
    |none=>rw[q]at e;show h x c e
    |some a=>
      rw[q]at e;have e':=e;rw[kH]at e';cases hx:x==n with
      |true=>rw[hx]at e';rw[eq_of_beq hx,q];show e'
      |false=>rw[hx]at e';show h x c e'
   .rw[if_neg hk]at e;show h x c e
theorem Ds {cells:List (Str×ai)}:∀ (names:List<|Str×NameKind) (acc:List<|Str×ai) (x:Str),((∃ c,acc.lookup x=ae c) \/ ((x,NameKind.free)∈names /\ ∃ c,cells.lookup x=ae c))->∃ c,(eJ cells names acc).lookup x=ae c
 |[],_,x,h=>h.elim id λz=>nomatch z.1
 | (n,k)::r,acc,x,h=>by
   refine Ds r _ x ?_;rcases h with⟨c,e⟩|⟨hm,c,e⟩
   .left;by_cases hk:(k==NameKind.free)=ag
    .rw[if_pos hk];cases q:cells.lookup n with
     |none=>show#[c,e]
     |some a=>
       rw[kH];cases hx:x==n with
       |true=>show#[a,rfl]
       |false=>show#[c,e]
    .rw[if_neg hk];show#[c,e]
   .rcases bz.mp hm with z|z
    .have z1:=congrArg Prod.fst z;have z2:NameKind.free=k:=congrArg Prod.snd z;subst z1;subst z2;left;rw[if_pos zc,e];show#[c,by rw[kH,beq_self_eq_true]]
    .show .inr #[z,c,e]
theorem mG {env:Env}:∀ (names:List<|Str×NameKind) (x:Str) (k':NameKind),
 (names.map λ(n,k)=>if zy then (n,NameKind.cell) else (n,k)).lookup x=ae k' ->
 ∃ k,names.lookup x=ae k /\ (k'=k \/ (k=.free /\ k'=.cell))
 |[],_,_,h=>by simp at h
 | (n,k)::r,x,k',h=>by
   have h':List.lookup x ((if zy=ag then (n,NameKind.cell) else (n,k))::(r.map λ(n,k)=>if zy then (n,NameKind.cell) else (n,k)))=ae k':=h;by_cases hc:zy=ag
   .rw[if_pos hc,kH]at h';rw[kH];cases hx:x==n with
    |true=>
      rw[hx]at h';have hk:k=.free:=by
       cases hq:(k==NameKind.free) with
       |true=>show eq_of_beq hq
       |false=>rw[hq]at hc;simp at hc
      show#[k,rfl,.inr #[hk,(Option.some.inj h').symm]]
    |false=>rw[hx]at h';show mG r x k' h'
   .rw[if_neg hc,kH]at h';rw[kH];cases hx:x==n with
    |true=>rw[hx]at h';show#[k,rfl,.inl (Option.some.inj h').symm]
    |false=>rw[hx]at h';show mG r x k' h'
theorem jO {env:Env}:∀ (names:List<|Str×NameKind) (x:Str),names.lookup x=ae .free ->
 (names.map λ(n,k)=>if zy then (n,NameKind.cell) else (n,k)).lookup x=ae .cell \/
 (names.map λ(n,k)=>if zy then (n,NameKind.cell) else (n,k)).lookup x=ae .free
 |[],_,h=>by simp at h
 | (n,k)::r,x,h=>by
   change List.lookup x ((if zy=ag then (n,NameKind.cell) else (n,k))::_)=_ \/ List.lookup x ((if zy=ag then (n,NameKind.cell) else (n,k))::_)=_;rw[kH]at h;by_cases hc:zy=ag
   .rw[if_pos hc,kH];cases hx:x==n with
    |true=>show .inl zj
    |false=>rw[hx]at h;show jO r x h
   .rw[if_neg hc,kH];cases hx:x==n with
    |true=>rw[hx]at h;show .inr h
    |false=>rw[hx]at h;show jO r x h
theorem iH:∀ (names:List<|Str×NameKind) (n:Nat) (acc:List<|Str×ai),cellsFrom n names acc=cellsFrom n names []++acc
 |[],_,_=>rfl
 | (x,k)::r,n,acc=>by
   unfold cellsFrom;split
   .rw[iH r _ _,iH r _ [(x,n)],sD];rfl
   .show iH r n acc
theorem oN:∀ (names:List<|Str×NameKind) (n:Nat) {x:Str}{c:ai},(x,c)∈cellsFrom n names []->(x,NameKind.cell)∈names
 |[],_,_,_,h=>nomatch h
 | (y,k)::r,n,x,c,h=>by
   unfold cellsFrom at h;split at h
   .ext hk;rw[iH]at h;rcases List.mem_append.mp h with h|h
    .show bG _<|oN r _ h
    .cases ku.mp h;rw[<-eq_of_beq hk];show bN
   .show bG _<|oN r _ h
theorem AV {α:Type}:∀ {l:List (Str×α)}{x:Str}{a b:α},(l.map (·.1)).Nodup->(x,a)∈l->(x,b)∈l->a=b
 | (y,c)::l,x,a,b,h,ha,hb=>by
   rw[aU,uc]at h;rcases bz.mp ha with e|ha<;>rcases bz.mp hb with e'|hb
   .rw[<-e']at e;show(Prod.mk.inj e).2
   .show absurd (bE.mpr #[_,hb,(Prod.mk.inj e).1]) h.1
   .show absurd (bE.mpr #[_,ha,(Prod.mk.inj e').1]) h.1
   .show AV h.2 ha hb
theorem jP {α:Type}{x:Str}:∀ {l m:List (Str×α)},(l++m).lookup x=match l.lookup x with|some a=>ae a|none=>m.lookup x
 |[],m=>rfl
 | (y,a)::l,m=>by
   rw[Q9,kH,kH];cases x==y with
   |true=>rfl
   |false=>show jP
theorem AW {s:aq}{scope:bK}{globals:ai}{cl:List (Str×ai)}{env:Env}{Q:Env->aq->zk}
 (h:Q { scope:=scope,locals:=s.heap.objs.size,globals:=globals,cells:=cellsFrom zF scope.names cl,qual:=qual,func:=ah,code:=env.code,frame:=env.frame,builtins:=env.builtins }
  { s with heap:=pushCells (s.heap.push { cls:=.type "dict",data:=.dict #[] }) scope.names }) :
 wpAny M A (newFunctionEnv scope globals cl [] qual ah .none<|ae env) Q E s:=by
 refine ak<|aaU<|ak<|wpAny_layCells _ (λname kind cells=>by cases hk:kind==NameKind.cell<;>simp[hk]) _ _ _ _ ?_;rw[qT ..];show ak<|ay<|ay h
noncomputable abbrev Cx.comp (X:Cx) (N:List Str) (scope:bK) (cl:List<|Str×ai) (s:aq) (H:Hp) (C:ai) (fp:List ai):Cx:=
 { X with N:=N,s₀:=s,H₀:=H,env:=compEnvC scope cl C X.env,outer:=X.stack,stack:=X.stack,ex:=fp,fn:=λx=>decide (scope.names.lookup x=ae .cell),pn:=[],xe:=λ_ _=>False }
structure sW (X:Cx) (N:List Str) (src:List<|Option Nat) (scope:bK):zk where
 kind:scope.kind=.function
 nk:(scope.names.map (·.1)).Nodup
 names:∀ y∈scope.names,y.2=.local->scope.names.lookup y.1=ae .local
 has:∀ y∈scope.names,y.2=.free->X.env.kindOf y.1=ae .cell \/ X.env.kindOf y.1=ae .free
 agJ:src.length=N.length
 agK:∀ (j i:Nat) (x:Str),src[j]?=ae (ae i)->N[j]?=ae x->X.N[i]?=ae x /\ scope.names.lookup x=ae .free
noncomputable def vk (src:List<|Option Nat) (σ:St):St:=src.map λo=>o.bind λi=>(σ[i]?).bind id
def PF (X:Cx) (ifs:List au) (t:TT):zk:=
 ∀ (pins:List<|ai×aV) (s:aq) (σ:St) (H:Hp) (Q:Bool->Hp->zk),Inv X pins σ H s->t σ H Q ->
  wpAny ze X.A (forIn ifs ag λc r=>if r=ag then do let ok <-isTrue c X.env (eval c X.env);pure (ForInStep.yield ok) else pure (ForInStep.yield r)) (TP X pins σ Q) X.xe s
theorem Ub:PF X [] (λ_ H Q=>Q ag H):=λ_ _ _ H _ I h=>wpAny_tests_nil #[H,I,h]
theorem Uc {c:au}{t:TT}(h:PT X c t):PF X [c] t:=λpins s σ H Q I hw=>wpAny_tests_one<|h pins s σ H Q I hw
def adi (J:It) (g:TG) (tf:TT) (te:TE) (D:ai) (Q:VK) (σ0:St) (H0:Hp):zk:=
 ∃ W:Nat->Nat->St->Hp->zk,(∃ m,W 0 m σ0 H0) /\ ∀ i m σ' H',W i m σ' H' ->
  (J.stop i H' /\ Q (.ref D) H') \/ (J.go i H' /\ ∃ N:St->Hp->zk,(∀ σ2 H2,N σ2 H2->∃ m',m'<m /\ W (i+1) m' σ2 H2) /\ ∀ x H2,J.EG i H' x H2->g x σ' H2 λσ2 H3=>tf σ2 H3 λb H4=>
   if b=ag then te σ2 H4 λy H5=>∃ ys,H5 D=ae (.lst ys) /\ ys.length<sizeLine /\ N σ2 (upd H5 D<|.lst<|ys++[y]) else N σ2 H4)
def Kw (src:List<|Option Nat) (wi:TI) (g:TG) (tf:TT) (te:TE):TE:=λσ H Q=>wi σ H λJ H1=>∀ D,H1 D=ah->adi J g tf te D Q (vk src σ) (upd H1 D<|.lst [])
section
variable {s:aq}
noncomputable abbrev yd (P:cG) (w:bH) (A:cE) (env:Env) (R:Result->aq->zk):aj->aq->zk:=
 notedBy (model P w) A env λx z=>R (.error x) z
noncomputable abbrev agL (ifs:List au) (env:Env):Sem Bool:=
 forIn ifs ag λc r=>if r=ag then do let ok <-isTrue c env (eval c env);pure (ForInStep.yield ok) else pure (ForInStep.yield r)
theorem m9 {elt:au}{scope:bK}{it acc:aj}{env:Env}
 (J:Nat->aq->zk) (N:aj->Nat->aq->zk)
 (hN:∀ v n z,N v n z->wpAny zf A (letOwnedTupleGo tg it v) (λ_ z1=>
  wpAny zf A (assign tg env v) (λ_ z2=>
  wpAny zf A (agL ifs env) (λb z3=>
   if b=ag then wpAny zf A (eval elt env) (λy z4=>
    wpAny zf A (call (.builtin "list.append") [acc,y])
     (λ_ z5=>∃ k,k<n /\ J k z5) (yd prog w A env R) z4) (yd prog w A env R) z3
   else ∃ k,k<n /\ J k z3)
   (yd prog w A env R) z2) (yd prog w A env R) z1) (yd prog w A env R) z)
 (go:∀ n z,J n z->wpAny zf A (pyNext it)
  (λr z1=>match r with|none=>R (.ok .next) z1|some v=>N v n z1) (yd prog w A env R) z)
 (n:Nat) (h:J n s) :
 codeAny zf A (.compLoop zD 0 it acc env) R s:=by
 refine codeAny_loop zj J (λk z hz=>?_) n h;refine wpAny_noted ?_;rw[compTurn_list];refine ak<|Ic<|ak ?_;refine kn (go k z hz) (λr z1 h1=>?_) λ_ _ q=>q;cases r with
 |none=>show ay h1
 |some v=>
   refine ak<|kn (hN v k z1 h1) (λ_ z2 h2=>ak ?_) λ_ _ q=>q;refine kn h2 (λ_ z3 h3=>ak ?_) λ_ _ q=>q;refine kn h3 (λb z4 h4=>?_) λ_ _ q=>q;cases b with
   |false=>show ay #[rfl,h4]
   |true=>
     show ak<|ak<|kn h4 (λy z5 h5=>ak<|kn h5 (λ_ z6 h6=>ay<|ay #[rfl,h6]) λ_ _ q=>q) λ_ _ q=>q
end
theorem sW.cells {N:List Str}{src:List (Option Nat)}{scope:bK}(S:sW X N src scope) (ok:X.Ok):∀ y∈scope.names,y.2=.free->∃ c,X.env.cells.lookup y.1=ae c:=
 λy hy hf=>ok.has y.1<|S.has y hy hf
theorem Dt {cells:List (Str×ai)}{x:Str}{c:ai}:∀ (names:List<|Str×NameKind) (acc:List<|Str×ai),(x,c)∉acc->(x,c)∈eJ cells names acc->(x,NameKind.free)∈names
 |[],_,h,e=>absurd e h
 | (n,k)::r,acc,h,e=>by
   by_cases hx:x=n /\ k=.free
   .let#[rfl,rfl]:=hx;show bN
   .refine bG _<|Dt r _ ?_ e;by_cases hk:(k==NameKind.free)=ag
    .rw[if_pos hk];cases q:cells.lookup n with
     |none=>show h
     |some a=>
       intro z;rcases bz.mp z with z|z
       .show hx #[(Prod.mk.inj z).1,eq_of_beq hk]
       .show h z
    .rw[if_neg hk];show h
theorem Du {src:List (Option Nat)}{scope:bK}{s s':aq} 
 (S:sW X N src scope) (I:Inv X pins σ H s) (Y4:∀ b∈fp,pE X pins H b /\ b<s.heap.objs.size) (hh:s'={ s with heap:=pushCells (s.heap.push { cls:=.type "dict",data:=.dict #[] }) scope.names }) :
 Inv (X.comp N scope (cellsFrom zF scope.names<|eJ X.env.cells scope.names []) s H s.heap.objs.size fp) [] (vk src σ) H s':=by
 subst hh;have hk:∀ b o,s.heap.get? b=ae o->(pushCells (s.heap.push { cls:=.type "dict",data:=.dict #[] }) scope.names).get? b=ae o:=λb o e=>Ig _ _ b o<|aS _ e;have ok:=cellsFrom_ok scope.names (s.heap.push { cls:=.type "dict",data:=.dict #[] }) _ [] #[λ_ _ hm=>(nomatch hm),List.Pairwise.nil] (by rw[qT];show aH _);rw[qT]at ok;have split:∀ x c,(cellsFrom _ scope.names<|eJ X.env.cells scope.names []).lookup x=ae c->(cellsFrom _ scope.names []).lookup x=ae c \/ (eJ X.env.cells scope.names []).lookup x=ae c:=λx c e=>by
  rw[iH,jP]at e;cases q:(cellsFrom zF scope.names []).lookup x with
  |some a=>rw[q]at e;show .inl e
  |none=>rw[q]at e;show .inr e
 have own:∀ x c,(cellsFrom _ scope.names []).lookup x=ae c->s.heap.objs.size<c /\ (pushCells _ scope.names).IsCell c ah:=λx c e=>by
  let#[a,b]:=ok.empty x c<|ph e;show#[b,a]
 have adj:∀ x,scope.names.lookup x=ae .free->(cellsFrom _ scope.names<|eJ X.env.cells scope.names []).lookup x=(eJ X.env.cells scope.names []).lookup x:=λx e=>by
  rw[iH,jP];cases q:(cellsFrom zF scope.names []).lookup x with
  |some a=>show absurd (AV S.nk (ph e)<|oN _ _<|ph q) zc
  |none=>rfl
 have low:∀ x c,X.env.cells.lookup x=ae c->c<s.heap.objs.size:=λx c e=>by
  let#[v,o,ho,_]:=I.cell x c e;show ba ho
 have sub:=Dq (cells:=X.env.cells) scope.names [] (λx c e=>by simp at e);have agM:∀ x,((relabel scope X.env).names.lookup x=ae .cell \/ (relabel scope X.env).names.lookup x=ae .free)->scope.names.lookup x=ae .free \/ scope.names.lookup x=ae .cell:=λx hx=>by
  have go:∀ k',(k'=NameKind.cell \/ k'=NameKind.free)->(relabel scope X.env).names.lookup x=ae k'->scope.names.lookup x=ae .free \/ scope.names.lookup x=ae .cell:=λk' rD e=>by
   let#[k,e1,q]:=mG scope.names x k' e;rcases q with q|⟨q,_⟩
   .subst q;rcases rD with z|z
    .subst z;show .inr e1
    .subst z;show .inl e1
   .subst q;show .inl e1
  show hx.elim (go _<|.inl zj)<|go _<|.inr zj
 have adk:∀ x,scope.names.lookup x=ae .free->∃ c,(eJ X.env.cells scope.names []).lookup x=ae c /\ X.env.cells.lookup x=ae c:=λx e=>by
  have hm:=ph e;let#[c,e1]:=Ds scope.names [] x<|.inr #[hm,S.cells I.ok (x,.free) hm zj];show#[c,e1,sub x c e1]
 refine#[#[I.ok.mod,(S.kind),I.ok.glob,I.ok.blt,aH _,λx y c e1 e2=>?_,λx hx=>?_,λx c e=>?_,I.ok.hd,I.ok.frames,.inl zj,λb hb=>?_,I.bs,dF I.ok.sM I.sz,λb o e hb=>?_,λb hb=>?_,I.stack,I.XS],
  rfl,I.bare,Un.kept hk,#[_,((Heap.Ns.new s.heap<|.type "dict").keeps<|Ig _ _),λj x v e1 e2 e3=>?_],λx c e=>?_,I.aF.fresh<|aH _,λx c e=>?_,λp hp=>absurd (hp) zg,I.aF.kept hk,?_]
 .rcases split x c e1 with q1|q1<;>rcases split y c e2 with q2|q2
  .show aaL ok.apart (ph q1)<|ph q2
  .show absurd (vV (own x c q1).1<|low y c<|sub y c q2)<|kq _
  .show absurd (vV (own y c q2).1<|low x c<|sub x c q1)<|kq _
  .show I.ok.inj x y c (sub x c q1)<|sub y c q2
 .rcases agM x hx with k|k
  .let#[c,e1,_]:=adk x k;show#[c,(adj x k).trans e1]
  .let#[c,e1]:=AQ k;refine#[c,?_];change (cellsFrom zF scope.names<|eJ X.env.cells scope.names []).lookup x=ae c;rw[iH,jP,e1]
 .intro hl;rcases split x c hl with q|q
  .show eX (own x c q).1
  .show absurd (AV S.nk (ph<|of_decide_eq_true e)<|Dt _ _ zg<|ph q) zc
 .let#[f,hl]:=Y4 b hb;refine#[bJ hl,λx c e=>?_];rcases split x c e with q|q
  .show xo<|vV hl (own x c q).1
  .show f.2.2.2.2.1 x c<|sub x c q
 .let#[f,_]:=Y4 b hb;let#[_,_,_,f4,_]:=f;rcases f4 with z|z
  .show I.ok.xV b o e z
  .show absurd (eG (ba (I.ok.bs b o e).1) z)<|kq _
 .let#[f,_]:=Y4 b hb;intro hz;rcases bz.mp (I.xW b hz) with e|e
  .show f.2.1 e
  .show f.2.2.1 e
 .have hs:∃ i,src[j]?=ae (ae i) /\ σ[i]?=ae (ae v):=by
   have uv:(src.map λo=>o.bind λi=>(σ[i]?).bind id)[j]?=ae (ae v):=e2;rw[kZ]at uv;cases q:src[j]? with
   |none=>rw[q]at uv;cases uv
   |some o=>
     rw[q]at uv;cases o with
     |none=>cases uv
     |some i=>
       refine#[i,rfl,?_];have Kx:(σ[i]?).bind id=ae v:=Option.some.inj uv;cases z:σ[i]? with
       |none=>rw[z]at Kx;cases Kx
       |some o'=>
         rw[z]at Kx;have:o'=ae v:=Kx;rw[this]
  let#[i,agN,hσ]:=hs;let#[hN,nI]:=S.agK j i x agN e1;have adl:=S.has (x,.free) (ph nI) zj;let#[m,_,hl]:=I.loc;let#[u,r,lk]:=hl i x v hN hσ<|.inr adl;refine#[u,r,?_];rcases lk with⟨k,_⟩|⟨_,c,ec,xY⟩
  .rcases adl with z|z
   .rw[z]at k;cases k
   .rw[z]at k;cases k
  .let#[c',p9,uv]:=adk x nI;have:c'=c:=by rw[ec]at uv;show(Option.some.inj uv).symm
   subst this;refine .inr #[(jO scope.names x nI),c',(adj x nI).trans p9,?_]
   .let#[o,ho,hd]:=xY;show#[o,hk _ _ ho,hd]
 .rcases split x c e with q|q
  .show#[ah,(own x c q).2]
  .let#[v,o,ho,hd]:=I.cell x c<|sub x c q;show#[v,o,hk _ _ ho,hd]
 .rcases split x c e with q|q
  .show I.aF.fresh<|eX (own x c q).1
  .show I.nG x c<|sub x c q
 .change (vk src σ).length=N.length;unfold vk;rw[a8];show S.agJ
theorem O8 {src:List (Option Nat)}{elt:au}{scope:bK}{wi:TI}{g:TG}{tf:TT}{te:TE}
 (hc:X.calm=ag) (S:sW X N src scope) (hi:PI X tg iter wi)
 (hg:∀ cl s H C fp,PG zN tg g) (hf:∀ cl s H C fp,PF zN ifs tf) (he:∀ cl s H C fp,PE zN elt te)
 (hs:∀ x,foldedSetIterable iter X.env x=pure x:=by intro _;rfl):PE X zD (Kw src wi g tf te):=by
 intro pins s σ H Q I h;rw[eval_ListComp];refine aaV zj hs (AU<|S.cells I.ok) S.kind S.names<|cb (hi pins s σ H _ I h) λxv s1 h1=>cb h1 λKg s2 h2=>?_;let#[it,fp,tn,J,H2,e,I2,T,wc,f2,hW]:=h2;subst e;refine eV ?_;generalize hD:s2.heap.objs.size=D;have I3:Inv X pins σ (upd H2 D<|.lst []) { s2 with heap:=s2.heap.push { cls:=.type "list",dict:=ah,data:=.seq ([]).toArray } }:=by
  subst hD;show I2.laid (λb u e=>aS _ e) (aH _) #[dR _,[],0,.nil,bA _ zj]
 let#[W,#[m0,w0],turn]:=hW D<|I2.aF.fresh<|vT hD;have up:∀ b o,s2.heap.get? b=ae o->(s2.heap.push { cls:=.type "list",dict:=ah,data:=.seq ([]).toArray }).get? b=ae o:=λb u e=>aS _ e;have vg:=T.keep _ _ _ wc λb _ o e=>up b o e;have ER:∀ b∈fp,b<s2.heap.objs.size:=λb hb=>by let#[o,e,_]:=(T.obj _ _ wc) b hb;show ba e
 have f3:∀ b∈fp,pE X pins (upd H2 D<|.lst []) b:=λb hb=>#[by rw[fu (by rw[<-hD];show bJ (ER b hb))];show(f2 b hb).1,(f2 b hb).2];generalize Y5:({ s2 with heap:=s2.heap.push { cls:=.type "list",dict:=ah,data:=.seq ([]).toArray } })=s3 at I3 ⊢;have ES:s3.heap=s2.heap.push { cls:=.type "list",dict:=ah,data:=.seq ([]).toArray }:=by rw[<-Y5]
 rw[<-ES]at vg;have Y6:∀ b∈fp,b<s3.heap.objs.size:=λb hb=>by rw[ES,qT];show pS<|ER b hb
 generalize agO:upd H2 D (.lst [])=H3 at I3 f3 w0;refine AW ?_;generalize ET:pushCells (s3.heap.push { cls:=.type "dict",data:=.dict #[] }) scope.names=h₁;have k1:∀ b o,s3.heap.get? b=ae o->h₁.get? b=ae o:=λb o e=>by rw[<-ET];show Ig _ _ b o<|aS _ e
 have IY:=Du S I3 (λb hb=>#[f3 b hb,Y6 b hb]) (by rw[ET]);have EU:=T.keep _ _ _ vg λb _ o e=>k1 b o e;generalize ye:cellsFrom (s3.heap.objs.size+1) scope.names (eJ X.env.cells scope.names [])=cl at IY ⊢;generalize hC:s3.heap.objs.size=C at IY ⊢;have wz:∀ {H'},(∀ b∈fp,H' b=ah)->∀ b∈fp,pE zT [] H' b:=λhn b hb=>by
  refine#[hn b hb,((IY.ok.v9 b hb).1),(IY.ok.wa b hb),.inl hb,?_,λp hp=>absurd (hp) zg]
  .intro x c e z;show(IY.ok.v9 b hb).2 x c e z
 have fin:∀ (σ') (H') (s'),Inv zT [] σ' H' s'->∀ h',Heap.SameBut C s'.heap h'->Inv X pins σ H' { s' with heap:=h' }:=λσ' H' s' I' h' wB=>by
  have EV:H' C=ah:=I'.free;have kp:∀ b o,b≠C->s'.heap.get? b=ae o->h'.get? b=ae o:=λb o hb e=>wB.extBut b o hb e;have Y7:s3.heap.get? C=ah:=by rw[<-hC];show Q6<|aH _
  have qz:∀ b o,s3.heap.get? b=ae o->b≠C:=λb o e z=>by rw[z,Y7]at e;cases e
  have U:=I'.base;refine I3.XX I'.os #[λb o e n hb hx=>kp b o (qz b o e)<|U.keep b o e n hb hx,λb o e n hb hx=>?_,U.free,λb o e hx=>?_,U.kJ,U.k7,U.nR] ?_ I'.bare λb hb=>(#[(f3 b hb).2.2.2.1,(f3 b hb).2.1,λx c e=>(f3 b hb).2.2.2.2.1 x c e,(f3 b hb).2.2.2.2.2])
  .let#[sl,e1]:=U.slot b o e n hb hx;show#[sl,kp b _ (qz b o e) e1]
  .let#[o',e1]:=U.there b o e hx;show#[o',kp b o' (qz b o e) e1]
  .intro b ob e;refine(I'.aF b ob e).eZ (λc w' dS q=>kp c w' (λz=>?_) q) (λ_ q=>q) λ_ _ q=>q;rcases dS with z1|z1
   .rw[<-z1,z,EV]at e;cases e
   .rw[z,EV]at z1;cases z1
 have loop:∀ s4:aq,s4={ s3 with heap:=h₁ } ->
  codeAny ze X.A (.compLoop zD 0 (.ref it) (.ref D)<|compEnvC scope cl C X.env) (compPost ze X.A X.xe ah (EP X pins σ Q) (.ref D) C) s4:=by
  rintro s4 rfl;refine m9 (λn s'=>∃ i σ' H',Inv zT [] σ' H' s' /\ tn i s'.heap /\ (∀ b∈fp,H' b=ah) /\ W i n σ' H') _ (λ_ _ _ q=>q) ?_ m0 #[0,_,H3,IY,EU,λb hb=>(f3 b hb).1,w0];rintro n s5 ⟨i,σ5,H5,I5,uk,wg,w5⟩;have kC:∀ {α:Type}{t:Sem α}{Q1:α->aq->zk}{E1:aj->aq->zk}{ss:aq},wpAny ze X.A t Q1 (λ_ _=>False) ss->wpAny ze X.A t Q1 E1 ss:=λhw=>kn hw (λ_ _ q=>q) λ_ _ z=>False.elim z;rcases turn i n σ5 H5 w5 with⟨stop,q5⟩|⟨go,NN,hN,step⟩
  .refine kC<|cb (T.done (X.comp N scope cl s3 H3 C fp) zj zj zj hc i [] s5 σ5 H5 (λ_ _=>False) I5 (wz wg) uk stop) ?_;rintro r s6 ⟨hr,I6⟩;subst hr;let#[m6,Y8,_]:=I6.loc;show#[m6,Y8,λh' wB=>#[.ref D,H5,fin σ5 H5 s6 I6 h' wB,rfl,q5]]
  .refine kC<|cb (T.item zT zj zj zj hc i [] s5 σ5 H5 (λ_ _=>False) I5 (wz wg) uk go) ?_;rintro r s6 ⟨u,hr,h6⟩;subst hr;refine kC<|cb h6 ?_;rintro _ s7 ⟨x,H7,I7,r7,y7,wC,Y9⟩;refine kC<|cb (hg cl s3 H3 C fp _ s7 σ5 H7 x u _ (I7.pinned (wz Y9)<|T.obj _ _ wC) r7<|step x H7 y7) ?_;rintro _ s8 ⟨σ8,H8,I8,q8⟩;refine kC<|tT (hf cl s3 H3 C fp _ s8 σ8 H8 _ I8 q8) λb s9 H9 I9 q9=>?_;have again:∀ {σ9:St}{HA:Hp}{sA:aq},Inv zT ([]++ya fp s7.heap) σ9 HA sA->NN σ9 HA->∃ m,m<n /\ ∃ i σ' H',Inv zT [] σ' H' sA /\ tn i sA.heap /\ (∀ b∈fp,H' b=ah) /\ W i m σ' H':=λ{σ9 HA sA} IA nA=>by
    let#[m',hm,wA]:=hN σ9 HA nA;refine#[m',hm,i+1,σ9,HA,IA.EH,T.keep _ _ _ wC λb hb o e=>(IA.pin (b,o)<|pB _<|pB _<|iG hb e).1,λb hb=>?_,wA];let#[o,e,d]:=T.obj _ _ wC b hb;show(IA.pin (b,o)<|pB _<|pB _<|iG hb e).2.1
   cases b with
   |false=>
     rw[if_neg zc]at q9;rw[if_neg zc];show again I9 q9
   |true=>
     rw[if_pos rfl]at q9;rw[if_pos rfl];refine kC<|tE (he cl s3 H3 C fp _ s9 σ8 H9 _ I9 q9) λyv sA y HA IA rA hh=>?_;let#[ys,Za,Zb,nA]:=hh;refine kC<|cb (lU _ sA σ8 HA (.ref D) [y] (.ref D) [yv] (λ_ HB=>NN σ8 HB) IA zj (.cons rA .nil) #[D,ys,y,rfl,rfl,Za,Zb,nA]) λr sB hB=>?_;let#[_,HB,IB,_,nB]:=hB;show again IB nB
 show aaW (loop _ zj)<|T.self _ 0 _ _ _ EU<|loop _ zj
open PySem.W PySem.Builtin PySem.Builtin.ObjectAttr PySem.Builtin.Getset_descriptor
section
variable {x:ai}
def kD (x C:ai) (h:aE):zk:=∃ ox,h.get? x=ae ox /\ ox.cls=.ref C
theorem kD.type {h:aE}(I:kD x C h):Looks M h (typeOf<|.ref x) zaa:=by
 let#[ox,e,hc]:=I;show hc▸(Looks.ld e).andThen .now
theorem L9 {h:aE}(X:K.In h) {a g:aj}{name:Str}(ha:findIn K zaa name=ae (ae a)) (hg:specialIn K a "__get__"=ae (ae g)) (ht:takesIn K a=ae ag) :
 Looks M h (find (.ref x) zaa name) (.bind g a):=by
 have l4:Looks M h (dataDescriptor? (ae a)<|ae g) _:=(looks_takesIn (M:=M) X ht).andThen .now;show(Xw (M:=M) X ha).andThen ((looks_specialIn X hg).andThen<|l4.andThen<|Looks.tag .now)
theorem O9 {s:aq}{tp:aj}(X:K.In s.heap) (I:kD x C s.heap) (hm:mroIn K C (.type "object")=ae ag) (q:R (.ok<|.ret zaa) s) :
 codeAny zf A (.call (.builtin "getset_descriptor.__get__") #[[.builtin "object.__class__",.ref x,tp],[]]) R s:=by
 have l0:=I.type (M:=model prog w);have l1:=Xx (M:=model prog w) X hm;refine QP KF.slot_gs.plain KF.entry_gs
  (KF.slot_gs.check _ _ _ _ _ _ _ _ KF.type_class (KF.args_gs _ _ _) ?_)
 refine ak<|ay ?_;unfold descrGetter descrCheckInstance descrNameAndClass;erw[KF.owner_class]
 repeat (any_goals (first|assumption|with_reducible refine l0.at ?_|with_reducible refine l1.at ?_|wp_step))
 refine#[XJ _ (by decide +kernel),tZ KF.entry_class ?_];unfold Builtin.«object.__class__»;unfold shownTypeOf
 repeat (any_goals (first|assumption|with_reducible refine l0.at ?_|wp_step))
structure wD (K:Frag) (C:ai):zk where
 ga:findIn K zaa "__getattribute__"=ae (ae<|.builtin "BaseException.__getattribute__")
 gt:findIn K zaa "__getattr__"=ae ah
 cl:findIn K zaa "__class__"=ae (ae zao)
 gs:specialIn K zao "__get__"=ae (ae<|.builtin "getset_descriptor.__get__")
 tk:takesIn K zao=ae ag
 mo:mroIn K C (.type "object")=ae ag
 mb:mroIn K C (.type "BaseException")=ae ag
 cd:(clsIn K C).isSome=ag
theorem Ma {h:aE}{g:Array GenState}{d:Drawn}{t:Nat}{os:OsState}{adm:aj}{Q:Unit->aq->zk}(T:wD K C) (X:K.In h) (I:kD x C h)
 (hq:Q () #[h,g,d,t,os]):wpAny M A (checkBuiltinCall "BaseException.__getattribute__" #[[.ref x,adm],[]]) Q E #[h,g,d,t,os]:=by
 have hk:builtinKind "BaseException.__getattribute__"=ae .slot:=by decide +kernel
 have agP:splitId "BaseException.__getattribute__"=ae ("BaseException","__getattribute__"):=by decide +kernel
 have ha:=F.args_bexc_ga (.ref x) adm;have L0:=I.type (M:=M);have L1:=Xx (M:=M) X T.mb;have LI:Looks M h (isInstance (.ref x)<|.type "BaseException") ag:=L0.andThen L1;erw[checkBuiltinCall,hk,agP];refine ak<|LI.at ?_
 repeat (any_goals (first|assumption|wp_step))
theorem Mb {tk:Tok}{Q:Fin->aq->zk}{h:aE}{g:Array GenState}{d:Drawn}{t:Nat}{os:OsState}(T:wD K C) (X:K.In h) (I:kD x C h) (hq:Q (.done<|.ret zaa) #[h,g,d,t,os]) :
 wpAny zf A (Builtin.«object.__getattribute__» #[[.ref x,.str "__class__" tk],[]]) Q E #[h,g,d,t,os]:=by
 refine ak<|ay ?_
 repeat (any_goals (first|assumption|with_reducible refine(I.type (M:=model prog w)).at ?_|with_reducible refine(L9 (x:=x) (M:=model prog w) X T.cl T.gs T.tk).at ?_|wp_step))
 refine O9 X I T.mo ?_
 repeat (any_goals (first|assumption|wp_step))
theorem Pa {tk:Tok}{h:aE}{g:Array GenState}{d:Drawn}{t:Nat}{os:OsState}(T:wD K C) (X:K.In h) (I:kD x C h) (hq:R (.ok<|.ret zaa) #[h,g,d,t,os]) :
 codeAny zf A (.call (.builtin "BaseException.__getattribute__") #[[.ref x,.str "__class__" tk],[]]) R #[h,g,d,t,os]:=
 QP F.excAttr_ValueError.ga.plain F.entry_bexc_ga (Ma T X I<|Mb T X I hq)
theorem Ud {Q:Option aj->aq->zk}{s:aq}(T:wD K C) (X:K.In s.heap) (I:kD x C s.heap) (hq:Q (ae zaa) { s with toks:=s.toks+1 }) :
 wpAny zf A (getAttr? (.ref x) "__class__") Q E s:=by
 have f3:=F.excAttr_ValueError.ga.bind<|.ref x;refine ak<|wpAny_mkText<|ak<|ua ?_
 repeat (any_goals (first|assumption|with_reducible refine(I.type (M:=model prog w)).at ?_|with_reducible refine(Xw (M:=model prog w) X T.ga).at ?_|with_reducible refine(Xw (M:=model prog w) X T.gt).at ?_|wp_step))
 refine Pa T X I ?_
 repeat (any_goals (first|assumption|wp_step))
theorem Md (T:wD K C):KitX K (.ref x) zaa (kD x C) where
 ty:=λ_ _ _ I=>I.type
 it:=λ_ _ X _=>by
  let#[agQ,uo]:=Option.isSome_iff_exists.mp T.cd;unfold clsIn at uo;split at uo
  .ext c' d' agR xX ho;intro A' Q' E' s' k q;show ak<|aaK (k _ _<|X _ _ ho)<|ay q
  .cases uo
 ne:=λh tp dd its n sl X agS=>by
  let#[agQ,uo]:=Option.isSome_iff_exists.mp T.cd;refine Bool.eq_false_iff.mpr λq=>?_;have e:=Value.ref.inj<|beq_iff_eq.mp q;subst e;unfold clsIn at uo;split at uo
  .ext c' d' agR xX ho;cases ((X _ _ ho).symm.trans agS)
  .cases uo
 ca:=λX I k=>Ud T X I k
end
def uw (B:aE) (l:List Env) (ea:ai) (cls a0:aj) (h:aE):zk:=
 Heap.FlyingW B l ea cls a0 h \/ (B.StaysIn h /\ B.get? ea=ah /\ h.FunFrames B l /\
  h.get? ea=ae { cls:=cls,data:=.fields (List.toArray [a0,.none,.none,.none,.bool af,.none]) })
theorem uw.stays {B:aE}{l:List Env}{ea:ai}{cls a0:aj}{h:aE}(x:uw B l ea cls a0 h):B.StaysIn h:=x.elim (λz=>z.1) λz=>z.1
theorem uw.Zc {B:aE}{l:List Env}{ea:ai}{cls a0:aj}{h:aE}(x:uw B l ea cls a0 h):B.get? ea=ah:=x.elim (λz=>z.2.1) λz=>z.2.1
section
variable {s:aq} {B:aE} {env:Env} {L ea:ai} {cls a0:aj} {Q:Unit -> aq -> zk}
theorem Me (nI:A.frames=ae (env::outer)) (hf:env.frame=ae L) (hx:uw B (env::outer) ea cls a0 s.heap)
 (q:∀ h',uw B outer ea cls a0 h'->s.heap.UpToSlots h'->Q () { s with heap:=h' }):wpAny M A (leaving env<|.ref ea) Q E s:=by
 rcases hx with hx|⟨x1,x2,x3,x4⟩
 .show wpAny_leaves_onW nI hf hx λh' y1 y2=>q h' (.inl y1) y2
 .refine wpAny_leaving_firstW nI x3 hf x4 x1 x2 zj zj zj λh' y=>?_;let#[k1,#[_,_,k2],k3,k4]:=y;show q h' (.inl #[k1,x2,k2,k3]) k4
theorem Pb (nI:A.frames=ae (env::outer)) (hf:env.frame=ae L) (hx:uw B (env::outer) ea cls a0 s.heap)
 (q:∀ h',Heap.HeldW B (env::outer) ea cls a0 L h'->s.heap.UpToSlots h'->Q () { s with heap:=h' }):wpAny M A (noteFrame (.ref ea) env) Q E s:=by
 rcases hx with hx|⟨x1,x2,x3,x4⟩
 .show wpAny_looks_onW nI hf hx q
 .unfold noteFrame;simp[hf];refine ak<|kY x4 zj zj ?_;refine wpAny_entryW nI x3 hf x4 x1 x2 zj (by change 1<6;decide) (by rfl) λh' y=>?_;let#[k1,k2,k3,k4]:=y;show q h' #[k1,x2,k2,k3] k4
end
def dz (P:cG) (w:bH):pH:=λouter H s E e s'=>∃ (ea C:ai) (a0:aj) (B:aE) (H':Hp),
 e=.ref ea /\ s'.os=s.os /\ AllBare s'.gens /\ Un (kz outer) [] H H' s.heap s'.heap /\ cH P w H' s'.heap /\ uw B outer ea zaa a0 s'.heap /\
 (∀ b u o,H' b=ae u->s'.heap.get? b=ae o->B.get? b=ae o) /\ (∀ b o,s.heap.get? b=ae o->b∉kz outer->∃ o',B.get? b=ae o') /\ E zaa ah H'
def XE (X:Cx) (E:XK) (e:aj) (s':aq):zk:=∃ (σ':St) (H':Hp) (ea C:ai) (a0:aj) (B:aE),
 e=.ref ea /\ Inv X [] σ' H' s' /\ uw B X.stack ea zaa a0 s'.heap /\ (∀ b u o,H' b=ae u->s'.heap.get? b=ae o->B.get? b=ae o) /\
 (∀ p∈X.pn,B.get? p.1=ae p.2) /\ (∀ b o,X.s₀.heap.get? b=ae o->b∉X.fs->b∉X.ex->∃ o',B.get? b=ae o') /\ E zaa ah H'
def vm (X:Cx) (E:XK):zk:=∀ e s',XE X E e s'->X.xe e s'
theorem FD {s':aq}{B h:aE}(I:Inv X pins σ H' s') (u:s'.heap.UpToSlots h) (st:B.StaysIn s'.heap) (sh:B.StaysIn h)
 (old:∀ b o,X.s₀.heap.get? b=ae o->b∉X.fs->b∉X.ex->∃ o',B.get? b=ae o'):Un X.fs X.ex X.H₀ H' X.s₀.heap h where
 keep:=λb o e n hb hx=>by
  let#[o',q]:=old b o e hb hx;have q2:=st b o' q;rw[(I.base.keep b o e n hb hx)]at q2;cases q2;show sh b _ q
 slot:=λb o e n hb hx=>by
  let#[sl,q1]:=I.base.slot b o e n hb hx;let#[_,agT,q2,d]:=I.ok.k8.mem hb;rw[e]at q2;cases q2;let#[xX,q3]:=u b _ q1 d;show#[xX,q3]
 free:=I.base.free
 there:=λb o e hx=>by
  by_cases hb:b∈X.fs
  .let#[sl,q1]:=I.base.slot b o e (I.ok.rh b hb) hb hx;let#[_,agT,q2,d]:=I.ok.k8.mem hb;rw[e]at q2;cases q2;let#[xX,q3]:=u b _ q1 d;show#[_,q3]
  .let#[o',q]:=old b o e hb hx;show#[o',sh b o' q]
 kJ:=I.base.kJ
 k7:=I.base.k7
 nR:=I.base.nR
theorem GE {h B:aE}(k:cH P w H' h) (sh:B.StaysIn h') (tr:∀ b u o,H' b=ae u->h.get? b=ae o->B.get? b=ae o):cH P w H' h':=λa o e=>
 (k a o e).eZ (λb u hb q=>sh b u<|hb.elim (λz=>tr b o u (z▸e) q) λz=>tr b _ u z q) (λ_ q=>q) λ_ _ q=>q
theorem GF {s':aq}{B h:aE}(I:Inv X [] σ H' s') (u:s'.heap.UpToSlots h) (st:B.StaysIn s'.heap) (sh:B.StaysIn h)
 (tr:∀ b u o,H' b=ae u->s'.heap.get? b=ae o->B.get? b=ae o) (pn:∀ p∈X.pn,B.get? p.1=ae p.2)
 (old:∀ b o,X.s₀.heap.get? b=ae o->b∉X.fs->b∉X.ex->∃ o',B.get? b=ae o'):Inv X [] σ H' { s' with heap:=h }:=by
 have cellK:∀ c v,s'.heap.IsCell c v->h.IsCell c v:=λc v ⟨o,e,d⟩=>by
  let#[sl,q]:=u c o e (λvs z=>by rw[d]at z;cases z);show#[_,q,d]
 refine#[I.ok,I.os,I.bare,FD I u st sh old,?_,λx c e=>?_,I.free,I.nG,λp hp=>?_,GE I.aF sh tr,I.len]
 .let#[m,hn,hl]:=I.loc;refine#[m,u.ns hn,λi x v e1 e2 e3=>?_];let#[w',r,l]:=hl i x v e1 e2 e3;refine#[w',r,?_];rcases l with l|⟨k,c,e,z⟩
  .show .inl l
  .show .inr #[k,c,e,cellK c _ z]
 .let#[v,z]:=I.cell x c e;show#[v,cellK c v z]
 .let#[e,n,r]:=I.pin p hp;rw[qv]at hp;show#[sh _ _<|pn p hp,n,r]
theorem Inv.adn {s:aq}(I:Inv X pins σ H s):Inv X [] σ H s:=I.XT λp hp=>absurd hp zg
theorem vm.passes {E:XK}(l:vm X E):Passes (dz X.prog X.w) X E:=by
 intro pins σ H s e s' I h;let#[ea,C,a0,B,H',he,os,bare,un,aF,ex,tr,old,q]:=h;have Zd:∀ b,b≠X.env.locals->b∉X.fs->b∉kz X.stack:=λb h1 h2 z=>by
  rcases bz.mp (I.xW b z) with y|y
  .show h1 y
  .show h2 y
 refine l e s' #[σ,H',ea,C,a0,B,he,(I.XX os un aF bare λb z=>absurd z zg).adn,ex,tr,λp hp=>?_,λb o e hb hx=>?_,q]
 .let#[e1,n1,n2,n3,_]:=I.pin p<|pU _ hp;let#[o',q1]:=old p.1 p.2 e1<|Zd _ n2 n3;have q3:=ex.stays _ _ q1;rw[(un.keep p.1 p.2 e1 n1 (Zd _ n2 n3) zg)]at q3;cases q3;show q1
 .let#[o1,e1]:=I.base.there b o e hx;show old b o1 e1<|Zd b (bJ<|eG (ba e) I.ok.above) hb
theorem Dv {scope:bK}{cd:aj}{s:aq}{E:XK} :
 vm (qB (dz P w) P w K mg base N qual scope f cd A outer s H E) E:=by
 intro e s' h;let#[σ',H',ea,C,a0,B,he,I,ex,tr,pn,old,q]:=h;subst he;refine Me I.ok.frames zj ex λh' y1 y2=>?_;refine#[ea,C,a0,B,H',rfl,I.os,I.bare,FD I y2 ex.stays y1.stays old,GE I.aF y1.stays tr,y1,λb u o e1 e2=>?_,λb o e1 e2=>old b o e1 e2 (by intro z;show absurd (show b∈([]) from z) zg),q];obtain⟨o1,q1⟩:∃ o1,s'.heap.get? b=ae o1:=by
  rcases(I.aF b u e1) with _;cases z:s'.heap.get? b with
  |some o1=>show#[o1,rfl]
  |none=>
    exfalso
    have k:=I.aF b u e1;cases u with
    |lst xs=>let#[_,_,_,_,e]:=k;rw[z]at e;cases e
    |tup xs=>let#[_,_,_,ob,e,_]:=k;rw[z]at e;cases e
    |dK ao=>let#[_,_,_,_,o,_,_,e,_]:=k;rw[z]at e;cases e
    |dT ao=>let#[_,_,_,_,o,_,_,e,_]:=k;rw[z]at e;cases e
    |set S n=>let#[o,_,_,_,e,_]:=k;rw[z]at e;cases e
    |ins C dx fs=>let#[_,_,_,e,_]:=k;rw[z]at e;cases e
    |own y=>let#[_,e]:=k;rw[z]at e;cases e
    |xd fs=>let#[_,#[_,_,_,e,_],_]:=k;rw[z]at e;cases e
    |xQ lo hi=>let#[_,_,_,e]:=k;rw[z]at e;cases e
    |bF ob u=>let#[e,_]:=k;rw[z]at e;cases e
    |rf ps=>have e:s'.heap.get? b=ae _:=k;rw[z]at e;cases e
    |met f y=>have e:s'.heap.get? b=ae _:=k;rw[z]at e;cases e
    |ext φ=>let#[_,#[_,e],_]:=k;rw[z]at e;cases e
 have q2:=tr b u o1 e1 q1;have q3:=y1.stays b o1 q2;rw[e2]at q3;cases q3;show q2
noncomputable abbrev Ze:List aj:=[.type "ValueError",.type "Exception",.type "BaseException",.type "object"]
theorem Pc {h:aE}{ado:List aj}{adp:String}(X:K.In h) (q:excIn K C ado adp=ag) :
 ∃ bm N nm qn bs hd sn sub ab col dd k0 k1 k2 k3 k5 mN,h.get? C=ae (excClassObj nm qn C N bs bm hd sn sub ab col dd k0 k1 k2 k3 k5 adp) /\ h.Ns N mN /\ mN "__init__"=ah /\ OwnTail h ado bm:=by
 unfold excIn at q;split at q
 .ext dd cd sl ho;split at q
  .ext C1 bm k0 k1 k2 k3 nw k5 mr hs;simp[aL,beq_iff_eq,pz]at q;let#[#[#[#[#[rfl,rfl],z1],z2],z3],z4]:=q;let#[nm,bs,mro,ns,qn,hd,sn,sub,ab,col,del]:=cd;subst mr z1;have es:sl=(List.toArray [k0,k1,k2,k3,ae<|.builtin nw,k5]):=by
    cases sl;show congrArg Array.mk hs
   subst es;show#[bm,ns,nm,qn,bs,hd,sn,sub,ab,col,dd,k0,k1,k2,k3,k5,_,X _ _ ho,
    .of_isNs (isNs_of_in X z3),nsMap_none_of_in X z3 z4,tail_of_in X z2]
  .cases q
 .cases q
theorem Pd {E:XK}{s:aq}{ea:ai}(l:vm X E) (I:Inv X pins σ H s) (m:Heap.MadeExcOf s.heap h' ea zaa vs) (q:E zaa ah H) :
 X.xe (.ref ea) { s with heap:=h' }:=by
 let#[t,e1,e2,e3]:=m.there;have fr:h'.FunFrames (hideAll s.heap<|kz X.stack) X.stack:=by
  show(funFrames_hide I.stack λenv he b hb=>List.mem_filterMap.mpr #[env,he,hb]).of_keeps λb o e _=>#[o,m.keeps b o e,rfl]
 have nh:∀ b o,s.heap.get? b=ae o->b∉kz X.stack->(hideAll s.heap<|kz X.stack).get? b=ae o:=λb o e hb=>hideAll_get _ e hb;refine l _ _ #[σ,H,ea,C,.ref t,hideAll s.heap<|kz X.stack,rfl,(I.kept m.keeps).adn,.inr #[λb o e=>m.keeps b o<|of_hideAll _ e,?_,fr,e1],λb u o eb eo=>?_,λp hp=>?_,λb o e hb hx=>?_,q]
 .cases z:(hideAll s.heap<|kz X.stack).get? ea with
  |none=>rfl
  |some o=>have:=of_hideAll _ z;rw[m.new]at this;cases this
 .cases z:s.heap.get? b with
  |some o1=>
    have:=m.keeps b o1 z;rw[this]at eo;cases eo;show nh b _ z (λz=>by rw[I.XS b z]at eb;cases eb)
  |none=>show absurd ((I.aF b u eb).lt) (by intro hl;show absurd z (by
   intro z';have k:=I.aF b u eb;cases u with
   |lst xs=>let#[_,_,_,_,e]:=k;rw[z]at e;cases e
   |tup xs=>let#[_,_,_,ob,e,_]:=k;rw[z]at e;cases e
   |dK ao=>let#[_,_,_,_,o,_,_,e,_]:=k;rw[z]at e;cases e
   |dT ao=>let#[_,_,_,_,o,_,_,e,_]:=k;rw[z]at e;cases e
   |set S n=>let#[o,_,_,_,e,_]:=k;rw[z]at e;cases e
   |ins C dx fs=>let#[_,_,_,e,_]:=k;rw[z]at e;cases e
   |own y=>let#[_,e]:=k;rw[z]at e;cases e
   |xd fs=>let#[_,#[_,_,_,e,_],_]:=k;rw[z]at e;cases e
   |xQ lo hi=>let#[_,_,_,e]:=k;rw[z]at e;cases e
   |bF ob u=>let#[e,_]:=k;rw[z]at e;cases e
   |rf ps=>have e:s.heap.get? b=ae _:=k;rw[z]at e;cases e
   |met f y=>have e:s.heap.get? b=ae _:=k;rw[z]at e;cases e
   |ext φ=>let#[_,#[_,e],_]:=k;rw[z]at e;cases e))
 .let#[e1,n1,n2,n3,_]:=I.pin p<|pU _ hp;show nh _ _ e1 λz=>(bz.mp<|I.xW p.1 z).elim n2 n3
 .let#[o1,q1]:=I.base.there b o e hx;show#[o1,nh b o1 q1 λz=>(bz.mp<|I.xW b z).elim (bJ<|eG (ba e) I.ok.above) hb]
theorem Mf {te:TE}{E:XK}{np cJ:aK}(hc:X.calm=ag) (l:vm X E) (hg:Gl X x) (hm:X.mg x=ae zaa) (q:excIn X.K C Ze "ValueError.__new__"=ag) (he:PE X e te)
 (hs:starEach [e] X.env=[zae]:=by rfl) (hd:(x==("__debug__":Str))=af:=by decide) :
 PS X (.Raise (ae<|.Call (.Name x np) [e] [] cJ) ah pos) (λ_ σ H=>te σ H λv H1=>[v].length=1 /\ E zaa ah H1):=by
 intro pins s σ H D I h;let#[bm,N,nm,qn,bs,EW,sn,sub,ab,col,dd,k0,k1,k2,k3,k5,mN,hC,hN,agU,T]:=Pc I.mod.vc q;refine wpAny_Raise_call_subT (C:=C) (nm:=nm) (q:=qn) (N:=N) (bs:=bs) (hdct:=EW) (sn:=sn) (sub:=sub) (ab:=ab) (col:=col) (dd:=dd)
  (k0:=k0) (k1:=k1) (k2:=k2) (k3:=k3) (k5:=k5) PySem.F.excBase_ValueError (T.hasType PySem.F.excBase_ValueError.hasBase) (I.ok.hd hc) (by rw[hs];rfl) agU ?_
 refine tE (gp (v:=.ref C) (pos:=np) hg hm zj hd pins s σ H (λv H1=>v=.ref C /\ H1=H) I #[rfl,rfl]) λf s1 v H1 I1 r1 hh=>?_;let#[e1,e2]:=hh;subst e1;subst e2;refine#[r1,?_];rw[hs];refine XG ?_;have hA:=(fw he fR (by rw[hs];rfl)) cJ pins s1 σ H1 (λvs H2=>vs.length=1 /\ E zaa ah H2) I1 h;rw[hs]at hA;refine tA hA λus s2 vs H2 I2 r2 hh=>?_;let#[e3,q2]:=hh;refine#[rfl,?_,I2.bk _ _ hC,hN.keeps I2.bk,T.keeps I2.bk,λh' ea m=>Pd l I2 m q2];rw[<-r2.length,e3];decide
theorem JI {s:aq}{ea R:ai}{Q:Bool->aq->zk}(X:K.In s.heap) (I:kD ea C s.heap)
 (hk:kitCls K zaa (.ref R)=ae ag) (hb:mroIn K R (.type "BaseException")=ae ag) (q:Q ag s):wpAny M A (excMatches (.ref ea)<|.ref R) Q E s:=by
 let#[l1,l2,l3]:=kit_cls X hk;have f:=tc_notTuple
 repeat (any_goals (first|assumption|with_reducible refine l1.at ?_|with_reducible refine l2.at ?_|with_reducible refine l3.at ?_|with_reducible refine(Xx (M:=M) X hb).at ?_|with_reducible refine(I.type (M:=M)).at ?_|wp_step))
noncomputable abbrev Cx.rF (X:Cx) (pn:List<|ai×aV) (E:XK):Cx:={ X with pn:=pn,xe:=XE { X with pn:=pn } E }
noncomputable abbrev Cx.hand (X:Cx) (pn:List<|ai×aV) (ea:ai):Cx:={ X with pn:=pn,A:=X.A.mark (ae<|.ref ea),calm:=af,xe:=λ_ _=>False }
theorem Inv.turn {Y:Cx}{vd:List (ai×aV)}{s:aq}(I:Inv X pins σ H s) (hp:∀ p∈Y.pn++vd,p∈X.pn++pins) (hf:Y.A.frames=ae Y.stack) (hd:Y.calm=ag->Y.A.handled=ah)
 (h1:Y.prog=X.prog:=by rfl) (h2:Y.w=X.w:=by rfl) (h3:Y.K=X.K:=by rfl) (h4:Y.mg=X.mg:=by rfl) (h5:Y.base=X.base:=by rfl) (h6:Y.N=X.N:=by rfl) (h7:Y.s₀=X.s₀:=by rfl) (h8:Y.H₀=X.H₀:=by rfl) (h9:Y.env=X.env:=by rfl)
 (ha:Y.outer=X.outer:=by rfl) (hb:Y.stack=X.stack:=by rfl) (hc:Y.ex=X.ex:=by rfl) (he:Y.fn=X.fn:=by rfl):Inv Y vd σ H s:=by
 let#[yp,yw,yK,akE,akF,yA,yN,akG,akH,akI,akJ,akK,akL,akM,akN,akO,akP]:=Y;dsimp only at h1 h2 h3 h4 h5 h6 h7 h8 h9 ha hb hc he hp hf hd;subst h1 h2 h3 h4 h5 h6 h7 h8 h9 ha hb hc he;show#[#[I.ok.mod,I.ok.kind,I.ok.glob,I.ok.blt,I.ok.above,I.ok.inj,I.ok.has,I.ok.xT,hd,hf,I.ok.EE,I.ok.v9,I.ok.bs,I.ok.sM,I.ok.xV,I.ok.wa,I.ok.k8,I.ok.rh],
  I.os,I.bare,I.base,I.loc,I.cell,I.free,I.nG,λp q=>I.pin p<|hp p q,I.aF,I.len]
theorem B5 {pn:List (ai×aV)}{E:XK}:vm (X.rF pn E) E:=by
 intro e s' h;let#[σ',H',ea,C,a0,B,he,I,ex,tr,hp,old,q]:=h;show#[σ',H',ea,C,a0,B,he,I.turn (λp z=>z) I.ok.frames I.ok.hd,ex,tr,hp,old,q]
theorem SP.turn {Y:Cx}{vd:List (ai×aV)}{D:Ends}{f:Flow}{s':aq}(k:∀ σ H,Inv X pins σ H s'->Inv Y vd σ H s') (h:SP X pins D f s'):SP Y vd D f s':=by
 cases f with
 |ret u=>let#[v,σ',H',I,r,q]:=h;show#[v,σ',H',k _ _ I,r,q]
 |_=>let#[σ',H',I,q]:=h;show#[σ',H',k _ _ I,q]
theorem Inv.watch {s:aq}{φ:aE->zk}(I:Inv X pins σ H s) (hn:H a=ah) (hL:a≠X.env.locals) (hC:∀ x c,X.env.cells.lookup x=ae c->c≠a)
 (hp:∀ p∈X.pn++pins,p.1≠a) (ho:∀ b o,X.s₀.heap.get? b=ae o->b∉X.ex->b≠a) (new:dn X.prog X.w (upd H a<|.ext φ) s.heap a<|.ext φ):Inv X pins σ (upd H a<|.ext φ) s:=by
 have ne:∀ b u,H b=ae u->b≠a:=λb u e z=>by rw[z,hn]at e;cases e
 refine#[I.ok,I.os,I.bare,#[I.base.keep,I.base.slot,λb o e n hx=>?_,I.base.there,λb xs e=>?_,λb o u e=>?_,λb ps e=>?_],I.loc,I.cell,?_,λx c e=>?_,λp q=>?_,λb o e=>?_,I.len]
 .rw[fu<|ho b o e hx];show I.base.free b o e n hx
 .have z:=I.base.kJ b xs e;rw[fu<|ne b _ z];show z
 .have z:=I.base.k7 b o u e;rw[fu<|ne b _ z];show z
 .let#[more,z]:=I.base.nR b ps e;show#[more,by rw[fu<|ne b _ z];show z]
 .rw[fu hL.symm];show I.free
 .rw[fu<|hC x c e];show I.nG x c e
 .let#[q1,q2,q3]:=I.pin p q;show#[q1,by rw[fu<|hp p q];show q2,q3]
 .by_cases hb:b=a
  .subst hb;rw[fv]at e;cases e;show new
  .rw[fu hb]at e;show(I.aF b o e).eZ (λ_ _ _ z=>z) (λc z=>by rw[fu<|ne c _ z];show z) λc xs z=>by rw[fu<|ne c _ z];show z
theorem Inv.gone {s:aq}{i:Nat}{n:Str}{m:Str->Option aj}{v:Option aj}(I:Inv X pins σ H s) (hN:X.N.Nodup) (hi:X.N[i]?=ae n)
 (hm:∀ (j:Nat) (x:Str) (v:V),X.N[j]?=ae x->σ[j]?=ae (ae v)->sL X.env.scope x->∃ u,RelV v u /\ Look X.env s.heap m x u)
 (hn:h'.Ns X.env.locals λx=>if x=n then v else m x) (sb:Heap.SameBut X.env.locals s.heap h'):Inv X pins (σ.set i ah) H { s with heap:=h',toks:=t' }:=by
 have kp:=λb o hb e=>sb.extBut b o hb e;have old:∀ b o,X.s₀.heap.get? b=ae o->b≠X.env.locals:=λb o e=>bJ<|eG (ba e) I.ok.above;refine#[I.ok,I.os,I.bare,#[λb o e n hb hx=>kp b o (old b o e)<|I.base.keep b o e n hb hx,λb o e n hb hx=>?_,I.base.free,λb o e hx=>?_,I.base.kJ,I.base.k7,I.base.nR],#[_,hn,λj x w e1 e2 e3=>?_],λx c e=>?_,I.free,I.nG,λp q=>?_,λb o e=>?_,by rw[qW];show I.len]
 .let#[sl,q]:=I.base.slot b o e n hb hx;show#[sl,kp b _ (old b o e) q]
 .let#[o',q]:=I.base.there b o e hx;show#[o',kp b _ (old b o e) q]
 .by_cases hj:j=i
  .subst hj;by_cases hl:j<σ.length
   .rw[pV hl]at e2;cases e2
   .rw[qX (by rw[qW];lia)]at e2;cases e2
  .rw[sC<|Ne.symm hj]at e2;let#[u,r,l]:=hm j x w e1 e2 e3;refine#[u,r,?_];rcases l with⟨k,e⟩|⟨k,c,e,z⟩
   .refine .inl #[k,?_];have:x≠n:=λq=>hj<|AJ hN e1<|q▸hi;change (if x=n then v else m x)=ae u;rw[if_neg this];show e
   .let#[o,eo,d]:=z;show .inr #[k,c,e,o,kp c o (I.ug x c e) eo,d]
 .let#[w,o,eo,d]:=I.cell x c e;show#[w,o,kp c o (I.ug x c e) eo,d]
 .let#[q1,q2,q3,q4]:=I.pin p q;show#[kp _ _ q3 q1,q2,q3,q4]
 .refine(I.aF b o e).eZ (λc w hc q=>kp c w (λz=>?_) q) (λ_ q=>q) λ_ _ q=>q;rcases hc with z1|z1
  .rw[<-z1,z,I.free]at e;cases e
  .rw[z,I.free]at z1;cases z1
noncomputable def adq (i:Nat) (D:Ends):Ends:={ nx:=λσ H=>D.nx (σ.set i ah) H,rt:=D.rt,bk:=λσ H=>D.bk (σ.set i ah) H,ct:=λσ H=>D.ct (σ.set i ah) H }
def agV (K:Frag) (len:Nat) (Ra:ai) (i:Nat) (E:XK) (tb ts:TS):TS:=λD σ H=>tb D σ H /\ ∀ (σ':St) (ea C:ai) (H':Hp),σ'.length=len->E zaa ah H'->H' ea=ah ->
 kitCls K zaa (.ref Ra)=ae ag /\ ts (adq i D) (σ'.set i<|ae<|.ref ea) (upd H' ea<|.ext (kD ea C))
theorem Ue {body ads:List bp}{b₀:bp}{R n:Str}{Ra L:ai}{i:Nat}{E:XK}{tb ts:TS}{rp wF:aK}(pD:X.stack=X.env::X.outer) (nI:X.env.frame=ae L) (Ky:L=X.env.locals)
 (hg:Gl X R) (hm:X.mg R=ae (.ref Ra)) (agW:mroIn X.K Ra (.type "BaseException")=ae ag) (hN:X.N.Nodup) (hi:X.N[i]?=ae n) (hn:X.env.kindOf n=ae .local)
 (hb:∀ pn,dD (X.rF pn E) body tb) (agX:∀ pn ea,dD (X.hand pn ea) (b₀::ads) ts) (hd:(R==("__debug__":Str))=af:=by decide) :
 PS X (.Try body [.ExceptHandler (ae<|.Name R rp) (ae n) (b₀::ads) wF] [] [] pos) (agV X.K X.N.length Ra i E tb ts):=by
 intro pins s σ H D I ⟨h1,h2⟩;have I0:Inv (X.rF (X.pn++pins) E) [] σ H s:=I.turn (λp z=>by simpa using z) I.ok.frames I.ok.hd;have back:∀ {Y} (s') (σ') (H'),Y=X.rF (X.pn++pins) E->Inv Y [] σ' H' s'->Inv X pins σ' H' s':=λ{Y} s' σ' H' e J=>by
  subst e;show J.turn (λp z=>by simpa using z) I.ok.frames I.ok.hd
 refine wpAny_Try_except<|kn (hb _ [] s σ H D I0 h1) (λf s1 q=>?_) λe s1 q=>?_
 .have q':=q.turn λσ' H' J=>back s1 σ' H' zj J;cases f with
  |next=>show Ib q'
  |ret u=>show q'
  |_=>show q'
 .let#[σ1,H1,ea,C,a0,B,he,I1,ex,tr,Zf,old,hE]:=q;subst he;have kC:∀ {α}{t}{A1}{Q1:α->aq->zk}{E1}{ss},wpAny ze A1 t Q1 (λ_ _=>False) ss->wpAny ze A1 t Q1 E1 ss:=λhw=>kn hw (λ_ _ q=>q) λ_ _ z=>False.elim z;refine Pb (by rw[<-pD];show I.ok.frames) nI (by rw[<-pD];show ex) λh4 hh u4=>?_;refine wpAny_landsW hh λh5 Zg u5=>?_;have adt:Inv (X.hand (X.pn++pins) ea) [] σ1 H1 { s1 with heap:=h5 }:=(GF I1 (u4.trans u5) ex.stays Zg.1 tr Zf old).turn (λp z=>z) I.ok.frames λz=>nomatch z;have Kz:H1 ea=ah:=by
   cases z:H1 ea with
   |none=>rfl
   |some u=>
     let#[o,eo,_]:=ex.elim (λy=>y.there) λy=>#[_,y.2.2.2,rfl];have:=tr ea u o z eo;rw[ex.Zc]at this;cases this
  let#[hk,agY]:=h2 σ1 ea C H1 I1.len hE Kz;refine wpAny_handleBy_cons (codeAny_handlers_test<|kC ?_) (by intro z;cases z);refine mX adt hg hm ?_ hd;let#[o5,agZ,ag0]:=Zg.there;refine JI adt.cY #[o5,agZ,ag0] hk agW ?_;refine codeAny_handlers_suite_as<|lands_againW Zg λh6 Zh u6=>?_;have u:=(u4.trans u5).trans u6;have Zi:Inv (X.hand (X.pn++pins) ea) [] σ1 H1 { s1 with heap:=h6 }:=(GF I1 u ex.stays Zh.1 tr Zf old).turn (λp z=>z) I.ok.frames λz=>nomatch z;let#[oe,vs,EX,Kc,Zj,_]:=Zh.first;have I7:Inv (X.hand (X.pn++pins) ea) [] σ1 (upd H1 ea<|.ext (kD ea C)) { s1 with heap:=h6 }:=by
   refine Zi.watch Kz (λz=>?_) (λx c e z=>?_) (λp q z=>?_) (λb o e hx z=>?_) #[#[oe,EX,Kc],#[oe,EX],λg1 g2 ⟨o,e1,e2⟩ k=>#[o,k o e1,e2]]
   .let#[m,#[o,es,ep,e1,e2,_],_]:=Zi.loc;have p9:h6.get? ea=ae o:=by rw[z];show e1
    rw[EX]at p9;cases p9;rw[Zj]at e2;cases e2
   .let#[v,o,e1,e2]:=Zi.cell x c e;have p9:h6.get? ea=ae o:=by rw[<-z];show e1
    rw[EX]at p9;cases p9;rw[Zj]at e2;cases e2
   .have:=Zf p (by simpa using q);rw[z,ex.Zc]at this;cases this
   .subst z;by_cases hf:b∈X.fs
    .let#[sl,q1]:=(FD I1 u ex.stays Zh.1 old).slot b o e (I.ok.rh b hf) hf hx;let#[_,o2,q2,d]:=I.ok.k8.mem hf;rw[e]at q2;cases q2;rw[EX]at q1;have q3:oe.data=o.data:=by cases q1;rfl
     show d vs (by rw[<-q3];show Zj)
    .let#[o',q1]:=old b o e hf hx;rw[ex.Zc]at q1;cases q1
  refine kC<|jG (X:=X.hand (X.pn++pins) ea) I7 hN hi (.inl hn) (v:=.ref ea) zj (λs8 I8=>?_)<|.inr hn;refine kC<|cb (agX _ ea [] s8 _ _ (adq i D) I8 agY) λf s9 q9=>?_
  have fin:∀ (σ9:St) (H9:Hp) (Z:Flow->aq->zk),Inv (X.hand (X.pn++pins) ea) [] σ9 H9 s9->(∀ sA,Inv X pins (σ9.set i ah) H9 sA->Z f sA) ->
   wpAny ze X.A (do bindName X.env n .none;unbindBehindTheSuite X.env n wF) (λ_ sA=>Z f sA) X.xe s9:=λσ9 H9 Z I9 k=>by
   have adu:Inv X pins σ9 H9 s9:=I9.turn (λp z=>by simpa using z) I.ok.frames I.ok.hd;let#[m,ag1,ag2]:=adu.loc;show wpAny_nameGoes_keeps hn ag1 (by rw[I.ok.kind];rfl) λh' v uh sb=>k _<|adu.gone hN hi ag2 uh sb
  change wpAny ze X.A (do bindName X.env n .none;unbindBehindTheSuite X.env n wF) (λ_ sA=>SP X pins D f sA) X.xe s9;cases f with
  |ret u=>let#[v,σ9,H9,I9,r,q]:=q9;show fin σ9 H9 (SP X pins D) I9 λsA IA=>#[v,_,_,IA,r,q]
  |_=>let#[σ9,H9,I9,q]:=q9;show fin σ9 H9 (SP X pins D) I9 λsA IA=>#[_,_,IA,q]
structure qb (k:Nat) (A:cE):zk where
 dp:A.depth+3*k+5<recursionLimit
 un:A.units+16*k+200<cLine
theorem cg.h {k:Nat}(r:cg k A):qb k A:=#[r.dp,r.un]
theorem qb.mark {k:Nat}{A:cE}{e:Option aj}(r:qb k A):qb k (A.mark e):=#[r.dp,r.un]
theorem qb.deeper {k:Nat}{A:cE}(r:qb (k+1) A) (env:Env):qb k (A.deeper env):=
 #[by have:=r.dp;change A.depth+1+3*k+5<_;lia,by have:=r.un;change A.units+3+16*k+200<_;lia]
theorem qb.depth {k:Nat}{A:cE}(r:qb k A):A.depth<recursionLimit:=by have:=r.dp;lia
structure EY (P:cG) (w:bH) (K:PySem.W.Frag) (mg:Str->Option aj) (base:aE) (CX:pH) (k:Nat) (f:ai) (fd:FuncData) (ps:List Str) (sp:Sp):zk where
 len:∀ vs H Q E,sp vs H Q E->vs.length=ps.length
 run:∀ (A:cE) (outer:List Env) (s:aq) (H:Hp) (args:Args) (us:List aj) (vs:List V) (Q:VK) (E:XK),qb k A->wq P w K mg base A outer s H->BindsTo s fd args (ps.zip us)->Vals vs us->sp vs H Q E ->
  codeAny (model P w) A (.call (.ref f) args) (CR CX outer P w H s Q E) s
abbrev KA (CX:pH) (P:cG) (w:bH) (K:PySem.W.Frag) (mg:Str->Option aj) (base:aE) (N:List Str) (qual:Str) (scope:bK) (f:ai) (cd:aj) (A:cE) (outer:List Env) (s:aq) (H:Hp) (E:XK):Cx:=
 { qB CX P w K mg base N qual scope f cd A outer s H E with calm:=af }
theorem Uf {k:Nat}{name:Str}{params:Arguments}{body:List bp}{scope:bK}{dV kV doc pm cdv ct oc:aj}{an od:Option ai}
 {ps:List Str}(lk:K.lookup f=ae #[oc,od,.func<|PySem.W.fnOf name qual params body scope dV kV doc pm an cdv ct,pf]) (dI:PySem.W.codeIn K cdv qual=ag) (S:rn N ps scope)
  (len:∀ vs H Q E,sp vs H Q E->vs.length=ps.length)
  (nU:∀ (A:cE) (outer:List Env) (s:aq) (H:Hp) (vs:List V) (Q:VK) (E:XK),qb k (A.deeper<|envOfC qual scope s.heap.objs.size f cdv)->sp vs H Q E ->
   ∃ t,dD (KA CX P w K mg base N qual scope f cdv A outer s H E) body t /\ t { nx:=λ_ H'=>Q .aB H',rt:=Q } (start N vs) H) :
  EY P w K mg base CX (k+1) f (PySem.W.fnOf name qual params body scope dV kV doc pm an cdv ct) ps sp:=by
  refine#[len,λA outer s H args us vs Q E hr e0 hb r pY=>?_];have KX:=e0.mod.vc.keeps λb o e=>(e0.bs b o e).1;refine aaM hr.depth (KX _ _ lk) zj S.co S.gen zj (ab6 KX dI)<|hb _ _ _ _ ?_;refine aaN S.kind (λ⟨n,v⟩ hy=>by
   rcases S.par n (Ir hy).1 with q|q
   .show .inl q
   .show .inr #[q,Xv _ _ _<|.inl q]) λenv he s1 x=>?_
  subst he;refine#[(e0.mod.nolimit.keeps λb o e=>(e0.bs b o e).1).keeps x.toInCall.keep,aaO ?_];let#[t,ht,hq]:=nU A outer s H vs Q E (hr.deeper _) pY;have I0:Inv (qB CX P w K mg base N qual scope f cdv { A with handled:=ah } outer s H E) [] (start N vs) H s1:=BY S zj #[e0.frames,e0.mod,e0.bs,e0.sM,e0.k8,e0.rh,e0.aF,e0.bare] (len _ _ _ _ pY) r x;refine kn (ht [] s1 (start N vs) H _ (I0.turn (λp z=>z) (acs e0.frames) λz=>nomatch z) hq) (λfl s' hs=>?_) λe s' hs=>hs;have fin:∀ {σ'}{H'}{v}{u},Inv (KA CX P w K mg base N qual scope f cdv A outer s H E) [] σ' H' s'->RelV v u->Q v H'->CE outer P w H s Q u s' :=
   λ{σ' H' v u} J rv q=>#[v,H',J.os,J.bare,J.base,J.aF,rv,q]
  cases fl with
  |ret u=>
    let#[v,σ',H',J,rv,q]:=hs;show fin J rv q
  |next=>
    let#[σ',H',J,q]:=hs;show fin (v:=V.aB) J zj q
  |brk=>
    let#[_,_,_,q]:=hs;show False.elim q
  |cont=>
    let#[_,_,_,q]:=hs;show False.elim q
theorem eD.ag3 {ps:List Str}{k:Nat}(F:eD K x qual st f fd) (S:rn N ps<|fE st) (len:∀ vs H Q E,sp vs H Q E->vs.length=ps.length)
 (nU:∀ (cdv:aj) (A:cE) (outer:List Env) (s:aq) (H:Hp) (vs:List V) (Q:VK) (E:XK),qb k z7->sp vs H Q E ->
  ∃ t,dD (KA rC P w K mg base N qual (fE st) f cdv A outer s H E).ui (f8 st) t /\ t { nx:=λ_ H'=>Q .aB H',rt:=Q } (start N vs) H):EY P w K mg base rC (k+1) f fd ps sp:=by
 let#[oc,od,kV,doc,pm,an,cdv,ct,pf,rfl,lk,dI]:=F.ex;refine Uf lk dI S len λA outer s H vs Q E hr pY=>?_;let#[t,h,q]:=nU cdv A outer s H vs Q E hr pY;show#[t,h.ui,q]
theorem eD.ag4 {ps:List Str}{k:Nat}(F:eD K x qual st f fd) (S:rn N ps<|fE st) (len:∀ vs H Q E,sp vs H Q E->vs.length=ps.length)
 (nU:∀ (cdv:aj) (A:cE) (outer:List Env) (s:aq) (H:Hp) (vs:List V) (Q:VK) (E:XK),cg k z7->sp vs H Q E ->
  ∃ t,dD (qB (dz P w) P w K mg base N qual (fE st) f cdv A outer s H E) (f8 st) t /\ t { nx:=λ_ H'=>Q .aB H',rt:=Q } (start N vs) H):cZ P w K mg base (dz P w) (k+1) f fd ps sp:=by
 let#[oc,od,kV,doc,pm,an,cdv,ct,pf,rfl,lk,dI]:=F.ex;show S7 lk dI S len λA outer s H vs Q E hr pY=>nU cdv A outer s H vs Q E hr pY
section
variable {k:Nat} {ps:List Str} {ez:List V} {ds:List aj} {E:XK} {m:Str} {p:aK} {o:au} {ta:TE} {t:TA}
theorem Mg (F:EY X.prog X.w X.K X.mg X.base CX k f fd ps sp) (hr:qb k X.A) (hg:Gl X x) (hm:X.mg x=ae (.ref f)) (hk:PySem.W.keepIn X.K (.ref f)=ag) (hb:Binds X.K fd ps ds) (hd:Vals ez ds) (hx:Passes CX X E)
 (ha:PA X (e::es) t) (dg:(x==("__debug__":Str))=af:=by decide) (he:starEach (e::es) X.env=zae::starEach es X.env:=by rfl) (eA:(backTo pos<|starEach es X.env).any (·.1)=af:=by rfl) :
 PE X zJ (YU sp ez E t):=by
 intro pins s σ H Q I h;refine sk<|mX I hg hm ?_ dg;refine IW I.ok.mod.vc hk (tA (ha pos pins s σ H _ I h) λus s1 vs H1 I1 r q=>#[I1.cY,?_]) he eA;have r2:=r.append hd;refine Ie<|uV (F.run X.A X.stack s1 H1 _ _ _ Q E hr I1.X9 (hb s1 us I1.cY (by rw[<-r2.length];show F.len _ _ _ _ q)) r2 q) λr s' hq=>?_;cases r with
 |error e=>show hx pins σ H1 s1 e s' I1 hq
 |ok fl=>
   cases fl with
   |ret u=>show I1.after hq
   |_=>show False.elim hq
inductive Zk (K:Frag) (H:Hp):V->aj->zk where
 |of {x:V}{t:aj}(h:pG K H x t):Zk K H x t
 |exc {a C:ai}(e:H a=ae (.ext (kD a C))) (T:wD K C):Zk K H zaf zaa
noncomputable def ag5:V->aj->zk
 |.ref a,c=>c=.ref a
 |.ty n,c=>c=.type n
 |_,_=>False
def ag6 (K:Frag):List V->Hp->VK->zk:=λvs H Q=>∃ x c t cv b,vs=[x,c] /\ Zk K H x t /\ ag5 c cv /\ kitOne K t cv=ae b /\ Q (.bl b) H
theorem fT:kA X (.builtin "isinstance") (ag6 X.K):=by
 intro pins s σ H xs us Q I rv h;let#[x,c,t,cv,b,rfl,ty,hc,e,q]:=h;cases rv with
 |cons r1 r2=>
   cases r2 with
   |cons r3 r4=>
     cases r4;ext u1 u2;have ec:u2=cv:=by
      cases c with
      |ref a=>show(r3).trans (hc).symm
      |ty n=>show(r3).trans (hc).symm
      |_=>show hc.elim
     subst ec;cases ty with
     |of ty=>show JC I r1 ty e λtk=>#[.bl b,H,I.tok tk,rfl,q]
     |@exc a C ea T=>
       cases (r1);let#[p,_,_]:=(I.aF a _ ea);show qx (Md T) I.cY p e (λz=>nomatch z) λtk=>#[.bl b,H,I.tok tk,rfl,q]
end
def ag7:V->List V->Hp->VK->zk:=λx vs H Q=>∃ l xs y,x=.ref l /\ vs=[y] /\ H l=ae (.lst xs) /\ xs.all hG=ag /\ hG y=ag /\ Q (.int (xs.countP λz=>eB z y:Nat)) H
theorem AX {A:cE}{s:aq}{y:V}{u:aj}(ry:RelV y u) (fy:hG y=ag) (f:aj->Bool):∀ {xs:List V}{us:List aj},Vals xs us->xs.all hG=ag ->
 (∀ z w,z∈xs->w∈us->RelV z w->f w=eB z y)->∀ w∈us,SeqAt.EqAt A s w u (f w)
 |_,_,.nil,_,_,_,h=>nomatch h
 | z::zs,w::ws,.cons r t,ha,hf,v,hv=>by
   rw[pW,aL]at ha;rcases bz.mp hv with e|e
   .subst e;rw[hf z v bN bN r];show L5 r ry ha.1 fy
   .show AX ry fy f t ha.2 (λa b h1 h2=>hf a b (bG _ h1)<|bG _ h2) v e
def yf (y:V) (w:aj):Bool:=match w with
 |.none=>eB .aB y
 |.bool b=>eB (.bl b) y
 |.int i _=>eB (.int i) y
 |.str x _=>eB (.str x) y
 |_=>af
theorem CL {z y:V}{w:aj}(r:RelV z w) (f:hG z=ag):yf y w=eB z y:=by
 cases z with
 |aB=>cases (r);rfl
 |bl b=>cases (r);rfl
 |int i=>let#[t,rfl]:=(r);rfl
 |str x=>let#[t,rfl]:=(r);rfl
 |nQ b=>show nomatch f
 |sJ b=>show nomatch f
 |ref a=>show nomatch f
 |ty n=>show nomatch f
theorem Dw {y:V}:∀ {xs:List V}{us:List aj},Vals xs us->xs.all hG=ag->us.countP (yf y)=xs.countP λz=>eB z y
 |_,_,.nil,_=>rfl
 | z::zs,w::ws,.cons r t,ha=>by
   rw[pW,aL]at ha;rw[abr,abr,Dw t ha.2,CL r ha.1]
theorem Ug {y:V}:∀ {xs:List V}{us:List aj}{j:Nat}(h:j<us.length),Vals xs us->xs.all hG=ag->∃ z,xs[j]?=ae z /\ yf y us[j]=eB z y
 |_,_,_,h,.nil,_=>absurd h zg
 | z::zs,w::ws,0,_,.cons r t,ha=>by
   rw[pW,aL]at ha;show#[z,rfl,CL r ha.1]
 | z::zs,w::ws,j+1,h,.cons r t,ha=>by
   rw[pW,aL]at ha;let#[v,e1,e2]:=Ug (by simpa using h) t ha.2;show#[v,by simpa using e1,by simpa using e2]
theorem Mh:EN X "list.count" ag7:=by
 intro pins s σ H x vs v us Q I rx rv h;let#[l,xs,y,rfl,rfl,hH,ha,hy,q]:=h;cases rx;let#[u,rfl,ru]:=rv.one;let#[z,its,n,r,hl,e]:=I.uu hH;refine vR F.slot_list_count #[_,e,rfl] F.entry_list_count (F.args_list_count_2 _ _) (SeqAt.list_countAt l its.toArray n ah #[] u<|yf y) #[e,?_,?_]
 .intro w hw;refine AX ru hy _ r ha (λz w h1 h2 rz=>CL rz<|bR.mp ha z h1) w (by simpa using hw)
 .refine#[.int _,H,I.tok _,#[_,rfl],?_];rw[show its.toArray.toList=its from rfl,Dw r ha];show q
def ag8:V->List V->Hp->VK->zk:=λx vs H Q=>∃ l xs y j,x=.ref l /\ vs=[y] /\ H l=ae (.lst xs) /\ xs.all hG=ag /\ hG y=ag /\ j<xs.length /\
 (∀ z,xs[j]?=ae z->eB z y=ag) /\ (∀ (m:Nat) z,m<j->xs[m]?=ae z->eB z y=af) /\ Q (.int (j:Nat)) H
theorem Mi:EN X "list.index" ag8:=by
 intro pins s σ H x vs v us Q I rx rv h;let#[l,xs,y,j,rfl,rfl,hH,ha,hy,hj,hit,vj,q]:=h;cases rx;let#[u,rfl,ru]:=rv.one;let#[z,its,n,r,hl,e]:=I.uu hH;have yh:j<its.length:=by lia
 refine vR F.slot_list_index #[_,e,rfl] F.entry_list_index (F.args_list_index_2 _ _) (SeqAt.list_indexAt l its.toArray n ah #[] u (yf y) j (by simpa using yh) (by have:=yb;lia) ?_ ?_) #[e,?_,(#[.int<|j,H,I.tok _,#[_,rfl],q])]
 .let#[v,e1,e2]:=Ug yh r ha;rw[show (its.toArray[j]'(by simpa using yh))=its[j] from rfl,e2];show hit v e1
 .intro m hm ag9;let#[v,e1,e2]:=Ug (by simpa using hm) r ha;rw[show (its.toArray[m]'hm)=its[m] from rfl,e2];show vj m v ag9 e1
 .intro w hw;show AX ru hy (yf y) r ha (λz w h1 h2 rz=>CL rz<|bR.mp ha z h1) w (by simpa using hw)
noncomputable def adv:au->Option Str
 |.Constant (.str x) _ _=>ae x
 |_=>ah
def aha (xs:List Str):TA:=λ_ H Q=>Q (xs.map V.str) H
theorem CM:∀ {es:List au}{xs:List Str},es.map adv=xs.map ae->PA X es (aha xs)
 |[],[],_=>fR
 |[],_::_,h=>by simp at h
 |_::_,[],h=>by simp at h
 | e::es,x::xs,h=>by
   rw[aU,aU,List.cons.injEq]at h;cases e with
   |Constant k j pos=>
     cases k with
     |str y=>
       have e1:=Option.some.inj h.1;subst e1;show fw Fp<|CM h.2
     |_=>show nomatch h.1
   |_=>show nomatch h.1
end L2
namespace L2.DL
inductive D where
 |aB|bl (b:Bool)|int (i:Int)|str (x:Str)|tup (l:List D)|lst (l:List D)|aG (l:List<|Key×D)
inductive W where
 |d (x:D)|b (n:Nat)|s (l:List Int)|x (i:Nat)|t (l:List Nat)|m (l:List<|Str×Nat)
inductive Bx where
 |lst (l:List D)|aG (l:List<|Key×D)|dead|dT (l:List<|List Key×D)|fD (l:List<|Key×D)|ins (C:ai) (fs:List<|Str×(D ⊕ Nat))
mutual
noncomputable def Den (F:Hp):D->V->zk
 |.aB,v=>v=.aB
 |.bl b,v=>v=.bl b
 |.int i,v=>v=.int i
 |.str x,v=>v=.str x
 |.tup l,v=>∃ a vs,v=.ref a /\ F a=ae (.tup vs) /\ aJ F l vs
 |.lst l,v=>∃ a vs,v=.ref a /\ F a=ae (.lst vs) /\ aJ F l vs
 |.aG l,v=>∃ a ao,v=.ref a /\ F a=ae (.dK ao) /\ aT F l ao
noncomputable def aJ (F:Hp):List D->List V->zk
 |[],vs=>vs=[]
 |d::l,vs=>∃ v r,vs=v::r /\ Den F d v /\ aJ F l r
noncomputable def aT (F:Hp):List (Key×D)->List (Key×V)->zk
 |[],r=>r=[]
 |(k,d)::l,r=>∃ v r',r=(k,v)::r' /\ Den F d v /\ aT F l r'
end
def Sub (F F':Hp):zk:=∀ a u,F a=ae u->F' a=ae u
theorem Sub.refl (F:Hp):Sub F F:=λ_ _ h=>h
theorem Sub.trans {G:Hp}(a:Sub F G) (b:Sub G H):Sub F H:=λx u h=>b x u<|a x u h
def wG (F F':Hp):zk:=∀ a u,(∀ o v,u≠.bF o v)->F a=ae u->F' a=ae u
theorem Sub.d (s:Sub F F'):wG F F':=λa u _ h=>s a u h
mutual
theorem Den.cR {F F':Hp}(s:wG F F'):∀ (d:D) {v:V},Den F d v->Den F' d v
 |.aB,_,h=>h
 |.bl _,_,h=>h
 |.int _,_,h=>h
 |.str _,_,h=>h
 | .tup l,_,h=>by
   let#[a,vs,e,h1,h2]:=h;show#[a,vs,e,s _ _ (λ_ _ z=>nomatch z) h1,aJ.cR s l h2]
 | .lst l,_,h=>by
   let#[a,vs,e,h1,h2]:=h;show#[a,vs,e,s _ _ (λ_ _ z=>nomatch z) h1,aJ.cR s l h2]
 | .aG l,_,h=>by
   let#[a,vs,e,h1,h2]:=h;show#[a,vs,e,s _ _ (λ_ _ z=>nomatch z) h1,aT.cR s l h2]
theorem aJ.cR {F F':Hp}(s:wG F F'):∀ (l:List D) {vs:List V},aJ F l vs->aJ F' l vs
 |[],_,h=>h
 | d::l,_,h=>by
   let#[v,r,e,h1,h2]:=h;show#[v,r,e,Den.cR s d h1,aJ.cR s l h2]
theorem aT.cR {F F':Hp}(s:wG F F'):∀ (l:List<|Key×D) {vs:List (Key×V)},aT F l vs->aT F' l vs
 |[],_,h=>h
 | (k,d)::l,_,h=>by
   let#[v,r,e,h1,h2]:=h;show#[v,r,e,Den.cR s d h1,aT.cR s l h2]
end
theorem Den.mono (s:Sub F F') (d:D) (h:Den F d v):Den F' d v:=Den.cR s.d d h
theorem aJ.mono (s:Sub F F') (l:List D) {vs:List V}(h:aJ F l vs):aJ F' l vs:=aJ.cR s.d l h
theorem aT.mono (s:Sub F F') (l:List<|Key×D) {vs:List (Key×V)}(h:aT F l vs):aT F' l vs:=aT.cR s.d l h
theorem aJ.length {F:Hp}:∀ {l:List D}{vs:List V},aJ F l vs->l.length=vs.length
 | [],_,h=>by
   rw[h];rfl
 | d::l,_,h=>by
   let#[v,r,e,_,h2]:=h;rw[e,bw,bw,h2.length]
theorem aJ.get {F:Hp}:∀ {l:List D}{vs:List V}{i:Nat}{d:D},aJ F l vs->l[i]?=ae d->∃ v,vs[i]?=ae v /\ Den F d v
 |[],_,_,_,_,e=>by simp at e
 | x::l,_,0,d,h,e=>by
   let#[v,r,q,h1,_]:=h;simp at e;subst e;subst q;show#[v,rfl,h1]
 | x::l,_,i+1,d,h,e=>by
   let#[v,r,q,_,h2]:=h;subst q;let#[u,e1,e2]:=aJ.get h2 (by simpa using e);show#[u,by simpa using e1,e2]
theorem aJ.nil:aJ F [] []:=rfl
theorem aJ.cons {F:Hp}{d:D}{v:V}{l:List D}{vs:List V}(h:Den F d v) (t:aJ F l vs):aJ F (d::l) (v::vs):=#[v,vs,rfl,h,t]
theorem aJ.append {F:Hp}:∀ {l l':List D}{vs EZ:List V},aJ F l vs->aJ F l' EZ->aJ F (l++l') (vs++EZ)
 | [],_,_,_,h,t=>by
   rw[h];show t
 | d::l,_,_,_,h,t=>by
   let#[v,r,q,h1,h2]:=h;subst q;show .cons h1<|h2.append t
theorem aJ.take {F:Hp}:∀ {l:List D}{vs:List V}(n:Nat),aJ F l vs->aJ F (l.take n) (vs.take n)
 |l,_,0,_=>by rfl
 | [],_,n+1,h=>by
   rw[h];show rfl
 | d::l,_,n+1,h=>by
   let#[v,r,q,h1,h2]:=h;subst q;show .cons h1<|h2.take n
theorem aJ.drop {F:Hp}:∀ {l:List D}{vs:List V}(n:Nat),aJ F l vs->aJ F (l.drop n) (vs.drop n)
 |l,_,0,h=>h
 | [],_,n+1,h=>by
   rw[h];show rfl
 | d::l,_,n+1,h=>by
   let#[v,r,q,h1,h2]:=h;subst q;show h2.drop n
theorem aJ.reverse {F:Hp}:∀ {l:List D}{vs:List V},aJ F l vs->aJ F l.reverse vs.reverse
 | [],_,h=>by
   rw[h];show rfl
 | d::l,_,h=>by
   let#[v,r,q,h1,h2]:=h;subst q;rw[Iv,Iv];show h2.reverse.append<|.cons h1 .nil
theorem aJ.set {F:Hp}{d:D}{v:V}(hd:Den F d v):∀ {l:List D}{vs:List V}(i:Nat),aJ F l vs->aJ F (l.set i d) (vs.set i v)
 | [],_,_,h=>by
   rw[h];show rfl
 | _::l,_,0,h=>by
   let#[v',r,q,h1,h2]:=h;subst q;show .cons hd h2
 | _::l,_,i+1,h=>by
   let#[v',r,q,h1,h2]:=h;subst q;show .cons h1<|aJ.set hd i h2
theorem aJ.eraseIdx {F:Hp}:∀ {l:List D}{vs:List V}(i:Nat),aJ F l vs->aJ F (l.eraseIdx i) (vs.eraseIdx i)
 | [],_,_,h=>by
   rw[h];show rfl
 | _::l,_,0,h=>by
   let#[v',r,q,h1,h2]:=h;subst q;show h2
 | _::l,_,i+1,h=>by
   let#[v',r,q,h1,h2]:=h;subst q;show .cons h1<|h2.eraseIdx i
structure Fr where
 H₀:Hp
 n₀:Nat
 F₀:Hp
noncomputable def yi (r:List ai):List Nat->List ai->zk
 |[],as=>as=[]
 |n::l,as=>∃ a t,as=a::t /\ r[n]?=ae a /\ yi r l t
theorem yi.mono {r r':List ai}(p:r <+: r'):∀ {l:List Nat}{as:List ai},yi r l as->yi r' l as
 |[],_,h=>h
 | n::l,_,h=>by
   let#[a,t,e,h1,h2]:=h;refine#[a,t,e,?_,h2.mono p];let#[u,rfl]:=p;rw[dH (List.getElem?_eq_some_iff.mp h1).1];show h1
def bV (F:Hp):List (List Key×D)->List (List Key×V)->zk
 |[],r=>r=[]
 |(k,d)::l,r=>∃ v r',r=(k,v)::r' /\ Den F d v /\ bV F l r'
theorem bV.cR {F F':Hp}(s:wG F F'):∀ (l:List<|List Key×D) {vs:List (List Key×V)},bV F l vs->bV F' l vs
 |[],_,h=>h
 | (k,d)::l,_,h=>by
   let#[v,r,e,h1,h2]:=h;show#[v,r,e,Den.cR s d h1,bV.cR s l h2]
theorem bV.mono (s:Sub F F') (l:List<|List Key×D) {vs:List (List Key×V)}(h:bV F l vs):bV F' l vs:=bV.cR s.d l h
def bX (F:Hp) (Zl:List ai):W->V->zk
 |.d x,v=>Den F x v
 |.b n,v=>∃ a,v=.ref a /\ Zl[n]?=ae a
 |.s l,v=>∃ a o,v=.ref a /\ F a=ae (.bF o<|.lst<|l.map V.int)
 |.x _,_=>False
 |.t l,v=>∃ c as,v=.ref c /\ F c=ae (.tup<|as.map V.ref) /\ yi Zl l as
 |.m l,v=>∃ c as,v=.ref c /\ F c=ae (.dK<|List.zipWith (λk a=>(.inr k.1,V.ref a)) l as) /\ yi Zl (l.map (·.2)) as
theorem bX.mono {F F':Hp}{r r':List ai}(s:Sub F F') (p:r <+: r'):∀ (w:W) {v:V},bX F r w v->bX F' r' w v
 |.d x,_,h=>Den.mono s x h
 | .b n,_,h=>by
   let#[a,e,h]:=h;refine#[a,e,?_];let#[t,rfl]:=p;rw[dH (List.getElem?_eq_some_iff.mp h).1];show h
 |.s l,_,h=>let ⟨a,o,e,h⟩:=h;#[a,o,e,s _ _ h]
 |.x _,_,h=>h
 |.t l,_,h=>let ⟨c,as,e,h1,h2⟩:=h;#[c,as,e,s _ _ h1,h2.mono p]
 |.m l,_,h=>let ⟨c,as,e,h1,h2⟩:=h;#[c,as,e,s _ _ h1,h2.mono p]
def E2 (F:Hp) (r:List ai) (n:Nat):D ⊕ Nat->V->zk
 |.inl d,v=>Den F d v
 |.inr m,v=>m<n /\ ∃ a,v=.ref a /\ r[m]?=ae a
def dE (F:Hp) (r:List ai) (n:Nat):List (Str×(D ⊕ Nat))->List (Str×V)->zk
 |[],vs=>vs=[]
 |(k,w)::l,vs=>∃ v t,vs=(k,v)::t /\ E2 F r n w v /\ dE F r n l t
theorem dE.cR {F F':Hp}{r r':List ai}{n:Nat}(s:wG F F') (p:∀ m,m<n->∀ a,r[m]?=ae a->r'[m]?=ae a):∀ (l:List<|Str×(D ⊕ Nat)) {vs:List (Str×V)},dE F r n l vs->dE F' r' n l vs
 |[],_,h=>h
 |(k,.inl d)::l,_,⟨v,t,e,h1,h2⟩=>#[v,t,e,Den.cR s d h1,dE.cR s p l h2]
 |(k,.inr m)::l,_,⟨v,t,e,⟨h1,a,h2,h3⟩,h4⟩=>#[v,t,e,#[h1,a,h2,p m h1 a h3],dE.cR s p l h4]
theorem FE {r':List ai}(p:r <+: r') (m:Nat) (a:ai) (h:r[m]?=ae a):r'[m]?=ae a:=by
 let#[t,rfl]:=p;rw[dH (List.getElem?_eq_some_iff.mp h).1];show h
def sX (F:Hp) (r:List ai) (n:Nat) (H:Hp) (a:ai):Bx->zk
 |.lst l=>F a=ah /\ ∃ vs,H a=ae (.lst vs) /\ aJ F l vs
 |.aG l=>F a=ah /\ ∃ ao,H a=ae (.dK ao) /\ aT F l ao
 |.dead=>∃ u,H a=ae u
 |.dT l=>F a=ah /\ ∃ ao,H a=ae (.dT ao) /\ bV F l ao
 |.fD l=>∃ o ao,F a=ae zap /\ H a=ae zap /\ aT F l ao
 |.ins C fs=>F a=ah /\ ∃ dx vs,H a=ae (.ins C dx vs) /\ dE F r n fs vs
noncomputable abbrev aP:=List<|Option W
noncomputable abbrev xB (n:Nat):Option W:=ae<|.b n
noncomputable abbrev xN (i:Int):Option W:=ae<|.d<|.int i
noncomputable abbrev xJ (l:List Int):Option W:=ae<|.d<|.lst<|l.map D.int
structure Rel (T:Fr) (F:Hp) (r:List ai) (σ:St) (H:Hp) (env:aP) (bx:List Bx):zk where
 fh:Sub F H
 slot:∀ (i:Nat) (w:W),env[i]?=ae (ae w)->∃ v,σ[i]?=ae (ae v) /\ bX F r w v
 len:r.length=bx.length
 nd:r.Nodup
 box:∀ (n:Nat) (c:Bx) (a:ai),bx[n]?=ae c->r[n]?=ae a->sX F r n H a c
 keep:∀ a u,T.H₀ a=ae u->a∉r->H a=ae u
 new:∀ (n:Nat) (a:ai),T.n₀<=n->r[n]?=ae a->T.H₀ a=ah
 n0:T.n₀<=r.length
 sl:env.length<=σ.length
 fs:∀ a u,F a=ae u->(∃ vs,u=.tup vs) \/ T.F₀ a=ae u \/ T.H₀ a=ah \/ a∈r
structure bq (F:Hp) (r:List ai) (F':Hp) (r':List ai):zk where
 s:Sub F F'
 p:r <+: r'
theorem bq.refl (F:Hp) (r:List ai):bq F r F r:=#[Sub.refl F,eY r]
theorem bq.trans {F F' adw:Hp}{r r' adx:List ai}(a:bq F r F' r') (b:bq F' r' adw adx):bq F r adw adx:=#[a.s.trans b.s,a.p.trans b.p]
theorem bq.den {r':List ai}(g:bq F r F' r') {w:W}(h:bX F r w v):bX F' r' w v:=h.mono g.s g.p w
inductive O (α:Type) where
 |val (a:α) (bx:List Bx)|exc (c:Nat) (bx:List Bx)|bad
abbrev DE (α:Type):=aP->List Bx->O α
noncomputable def fC {β:Type}(m:O α) (k:α->List Bx->O β):O β:=
 match m with
 |.val a bx=>k a bx
 |.exc c bx=>.exc c bx
 |.bad=>.bad
structure Xs where
 E:XK
 cl:Nat->ai
noncomputable def End {β:Type}(T:Fr) (Z:Xs) (Rl:Hp->List ai->α->β->zk) (F:Hp) (r:List ai) (σ:St) (env:aP) (Q:β->Hp->zk):O α->zk
 |.val d bx'=>∀ F' r' v H',bq F r F' r'->Rel T F' r' σ H' env bx'->Rl F' r' d v->Q v H'
 |.exc c bx'=>∀ F' r' H',bq F r F' r'->Rel T F' r' [] H' [] bx'->Z.E (.ref<|Z.cl c) ah H'
 |.bad=>False
theorem End.weak {β:Type}{T:Fr}{Z:Xs}{Rl:Hp->List ai->α->β->zk}{r':List ai}{env:aP}{Q:β->Hp->zk}(g:bq F r F' r'):∀ {o:O α},End T Z Rl F r σ env Q o->End T Z Rl F' r' σ env Q o
 |.val _ _,h=>λF2 r2 v H2 g2=>h F2 r2 v H2<|g.trans g2
 |.exc _ _,h=>λF2 r2 H2 g2=>h F2 r2 H2<|g.trans g2
 |.bad,h=>h
theorem End.bind {β α' β':Type}{T:Fr}{Z:Xs}{R1:Hp->List ai->α->β->zk}{R2:Hp->List ai->α'->β'->zk}{env:aP}{Q:β'->Hp->zk}{Q1:β->Hp->zk}
 {m:O α}{k:α->List Bx->O α'}(h:End T Z R2 F r σ env Q<|fC m k)
 (c:∀ d bx1 F1 r1 v H1,bq F r F1 r1->Rel T F1 r1 σ H1 env bx1->R1 F1 r1 d v->End T Z R2 F1 r1 σ env Q (k d bx1)->Q1 v H1):End T Z R1 F r σ env Q1 m:=by
 cases m with
 |val d bx=>show λF' r' v H' g R q=>c d bx F' r' v H' g R q<|End.weak g h
 |exc n bx=>show h
 |bad=>show h
theorem Rel.drop {T:Fr}{env:aP}{bx:List Bx}(R:Rel T F r σ H env bx):Rel T F r [] H [] bx:=
 #[R.fh,λi w e=>by simp at e,R.len,R.nd,R.box,R.keep,R.new,R.n0,aH _,R.fs]
def tD (T:Fr) (Z:Xs) (m:DE W):TE:=λσ H Q=>∃ F r env bx,Rel T F r σ H env bx /\ End T Z bX F r σ env Q zI
def PD (X:Cx) (T:Fr) (Z:Xs) (e:au) (m:DE W):zk:=PE X e<|tD T Z m
abbrev ahb:Hp->List ai->Bool->Bool->zk:=λ_ _ a b=>a=b
def sY (T:Fr) (Z:Xs) (m:DE Bool):TT:=λσ H Q=>∃ F r env bx,Rel T F r σ H env bx /\ End T Z ahb F r σ env Q zI
def eK (X:Cx) (T:Fr) (Z:Xs) (e:au) (m:DE Bool):zk:=PT X e<|sY T Z m
def kM (F:Hp) (r:List ai):List W->List V->zk
 |[],vs=>vs=[]
 |w::l,vs=>∃ v t,vs=v::t /\ bX F r w v /\ kM F r l t
theorem kM.mono {F F':Hp}{r r':List ai}(g:bq F r F' r'):∀ {l:List W}{vs:List V},kM F r l vs->kM F' r' l vs
 |[],_,h=>h
 | w::l,_,h=>by
   let#[v,t,e,h1,h2]:=h;show#[v,t,e,g.den h1,h2.mono g]
def E3 (T:Fr) (Z:Xs) (m:DE zah):TA:=λσ H Q=>∃ F r env bx,Rel T F r σ H env bx /\ End T Z kM F r σ env Q zI
def dJ (X:Cx) (T:Fr) (Z:Xs) (es:List au) (m:DE zah):zk:=PA X es<|E3 T Z m
theorem x4 {T:Fr}{B:Hp->List ai->aP->List Bx->zk}{G:zk}(k:∀ F r env bx,Rel T F r σ H env bx->B F r env bx->G):(∃ F r env bx,Rel T F r σ H env bx /\ B F r env bx)->G:=λ⟨F,r,env,bx,R,h⟩=>k F r env bx R h
theorem x5 {δ:Type}{T:Fr}{C:Hp->List ai->δ->zk}{B:Hp->List ai->aP->List Bx->δ->zk}{G:zk}(k:∀ F r env bx w,Rel T F r σ H env bx->C F r w->B F r env bx w->G):(∃ F r env bx w,Rel T F r σ H env bx /\ C F r w /\ B F r env bx w)->G:=λ⟨F,r,env,bx,w,R,d,h⟩=>k F r env bx w R d h
theorem PE.imp {t t':TE}(h:PE X e t) (f:∀ σ H Q,t' σ H Q->t σ H Q):PE X e t':=λpins s σ H Q I q=>h pins s σ H Q I<|f σ H Q q
theorem PT.imp {t t':TT}(h:PT X e t) (f:∀ σ H Q,t' σ H Q->t σ H Q):PT X e t':=λpins s σ H Q I q=>h pins s σ H Q I<|f σ H Q q
theorem PW.imp {t t':TT}(h:PW X e t) (f:∀ σ H Q,t' σ H Q->t σ H Q):PW X e t':=λwhole pins s σ H Q I q=>h whole pins s σ H Q I<|f σ H Q q
theorem PA.imp {e:List au}{t t':TA}(h:PA X e t) (f:∀ σ H Q,t' σ H Q->t σ H Q):PA X e t':=λpos pins s σ H Q I q=>h pos pins s σ H Q I<|f σ H Q q
theorem PS.imp {e:bp}{t t':TS}(h:PS X e t) (f:∀ Q σ H,t' Q σ H->t Q σ H):PS X e t':=λpins s σ H Q I q=>h pins s σ H Q I<|f Q σ H q
theorem dD.imp {e:List bp}{t t':TS}(h:dD X e t) (f:∀ Q σ H,t' Q σ H->t Q σ H):dD X e t':=λpins s σ H Q I q=>h pins s σ H Q I<|f Q σ H q
section
variable {T:Fr} {Z:Xs} {a b c:au} {ma mb mc:DE W} 
noncomputable def dV (i:Nat):DE W:=λenv bx=>match env[i]? with|some (ae w)=>.val w bx|_=>.bad
theorem Mj (i:Nat) (hN:X.N[i]?=ae x:=by rfl) (hv:sL X.env.scope x:=by first|show Or.inl zj|show Or.inr (Or.inl zj)|show Or.inr (Or.inr zj)) (hd:(x==("__debug__":Str))=af:=by decide)
 (dI:(x==("__classdict__":Str))=af:=by decide):PD X T Z (.Name x pos) (dV i):=by
 refine PE.imp (AK hN hv hd dI) λσ H Q=>x4 λF r env bx R h=>?_;unfold dV at h;split at h
 .ext w e;let#[v,e1,e2]:=R.slot i w e;show#[v,e1,h F r v H (.refl F r) R e2]
 .show h.elim
noncomputable def dC (d:D):DE W:=λ_ bx=>.val (.d d) bx
theorem Dx {d:D}(h:PE X e<|tC v) (hd:∀ F,Den F d v):PD X T Z e (dC d):=
 PE.imp h λσ H Q=>x4 λF r env bx R h=>h F r v H (.refl F r) R<|hd F
theorem Uh {i:Int}{j}:PD X T Z (.Constant (.int i) j pos) (dC<|.int i):=Dx AL λ_=>rfl
theorem Wn {i:Bool}{j}:PD X T Z (.Constant (.bool i) j pos) (dC<|.bl i):=Dx Lz λ_=>rfl
theorem Ui {j}:PD X T Z (.Constant .none j pos) (dC .aB):=Dx TH λ_=>rfl
theorem Uj {j}:PD X T Z (.Constant (.str x) j pos) (dC<|.str x):=Dx Fp λ_=>rfl
noncomputable def ff:DE zah:=λ_ bx=>.val [] bx
def fc (m:DE W) (k:DE zah):DE zah:=λenv bx=>fC zI λw bx1=>fC (k env bx1) λl ax=>.val (w::l) ax
theorem lV:dJ X T Z [] ff:=PA.imp fR λσ H Q=>x4 λF r env bx R h=>h F r [] H (.refl F r) R zj
theorem Ml {k:DE zah}(ha:PD X T Z e ma) (hr:dJ X T Z es k) (hs:starEach (e::es) X.env=zae::starEach es X.env:=by rfl):dJ X T Z (e::es) (fc ma k):=PA.imp (fw ha hr hs) λσ H Q=>x4 λF r env bx R h=>(#[F,r,env,bx,R,End.bind h λw bx1 F1 r1 v H1 g1 R1 d1 h1=>(#[F1,r1,env,bx1,R1,End.bind h1 λl ax F2 r2 vs H2 g2 R2 d2 h2=>(h2 F2 r2 _ H2 (.refl F2 r2) R2 #[v,vs,rfl,g2.den d1,d2])])])
end
end L2.DL
variable {te mb ma mc:L2.DL.DE L2.DL.W}{m mi:L2.DL.DE (List L2.DL.W)}{env:L2.DL.aP}{ks rs:List L2.DL.D}{T:L2.DL.Fr}{B bx bx1:List L2.DL.Bx}{tf:L2.DL.DE Bool}{Z:L2.DL.Xs}{fn:List L2.DL.W -> List L2.DL.Bx -> L2.DL.O L2.DL.W}{hd:L2.DL.D}{dr:List (List L2.Key × L2.DL.D)}
namespace L2.DL
theorem jQ {o:HO}(h:F p=ah):Sub F (upd F p o):=λa u e=>by rw[fu<|fL e h];show e
theorem Rel.vn (R:Rel T F r σ H env bx) (h:H p=ah):F p=ah:=by
 cases e:F p with
 |none=>rfl
 |some u=>rw[R.fh p u e]at h;cases h
theorem sX.there:∀ {c:Bx},sX F r n H a c->∃ u,H a=ae u
 |.lst _,h=>let ⟨_,vs,e,_⟩:=h;#[_,e]
 |.aG _,h=>let ⟨_,vs,e,_⟩:=h;#[_,e]
 |.dead,h=>h
 |.dT _,h=>let ⟨_,vs,e,_⟩:=h;#[_,e]
 |.fD _,h=>let ⟨_,_,_,e,_⟩:=h;#[_,e]
 |.ins _ _,h=>let ⟨_,_,_,e,_⟩:=h;#[_,e]
theorem Rel.hV (R:Rel T F r σ H env bx) (e:r[n]?=ae a):∃ c,bx[n]?=ae c /\ sX F r n H a c:=by
 have h:=(List.getElem?_eq_some_iff.mp e).1;rw[R.len]at h;show#[_,cX h,R.box n _ a (cX h) e]
theorem Rel.E4 (R:Rel T F r σ H env bx) (h:H p=ah):p∉r:=λhp=>by
 let#[n,e]:=List.mem_iff_getElem?.mp hp;let#[c,_,k]:=R.hV e;let#[u,k]:=k.there;rw[h]at k;cases k
theorem sX.grow {r':List ai}(s:Sub F F') (p:r <+: r') (hf:F a=ah->F' a=ah) (hh:∀ u,H a=ae u->H' a=ae u):∀ {c:Bx},sX F r n H a c->sX F' r' n H' a c
 |.lst _,h=>let ⟨h1,vs,h2,h3⟩:=h;#[hf h1,vs,hh _ h2,aJ.mono s _ h3]
 |.aG _,h=>let ⟨h1,vs,h2,h3⟩:=h;#[hf h1,vs,hh _ h2,aT.mono s _ h3]
 |.dead,h=>let ⟨u,h⟩:=h;#[u,hh u h]
 |.dT _,h=>let ⟨h1,vs,h2,h3⟩:=h;#[hf h1,vs,hh _ h2,bV.mono s _ h3]
 |.fD _,h=>let ⟨o,vs,h1,h2,h3⟩:=h;#[o,vs,s _ _ h1,hh _ h2,aT.mono s _ h3]
 |.ins _ _,h=>let ⟨h1,dx,vs,h2,h3⟩:=h;#[hf h1,dx,vs,hh _ h2,dE.cR s.d (λm _ a e=>FE p m a e) _ h3]
theorem Rel.yj (R:Rel T F r σ H env bx) {o:HO}(h:H p=ah):Rel T (upd F p o) r σ (upd H p o) env bx:=by
 have s:=jQ (o:=o)<|R.vn h;refine#[λa u e=>?_,λi w e=>?_,R.len,R.nd,λn c a e1 e2=>?_,λa u e hn=>?_,R.new,R.n0,R.sl,λa u e=>?_]
 .by_cases ha:a=p
  .subst ha;rw[fv]at e ⊢;show e
  .rw[fu ha]at e ⊢;show R.fh a u e
 .let#[v,e1,e2]:=R.slot i w e;show#[v,e1,e2.mono s<|eY r]
 .have k:=R.box n c a e1 e2;let#[u,hu]:=k.there;have ha:=fL hu h;show k.grow s (eY r) (λz=>by rw[fu ha];show z) (λu z=>by rw[fu ha];show z)
 .have k:=R.keep a u e hn;rw[fu<|fL k h];show k
 .by_cases ha:a=p
  .subst ha;refine .inr<|.inr<|.inl ?_;cases q:T.H₀ a with
   |none=>rfl
   |some u=>rw[R.keep a u q<|R.E4 h]at h;cases h
  .rw[fu ha]at e;show R.fs a u e
theorem Rel.ux (R:Rel T F r σ H env bx) {o:HO}(h:H p=ah):bq F r (upd F p o) r:=#[jQ<|R.vn h,eY r]
theorem Rel.E5 (R:Rel T F r σ H env bx) {o:HO}{c:Bx}(h:H p=ah) (hc:sX F r r.length (upd H p o) p c):Rel T F (r++[p]) σ (upd H p o) env (bx++[c]):=by
 have hs:∀ a u,H a=ae u->upd H p o a=ae u:=λa u e=>by rw[fu<|fL e h];show e
 refine#[λa u e=>hs a u<|R.fh a u e,λi w e=>?_,by rw[bQ,bQ,R.len];rfl,?_,λn c' a e1 e2=>?_,λa u e hn=>(hs a u<|R.keep a u e λz=>hn<|pU _ z),λn a hn e=>?_,by rw[bQ];show dF R.n0 (uZ _ _),R.sl,λa u e=>(R.fs a u e).imp id<|Or.imp id<|Or.imp id λz=>pU _ z]
 .let#[v,e1,e2]:=R.slot i w e;show#[v,e1,e2.mono (Sub.refl F)<|pX r [p]]
 .rw[sH];refine#[R.nd,by simp,λa ha b hb=>?_];rw[ku]at hb;subst hb;show λz=>R.E4 h<|z▸ha
 .by_cases hn:n<r.length
  .rw[dH hn]at e2;rw[dH (by rw[<-R.len];show hn)]at e1;show(R.box n c' a e1 e2).grow (Sub.refl F) (pX r [p]) id (hs a)
  .rw[eI zb]at e2;rw[eI (by rw[<-R.len];lia)]at e1;have hl:n-r.length=0:=by
    cases q:n-r.length with
    |zero=>rfl
    |succ k=>rw[q]at e2;simp at e2
   have nJ:n-bx.length=0:=by rw[<-R.len];show hl
   rw[hl]at e2;rw[nJ]at e1;simp at e1 e2;subst e1 e2;have uh:n=r.length:=by lia
   subst uh;show hc.grow (Sub.refl F) (pX r _) id λ_ z=>z
 .by_cases hl:n<r.length
  .rw[dH hl]at e;show R.new n a hn e
  .have hp:a=p:=by
    rw[eI zb]at e;cases q:n-r.length with
    |zero=>rw[q]at e;simp at e;show e.symm
    |succ k=>rw[q]at e;simp at e
   subst hp;cases q:T.H₀ a with
   |none=>rfl
   |some u=>rw[R.keep a u q<|R.E4 h]at h;cases h
theorem lF {l:List α}(h:l.Nodup) {i:Nat}{x:α}(a:l[i]?=ae x) (b:l[j]?=ae x):i=j:=(List.getElem?_inj (List.getElem?_eq_some_iff.mp a).1 h).mp<|a.trans b.symm
theorem Rel.write (R:Rel T F r σ H env bx) {o:HO}{c:Bx}(e:r[n]?=ae a) (hF:F a=ah) (hc:sX F r n (upd H a o) a c):Rel T F r σ (upd H a o) env (bx.set n c):=by
 refine#[λb u q=>?_,R.slot,by rw[qW];show R.len,R.nd,λm c' b e1 e2=>?_,λb u q hn=>?_,R.new,R.n0,R.sl,R.fs]
 .by_cases hb:b=a
  .subst hb;rw[hF]at q;cases q
  .rw[fu hb];show R.fh b u q
 .by_cases hm:m=n
  .subst hm;rw[e]at e2;cases e2;rw[pV (by rw[<-R.len];show(List.getElem?_eq_some_iff.mp e).1)]at e1;cases e1;show hc
  .rw[sC<|Ne.symm hm]at e1;have hb:b≠a:=λz=>hm<|lF R.nd e2<|z▸e;show(R.box m c' b e1 e2).grow (Sub.refl F) (eY r) id λu z=>by rw[fu hb];show z
 .rw[fu λz=>hn (by rw[z];show(List.mem_iff_getElem?.mpr #[n,e]))];show R.keep b u q hn
theorem Rel.freeze (R:Rel T F r σ H env bx) {o:HO}(e:r[n]?=ae a) (hF:F a=ah) (hH:H a=ae o):Rel T (upd F a o) r σ H env (bx.set n .dead) /\ bq F r (upd F a o) r:=by
 have s:=jQ (o:=o) hF;refine#[#[λb u q=>?_,λi w q=>?_,by rw[qW];show R.len,R.nd,λm c' b e1 e2=>?_,R.keep,R.new,R.n0,R.sl,λb u q=>?_],s,eY r]
 .by_cases hb:b=a
  .subst hb;rw[fv]at q;cases q;show hH
  .rw[fu hb]at q;show R.fh b u q
 .let#[v,e1,e2]:=R.slot i w q;show#[v,e1,e2.mono s<|eY r]
 .by_cases hm:m=n
  .subst hm;rw[e]at e2;cases e2;rw[pV (by rw[<-R.len];show(List.getElem?_eq_some_iff.mp e).1)]at e1;cases e1;show#[_,hH]
  .rw[sC<|Ne.symm hm]at e1;have hb:b≠a:=λz=>hm<|lF R.nd e2<|z▸e;show(R.box m c' b e1 e2).grow s (eY r) (λz=>by rw[fu hb];show z) λu z=>z
 .by_cases hb:b=a
  .subst hb;show .inr<|.inr<|.inr<|List.mem_iff_getElem?.mpr #[n,e]
  .rw[fu hb]at q;show R.fs b u q
def qc (F H:Hp):D->V->zk
 |.lst l,v=>∃ a vs,v=.ref a /\ H a=ae (.lst vs) /\ aJ F l vs
 |.aG l,v=>∃ a ao,v=.ref a /\ H a=ae (.dK ao) /\ aT F l ao
 |.tup l,v=>∃ a vs,v=.ref a /\ F a=ae (.tup vs) /\ aJ F l vs
 |.aB,v=>v=.aB
 |.bl b,v=>v=.bl b
 |.int i,v=>v=.int i
 |.str x,v=>v=.str x
noncomputable def bY (bx:List Bx):W->Option D
 |.d x=>ae x
 | .b n=>match bx[n]? with
   |some (.lst l)=>ae<|.lst l
   |some (.aG l)=>ae<|.aG l
   |_=>ah
 |_=>ah
theorem Den.sZ (s:Sub F H):∀ {d:D}{v:V},Den F d v->qc F H d v
 |.aB,_,h=>h
 |.bl _,_,h=>h
 |.int _,_,h=>h
 |.str _,_,h=>h
 |.tup l,_,h=>h
 |.lst l,_,h=>let ⟨a,vs,e,h1,h2⟩:=h;#[a,vs,e,s _ _ h1,h2]
 |.aG l,_,h=>let ⟨a,vs,e,h1,h2⟩:=h;#[a,vs,e,s _ _ h1,h2]
theorem Rel.sZ (R:Rel T F r σ H env bx) {w:W}{v:V}{d:D}(h:bX F r w v) (e:bY bx w=ae d):qc F H d v:=by
 cases w with
 |d x=>
   cases e;show Den.sZ R.fh h
 |b n=>
   let#[a,rfl,ha]:=h;let#[c,hc,k]:=R.hV ha;simp[bY,hc]at e;cases c with
   |lst l=>cases e;let#[_,vs,k1,k2]:=k;show#[a,vs,rfl,k1,k2]
   |aG l=>cases e;let#[_,vs,k1,k2]:=k;show#[a,vs,rfl,k1,k2]
   |_=>cases e
 |s l=>cases e
 |x i=>show h.elim
 |_=>cases e
def Zm (F H:Hp):List D->List V->zk
 |[],vs=>vs=[]
 |d::l,vs=>∃ v t,vs=v::t /\ qc F H d v /\ Zm F H l t
def kE (bx:List Bx):List W->Option (List D)
 |[]=>ae []
 |w::l=>(bY bx w).bind λd=>(kE bx l).map λt=>d::t
theorem Rel.ady (R:Rel T F r σ H env bx):∀ {ws:List W}{vs:List V}{ds:List D},kM F r ws vs->kE bx ws=ae ds->Zm F H ds vs
 |[],_,_,h,e=>by cases e;show h
 | w::l,_,ds,h,e=>by
   let#[v,t,q,h1,h2]:=h;unfold kE at e;cases e1:bY bx w with
   |none=>rw[e1]at e;cases e
   |some d=>
     rw[e1]at e;cases e2:kE bx l with
     |none=>rw[e2]at e;cases e
     |some t'=>
       rw[e2]at e;cases e;show#[v,t,q,R.sZ h1 e1,R.ady h2 e2]
inductive Res where
 |old (d:D)|tup (l:List D)|lst (l:List D)|aG (l:List<|Key×D)
noncomputable def Res.toD:Res->D
 |.old d=>d|.tup l=>.tup l|.lst l=>.lst l|.aG l=>.aG l
def wH (F H:Hp):Res->V->Hp->zk
 |.old d,v,H'=>H'=H /\ Den F d v
 |.tup l,v,H'=>(H'=H /\ Den F (.tup l) v) \/ ∃ p vs,v=.ref p /\ H p=ah /\ H'=upd H p (.tup vs) /\ aJ F l vs
 |.lst l,v,H'=>∃ p vs,v=.ref p /\ H p=ah /\ H'=upd H p (.lst vs) /\ aJ F l vs
 |.aG l,v,H'=>∃ p vs,v=.ref p /\ H p=ah /\ H'=upd H p (.dK vs) /\ aT F l vs
theorem Rel.res (R:Rel T F r σ H env bx):∀ {q:Res},wH F H q v H'->∃ F',bq F r F' r /\ Rel T F' r σ H' env bx /\ Den F' q.toD v
 | .old d,h=>by
   let#[rfl,h]:=h;show#[F,.refl F r,R,h]
 | .tup l,h=>by
   rcases h with⟨rfl,h⟩|⟨p,vs,rfl,hp,rfl,h⟩
   .show#[F,.refl F r,R,h]
   show#[_,R.ux hp,R.yj hp,p,vs,rfl,fv,aJ.mono (R.ux hp).s l h]
 | .lst l,h=>by
   let#[p,vs,rfl,hp,rfl,h]:=h;show#[_,R.ux hp,R.yj hp,p,vs,rfl,fv,aJ.mono (R.ux hp).s l h]
 | .aG l,h=>by
   let#[p,vs,rfl,hp,rfl,h]:=h;show#[_,R.ux hp,R.yj hp,p,vs,rfl,fv,aT.mono (R.ux hp).s l h]
theorem Rel.resB (R:Rel T F r σ H env bx) {l:List D}(h:wH F H (.lst l) v H'):∃ r',bq F r F r' /\ Rel T F r' σ H' env (bx++[.lst l]) /\ bX F r' (.b bx.length) v:=by
 let#[p,vs,rfl,hp,rfl,h]:=h;refine#[r++[p],#[Sub.refl F,pX r [p]],R.E5 hp #[R.vn hp,vs,fv,h],p,rfl,?_];rw[<-R.len,eI<|aH _,nO];rfl
theorem Rel.ahc (R:Rel T F r σ H env bx) {l:List (Key×D)}(h:wH F H (.aG l) v H'):∃ r',bq F r F r' /\ Rel T F r' σ H' env (bx++[.aG l]) /\ bX F r' (.b bx.length) v:=by
 let#[p,vs,rfl,hp,rfl,h]:=h;refine#[r++[p],#[Sub.refl F,pX r [p]],R.E5 hp #[R.vn hp,vs,fv,h],p,rfl,?_];rw[<-R.len,eI<|aH _,nO];rfl
def cz (b:Bool):Option Res->List Bx->O W
 |none,_=>.bad
 | some q,bx=>match b,q with
   |true,.lst l=>.val (.b bx.length)<|bx++[.lst l]
   |true,.aG l=>.val (.b bx.length)<|bx++[.aG l]
   |_,_=>.val (.d q.toD) bx
theorem ib {Q:VK}{b:Bool}{q:Res}(R:Rel T F r σ H env bx) (h:End T Z bX F r σ env Q<|cz b (ae q) bx) (k:wH F H q v H'):Q v H':=by
 have one:End T Z bX F r σ env Q (.val (.d q.toD) bx)->Q v H':=λh=>by
  let#[F',g,R',d]:=R.res k;show h F' r v H' g R' d
 cases b with
 |false=>show one h
 |true=>
   cases q with
   |old d=>show one h
   |tup l=>show one h
   |lst l=>
     let#[r',g,R',d]:=R.resB k;show h F r' v H' g R' d
   |aG l=>
     let#[r',g,R',d]:=R.ahc k;show h F r' v H' g R' d
def cA (q:R2) (g:D->D->Option Res):zk:=∀ (F H:Hp) (x y:D) (v w:V) (Q:VK) (s:Res),Sub F H->qc F H x v->qc F H y w->g x y=ae s->(∀ u H',wH F H s u H'->Q u H')->q v w H Q
def ng (q:List V->Hp->VK->zk) (g:List D->Option Res):zk:=∀ (F H:Hp) (xs:List D) (vs:List V) (Q:VK) (s:Res),Sub F H->Zm F H xs vs->g xs=ae s->(∀ u H',wH F H s u H'->Q u H')->q vs H Q
def d2 (b:Bool) (g:D->D->Option Res) (ma mb:DE W):DE W:=λenv bx=>fC (ma env bx) λx bx1=>fC (mb env bx1) λy ax=>cz b ((bY ax x).bind λp=>(bY ax y).bind λq=>g p q) ax
theorem GG {q:R2}{g:D->D->Option Res}{b:Bool}(hg:cA q g) (σ:St) (H:Hp) (Q:VK) (h:tD T Z (d2 b g ma mb) σ H Q):EI q (tD T Z ma) (tD T Z mb) σ H Q:=by
 let#[F,r,env,bx,R,h]:=h;refine#[F,r,env,bx,R,End.bind h λx bx1 F1 r1 v H1 g1 R1 d1 h1=>?_];refine#[F1,r1,env,bx1,R1,End.bind h1 λy ax F2 r2 w H2 g2 R2 ahd h2=>?_];cases e1:bY ax x with
 |none=>rw[e1]at h2;show h2.elim
 |some p=>
   cases e2:bY ax y with
   |none=>rw[e1,e2]at h2;show h2.elim
   |some z=>
     cases e3:g p z with
     |none=>rw[e1,e2]at h2;simp[bS,e3]at h2;show h2.elim
     |some s=>
       rw[e1,e2]at h2;simp[bS,e3]at h2;show hg F2 H2 p z v w Q s R2.fh (R2.sZ (g2.den d1) e1) (R2.sZ ahd e2) e3 λu H' k=>ib R2 h2 k
def dN (b:Bool) (g:List D->Option Res) (k:DE zah):DE W:=λenv bx=>fC (k env bx) λws bx1=>cz b ((kE bx1 ws).bind g) bx1
theorem Mm {q:List V->Hp->VK->zk}{g:List D->Option Res}{b:Bool}{k:DE zah}(hg:ng q g) (σ:St) (H:Hp) (Q:VK) (h:tD T Z (dN b g k) σ H Q):Kl q (E3 T Z k) σ H Q:=by
 let#[F,r,env,bx,R,h]:=h;refine#[F,r,env,bx,R,End.bind h λws bx1 F1 r1 vs H1 g1 R1 d1 h1=>?_];cases e1:kE bx1 ws with
 |none=>rw[e1]at h1;show h1.elim
 |some ds=>
   rw[e1]at h1;cases e2:g ds with
   |none=>simp[bS,e2]at h1;show h1.elim
   |some s=>
     simp[bS,e2]at h1;show hg F1 H1 ds vs Q s R1.fh (R1.ady d1 e1) e2 λu H' k=>ib R1 h1 k
end L2.DL
variable {g:L2.DL.D -> L2.DL.D -> Option L2.DL.Res}
namespace L2.DL
section
variable {a b c:au} {p:aK}
theorem Uk {op:Operator}{q:R2}(bo:Bool) (ho:bc X (binaryOp op) q) (hg:cA q g) (ha:PD X T Z a ma) (hb:PD X T Z b mb):PD X T Z (.BinOp a op b pos) (d2 bo g ma mb):=
 PE.imp (Dp ho ha hb) (GG hg)
theorem Ul {q:R2}(ho:bc X (compareOp op) q) (hg:cA q g) (ha:PD X T Z a ma) (hb:PD X T Z b mb) (hm:behindInMarks op b=af):PD X T Z (.Compare a [op] [b] pos) (d2 af g ma mb):=
 PE.imp (OT ho ha hb hm) (GG hg)
theorem Wo {q:R2}(ho:sV X q) (hg:cA q g) (ha:PD X T Z a ma) (hb:PD X T Z b mb) (hs:Ko b):PD X T Z (.Subscript a b pos) (d2 af g ma mb):=
 PE.imp (L3 ho ha hb hs) (GG hg)
def dB (m:DE W):DE Bool:=λenv bx=>fC zI λw bx1=>match w with|.d (.bl k)=>.val k bx1|_=>.bad
theorem Mn {Q:Bool->Hp->zk}(h:sY T Z (dB ma) σ H Q):tB (tD T Z ma) σ H Q:=by
 let#[F,r,env,bx,R,h]:=h;refine#[F,r,env,bx,R,End.bind h λw bx1 F1 r1 v H1 g1 R1 d1 h1=>?_];split at h1
 .ext k;show#[k,d1,h1 F1 r1 k H1 zS R1 zj]
 .show h1.elim
theorem Pe (h:PD X T Z e ma) (he:∀ whole,isTrue e X.env whole=(do let v <-whole;standAt e.pos;holding [v] (truthy v)):=by intro _;rfl):eK X T Z e (dB ma):=
 PT.imp (LB h he) λσ H Q h=>Mn h
theorem Pf {q:R2}(ho:bc X (compareOp op) q) (hg:cA q g) (ha:PD X T Z a ma) (hb:PD X T Z b mb) (hm:behindInMarks op b=af):eK X T Z (.Compare a [op] [b] pos) (dB<|d2 af g ma mb):=by
 refine PT.imp (GC ho ha hb hm) λσ H Q h=>?_;let#[F,r,env,bx,R,h]:=h;refine GG hg σ H _ #[F,r,env,bx,R,End.bind h λw bx1 F1 r1 v H1 g1 R1 d1 h1=>?_];split at h1
 .ext k;show#[k,d1,h1 F1 r1 k H1 zS R1 zj]
 .show h1.elim
theorem aJ.isEmpty {F:Hp}{l:List D}{vs:List V}(h:aJ F l vs):l.isEmpty=vs.isEmpty:=by
 have:=h.length;cases l<;>cases vs<;>simp_all
theorem aT.length {F:Hp}:∀ {l:List (Key×D)}{vs:List (Key×V)},aT F l vs->l.length=vs.length
 | [],_,h=>by
   rw[h];rfl
 | (k,d)::l,_,h=>by
   let#[v,r,e,_,h2]:=h;rw[e,bw,bw,h2.length]
def d3 (g g':D->D->Option Res) (ma mb mc:DE W):DE W:=λenv bx=>fC (ma env bx) λx bx1=>fC (mb env bx1) λy ax=>
 fC (cz af ((bY ax x).bind λp=>(bY ax y).bind λq=>g p q) ax) λz cj=>match z with
  |.d (.bl ag)=>fC (mc env cj) λw hZ=>cz af ((bY hZ y).bind λp=>(bY hZ w).bind λq=>g' p q) hZ
  |.d (.bl af)=>.val (.d<|.bl af) cj
  |_=>.bad
theorem adz {q:R2}(hg:cA q g) {x y:W}{w:V}{Q:VK}(R:Rel T F r σ H env bx) (dx:bX F r x v) (dy:bX F r y w)
 (h:End T Z bX F r σ env Q<|cz af ((bY bx x).bind λp=>(bY bx y).bind λq=>g p q) bx):q v w H Q:=by
 cases e1:bY bx x with
 |none=>rw[e1]at h;show h.elim
 |some p=>
   cases e2:bY bx y with
   |none=>rw[e1,e2]at h;show h.elim
   |some z=>
     cases e3:g p z with
     |none=>rw[e1,e2]at h;simp[bS,e3]at h;show h.elim
     |some s=>
       rw[e1,e2]at h;simp[bS,e3]at h;show hg F H p z v w Q s R.fh (R.sZ dx e1) (R.sZ dy e2) e3 λu H' k=>ib R h k
theorem GH {q q':R2}{g':D->D->Option Res}(hg:cA q g) (yk:cA q' g') {Q:VK}(h:tD T Z (d3 g g' ma mb mc) σ H Q):X7 q q' (tD T Z ma) (tD T Z mb) (tD T Z mc) σ H Q:=by
 let#[F,r,env,bx,R,h]:=h;refine#[F,r,env,bx,R,End.bind h λx bx1 F1 r1 v H1 g1 R1 d1 h1=>?_];refine#[F1,r1,env,bx1,R1,End.bind h1 λy ax F2 r2 w H2 g2 R2 d2 h2=>?_];refine adz hg R2 (g2.den d1) d2<|End.bind h2 λz cj F3 r3 u H3 g3 R3 d3 h3=>?_;split at h3
 .show#[ag,d3,(#[F3,r3,env,cj,R3,End.bind h3 λt hZ F4 r4 s H4 g4 R4 d4 h4=>(adz yk R4 (g4.den<|g3.den d2) d4 h4)])]
 .show#[af,d3,(h3 F3 r3 _ H3 (.refl F3 r3) R3 zj)]
 .show h3.elim
theorem Mo {dq:CmpOp}{q q':R2}{g':D->D->Option Res}(ho:bc X (compareOp op) q) (nS:bc X (compareOp dq) q') (hg:cA q g) (yk:cA q' g') (ha:PD X T Z a ma) (hb:PD X T Z b mb) (hc:PD X T Z c mc)
 (hm:lastMarks [op,dq] [b,c]=af:=by with_unfolding_all rfl):PD X T Z (.Compare a [op,dq] [b,c] pos) (d3 g g' ma mb mc):=
 PE.imp (LO ho nS ha hb hc hm) λσ H Q h=>GH hg yk h
theorem JJ {dq:CmpOp}{q q':R2}{g':D->D->Option Res}(ho:bc X (compareOp op) q) (nS:bc X (compareOp dq) q') (hg:cA q g) (yk:cA q' g') (ha:PD X T Z a ma) (hb:PD X T Z b mb) (hc:PD X T Z c mc)
 (hm:lastMarks [op,dq] [b,c]=af:=by with_unfolding_all rfl):eK X T Z (.Compare a [op,dq] [b,c] pos) (dB<|d3 g g' ma mb mc):=by
 refine PT.imp (LP ho nS ha hb hc hm) λσ H Q h=>?_;let#[F,r,env,bx,R,h]:=h;refine GH hg yk #[F,r,env,bx,R,End.bind h λw bx1 F1 r1 v H1 g1 R1 d1 h1=>?_];split at h1
 .ext k;show#[k,d1,h1 F1 r1 k H1 zS R1 zj]
 .show h1.elim
def nK (m k:DE Bool):DE Bool:=λenv bx=>fC zI λb bx1=>match b with|true=>k env bx1|false=>.val af bx1
def nW (m k:DE Bool):DE Bool:=λenv bx=>fC zI λb bx1=>match b with|true=>.val ag bx1|false=>k env bx1
def dU (m:DE Bool):DE Bool:=λenv bx=>fC zI λb bx1=>.val (!b) bx1
def tj (X:Cx) (T:Fr) (Z:Xs) (e:au) (m:DE Bool):zk:=PW X e<|sY T Z m
variable {ta tb:DE Bool} {rest:List au}
theorem Mp (h:eK X T Z a ta):tj X T Z (.BoolOp .And [a] pos) ta:=OR h
theorem Ph (h:eK X T Z a ta):tj X T Z (.BoolOp .Or [a] pos) ta:=LC h
theorem Pi (ha:eK X T Z a ta) (hb:tj X T Z (.BoolOp .And (b::rest) pos) tb):tj X T Z (.BoolOp .And (a::b::rest) pos) (nK ta tb):=by
 refine PW.imp (TJ ha hb) λσ H Q=>x4 λF r env bx R h=>?_;refine#[F,r,env,bx,R,End.bind h λk bx1 F1 r1 v H1 g1 R1 d1 h1=>?_];subst d1;cases k with
 |true=>show#[F1,r1,env,bx1,R1,h1]
 |false=>show h1 F1 r1 _ H1 zS R1 zj
theorem Um (ha:eK X T Z a ta) (hb:tj X T Z (.BoolOp .Or (b::rest) pos) tb):tj X T Z (.BoolOp .Or (a::b::rest) pos) (nW ta tb):=by
 refine PW.imp (S0 ha hb) λσ H Q=>x4 λF r env bx R h=>?_;refine#[F,r,env,bx,R,End.bind h λk bx1 F1 r1 v H1 g1 R1 d1 h1=>?_];subst d1;cases k with
 |false=>show#[F1,r1,env,bx1,R1,h1]
 |true=>show h1 F1 r1 _ H1 zS R1 zj
theorem S8 (h:tj X T Z e ta):eK X T Z e ta:=h.pt
theorem Pj (h:eK X T Z a ta):eK X T Z (.UnaryOp .Not a pos) (dU ta):=by
 refine PT.imp (LD h) λσ H Q=>x4 λF r env bx R h=>?_;refine#[F,r,env,bx,R,End.bind h λk bx1 F1 r1 v H1 g1 R1 d1 h1=>?_];subst d1;show h1 F1 r1 _ H1 zS R1 zj
def gx (m k:DE W):DE W:=λenv bx=>fC zI λw bx1=>match w with|.d (.bl ag)=>k env bx1|.d (.bl af)=>.val (.d<|.bl af) bx1|_=>.bad
def E6 (m:DE W):DE W:=λenv bx=>fC zI λw bx1=>match w with|.d (.bl k)=>.val (.d<|.bl<|!k) bx1|_=>.bad
theorem Uo {op}(h:PD X T Z a ma):PD X T Z (.BoolOp op [a] pos) ma:=TL h
theorem Uq (ha:PD X T Z a ma) (hb:PD X T Z (.BoolOp .And (b::rest) pos) mb):PD X T Z (.BoolOp .And (a::b::rest) pos) (gx ma mb):=by
 refine PE.imp (TM ha hb) λσ H Q=>x4 λF r env bx R h=>?_;refine#[F,r,env,bx,R,End.bind h λw bx1 F1 r1 v H1 g1 R1 d1 h1=>?_];split at h1
 .show#[ag,d1,(#[F1,r1,env,bx1,R1,h1])]
 .show#[af,d1,(h1 F1 r1 _ H1 zS R1 zj)]
 .show h1.elim
theorem Ur (ha:PD X T Z a ma):PD X T Z (.UnaryOp .Not a pos) (E6 ma):=by
 refine PE.imp (TN ha) λσ H Q=>x4 λF r env bx R h=>?_;refine#[F,r,env,bx,R,End.bind h λw bx1 F1 r1 v H1 g1 R1 d1 h1=>?_];split at h1
 .ext k;show#[k,d1,h1 F1 r1 _ H1 zS R1 zj]
 .show h1.elim
def nX (t:DE Bool) (m k:DE W):DE W:=λenv bx=>fC (t env bx) λb bx1=>match b with|true=>m env bx1|false=>k env bx1
theorem Us (hc:eK X T Z c ta) (ha:PD X T Z a ma) (hb:PD X T Z b mb):PD X T Z (.IfExp c a b pos) (nX ta ma mb):=by
 refine PE.imp (LF hc ha hb) λσ H Q=>x4 λF r env bx R h=>?_;refine#[F,r,env,bx,R,End.bind h λk bx1 F1 r1 v H1 g1 R1 d1 h1=>?_];subst d1;cases k with
 |_=>show#[F1,r1,env,bx1,R1,h1]
noncomputable def pI:List W->Option (List D)
 |[]=>ae []
 |.d x::l=>(pI l).map λt=>x::t
 |_=>ah
theorem kM.ds {F:Hp}{r:List ai}:∀ {ws:List W}{vs:List V}{ds:List D},kM F r ws vs->pI ws=ae ds->aJ F ds vs
 |[],_,_,h,e=>by cases e;show h
 | .d x::l,_,ds,h,e=>by
   let#[v,t,q,h1,h2]:=h;unfold pI at e;cases e2:pI l with
   |none=>rw[e2]at e;cases e
   |some t'=>
     rw[e2]at e;cases e;show#[v,t,q,h1,h2.ds e2]
 |.b _::l,_,ds,h,e=>by cases e
 |.s _::l,_,ds,h,e=>by cases e
 |.x _::l,_,ds,h,e=>by cases e
 |.t _::l,_,ds,h,e=>by cases e
 |.m _::l,_,ds,h,e=>by cases e
def gf (k:DE zah):DE W:=λenv bx=>fC (k env bx) λws bx1=>cz af ((pI ws).bind λl=>if l.length<=sizeLine then ae (.tup l) else ah) bx1
def gF (bo:Bool) (k:DE zah):DE W:=λenv bx=>fC (k env bx) λws bx1=>cz bo ((pI ws).bind λl=>if l.length<=sizeLine then ae (.lst l) else ah) bx1
theorem Ut {x1}{k:DE zah}(h:dJ X T Z es k):PD X T Z (.Tuple es x1 pos) (gf k):=by
 refine PE.imp (LU h) λσ H Q=>x4 λF r env bx R h=>?_;refine#[F,r,env,bx,R,End.bind h λws bx1 F1 r1 vs H1 g1 R1 d1 h1=>?_];cases e:pI ws with
 |none=>rw[e]at h1;show h1.elim
 |some l=>
   rw[e]at h1;simp[bS]at h1;split at h1
   .have dl:=d1.ds e;refine#[by rw[<-dl.length];assumption,λp hp=>ib R1 h1<|.inr #[p,vs,rfl,hp,rfl,dl]]
   .show h1.elim
theorem Uu {k:DE zah}(bo:Bool) (h:dJ X T Z es k):PD X T Z (.List es pos) (gF bo k):=by
 refine PE.imp (lC h) λσ H Q=>x4 λF r env bx R h=>?_;refine#[F,r,env,bx,R,End.bind h λws bx1 F1 r1 vs H1 g1 R1 d1 h1=>?_];cases e:pI ws with
 |none=>rw[e]at h1;show h1.elim
 |some l=>
   rw[e]at h1;simp[bS]at h1;split at h1
   .have dl:=d1.ds e;refine#[by rw[<-dl.length];assumption,λp hp=>ib R1 h1 #[p,vs,rfl,hp,rfl,dl]]
   .show h1.elim
theorem Mq {id:String}{q:List V->Hp->VK->zk}{g:List D->Option Res}{k:DE zah}(bo:Bool) (hc:kA X (.builtin id) q) (hk:ng q g) (hg:Gl X x) (hm:X.mg x=ah) (hv:bootBuiltins x=ae (.builtin id)) (ha:dJ X T Z (e::es) k)
 (hn:x ≠ "__name__":=by decide) (dg:(x==("__debug__":Str))=af:=by decide)
 (he:starEach (e::es) X.env=zae::starEach es X.env:=by rfl) (eA:(backTo pos<|starEach es X.env).any (·.1)=af:=by rfl):PD X T Z zJ (dN bo g k):=
 PE.imp (fV hc hg hm hv ha hn dg he eA) (Mm hk)
theorem JK {id:String}{q:List V->Hp->VK->zk}{g:List D->Option Res}{k:DE zah}(bo:Bool) (hc:kA X (.type id) q) (hk:ng q g) (hg:Gl X x) (hm:X.mg x=ah) (hv:bootBuiltins x=ae (.type id)) (ha:dJ X T Z (e::es) k)
 (hn:x ≠ "__name__":=by decide) (dg:(x==("__debug__":Str))=af:=by decide)
 (he:starEach (e::es) X.env=zae::starEach es X.env:=by rfl) (eA:(backTo pos<|starEach es X.env).any (·.1)=af:=by rfl):PD X T Z zJ (dN bo g k):=
 PE.imp (JD hc hg hm hv ha hn dg he eA) (Mm hk)
def qd (cl:Nat->ai) (n:Nat) (fn:List W->List Bx->O W):Sp:=λvs H Q E=>∃ F r ws bx,Rel #[H,r.length,F] F r [] H [] bx /\ kM F r ws vs /\ ws.length=n /\ End #[H,r.length,F] #[E,cl] bX F r [] [] Q (fn ws bx)
theorem kM.length {F:Hp}{r:List ai}:∀ {ws:List W}{vs:List V},kM F r ws vs->ws.length=vs.length
 | [],_,h=>by
   rw[h];rfl
 | d::l,_,h=>by
   let#[v,t,e,_,h2]:=h;rw[e,bw,bw,h2.length]
theorem Rel.enter (R:Rel T F r σ H env bx):Rel #[H,r.length,F] F r [] H [] bx:=
 #[R.fh,λi w e=>by simp at e,R.len,R.nd,R.box,λa u e _=>e,λn a hn e=>(by rw[qX hn]at e;cases e),aH _,aH _,λa u e=>.inr<|.inl e]
theorem Rel.after {r':List ai}{bx':List Bx}(R:Rel T F r σ H env bx) (g:bq F r F' r') (R':Rel #[H,r.length,F] F' r' [] H' [] bx'):Rel T F' r' σ H' env bx':=by
 have pre:∀ (n) (a),r[n]?=ae a->r'[n]?=ae a:=λn a e=>by
  let#[t,rfl]:=g.p;rw[dH (List.getElem?_eq_some_iff.mp e).1];show e
 have sub:∀ a,a∈r->a∈r':=λa h=>g.p.subset h;refine#[R'.fh,λi w e=>?_,R'.len,R'.nd,R'.box,λa u e hn=>(R'.keep a u (R.keep a u e λz=>hn<|sub a z) hn),λn a hn e=>?_,dF R.n0 g.p.length_le,R.sl,λa u e=>?_]
 .let#[v,e1,e2]:=R.slot i w e;show#[v,e1,g.den e2]
 .by_cases hl:n<r.length
  .have q:=pre n _<|cX hl;rw[e]at q;cases q;show R.new n _ hn<|cX hl
  .have q:H a=ah:=R'.new n a (vU hl) e;cases z:T.H₀ a with
   |none=>rfl
   |some u=>
     have hr:a∉r:=λha=>by
      let#[m,em]:=List.mem_iff_getElem?.mp ha;have:=lF R'.nd (pre m a em) e;show hl (by rw[<-this];show(List.getElem?_eq_some_iff.mp em).1)
     rw[R.keep a u z hr]at q;cases q
 .rcases R'.fs a u e with z|z|z|z
  .show .inl z
  .show(R.fs a u z).imp id (Or.imp id<|Or.imp id<|sub a)
  .by_cases ha:a∈r
   .show .inr<|.inr<|.inr<|sub a ha
   .refine .inr<|.inr<|.inl ?_;cases y:T.H₀ a with
    |none=>rfl
    |some u=>
      have z':H a=ah:=z;rw[R.keep a u y ha]at z';cases z'
  .show .inr<|.inr<|.inr z
def fj (fn:List W->List Bx->O W) (n:Nat) (k:DE zah):DE W:=λenv bx=>fC (k env bx) λws bx1=>if ws.length=n then fn ws bx1 else .bad
theorem Uv {k:DE zah}{Q:VK}(h:tD T Z (fj fn n k) σ H Q):YU (qd Z.cl n fn) [] Z.E (E3 T Z k) σ H Q:=by
 let#[F,r,env,bx,R,h]:=h;refine#[F,r,env,bx,R,End.bind h λws bx1 F1 r1 vs H1 g1 R1 d1 h1=>?_];split at h1
 .ext hl;refine#[F1,r1,ws,bx1,R1.enter,by rw[qv];show d1,hl,?_];cases e:fn ws bx1 with
  |val w bx'=>rw[e]at h1;show λF' r' v H' g R' d=>h1 F' r' v H' g (R1.after g R') d
  |exc c bx'=>rw[e]at h1;show λF' r' H' g R'=>h1 F' r' H' g (R1.after g R').drop
  |bad=>rw[e]at h1;show h1
 .show h1.elim
theorem Pk {ps:List Str}{k:Nat}(G:cZ X.prog X.w X.K X.mg X.base (dz X.prog X.w) k f fd ps<|qd Z.cl ps.length fn) (hr:cg k X.A) (hg:Gl X x) (hm:X.mg x=ae (.ref f))
 (hk:PySem.W.keepIn X.K (.ref f)=ag) (hb:Binds X.K fd ps []) (hx:Passes (dz X.prog X.w) X Z.E) (ha:dJ X T Z (e::es) m) (dg:(x==("__debug__":Str))=af:=by decide)
 (he:starEach (e::es) X.env=zae::starEach es X.env:=by rfl) (eA:(backTo pos<|starEach es X.env).any (·.1)=af:=by rfl):PD X T Z zJ (fj fn ps.length m):=
 PE.imp (OX G hr hg hm hk hb .nil hx ha dg he eA) λσ H Q h=>Uv h
end
inductive OS where
 |nx (env:aP) (bx:List Bx)|rt (w:W) (bx:List Bx)|bk (env:aP) (bx:List Bx)|ct (env:aP) (bx:List Bx)|exc (c:Nat) (bx:List Bx)|bad
abbrev az:=aP->List Bx->OS
def kN (T:Fr) (Z:Xs) (F:Hp) (r:List ai) (D:Ends):OS->zk
 |.nx aQ bx'=>∀ F' r' σ' H',bq F r F' r'->Rel T F' r' σ' H' aQ bx'->D.nx σ' H'
 |.rt w bx'=>∀ F' r' v H',bq F r F' r'->Rel T F' r' [] H' [] bx'->bX F' r' w v->D.rt v H'
 |.bk aQ bx'=>∀ F' r' σ' H',bq F r F' r'->Rel T F' r' σ' H' aQ bx'->D.bk σ' H'
 |.ct aQ bx'=>∀ F' r' σ' H',bq F r F' r'->Rel T F' r' σ' H' aQ bx'->D.ct σ' H'
 |.exc c bx'=>∀ F' r' H',bq F r F' r'->Rel T F' r' [] H' [] bx'->Z.E (.ref<|Z.cl c) ah H'
 |.bad=>False
theorem kN.weak {r':List ai}{D:Ends}(g:bq F r F' r'):∀ {o:OS},kN T Z F r D o->kN T Z F' r' D o
 |.nx _ _,h=>λF2 r2 s2 H2 g2=>h F2 r2 s2 H2<|g.trans g2
 |.rt _ _,h=>λF2 r2 s2 H2 g2=>h F2 r2 s2 H2<|g.trans g2
 |.bk _ _,h=>λF2 r2 s2 H2 g2=>h F2 r2 s2 H2<|g.trans g2
 |.ct _ _,h=>λF2 r2 s2 H2 g2=>h F2 r2 s2 H2<|g.trans g2
 |.exc _ _,h=>λF2 r2 H2 g2=>h F2 r2 H2<|g.trans g2
 |.bad,h=>h
noncomputable def br (m:O α) (k:α->List Bx->OS):OS:=
 match m with
 |.val a bx=>k a bx
 |.exc c bx=>.exc c bx
 |.bad=>.bad
theorem End.br {β:Type}{R1:Hp->List ai->α->β->zk}{D:Ends}{Q1:β->Hp->zk}
 {m:O α}{k:α->List Bx->OS}(h:kN T Z F r D<|DL.br m k)
 (c:∀ d bx1 F1 r1 v H1,bq F r F1 r1->Rel T F1 r1 σ H1 env bx1->R1 F1 r1 d v->kN T Z F1 r1 D (k d bx1)->Q1 v H1):End T Z R1 F r σ env Q1 m:=by
 cases m with
 |val d bx=>show λF' r' v H' g R q=>c d bx F' r' v H' g R q<|kN.weak g h
 |exc n bx=>show h
 |bad=>show h
def tS (T:Fr) (Z:Xs) (m:az):TS:=λD σ H=>∃ F r env bx,Rel T F r σ H env bx /\ kN T Z F r D zI
def cx (X:Cx) (T:Fr) (Z:Xs) (s:bp) (m:az):zk:=PS X s<|tS T Z m
def rG (X:Cx) (T:Fr) (Z:Xs) (s:List bp) (m:az):zk:=dD X s<|tS T Z m
section
variable {a b c:au} {p:aK} {rest:List bp} {m k:az} {tc:DE Bool}
noncomputable def aY:az:=λenv bx=>.nx env bx
noncomputable def fq (m k:az):az:=λenv bx=>match m env bx with|.nx a9 bx1=>k a9 bx1|o=>o
theorem Pl:rG X T Z [] aY:=dD.imp Gw λD σ H=>x4 λF r env bx R h=>h F r σ H (.refl F r) R
theorem Mr (h1:cx X T Z st m) (h2:rG X T Z rest k):rG X T Z (st::rest) (fq m k):=by
 refine dD.imp (g9 h1 h2) λD σ H=>x4 λF r env bx R h=>#[F,r,env,bx,R,?_];unfold fq at h;cases e:m env bx with
 |nx a9 bx1=>rw[e]at h;show λF1 r1 σ1 H1 g R1=>#[F1,r1,a9,bx1,R1,kN.weak g h]
 |rt w bx1=>rw[e]at h;show h
 |bk a9 bx1=>rw[e]at h;show h
 |ct a9 bx1=>rw[e]at h;show h
 |exc c bx1=>rw[e]at h;show h
 |bad=>rw[e]at h;show h
theorem Pm (h1:cx X T Z st m):rG X T Z [st] m:=mY h1
noncomputable def KC:az:=λenv bx=>.bk env bx
noncomputable def KD:az:=λenv bx=>.ct env bx
theorem JL:cx X T Z (.Break pos) KC:=PS.imp LG λD σ H=>x4 λF r env bx R h=>h F r σ H (.refl F r) R
theorem Ms:cx X T Z (.Continue pos) KD:=PS.imp Dm λD σ H=>x4 λF r env bx R h=>h F r σ H (.refl F r) R
def fX (m:DE W):az:=λenv bx=>br zI λ_ bx1=>.nx env bx1
theorem Mt (h:PD X T Z e ma) (hs:swapsWith e ah pos.line X.env=pure af:=by rfl):cx X T Z (.Expr e pos) (fX ma):=PS.imp (Gx h hs) λD σ H=>x4 λF r env bx R h=>(#[F,r,env,bx,R,End.br h λw bx1 F1 r1 v H1 g1 R1 d1 h1=>h1 F1 r1 σ H1 zS R1])
def fF (m:DE W):az:=λenv bx=>br zI λw bx1=>.rt w bx1
theorem Pn (h:PD X T Z e ma):cx X T Z (.Return (ae e) pos) (fF ma):=PS.imp (CB h) λD σ H=>x4 λF r env bx R h=>(#[F,r,env,bx,R,End.br h λw bx1 F1 r1 v H1 g1 R1 d1 h1=>h1 F1 r1 v H1 zS R1.drop d1])
def aR (t:DE Bool) (m k:az):az:=λenv bx=>br (t env bx) λb bx1=>match b with|true=>m env bx1|false=>k env bx1
theorem Uw {sa sb:List bp}(hc:eK X T Z c tc) (ha:rG X T Z sa m) (hb:rG X T Z sb k):cx X T Z (.If c sa sb pos) (aR tc m k):=by
 refine PS.imp (S3 hc ha hb) λD σ H=>x4 λF r env bx R h=>?_;refine#[F,r,env,bx,R,End.br h λw bx1 F1 r1 v H1 g1 R1 d1 h1=>?_];subst d1;cases w with
 |_=>show#[F1,r1,env,bx1,R1,h1]
abbrev DG:=W->aP->List Bx->Option (aP×List Bx)
abbrev pJ:=List W->aP->List Bx->Option (aP×List Bx)
noncomputable def adA (T:Fr) (F:Hp) (r:List ai) (Q:St->Hp->zk):Option (aP×List Bx)->zk
 |none=>False
 |some (aQ,bx')=>∀ F' r' σ' H',bq F r F' r'->Rel T F' r' σ' H' aQ bx'->Q σ' H'
def tG (T:Fr) (g:DG):TG:=λv σ H Q=>∃ F r env bx w,Rel T F r σ H env bx /\ bX F r w v /\ adA T F r Q (g w env bx)
def ahe (T:Fr) (g:pJ):uj:=λvs σ H Q=>∃ F r env bx ws,Rel T F r σ H env bx /\ kM F r ws vs /\ adA T F r Q (g ws env bx)
def nY (X:Cx) (T:Fr) (tg:au) (g:DG):zk:=PG X tg<|tG T g
def uz (X:Cx) (T:Fr) (tg:List au) (g:pJ):zk:=sQ X tg<|ahe T g
theorem PG.imp {t t':TG}(h:PG X tg t) (f:∀ v σ H Q,t' v σ H Q->t v σ H Q):PG X tg t':=λpins s σ H v u Q I r q=>h pins s σ H v u Q I r<|f v σ H Q q
theorem sQ.imp {tg:List au}{t t':uj}(h:sQ X tg t) (f:∀ v σ H Q,t' v σ H Q->t v σ H Q):sQ X tg t':=λpins s σ H v u Q I r q=>h pins s σ H v u Q I r<|f v σ H Q q
noncomputable def fe (i:Nat):DG:=λw env bx=>ae (env.set i<|ae w,bx)
theorem Rel.set {F H:Hp}{r:List ai}{σ:St}{env:aP}{bx:List Bx}(R:Rel T F r σ H env bx) {w:W}{v:V}(d:bX F r w v) (i:Nat):Rel T F r (σ.set i<|ae v) H (env.set i<|ae w) bx:=by
 refine#[R.fh,λj w' e=>?_,R.len,R.nd,R.box,R.keep,R.new,R.n0,by rw[qW,qW];show R.sl,R.fs];by_cases hj:j=i
 .subst hj;have hl:j<env.length:=by
   have:=(List.getElem?_eq_some_iff.mp e).1;rw[qW]at this;show this
  rw[pV hl]at e;cases e;show#[v,pV<|eG hl R.sl,d]
 .rw[sC<|Ne.symm hj]at e;let#[u,e1,e2]:=R.slot j w' e;show#[u,by rw[sC<|Ne.symm hj];show e1,e2]
theorem Mu (i:Nat) (hN:X.N.Nodup) (hi:X.N[i]?=ae x:=by rfl) (hx:Loc X.env.scope x:=by first|show Or.inl zj|show Or.inr zj) (hf:X.fn x=ag \/ X.env.scope.names.lookup x=ae .local:=by first|show .inl zj|show .inr zj|assumption):nY X T (.Name x pos) (fe i):=
 PG.imp (CC hN hi hx hf) λv σ H Q=>x5 λF r env bx w R d h=>h F r _ H (.refl F r)<|R.set d i
noncomputable def gn:pJ:=λws env bx=>match ws with|[]=>ae (env,bx)|_=>ah
noncomputable def fm (g:DG) (k:pJ):pJ:=λws env bx=>match ws with|w::l=>(g w env bx).bind λ(a9,bx1)=>k l a9 bx1|_=>ah
theorem Mv:uz X T [] gn:=sQ.imp Gy λv σ H Q=>x5 λF r env bx w R d h=>by
 cases w with
 |nil=>show#[d,h F r σ H (.refl F r) R]
 |cons _ _=>show h.elim
theorem JM {g:DG}{k:pJ}(h1:nY X T e g) (h2:uz X T es k) (hs:(assignEach (e::es) X.env).map (·.2)=assign e X.env::(assignEach es X.env).map (·.2):=by rfl):uz X T (e::es) (fm g k):=by
 refine sQ.imp (AM h1 h2 hs) λv σ H Q=>x5 λF r env bx ws R d h=>?_;cases ws with
 |nil=>show h.elim
 |cons w l=>
   let#[u,t,rfl,d1,d2]:=d;refine#[u,t,rfl,F,r,env,bx,w,R,d1,?_];unfold fm at h;cases eg:g w env bx with
   |none=>simp[eg]at h;show h.elim
   |some o=>
     let#[a9,bx1]:=o;simp[eg,bS]at h;intro F1 r1 σ1 H1 g1 R1;refine#[F1,r1,a9,bx1,l,R1,d2.mono g1,?_];cases ek:k l a9 bx1 with
     |none=>simp[ek]at h;show h.elim
     |some o2=>
       simp[ek]at h;show λF2 r2 σ2 H2 g2 R2=>h F2 r2 σ2 H2 (g1.trans g2) R2
theorem aJ.ws {F:Hp}{r:List ai}:∀ {l:List D}{vs:List V},aJ F l vs->kM F r (l.map W.d) vs
 |[],_,h=>h
 | d::l,_,h=>by
   let#[v,t,e,h1,h2]:=h;show#[v,t,e,h1,h2.ws]
noncomputable def gj (n:Nat) (k:pJ):DG:=λw env bx=>match w with|.d (.tup l)=>if l.length=n then k (l.map W.d) env bx else ah|_=>ah
theorem Po {k:pJ}{i:Nat}(hc:X.calm=ag) (h:uz X T es k) (hn:(assignEach es X.env).length=n:=by rfl) (pD:(assignEach es X.env).findIdx? (·.1)=ah:=by rfl):nY X T (.Tuple es i pos) (gj n k):=by
 refine PG.imp (LH hc h hn pD) λv σ H Q=>x5 λF r env bx w R d h=>?_;unfold gj at h;split at h
 .split at h
  .ext hl;let#[p,vs,rfl,h1,h2]:=d;show#[p,vs,rfl,.of<|R.fh _ _ h1,by rw[<-h2.length];show hl,F,r,env,bx,_,R,h2.ws,h]
  .show h.elim
 .show h.elim
def fJ (m:DE W) (g:DG):az:=λenv bx=>br zI λw bx1=>match g w env bx1 with|some (a9,ax)=>.nx a9 ax|none=>.bad
theorem Wp {g:DG}{D:Ends}(h:tS T Z (fJ ma g) D σ H):Kf (tD T Z ma) (tG T g) D σ H:=by
 let#[F,r,env,bx,R,h]:=h;refine#[F,r,env,bx,R,End.br h λw bx1 F1 r1 v H1 g1 R1 d1 h1=>#[F1,r1,env,bx1,w,R1,d1,?_]];cases eg:g w env bx1 with
 |none=>simp[eg]at h1;show h1.elim
 |some o=>simp[eg]at h1;show h1
theorem GI {g:DG}(he:PD X T Z e ma) (hg:nY X T tg g) (hs:swapsWithSole [tg] e pos.line X.env=pure af:=by rfl) (hw:swappedStores [tg] e X.env=pure ah:=by rfl)
 (h1:(assignEach [tg] X.env).map (·.2)=[assign tg X.env]:=by rfl):cx X T Z (.Assign [tg] e pos) (fJ ma g):=
 PS.imp (LJ he hg hs hw h1) λD σ H h=>Wp h
theorem Pp (i:Nat) (he:PD X T Z e ma) (hN:X.N.Nodup) (hi:X.N[i]?=ae x:=by rfl) (hx:Loc X.env.scope x:=by first|show Or.inl zj|show Or.inr zj) (hs:swapsWith e (ae<|.Name x pos') pos.line X.env=pure af:=by rfl) (hf:X.fn x=ag \/ X.env.scope.names.lookup x=ae .local:=by first|show .inl zj|show .inr zj|assumption) :
 cx X T Z (.Assign [.Name x pos'] e pos) (fJ ma<|fe i):=PS.imp (oK hN hi hx he hs hf) λD σ H=>x4 λF r env bx R h=>(#[F,r,env,bx,R,End.br h λw bx1 F1 r1 v H1 g1 R1 d1 h1=>h1 F1 r1 _ H1 zS<|R1.set d1 i])
def kO (i j:Nat) (m:DE zah):az:=λenv bx=>br zI λws bx1=>match ws with|[x,y]=>.nx ((env.set i<|ae x).set j<|ae y) bx1|_=>.bad
theorem Wq {i:Nat}{m:DE zah}{D:Ends}(h:tS T Z (kO i j m) D σ H):acL i j (E3 T Z m) D σ H:=by
 let#[F,r,env,bx,R,h]:=h;refine#[F,r,env,bx,R,End.br h λws bx1 F1 r1 vs H1 g1 R1 d1 h1=>?_];split at h1
 .let#[v,t,rfl,q1,u,t2,rfl,q2,q3]:=d1;cases (q3);show#[v,u,rfl,h1 F1 r1 _ H1 zS<|(R1.set q1 i).set q2 j]
 .show h1.elim
def vo (F:Hp) (r:List ai) (ds:List W) (J:It):zk:=
 ∀ (T:Fr) (i:Nat) (F1:Hp) (r1:List ai) (σ1:St) (H1:Hp) (a9:aP) (bx1:List Bx),bq F r F1 r1->Rel T F1 r1 σ1 H1 a9 bx1 ->
  (ds.length=i->J.stop i H1) /\ ∀ w,ds[i]?=ae w->J.go i H1 /\ ∀ x H2,J.EG i H1 x H2->∃ F2,bq F1 r1 F2 r1 /\ Rel T F2 r1 σ1 H2 a9 bx1 /\ bX F2 r1 w x
def tI (T:Fr) (Z:Xs) (m:DE zah):TI:=λσ H R=>∃ F r env bx,Rel T F r σ H env bx /\ End T Z vo F r σ env R zI
def uA (X:Cx) (T:Fr) (Z:Xs) (tg iter:au) (m:DE zah):zk:=PI X tg iter<|tI T Z m
theorem PI.imp {t t':TI}(h:PI X tg iter t) (f:∀ σ H Q,t' σ H Q->t σ H Q):PI X tg iter t':=λpins s σ H R I q=>h pins s σ H R I<|f σ H R q
noncomputable def cq (g:DG) (body:az):List W->az
 |[],env,bx=>.nx env bx
 | w::l,env,bx=>match g w env bx with
   |none=>.bad
   | some (a9,bx1)=>match body a9 bx1 with
     |.nx cK ax=>cq g body l cK ax
     |.ct cK ax=>cq g body l cK ax
     |.bk cK ax=>.nx cK ax
     |o=>o
def gT (m:DE zah) (g:DG) (body:az):az:=λenv bx=>br zI λds bx1=>cq g body ds env bx1
theorem Wr {g:DG}{D:Ends}{H1 F1:Hp}{r1:List ai}{ds:List W}{J:It}(R1:Rel T F1 r1 σ H1 env bx1) (y1:vo F1 r1 ds J) (h1:kN T Z F1 r1 D<|cq g m ds env bx1) :
 ∃ W:Nat->Nat->St->Hp->zk,(∃ m,W 0 m σ H1) /\ ∀ i n σ H,W i n σ H->(J.stop i H /\ D.nx σ H) \/ (J.go i H /\ ∃ N:St->Hp->zk,(∀ σ' H',N σ' H'->∃ n',n'<n /\ W (i+1) n' σ' H') /\ ∀ x H',J.EG i H x H'->tG T g x σ H' λσ2 H2=>tS T Z m { D with nx:=N,ct:=N,bk:=D.nx } σ2 H2):=by
 refine#[λi n σ' H'=>∃ pre l F' r' aQ bx',ds=pre++l /\ pre.length=i /\ n=l.length /\ bq F1 r1 F' r' /\ Rel T F' r' σ' H' aQ bx' /\ kN T Z F' r' D (cq g m l aQ bx'),#[ds.length,[],ds,F1,r1,env,bx1,rfl,rfl,rfl,.refl F1 r1,R1,h1],?_];rintro i n σ' H' ⟨pre,l,F',r',aQ,bx',pZ,hi,hn,g',R',h'⟩;let#[ys,yg]:=y1 T i F' r' σ' H' aQ bx' g' R';cases l with
 |nil=>show .inl #[ys (by rw[pZ,qv];lia),h' F' r' σ' H' (.refl F' r') R']
 |cons w l=>
   let#[go,yl]:=yg w (by rw[pZ,eI zb,hi,nO];rfl);refine .inr #[go,λσ2 H2=>∃ F2 r2 cK ax,bq F1 r1 F2 r2 /\ Rel T F2 r2 σ2 H2 cK ax /\ kN T Z F2 r2 D _,λσ2 H2 ⟨F2,r2,cK,ax,g2,R2,h2⟩=>#[l.length,by rw[hn];show sr _,pre++[w],l,F2,r2,cK,ax,by rw[pZ,sD];rfl,by rw[bQ,hi];rfl,rfl,g2,R2,h2],λx H2 hy=>?_];let#[F2,g2,R2,d2]:=yl x H2 hy;refine#[F2,r',aQ,bx',w,R2,d2,?_];simp[cq]at h';cases eg:g w aQ bx' with
   |none=>simp[eg]at h';show h'.elim
   |some o=>
     let#[uB,cj]:=o;simp[eg]at h';intro F3 r3 σ3 H3 g3 R3;refine#[F3,r3,uB,cj,R3,?_];have gg:=(g'.trans g2).trans g3;cases em:m uB cj with
     |nx KG hZ=>simp[em]at h';show λF4 r4 σ4 H4 g4 R4=>#[F4,r4,KG,hZ,gg.trans g4,R4,kN.weak ((g2.trans g3).trans g4) h']
     |ct KG hZ=>simp[em]at h';show λF4 r4 σ4 H4 g4 R4=>#[F4,r4,KG,hZ,gg.trans g4,R4,kN.weak ((g2.trans g3).trans g4) h']
     |bk KG hZ=>simp[em]at h';show λF4 r4 σ4 H4 g4 R4=>h' F4 r4 σ4 H4 ((g2.trans g3).trans g4) R4
     |rt w hZ=>simp[em]at h';show kN.weak (g2.trans g3) h'
     |exc c hZ=>simp[em]at h';show kN.weak (g2.trans g3) h'
     |bad=>simp[em]at h';show h'
theorem Ws {g:DG}{D:Ends}(h:tS T Z (gT mi g m) D σ H):acN (tI T Z mi) (tG T g) (tS T Z m) D σ H:=by
 let#[F,r,env,bx,R,h]:=h;show#[F,r,env,bx,R,End.br h λds bx1 F1 r1 J H1 g1 R1 y1 h1=>Wr R1 y1 h1]
theorem Pq {body:List bp}{g:DG}(hp:PassesOwn ze X.A X.env X.xe) (hc:X.calm=ag) (hi:uA X T Z tg iter mi) (hg:nY X T tg g) (hb:rG X T Z body m)
 (hs:∀ x,foldedSetIterable iter X.env x=pure x:=by intro _;rfl):cx X T Z (.For tg iter body [] pos) (gT mi g m):=
 PS.imp (TW hp hc hi hg hb hs) λD σ H h=>Ws h
def bP (m:DE W):DE zah:=λenv bx=>fC zI λw bx1=>match w with|.d (.lst l)=>.val (l.map W.d) bx1|.d (.tup l)=>.val (l.map W.d) bx1|_=>.bad
end
noncomputable def nj:OS->O W
 |.rt w bx=>.val w bx
 |.nx _ bx=>.val (.d .aB) bx
 |.exc c bx=>.exc c bx
 |_=>.bad
noncomputable def nq (n:Nat):O W->O W
 |.val (.d x) bx=>.val (.d x)<|bx.take n
 |.val w bx=>.val w bx
 |.exc c bx=>.exc c<|bx.take n
 |.bad=>.bad
noncomputable def envOf (n:Nat) (ws:List W):aP:=ws.map ae++List.replicate (n-ws.length) ah
def aM (n:Nat) (m:az):List W->List Bx->O W:=λws bx=>nq bx.length<|nj<|m (envOf n ws) bx
noncomputable def aO (m:az):az:=λenv bx=>match m env bx with|.exc _ _=>.bad|o=>o
theorem kM.get {F:Hp}{r:List ai}:∀ {l:List W}{vs:List V}{i:Nat}{d:W},kM F r l vs->l[i]?=ae d->∃ v,vs[i]?=ae v /\ bX F r d v
 |[],_,_,_,_,e=>by simp at e
 | x::l,_,0,d,h,e=>by
   let#[v,t,q,h1,_]:=h;simp at e;subst e;subst q;show#[v,rfl,h1]
 | x::l,_,i+1,d,h,e=>by
   let#[v,t,q,_,h2]:=h;subst q;let#[u,e1,e2]:=kM.get h2 (by simpa using e);show#[u,by simpa using e1,e2]
theorem Rel.start {T:Fr}{F H:Hp}{r:List ai}{bx:List Bx}{N:List Str}{ws:List W}{vs:List V}(R:Rel T F r [] H [] bx) (d:kM F r ws vs):Rel T F r (start N vs) H (envOf N.length ws) bx:=by
 have hl:=d.length;refine#[R.fh,λi w e=>?_,R.len,R.nd,R.box,R.keep,R.new,R.n0,?_,R.fs]
 .unfold envOf at e;unfold L2.start;by_cases hi:i<ws.length
  .rw[dH (by rw[a8];show hi),kZ]at e;cases q:ws[i]? with
   |none=>rw[q]at e;cases e
   |some w'=>
     rw[q]at e;cases e;let#[v,e1,e2]:=d.get q;refine#[v,?_,e2];rw[dH (by rw[a8,<-hl];show hi),kZ,e1];rfl
  .rw[eI (by rw[a8];lia)]at e;rw[abk]at e;split at e<;>cases e
 .unfold envOf L2.start;rw[bQ,bQ,a8,a8,Q7,Q7,hl];show aH _
theorem Wt {l l':List α}(h:l <+: l'):l'.take l.length=l:=by
 let#[t,rfl]:=h;simp
theorem Rel.cut {r':List ai}{bx':List Bx}(g:bq F r F' r') (R:Rel #[H,r.length,F] F' r' [] H' [] bx'):Rel #[H,r.length,F] F' r [] H' [] (bx'.take r.length):=by
 have hle:=g.p.length_le;have pre:∀ (n) (a),r[n]?=ae a->r'[n]?=ae a:=λn a e=>by
  let#[t,rfl]:=g.p;rw[dH (List.getElem?_eq_some_iff.mp e).1];show e
 refine#[R.fh,λi w e=>by simp at e,?_,(List.Sublist.nodup (List.IsPrefix.sublist g.p) R.nd),λn c a e1 e2=>?_,λa u e hn=>?_,λn a hn e=>?_,aH _,aH _,λa u e=>?_]
 .rw[Ew,<-R.len];lia
 .have qf:=(List.getElem?_eq_some_iff.mp e2).1;rw[abl qf]at e1;have k:=R.box n c a e1<|pre n a e2;cases c with
  |ins _ _=>let#[q1,dx,vs,q2,q3]:=k;show#[q1,dx,vs,q2,dE.cR (Sub.refl F').d (λm hm b e=>by
   have q:=pre m _<|cX<|vV hm qf;rw[e]at q;rw[cX<|vV hm qf];show q.symm) _ q3]
  |_=>show k
 .refine R.keep a u e λz=>?_;let#[m,em]:=List.mem_iff_getElem?.mp z;by_cases hm:m<r.length
  .have q:=pre m _<|cX hm;rw[em]at q;cases q;show hn<|sF hm
  .have q':=(R.new m a (vU hm) em);rw[e]at q';cases q'
 .rw[qX hn]at e;cases e
 .rcases R.fs a u e with y|z|z|z
  .show .inl y
  .show .inr<|.inl z
  .show .inr<|.inr<|.inl z
  .let#[m,em]:=List.mem_iff_getElem?.mp z;by_cases hm:m<r.length
   .have q:=pre m _<|cX hm;rw[em]at q;cases q;show .inr<|.inr<|.inr<|sF hm
   .show .inr<|.inr<|.inl<|R.new m a (vU hm) em
theorem GJ {Q:VK}(hb:bx.length=r.length) {o:O W}(h:End #[H,r.length,F] Z bX F r [] [] Q<|nq bx.length o):End #[H,r.length,F] Z bX F r [] [] Q o:=by
 rw[hb]at h;cases o with
 |bad=>show h
 |exc c bx1=>show λF' r' H' g R=>h F' r H' #[g.s,eY r]<|R.cut g
 |val w bx1=>
   cases w with
   |d x=>show λF' r' v H' g R d=>h F' r v H' #[g.s,eY r] (R.cut g) d
   |b n=>show h
   |s l=>show h
   |x i=>show h
   |_=>show h
theorem GK {Q:VK}{o:OS}(h:End T Z bX F r [] [] Q<|nj o):kN T Z F r { nx:=λ_ H'=>Q .aB H',rt:=Q } o:=by
 cases o with
 |nx env bx=>show λF' r' σ' H' g R=>h F' r' .aB H' g R.drop zj
 |rt w bx=>show λF' r' v H' g R d=>h F' r' v H' g R d
 |exc c bx=>show h
 |bk env bx=>show(h).elim
 |ct env bx=>show(h).elim
 |bad=>show h
section
variable {ps:List Str} {k:Nat} {m:az} 
theorem Yv (F:eD K x qual st f fd) (S:rn N ps<|fE st)
 (nU:∀ (cdv:aj) (A:cE) (outer:List Env) (s:aq) (H:Hp) (E:XK) (n:Nat) (F0:Hp),cg k z7 ->
  rG (qB (dz P w) P w K mg base N qual (fE st) f cdv A outer s H E) #[H,n,F0] #[E,cl] (f8 st) m):cZ P w K mg base (dz P w) (k+1) f fd ps (qd cl ps.length<|aM N.length m):=by
 refine F.ag4 S (λvs H Q E h=>?_) λcdv A outer s H vs Q E hr h=>?_
 .let#[F,r,ws,bx,_,d,hl,_]:=h;rw[<-d.length];show hl
 .let#[F,r,ws,bx,R,d,hl,h]:=h;show#[_,nU cdv A outer s H E r.length F hr,F,r,envOf N.length ws,bx,R.start d,GK<|GJ R.len.symm h]
theorem S9 (G:cZ P w K mg base rC k f fd ps sp):cZ P w K mg base CX k f fd ps sp:=
 #[G.len,λA outer s H args us vs Q E hr e0 hb hv hs=>uV (G.run A outer s H args us vs Q E hr e0 hb hv hs) λr s' h=>by
  cases r with
  |error e=>show False.elim h
  |ok fl=>
    cases fl with
    |ret u=>show h
    |next=>show h
    |brk=>show h
    |cont=>show h]
theorem Wu (F:eD K x qual st f fd) (S:rn N ps<|fE st)
 (nU:∀ (cdv:aj) (A:cE) (outer:List Env) (s:aq) (H:Hp) (E:XK) (n:Nat) (F0:Hp),cg k z7 ->
  rG (qB rC P w K mg base N qual (fE st) f cdv A outer s H E).ui #[H,n,F0] #[E0,cl] (f8 st) m):cZ P w K mg base (dz P w) (k+1) f fd ps (qd cl ps.length<|aM N.length<|aO m):=by
 refine S9<|F.ok S (λvs H Q E h=>?_) λcdv A outer s H vs Q E hr h=>?_
 .let#[F,r,ws,bx,_,d,hl,_]:=h;rw[<-d.length];show hl
 .let#[F,r,ws,bx,R,d,hl,h]:=h;refine#[_,nU cdv A outer s H E r.length F hr,F,r,envOf N.length ws,bx,R.start d,?_];have h':=GK<|GJ R.len.symm h;unfold aO at h';cases e:m _ bx with
  |nx env bx1=>simp[e]at h';show h'
  |rt w bx1=>simp[e]at h';show h'
  |bk env bx1=>simp[e]at h';show h'
  |ct env bx1=>simp[e]at h';show h'
  |exc c bx1=>simp[e]at h';show h'.elim
  |bad=>simp[e]at h';show h'
end
theorem CN:Passes (dz X.prog X.w) X E0:=λ_ _ _ _ _ _ _ h=>by
 let#[_,_,_,_,_,_,_,_,_,_,_,_,_,h]:=h;show h.elim
section
variable {m:az} {akQ:List bp}
end
noncomputable def bindB {β:Type}(m:O α) (k:α->List Bx->O β):O β:=
 match m with
 |.val a bx=>k a bx
 |_=>.bad
def bL (g:DG) (tf:DE Bool) (te:DE W):List W->aP->List Bx->List D->O (List D)
 |[],_,bx,acc=>.val acc bx
 | w::l,env,bx,acc=>match g w env bx with
   |none=>.bad
   | some (a9,bx1)=>bindB (tf a9 bx1) λb ax=>match b with
     |false=>bL g tf te l a9 ax acc
     | true=>bindB (te a9 ax) λy cj=>match y with
       |.d d=>if acc.length<sizeLine then bL g tf te l a9 cj (acc++[d]) else .bad
       |_=>.bad
noncomputable def eL (src:List<|Option Nat) (env:aP):aP:=src.map λo=>o.bind λi=>(env[i]?).bind id
def f7 (bo:Bool) (src:List<|Option Nat) (mi:DE zah) (g:DG) (tf:DE Bool) (te:DE W):DE W:=λenv bx=>
 fC (mi env bx) λds bx1=>fC (bL g tf te ds (eL src env) bx1 []) λl ax=>cz bo (ae<|.lst l) ax
theorem Rel.src {T:Fr}{F H:Hp}{r:List ai}{σ:St}{env:aP}{bx:List Bx}(R:Rel T F r σ H env bx) (src:List<|Option Nat):Rel T F r (vk src σ) H (eL src env) bx:=by
 refine#[R.fh,λj w e=>?_,R.len,R.nd,R.box,R.keep,R.new,R.n0,?_,R.fs]
 .unfold eL at e;unfold L2.vk;rw[kZ]at e ⊢;cases q:src[j]? with
  |none=>rw[q]at e;cases e
  |some o=>
    rw[q]at e;cases o with
    |none=>cases e
    |some i=>
      have e':(env[i]?).bind id=ae w:=Option.some.inj e;cases z:env[i]? with
      |none=>rw[z]at e';cases e'
      |some o'=>
        rw[z]at e';have e2:=e';subst e2;let#[v,e1,e2]:=R.slot i w z;show#[v,by simp[e1],e2]
 .unfold eL L2.vk;rw[a8,a8];show aH _
theorem Rel.inner {r':List ai}{σ':St}{aQ:aP}{bx':List Bx}(R:Rel T F r σ H env bx) (g:bq F r F' r') (R':Rel #[H,r.length,F] F' r' σ' H' aQ bx'):Rel T F' r' σ' H' aQ bx':=by
 have q:=R.after g R'.drop;show#[q.fh,R'.slot,q.len,q.nd,q.box,q.keep,q.new,q.n0,R'.sl,q.fs]
theorem Rel.again (R:Rel T F r σ H env bx):Rel #[H,r.length,F] F r σ H env bx:=
 #[R.fh,R.slot,R.len,R.nd,R.box,λa u e _=>e,λn a hn e=>(by rw[qX hn]at e;cases e),aH _,R.sl,λa u e=>.inr<|.inl e]
structure Own (F:Hp) (r:List ai) (H:Hp) (a:ai) (vs:List V):zk where
 h:H a=ae (.lst vs)
 f:F a=ah
 b:a∉r
theorem Own.inner {r':List ai}{σ':St}{aQ:aP}{bx':List Bx}{vs:List V}(o:Own F r H a vs) (g:bq F r F' r') (R':Rel #[H,r.length,F] F' r' σ' H' aQ bx'):Own F' r' H' a vs:=by
 have hb:a∉r':=λz=>by
  let#[m,em]:=List.mem_iff_getElem?.mp z;by_cases hm:m<r.length
  .let#[t,e]:=g.p;rw[<-e,dH hm]at em;show o.b<|List.mem_iff_getElem?.mpr #[m,em]
  .have q:H a=ah:=R'.new m a (vU hm) em;rw[o.h]at q;cases q
 refine#[R'.keep a _ o.h hb,?_,hb];cases q:F' a with
 |none=>rfl
 |some u=>
   rcases R'.fs a u q with⟨EZ,rfl⟩|z|z|z
   .have:=R'.fh a _ q;rw[R'.keep a _ o.h hb]at this;cases this
   .have z':F a=ae u:=z;rw[o.f]at z';cases z'
   .have z':H a=ah:=z;rw[o.h]at z';cases z'
   .show absurd z hb
end L2.DL
namespace L2
theorem JN (it:ai) (lo:Int) (n:Nat):Turn P w K tg (wb lo n) [it] it (λi h=>IsLongIter h it (lo+(i:Nat)*1) ((n:Int)-(i:Nat)) 1) where
 mem:=by simp
 obj:=λi h st b hb=>by
  have e:b=it:=by simpa using hb
  subst e;show#[_,st,λv z=>by
   cases z]
 keep:=λi h h' st k=>k it zg _ st
 item:=by
  intro X hP hw hK hc i pins s σ H E I hf st hg;subst hP hw hK;let#[f0,f1,f2,f3,f4,f5]:=hf it zg;refine(Walks.longrange (prog:=X.prog) (w:=X.w) (I.ok.hd hc) it lo 1 n).item i s _ _ hg st λv h' tk hv pF kk=>?_;let#[t,rfl]:=hv;refine#[_,rfl,Do pF zj zj (by decide) #[.int<|lo+i,H,(I.turned (λb o hb e=>kk b o (by simpa using hb) e) f0 f1 f3 f4 f5),#[t,?_],#[rfl,rfl],pF,λb hb=>(hf b hb).1]];rw[ab1]
 done:=by
  intro X hP hw hK hc i pins s σ H E I hf st hg;let#[f0,f1,f2,f3,f4,f5]:=hf it zg;show wpAny_pyNext_long_end (I.ok.hd hc) st (by have:n<=i:=hg;lia) λh' eb=>#[rfl,I.turned (λb o hb e=>eb b o hb e) f0 f1 f3 f4 f5]
 self:=λ_ _ _ _ _ st h=>wpAny_pyIter_longiter st h
theorem oO {s:aq}{R:It->Hp->zk}{lo hi:Int}{t u v:Tok}{tk:Nat}(I:Inv X pins σ H s)
 (q:R (wb lo (hi-lo).toNat) H):wpAny ze X.A (pyIter zad) (X2 X pins σ tg R) E { s with heap:=s.heap.push { cls:=.type "range",data:=.fields (List.toArray [.int lo t,.int hi u,.int 1 v]) },toks:=tk }:=by
 have e1:lo+((0))*1=lo:=by simp
 have e2:(((hi-lo).toNat))-((0))=Builtin.Range.rangeSize lo hi 1:=by rw[aaI];split<;>lia
 have I1:Inv X pins σ H { s with heap:=s.heap.push { cls:=.type "range",data:=.fields (List.toArray [.int lo t,.int hi u,.int 1 v]) },toks:=tk }:=I.kept λb o e=>aS _ e;have hf:∀ b∈[(s.heap.push { cls:=.type "range",data:=.fields (List.toArray [.int lo t,.int hi u,.int 1 v]) }).objs.size],pE X pins H b:=λb hb=>by
  have e:b=(s.heap.push { cls:=.type "range",data:=.fields (List.toArray [.int lo t,.int hi u,.int 1 v]) }).objs.size:=by simpa using hb
  subst e;show I1.xZ (aH _)<|I1.aF.fresh<|aH _
 cases hb:Builtin.Range.small lo hi 1 with
 |true=>
   refine aaH (IsRange.new ..) hb ?_;refine#[_,_,_,_,H,rfl,I1.kept λb o e=>aS _ e,AN _ lo (hi-lo).toNat,?_,hf,q];change IsRangeIter _ _ (lo+((0))*1) ((((hi-lo).toNat))-((0))) 1;rw[e1,e2];show bA _ zj
 |false=>
   refine wpAny_pyIter_longrange (IsRange.new ..) hb ?_;refine#[_,_,_,_,H,rfl,I1.kept λb o e=>aS _ e,JN _ lo (hi-lo).toNat,?_,hf,q];change IsLongIter _ _ (lo+((0))*1) ((((hi-lo).toNat))-((0))) 1;rw[e1,e2];show bA _ zj
def ahf (ta:TA):TI:=λσ H R=>ta σ H λvs H1=>∃ i j:Int,vs=[.int i,.int j] /\ R (wb i (j-i).toNat) H1
theorem JO {a b:au}{ta:TA}{p:aK}(hg:Gl X "range") (hm:X.mg "range"=ah) (ha:PA X [a,b] ta) (hs:starEach [a,b] X.env=[(af,eval a X.env),(af,eval b X.env)]:=by rfl) (kB:starEach [b] X.env=[(af,eval b X.env)]:=by rfl) :
 PI X tg (.Call (.Name "range" p) [a,b] [] pos) (ahf ta):=by
 intro pins s σ H R I h;refine Call_<|jC I hg hm boot_range<|IE (tA (ha pos pins s σ H _ I h) λus s1 vs H1 I1 r1 q1=>?_) (by rw[hs,kB]) (by rw[kB];rfl);let#[i,j,e,q]:=q1;subst e;cases r1 with
 |cons r rr=>
   cases rr with
   |cons r' rr=>
     cases rr;let#[t,rfl]:=r;let#[t',rfl]:=r';show call_range_2<|oO I1 q
end L2
namespace L2.DL
theorem Rel.adB (R:Rel T F r σ H env bx) {o:HO}(h:H p=ah):Rel T F r σ (upd H p o) env bx:=by
 have hs:∀ a u,H a=ae u->upd H p o a=ae u:=λa u e=>by rw[fu<|fL e h];show e
 show#[λa u e=>hs a u<|R.fh a u e,R.slot,R.len,R.nd,λn c a e1 e2=>(R.box n c a e1 e2).grow (Sub.refl F) (eY r) id<|hs a,λa u e hn=>hs a u<|R.keep a u e hn,R.new,R.n0,R.sl,R.fs]
theorem Rel.ahg (R:Rel T F r σ H env bx) {vs:List V}{o:HO}(w:Own F r H p vs) (hT:T.H₀ p=ah):Rel T F r σ (upd H p o) env bx:=by
 refine#[λa u e=>?_,R.slot,R.len,R.nd,λn c a e1 e2=>?_,λa u e hn=>?_,R.new,R.n0,R.sl,R.fs]
 .rw[fu (λz=>by rw[z,w.f]at e;cases e)];show R.fh a u e
 .have ha:a≠p:=λz=>w.b<|List.mem_iff_getElem?.mpr #[n,z▸e2];show(R.box n c a e1 e2).grow (Sub.refl F) (eY r) id λu z=>by rw[fu ha];show z
 .rw[fu (λz=>by rw[z,hT]at e;cases e)];show R.keep a u e hn
theorem Rel.ahh (R:Rel T F r σ H env bx) {vs:List V}(w:Own F r H p vs) (hT:T.H₀ p=ah):Rel T (upd F p<|.lst vs) r σ H env bx /\ bq F r (upd F p<|.lst vs) r:=by
 have s:=jQ (o:=.lst vs) w.f;refine#[#[λa u e=>?_,λi w e=>?_,R.len,R.nd,λn c a e1 e2=>?_,R.keep,R.new,R.n0,R.sl,λa u e=>?_],s,eY r]
 .by_cases ha:a=p
  .subst ha;rw[fv]at e;cases e;show w.h
  .rw[fu ha]at e;show R.fh a u e
 .let#[v,e1,e2]:=R.slot i w e;show#[v,e1,e2.mono s<|eY r]
 .have ha:a≠p:=λz=>w.b<|List.mem_iff_getElem?.mpr #[n,z▸e2];show(R.box n c a e1 e2).grow s (eY r) (λz=>by rw[fu ha];show z) λu z=>z
 .by_cases ha:a=p
  .subst ha;show .inr<|.inr<|.inl hT
  .rw[fu ha]at e;show R.fs a u e
theorem Rel.ahi (R:Rel T F r σ H env bx) {vs:List V}{l:List D}(w:Own F r H p vs) (hT:T.H₀ p=ah) (d:aJ F l vs):Rel T F (r++[p]) σ H env (bx++[.lst l]) /\ bq F r F (r++[p]) /\ (r++[p])[bx.length]?=ae p:=by
 have g:bq F r F (r++[p]):=#[Sub.refl F,pX r [p]];refine#[#[R.fh,λi w e=>?_,by rw[bQ,bQ,R.len];rfl,?_,λn c' a e1 e2=>?_,λa u e hn=>R.keep a u e λz=>hn<|pU _ z,λn a hn e=>?_,by rw[bQ];show dF R.n0 (uZ _ _),R.sl,λa u e=>(R.fs a u e).imp id<|Or.imp id<|Or.imp id λz=>pU _ z],g,(by rw[<-R.len,eI<|aH _,nO];rfl)]
 .let#[v,e1,e2]:=R.slot i w e;show#[v,e1,g.den e2]
 .rw[sH];refine#[R.nd,by simp,λa ha b hb=>?_];rw[ku]at hb;subst hb;show λz=>w.b<|z▸ha
 .by_cases hn:n<r.length
  .rw[dH hn]at e2;rw[dH (by rw[<-R.len];show hn)]at e1;show(R.box n c' a e1 e2).grow (Sub.refl F) (pX r [p]) id λ_ z=>z
  .rw[eI zb]at e2;rw[eI (by rw[<-R.len];lia)]at e1;have hl:n-r.length=0:=by
    cases q:n-r.length with
    |zero=>rfl
    |succ k=>rw[q]at e2;simp at e2
   have nJ:n-bx.length=0:=by rw[<-R.len];show hl
   rw[hl]at e2;rw[nJ]at e1;simp at e1 e2;subst e1 e2;show#[w.f,vs,w.h,d]
 .by_cases hl:n<r.length
  .rw[dH hl]at e;show R.new n a hn e
  .have hp:a=p:=by
    rw[eI zb]at e;cases q:n-r.length with
    |zero=>rw[q]at e;simp at e;show e.symm
    |succ k=>rw[q]at e;simp at e
   subst hp;show hT
section
variable {src:List (Option Nat)} {elt:au} {scope:bK} {g:DG} 
abbrev E7 (g:DG):TG:=λv σ H Q=>∃ T,tG T g v σ H Q
abbrev E8 (Z:Xs) (tf:DE Bool):TT:=λσ H Q=>∃ T,sY T Z tf σ H Q
abbrev E9 (Z:Xs) (te:DE W):TE:=λσ H Q=>∃ T,tD T Z te σ H Q
theorem Rel.slots {T':Fr}{r':List ai}{σ':St}{aQ:aP}{bx':List Bx}(R:Rel T F r σ H env bx) (g:bq F r F' r') (R':Rel T' F' r' σ' H' aQ bx'):Rel T' F' r' σ H' env bx' :=
 #[R'.fh,λi w e=>let ⟨v,e1,e2⟩:=R.slot i w e;#[v,e1,g.den e2],R'.len,R'.nd,R'.box,R'.keep,R'.new,R'.n0,R.sl,R'.fs]
theorem FF {Q:VK}{F1 H1:Hp}{r1:List ai}{ds:List W}{J:It}(R1:Rel T F1 r1 σ H1 env bx1) (y1:vo F1 r1 ds J)
 (h1:End T Z bX F1 r1 σ env Q<|fC (bL g tf te ds (eL src env) bx1 []) λl ax=>cz bo (ae<|.lst l) ax) (Da:ai) (hD:H1 Da=ah):adi J (E7 g) (E8 #[E0,Z.cl] tf) (E9 #[E0,Z.cl] te) Da Q (vk src σ) (upd H1 Da<|.lst []):=by
 have hT:T.H₀ Da=ah:=by
  cases q:T.H₀ Da with
  |none=>rfl
  |some u=>rw[R1.keep Da u q<|R1.E4 hD]at hD;cases hD
 refine#[λi n σ' H'=>∃ pre l F' r' aQ bx' acc vs,ds=pre++l /\ pre.length=i /\ n=l.length /\ bq F1 r1 F' r' /\ Rel T F' r' σ' H' aQ bx' /\ Own F' r' H' Da vs /\ aJ F' acc vs /\
  End T Z bX F' r' σ env Q (fC (bL g tf te l aQ bx' acc) λl ax=>cz bo (ae<|.lst l) ax),
  #[ds.length,[],ds,F1,r1,_,bx1,[],[],rfl,rfl,rfl,.refl F1 r1,(R1.adB hD).src src,#[fv,R1.vn hD,R1.E4 hD],.nil,h1],?_]
 rintro i n σ' H' ⟨pre,l,F',r',aQ,bx',acc,vs,pZ,hi,hn,g',R',o',da,h'⟩;let#[ys,yg]:=y1 _ i F' r' σ' H' aQ bx' g' R'.again;cases l with
 |nil=>
   refine .inl #[ys (by rw[pZ,qv];lia),?_];have RO:=R1.slots g' R';cases bo with
   | false=>show(λh'=>by
     let#[RA,gA]:=RO.ahh o' hT;show h' _ r' _ H' gA RA #[Da,vs,rfl,fv,aJ.mono gA.s acc da]) h'
   |true=>
     let#[RB,gB,hx]:=RO.ahi o' hT da;show h' F' _ _ H' gB RB #[Da,rfl,hx]
 |cons w l=>
   let#[go,yl]:=yg w (by rw[pZ,eI zb,hi,nO];rfl);refine .inr #[go,λσ2 H2=>∃ F2 r2 cK ax KH Ha,bq F1 r1 F2 r2 /\ Rel T F2 r2 σ2 H2 cK ax /\ Own F2 r2 H2 Da Ha /\ aJ F2 KH Ha /\
    End T Z bX F2 r2 σ env Q (fC (bL g tf te l cK ax KH) λl ax=>cz bo (ae<|.lst l) ax),
    λσ2 H2 ⟨F2,r2,cK,ax,KH,Ha,g2,R2,o2,d2,h2⟩=>#[l.length,by rw[hn];show sr _,pre++[w],l,F2,r2,cK,ax,KH,Ha,by rw[pZ,sD];rfl,by rw[bQ,hi];rfl,rfl,g2,R2,o2,d2,h2],λx H2 hy=>?_]
   let#[F2,g2,R2,d2]:=yl x H2 hy;have adC:=R'.inner g2 R2;refine#[#[H2,r'.length,F2],F2,r',aQ,bx',w,adC.again,d2,?_];simp[bL]at h';cases eg:g w aQ bx' with
   |none=>simp[eg]at h';show h'.elim
   |some o=>
     let#[uB,cj]:=o;simp[eg]at h';intro F3 r3 σ3 H3 g3 R3;have adD:=adC.inner g3 R3;refine#[#[H3,r3.length,F3],F3,r3,uB,cj,adD.again,?_];cases ef:tf uB cj with
     |bad=>simp[ef]at h';show h'.elim
     |exc c hZ=>simp[ef]at h';show h'.elim
     |val b hZ=>
       simp[ef,bindB]at h';intro F4 r4 b' H4 g4 R4 eb;subst eb;have Zn:=adD.inner g4 R4;have o4:=((o'.inner g2 R2).inner g3 R3).inner g4 R4;have adE:=((g'.trans g2).trans g3).trans g4;have Zo:=(g2.trans g3).trans g4;cases b with
       |false=>
         rw[if_neg zc];show#[F4,r4,uB,hZ,acc,vs,adE,Zn,o4,aJ.mono Zo.s acc da,End.weak Zo h']
       |true=>
         rw[if_pos rfl];refine#[#[H4,r4.length,F4],F4,r4,uB,hZ,Zn.again,?_];cases ee:te uB hZ with
         |bad=>simp[ee]at h';show h'.elim
         |exc c adF=>simp[ee]at h';show h'.elim
         |val y adF=>
           simp[ee]at h';intro F5 r5 v H5 g5 R5 d5;have o5:=o4.inner g5 R5;have adG:=Zo.trans g5;cases y with
           |d d=>
             simp at h';split at h'
             .ext hz;refine#[vs,o5.h,by rw[<-da.length];show hz,F5,r5,uB,adF,acc++[d],vs++[v],adE.trans g5,(Zn.inner g5 R5).ahg o5 hT,#[fv,o5.f,o5.b],(aJ.mono adG.s acc da).append<|.cons d5 .nil,End.weak adG h']
             .show h'.elim
           |b n=>show h'.elim
           |s l=>show h'.elim
           |x i=>show h'.elim
           |_=>show h'.elim
theorem Mw {Q:VK}(h:tD T Z (f7 bo src mi g tf te) σ H Q):Kw src (tI T Z mi) (E7 g) (E8 #[E0,Z.cl] tf) (E9 #[E0,Z.cl] te) σ H Q:=by
 let#[F,r,env,bx,R,h]:=h;show#[F,r,env,bx,R,End.bind h λds bx1 F1 r1 J H1 g1 R1 y1 h1=>FF R1 y1 h1]
theorem Pr (bo:Bool) (hc:X.calm=ag) (S:sW X N src scope) (hi:uA X T Z tg iter mi)
 (hg:∀ T cl s H C fp,nY zN T tg g) (hf:∀ T cl s H C fp,PF zN ifs<|sY T #[E0,Z.cl] tf) (he:∀ T cl s H C fp,PD zN T #[E0,Z.cl] elt te)
 (hs:∀ x,foldedSetIterable iter X.env x=pure x:=by intro _;rfl):PD X T Z zD (f7 bo src mi g tf te):=
 PE.imp (O8 hc S hi (λcl s H C fp pins s' σ' H' v u Q I rv ⟨T,q⟩=>hg T cl s H C fp pins s' σ' H' v u Q I rv q)
  (λcl s H C fp pins s' σ' H' Q I ⟨T,q⟩=>hf T cl s H C fp pins s' σ' H' Q I q) (λcl s H C fp pins s' σ' H' Q I ⟨T,q⟩=>he T cl s H C fp pins s' σ' H' Q I q) hs) λσ H Q h=>Mw h
noncomputable def gk:DE Bool:=λ_ bx=>.val ag bx
theorem Ps:PF X [] (sY T Z gk):=λpins s σ H Q I ⟨F,r,env,bx,R,h⟩=>Ub pins s σ H Q I<|h F r ag H (.refl F r) R zj
theorem Pt {c:au}{t:DE Bool}(h:eK X T Z c t):PF X [c] (sY T Z t):=Uc h
theorem B6 {l:List D}{i:Nat}{w:W}(e:(l.map W.d)[i]?=ae w):∃ d,l[i]?=ae d /\ w=.d d:=by
 rw[kZ]at e;cases q:l[i]? with
 |none=>rw[q]at e;cases e
 |some d=>rw[q]at e;cases e;show#[d,rfl,rfl]
noncomputable def fO (lo:Int) (n:Nat):List W:=(List.range n).map λ(i:Nat)=>W.d<|.int<|lo+i
theorem oh (lo:Int) (n:Nat):vo F r (fO lo n) (wb lo n):=λT i F1 r1 σ1 H1 a9 bx1 g R=>by
 unfold fO;refine#[λhl=>?_,λw e=>?_]
 .rw[a8,xr]at hl;show vT hl
 .rw[kZ]at e;cases q:(List.range n)[i]? with
  |none=>rw[q]at e;cases e
  |some j=>
    rw[q]at e;cases e;let#[h1,h2]:=List.getElem?_eq_some_iff.mp q;rw[List.getElem_range]at h2;subst h2;rw[xr]at h1;refine#[h1,λx H2 ⟨e1,e2⟩=>?_];subst e1 e2;show#[F1,.refl F1 r1,R,rfl]
def dW (k:DE zah):DE zah:=λenv bx=>fC (k env bx) λws bx1=>match ws with
 |[.d<|.int j]=>if -(2 ^ 62)<=j /\ j<2 ^ 62 then .val (fO 0 j.toNat) bx1 else .bad
 |_=>.bad
theorem FG {a:au}{p:aK}{k:DE zah}(hg:Gl X "range") (hm:X.mg "range"=ah) (ha:dJ X T Z [a] k) (hs:starEach [a] X.env=[(af,eval a X.env)]:=by rfl):uA X T Z tg (.Call (.Name "range" p) [a] [] pos) (dW k):=by
 refine PI.imp (Jw hg hm ha hs) λσ H Q=>x4 λF r env bx R h=>?_;refine#[F,r,env,bx,R,End.bind h λws bx1 F1 r1 vs H1 g1 R1 d1 h1=>?_];split at h1
 .ext j;split at h1
  .ext hj;let#[v,t,rfl,e1,e2]:=d1;cases (e2);cases (e1);show#[j,rfl,hj.1,hj.2,h1 F1 r1 _ H1 zS R1<|oh 0 j.toNat]
  .show h1.elim
 .show h1.elim
def tF (k:DE zah):DE zah:=λenv bx=>fC (k env bx) λws bx1=>match ws with
 |[.d<|.int i,.d<|.int j]=>.val (fO i (j-i).toNat) bx1
 |_=>.bad
theorem FH {a b:au}{p:aK}{k:DE zah}(hg:Gl X "range") (hm:X.mg "range"=ah) (ha:dJ X T Z [a,b] k) (hs:starEach [a,b] X.env=[(af,eval a X.env),(af,eval b X.env)]:=by rfl) (kB:starEach [b] X.env=[(af,eval b X.env)]:=by rfl) :
 uA X T Z tg (.Call (.Name "range" p) [a,b] [] pos) (tF k):=by
 refine PI.imp (JO hg hm ha hs kB) λσ H Q=>x4 λF r env bx R h=>?_;refine#[F,r,env,bx,R,End.bind h λws bx1 F1 r1 vs H1 g1 R1 d1 h1=>?_];split at h1
 .ext i j;let#[v,t,rfl,e1,v2,t2,rfl,e2,e3]:=d1;cases (e3);cases (e1);cases (e2);show#[i,j,rfl,h1 F1 r1 _ H1 zS R1<|oh i _]
 .show h1.elim
end
section
variable {a b c:au} {p:aK}
def adH (K:PySem.W.Frag):R2:=λx y H Q=>∃ a b ys,x=.ref a /\ y=.ref b /\ cM K H a [] /\ cM K H b ys /\ Q (.ref b) H
theorem Mx:bc X (binaryOp .Add) (adH X.K):=by
 intro pins s σ H x y v u Q I rx ry h;let#[a,b,ys,rfl,rfl,ha,hb,q]:=h;cases rx;cases ry;let#[its,r1,p1,_]:=I.tuple ha;let#[sU,r2,p2,_]:=I.tuple hb;cases r1;let#[#[cls,dd,data,sl],ho,hc,n,hd]:=id p1;let#[#[acX,vh,data2,vi],sR,nV,n2,hd2]:=id p2;subst hc hd nV hd2
 show QK #[_,ho,rfl] #[_,sR,rfl] QL QM Xz XA (XB _ _)
  (tuple_addW0 a b ([]).toArray sU.toArray n n2 dd vh sl vi<|rfl) #[ho,sR,#[.ref b,H,I,rfl,q]]
def adI (K:PySem.W.Frag):R2:=λx y H Q=>k9 (λi j=>.int<|i+j) x y H Q \/ acZ K x y H Q \/ adH K x y H Q \/ adb x y H Q \/ ∃ i j,x=.str i /\ y=.str j /\ i.length+j.length<=sizeLine /\ Q (.str<|i++j) H
theorem Pu:bc X (binaryOp .Add) (adI X.K):=TX.or<|O5.or<|Mx.or<|AT.or Ft
noncomputable def fP:D->D->Option Res
 |.int i,.int j=>ae<|.old<|.int<|i+j
 |.tup a,.tup b=>if a.length+b.length<=sizeLine then ae (.tup<|a++b) else ah
 |.lst a,.lst b=>if a.length+b.length<=sizeLine then ae (.lst<|a++b) else ah
 |.str a,.str b=>if a.length+b.length<=sizeLine then ae (.old<|.str<|a++b) else ah
 |_,_=>ah
theorem aJ.eq_nil {l:List D}{vs:List V}(h:aJ F l vs):vs=[] ↔ l=[]:=by
 have:=h.length;cases l<;>cases vs<;>simp_all
theorem ahj:cA (adI K) fP:=by
 intro F H x y v w Q s sub rx ry e k;unfold fP at e;split at e
 .ext i j;cases e;show .inl #[i,j,rx,ry,k _ _ #[rfl,rfl]]
 .split at e
  .ext hz;cases e;let#[a,vs,rfl,h1,h2]:=rx;let#[b,ws,rfl,h3,h4]:=ry;by_cases hv:vs=[]
   .subst hv;have hl:=h2.eq_nil.mp zj;subst hl;show .inr<|.inr<|.inl #[a,b,ws,rfl,rfl,.of<|sub _ _ h1,.of<|sub _ _ h3,k _ _<|.inl #[rfl,b,ws,rfl,h3,h4]]
   .refine .inr (.inl #[a,b,vs,ws,rfl,rfl,.of<|sub _ _ h1,.of<|sub _ _ h3,hv,by rw[<-h2.length,<-h4.length];show hz,λhw=>?_,λhw p hp=>k _ _<|.inr #[p,vs++ws,rfl,hp,rfl,h2.append h4]]);have hl:=h4.eq_nil.mp hw;subst hl;show k _ _ (.inl #[rfl,a,vs,rfl,h1,by rw[qv];show h2])
  .cases e
 .split at e
  .ext hz;cases e;let#[a,vs,rfl,h1,h2]:=rx;let#[b,ws,rfl,h3,h4]:=ry;show .inr<|.inr<|.inr (.inl #[a,b,vs,ws,rfl,rfl,h1,h3,by rw[<-h2.length,<-h4.length];show hz,λp hp=>k _ _ #[p,vs++ws,rfl,hp,rfl,h2.append h4]])
  .cases e
 .ext i j;split at e
  .ext hz;cases e;show .inr<|.inr<|.inr<|.inr #[i,j,rx,ry,hz,k _ _ #[rfl,rfl]]
  .cases e
 .cases e
theorem Zp {C:Int->Int->zk} [∀ i j,Decidable<|C i j] {g:Int->Int->D}{gv:Int->Int->V}(hg:∀ i j F,Den F (g i j)<|gv i j):cA (rI C gv) λx y=>match x,y with|.int i,.int j=>if C i j then ae (.old<|g i j) else ah|_,_=>ah:=by
 intro F H x y v w Q s sub rx ry e k;dsimp only at e;split at e
 .ext i j;split at e
  .ext hc;cases e;show#[i,j,rx,ry,hc,k _ _ #[rfl,hg i j F]]
  .cases e
 .cases e
theorem KI {g:Int->Int->D}{gv:Int->Int->V}(hg:∀ i j F,Den F (g i j)<|gv i j):cA (k9 gv) λx y=>match x,y with|.int i,.int j=>ae (.old<|g i j)|_,_=>ah:=by
 intro F H x y v w Q s sub rx ry e k;dsimp only at e;split at e
 .ext i j;cases e;show#[i,j,rx,ry,k _ _ #[rfl,hg i j F]]
 .cases e
noncomputable def cB:D->D->Option Res:=λx y=>match x,y with|.int i,.int j=>ae (.old<|.int<|i-j)|_,_=>ah
theorem ahk:cA (k9 λi j=>.int<|i-j) cB:=KI λ_ _ _=>rfl
instance (i j:Int):Decidable (wm i j):=by unfold wm;show inferInstance
def vp (i j:Int):zk:=0<j /\ j<10 ^ 40
theorem My:bc X (binaryOp .FloorDiv) (rI vp λi j=>.int<|i / j):=Kh λi j _ _ _ _ _ hc q=>by
 have h1:=hc.1;have h2:=hc.2;refine floordiv_int zb (by rw[Int.fdiv_eq_ediv_of_nonneg i zb];show q)<|.inl<|PyProof.noPylong_of_log2 ?_;have h3:j.natAbs.log2<133:=(Nat.log2_lt zb).mpr zb;lia
instance (i j:Int):Decidable (vp i j):=by unfold vp;show inferInstance
instance (i j:Int):Decidable (wj i j):=by unfold wj;show inferInstance
noncomputable def pK:D->D->Option Res:=λx y=>match x,y with|.int i,.int j=>if vp i j then ae (.old<|.int<|i / j) else ah|_,_=>ah
theorem ahl:cA (rI vp λi j=>.int<|i / j) pK:=Zp λ_ _ _=>rfl
noncomputable def pL:D->D->Option Res:=λx y=>match x,y with|.int i,.int j=>if 0<j then ae (.old<|.int<|i % j) else ah|_,_=>ah
theorem ahm:cA (rI (λ_ j=>0<j) λi j=>.int<|i % j) pL:=Zp λ_ _ _=>rfl
noncomputable def pM:D->D->Option Res:=λx y=>match x,y with|.int i,.int j=>if wj i j then ae (.old<|.int<|i ^ j.toNat) else ah|_,_=>ah
theorem ahn:cA (rI wj λi j=>.int<|i ^ j.toNat) pM:=Zp λ_ _ _=>rfl
noncomputable def intsOf:List D->Option (List Int)
 |[]=>ae []
 |.int i::l=>(intsOf l).map λt=>i::t
 |_=>ah
theorem aJ.ints {F:Hp}:∀ {l:List D}{vs:List V}{ns:List Int},aJ F l vs->intsOf l=ae ns->vs=ns.map V.int
 |[],_,_,h,e=>by cases e;show h
 | .int i::l,_,ns,h,e=>by
   let#[v,r,q,h1,h2]:=h;unfold intsOf at e;cases e2:intsOf l with
   |none=>rw[e2]at e;cases e
   |some t=>
     rw[e2]at e;cases e;rw[q,h2.ints e2,h1];rfl
 |.aB::l,_,_,_,e=>by cases e
 |.bl _::l,_,_,_,e=>by cases e
 |.str _::l,_,_,_,e=>by cases e
 |.tup _::l,_,_,_,e=>by cases e
 |.lst _::l,_,_,_,e=>by cases e
 |.aG _::l,_,_,_,e=>by cases e
noncomputable def kP:D->D->Option Res:=λx y=>match x,y with|.int i,.int j=>ae (.old<|.bl<|decide (j<i))|_,_=>ah
theorem aho:cA (k9 λi j=>.bl<|decide (j<i)) kP:=KI λ_ _ _=>rfl
noncomputable def nZ:D->D->Option Res:=λx y=>match x,y with|.int i,.int j=>ae (.old<|.bl<|decide (j<=i))|_,_=>ah
theorem ahp:cA (k9 λi j=>.bl<|decide (j<=i)) nZ:=KI λ_ _ _=>rfl
def aA:D->D->Option Res
 |.lst l,.int i=>(bD l i).map Res.old
 |.tup l,.int i=>(bD l i).map Res.old
 |_,_=>ah
theorem GL {l:List D}{vs:List V}{i:Int}{d:D}(h:aJ F l vs) (e:bD l i=ae d):∃ v,bD vs i=ae v /\ Den F d v:=by
 unfold bD at e ⊢;rw[<-h.length];cases q:cy l.length i with
 |none=>rw[q]at e;cases e
 |some j=>rw[q]at e;show h.get e
theorem ahq:cA (ac3 K) aA:=by
 intro F H x y v w Q s sub rx ry e k;unfold aA at e;split at e
 .ext l i;let#[a,vs,rfl,h1,h2]:=rx;cases e1:bD l i with
  |none=>rw[e1]at e;cases e
  |some d=>
    rw[e1]at e;cases e;let#[u,e2,du]:=GL h2 e1;show .inl #[a,vs,i,u,rfl,ry,.of h1,e2,k _ _ #[rfl,du]]
 .ext l i;let#[a,vs,rfl,h1,h2]:=rx;cases e1:bD l i with
  |none=>rw[e1]at e;cases e
  |some d=>
    rw[e1]at e;cases e;let#[u,e2,du]:=GL h2 e1;show .inr<|.inl #[a,vs,i,u,rfl,ry,.of<|sub _ _ h1,e2,k _ _ #[rfl,du]]
 .cases e
noncomputable def cC:List D->Option Res
 |[.lst l]=>ae<|.old<|.int l.length
 |[.tup l]=>ae<|.old<|.int l.length
 |_=>ah
theorem ahr:ng (λxs H Q=>∃ p ys,xs=[.ref p] /\ (bI K H p ys \/ cM K H p ys) /\ Q (.int ys.length) H) cC:=by
 intro F H xs vs Q s sub rx e k;unfold cC at e;split at e
 .cases e;let#[v,t,rfl,#[a,us,rfl,h1,h2],rt]:=rx;cases (rt);show#[a,us,rfl,.inl<|.of h1,k _ _ #[rfl,by rw[<-h2.length];rfl]]
 .cases e;let#[v,t,rfl,#[a,us,rfl,h1,h2],rt]:=rx;cases (rt);show#[a,us,rfl,.inr<|.of<|sub _ _ h1,k _ _ #[rfl,by rw[<-h2.length];rfl]]
 .cases e
noncomputable def rH:D->String
 |.aB=>"NoneType"|.bl _=>"bool"|.int _=>"int"|.str _=>"str"|.tup _=>"tuple"|.lst _=>"list"|.aG _=>"dict"
noncomputable def vq (S T:String):Bool:=S==T||(S == "bool"&&T == "int")
def qg (K:PySem.W.Frag) (T:String):zk:=∀ d:D,PySem.W.kitOne K (.type<|rH d) (.type T)=ae (vq (rH d) T)
theorem Wv (sub:Sub F H):∀ {d:D}{v:V},qc F H d v->pG K H v (.type<|rH d)
 |.aB,_,h=>by cases (h);show .aB
 |.bl b,_,h=>by cases (h);show .bl b
 |.int b,_,h=>by cases (h);show .int b
 |.str b,_,h=>by cases (h);show .str b
 |.tup l,_,h=>by let#[a,vs,rfl,h1,h2]:=h;show .tup<|sub _ _ h1
 |.lst l,_,h=>by let#[a,vs,rfl,h1,h2]:=h;show .lst h1
 |.aG l,_,h=>by let#[a,vs,rfl,h1,h2]:=h;show .dK h1
def jI (n:String) (m:DE W):DE W:=λenv bx=>fC zI λw bx1=>match bY bx1 w with|some d=>.val (.d<|.bl<|vq (rH d) n) bx1|none=>.bad
theorem Pv {n:String}{p p1:aK}(hT:qg X.K n) (hg:Gl X "isinstance") (hm:X.mg "isinstance"=ah) (wI:Gl X x) (wJ:X.mg x=ah) (hv:bootBuiltins x=ae (.type n)) (ha:PD X T Z a ma)
 (hn:x ≠ "__name__":=by decide) (dg:(x==("__debug__":Str))=af:=by decide)
 (adJ:starEach [a,.Name x p1] X.env=(af,eval a X.env)::starEach [.Name x p1] X.env:=by rfl) (ahs:starEach [.Name x p1] X.env=(af,eval (.Name x p1) X.env)::starEach [] X.env:=by rfl)
 (eA:(backTo pos<|starEach [.Name x p1] X.env).any (·.1)=af:=by rfl):PD X T Z (.Call (.Name "isinstance" p) [a,.Name x p1] [] pos) (jI n ma):=by
 refine PE.imp (fV fT hg hm (by decide +kernel) (fw ha (fw (Gu wI wJ hv (v:=.ty n) zj hn dg) fR ahs) adJ) zc (rfl) adJ eA) λσ H Q=>x4 λF r env bx R h=>?_;refine#[F,r,env,bx,R,End.bind h λw bx1 F1 r1 v H1 g1 R1 d1 h1=>?_];cases e:bY bx1 w with
 |none=>simp[e]at h1;show h1.elim
 |some d=>
   simp[e]at h1;show#[v,.ty n,_,.type n,_,rfl,.of<|Wv R1.fh<|R1.sZ d1 e,rfl,hT d,h1 F1 r1 _ H1 zS R1 zj]
end
section
variable {a b c:au} {p:aK}
def adK (K:PySem.W.Frag):R2:=λx y H Q=>∃ a b xs,x=.ref a /\ y=.ref b /\ cM K H a xs /\ cM K H b [] /\ Q (.bl xs.isEmpty) H
theorem Ux (hu:X.A.units<cLine):bc X (compareOp .Eq) (adK X.K):=by
 intro pins s σ H x y v u Q I rx ry h;let#[a,b,xs,rfl,rfl,h1,h2,q]:=h;cases rx;cases ry;let#[i1,r1,p1,z1]:=I.tuple h1;let#[i2,r2,p2,z2]:=I.tuple h2;cases r2;refine SeqAt.eq_tupleAt (e:=λ_=>ag) p1 p2 hu (λj h1 h2=>absurd h2 zg) #[.bl xs.isEmpty,H,I,?_,q];have:=r1.length;cases xs<;>cases i1<;>simp_all[RelV]
def adL (K:PySem.W.Frag):R2:=λx y H Q=>∃ (a b:ai) (ns ms:List Int),x=.ref a /\ y=.ref b /\ bI K H a (ns.map V.int) /\ bI K H b (ms.map V.int) /\ Q (.bl<|decide (ns=ms)) H
theorem JP {ms:List Int}(h:ns.length=ms.length):((List.range ns.length).all λj=>(ns.getD j 0==ms.getD j 0))=decide (ns=ms):=by
 rw[pT,bR,decide_eq_true_iff];constructor
 .intro q;refine List.ext_getElem h λj h1 h2=>?_;have:=q j<|List.mem_range.mpr h1;simpa[h1,h2] using this
 .rintro rfl j _;simp
theorem Uy (hu:X.A.units<cLine):bc X (compareOp .Eq) (adL X.K):=by
 intro pins s σ H x y v u Q I rx ry h;let#[a,b,ns,ms,rfl,rfl,h1,h2,q]:=h;cases rx;cases ry;let#[i1,r1,p1,z1]:=I.list h1;let#[i2,r2,p2,z2]:=I.list h2;have l1:ns.length=i1.length:=by have:=r1.length;simpa using this
 have l2:ms.length=i2.length:=by have:=r2.length;simpa using this
 by_cases hl:ns.length=ms.length
 .refine SeqAt.eq_listAt (e:=λj=>ns.getD j 0==ms.getD j 0) p1.isList p2.isList zo hu (λj h1 h2=>?_) ?_
  .have g2:j<i2.length:=by simpa using h2
   let#[w1,e1,q1]:=r1.get (i:=j) (x:=V.int<|ns[j]'(by lia)) zg;let#[w2,e2,q2]:=r2.get (i:=j) (x:=V.int<|ms[j]'(by lia)) zg;have k1:i1[j]=w1:=by rw[cX (by simpa using h1)]at e1;show Option.some.inj e1
   have k2:i2[j]=w2:=by rw[cX g2]at e2;show Option.some.inj e2
   change SeqAt.EqAt _ _ i1[j] i2[j] _;rw[k1,k2];let#[t,rfl]:=q1;let#[t',rfl]:=q2;have d1:ns.getD j 0=ns[j]'(by lia):=by simp[show j<ns.length by lia]
   have d2:ms.getD j 0=ms[j]'(by lia):=by simp[show j<ms.length by lia]
   rw[d1,d2];show XH _ _ _ _
  .rw[show i1.toArray.size=ns.length by simp;lia,JP hl];show#[.bl _,H,I,rfl,q]
 .refine SeqAt.eq_list_lengthsAt p1.isList p2.isList zo hu #[.bl af,H,I,rfl,?_];rw[decide_eq_false λz=>hl (by rw[z])]at q;show q
def KJ (K:PySem.W.Frag):R2:=λx y H Q=>acR x y H Q \/ adK K x y H Q \/ adL K x y H Q
theorem Pw (hu:X.A.units<cLine):bc X (compareOp .Eq) (KJ X.K):=Wi.or<|(Ux hu).or<|Uy hu
def Zq:D->D->Option Res
 |.int i,.int j=>ae<|.old<|.bl<|decide (i=j)
 |.str i,.str j=>ae<|.old<|.bl<|decide (i=j)
 |.tup l,.tup []=>ae<|.old<|.bl l.isEmpty
 |.lst a,.lst b=>(intsOf a).bind λns=>(intsOf b).map λms=>.old<|.bl<|decide (ns=ms)
 |_,_=>ah
theorem aht:cA (KJ K) Zq:=by
 intro F H x y v w Q s sub rx ry e k;unfold Zq at e;split at e
 .cases e;cases (rx);cases (ry);show .inl #[rfl,k _ _ #[rfl,by change _=_;simp]]
 .cases e;cases (rx);cases (ry);show .inl #[rfl,k _ _ #[rfl,by change _=_;simp]]
 .cases e;let#[a,vs,rfl,h1,h2]:=rx;let#[b,ws,rfl,h3,h4]:=ry;cases (h4);show .inr (.inl #[a,b,vs,rfl,rfl,.of<|sub _ _ h1,.of<|sub _ _ h3,k _ _ #[rfl,by change _=_;rw[h2.isEmpty]]])
 .ext l l';cases e1:intsOf l with
  |none=>rw[e1]at e;cases e
  |some ns=>
    cases e2:intsOf l' with
    |none=>rw[e1,e2]at e;cases e
    |some ms=>
      rw[e1,e2]at e;cases e;let#[a,vs,rfl,h1,h2]:=rx;let#[b,ws,rfl,h3,h4]:=ry;have q1:=h2.ints e1;have q2:=h4.ints e2;subst q1 q2;show .inr<|.inr #[a,b,ns,ms,rfl,rfl,.of h1,.of h3,k _ _ #[rfl,rfl]]
 .cases e
def adM (K:PySem.W.Frag):R2:=λx y H Q=>∃ a b xs,x=.ref a /\ y=.ref b /\ bI K H a xs /\ bI K H b [] /\ Q (.bl<|!xs.isEmpty) H
theorem Uz (hu:X.A.units<cLine):bc X (compareOp .NotEq) (adM X.K):=by
 intro pins s σ H x y v u Q I rx ry h;let#[a,b,xs,rfl,rfl,h1,h2,q]:=h;cases rx;cases ry;let#[i1,r1,p1,z1]:=I.list h1;let#[i2,r2,p2,z2]:=I.list h2;cases r2;cases r1 with
 |nil=>show SeqAt.RcNeAt.lists (e:=λ_=>ag) p1.isList p2.isList zj hu (λj h1 h2=>absurd h2 zg) X.prog X.w X.xe _ #[.bl af,H,I,rfl,q]
 |cons _ _=>show afJ p1.isList p2.isList (rfl) hu X.prog X.w X.xe _ #[.bl ag,H,I,rfl,q]
def KL (K:PySem.W.Frag):R2:=λx y H Q=>acS x y H Q \/ adM K x y H Q
theorem Px (hu:X.A.units<cLine):bc X (compareOp .NotEq) (KL X.K):=S6.or<|Uz hu
noncomputable def Zr:D->D->Option Res
 |.int i,.int j=>ae<|.old<|.bl<|!decide (i=j)
 |.str i,.str j=>ae<|.old<|.bl<|!decide (i=j)
 |.lst l,.lst []=>ae<|.old<|.bl<|!l.isEmpty
 |_,_=>ah
theorem ahu:cA (KL K) Zr:=by
 intro F H x y v w Q s sub rx ry e k;unfold Zr at e;split at e
 .cases e;cases (rx);cases (ry);show .inl #[rfl,k _ _ #[rfl,by change _=_;simp]]
 .cases e;cases (rx);cases (ry);show .inl #[rfl,k _ _ #[rfl,by change _=_;simp]]
 .cases e;let#[a,vs,rfl,h1,h2]:=rx;let#[b,ws,rfl,h3,h4]:=ry;cases (h4);show .inr #[a,b,vs,rfl,rfl,.of h1,.of h3,k _ _ #[rfl,by change _=_;rw[h2.isEmpty]]]
 .cases e
def adN (K:PySem.W.Frag) (vs:List V) (H:Hp) (Q:VK):zk:=∃ (p:ai) (bs:List Bool),vs=[.ref p] /\ H p=ae (.lst<|bs.map V.bl) /\ Q (.bl<|bs.all id) H
theorem JQ (hc:X.calm=ag):kA X (.builtin "all") (adN X.K):=by
 intro pins s σ H xs us Q I rv h;let#[p,bs,rfl,hp,q]:=h;let#[u,rfl,ru]:=Vals.one rv;cases ru;let#[its,r1,p1,z1]:=I.list<|bI.of hp;have hl:=p1.isList;have hlen:bs.length=its.length:=by have:=r1.length;simpa using this
 refine call_all_walk<|Ih hl ?_
 refine#[s.heap.objs.size,[s.heap.objs.size,p],[s.heap.objs.size],its.toArray.size,_,_,λi=>(bs[i]?).getD ag,rfl,Walks.list (A:=X.A.in1) (I.ok.hd hc) _ p (bJ (by let#[_,e,_]:=hl;show ba e)) its.toArray,
  #[#[_,bA _ zj,rfl,rfl],hl.push _],λi v s' Q' E' hP hQ=>?_,λh' tk hk=>?_]
 .have Hb:its[i]?=ae v:=by simpa using hP
  have hi:i<bs.length:=by rw[hlen];show(List.getElem?_eq_some_iff.mp Hb).1
  let#[w,e1,e2]:=r1.get (i:=i) (x:=V.bl bs[i]) zg;rw[Hb]at e1;cases e1;cases e2;simp[cX hi]at hQ;show qt hQ
 .have e:((List.range its.toArray.size).all λi=>(bs[i]?).getD ag)=bs.all id:=by
   rw[bU,<-hlen];show LSm.range_all bs
  rw[e];show#[.bl _,H,I.kept<|acu hk,rfl,q]
noncomputable def pN:List D->Option (List Bool)
 |[]=>ae []
 |.bl i::l=>(pN l).map λt=>i::t
 |_=>ah
theorem aJ.Zs {F:Hp}:∀ {l:List D}{vs:List V}{ns:List Bool},aJ F l vs->pN l=ae ns->vs=ns.map V.bl
 |[],_,_,h,e=>by cases e;show h
 | .bl i::l,_,ns,h,e=>by
   let#[v,r,q,h1,h2]:=h;unfold pN at e;cases e2:pN l with
   |none=>rw[e2]at e;cases e
   |some t=>
     rw[e2]at e;cases e;rw[q,h2.Zs e2,h1];rfl
 |.aB::l,_,_,_,e=>by cases e
 |.int _::l,_,_,_,e=>by cases e
 |.str _::l,_,_,_,e=>by cases e
 |.tup _::l,_,_,_,e=>by cases e
 |.lst _::l,_,_,_,e=>by cases e
 |.aG _::l,_,_,_,e=>by cases e
def dM:List D->Option Res
 |[.lst l]=>(pN l).map λbs=>.old<|.bl<|bs.all id
 |_=>ah
theorem ahv:ng (adN K) dM:=by
 intro F H xs vs Q s sub rx e k;unfold dM at e;split at e
 .ext l;let#[v,t,rfl,#[a,us,rfl,h1,h2],rt]:=rx;cases (rt);cases e1:pN l with
  |none=>rw[e1]at e;cases e
  |some bs=>
    rw[e1]at e;cases e;have q1:=h2.Zs e1;subst q1;show#[a,bs,rfl,h1,k _ _ #[rfl,rfl]]
 .cases e
theorem ahw:ng (λxs H Q=>∃ p ys,xs=[.ref p] /\ ((bI K H p ys /\ ∀ l,H l=ah->Q (.ref l) (upd H l<|.tup ys)) \/ (cM K H p ys /\ Q (.ref p) H)))
 (λxs=>match xs with|[.lst l]=>ae (.tup l)|[.tup l]=>ae (.tup l)|_=>ah):=by
 intro F H xs vs Q s sub rx e k;dsimp only at e;split at e
 .cases e;let#[v,t,rfl,#[a,us,rfl,h1,h2],rt]:=rx;cases (rt);show#[a,us,rfl,.inl #[.of h1,λp hp=>k _ _<|.inr #[p,us,rfl,hp,rfl,h2]]]
 .cases e;let#[v,t,rfl,#[a,us,rfl,h1,h2],rt]:=rx;cases (rt);show#[a,us,rfl,.inr #[.of<|sub _ _ h1,k _ _<|.inl #[rfl,a,us,rfl,h1,h2]]]
 .cases e
noncomputable def tH:List D->Option Res:=λxs=>match xs with|[.lst l]=>ae (.tup l)|[.tup l]=>ae (.tup l)|_=>ah
noncomputable def wK:List D->Option Res:=λxs=>match xs with|[.lst l]=>ae (.lst l)|[.tup l]=>ae (.lst l)|_=>ah
theorem ahx:ng (λxs H Q=>∃ p ys,xs=[.ref p] /\ (bI K H p ys \/ cM K H p ys) /\ ∀ l,H l=ah->Q (.ref l) (upd H l<|.lst ys)) wK:=by
 intro F H xs vs Q s sub rx e k;unfold wK at e;split at e
 .cases e;let#[v,t,rfl,#[a,us,rfl,h1,h2],rt]:=rx;cases (rt);show#[a,us,rfl,.inl<|.of h1,λp hp=>k _ _ #[p,us,rfl,hp,rfl,h2]]
 .cases e;let#[v,t,rfl,#[a,us,rfl,h1,h2],rt]:=rx;cases (rt);show#[a,us,rfl,.inr<|.of<|sub _ _ h1,λp hp=>k _ _ #[p,us,rfl,hp,rfl,h2]]
 .cases e
noncomputable def maxD:List D->Option Res:=λxs=>match xs with|[.int i,.int j]=>ae (.old<|.int (if j>i then j else i))|_=>ah
theorem ahy:ng (λxs H Q=>∃ i j,xs=[.int i,.int j] /\ Q (.int (if j>i then j else i)) H) maxD:=by
 intro F H xs vs Q s sub rx e k;unfold maxD at e;split at e
 .ext i j;cases e;let#[v,t,rfl,h1,v2,t2,rfl,h2,rt]:=rx;cases (rt);cases (h1);cases (h2);show#[i,j,rfl,k _ _ #[rfl,rfl]]
 .cases e
noncomputable def minD:List D->Option Res:=λxs=>match xs with|[.int i,.int j]=>ae (.old<|.int (if j<i then j else i))|_=>ah
theorem ahz:ng (λxs H Q=>∃ i j,xs=[.int i,.int j] /\ Q (.int (if j<i then j else i)) H) minD:=by
 intro F H xs vs Q s sub rx e k;unfold minD at e;split at e
 .ext i j;cases e;let#[v,t,rfl,h1,v2,t2,rfl,h2,rt]:=rx;cases (rt);cases (h1);cases (h2);show#[i,j,rfl,k _ _ #[rfl,rfl]]
 .cases e
end
end L2.DL
namespace HT
section
variable {s:aq}
theorem oj {t sl:ai}{vl vu:aj}{lo hi:Option Int}(ht:IsTup s.heap t items) (hs:s.heap.IsSliceOf sl vl vu .none) (pl:IsPart vl lo) (pu:IsPart vu hi)
 (hw:a7 items.size 0 lo=0 /\ a7 items.size items.size hi=items.size) (h:Q (.ref t) s):wpAny zf A (getItem (.ref t)<|.ref sl) Q E s:=by
 let#[os,wt,Km,pZ]:=id hs;unfold getItem;try with_reducible refine eU ?_
 first|refine ak (ay ?_)|skip
 refine ak<|aaP ht.typeIs (rfl) ?_;refine ak (qQ ht.typeIs xH
  (eW xH ht.typeIs abO ?_<|abP _ _))
 change wpAny _ _ (Builtin.Tuple.tupleItemsOf (.ref t) >>= _) _ _ s;refine ak<|abQ ht ?_;refine ak<|vQ #[os,wt,Km] ?_;refine ak<|jH hs pl pu ?_;have ahA:((((a7 items.size 0 lo):Int)==0&&(1:Int)==1&&zY==items.size)=ag):=by
  rw[hw.1,hw.2];simp
 change wpAny _ _ (if (((a7 items.size 0 lo):Int)==0&&(1)==1&&zY==items.size)=ag then _ else _) _ _ s;rw[if_pos ahA];show ak<|ak<|vQ ht.typeIs<|ay<|ak<|qu<|ay #[_,rfl,ay h]
theorem AY {β:Type}{f g:α->Option β}:∀ {l:List α},(∀ x∈l,f x=g x)->l.filterMap f=l.filterMap g:=by
 intro l_;induction l_ with
 |nil=>show λ_=>rfl
 |cons x l aD=>
   intro h;rw[qU,qU,h x bN,aD λy hy=>h y<|bG _ hy]
theorem AZ (n:Nat):sliceRange ((n:Int)-1) (-1) (-1)=(List.range n).map λk=>n-1-k:=by
 have e:(if (-1)>0 then (if (n:Int)-1 < -1 then (-1-((n:Int)-1)+-1-1) / -1 else 0) else (if (n:Int)-1>-1 then ((n)-1 - -1 - -1-1) / (- -1) else 0)).toNat=n:=by
  rw[if_neg zc];split
  .have:((n:Int)-1 - -1 - -1-1) / (- -1)=n:=by
    rw[show (- -1)=1 by decide,Int.ediv_one];lia
   rw[this];rfl
  .lia
 change (List.range (if (-1)>0 then (if (n:Int)-1 < -1 then (-1-((n:Int)-1)+-1-1) / -1 else 0) else (if (n:Int)-1>-1 then ((n)-1 - -1 - -1-1) / (- -1) else 0)).toNat).map _=_;rw[e];refine xt λk hk=>?_;lia
theorem BI (its:List aj):slicePick its.toArray ah ah (ae<|-1)=its.reverse.toArray:=by
 unfold slicePick;congr 1;change (sliceRange ((its.length)-1) (-1)<|-1).filterMap _=_;rw[AZ,abn];apply xu;intro i;have h1:(List.range its.length).filterMap ((λx=>its.toArray[x]?)∘λk=>its.length-1-k)=(List.range its.length).map λk=>(its[its.length-1-k]?).getD .none:=by
  rw[<-List.filterMap_eq_map];refine AY λk hk=>?_;have rD:=List.mem_range.mp hk;have qf:its.length-1-k<its.length:=by lia
  simp[qf]
 rw[h1,kZ];by_cases hi:i<its.length
 .have qf:its.length-1-i<its.length:=by lia
  rw[List.getElem?_range hi,List.getElem?_reverse hi];simp[qf]
 .rw[qX (by simpa using vU hi),qX (by simpa using vU hi)];rfl
end
end HT
namespace L2.DL
section
variable {a b c:au} {p p2:aK} {lo hi:Option au}
def adO (K:PySem.W.Frag):V->Option Int->Option Int->Hp->VK->zk:=λx lo hi H Q=>∃ a xs,x=.ref a /\ cM K H a xs /\
 (HT.a7 xs.length 0 lo=0 /\ HT.a7 xs.length xs.length hi=xs.length) /\ Q zaf H
theorem Py:uq X (adO X.K):=by
 intro pins s σ H x v vl vu lo hi sl Q I rx hs pl pu h;let#[a,xs,rfl,hx,hw,q]:=h;cases rx;let#[its,r,ht,hz]:=I.tuple hx;have hlen:its.toArray.size=xs.length:=r.length.symm;show#["tuple",_,xH.lookup,ht.typeIs,HT.oj ht hs pl pu (by rw[hlen];show hw) #[.ref a,H,I,rfl,q]]
def adP (K:PySem.W.Frag):V->Option Int->Option Int->Hp->VK->zk:=λx lo hi H Q=>acY K x lo hi H Q \/ adO K x lo hi H Q \/ ac4 K x lo hi H Q
theorem UA:uq X (adP X.K):=T4.or<|Py.or O6
def cutD (xs:List D) (lo hi:Option Int):List D:=(xs.drop<|HT.a7 xs.length 0 lo).take<|HT.a7 xs.length xs.length hi-HT.a7 xs.length 0 lo
theorem GM {l:List D}{vs:List V}(h:aJ F l vs) (lo hi:Option Int):aJ F (cutD l lo hi) (yc vs lo hi):=by
 unfold cutD yc;rw[h.length];show(h.drop _).take _
def tJ:D->Option Int->Option Int->Option Res
 |.tup l,lo,hi=>ae<|.tup<|cutD l lo hi
 |.lst l,lo,hi=>ae<|.lst<|cutD l lo hi
 |_,_,_=>ah
theorem ahB {x:D}{lo hi:Option Int}{Q:VK}{s:Res}(sub:Sub F H) (rx:qc F H x v) (e:tJ x lo hi=ae s) (k:∀ u H',wH F H s u H'->Q u H'):adP K v lo hi H Q:=by
 cases x with
 |tup l=>
   cases e;let#[a,vs,rfl,h1,h2]:=rx;by_cases hw:HT.a7 vs.length 0 lo=0 /\ HT.a7 vs.length vs.length hi=vs.length
   .refine .inr<|.inl #[a,vs,rfl,.of<|sub _ _ h1,hw,k _ _<|.inl #[rfl,?_]];have e:cutD l lo hi=l:=by
     unfold cutD;rw[h2.length,hw.1,hw.2,QZ,List.drop_zero,<-h2.length,vX]
    rw[e];show#[a,vs,rfl,h1,h2]
   .show .inl #[a,vs,rfl,.of<|sub _ _ h1,hw,λp hp=>k _ _<|.inr #[p,_,rfl,hp,rfl,GM h2 lo hi]]
 |lst l=>
   cases e;let#[a,vs,rfl,h1,h2]:=rx;show .inr<|.inr #[a,vs,rfl,.of h1,λp hp=>k _ _ #[p,_,rfl,hp,rfl,GM h2 lo hi]]
 |_=>cases e
abbrev ahC:Hp->List ai->Option Int->Option Int->zk:=λ_ _ a b=>a=b
def ahD (T:Fr) (Z:Xs) (m:DE<|Option Int):TO:=λσ H Q=>∃ F r env bx,Rel T F r σ H env bx /\ End T Z ahC F r σ env Q zI
def Hc (X:Cx) (T:Fr) (Z:Xs) (e:Option au) (m:DE<|Option Int):zk:=PO X e<|ahD T Z m
theorem PO.imp {e:Option au}{t t':TO}(h:PO X e t) (f:∀ σ H Q,t' σ H Q->t σ H Q):PO X e t':=λpins s σ H Q I q=>h pins s σ H Q I<|f σ H Q q
noncomputable def qC:DE (Option Int):=λ_ bx=>.val ah bx
def qh (m:DE W):DE (Option Int):=λenv bx=>fC zI λw bx1=>match w with|.d (.int i)=>.val (ae i) bx1|_=>.bad
theorem UB:Hc X T Z ah qC:=PO.imp O3 λσ H Q=>x4 λF r env bx R h=>h F r ah H (.refl F r) R zj
theorem Mz (h:PD X T Z e ma):Hc X T Z (ae e) (qh ma):=by
 refine PO.imp (O4 h) λσ H Q=>x4 λF r env bx R h=>?_;refine#[F,r,env,bx,R,End.bind h λw bx1 F1 r1 v H1 g1 R1 d1 h1=>?_];split at h1
 .ext i;show#[i,d1,h1 F1 r1 _ H1 zS R1 zj]
 .show h1.elim
def qi (bo:Bool) (m:DE W) (l u:DE<|Option Int):DE W:=λenv bx=>fC zI λx bx1=>fC (l env bx1) λi ax=>fC (u env ax) λj cj=>cz bo ((bY cj x).bind λd=>tJ d i j) cj
theorem MA {l u:DE (Option Int)}(bo:Bool) (ha:PD X T Z e ma) (hl:Hc X T Z lo l) (hu:Hc X T Z hi u):PD X T Z (.Subscript e (.Slice lo hi ah p2) pos) (qi bo ma l u):=by
 refine PE.imp (LZ UA ha hl hu) λσ H Q=>x4 λF r env bx R h=>?_;refine#[F,r,env,bx,R,End.bind h λx bx1 F1 r1 v H1 g1 R1 d1 h1=>?_];refine#[F1,r1,env,bx1,R1,End.bind h1 λi ax F2 r2 i' H2 g2 R2 d2 h2=>?_];refine#[F2,r2,env,ax,R2,End.bind h2 λj cj F3 r3 j' H3 g3 R3 d3 h3=>?_];subst d2 d3;cases e1:bY cj x with
 |none=>rw[e1]at h3;show h3.elim
 |some d=>
   rw[e1]at h3;simp[bS]at h3;cases e2:tJ d i j with
   |none=>rw[e2]at h3;show h3.elim
   |some s=>
     rw[e2]at h3;show ahB R3.fh (R3.sZ (g3.den<|g2.den d1) e1) e2 λu H' k=>ib R3 h3 k
theorem UC {te:TE}{i:Int}{q1 q2:aK}(he:PE X e te):PE X (.Subscript e (.Slice ah ah (ae<|.UnaryOp .USub (.Constant (.int 1) j q1) q2) p2) pos)
 (λσ H Q=>te σ H λx H1=>∃ a xs,x=.ref a /\ bI X.K H1 a xs /\ ∀ p,H1 p=ah->Q (.ref p) (upd H1 p<|.lst xs.reverse)):=by
 intro pins s σ H Q I h;refine Subscript_<|tE (he pins s σ H _ I h) λv s1 x H1 I1 r1 q1=>?_;refine aaQ ?_;refine ay<|ay ?_;refine tE (S5 LM AL pins s1 σ H1 (λy H2=>y=.int (-1) /\ H2=H1) I1 #[1,rfl,rfl,rfl]) λvs s3 y H3 I3 r3 hh=>?_;let#[e1,e2]:=hh;subst e1 e2;let#[t,rfl]:=r3;let#[a,xs,rfl,hx,q]:=q1;cases r1;have I4:Inv X pins σ H3 { s3 with heap:=s3.heap.push { cls:=.type "slice",data:=.fields (List.toArray [.none,.none,.int (-1) t]) } }:=I3.kept λb ob q=>aS _ q;let#[its,r,ht,hz]:=I4.list hx;have hlen:=r.length;have hg:wpAny ze X.A (getItem zaf<|.ref s3.heap.objs.size) (EP X pins σ Q) X.xe { s3 with heap:=s3.heap.push { cls:=.type "slice",data:=.fields (List.toArray [.none,.none,.int (-1) t]) } }:=by
  refine aaR ht.isList (Heap.IsSliceOf.new ..) .none .none (.int (-1) t) zg ?_ (by rw[bU]<;>lia);rw[HT.BI];refine#[.ref _,_,I4.laid (λb ob q=>aS _ q) (aH _) ?_,rfl,q _<|I4.aF.fresh<|aH _];show#[by rw[List.length_reverse];show hz,_,0,r.reverse,bA _ zj]
 change wpAny ze X.A (subscriptTail e (.Slice ah ah (ae<|.UnaryOp .USub (.Constant (.int 1) j _) q2) p2) zaf<|.ref s3.heap.objs.size) (EP X pins σ Q) X.xe _;show Xj ht.isList.typeIs slot_list_getitem.lookup hg (by with_unfolding_all rfl)
def KN (bo:Bool) (m:DE W):DE W:=λenv bx=>fC zI λx bx1=>cz bo ((bY bx1 x).bind λd=>match d with|.lst l=>ae (.lst l.reverse)|_=>ah) bx1
theorem UD {q1 q2:aK}(bo:Bool) (ha:PD X T Z e ma):PD X T Z (.Subscript e (.Slice ah ah (ae<|.UnaryOp .USub (.Constant (.int 1) j q1) q2) p2) pos) (KN bo ma):=by
 refine PE.imp (UC (i:=0) ha) λσ H Q=>x4 λF r env bx R h=>?_;refine#[F,r,env,bx,R,End.bind h λx bx1 F1 r1 v H1 g1 R1 d1 h1=>?_];cases e1:bY bx1 x with
 |none=>rw[e1]at h1;show h1.elim
 |some d=>
   rw[e1]at h1;cases d with
   |lst l=>
     let#[a,vs,rfl,k1,k2]:=R1.sZ d1 e1;show#[a,vs,rfl,.of k1,λp hp=>ib R1 h1 #[p,_,rfl,hp,rfl,k2.reverse]]
   |_=>show h1.elim
def tK (m:DE W):DE W:=λenv bx=>fC zI λw bx1=>match w with|.d (.int i)=>.val (.d<|.int<|-i) bx1|_=>.bad
theorem UE (ha:PD X T Z a ma):PD X T Z (.UnaryOp .USub a pos) (tK ma):=by
 refine PE.imp (S5 LM ha) λσ H Q=>x4 λF r env bx R h=>?_;refine#[F,r,env,bx,R,End.bind h λw bx1 F1 r1 v H1 g1 R1 d1 h1=>?_];split at h1
 .ext i;show#[i,d1,h1 F1 r1 _ H1 zS R1 zj]
 .show h1.elim
end
end L2.DL
namespace HT
section
variable {s:aq}
theorem o9 {l:ai}{Q:List aj->aq->zk}(hl:IsTup s.heap l vs.toArray) (hz:vs.length<=sizeLine)
 (h:Q vs { s with heap:=(s.heap.push<|seqObj "list" #[] 0).update s.heap.objs.size (Obj.mapSeq (·++vs.toArray)) }):wpAny zf A (collect<|.ref l) Q E s:=by
 let#[ob,ho,ye,k,rJ]:=id hl;refine ak<|QQ<|tZ entry_proto_collect'<|ak<|xm<|ay #[XJ _ (by decide +kernel),tZ entry_list_iadd' ?_];change wpAny _ _ (Builtin.List.listExtendWith _ _ _) _ _ { s with heap:=s.heap.push _ };have rK:(s.heap.push<|seqObj "list" #[] 0).get? l=ae ob:=aS _ ho;refine ak<|vQ #[ob,rK,ye] ?_;rw[if_pos (by rw[show (Value.type "tuple"==Value.type "tuple")=ag by decide,abe])];refine ak<|xE rK rJ<|ak<|xE (bA _ zj) zj ?_;rw[if_neg zg];refine ak<|IG (bA _ zj) zj (ay ?_) (dR _) (by change (#[]++vs.toArray).size<=sizeLine+1;simp[Array.size_append,bU,qw];lia);refine ak<|xl (abS (bA _ zj) _) (show wpAny _ _ (pure ((#[])++vs.toArray).toList) Q E _ from ?_);rw[show ((#[]:Array aj)++vs.toArray).toList=vs by simp];show ay h
theorem A0 {l:ai}(hl:IsTup s.heap l vs.toArray) (hI:IntsAre vs ns) (di:vs.length<64)
 (h:∀ (out:Array aj) (pO:List Int),IntsAre out.toList pO->pO.Perm ns->pO.Pairwise (·<=·)->Q (.ref zF) { s with heap:=sortedAll s.heap vs out }):wpAny zf A (call (.builtin "sorted") [.ref l]) Q E s:=by
 refine Kb IH II IJ (IK _) ?_;refine ak<|ay<|ak<|o9 hl (dF (eX di) zc)<|ak<|xm ?_;have hsz:((s.heap.push<|seqObj "list" #[] 0).update s.heap.objs.size (Obj.mapSeq (·++vs.toArray))).objs.size=s.heap.objs.size+1:=by rw[abj,uf]
 have ve:(((s.heap.push<|seqObj "list" #[] 0).update s.heap.objs.size (Obj.mapSeq (·++vs.toArray))).push<|seqObj "list" vs.toArray 0).get? zF=ae (seqObj "list" vs.toArray 0):=by rw[<-hsz];show bA _ zj
 rw[hsz];show ak<|eU<|eW IL #[_,ve,rfl] IM (abT ve hI di λout pO a1 a2 a3=>#[_,rfl,ay #[_,rfl,h out pO a1 a2 a3]])<|IP _
end
end HT
namespace L2.DL
noncomputable def sortI (ns:List Int):List Int:=ns.mergeSort λa b=>decide (a<=b)
theorem gU (ns:List Int):(sortI ns).Perm ns:=abt ns _
theorem jR (ns:List Int):(sortI ns).Pairwise (·<=·):=(abu (le:=λa b:Int=>decide _) (λa b c h1 h2=>by simp at *;lia) (λa b=>by simp;lia) ns).imp λq=>by simpa using q
theorem Aa {a b:List Int}(p:a.Perm b) (ha:a.Pairwise (·<=·)) (hb:b.Pairwise (·<=·)):a=b:=
 p.eq_of_pairwise (λx y _ _ h1 h2=>Int.le_antisymm h1 h2) ha hb
section
variable {a b c:au} {p p2:aK}
def KO (K:PySem.W.Frag) (vs:List V) (H:Hp) (Q:VK):zk:=∃ (p:ai) (ns:List Int),vs=[.ref p] /\ (bI K H p (ns.map V.int) \/ cM K H p (ns.map V.int)) /\ ns.length<64 /\ ∀ l,H l=ah->Q (.ref l) (upd H l<|.lst<|(sortI ns).map V.int)
theorem oP:∀ {us:List aj}{ns:List Int},IntsAre us ns->Vals (ns.map V.int) us
 |_,_,.nil=>.nil
 |_,_,.cons n t h=>.cons #[t,rfl]<|oP h
theorem JR:kA X (.builtin "sorted") (KO X.K):=by
 intro pins s σ H xs us Q I rv h;let#[p,ns,rfl,hp,di,q]:=h;let#[u,rfl,ru]:=Vals.one rv;cases ru;have fin:∀ (its) (out) (pO),IntsAre out.toList pO->pO.Perm ns->pO.Pairwise _->EP X pins σ Q _ { s with heap:=sortedAll s.heap its out }:=λits out pO a1 a2 a3=>by
  let#[k,he]:=abU s.heap its out;have e:=Aa (a2.trans (gU ns).symm) a3<|jR ns;subst e;have ll:((sortI ns).map V.int).length<=sizeLine:=by
   rw[a8,(gU ns).length_eq];show dF (eX di) zc
  refine#[.ref _,_,I.laid (λb ob q=>abV q) (sx _) ?_,rfl,q _<|I.aF.fresh<|sx _];show#[ll,out.toList,k,oP a1,he]
 rcases hp with hp|hp
 .let#[its,r1,p1,z1]:=I.list hp;have hl:ns.length=its.length:=by have:=r1.length;simpa using this
  show sorted_ints p1.isList (AS r1) zb λout pO=>fin its out pO
 .let#[its,r1,p1,z1]:=I.tuple hp;have hl:ns.length=its.length:=by have:=r1.length;simpa using this
  show HT.A0 p1 (AS r1) zb λout pO=>fin its out pO
def tL:List D->Option Res
 |[.lst l]=>(intsOf l).bind λns=>if ns.length<64 then ae (.lst<|(sortI ns).map D.int) else ah
 |[.tup l]=>(intsOf l).bind λns=>if ns.length<64 then ae (.lst<|(sortI ns).map D.int) else ah
 |_=>ah
theorem A3:∀ (ns:List Int),aJ F (ns.map D.int) (ns.map V.int):=by
 intro l_;induction l_ with
 |nil=>show rfl
 |cons n ns aD=>show .cons zj<|aD
theorem ahE:ng (KO K) tL:=by
 intro F H xs vs Q s sub rx e k;unfold tL at e;split at e
 .ext l;let#[v,t,rfl,#[a,us,rfl,h1,h2],rt]:=rx;cases (rt);cases e1:intsOf l with
  |none=>rw[e1]at e;cases e
  |some ns=>
    rw[e1]at e;erw[bS]at e;split at e
    .ext di;cases e;have q1:=h2.ints e1;subst q1;show#[a,ns,rfl,.inl<|.of h1,di,λl hl=>k _ _ #[l,_,rfl,hl,rfl,A3 _]]
    .cases e
 .ext l;let#[v,t,rfl,#[a,us,rfl,h1,h2],rt]:=rx;cases (rt);cases e1:intsOf l with
  |none=>rw[e1]at e;cases e
  |some ns=>
    rw[e1]at e;erw[bS]at e;split at e
    .ext di;cases e;have q1:=h2.ints e1;subst q1;show#[a,ns,rfl,.inr<|.of<|sub _ _ h1,di,λl hl=>k _ _ #[l,_,rfl,hl,rfl,A3 _]]
    .cases e
 .cases e
def qD (m:DE W) (k:DE W):DE W:=λenv bx=>fC zI λx bx1=>match x with
 | .b n=>(match bx1[n]? with
   | some (.lst _)=>fC (k env bx1) λy ax=>(match y,ax[n]? with
     |.d d,ae (.lst l)=>if l.length<sizeLine then .val (.d .aB) (ax.set n<|.lst<|l++[d]) else .bad
     |_,_=>.bad)
   |_=>.bad)
 |_=>.bad
theorem Ww {Q:VK}(h:tD T Z (qD ma mb) σ H Q):Ks X.K "list" ac8 (tD T Z ma) (Kk (tD T Z mb) EK) σ H Q:=by
 let#[F,r,env,bx,R,h]:=h;refine#[F,r,env,bx,R,End.bind h λx bx1 F1 r1 v H1 g1 R1 d1 h1=>?_];cases x with
 |b n=>
   simp at h1;let#[a,rfl,ha]:=d1;let#[c,hc,kc]:=R1.hV ha;rw[hc]at h1;cases c with
   |lst l0=>
     let#[_,vt,k0,_]:=kc;refine#[.inl #[rfl,vt,bI.of k0],?_];refine#[F1,r1,env,bx1,R1,End.bind h1 λy ax F2 r2 u H2 g2 R2 d2 h2=>?_];let#[t,et]:=g2.p;have vv:r2[n]?=ae a:=by rw[<-et,dH (List.getElem?_eq_some_iff.mp ha).1];show ha
     let#[c2,nV,uC]:=R2.hV vv;rw[nV]at h2;cases y with
     |d dd=>
       cases c2 with
       |lst l=>
         simp at h2;split at h2
         .ext hz;let#[hF,vs,k1,k2]:=uC;show#[a,vs,u,rfl,rfl,k1,by rw[<-k2.length];show hz,(h2 F2 r2 _ _ (.refl F2 r2) (R2.write vv hF #[hF,vs++[u],fv,k2.append<|.cons d2 .nil]) zj)]
         .show h2.elim
       |_=>show h2.elim
     |_=>show h2.elim
   |_=>show h1.elim
 |_=>show h1.elim
end
end L2.DL
namespace L2
section
variable {κ:Type} [DecidableEq κ]
noncomputable def nL (ao:List<|κ×V) (k:κ):Option V:=(ao.find? λkv=>decide (kv.1=k)).map (·.2)
noncomputable def putK (ao:List<|κ×V) (k:κ) (v:V):List (κ×V):=
 if (ao.any λkv=>decide (kv.1=k))=ag then ao.map (λkv=>if kv.1=k then (kv.1,v) else kv) else ao++[(k,v)]
noncomputable def tM (ao:List<|κ×V) (k:κ):List (κ×V):=ao.filter λkv=>decide (kv.1≠k)
theorem om {p:κ×V}{r:List (κ×V)}{k:κ}(e:p.1=k):nL (p::r) k=ae p.2:=by simp[nL,e]
theorem lG {p:κ×V}{r:List (κ×V)}{k:κ}(e:¬ p.1=k):nL (p::r) k=nL r k:=by simp[nL,e]
theorem MB (k:κ):∀ ao:List (κ×V),(ao.any λkv=>decide (kv.1=k))=(nL ao k).isSome:=by
 intro l_;induction l_ with
 |nil=>show rfl
 |cons p r aD=>
   rw[u7];by_cases e:p.1=k
   .simp[om e,decide_eq_true e,Bool.true_or,Option.isSome_some]
   .rw[lG e,decide_eq_false e,Bool.false_or];show aD
theorem lH (ao:List<|κ×V) (k:κ) (v:V):(putK ao k v).length<=ao.length+1:=by
 unfold putK;split
 .rw[a8];lia
 .rw[bQ,bw,qw];lia
theorem k6.ym {o:Option V}{u:Option aj}(r:k6 o u):o.isSome=u.isSome:=by
 cases o with
 | none=>cases u with
   |none=>rfl
   |some _=>show(r).elim
 | some _=>cases u with
   |none=>show(r).elim
   |some _=>rfl
theorem k6.getD {o:Option V}{u:Option aj}{d:V}{d':aj}(r:k6 o u) (rd:RelV d d'):RelV (o.getD d) (u.getD d'):=by
 cases o with
 | none=>cases u with
   |none=>show rd
   |some _=>show(r).elim
 | some _=>cases u with
   |none=>show(r).elim
   |some _=>show r
theorem KV.val {ao:List (κ×V)}{vs:List (κ×aj)}(r:KV ao vs) (k:κ):k6 (nL ao k) (valueAt vs k):=by
 induction r with
 |nil=>show True.intro
 |@cons p q ps qs h t ih=>
   let#[h1,h2]:=h;by_cases e:p.1=k
   .have b:valueAt (q::qs) k=ae q.2:=by simp[valueAt,(h1.symm.trans e)]
    rw[om e,b];show h2
   .have e':¬ q.1=k:=λz=>e<|h1.trans z;have b:valueAt (q::qs) k=valueAt qs k:=by simp[valueAt,e']
    rw[lG e,b];show ih
theorem KV.any {ao:List (κ×V)}{vs:List (κ×aj)}(r:KV ao vs) (k:κ):(ao.any λkv=>decide (kv.1=k))=vs.any λkv=>decide (kv.1=k):=by
 induction r with
 |nil=>rfl
 |cons h t ih=>rw[u7,u7,ih,h.1]
theorem KV.repl {ao:List (κ×V)}{vs:List (κ×aj)}(r:KV ao vs) (k:κ) {y:V}(ry:RelV y u) :
 KV (ao.map λkv=>if kv.1=k then (kv.1,y) else kv) (vs.map λkv=>if kv.1=k then (kv.1,u) else kv):=by
 induction r with
 |nil=>show .nil
 |@cons p q ps qs h t ih=>
   rw[aU,aU];refine .cons ?_ ih;let#[h1,h2]:=h;by_cases e:p.1=k
   .rw[if_pos e,if_pos<|h1.symm.trans e];show#[h1,ry]
   .rw[if_neg e,if_neg λz=>e<|h1.trans z];show#[h1,h2]
theorem KV.put {ao:List (κ×V)}{vs:List (κ×aj)}(r:KV ao vs) (k:κ) {y:V}(ry:RelV y u):KV (putK ao k y) (stored vs k u):=by
 unfold putK stored;rw[r.any k];by_cases e:(vs.any λkv=>decide (kv.1=k))=ag
 .rw[if_pos e,if_pos e];show r.repl k ry
 .rw[if_neg e,if_neg e];show Paired.snoc r #[rfl,ry]
theorem KV.drop {ao:List (κ×V)}{vs:List (κ×aj)}(r:KV ao vs) (k:κ):KV (tM ao k) (without vs k):=by
 unfold tM without;induction r with
 |nil=>show .nil
 |@cons p q ps qs h t ih=>
   let#[h1,h2]:=h;rw[Iy,Iy];by_cases e:p.1=k
   .rw[if_neg (by simp[e]),if_neg (by simp[h1.symm.trans e])];show ih
   .have e':¬ q.1=k:=λz=>e<|h1.trans z;rw[if_pos (by simp[e]),if_pos (by simp[e'])];show .cons #[h1,h2] ih
theorem KV.length {ao:List (κ×V)}{vs:List (κ×aj)}(r:KV ao vs):ao.length=vs.length:=Paired.length r
theorem MC (ao:List<|κ×V) (k:κ):(tM ao k).length<=ao.length:=Iz _ _
end
theorem Ab {k:Key}(r:RelV (kV k) u):(eu P w).is k u=ag:=by
 cases k with
 |inl i=>let#[t,e]:=(r);subst e;show Dk P w i t
 |inr x=>let#[t,e]:=(r);subst e;show Dl P w x t
theorem JS:∀ {ks:List Key}{us:List aj},Vals (ks.map kV) us->ItemsAre (eu P w) ks us:=by
 intro l_;induction l_ with
 |nil=>(intro _ r;cases r;show .nil)
 |cons k ks aD=>
   intro _ r;cases r with
   |cons h t=>show .cons (Ab h)<|aD t
abbrev KT (H:Hp):List (List Key×V)->List (List Key×ai×aj)->zk:=Paired λp q=>p.1=q.1 /\ H q.2.1=ae (.tup<|p.1.map kV) /\ RelV p.2 q.2.2
theorem KT.val (r:KT H ao xs) (k:List Key):k6 (nL ao k) ((atKey xs k).map (·.2)):=by
 induction r with
 |nil=>show True.intro
 |@cons p q ps qs h t ih=>
   let#[h1,_,h2]:=h;by_cases e:p.1=k
   .have b:atKey (q::qs) k=ae q.2:=by simp[atKey,(h1.symm.trans e)]
    rw[om e,b];show h2
   .have e':¬ q.1=k:=λz=>e<|h1.trans z;have b:atKey (q::qs) k=atKey qs k:=by simp[atKey,e']
    rw[lG e,b];show ih
theorem KT.repl (r:KT H ao xs) (k:List Key) {y:V}(ry:RelV y u) :
 KT H (ao.map λkv=>if kv.1=k then (kv.1,y) else kv) (xs.map<|putAt k u):=by
 induction r with
 |nil=>show .nil
 |@cons p q ps qs h t ih=>
   rw[aU,aU];refine .cons ?_ ih;let#[h1,h2,h3]:=h;unfold putAt;by_cases e:p.1=k
   .rw[if_pos e,if_pos<|h1.symm.trans e];show#[h1,h2,ry]
   .rw[if_neg e,if_neg λz=>e<|h1.trans z];show#[h1,h2,h3]
theorem KT.put (r:KT H ao xs) (k:List Key) {b:ai}{y:V}(hb:H b=ae (.tup<|k.map kV)) (ry:RelV y u) :
 KT H (putK ao k y) (storedH xs k b u):=by
 have e:(ao.any λkv=>decide (kv.1=k))=(atKey xs k).isSome:=by
  rw[MB,(r.val k).ym,v7]
 unfold putK storedH;rw[e];by_cases q:(atKey xs k).isSome=ag
 .rw[if_pos q,if_pos q];show r.repl k ry
 .rw[if_neg q,if_neg q];show Paired.snoc r #[rfl,hb,ry]
theorem KT.keeps (r:KT H ao xs) (ht:∀ b ys,H b=ae (.tup ys)->H' b=ae (.tup ys)):KT H' ao xs:=
 Paired.XQ r λ_ _ z=>#[z.1,ht _ _ z.2.1,z.2.2]
section
variable {h:aE} 
theorem Ta {u:HO}(ok:cH P w H h) (e:Rd H a u):dn P w H h a u:=e.ok ok
theorem Ac {ao:List (Key×V)}(ok:cH P w H h) (e:Rd H a<|.dK ao):ao.length<=sizeLine /\ (a==sysModules)=af /\ ∃ vs,KV ao vs /\ h.DictOf (eu P w) a vs:=
 Ta ok e
theorem MD {ao:List (Key×V)}(ok:cH P w H h) (e:H a=ae (.dK ao)):ao.length<=sizeLine /\ (a==sysModules)=af /\ ∃ vs,KV ao vs /\ h.DictOf (eu P w) a vs:=Ac ok<|.inl e
theorem oQ {ks:List Key}(ok:cH P w H h) (e:H a=ae (.tup<|ks.map kV)):(tupleKind<|eu P w).is h ks a:=by
 let#[_,its,r,o,h1,h2,n,h3]:=(ok a _ e);show#[o,its.toArray,n,h1,h2,h3,by simpa using JS r]
theorem A4 (ok:cH P w H h) (e:Rd H a<|.dT ao):ao.length<=sizeLine /\ (a==sysModules)=af /\
 ∃ xs,KT H ao xs /\ h.DictOfH (tupleKind<|eu P w) a xs:=by
 let#[z,y,xs,r,o,es,ep,h1,h2,h3,h4,h5]:=(Ta ok e);refine#[z,y,xs,r,o,es,ep,h1,h2,h3,h4,λx hx=>?_,h5];have all:∀ {l}{m},KT H l m->∀ x∈m,(tupleKind<|eu P w).is h x.1 x.2.1:=by
  intro l m q;induction q with
  |nil=>intro x hx;show nomatch hx
  |@cons p q ps qs hq t ih=>
    intro x hx;rcases bz.mp hx with e|hx
    .subst e;show oQ ok (by rw[<-hq.1];show hq.2.1)
    .show ih x hx
 show all r x hx
theorem Tb (ok:cH P w H h) (e:H a=ae (.dT ao)):ao.length<=sizeLine /\ (a==sysModules)=af /\
 ∃ xs,KT H ao xs /\ h.DictOfH (tupleKind<|eu P w) a xs:=A4 ok<|.inl e
end
def qH (H:Hp) (a:ai) (y:V) (r:Option V):zk:=
 (∃ ao k,Rd H a (.dK ao) /\ y=kV k /\ r=nL ao k) \/ ∃ ao k b,Rd H a (.dT ao) /\ y=.ref b /\ H b=ae (.tup<|k.map kV) /\ r=nL ao k
def adQ (H:Hp) (a:ai) (y v:V) (H':Hp):zk:=
 (∃ ao k,H a=ae (.dK ao) /\ y=kV k /\ ao.length<sizeLine /\ H'=upd H a (.dK<|putK ao k v)) \/
 ∃ ao k b,H a=ae (.dT ao) /\ y=.ref b /\ H b=ae (.tup<|k.map kV) /\ ao.length<sizeLine /\ H'=upd H a (.dT<|putK ao k v)
theorem qH.k {H:Hp}{a:ai}{ao:List (Key×V)}{k:Key}(e:H a=ae (.dK ao)):qH H a (kV k) (nL ao k):=.inl #[ao,k,.inl e,rfl,rfl]
section
variable {s:aq} {y:V} {r:aj} {o:Option V} 
theorem Inv.big (I:Inv X pins σ H s):sysModules<s.heap.objs.size:=vV zc (I.mod.glob.keeps I.bk).lt
theorem JT (hu:A.units+1<cLine) (I:Inv X pins σ H s) (g:qH H a y<|ae v) (ry:RelV y u) (h:∀ w' s',Inv X pins σ H s'->RelV v w'->Q w' s') :
 wpAny ze A (getItem zaf u) Q E s:=by
 rcases g with⟨ao,k,e,ey,l⟩|⟨ao,k,b,e,ey,eb,l⟩
 .subst ey;let#[z,hd,vs,rel,dd]:=Ac I.aF e;let#[w',hw,nT]:=k6.some_of (by rw[l];show rel.val k);show wpAny_getItem_of (Ab ry) dd.mapOf hw<|h w' _ (I.tok _) nT
 .subst ey;cases (ry);let#[z,hd,xs,rel,dd]:=A4 I.aF e;let#[w',hw,nT]:=k6.some_of (by rw[l];show rel.val k);let#[p,hp,ahF]:=Option.map_eq_some_iff.mp hw;refine wpAny_getItem_heap (El hu) (oQ I.aF eb) dd hp ?_;rw[ahF];show h w' _ (I.tok _) nT
theorem Yw (hu:A.units+1<cLine) (I:Inv X pins σ H s) (g:qH H a y o) (ry:RelV y u) (h:∀ s',Inv X pins σ H s'->Q (.bool o.isSome) s') :
 wpAny ze A (compareOp .In u zaf) Q E s:=by
 rcases g with⟨ao,k,e,ey,l⟩|⟨ao,k,b,e,ey,eb,l⟩
 .subst ey;let#[z,hd,vs,rel,dd]:=Ac I.aF e;refine wpAny_in_of (Ab ry) hd dd.mapOf ?_;rw[<-(rel.val k).ym,<-l];show h _<|I.tok _
 .subst ey;cases (ry);let#[z,hd,xs,rel,dd]:=A4 I.aF e;refine wpAny_in_heap (El hu) (oQ I.aF eb) hd dd ?_;have q:=(rel.val k).ym;rw[v7]at q;rw[<-q,<-l];show h _<|I.tok _
theorem Pz (hu:A.units+1<cLine) (I:Inv X pins σ H s) (g:qH H a y o) (ry:RelV y u) (h:∀ s',Inv X pins σ H s'->Q (.bool<|!o.isSome) s') :
 wpAny ze A (compareOp .NotIn u zaf) Q E s:=by
 rcases g with⟨ao,k,e,ey,l⟩|⟨ao,k,b,e,ey,eb,l⟩
 .subst ey;let#[z,hd,vs,rel,dd]:=Ac I.aF e;refine wpAny_notIn_of (Ab ry) hd dd.mapOf ?_;rw[<-(rel.val k).ym,<-l];show h _<|I.tok _
 .subst ey;cases (ry);let#[z,hd,xs,rel,dd]:=A4 I.aF e;refine wpAny_notIn_heap (El hu) (oQ I.aF eb) hd dd ?_;have q:=(rel.val k).ym;rw[v7]at q;rw[<-q,<-l];show h _<|I.tok _
theorem Av {ob:HO}(I:Inv X pins σ H s) (mu:ED<|H a) (hs:Heap.SameBut a s.heap h') (he:∃ q,h'.get? a=ae q) (new:dn X.prog X.w (upd H a ob) h' a ob) :
 Inv X pins σ (upd H a ob) { s with heap:=h',toks:=t' }:=
 I.write mu (.inl zj) (λb q hb z=>(hs.2 b hb).trans z) he new
theorem FJ {ao:List (Key×V)}{vs:List (Key×aj)}(z:ao.length<=sizeLine) (hd:(a==sysModules)=af) (rel:KV ao vs) (dd:h'.DictOf (eu P w) a vs) :
 dn P w H' h' a (.dK ao):=#[z,hd,vs,rel,dd]
theorem JU {Q:Unit->aq->zk}(hu:A.units+1<cLine) (I:Inv X pins σ H s) (g:adQ H a y v H') (ry:RelV y u) (rv:RelV v r) (h:∀ s',Inv X pins σ H' s'->Q () s') :
 wpAny ze A (setItem zaf u r) Q E s:=by
 rcases g with⟨ao,k,e,ey,l,eH⟩|⟨ao,k,b,e,ey,eb,l,eH⟩
 .subst ey eH;let#[z,hd,vs,rel,dd]:=MD I.aF e;have hz:vs.length<=sizeLine:=by rw[<-rel.length];show z
  show wpAny_setItem_pairs (Ab ry) dd λh' tO hs=>h _<|Av I (by rw[e];show True.intro) hs (let ⟨q,_,_,hq,_⟩:=tO;#[q,hq])<|FJ (by have:=lH ao k v;lia) hd (rel.put k rv) tO
 .subst ey eH;cases (ry);let#[z,hd,xs,rel,dd]:=Tb I.aF e;have hz:xs.length<=sizeLine:=by rw[<-Paired.length rel];show z
  refine wpAny_setItem_heap (El hu) (oQ I.aF eb) dd λh' tO hs=>h _ ?_;let#[q,es,ep,hq,h2,h3,h4,_,h5]:=tO;refine Av I (by rw[e];show True.intro) hs #[q,hq] #[(by have:=lH ao k v;lia),hd,_,(rel.put k eb rv).keeps λc ys ec=>?_,q,es,ep,hq,h2,h3,h4,h5];rw[fu<|Wh ec e λz=>nomatch z];show ec
end
section
variable {s:aq} {ao:List (Key × V)} {k:Key} 
theorem JV {Q:Unit->aq->zk}(I:Inv X pins σ H s) (e:H a=ae (.dK ao)) (ry:RelV (kV k) u) (l:(nL ao k).isSome=ag) (h:∀ s',Inv X pins σ (upd H a<|.dK<|tM ao k) s'->Q () s') :
 wpAny ze A (delItem zaf u) Q E s:=by
 let#[z,hd,vs,rel,dd]:=MD I.aF e;show wpAny_delItem_slot dd.typeIs (rfl) ab8
  (Ii ab8 dd.typeIs PySem.F.entry_dict_delitem (PySem.F.args_dict_delitem_2 _ _) (meets_dict_delitem_pairs _ a<|Ab ry) #[vs,dd,by rw[<-rel.length];show z,by rw[<-(rel.val k).ym];show l,λh' tO hs=>h _<|Av I (by rw[e];show True.intro) hs (let ⟨q,_,_,hq,_⟩:=tO;#[q,hq])<|FJ (dF (MC ao k) z) hd (rel.drop k) tO])
end
def KR (i:au):zk:=∀ ov iv,subscripted i af ov iv=operate [ov,iv] (getItem ov iv)
theorem PB {s:aq}{env:Env}{value slice:au}{T id:String} 
 (hl:typeLookup (.type T) "__getitem__"=pure (ae<|.builtin id)) (hs:KR slice)
 (h:wpAny zf A (eval value env) (λo s₁=>wpAny zf A (eval slice env) (λi s₂=>s₂.TypeIs o T /\ wpAny zf A (getItem o i) Q E s₂) E s₁) E s) :
 wpAny zf A (eval (.Subscript value slice pos) env) Q E s:=by
 refine Subscript_<|kn h (λo s₁ h₁=>kn h₁ (λi s₂ h₂=>?_) λ_ _ x=>x) λ_ _ x=>x;let#[hT,h₂]:=h₂;refine ak ?_;refine ak<|aaX hT hl ?_;have fin:wpAny zf A (subscripted slice af o i) (λr s₃=>wpAny zf A (letTemporaryGo value o r >>= λ_=>pure r) Q E s₃) E s₂:=by
  rw[hs o i];show wpAny_operating<|kn h₂ (λr s₃ h₃=>ak<|wpAny_letTemporaryGo<|ay h₃) λ_ _ x=>x
 first
  |show ay<|ak fin
  |show ak _
  |show ak fin
theorem Dy {s:aq}{y:V}{o:Option V}(I:Inv X pins σ H s) (g:qH H a y o):s.TypeIs zaf "dict":=by
 rcases g with⟨ao,k,e,_,_⟩|⟨ao,k,b,e,_,_,_⟩
 .let#[_,_,vs,_,dd]:=Ac I.aF e;show dd.typeIs
 .let#[_,_,xs,_,dd]:=A4 I.aF e;show dd.typeIs
def adR (td ty:TE):TE:=λσ H Q=>td σ H λx H1=>ty σ H1 λy H2=>∃ a v,x=.ref a /\ qH H2 a y (ae v) /\ Q v H2
def adS (ty td:TE):TE:=λσ H Q=>ty σ H λy H1=>td σ H1 λx H2=>∃ a o,x=.ref a /\ qH H2 a y o /\ Q (.bl o.isSome) H2
def adT (ty td:TE):TE:=λσ H Q=>ty σ H λy H1=>td σ H1 λx H2=>∃ a o,x=.ref a /\ qH H2 a y o /\ Q (.bl<|!o.isSome) H2
def adU (td ty tv:TE):TS:=λD σ H=>tv σ H λv H1=>td σ H1 λx H2=>ty σ H2 λy H3=>∃ a H4,x=.ref a /\ adQ H3 a y v H4 /\ D.nx σ H4
def adV (td ty:TE):TS:=λD σ H=>td σ H λx H1=>ty σ H1 λy H2=>∃ a ao k,x=.ref a /\ H2 a=ae (.dK ao) /\ y=kV k /\ (nL ao k).isSome=ag /\ D.nx σ (upd H2 a<|.dK<|tM ao k)
section
variable {o i value:au} {Kj:aK} {td ty tv:TE}
theorem PH (hu:X.A.units+1<cLine) (ho:PE X o td) (hi:PE X i ty) (hs:KR i):PE X (.Subscript o i pos) (adR td ty):=by
 intro pins s σ H Q I h;refine PB PySem.F.slot_dict_getitem.lookup hs<|tE (ho pins s σ H _ I h) λu s1 x H1 I1 rx q1=>tE (hi pins s1 σ H1 _ I1 q1) λiv s2 y H2 I2 ry hh=>?_;let#[a,v,ex,g,q2]:=hh;subst ex;obtain rfl:u=Value.ref a:=rx;show#[Dy I2 g,JT hu I2 g ry λw' s3 I3 nT=>#[v,H2,I3,nT,q2]]
theorem ME (hu:X.A.units+1<cLine) (hi:PE X i ty) (ho:PE X o td):PC X .In i o (adS ty td):=by
 intro pins s σ H Q I h;refine tE (hi pins s σ H _ I h) λiv s1 y H1 I1 ry q1=>tE (ho pins s1 σ H1 _ I1 q1) λu s2 x H2 I2 rx hh=>?_;let#[a,ov,ex,g,q2]:=hh;subst ex;obtain rfl:u=Value.ref a:=rx;show Yw hu I2 g ry λs3 I3=>#[.bl ov.isSome,H2,I3,rfl,q2]
theorem B7 (hu:X.A.units+1<cLine) (hi:PE X i ty) (ho:PE X o td):PC X .NotIn i o (adT ty td):=by
 intro pins s σ H Q I h;refine tE (hi pins s σ H _ I h) λiv s1 y H1 I1 ry q1=>tE (ho pins s1 σ H1 _ I1 q1) λu s2 x H2 I2 rx hh=>?_;let#[a,ov,ex,g,q2]:=hh;subst ex;obtain rfl:u=Value.ref a:=rx;show Pz hu I2 g ry λs3 I3=>#[.bl _,H2,I3,rfl,q2]
theorem GN (hu:X.A.units+1<cLine) (ho:PE X o td) (hi:PE X i ty) (hv:PE X value tv) (hs:swapsWith value (ae<|.Subscript o i pos') pos.line X.env=pure af) :
 PS X (.Assign [.Subscript o i pos'] value pos) (adU td ty tv):=by
 intro pins s σ H D I h;refine wpAny_Assign_Subscript (tE (hv pins s σ H _ I h) λr s1 v H1 I1 rv q1=>tE (ho pins s1 σ H1 _ I1 q1) λu s2 x H2 I2 rx q2=>tE (hi pins s2 σ H2 _ I2 q2) λiv s3 y H3 I3 ry hh=>?_) hs;let#[a,H4,ex,g,q3]:=hh;subst ex;obtain rfl:u=Value.ref a:=rx;show JU hu I3 g ry rv λs4 I4=>#[σ,H4,I4,q3]
theorem PJ (ho:PE X o td) (hi:PE X i ty):PS X (.Delete [.Subscript o i Kj] pos) (adV td ty):=by
 intro pins s σ H D I h;refine wpAny_Delete<|wpAny_deleteEach_cons<|wpAny_delete_Subscript<|tE (ho pins s σ H _ I h) λu s1 x H1 I1 rx q1=>tE (hi pins s1 σ H1 _ I1 q1) λiv s2 y H2 I2 ry hh=>?_;let#[a,ao,k,ex,e,ey,l,q2]:=hh;subst ex ey;obtain rfl:u=Value.ref a:=rx;show JV I2 e ry l λs3 I3=>wpAny_deleteEach_nil #[σ,_,I3,q2]
end
theorem Dz (h:aE) (hb:sysModules<h.objs.size):dn P w H (h.push { cls:=.type "dict",data:=.dict #[] }) h.objs.size (.dK []):=
 #[dR _,beq_eq_false_iff_ne.mpr<|Ne.symm<|bJ hb,[],.nil,Heap.DictOf.new h]
theorem MF (h:aE) (hb:sysModules<h.objs.size):dn P w H (h.push { cls:=.type "dict",data:=.dict #[] }) h.objs.size (.dT []):=
 #[dR _,beq_eq_false_iff_ne.mpr<|Ne.symm<|bJ hb,[],.nil,_,#[],0,bA _ zj,#[rfl,rfl,rfl],rfl,rfl,List.nodup_nil]
def ahG:TE:=λ_ H Q=>∀ p,H p=ah->Q (.ref p) (upd H p<|.dK [])
def ahH:TE:=λ_ H Q=>∀ p,H p=ah->Q (.ref p) (upd H p<|.dT [])
theorem MG:PE X (.Dict [] [] pos) ahG:=λpins s σ H Q I h=>
 aaY #[.ref s.heap.objs.size,_,I.laid (λ_ _ q=>aS _ q) (aH _)<|Dz s.heap I.big,rfl,h _<|I.aF.fresh<|aH _]
theorem MH:PE X (.Dict [] [] pos) ahH:=λpins s σ H Q I h=>
 aaY #[.ref s.heap.objs.size,_,I.laid (λ_ _ q=>aS _ q) (aH _)<|MF s.heap I.big,rfl,h _<|I.aF.fresh<|aH _]
noncomputable def Zt:List (TE×TE)->St->Hp->(List (V×V)->Hp->zk)->zk
 |[],_,H,Q=>Q [] H
 |(tk,tv)::r,σ,H,Q=>tk σ H λx H1=>tv σ H1 λy H2=>Zt r σ H2 λps H3=>Q ((x,y)::ps) H3
abbrev VV:List (V×V)->List (aj×aj)->zk:=Paired λp q=>RelV p.1 q.1 /\ RelV p.2 q.2
def KS (X:Cx) (pos:aK) (keys:List<|Option au) (values:List au) (uD:List<|TE×TE):zk:=
 ∀ (pins:List<|ai×aV) (s:aq) (σ:St) (H:Hp) (Q:List (V×V)->Hp->zk),Inv X pins σ H s->Zt uD σ H Q ->
  wpAny ze X.A (evalPairs<|pairTrees keys values X.env pos) (λvs s'=>∃ ps H',Inv X pins σ H' s' /\ VV ps vs /\ Q ps H') X.xe s
theorem PK:KS X pos [] [] []:=λpins s σ H Q I h=>pairTrees_nil_walk #[[],H,I,.nil,h]
theorem MI {k v:au}{ks:List (Option au)}{vs:List au}{tk tv:TE}{uD:List (TE×TE)}(hk:PE X k tk) (hv:PE X v tv) (hr:KS X pos ks vs uD) :
 KS X pos (ae k::ks) (v::vs) ((tk,tv)::uD):=λpins s σ H Q I h=>
 pairTrees_cons_walk (tE (hk pins s σ H _ I h) λu s1 x H1 I1 rx q1=>tE (hv pins s1 σ H1 _ I1 q1) λw2 s2 y H2 I2 ry q2=>tP (hr pins s2 σ H2 _ I2 q2) λws s3 ps H3 I3 rel q3=>#[(x,y)::ps,H3,I3,.cons #[rx,ry] rel,q3])
def Hd (ao more:List<|Key×V):List (Key×V):=more.foldl (λacc kv=>putK acc kv.1 kv.2) ao
theorem KV.merge:∀ {more:List (Key×V)}{rs:List (Key×aj)}{ao:List (Key×V)}{vs:List (Key×aj)},KV more rs->KV ao vs->KV (Hd ao more) (merged vs rs):=by
 intro more rs ao vs r;induction r generalizing ao vs with
 |nil=>intro q;show q
 |@cons p q ps qs h t ih=>
   intro r0;have e:KV (putK ao p.1 p.2) (stored vs q.1 q.2):=by
    have:=r0.put p.1 h.2;rw[<-h.1];show this
   show ih e
theorem BJ:∀ (more ao:List<|Key×V),(Hd ao more).length<=ao.length+more.length:=by
 intro l_;induction l_ with
 |nil=>(intro ao;change ao.length<=ao.length+0;lia)
 |cons p r aD=>
   intro ao;have h1:=aD<|putK ao p.1 p.2;have h2:=lH ao p.1 p.2;change (Hd _ r).length<=_;rw[bw];lia
theorem FK:∀ {ao:List (Key×V)}{ws:List (aj×aj)},VV (ao.map λkv=>(kV kv.1,kv.2)) ws->∃ rs,Carries (eu P w) ws rs /\ KV ao rs:=by
 intro l_;induction l_ with
 |nil=>(intro _ r;cases r;show#[[],True.intro,.nil])
 |cons p ao aD=>
   intro _ r;cases r with
   |@cons a b as bs h t=>
     let#[rs,c,q]:=aD t;let#[b1,b2]:=b;show#[(p.1,b2)::rs,#[Ab h.1,rfl,c],.cons #[rfl,h.2] q]
def ahI (uD:List<|TE×TE):TE:=λσ H Q=>∀ p,H p=ah->Zt uD σ (upd H p<|.dK []) λps H2=>H2 p=ae (.dK []) /\ ∃ ao:List (Key×V),ps=ao.map (λkv=>(kV kv.1,kv.2)) /\ ao.length<=15 /\ Q (.ref p) (upd H2 p<|.dK<|Hd [] ao)
theorem PL {keys:List (Option au)}{values:List au}{uD:List (TE×TE)}(h:KS X pos keys values uD) (EO:keys.all (·.isSome)=ag) (hl:keys.length=values.length) (h0:keys≠[])
 (ahJ:keys.length<=15):PE X (.Dict keys values pos) (ahI uD):=by
 intro pins s σ H Q I q;refine wpAny_Dict_walk (knd:=eu X.prog X.w) EO hl h0 ahJ<|tP (h pins _ σ _ _ (I.laid (t':=s.toks) (λ_ _ q=>aS _ q) (aH _)<|Dz s.heap I.big)<|q _<|I.aF.fresh<|aH s.heap.objs.size) λws s2 ps H2 I2 rel ⟨e,ao,ep,lk,q2⟩=>?_;subst ep;let#[rs,c,rk]:=FK rel;let#[z,hd,vt,r0,dd]:=MD I2.aF e;cases r0;refine#[rs,c,dd,λh' tO hs=>#[.ref s.heap.objs.size,_,?_,rfl,q2]];have hz:(Hd [] ao).length<=sizeLine:=by
  have h1:=BJ ao [];rw[qw]at h1;rw[bC];lia
 show Av I2 (by rw[e];show True.intro) hs (let ⟨q,_,_,hq,_⟩:=tO;#[q,hq])<|FJ hz hd (rk.merge .nil) tO
structure M1 (X:Cx) (o:au) (m:Str) (apos:aK) (e:au) (cJ:aK):zk where
 base:attributeBase o m X.env (eval o X.env)=eval o X.env
 few:((backTo cJ<|starEach [e] X.env).all (λx=>!x.1)&&(backToKw cJ<|keywordEach [] X.env).all (λx=>x.1.isSome)
  && decide (([e]:List au).length+([]:List Keyword).length+(if ([]:List Keyword).isEmpty then 0 else 1)<30))=ag
 line:(apos.endLine==cJ.line)=ag
 trees:backTo cJ (starEach [e] X.env)=[zae]
def adW (H:Hp) (a:ai):zk:=(∃ ao,Rd H a<|.dK ao) \/ ∃ ao,Rd H a (.dT ao)
theorem MJ {s:aq}(I:Inv X pins σ H s) (d:adW H a) :
 s.TypeIs zaf "dict" /\ (∀ b,Value.ref a=.ref b->∃ ob,s.heap.get? b=ae ob /\ ob.dict=ah) /\ (a==sysModules)=af:=by
 rcases d with⟨ao,e⟩|⟨ao,e⟩
 .let#[_,hd,vs,_,dd]:=Ac I.aF e;refine#[dd.typeIs,λb q=>?_,hd];cases q;let#[ob,_,_,h1,h2,_]:=dd;show#[ob,h1,h2.2.1]
 .let#[_,hd,xs,_,dd]:=A4 I.aF e;refine#[dd.typeIs,λb q=>?_,hd];cases q;let#[ob,_,_,h1,h2,_]:=dd;show#[ob,h1,h2.2.1]
section
variable {s:aq} {y d:V} {r:aj} {o:Option V} 
theorem UF (hu:A.units+1<cLine) (I:Inv X pins σ H s) (g:qH H a y o) (ry:RelV y u) (h:∀ w' s',Inv X pins σ H s'->RelV (o.getD .aB) w'->Q w' s') :
 wpAny ze A (call (.builtin "dict.get") [.ref a,u]) Q E s:=by
 rcases g with⟨ao,k,e,ey,l⟩|⟨ao,k,b,e,ey,eb,l⟩
 .subst ey;let#[z,hd,vs,rel,dd]:=Ac I.aF e;refine Ii XC dd.typeIs ab9 (aca _ _) (meets_dict_get _ a (Ab ry) hd) #[_,dd.mapOf,h _ _ (I.tok _) ?_];rw[l];show(rel.val k).getD zj
 .subst ey;cases (ry);let#[z,hd,xs,rel,dd]:=A4 I.aF e;refine Ii XC dd.typeIs ab9 (aca _ _) (meetsH_dict_get _ a b hd) #[El hu,k,xs,oQ I.aF eb,dd,h _ _ (I.tok _) ?_];rw[l];show(rel.val k).getD zj
end
def adX (td ty:TE):TE:=λσ H Q=>td σ H λx H1=>∃ a,x=.ref a /\ adW H1 a /\ ty σ H1 λy H2=>∃ o,qH H2 a y o /\ Q (o.getD .aB) H2
section
variable {o f:au} {cJ:aK} {td ty tx:TE}
theorem MK (hu:X.A.units+1<cLine) (ho:PE X o td) (he:PE X e ty) (m:M1 X o "get" apos e cJ):PE X (.Call (.Attribute o "get" apos) [e] [] cJ) (adX td ty):=by
 intro pins s σ H Q I h;refine aaZ m.base m.few m.line acb XC PySem.F.type_dict_get<|tE (ho pins s σ H _ I h) λu s1 x H1 I1 rx hh=>?_;let#[a,ex,d,q1]:=hh;subst ex;obtain rfl:u=Value.ref a:=rx;let#[t1,t2,_]:=MJ I1 d;refine#[t1,t2,?_];rw[m.trees];show XF zj<|XG<|EC<|tE (he pins s1 σ H1 _ I1 q1) λiv s2 y H2 I2 ry ⟨ov,g,q2⟩=>EB<|UF hu I2 g ry λw' s3 I3 nT=>#[_,H2,I3,nT,q2]
end
section
variable {s:aq} {ao:List (Key × V)} 
end
section
variable {s:aq} {y:V} 
end
end L2
namespace L2.DL
noncomputable def qI:Key->PyData
 |.inl i=>.int i
 |.inr x=>.str x
mutual
noncomputable def toPy:D->PyData
 |.aB=>.none
 |.bl b=>.bool b
 |.int i=>.int i
 |.str x=>.str x
 |.tup l=>.tuple<|nu l
 |.lst l=>.list<|nu l
 |.aG l=>.dict<|KU l
noncomputable def nu:List D->List PyData
 |[]=>[]
 |d::l=>toPy d::nu l
noncomputable def KU:List (Key×D)->List (PyData×PyData)
 |[]=>[]
 |(k,d)::l=>(qI k,toPy d)::KU l
end
section
variable {s:aq}
theorem oR {h:aE}:∀ {es:List DictEntry}{vs:List (Key×aj)}{l:List (Key×D)}{ao:List (Key×V)},PySem.Pairs (eu X.prog X.w) es vs->KV ao vs->aT F l ao->ReadsAll h (es.map (·.key)) ((KU l).map (·.1)) []
 | _,_,[],_,p,k,d=>by
   cases (d);cases k;cases p;show .nil
 | _,_,(k,x)::l,_,p,q,d=>by
   let#[v,r,e,_,d2]:=d;subst e;cases q with
   |cons q1 q2=>
     cases p with
     |@cons de _ _ _ p1 p2 p3=>
       have e1:=q1.1;simp at e1;rw[<-e1]at p1;have hk:Reads h de.key (qI k) []:=by
        rcases gh (p1) with⟨i,t,e2,e3⟩|⟨y,t,e2,e3⟩
        .rw[e2,e3];show .int i t
        .rw[e2,e3];show .str y t
       show ReadsAll.cons hk<|oR (h:=h) p3 q2 d2
mutual
theorem iI (I:Inv X pins σ H s) (sub:Sub F H):∀ {d:D}{v:V}{u:aj},Den F d v->RelV v u->∃ as,Reads s.heap u (toPy d) as
 |.aB,_,_,h,r=>by cases (show _=V.aB from h);cases r;show#[[],.none]
 |.bl b,_,_,h,r=>by cases (show _=V.bl b from h);cases r;show#[[],.bool b]
 |.int i,_,_,h,r=>by cases (show _=V.int i from h);let#[t,rfl]:=r;show#[[],.int i t]
 |.str x,_,_,h,r=>by cases (show _=V.str x from h);let#[t,rfl]:=r;show#[[],.str x t]
 | .tup l,_,_,h,r=>by
   let#[a,vs,rfl,h1,h2]:=h;cases r;let#[_,its,rv,ob,e1,e2,n,e3]:=(show dn X.prog X.w H s.heap a (.tup vs) from I.aF a _ (sub _ _ h1));let#[as,ra]:=jS I sub h2 rv;show#[as,.tuple e1 e2 e3 (by simpa using ra)]
 | .lst l,_,_,h,r=>by
   let#[a,vs,rfl,h1,h2]:=h;cases r;let#[_,its,n,rv,e1]:=(show dn X.prog X.w H s.heap a (.lst vs) from I.aF a _ (sub _ _ h1));let#[as,ra]:=jS I sub h2 rv;show#[a::as,.list e1 zj zj (by simpa using ra)]
 | .aG l,_,_,h,r=>by
   let#[a,ao,rfl,h1,h2]:=h;cases r;let#[_,_,vs,rk,ob,es,ep,e1,e2,e3,_,pr,_]:=(show dn X.prog X.w H s.heap a (.dK ao) from I.aF a _ (sub _ _ h1));let#[as,ra]:=mH I sub h2 rk pr;show#[a::[]++as,.dict e1 e2.1 e3 (oR (X:=X) pr rk h2) ra]
theorem jS (I:Inv X pins σ H s) (sub:Sub F H):∀ {l:List D}{vs:List V}{us:List aj},aJ F l vs->Vals vs us->∃ as,ReadsAll s.heap us (nu l) as
 |[],_,_,h,r=>by cases (show _=[] from h);cases r;show#[[],.nil]
 | d::l,_,_,h,r=>by
   let#[v,t,e,h1,h2]:=h;subst e;cases r with
   |cons r1 r2=>
     let#[as,ra]:=iI I sub h1 r1;let#[bs,rb]:=jS I sub h2 r2;show#[as++bs,.cons ra rb]
theorem mH (I:Inv X pins σ H s) (sub:Sub F H):∀ {l:List (Key×D)}{ao:List (Key×V)}{vs:List (Key×aj)}{es:List DictEntry},aT F l ao->KV ao vs->PySem.Pairs (eu X.prog X.w) es vs->∃ as,ReadsAll s.heap (es.map (·.val)) ((KU l).map (·.2)) as
 |[],_,_,_,h,r,p=>by cases (show _=[] from h);cases r;cases p;show#[[],.nil]
 | (k,d)::l,_,_,_,h,r,p=>by
   let#[v,t,e,h1,h2]:=h;subst e;cases r with
   |cons r1 r2=>
     cases p with
     |cons p1 p2 p3=>
       let#[as,ra]:=iI I sub h1 r1.2;let#[bs,rb]:=mH I sub h2 r2 p3;rw[<-p2]at ra;show#[as++bs,.cons ra rb]
end
end
section
variable {a b c:au} {p p2:aK}
end
theorem gZ {s:aq}(I:Inv X pins σ H s) (sub:Sub F H) {d:D}(h:qc F H d v) (r:RelV v u):∃ as,Reads s.heap u (toPy d) as:=by
 cases d with
 |lst l=>
   let#[a,vs,rfl,h1,h2]:=h;cases r;let#[_,its,n,rv,e1]:=(I.aF a _ h1);let#[as,ra]:=jS I sub h2 rv;show#[a::as,.list e1 zj zj (by simpa using ra)]
 |aG l=>
   let#[a,ao,rfl,h1,h2]:=h;cases r;let#[_,_,vs,rk,ob,es,ep,e1,e2,e3,_,pr,_]:=(I.aF a _ h1);let#[as,ra]:=mH I sub h2 rk pr;show#[a::[]++as,.dict e1 e2.1 e3 (oR pr rk h2) ra]
 |tup l=>show iI I sub h r
 |aB=>show iI I sub h r
 |bl b=>show iI I sub h r
 |int i=>show iI I sub h r
 |str x=>show iI I sub h r
def eN (d:D):Bool:=(toPy d).canLay0&&decide ((toPy d).depth<=60)
def eqv (x y:D):Bool:=PyData.eqv (toPy x)<|toPy y
theorem lI {d:D}(h:eN d=ag):(toPy d).canLay0=ag /\ (toPy d).depth<=60:=by
 unfold eN at h
 rwa [aL,decide_eq_true_eq]at h
def wL (neg:Bool):R2:=λx y H Q=>∃ F dx dy,Sub F H /\ qc F H dx x /\ qc F H dy y /\ eN dx=ag /\ eN dy=ag /\ Q (.bl (if neg then !eqv dx dy else eqv dx dy)) H
theorem UG (hu:X.A.units+100<cLine):bc X (compareOp .Eq) (wL af):=by
 intro pins s σ H x y v u Q I rx ry h;let#[F,dx,dy,sub,hx,hy,ox,oy,q]:=h;let#[as,ra]:=gZ I sub hx rx;let#[bs,rb]:=gZ I sub hy ry;let#[x1,x2]:=lI ox;let#[y1,y2]:=lI oy;show SeqAt.compareEq_reads ra rb x1 y1 zb #[.bl _,H,I,rfl,q]
theorem UH (hu:X.A.units+100<cLine):bc X (compareOp .NotEq) (wL ag):=by
 intro pins s σ H x y v u Q I rx ry h;let#[F,dx,dy,sub,hx,hy,ox,oy,q]:=h;let#[as,ra]:=gZ I sub hx rx;let#[bs,rb]:=gZ I sub hy ry;let#[x1,x2]:=lI ox;let#[y1,y2]:=lI oy;show SeqAt.compareNe_reads ra rb x1 y1 zb #[.bl _,H,I,rfl,q]
def wM (neg:Bool) (x y:D):Option Res:=if eN x&&eN y then ae (.old<|.bl (if neg then !eqv x y else eqv x y)) else ah
theorem adY (neg:Bool):cA (wL neg) (wM neg):=by
 intro F H x y v w Q s sub rx ry e k;unfold wM at e;split at e
 .ext c;rw[aL]at c;cases e;show#[F,x,y,sub,rx,ry,c.1,c.2,k _ _ #[rfl,rfl]]
 .cases e
def bf:D->D->Option Res
 |.int i,.int j=>ae<|.old<|.bl<|decide (i=j)
 |.str i,.str j=>ae<|.old<|.bl<|decide (i=j)
 |.tup l,.tup []=>ae<|.old<|.bl l.isEmpty
 | .lst a,.lst b=>(match intsOf a,intsOf b with
   |some ns,ae ms=>ae<|.old<|.bl<|decide (ns=ms)
   |_,_=>wM af (.lst a)<|.lst b)
 |x,y=>wM af x y
def pP:D->D->Option Res
 |.int i,.int j=>ae<|.old<|.bl<|!decide (i=j)
 |.str i,.str j=>ae<|.old<|.bl<|!decide (i=j)
 |.lst l,.lst []=>ae<|.old<|.bl<|!l.isEmpty
 |x,y=>wM ag x y
theorem UI {x y:D}{s:Res}(h:bf x y=ae s):Zq x y=ae s \/ wM af x y=ae s:=by
 unfold bf at h;split at h
 .show .inl h
 .show .inl h
 .show .inl h
 .ext a b;split at h
  .ext ns ms e1 e2;left;change ((intsOf a).bind λns=>(intsOf b).map λms=>Res.old _)=_;rw[e1,e2];show h
  .show .inr h
 .show .inr h
theorem UJ {x y:D}{s:Res}(h:pP x y=ae s):Zr x y=ae s \/ wM ag x y=ae s:=by
 unfold pP at h;split at h
 .show .inl h
 .show .inl h
 .show .inl h
 .show .inr h
theorem UK (hu:X.A.units+100<cLine):bc X (compareOp .Eq) (λx y H Q=>KJ X.K x y H Q \/ wL af x y H Q):=(Pw zb).or<|UG hu
theorem UL (hu:X.A.units+100<cLine):bc X (compareOp .NotEq) (λx y H Q=>KL X.K x y H Q \/ wL ag x y H Q):=(Px zb).or<|UH hu
theorem ahK:cA (λx y H Q=>KJ K x y H Q \/ wL af x y H Q) bf:=λF H x y v w Q s sub rx ry e k=>(UI e).imp (λe=>aht F H x y v w Q s sub rx ry e k) λe=>adY af F H x y v w Q s sub rx ry e k
theorem ahL:cA (λx y H Q=>KL K x y H Q \/ wL ag x y H Q) pP:=λF H x y v w Q s sub rx ry e k=>(UJ e).imp (λe=>ahu F H x y v w Q s sub rx ry e k) λe=>adY ag F H x y v w Q s sub rx ry e k
end L2.DL
namespace HT
section
open PySem.SeqAt
open PySem.AutoSeq1 (wpAny_loadPart')
open PySem.MeetsSeq PySem.MeetsSeq2 PySem.MeetsSeq3
end
section
variable {s:aq}
open PySem.AutoSeq1 (wpAny_loadPart')
end
end HT
namespace L2.DL
section
variable {a b c:au} {p p2:aK}
def adZ:R2:=λx y H Q=>rI wm (λi j=>.int<|i*j) x y H Q \/ ade x y H Q
theorem PM:bc X (binaryOp .Mult) adZ:=TZ.or Ua
noncomputable def dj:D->D->Option Res
 |.int i,.int j=>if wm i j then ae (.old<|.int<|i*j) else ah
 |.lst l,.int k=>if -(2 ^ 63)<=k /\ k<2 ^ 63 /\ l.length*k.toNat<=sizeLine then ae (.lst (List.replicate k.toNat l).flatten) else ah
 |_,_=>ah
theorem aJ.rep {F:Hp}{l:List D}{vs:List V}(h:aJ F l vs):∀ k:Nat,aJ F (List.replicate k l).flatten (List.replicate k vs).flatten
 |0=>rfl
 |k+1=>h.append<|h.rep k
theorem ahM:cA adZ dj:=by
 intro F H x y v w Q s sub rx ry e k;unfold dj at e;split at e
 .ext i j;split at e
  .ext hc;cases e;show .inl #[i,j,rx,ry,hc,k _ _ #[rfl,rfl]]
  .cases e
 .ext l j;split at e
  .ext hc;cases e;let#[a,vs,rfl,h1,h2]:=rx;show .inr #[a,j,vs,rfl,ry,h1,hc.1,hc.2.1,by rw[<-h2.length];show hc.2.2,λp hp=>k _ _ #[p,_,rfl,hp,rfl,h2.rep _]]
  .cases e
 .cases e
theorem UM (hu:X.A.units<cLine):bc X (compareOp .LtE) (k9 λi j=>.bl<|decide (i<=j)):=Wk
noncomputable def dX:D->D->Option Res:=λx y=>match x,y with|.int i,.int j=>ae (.old<|.bl<|decide (i<=j))|_,_=>ah
theorem ahN:cA (k9 λi j=>.bl<|decide (i<=j)) dX:=KI λ_ _ _=>rfl
theorem JW {o:au}(ho:PD X T Z o ma) (ha:PD X T Z e mb)
 (ur:attributeBase o "append" X.env (eval o X.env)=eval o X.env:=by rfl)
 (wx:((backTo pos<|starEach [e] X.env).all (λx=>!x.1)&&(backToKw pos<|keywordEach [] X.env).all (λx=>x.1.isSome)
  && decide zab)=ag:=by rfl)
 (p8:(apos.endLine==pos.line)=ag:=by rfl) (hs:starEach [e] X.env=zae::starEach [] X.env:=by rfl) :
 PD X T Z (.Call (.Attribute o "append" apos) [e] [] pos) (qD ma mb):=
 PE.imp (BZ xK acd ace lU ho (fw ha fR hs) ur wx p8 hs (by rfl)) λσ H Q h=>Ww h
def He (mo mi:DE W):DG:=λw env bx=>match mo env bx with
 | .val (.b n) bx1=>(match mi env bx1 with
   | .val (.d<|.int k) ax=>(match w,ax[n]? with
     |.d d,ae (.lst l)=>(cy l.length k).map λj=>(env,ax.set n<|.lst<|l.set j d)
     |_,_=>ah)
   |_=>ah)
 |_=>ah
theorem PN {o i:au}{mo mi:DE W}(ho:PD X T Z o mo) (hi:PD X T Z i mi)
 (ha:∀ v,assign (.Subscript o i pos) X.env v=(do
  let ov <-holding [v] (eval o X.env)
  let iv <-holding [v,ov] (eval i X.env)
  standAt pos
  holding [v,ov,iv] (setItem ov iv v)
  release [v,ov,iv] []):=by intro _;rfl):nY X T (.Subscript o i pos) (He mo mi):=by
 refine PG.imp (TQ ho hi L4 ha) λv σ H Q=>x5 λF r env bx w R dw h=>?_;unfold He at h;refine#[F,r,env,bx,R,?_];cases eo:mo env bx with
 |bad=>simp[eo]at h;show h.elim
 |exc c bx1=>simp[eo]at h;show h.elim
 |val ow bx1=>
   simp[eo]at h;intro F1 r1 ov H1 g1 R1 d1;cases ow with
   |b n=>
     refine#[F1,r1,env,bx1,R1,?_];cases ei:mi env bx1 with
     |bad=>simp[ei]at h;show h.elim
     |exc c ax=>simp[ei]at h;show h.elim
     |val iw ax=>
       simp[ei]at h;intro F2 r2 iv H2 g2 R2 d2;cases iw with
       |d id=>
         cases id with
         |int k=>
           simp at h;let#[a,rfl,ha]:=g2.den d1;let#[c2,nV,uC]:=R2.hV ha;rw[nV]at h;cases w with
           |d dd=>
             cases c2 with
             |lst l=>
               simp at h;cases ej:cy l.length k with
               |none=>rw[ej]at h;show h.elim
               |some j=>
                 rw[ej]at h;let#[hF,vs,k1,k2]:=uC;show#[a,vs,k,j,rfl,d2,k1,by rw[<-k2.length];show ej,(h F2 r2 σ _ (g1.trans g2)<|R2.write ha hF #[hF,_,fv,aJ.set (Den.mono (g1.trans g2).s dd dw) j k2])]
             |_=>show h.elim
           |_=>show h.elim
         |_=>show h.elim
       |_=>show h.elim
   |_=>show h.elim
noncomputable def uE (i:Nat):DE W:=λenv bx=>match env[i]? with
 | some (ae<|.b n)=>(match bx[n]? with
   |some (.lst l)=>.val (.d<|.lst l)<|bx.set n .dead
   |some (.aG l)=>.val (.d<|.aG l)<|bx.set n .dead
   |_=>.bad)
 |_=>.bad
theorem UN (i:Nat) (hN:X.N[i]?=ae x:=by rfl) (hv:sL X.env.scope x:=by first|show Or.inl zj|show Or.inr (Or.inl zj)|show Or.inr (Or.inr zj)) (hd:(x==("__debug__":Str))=af:=by decide)
 (dI:(x==("__classdict__":Str))=af:=by decide):PD X T Z (.Name x pos) (uE i):=by
 refine PE.imp (AK hN hv hd dI) λσ H Q=>x4 λF r env bx R h=>?_;unfold uE at h;split at h
 .ext n e;let#[v,e1,a,rfl,ha]:=R.slot i _ e;let#[c,hc,kc]:=R.hV ha;rw[hc]at h;cases c with
  |lst l=>
    let#[hF,vs,k1,k2]:=kc;let#[R',g]:=R.freeze ha hF k1;show#[_,e1,h _ r _ H g R' #[a,vs,rfl,fv,aJ.mono g.s l k2]]
  |aG l=>
    let#[hF,vs,k1,k2]:=kc;let#[R',g]:=R.freeze ha hF k1;show#[_,e1,h _ r _ H g R' #[a,vs,rfl,fv,aT.mono g.s l k2]]
  |_=>show h.elim
 .show h.elim
def uF (m:DE W):DE W:=λenv bx=>fC zI λw bx1=>match w with|.s l=>.val (.d<|.int l.length) bx1|_=>.bad
theorem PP (hg:Gl X "len") (hm:X.mg "len"=ah) (ha:PD X T Z a ma) (he:starEach [a] X.env=(af,eval a X.env)::starEach [] X.env:=by rfl):PD X T Z (.Call (.Name "len" p) [a] [] pos) (uF ma):=by
 refine PE.imp (fV m8 hg hm PySem.boot_len (fw ha fR he) zc (rfl) he (by rfl)) λσ H Q=>x4 λF r env bx R h=>?_;refine#[F,r,env,bx,R,End.bind h λw bx1 F1 r1 v H1 g1 R1 d1 h1=>?_];cases w with
 |s l=>
   let#[q,o,rfl,k]:=d1;refine#[q,_,rfl,.inl<|.inl<|.inr #[o,R1.fh _ _ k],?_];rw[a8];show h1 F1 r1 _ H1 zS R1 zj
 |_=>show h1.elim
def Hf (m k:DE W):DE W:=λenv bx=>fC zI λw bx1=>fC (k env bx1) λu ax=>match w,u with
 |.s l,.d (.int i)=>(match bD l i with|some n=>.val (.d<|.int n) ax|none=>.bad)
 |_,_=>.bad
theorem UO (ha:PD X T Z a ma) (hb:PD X T Z b mb) (hs:Ko b):PD X T Z (.Subscript a b pos) (Hf ma mb):=by
 refine PE.imp (L3 CG ha hb hs) λσ H Q=>x4 λF r env bx R h=>?_;refine#[F,r,env,bx,R,End.bind h λw bx1 F1 r1 v H1 g1 R1 d1 h1=>?_];refine#[F1,r1,env,bx1,R1,End.bind h1 λu ax F2 r2 y H2 g2 R2 d2 h2=>?_];cases w with
 |s l=>
   cases u with
   |d d=>
     cases d with
     |int i=>
       let#[q,o,rfl,k]:=d1;simp at h2;cases e:bD l i with
       |none=>rw[e]at h2;show h2.elim
       |some n=>
         rw[e]at h2;refine#[q,l.map V.int,i,.int n,rfl,d2,.inl<|.inr #[o,R2.fh _ _<|g2.s _ _ k],?_,h2 F2 r2 _ H2 (.refl F2 r2) R2 zj];unfold bD at e ⊢;rw[a8];cases ej:cy l.length i with
         |none=>rw[ej]at e;cases e
         |some j=>rw[ej]at e;erw[bS]at e ⊢;rw[kZ,e];rfl
     |_=>show h2.elim
   |_=>show h2.elim
 |_=>show h2.elim
def eO (bo:Bool) (l:List<|Key×D):DE W:=λ_ bx=>cz bo (ae<|.aG l) bx
theorem PQ (bo:Bool):PD X T Z (.Dict [] [] pos) (eO bo []):=PE.imp (MG) λσ H Q=>x4 λF r env bx R h=>(λp hp=>ib R h #[p,[],rfl,hp,rfl,rfl])
theorem PR (bo:Bool) {k v:Int}{j1 j2:Nat}{q1 q2:aK}:PD X T Z (.Dict [ae<|.Constant (.int k) j1 q1] [.Constant (.int v) j2 q2] pos) (eO bo [(.inl k,.int v)]):=by
 refine PE.imp (PL (MI AL AL PK) zj zj (by simp) zg) λσ H Q=>x4 λF r env bx R h=>?_;intro p hp;refine#[fv,[(.inl k,.int v)],rfl,by simp,?_];rw[OP];show ib R h #[p,[(.inl k,.int v)],rfl,hp,rfl,#[_,_,rfl,rfl,rfl]]
end
end L2.DL
namespace HT
section
variable {s:aq}
theorem FL {t:ai}{i:Nat}{x:aj}(hit:s.heap.IsTupleIter it t i) (ht:s.heap.IsTuple t items) (hx:items[i]?=ae x)
 (hQ:∀ h',h'.IsTupleIter it t (i+1)->Heap.SameBut it s.heap h'->Q x { s with heap:=h' }):wpAny zf A (Builtin.SmallTypes.nextOf<|.ref it) Q E s:=by
 let#[ob,rK,ye,rJ]:=id hit;let#[ot,Hg,_,nt,EW]:=ht;refine ak<|qQ hit.typeIs IX<|eW IX hit.typeIs acf (show wpAny _ _ (field _ 0 >>= _) _ _ s from ak (kY rK rJ zj ?_))<|acg _
 change wpAny _ _ _ _ _ s;refine ak<|kY rK rJ zj<|ak<|uW Hg EW ?_
 simp[pC,hx];refine ak<|sq rK rJ zg<|ay #[x,rfl,ay<|hQ _ #[_,sy _ rK<|xI<|qy rJ _,(Ez ..).trans ye,?_]<|Heap.SameBut.update ..];rw[qy rJ];simp[rawInt]
theorem JX {t:ai}{i:Nat}(hh:A.handled=ah) (hit:s.heap.IsTupleIter it t i) (ht:s.heap.IsTuple t items) (hx:items[i]?=ah)
 (hE:∀ h' e,Heap.ExtBut it s.heap h'->(∃ o,h'.get? e=ae o /\ o.cls=.type "StopIteration")->E (.ref e) { s with heap:=h' }):wpAny zf A (Builtin.SmallTypes.nextOf<|.ref it) Q E s:=by
 let#[ob,rK,ye,rJ]:=id hit;let#[ot,Hg,_,nt,EW]:=ht;refine ak<|qQ hit.typeIs IX<|eW IX hit.typeIs acf (show wpAny _ _ (field _ 0 >>= _) _ _ s from ak (kY rK rJ zj ?_))<|acg _;refine ak<|kY rK rJ zj<|ak<|uW Hg EW ?_;simp[pC,hx];refine ak<|qu<|ak<|sq rK rJ zg<|ak ?_;refine ak<|eV (ak<|Em (by first|rfl|(rfl))<|eV ?_ (by size_fits)) (by size_fits);refine ak<|Ij ?_;first|rw[hh]|rw[hh]
 show ak<|ay<|Ik<|hE _ _ (((Heap.SameBut.update ..).extBut.push _).push _) #[_,bA _ zj,rfl]
theorem JY (hh:A.handled=ah) (it l:ai) (nv:l≠it) (items:Array aj) :
 Draws prog w A it [it,l] items.size (λi v=>items[i]?=ae v) (λi h=>h.IsTupleIter it l i /\ h.IsTuple l items) where
 live:=λ_ _ st=>let ⟨o,ho,_⟩:=st.1;#[o,ho]
 frame:=λ_ _ _ st hk=>#[st.1.at λo e=>hk it zg o e,st.2.at λo e=>hk l zg o e]
 item:=λi s Q E hi st hQ=>FL st.1 st.2 (x:=items[i]) zg λh' a b=>hQ _ h' s.toks zg #[a,st.2.at λo e=>b.extBut _ _ nv e] b
 done:=λs Q E st hE=>JX hh st.1 st.2 zg hE
structure Hh (z TI TO i1 i2:ai) (qJ qK:List ai):zk where
 a:TI≠z /\ TO≠z /\ i1≠z /\ i2≠z /\ TI≠TO /\ TI≠i1 /\ TI≠i2 /\ TO≠i1 /\ TO≠i2 /\ i1≠i2
 f1:z∉qJ /\ TO∉qJ /\ i2∉qJ
 f2:z∉qK /\ TO∉qK /\ i1∉qK
variable {z TI TO i1 i2:ai} {qJ qK:List ai} {n1 n2:Nat} {P1 P2:Nat -> aj -> zk} {S1 S2:Nat -> aE -> zk}
theorem Draws.same {P:Nat->aj->zk}{S:Nat->aE->zk}(D:Draws prog w A it fp n P S) {c:ai}{h:aE}{k:Nat}(x:Heap.SameBut c h h') (hc:c∉fp) (st:S k h):S k h' :=
 D.frame k h h' st λb hb o e=>x.extBut _ _ (λq=>hc<|q▸hb) e
abbrev uG (h:aE) (z TI TO:ai) (f0 f1:aj):zk:=h.get? z=ae { cls:=.type "zip",dict:=ah,data:=.fields (List.toArray [f0,f1,.bool af,.ref TI,.ref TO]),slots:=#[] }
def tQ (h:aE) (z TI TO:ai):zk:=∃ f0 f1,(f0=.none \/ ∃ a,f0=rawInt a) /\ uG h z TI TO f0 f1
theorem ahO {Q:Option aV->aq->zk}(h:Q (s.heap.get? a) s):wpAny zf A (loadIfAlive a) Q E s:=λΓ p _=>by simpa[loadIfAlive] using h
theorem A5 {f0 f1:aj}{Q:Bool->aq->zk}(hf:f0=.none \/ ∃ a,f0=rawInt a) (hz:uG s.heap z TI TO f0 f1) (h:∀ r h' ahP,uG h' z TI TO f0 ahP->Heap.SameBut z s.heap h'->Q r { s with heap:=h' }) :
 wpAny zf A (Builtin.SmallTypes.ownedTupleIsFree<|.ref z) Q E s:=by
 have hs:Heap.SameBut z s.heap s.heap:=#[rfl,λ_ _=>rfl];rcases hf with rfl|⟨a,rfl⟩
 .show ak<|kY hz zj zj<|ay<|h _ _ f1 hz hs
 .refine ak<|kY hz zj zj<|ak<|ahO ?_;cases s.heap.get? a.toNat with
  |none=>show ay<|h _ _ f1 hz hs
  |some o=>
    refine ak<|kY hz zj (x:=f1) zj ?_;by_cases q:(f1 != Value.bool ag)=ag
    .rw[if_pos q];show ak<|uX hz zg λg1 wN e1=>ay<|h _ g1 _ wN e1
    .rw[if_neg q];show ak<|ay<|ay<|h _ _ f1 hz hs
theorem ML (D1:Draws prog w A i1 qJ n1 P1 S1) (D2:Draws prog w A i2 qK n2 P2 S2) (R:Hh z TI TO i1 i2 qJ qK) {k:Nat}{a b:aj}(k1:k<n1) (k2:k<n2)
 (hz:tQ s.heap z TI TO) (wO:IsPair s.heap TI (.ref i1)<|.ref i2) (vw:IsPair s.heap TO a b) (s1:S1 k s.heap) (s2:S2 k s.heap)
 (hQ:∀ x y h' tk,P1 k x->P2 k y->tQ h' z TI TO->(∃ u v,IsPair h' TO u v)->S1 (k+1) h'->S2 (k+1) h'->IsPair h' s.heap.objs.size x y ->
  zaj->Q zad { s with heap:=h',toks:=tk }) :
 wpAny zf A (Builtin.«zip.__next__» #[[.ref z],[]]) (λfin s'=>∃ v,fin=.done (.ret v) /\ Q v s') E s:=by
 let#[#[r1,r2,r3,r4,r5,r6,r7,r8,r9,Zu],#[f1,f2,f3],#[f4,f5,f6]]:=R;let#[o0,o1,ho,hz]:=hz
 change wpAny _ _ (field _ 2 >>= _) _ _ _;refine ak<|kY hz zj (x:=.bool af) zj ?_
 change wpAny _ _ _ _ _ _;refine ak<|kY hz zj zj<|ak<|uW wO zj ?_
 change wpAny _ _ _ _ _ _
 refine ak<|A5 ho hz λr g0 o2 yn e0=>?_;cases r with
 |true=>
   simp only;refine ak<|qu<|ak<|kY yn zj zj<|ak<|uX yn zg λg1 wN p9=>?_;have e1:Heap.SameBut z s.heap g1:=#[p9.1.trans e0.1,λc hc=>(p9.2 c hc).trans<|e0.2 c hc];refine ak ?_;erw[Xa,abv,xq,Ex];refine ak<|ak<|En (show wpAny _ _ (Builtin.SmallTypes.nextOf (.ref i1) >>= _) _ _ _ from ak (D1.item k _ _ _ k1 (Draws.same D1 e1 f1 s1) λx g2 t2 px Hi e2=>ay ?_));have Hj:IsPair g2 TO a b:=e2.extBut _ _ r8<|e1.extBut _ _ r2 vw;refine ak<|uW Hj zj<|ak<|QR Hj λg3 ad0 e3=>ak<|QS<|ay ?_;refine ak<|ak<|En (show wpAny _ _ (Builtin.SmallTypes.nextOf (.ref i2) >>= _) _ _ _ from ak (D2.item k _ _ _ k2 (Draws.same D2 e3 f5<|Draws.same D2 e2 f6<|Draws.same D2 e1 f4 s2) λy g4 t4 py Zv e4=>ay ?_));have ad1:IsPair g4 TO x b:=e4.extBut _ _ r9 ad0;refine ak<|uW ad1 zj<|ak<|QR ad1 λg5 ahQ e5=>ak<|QS<|ay<|ay ?_;have ad2:IsPair g5 TO x y:=ahQ;refine ak<|uW ad2 zj<|ak<|QT ?_;have hsz:g5.objs.size=s.heap.objs.size:=by rw[e5.1,e4.1,e3.1,e2.1,e1.1]
   have ad3:uG g5 z TI TO .ellipsis o2:=e5.extBut _ _ r2.symm<|e4.extBut _ _ r4.symm<|e3.extBut _ _ r2.symm<|e2.extBut _ _ r3.symm wN;have Hl:z<g5.objs.size:=ba ad3
   change wpAny _ _ (Builtin.SmallTypes.ownedTupleHandOut (.ref z) (.ref g5.objs.size) >>= _) _ _ _;refine ak ?_
   unfold Builtin.SmallTypes.ownedTupleHandOut;refine ak<|uX (aS _ ad3) zg λg7 ahR e7=>uX (show uG g7 z TI TO (rawInt g5.objs.size) o2 from ahR) zg λg8 ahS e8=>?_;have up:∀ c o,c≠z->g5.get? c=ae o->g8.get? c=ae o:=λc o c1 q=>e8.extBut _ _ c1<|e7.extBut _ _ c1<|aS _ q;have ad4:IsPair g8 g5.objs.size x y:=e8.extBut _ _ (xo Hl)<|e7.extBut _ _ (xo Hl)<|bA _ zj;refine ay #[_,rfl,(show Q (.ref g5.objs.size) _ from ?_)];rw[hsz]at ad4 ⊢;show hQ x y g8 _ px py #[_,_,.inr #[_,rfl],show uG g8 z TI TO (rawInt g5.objs.size) (.bool af) from ahS] #[_,_,up _ _ r2 ad2] (D1.frame _ _ _ (Draws.same D1 e5 f2<|Draws.same D1 e4 f3<|Draws.same D1 e3 f2 Hi) λc hc o q=>up c o (λw=>f1<|w▸hc) q) (D2.frame _ _ _ (Draws.same D2 e5 f5 Zv) λc hc o q=>up c o (λw=>f4<|w▸hc) q) ad4 λc o c1 c2 c3 c4 q=>up c o c1<|(λc o c1 c2 c3 c4 q=>e5.extBut _ _ c2<|e4.extBut _ _ c4<|e3.extBut _ _ c2<|e2.extBut _ _ c3<|e1.extBut _ _ c1 q) c o c1 c2 c3 c4 q
 |false=>
   erw[Q5,if_false];rw[show ((List.toArray [Value.ref i1,Value.ref i2]):Array aj)=[Value.ref i1,Value.ref i2].toArray from rfl];erw[abw,xq,Ex];refine ak<|ak<|ak<|eU (show wpAny _ _ (Builtin.SmallTypes.nextOf (.ref i1) >>= _) _ _ _ from ak (D1.item k _ _ _ k1 (Draws.same D1 e0 f1 s1) λx g2 t2 px Hi e2=>ay ?_));refine ay<|ak<|ak<|eU (show wpAny _ _ (Builtin.SmallTypes.nextOf (.ref i2) >>= _) _ _ _ from ak (D2.item k _ _ _ k2 (Draws.same D2 e2 f6<|Draws.same D2 e0 f4 s2) λy g4 t4 py Zv e4=>ay ?_));refine ay<|ay<|ak<|QT (ay #[_,rfl,?_]) (show 2<=sizeLine by decide);have hsz:g4.objs.size=s.heap.objs.size:=by rw[e4.1,e2.1,e0.1]
   have up:∀ c o,g4.get? c=ae o->(g4.push { cls:=.type "tuple",data:=.seq (List.toArray [x,y]) }).get? c=ae o:=λc o q=>aS _ q;have hT:IsPair (g4.push { cls:=.type "tuple",data:=.seq (List.toArray [x,y]) }) g4.objs.size x y:=bA _ zj;change Q (.ref g4.objs.size) _;rw[hsz]at hT ⊢;show hQ x y _ _ px py #[o0,o2,ho,up _ _<|e4.extBut _ _ r4.symm<|e2.extBut _ _ r3.symm yn] #[a,b,up _ _<|e4.extBut _ _ r9<|e2.extBut _ _ r8<|e0.extBut _ _ r2 vw] (D1.frame _ _ _ (Draws.same D1 e4 f3 Hi) λc hc o q=>up c o q) (D2.frame _ _ _ Zv λc hc o q=>up c o q) hT
    λc o c1 c2 c3 c4 q=>up c o<|e4.extBut _ _ c4<|e2.extBut _ _ c3<|e0.extBut _ _ c1 q
theorem MM (D1:Draws prog w A i1 qJ n1 P1 S1) (D2:Draws prog w A i2 qK n2 P2 S2) (R:Hh z TI TO i1 i2 qJ qK) {k:Nat}{a b:aj}{Q:Fin->aq->zk}(hk:k=n1 \/ (k<n1 /\ k=n2))
 (hz:tQ s.heap z TI TO) (wO:IsPair s.heap TI (.ref i1)<|.ref i2) (vw:IsPair s.heap TO a b) (s1:S1 k s.heap) (s2:S2 k s.heap)
 (hE:∀ h' e tk,zaj->(∃ o,h'.get? e=ae o /\ o.cls=.type "StopIteration")->E (.ref e) { s with heap:=h',toks:=tk }) :
 wpAny zf A (Builtin.«zip.__next__» #[[.ref z],[]]) Q E s:=by
 let#[#[r1,r2,r3,r4,r5,r6,r7,r8,r9,Zu],#[f1,f2,f3],#[f4,f5,f6]]:=R;let#[o0,o1,ho,hz]:=hz
 change wpAny _ _ (field _ 2 >>= _) _ _ _;refine ak<|kY hz zj (x:=.bool af) zj ?_
 change wpAny _ _ _ _ _ _;refine ak<|kY hz zj zj<|ak<|uW wO zj ?_
 change wpAny _ _ _ _ _ _
 refine ak<|A5 ho hz λr g0 o2 yn e0=>?_;cases r with
 |true=>
   simp only;refine ak<|qu<|ak<|kY yn zj zj<|ak<|uX yn zg λg1 wN p9=>?_;have e1:Heap.SameBut z s.heap g1:=#[p9.1.trans e0.1,λc hc=>(p9.2 c hc).trans<|e0.2 c hc];have ad5:uG g1 z TI TO .ellipsis o2:=wN;refine ak ?_;erw[Xa,abv,xq,Ex];rcases hk with hk|⟨Zw,vz⟩
   .refine ak<|ak<|En (show wpAny _ _ _ _ _ _ from ak (D1.done _ _ _ (hk▸Draws.same D1 e1 f1 s1) λg2 ex e2 hx=>?_));let#[oe,wQ,Hm]:=hx;have KW:uG g2 z TI TO .ellipsis o2:=e2 _ _ r3.symm ad5;show uX KW zg λg3 _ e3=>hE g3 ex _ (λc o c1 _ c3 _ q=>e3.extBut _ _ c1<|e2 _ _ c3<|e1.extBut _ _ c1 q) #[oe,e3.extBut _ _ (λq=>by subst q;rw[KW]at wQ;cases wQ;simp at Hm) wQ,Hm]
   .refine ak<|ak<|En (show wpAny _ _ (Builtin.SmallTypes.nextOf (.ref i1) >>= _) _ _ _ from ak (D1.item k _ _ _ Zw (Draws.same D1 e1 f1 s1) λx g2 t2 px Hi e2=>ay ?_));have Hj:IsPair g2 TO a b:=e2.extBut _ _ r8<|e1.extBut _ _ r2 vw;refine ak<|uW Hj zj<|ak<|QR Hj λg3 ad0 e3=>ak<|QS<|ay ?_;refine ak<|ak<|En (show wpAny _ _ (Builtin.SmallTypes.nextOf (.ref i2) >>= _) _ _ _ from ak (D2.done _ _ _ (vz▸Draws.same D2 e3 f5 (Draws.same D2 e2 f6<|Draws.same D2 e1 f4 s2)) λg4 ex e4 hx=>?_));let#[oe,wQ,Hm]:=hx;have ad6:uG g4 z TI TO .ellipsis o2:=e4 _ _ r4.symm<|e3.extBut _ _ r2.symm<|e2.extBut _ _ r3.symm ad5;show uX ad6 zg λg5 _ e5=>hE g5 ex _ (λc o c1 c2 c3 c4 q=>e5.extBut _ _ c1<|e4 _ _ c4<|e3.extBut _ _ c2<|e2.extBut _ _ c3<|e1.extBut _ _ c1 q) #[oe,e5.extBut _ _ (λq=>by subst q;rw[ad6]at wQ;cases wQ;simp at Hm) wQ,Hm]
 |false=>
   erw[Q5,if_false];rw[show ((List.toArray [Value.ref i1,Value.ref i2]):Array aj)=[Value.ref i1,Value.ref i2].toArray from rfl];erw[abw,xq,Ex];rcases hk with hk|⟨Zw,vz⟩
   .show ak<|ak<|ak<|eU (show wpAny _ _ (Builtin.SmallTypes.nextOf (.ref i1) >>= _) _ _ _ from ak (D1.done _ _ _ (hk▸Draws.same D1 e0 f1 s1) λg2 ex e2 hx=>(hE g2 ex _ (λc o c1 _ c3 _ q=>e2 _ _ c3<|e0.extBut _ _ c1 q) hx)))
   .show ak<|ak<|ak<|eU (show wpAny _ _ (Builtin.SmallTypes.nextOf (.ref i1) >>= _) _ _ _ from ak (D1.item k _ _ _ Zw (Draws.same D1 e0 f1 s1) λx g2 t2 px Hi e2=>ay<|ay<|ak<|ak<|eU (show wpAny _ _ (Builtin.SmallTypes.nextOf (.ref i2) >>= _) _ _ _ from ak (D2.done _ _ _ (vz▸Draws.same D2 e2 f6 (Draws.same D2 e0 f4 s2)) λg4 ex e4 hx=>(hE g4 ex _ (λc o c1 _ c3 c4 q=>e4 _ _ c4<|e2.extBut _ _ c3<|e0.extBut _ _ c1 q) hx)))))
theorem MN (hz:tQ s.heap z TI TO) (h:Q (.ref z) s):wpAny zf A (pyIter<|.ref z) Q E s:=by
 have ty:s.TypeIs (.ref z) "zip":=let ⟨_,_,_,hz⟩:=hz;#[_,hz,rfl]
 show Eo ty ach<|eW ach ty F.entry_zip_iter (ay #[_,rfl, "zip",_,ty,EA.lookup,h])<|F.args_zip_iter_1 _
theorem BK (D1:Draws prog w A.in1 i1 qJ n1 P1 S1) (D2:Draws prog w A.in1 i2 qK n2 P2 S2) (R:Hh z TI TO i1 i2 qJ qK) {k:Nat}{a b:aj}{Q:Option aj->aq->zk}(k1:k<n1) (k2:k<n2)
 (hz:tQ s.heap z TI TO) (wO:IsPair s.heap TI (.ref i1)<|.ref i2) (vw:IsPair s.heap TO a b) (s1:S1 k s.heap) (s2:S2 k s.heap)
 (hQ:∀ x y h' tk,P1 k x->P2 k y->tQ h' z TI TO->(∃ u v,IsPair h' TO u v)->S1 (k+1) h'->S2 (k+1) h'->IsPair h' s.heap.objs.size x y ->
  zaj->Q (ae zad) { s with heap:=h',toks:=tk }):wpAny zf A (pyNext<|.ref z) Q E s:=by
 have hT:s.TypeIs (.ref z) "zip":=let ⟨_,_,_,hz⟩:=hz;#[_,hz,rfl]
 show ak<|ua<|qQ hT EA<|eW EA hT aci (ML D1 D2 R k1 k2 hz wO vw s1 s2 λx y h' tk b1 b2 b3 b4 b5 b6 b7 b8=>ay<|hQ x y h' tk b1 b2 b3 b4 b5 b6 b7 b8)<|acj _
theorem UP {Q:Unit->aq->zk}(hz:tQ s.heap z TI TO) (h:∀ h',tQ h' z TI TO->Heap.SameBut z s.heap h'->Q () { s with heap:=h' }):wpAny zf A (letOwnedTupleGo tg (.ref z)<|.ref p) Q E s:=by
 have same:=h _ hz #[rfl,λ_ _=>rfl];let#[f0,f1,hf,hz]:=id hz
 have tup:wpAny zf A (do
  let o <-load z
  match o.cls,o.data with
  |.type n,.fields vs=>
    if ["enumerate","zip","dict_itemiterator","dict_reverseitemiterator","odict_iterator","itertools.zip_longest","itertools.pairwise"].contains n&&vs[0]?==ae (rawInt p) then
     rule "for.unpacks-the-owned-tuple"
     updateField z 0 .none
  |_,_=>pure ()) Q E s:=by
  refine ak<|xl hz ?_;dsimp only;split
  .refine ak<|qu<|uX hz zg λg1 wN e1=>h g1 #[.none,f1,.inl zj,wN] e1
  .show ay same
 cases tg with
 |Tuple es n q=>show tup
 |List es q=>show tup
 |_=>show ay same
theorem BL (D1:Draws prog w A.in1 i1 qJ n1 P1 S1) (D2:Draws prog w A.in1 i2 qK n2 P2 S2) (R:Hh z TI TO i1 i2 qJ qK) {k:Nat}{a b:aj}{Q:Option aj->aq->zk}(hk:k=n1 \/ (k<n1 /\ k=n2))
 (hz:tQ s.heap z TI TO) (wO:IsPair s.heap TI (.ref i1)<|.ref i2) (vw:IsPair s.heap TO a b) (s1:S1 k s.heap) (s2:S2 k s.heap)
 (hQ:∀ h' tk,zaj->Q ah { s with heap:=h',toks:=tk }):wpAny zf A (pyNext<|.ref z) Q E s:=by
 have hT:s.TypeIs (.ref z) "zip":=let ⟨_,_,_,hz⟩:=hz;#[_,hz,rfl]
 refine ak<|ua<|qQ hT EA<|eW EA hT aci (MM D1 D2 R hk hz wO vw s1 s2 λh' e tk q1 q2=>?_)<|acj _;let#[o,ho,hc]:=q2;show ak<|Ep #[o,ho,hc] Il<|ay<|hQ h' tk q1
noncomputable def Hn (h:aE) (l1:ai):aE:=h.push { cls:=.type "tuple_iterator",data:=.fields (List.toArray [.ref l1,.int 0 0]) }
def yo (h:aE) (l1 l2:ai):aE:=(Hn h l1).push { cls:=.type "tuple_iterator",data:=.fields (List.toArray [.ref l2,.int 0 0]) }
def yq (h:aE) (l1 l2:ai):aE:=(yo h l1 l2).push { cls:=.type "tuple",data:=.seq (List.toArray [.ref h.objs.size,.ref (Hn h l1).objs.size]) }
def Ho (h:aE) (l1 l2:ai):aE:=(yq h l1 l2).push { cls:=.type "tuple",data:=.seq (List.toArray [.none,.none]) }
def Hq (h:aE) (l1 l2:ai):aE:=(Ho h l1 l2).push { cls:=.type "zip",data:=.fields (List.toArray [.none,.bool af,.bool af,.ref (yo h l1 l2).objs.size,.ref (yq h l1 l2).objs.size]) }
theorem FM (l1 l2:ai) (xs ys:Array aj) :
 Meets (Builtin.«zip.__new__» #[[.type "zip",.ref l1,.ref l2],[]]) (λ_ R s=>s.heap.IsTuple l1 xs /\ s.heap.IsTuple l2 ys /\ R (.ok<|.ret<|.ref (Ho s.heap l1 l2).objs.size) { s with heap:=Hq s.heap l1 l2 }):=
 .of_wp λprog w A R s h=>by
  let#[hp,g,d,tk,os]:=s;let#[yr,rq,h]:=h;have akR:=sub_zip
  wp_walk using QU yr,QU (rq.at λo e=>aS _ e)
  show#[_,rfl,h]
theorem JZ {l1 l2:ai}{xs ys:Array aj}(yr:s.heap.IsTuple l1 xs) (rq:s.heap.IsTuple l2 ys)
 (h:∀ h',IsZip h' (s.heap.objs.size+4) (s.heap.objs.size+2) (s.heap.objs.size+3) .none->IsPair h' (s.heap.objs.size+2) zad (.ref zF)->IsPair h' (s.heap.objs.size+3) .none .none ->
  h'.IsTupleIter s.heap.objs.size l1 0->h'.IsTupleIter zF l2 0->(∀ c o,s.heap.get? c=ae o->h'.get? c=ae o)->Q (.ref<|s.heap.objs.size+4) { s with heap:=h' }):wpAny zf A (call (.type "zip") [.ref l1,.ref l2]) Q E s:=by
 refine callType_new F.called_zip (rfl) (F.typeCall_zip_2 _ _) (F.newCall_zip_2 _ _) (λobj=>F.args_object_init_3 obj _ _) F.entry_zip_new (FM l1 l2 xs ys) #[yr,rq,?_];have z1:(Hn s.heap l1).objs.size=s.heap.objs.size+1:=qT ..;have z2:(yo s.heap l1 l2).objs.size=s.heap.objs.size+2:=by rw[yo,qT,z1]
 have z3:(yq s.heap l1 l2).objs.size=s.heap.objs.size+3:=by rw[yq,qT,z2]
 have z4:(Ho s.heap l1 l2).objs.size=s.heap.objs.size+4:=by rw[Ho,qT,z3]
 have g5:(Hq s.heap l1 l2).get? (Ho s.heap l1 l2).objs.size=ae { cls:=.type "zip",data:=.fields (List.toArray [.none,.bool af,.bool af,.ref (yo s.heap l1 l2).objs.size,.ref (yq s.heap l1 l2).objs.size]) }:=bA _ zj;have g4:(Hq s.heap l1 l2).get? (yq s.heap l1 l2).objs.size=ae { cls:=.type "tuple",data:=.seq (List.toArray [.none,.none]) }:=aS _<|bA _ zj;have g3:(Hq s.heap l1 l2).get? (yo s.heap l1 l2).objs.size=ae { cls:=.type "tuple",data:=.seq (List.toArray [.ref s.heap.objs.size,.ref (Hn s.heap l1).objs.size]) }:=aS _<|aS _<|bA _ zj;have g2:(Hq s.heap l1 l2).get? (Hn s.heap l1).objs.size=ae { cls:=.type "tuple_iterator",data:=.fields (List.toArray [.ref l2,.int 0 0]) }:=aS _<|aS _<|aS _<|bA _ zj
 change _ /\ _
 rw[z2,z3,z4]at g5;rw[z1,z2]at g3;rw[z3]at g4;rw[z1]at g2;rw[z4];show#[#[_,g5,rfl],h _ g5 g3 g4 #[_,(aS _<|aS _<|aS _<|aS _<|bA _ zj),rfl,rfl] #[_,g2,rfl,rfl] λc o q=>aS _<|aS _<|aS _<|aS _<|aS _ q]
end
end HT
namespace L2
section
variable {s:aq} 
theorem Inv.ahT {o:HO}(I:Inv X pins σ H s) (hf:∀ b∈ch,pE X pins H b) (k:∀ b o,b∉ch->s.heap.get? b=ae o->h'.get? b=ae o) (hp:s.heap.objs.size<=p)
 (new:dn X.prog X.w (upd H p o) h' p o):Inv X pins σ (upd H p o) { s with heap:=h',toks:=t' }:=by
 have rj:∀ b u,H b=ae u->b∉ch:=λb u e z=>by rw[(hf b z).1]at e;cases e
 have eZ:∀ b u,H b=ae u->upd H p o b=ae u:=λb u e=>by rw[fu<|(λb u e=>fL e<|I.aF.fresh hp) b u e];show e
 refine I.step (λb hb=>?_) (λb o _ _ hc e _=>k b o hc e) (λb o _ _ hc e _=>#[o.slots,k b o hc e]) (λb ob _ e n=>?_)
  (λb o hc e=>#[o,k b o hc e]) (λb _ e=>eZ b _ e) (λb _ _ e=>eZ b _ e) (λb ps e=>#[#[],by rw[eZ b _ e];simp]) (λm hm=>?_) ?_ I.bare
 .let#[f0,f1,f2,f3,f4,f5]:=hf b hb;show#[f3,f1,f4,f5]
 .rw[fu λz=>kq _<|eG (ba e) (by rw[z];show hp)];show n
 .let#[ob,es,ep,ho,r]:=hm;show#[ob,es,ep,k _ ob (λz=>(hf _ z).2.1 zj) ho,r]
 .intro b u e;by_cases hb:b=p
  .subst hb;rw[fv]at e;cases e;show new
  .rw[fu hb]at e;refine(I.aF b u e).eZ (λc v hc q=>k c v ?_ q) (λc q=>eZ c _ q) λc xs q=>eZ c _ q;rcases hc with z|z
   .rw[z];show rj b u e
   .show rj c _ z
theorem Inv.ahU (I:Inv X pins σ H s) (hf:∀ b∈ch,pE X pins H b) (k:∀ b o,b∉ch->s.heap.get? b=ae o->h'.get? b=ae o):Inv X pins σ H { s with heap:=h',toks:=t' }:=by
 have rj:∀ b u,H b=ae u->b∉ch:=λb u e z=>by rw[(hf b z).1]at e;cases e
 refine I.step (λb hb=>?_) (λb o _ _ hc e _=>k b o hc e) (λb o _ _ hc e _=>#[o.slots,k b o hc e]) (λb ob _ e n=>n)
  (λb o hc e=>#[o,k b o hc e]) (λb _ e=>e) (λb _ _ e=>e) (λb ps e=>#[#[],by rw[e];simp]) (λm hm=>?_) ?_ I.bare
 .let#[f0,f1,f2,f3,f4,f5]:=hf b hb;show#[f3,f1,f4,f5]
 .let#[ob,es,ep,ho,r]:=hm;show#[ob,es,ep,k _ ob (λz=>(hf _ z).2.1 zj) ho,r]
 .intro b u e;refine(I.aF b u e).eZ (λc v hc q=>k c v ?_ q) (λc q=>q) λc xs q=>q;rcases hc with z|z
  .rw[z];show rj b u e
  .show rj c _ z
end
def nz (t:Bool) (K:PySem.W.Frag) (H:Hp) (a:ai) (xs:List V):zk:=match t with|true=>cM K H a xs|false=>bI K H a xs
def PX (t:Bool) (h:aE) (a:ai) (xs:Array aj):zk:=match t with|true=>h.IsTuple a xs|false=>h.IsList a xs
def tR (t:Bool) (h:aE) (it l:ai) (i:Nat):zk:=match t with|true=>h.IsTupleIter it l i|false=>h.IsListIter it l i
section
variable {s:aq} {t:Bool} 
theorem yt {xs:List V}(I:Inv X pins σ H s) (q:nz t X.K H a xs):∃ its:List aj,Vals xs its /\ PX t s.heap a its.toArray /\ a<s.heap.objs.size:=by
 cases t with
 |true=>let#[its,r,p,_]:=I.tuple q;show#[its,r,p,let ⟨_,e,_⟩:=p;ba e]
 |false=>let#[its,r,p,_]:=I.list q;show#[its,r,p.isList,let ⟨_,_,e,_⟩:=p;ba e]
theorem ad7 {xs ys:List V}(I:Inv X pins σ H s) (q:nz t X.K H a xs) (q':nz t X.K H a ys):xs=ys:=by
 cases t with
 |true=>show I.acJ q q'
 |false=>show I.acI q q'
theorem tR.ob {h:aE}{l:ai}{i:Nat}(x:tR t h it l i):∃ o fs,h.get? it=ae o /\ o.data=.fields fs:=by
 cases t with
 |_=>let#[o,e,_,d]:=x;show#[o,_,e,d]
theorem tR.at {h h':aE}{it l:ai}{i:Nat}(x:tR t h it l i) (k:∀ o,h.get? it=ae o->h'.get? it=ae o):tR t h' it l i:=by
 cases t with
 |true=>show Heap.IsTupleIter.at x k
 |false=>show Heap.IsListIter.at x k
theorem KY (hh:A.handled=ah) (it l:ai) (nv:l≠it) (items:Array aj) :
 Draws prog w A it [it,l] items.size (λi v=>items[i]?=ae v) (λi h=>tR t h it l i /\ PX t h l items):=by
 cases t with
 |true=>show HT.JY hh it l nv items
 |false=>show Draws.list hh it l nv items
theorem J0 {l1 l2:ai}{xs ys:Array aj}(yr:PX t s.heap l1 xs) (rq:PX t s.heap l2 ys)
 (h:∀ h',IsZip h' (s.heap.objs.size+4) (s.heap.objs.size+2) (s.heap.objs.size+3) .none->IsPair h' (s.heap.objs.size+2) zad (.ref zF)->IsPair h' (s.heap.objs.size+3) .none .none ->
  tR t h' s.heap.objs.size l1 0->tR t h' zF l2 0->(∀ c o,s.heap.get? c=ae o->h'.get? c=ae o)->Q (.ref<|s.heap.objs.size+4) { s with heap:=h' }):wpAny zf A (call (.type "zip") [.ref l1,.ref l2]) Q E s:=by
 cases t with
 |true=>show HT.JZ yr rq h
 |false=>show call_zip_2 yr rq λh' b1 b2 b3 b4 b5 _ b6=>h h' b1 b2 b3 b4 b5 b6
end
def Zx (t:Bool) (K:PySem.W.Frag) (a b:ai):It:=
 #[λi H=>∃ (xs ys:List V) (x y:V),nz t K H a xs /\ nz t K H b ys /\ xs[i]?=ae x /\ ys[i]?=ae y,
  λi H w H'=>∀ (xs ys:List V),nz t K H a xs->nz t K H b ys->∃ (p:ai) (x y:V),xs[i]?=ae x /\ ys[i]?=ae y /\ H p=ah /\ w=.ref p /\ H'=upd H p (.tup [x,y]),
  λi H=>∃ (xs ys:List V),nz t K H a xs /\ nz t K H b ys /\ (i=xs.length \/ (i<xs.length /\ i=ys.length))]
theorem B8 {b:Nat}(k:Nat) (h:b<n):b≠n+k:=by lia
theorem B9 {m:Nat}(h:n+4<m):m≠n /\ m≠n+1 /\ m≠n+2 /\ m≠n+3 /\ m≠n+4:=by lia
theorem GO {n b:ai}(ha:a<n) (hb:b<n):HT.Hh (n+4) (n+2) (n+3) n (n+1) [n,a] [n+1,b] where
 a:=by refine#[?_,?_,?_,?_,?_,?_,?_,?_,?_,?_]<;>show λz=>by have z':(_:Nat)=_:=z;lia
 f1:=by
  have e1:∀ k,n+k≠a:=λk z=>kq _<|Et (uZ n k)<|z▸ha;refine#[?_,?_,?_]<;>(rw[bz,ku];rintro(z|z))
  .have z':(_:Nat)=_:=z;lia
  .show e1 4 z
  .have z':(_:Nat)=_:=z;lia
  .show e1 3 z
  .have z':(_:Nat)=_:=z;lia
  .show e1 1 z
 f2:=by
  have e1:∀ k,n+k≠b:=λk z=>kq _<|Et (uZ n k)<|z▸hb;refine#[?_,?_,?_]<;>(rw[bz,ku];rintro(z|z))
  .have z':(_:Nat)=_:=z;lia
  .show e1 4 z
  .have z':(_:Nat)=_:=z;lia
  .show e1 3 z
  .have z':(_:Nat)=_:=z;lia
  .show e1 0 z
theorem MO {t:Bool}{n b:ai}(ha:a<n) (hb:b<n) :
 Turn P w K tg (Zx t K a b) [n+4,n+2,n+3,n,n+1] (n+4)
  (λi h=>HT.tQ h (n+4) (n+2) (n+3) /\ IsPair h (n+2) (.ref n) (.ref<|n+1) /\ (∃ u v,IsPair h (n+3) u v) /\ tR t h n a i /\ tR t h (n+1) b i) where
 mem:=by simp
 obj:=λi h st c hc=>by
  let#[#[_,_,_,z1],z2,#[u,v,z3],z4,z5]:=st;let#[o4,_,e4,d4]:=z4.ob;let#[o5,_,e5,d5]:=z5.ob;simp[bz,qY,or_false]at hc;rcases hc with rfl|rfl|rfl|rfl|rfl
  .show#[_,z1,λv z=>by cases z]
  .show#[_,z2,λv z=>by cases z]
  .show#[_,z3,λv z=>by cases z]
  .show#[o4,e4,λv z=>by rw[d4]at z;cases z]
  .show#[o5,e5,λv z=>by rw[d5]at z;cases z]
 keep:=λi h h' st k=>by
  let#[z1,z2,#[u,v,z3],z4,z5]:=st;let#[w0,w1,w2,z1]:=z1;show#[#[w0,w1,w2,k _ zg _ z1],k _ zg _ z2,#[u,v,k _ zg _ z3],z4.at λo e=>k _ zg o e,z5.at λo e=>k _ zg o e]
 item:=by
  intro X hP hw hK hc i pins s σ H E I hf st hg;subst hP hw hK;let#[xs,ys,x,y,q1,q2,e1,e2]:=hg;let#[z1,z2,#[u,v,z3],z4,z5]:=st;let#[i1,r1,p1,l1]:=yt I q1;let#[i2,r2,p2,l2]:=yt I q2;have R:=GO ha hb;refine HT.BK (KY (t:=t) (prog:=X.prog) (w:=X.w) (A:=X.A.in1) (I.ok.hd hc) n a (bJ ha) i1.toArray) (KY (t:=t) (prog:=X.prog) (w:=X.w) (A:=X.A.in1) (I.ok.hd hc) _ b (B8 1 hb) i2.toArray) R (by rw[bU,<-r1.length];show(List.getElem?_eq_some_iff.mp e1).1) (by rw[bU,<-r2.length];show(List.getElem?_eq_some_iff.mp e2).1) z1 z2 z3 #[z4,p1] #[z5,p2] λvx vy h' tk b1 b2 b3 b4 b5 b6 b7 b8=>#[_,rfl,?_];refine HT.UP b3 λh2 KW kB=>?_;let#[w1,f1,g1]:=r1.get e1;let#[w2,f2,g2]:=r2.get e2;have ad8:i1[i]?=ae vx:=by simpa using b1
  have ad9:i2[i]?=ae vy:=by simpa using b2
  rw[f1]at ad8;cases ad8;rw[f2]at ad9;cases ad9;have Hl:(n+4)<s.heap.objs.size:=let ⟨_,_,_,z1⟩:=z1;ba z1
  have I2:Inv X pins σ (upd H s.heap.objs.size<|.tup [x,y]) { s with heap:=h2,toks:=tk }:=by
   refine I.ahT hf (λc o dS e=>?_) (aH _) (#[by change 2<=sizeLine;decide,[vx,vy],.cons g1<|.cons g2 .nil,#[_,(kB.extBut _ _ (B9 Hl).2.2.2.2 b7),rfl,_,rfl]])
   .simp[bz,qY,or_false,not_or]at dS;show kB.extBut _ _ dS.1<|b8 c o dS.1 dS.2.2.1 dS.2.2.2.1 dS.2.2.2.2 e
  refine#[.ref s.heap.objs.size,_,I2,rfl,λakS akT y1 y2=>#[_,x,y,by rw[ad7 I y1 q1];show e1,by rw[ad7 I y2 q2];show e2,(I.aF.fresh<|aH _),rfl,rfl],#[KW,(kB.extBut _ _ R.a.1<|b8 _ _ R.a.1 R.a.2.2.2.2.1 R.a.2.2.2.2.2.1 R.a.2.2.2.2.2.2.1 z2),(let ⟨u,v,b4⟩:=b4;#[u,v,kB.extBut _ _ R.a.2.1 b4]),(b5.1.at λo e=>kB.extBut _ _ R.a.2.2.1 e),(b6.1.at λo e=>kB.extBut _ _ R.a.2.2.2.1 e)],λc dS=>?_]
  .rw[fu]
   .show(hf c dS).1
   .intro z;subst z;simp[bz,qY,or_false]at dS;let#[m1,m2,m3,m4,m5]:=B9 Hl;rcases dS with q|q|q|q|q
    .show m5 q
    .show m3 q
    .show m4 q
    .show m1 q
    .show m2 q
 done:=by
  intro X hP hw hK hc i pins s σ H E I hf st hg;subst hP hw hK;let#[xs,ys,q1,q2,hk]:=hg;let#[z1,z2,#[u,v,z3],z4,z5]:=st;let#[i1,r1,p1,l1]:=yt I q1;let#[i2,r2,p2,l2]:=yt I q2;refine HT.BL (KY (t:=t) (prog:=X.prog) (w:=X.w) (A:=X.A.in1) (I.ok.hd hc) n a (bJ ha) i1.toArray) (KY (t:=t) (prog:=X.prog) (w:=X.w) (A:=X.A.in1) (I.ok.hd hc) (n+1) b (B8 1 hb) i2.toArray) (GO ha hb) (k:=i) (by rw[bU,bU,<-r1.length,<-r2.length];show hk) z1 z2 z3 #[z4,p1] #[z5,p2] λh' tk b8=>#[rfl,I.ahU (ch:=[n+4,n+2,n+3,n,n+1]) hf λc o dS e=>?_];simp[bz,qY,or_false,not_or]at dS;show b8 c o dS.1 dS.2.2.1 dS.2.2.2.1 dS.2.2.2.2 e
 self:=λA i s Q E st h=>HT.MN st.1 h
def ahV (K:PySem.W.Frag) (ta:TA):TI:=λσ H R=>ta σ H λvs H2=>∃ (t:Bool) (p q:ai) (xs ys:List V),vs=[.ref p,.ref q] /\ nz t K H2 p xs /\ nz t K H2 q ys /\ R (Zx t K p q) H2
theorem UQ {a b:au}{ta:TA}{p:aK}(hg:Gl X "zip") (hm:X.mg "zip"=ah) (ha:PA X [a,b] ta) (hs:starEach [a,b] X.env=[(af,eval a X.env),(af,eval b X.env)]:=by rfl) (kB:starEach [b] X.env=[(af,eval b X.env)]:=by rfl) :
 PI X tg (.Call (.Name "zip" p) [a,b] [] pos) (ahV X.K ta):=by
 intro pins s σ H R I h;refine sk<|jC I hg hm (by decide +kernel:bootBuiltins "zip"=ae (.type "zip")) ?_;refine IE (tA (ha pos pins s σ H _ I h) λus s1 vs H2 I2 r2 q=>?_) (by rw[hs,kB]) (by rw[kB];rfl);let#[t,x,y,xs,ys,rfl,hx,hy,q]:=q;let#[u,v,rfl,ru,rv]:=Vals.two r2;cases ru;cases rv;let#[i1,r1,p1,l1]:=yt I2 hx;let#[i2,r2,p2,l2]:=yt I2 hy;refine J0 p1 p2 λh' b1 b2 b3 b4 b5 b6=>?_;refine wpAny_pyIter_zip b1 ?_;refine#[s1.heap.objs.size+4,_,_,_,H2,rfl,I2.kept b6,MO l1 l2,#[#[_,_,.inl zj,b1],b2,#[_,_,b3],b4,b5],λc hc=>?_,q];have hle:s1.heap.objs.size<=c:=by
  simp[bz,qY,or_false]at hc;rcases hc with z|z|z|z|z<;>(rw[z];first|show aH _|show uZ _ _)
 show I2.xZ hle<|I2.aF.fresh hle
end L2
namespace L2.DL
section
variable {a b:au} {p:aK} {k:DE (List W)}
noncomputable def nC:List D->List D->List W
 |x::l,y::r=>.d (.tup [x,y])::nC l r
 |_,_=>[]
theorem DA:∀ (l r:List D),(nC l r).length=min l.length r.length
 |[],_=>rfl
 |_::_,[]=>rfl
 |_::l,_::r=>by erw[nC,bw,DA l r];lia
theorem DB:∀ {l r:List D}{i:Nat}{w:W},(nC l r)[i]?=ae w->∃ x y,l[i]?=ae x /\ r[i]?=ae y /\ w=.d (.tup [x,y])
 |[],_,_,_,e=>by simp[nC]at e
 |_::_,[],_,_,e=>by simp[nC]at e
 |x::l,y::r,0,w,e=>by simp[nC]at e;show#[x,y,rfl,rfl,e.symm]
 | x::l,y::r,i+1,w,e=>by
   let#[x',y',h1,h2,h3]:=DB (by simpa[nC] using e);show#[x',y',by simpa using h1,by simpa using h2,h3]
def qL (k:DE zah):DE zah:=λenv bx=>fC (k env bx) λws bx1=>match ws with
 |[.d<|.tup l,.d<|.tup r]=>.val (nC l r) bx1
 |[.d<|.lst l,.d<|.lst r]=>.val (nC l r) bx1
 |_=>.bad
theorem A6 {t:Bool}{p q:ai}{vs us:List V}{l m:List D}(hp:∀ H,Sub F H->nz t K H p vs) (hq:∀ H,Sub F H->nz t K H q us) (dl:aJ F l vs) (dm:aJ F m us):vo F r (nC l m) (Zx t K p q):=by
 intro T i F1 r1 σ1 H1 a9 bx1 g R;have s1:=hp _<|g.s.trans R.fh;have s2:=hq _<|g.s.trans R.fh;have e1:=dl.length;have e2:=dm.length;refine#[λhl=>?_,λw e=>?_]
 .rw[DA]at hl;show#[vs,us,s1,s2,by lia]
 .let#[x,y,h1,h2,rfl]:=DB e;let#[v,f1,d1]:=dl.get h1;let#[u,f2,d2]:=dm.get h2;refine#[#[vs,us,v,u,s1,s2,f1,f2],λw H2 hy=>?_];let#[a,v',u',g1,g2,ha,rfl,rfl]:=hy vs us s1 s2;rw[f1]at g1;cases g1;rw[f2]at g2;cases g2;have gr:=R.ux (o:=.tup [v,u]) ha;show#[_,gr,R.yj ha,a,[v,u],rfl,fv,.cons (Den.mono (g.trans gr).s x d1)<|.cons (Den.mono (g.trans gr).s y d2) .nil]
theorem PU (hg:Gl X "zip") (hm:X.mg "zip"=ah) (ha:dJ X T Z [a,b] k) (hs:starEach [a,b] X.env=[(af,eval a X.env),(af,eval b X.env)]:=by rfl) (kB:starEach [b] X.env=[(af,eval b X.env)]:=by rfl) :
 uA X T Z tg (.Call (.Name "zip" p) [a,b] [] pos) (qL k):=by
 refine PI.imp (UQ hg hm ha hs kB) λσ H Q=>x4 λF r env bx R h=>?_;refine#[F,r,env,bx,R,End.bind h λws bx1 F1 r1 vs H1 g1 R1 d1 h1=>?_];split at h1
 .let#[v,t,rfl,#[p,us,rfl,k1,k2],v2,t2,rfl,#[q,Hr,rfl,k3,k4],rt]:=d1;cases (rt);have z1:∀ H,Sub F1 H->nz ag X.K H p us:=λH s=>.of<|s _ _ k1;have z2:∀ H,Sub F1 H->nz ag X.K H q Hr:=λH s=>.of<|s _ _ k3;show#[ag,p,q,us,Hr,rfl,z1 _ R1.fh,z2 _ R1.fh,h1 F1 r1 _ H1 zS R1<|A6 z1 z2 k2 k4]
 .ext l m;let#[v,t,rfl,#[p,us,rfl,k1,k2],v2,t2,rfl,#[q,Hr,rfl,k3,k4],rt]:=d1;cases (rt);have z1:∀ H,Sub F1 H->nz af X.K H p us:=λH s=>.of<|s _ _ k1;have z2:∀ H,Sub F1 H->nz af X.K H q Hr:=λH s=>.of<|s _ _ k3;show#[af,p,q,us,Hr,rfl,z1 _ R1.fh,z2 _ R1.fh,h1 F1 r1 _ H1 zS R1<|A6 z1 z2 k2 k4]
 .show h1.elim
end
section
variable {a:au} {p:aK}
def ahW (K:PySem.W.Frag) (tl:TE):TI:=λσ H R=>tl σ H λx H1=>(∃ a,x=.ref a /\ (∃ xs,bI K H1 a xs) /\ R (X3 K a) H1) \/ ∃ a,x=.ref a /\ (∃ xs,cM K H1 a xs) /\ R (X4 K a) H1
theorem UR {l:au}{tl:TE}(hl:PE X l tl):PI X tg l (ahW X.K tl):=by
 intro pins s σ H R I h;refine tE (hl pins s σ H _ I h) λv s1 x H1 I1 r1 q1=>?_;rcases q1 with⟨a,rfl,⟨xs,hq⟩,q⟩|⟨a,rfl,⟨xs,hq⟩,q⟩
 .cases r1;let#[its,rv,p,hz]:=I1.list hq;refine Ih p.isList #[s1.heap.objs.size,[s1.heap.objs.size],_,_,H1,rfl,I1.kept λb o e=>aS _ e,Jv a _,#[_,bA _ zj,rfl,rfl],λb hb=>?_,q];cases ku.mp hb;show I1.xZ (aH _)<|I1.aF.fresh<|aH _
 .cases r1;let#[its,rv,p,hz]:=I1.tuple hq;refine QU (p) #[s1.heap.objs.size,[s1.heap.objs.size],_,_,H1,rfl,I1.kept λb o e=>aS _ e,Fq a _,#[_,bA _ zj,rfl,rfl],λb hb=>?_,q];cases ku.mp hb;show I1.xZ (aH _)<|I1.aF.fresh<|aH _
theorem DC {a:ai}{vs:List V}{l:List D}(k1:F a=ae (.lst vs)) (k2:aJ F l vs):vo F r (l.map W.d) (X3 K a):=λT' i F2 r2 σ2 H2 cK ax g2 R2=>by
 have hq:bI K H2 a vs:=.of<|R2.fh _ _<|g2.s _ _ k1;refine#[λhl=>?_,λw e=>?_]
 .rw[a8,k2.length]at hl;show#[vs,hq,vT hl]
 .let#[d,e1,rfl]:=B6 e;let#[u,e2,du]:=k2.get e1;refine#[#[vs,u,hq,e2],λx H3 ⟨e3,hy⟩=>?_];subst e3;have e4:=hy vs hq;rw[e2]at e4;cases e4;show#[F2,.refl F2 r2,R2,Den.mono g2.s d du]
theorem FN {a:ai}{vs:List V}{l:List D}(k1:F a=ae (.tup vs)) (k2:aJ F l vs):vo F r (l.map W.d) (X4 K a):=λT' i F2 r2 σ2 H2 cK ax g2 R2=>by
 have hq:cM K H2 a vs:=.of<|R2.fh _ _<|g2.s _ _ k1;refine#[λhl=>?_,λw e=>?_]
 .rw[a8,k2.length]at hl;show#[vs,hq,vT hl]
 .let#[d,e1,rfl]:=B6 e;let#[u,e2,du]:=k2.get e1;refine#[#[vs,u,hq,e2],λx H3 ⟨e3,hy⟩=>?_];subst e3;have e4:=hy vs hq;rw[e2]at e4;cases e4;show#[F2,.refl F2 r2,R2,Den.mono g2.s d du]
theorem oo (ha:PD X T Z a ma):uA X T Z tg a (bP ma):=by
 refine PI.imp (UR ha) λσ H Q=>x4 λF r env bx R h=>?_;refine#[F,r,env,bx,R,End.bind h λw bx1 F1 r1 v H1 g1 R1 d1 h1=>?_];split at h1
 .let#[p,vs,rfl,k1,k2]:=d1;show .inl #[p,rfl,#[vs,.of<|R1.fh _ _ k1],h1 F1 r1 _ H1 zS R1<|DC k1 k2]
 .let#[p,vs,rfl,k1,k2]:=d1;show .inr #[p,rfl,#[vs,.of<|R1.fh _ _ k1],h1 F1 r1 _ H1 zS R1<|FN k1 k2]
 .show h1.elim
theorem PV {v:Int}(hg:Gl X x) (hm:∃ t,X.mg x=ae (.int v t)) (hd:(x==("__debug__":Str))=af:=by decide):PD X T Z (.Name x pos) (dC<|.int v):=by
 let#[t,hm]:=hm;show Dx (gp (v:=.int v) hg hm #[t,rfl] hd) λ_=>rfl
end
noncomputable def Zy (XN:List Str) (sc cs:bK) (N:List Str) (src:List<|Option Nat):Bool:=
 decide (cs.kind=.function)&&decide (cs.names.map (·.1)).Nodup&&cs.names.all (λy=>decide (y.2=.local->cs.names.lookup y.1=ae .local)) &&
 cs.names.all (λy=>decide (y.2=.free->(sc.names.lookup y.1=ae .cell \/ sc.names.lookup y.1=ae .free)))&&decide (src.length=N.length) &&
 (List.range src.length).all λj=>match src[j]?,N[j]? with
  |some (ae i),ae x=>decide (XN[i]?=ae x /\ cs.names.lookup x=ae .free)
  |_,_=>ag
theorem FO {XN:List Str}{src:List (Option Nat)}{sc cs:bK}(hX:∀ x,X.env.kindOf x=sc.names.lookup x) (hN:X.N=XN) (h:Zy XN sc cs N src=ag):sW X N src cs:=by
 subst hN;unfold Zy at h;erw[aL,decide_eq_true_eq,bR]at h;let#[#[#[#[#[h1,h2],h3],h4],h5],h6]:=h;refine#[h1,h2,λy hy=>h3 y hy,λy hy hf=>?_,h5,λj i x e1 e2=>?_]
 .rw[hX];show h4 y hy hf
 .have q:=h6 j<|List.mem_range.mpr (List.getElem?_eq_some_iff.mp e1).1;rw[e1,e2]at q;show of_decide_eq_true q
section
variable (P:cG) (w:bH) (K:PySem.W.Frag) (mg:Str -> Option aj) (base:aE) (cl:Nat -> ai)
def rL (k:Nat) (x:Str) (ps:List Str) (fn:List W->List Bx->O W):zk:=
 ∃ (f:ai) (fd:FuncData),cZ P w K mg base (dz P w) k f fd ps (qd cl ps.length fn) /\ mg x=ae (.ref f) /\ PySem.W.keepIn K (.ref f)=ag /\ Binds K fd ps [] /\ ∃ o:aV,K.lookup f=ae o /\ o.data=.func fd
def Def (x:Str) (st:bp) (ps:List Str):zk:=∃ (f:ai) (fd:FuncData),eD K x x st f fd /\ mg x=ae (.ref f) /\ Binds K fd ps []
end
section
variable {k:Nat} {ps:List Str} {m:az} {nn kk:Nat}
theorem _root_.L2.eD.obj (F:eD K x qual st f fd):∃ o:aV,K.lookup f=ae o /\ o.data=.func fd:=by
 let#[#[oc,od,kV,doc,pm,an,cdv,ct,pf,_,l,_],_]:=F;show#[_,l,rfl]
end
section
variable {p:aK} {k k':Nat} {ps:List Str} {nn:Nat}
theorem US (h:rL X.prog X.w X.K X.mg X.base Z.cl k x ps fn) (hr:cg k' X.A) (hk:k<=k') (hg:Gl X x) (hx:Passes (dz X.prog X.w) X Z.E) (ha:dJ X T Z (e::es) m) (dg:(x==("__debug__":Str))=af:=by decide)
 (he:starEach (e::es) X.env=zae::starEach es X.env:=by rfl) (eA:(backTo pos<|starEach es X.env).any (·.1)=af:=by rfl) (hn:ps.length=nn:=by rfl):PD X T Z zJ (fj fn nn m):=by
 subst hn;let#[f,fd,G,hm,ahX,hb,_]:=h;show Pk G (hr.mono hk) hg hm ahX hb hx ha dg he eA
end
end L2.DL
namespace HT
structure SB (kd:SortKind) (b:Array Keyed) (z:SortSt):zk where
 pm:(arrOf z).Perm b
 kd:kindOf z=kd
 fl:failedOf z=ah
 pn:pendingOf z=#[]
theorem SB.len {kd:SortKind}{b:Array Keyed}{z:SortSt}(g:SB kd b z):(arrOf z).size=b.size:=g.pm.size_eq
theorem SB.put {kd:SortKind}{b:Array Keyed}{z:SortSt}(g:SB kd b z) {c:Array Keyed}(q:c.Perm<|arrOf z):SB kd b (setArr z c):=#[q.trans g.pm,g.kd,g.fl,g.pn]
section
variable {s:aq}
def uH (prog:cG) (w:bH) (A:cE) (E:aj->aq->zk) (s:aq) (κ:KeyKind) (kd:SortKind) (b:Array Keyed):zk:=
 ∀ (x y:Keyed),x∈b.toList->y∈b.toList->∀ (Q:Bool->aq->zk) (E':aj->aq->zk),Q (κ.blt ((κ.keyOf x.1).getD κ.dflt)<|(κ.keyOf y.1).getD κ.dflt) s->wpAny zf A (keyLt' kd x.1 y.1) Q E' s
variable {κ:KeyKind} {kd:SortKind} {b:Array Keyed}
noncomputable abbrev kx (κ:KeyKind) (z:SortSt) (i:Nat):κ.α:=KK κ (arrOf z) i
theorem SB.item {z:SortSt}(g:SB kd b z) {i:Nat}(hi:i<b.size):∃ x,(arrOf z)[i]?=ae x /\ x∈b.toList /\ kx κ z i=(κ.keyOf x.1).getD κ.dflt:=by
 have hz:=g.len▸hi;refine#[(arrOf z)[i],getElem?_pos _ i hz,(Array.perm_iff_toList_perm.mp g.pm).mem_iff.mp zg,?_];simp[KK,getElem?_pos (arrOf z) i hz]
theorem ask (C:uH prog w A E s κ kd b) {z:SortSt}(g:SB kd b z) {i:Nat}(hi:i<b.size) (hj:j<b.size) {Q:Option Bool->SortSt->zk}
 (q:Q (ae<|κ.blt (kx κ z i)<|kx κ z j) z):wpS zf A E s (ltAt' i j) Q z:=by
 let#[x,ex,mx,ahY]:=g.item hi;let#[y,ey,my,ahZ]:=g.item hj;rw[ahY,ahZ]at q;rw[ltAt'_eq];refine cL<|xF ?_;dsimp only;rw[elem'_eq,elem'_eq,ex,ey];refine cL<|d9<|cL<|d9 ?_;rw[lt'_eq];refine cL<|xF ?_;rw[g.kd];show cL<|Xk<|ua<|C x y mx my _ _ #[rfl,d9 q]
def Up (κ:KeyKind) (z:SortSt) (n:Nat):zk:=∀ i j,i<=j->j<n->κ.kle (kx κ z i) (kx κ z j)
def Dn (κ:KeyKind) (z:SortSt) (n:Nat):zk:=∀ i j,i<=j->j<n->κ.kle (kx κ z j) (kx κ z i)
theorem Up.one {z:SortSt}(h:n<=1):Up κ z n:=λi j a c=>by
 have e:i=j:=by lia
 subst e;show xM _
theorem Up.more {z:SortSt}(u:Up κ z n) (h:1<=n) (l:κ.kle (kx κ z<|n-1)<|kx κ z n):Up κ z (n+1):=λi j a c=>by
 rcases xp j n with c'|c'
 .show u i j a c'
 obtain rfl:j=n:=by lia
 rcases xp i j with a'|a'
 .show IZ (u i _ zb zb) l
 .obtain rfl:i=j:=by lia
  show xM _
theorem Dn.more {z:SortSt}(u:Dn κ z n) (h:1<=n) (l:κ.kle (kx κ z n)<|kx κ z<|n-1):Dn κ z (n+1):=λi j a c=>by
 rcases xp j n with c'|c'
 .show u i j a c'
 obtain rfl:j=n:=by lia
 rcases xp i j with a'|a'
 .show IZ l<|u i _ zb zb
 .obtain rfl:i=j:=by lia
  show xM _
theorem asc (C:uH prog w A E s κ kd b) {z:SortSt}(g:SB kd b z) {a:Nat}(hn:n<=b.size) (h1:1<=a) (h2:a<=n) (u:Up κ z a) {Q:AscSt->SortSt->zk}
 (q:∀ m,a<=m->m<=n->Up κ z m->(m<n->κ.klt (kx κ z m) (kx κ z<|m-1))->Q (ah,m) z):wpS zf A E s (ascLoop a n) Q z:=by
 refine xG (I:=λm c y=>y=z /\ c=(ah,m) /\ Up κ z m) ?_ ?_ #[rfl,rfl,u]
 .intro m c y g1 g2 ⟨e1,e2,u'⟩;subst e1;subst e2;refine cL<|ask C g zb zb ?_;cases e:κ.blt _ _ with
  |true=>show d9<|q m g1 (eX g2) u' λ_=>e
  |false=>show d9 #[rfl,rfl,u'.more zb e]
 .intro c y ⟨e1,e2,u'⟩;subst e1;subst e2;rw[aba h2]at u' ⊢;show q n h2 (aH n) u' λh=>absurd h<|kq n
theorem GP {z:SortSt}{i k:Nat}(hj:j<=(arrOf z).size):kx κ (setArr z<|mirror (arrOf z) i j<|(j-i) / 2) k=if i<=k /\ k<j then kx κ z (i+j-1-k) else kx κ z k:=KK_mirror hj k
theorem lX {z:SortSt}{i:Nat}(hj:j<=(arrOf z).size) (e:∀ k,i<=k->k<j->kx κ z k=kx κ z (j-1)) (k:Nat):kx κ (setArr z<|mirror (arrOf z) i j<|(j-i) / 2) k=kx κ z k:=KK_mirror_equal hj e k
def Ends (prog:cG) (w:bH) (A:cE) (E:aj->aq->zk) (s:aq) (κ:KeyKind) (kd:SortKind) (b:Array Keyed) (n:Nat) (Q:Option Nat->SortSt->zk):zk:=
 ∀ m y,SB kd b y->1<=m->m<=n->Up κ y m->Q (ae m) y
theorem turned (C:uH prog w A E s κ kd b) {z:SortSt}(g:SB kd b z) {a:Nat}(hn:n<=b.size) (h1:1<=a) (h2:a<=n) (d:Dn κ z a) {Q:Option Nat->SortSt->zk}(q:Ends prog w A E s κ kd b n Q) :
 wpS zf A E s (tail3 a n) Q z:=by
 have hz:=g.len▸dF h2 hn;have g':SB kd b (setArr z<|mirror _ 0 a<|(a-0) / 2):=g.put<|IQ _ _ _ _;refine cL<|IT<|cL<|asc C g' hn h1 h2 (λi j c1 c2=>?_) λm m1 m2 um _=>d9<|q m _ g' (dF h1 m1) m2 um;rw[GP hz,GP hz,if_pos #[dR i,by lia],if_pos #[dR j,c2]];show d _ _ zb zb
def Alike (κ:KeyKind) (z:SortSt) (m e:Nat):zk:=e+1<=m /\ ∀ i,m-(e+1)<=i->i<m->kx κ z i=kx κ z (m-1)
theorem Alike.zero {z:SortSt}{m:Nat}(h:1<=m):Alike κ z m 0:=#[h,λi h1 h2=>by rw[show i=m-1 by lia]]
theorem desc (C:uH prog w A E s κ kd b) {z:SortSt}(g:SB kd b z) {a:Nat}(hn:n<=b.size) (h1:1<=a) (h2:a<=n) (d:Dn κ z a) {Q:DescSt->SortSt->zk}
 (q:∀ m e y,SB kd b y->a<=m->m<=n->Dn κ y m->Alike κ y m e->Q (ah,m,e) y):wpS zf A E s (descLoop a n) Q z:=by
 refine xG (I:=λm c y=>∃ e,c=(ah,m,e) /\ SB kd b y /\ Dn κ y m /\ Alike κ y m e) ?_ ?_ #[0,rfl,g,d,.zero h1]
 .intro m c y g1 g2 ⟨e,ec,gy,dy,al⟩;subst ec;have hm:m<=(arrOf y).size:=by rw[gy.len];lia
  refine cL<|ask C gy (show m<b.size by lia) (show m-1<b.size by lia) ?_;cases t:κ.blt _ _ with
  |true=>
    have d':=dy.more zb<|Ka t;dsimp only;by_cases he:e>0
    .rw[if_pos he];refine cL<|IT<|d9 #[0,rfl,gy.put<|IQ _ _ _ _,λi j c1 c2=>?_,.zero zb];rw[lX hm al.2,lX hm al.2];show d' i j c1 c2
    .rw[if_neg he];show d9 #[0,rfl,gy,d',.zero zb]
  |false=>
    dsimp only;rw[if_neg zg];refine cL<|ask C gy zb zb ?_;cases t2:κ.blt _ _ with
    |true=>show d9<|q m e y gy g1 zb dy al
    |false=>
      refine d9 #[e+1,rfl,gy,dy.more zb t2,by have:=al.1;lia,λi c1 c2=>?_];rw[show m+1-1=m by lia];by_cases hi:i=m
      .rw[hi]
      .rw[(acp t2 t)];show al.2 i zb zb
 .intro c y ⟨e,ec,gy,dy,al⟩;subst ec;rw[aba h2]at dy al ⊢;show q n e y gy h2 (aH n) dy al
theorem fall (C:uH prog w A E s κ kd b) {z:SortSt}(g:SB kd b z) {a:Nat}(hn:n<=b.size) (h2:a+1<=n) (d:Dn κ z<|a+1) {Q:Option Nat->SortSt->zk}(q:Ends prog w A E s κ kd b n Q) :
 wpS zf A E s (descPart a n) Q z:=by
 refine cL<|Xk<|qu #[rfl,cL<|desc C g hn (Nat.succ_pos a) h2 d λm e y gy m1 m2 dy al=>?_];by_cases he:e>0
 .rw[if_pos he];have hm:m<=(arrOf y).size:=by rw[gy.len];lia
  refine cL<|IT<|turned C (gy.put<|IQ _ _ _ _) hn zb m2 (λi j c1 c2=>?_) q;rw[lX hm al.2,lX hm al.2];show dy i j c1 c2
 .rw[if_neg he];show turned C gy hn zb m2 dy q
theorem count (C:uH prog w A E s κ kd b) {z:SortSt}(g:SB kd b z) (hn:n<=b.size) (h1:1<=n) {Q:Option Nat->SortSt->zk}(q:Ends prog w A E s κ kd b n Q) :
 wpS zf A E s (countRun' 0 n) Q z:=by
 rw[countRun0_eq];refine cL<|asc C g hn (aH 1) h1 (.one<|aH 1) λm m1 m2 um last=>?_;by_cases hm:m=n
 .rw[if_pos (by simp[hm])];show d9<|q m z g m1 m2 um
 rw[if_neg (by simp[hm])];have lt:=last zb;by_cases h3:m>1
 .rw[if_pos h3];refine cL<|ask C g zb zb ?_;cases t:κ.blt _ _ with
  |true=>show d9<|q m z g m1 m2 um
  |false=>
    dsimp only;have al:∀ k,0<=k->k<m->kx κ z k=kx κ z _:=λk _ hk=>
     acp (um k _ zb zb) (IZ t<|um 0 k (dR k) hk)
    have hz:m<=(arrOf z).size:=by rw[g.len];lia
    refine cL<|IT<|fall C (g.put<|IQ _ _ _ _) hn zb (λi j c1 c2=>?_) q;rw[lX hz al,lX hz al];have d0:Dn κ z m:=λi j c1 c2=>by rw[al i (dR _) zb,al j (dR _) c2];show xM _
    show d0.more m1 (Ka lt) i j c1 c2
 .rw[if_neg h3];obtain rfl:m=1:=by lia
  have d0:Dn κ z 1:=λi j c1 c2=>by
   obtain rfl:i=j:=by lia
   show xM _
  show fall C g hn zb (d0.more (aH 1)<|Ka lt) q
end
section
variable {s:aq} {κ:KeyKind} {kd:SortKind} {b:Array Keyed}
def Fits (κ:KeyKind) (z:SortSt) (k l r:Nat):zk:=(∀ i,i<l->κ.kle (kx κ z i) (kx κ z k)) /\ ∀ i,r<=i->i<k->κ.klt (kx κ z k) (kx κ z i)
theorem GQ {z:SortSt}{k l i:Nat}(hk:k<(arrOf z).size) (hl:l<=k):kx κ (setArr z<|bubble (arrOf z) k<|k-l) i=if i=l then kx κ z k else if l<i /\ i<=k then kx κ z (i-1) else kx κ z i:=by
 have e:=KK_bubble (κ:=κ) hk (Nat.sub_le k l) i;rw[show k-(k-l)=l by lia]at e;show e
theorem Up.insert {z:SortSt}{k l:Nat}(u:Up κ z k) (hk:k<(arrOf z).size) (hl:l<=k) (f:Fits κ z k l l):Up κ (setArr z<|bubble (arrOf z) k<|k-l) (k+1):=by
 intro i j c1 c2;rw[GQ hk hl,GQ hk hl];by_cases i1:i=l
 .rw[if_pos i1];by_cases j1:j=l
  .rw[if_pos j1];show xM _
  .rw[if_neg j1,if_pos #[by lia,by lia]];show Ka<|f.2 _ zb zb
 .rw[if_neg i1];by_cases i2:l<i /\ i<=k
  .rw[if_pos i2,if_neg zb,if_pos #[by lia,by lia]];show u _ _ zb zb
  .rw[if_neg i2];by_cases j1:j=l
   .rw[if_pos j1];show f.1 i zb
   .rw[if_neg j1];by_cases j2:l<j /\ j<=k
    .rw[if_pos j2];show u _ _ zb zb
    .rw[if_neg j2];show u _ _ c1 zb
theorem ah0 (C:uH prog w A E s κ kd b) {z:SortSt}(g:SB kd b z) {m:Nat}(hn:n<=b.size) (hm:m<=n) (u:Up κ z m) {Q:Bool->SortSt->zk}(q:∀ y,SB kd b y->Up κ y n->Q ag y) :
 wpS zf A E s (binarySort' 0 n m) Q z:=by
 rw[binarySort'_eq];erw[Q0];refine cL<|IU (Q:=λc y=>c=(ah,()) /\ SB kd b y /\ Up κ y n) (xG (I:=λk c y=>c=(ah,()) /\ SB kd b y /\ Up κ y (min k n)) ?_ ?_ ?_) ?_
 .intro k c y k1 k2 ⟨ec,gy,uy⟩;rw[Q2<|eX k2]at uy;have kb:k<b.size:=by lia
  refine cL<|IU (Q:=λc y'=>y'=y /\ ∃ l r,c=(ah,l,r) /\ l<=k /\ Fits κ y k l l) (xG (I:=λx c y'=>y'=y /\ ∃ l r,c=(ah,l,r) /\ l<=r /\ r<=k /\ r-l<=k-x /\ Fits κ y k l r) ?_ ?_<|#[rfl,0,k,rfl,dR k,aH k,aH _,λi hi=>absurd hi<|Q3 i,λi i1 i2=>absurd i2 zb]) ?_
  .intro x c y' _ x2 ⟨ey,l,r,ec,p1,p2,p3,f⟩;subst ey;subst ec;dsimp only;by_cases lr:l>=r
   .rw[if_pos lr];obtain rfl:l=r:=by lia
    show d9 #[rfl,l,l,rfl,p2,f]
   rw[if_neg lr];refine cL<|ask C gy kb zb ?_;cases t:κ.blt _ _ with
   |true=>show d9 #[rfl,l,(l+r) / 2,rfl,by lia,by lia,by lia,f.1,λi i1 i2=>KeyOrd.klt_of_klt_of_kle t<|uy _ _ i1 i2]
   |false=>show d9 #[rfl,(l+r) / 2+1,r,rfl,by lia,by lia,by lia,λi i1=>IZ (uy i _ zb zb) t,f.2]
  .intro c y' ⟨ey,l,r,ec,p1,p2,p3,f⟩;obtain rfl:l=r:=by lia
   show#[ey,l,l,ec,p2,f]
  .intro c y' ⟨ey,l,r,ec,p,f⟩;subst ey;subst ec;change wpS _ _ _ _ _ _ _;rw[moveDown'_eq];refine cL<|Xl<|d9 #[rfl,gy.put<|bubble_perm _ _ _,?_];rw[Q2 k2];show uy.insert (by rw[gy.len];show kb) p f
 .intro c y ⟨ec,gy,uy⟩;rw[show min _ n=n by lia]at uy;show#[ec,gy,uy]
 .refine#[rfl,g,?_];rcases xp m 1 with m0|m0
  .show .one zb
  .rw[show min (max m 1) n=m by lia];show u
 .intro c y ⟨ec,gy,uy⟩;subst ec;show d9<|q y gy uy
def KZ (κ:KeyKind) (b:Array Keyed) (y:SortSt):zk:=(arrOf y).Perm b /\ failedOf y=ah /\ pendingOf y=(List.toArray [(0,b.size,0)]) /\ Up κ y b.size
theorem SB.fin {y:SortSt}(g:SB kd b y) (u:Up κ y b.size):KZ κ b (setPending y<|(pendingOf y).push (0,b.size,0)):=#[g.pm,g.fl,by rw[g.pn];rfl,u]
theorem runs (C:uH prog w A E s κ kd b) {z:SortSt}(g:SB kd b z) (h2:2<=b.size) (di:b.size<64) {Q:Unit->SortSt->zk}(q:∀ y,(arrOf y).Perm b->failedOf y=ah->Up κ y b.size->Q () y) :
 wpS zf A E s sortRuns' Q z:=by
 have mr:minRun' b.size b.size 0=b.size:=by
  let#[f,e]:=Nat.exists_eq_add_of_lt (show 0<b.size by lia);have:minRun' (0+f+1) b.size 0=b.size:=by rw[minRun'_succ,if_pos di];rfl
  rw[<-e]at this;show this
 rw[sortRuns'_eq];refine cL<|xF ?_;dsimp only;erw[g.len,mr];refine cL (IU (Q:=λc y=>c=(ah,b.size) /\ KZ κ b y)
  (xG (I:=λx c y=>if x=0 then c=(ah,0) /\ SB kd b y else c=(ah,b.size) /\ KZ κ b y) ?_ ?_ (by rw[if_pos rfl];show#[rfl,g])) ?_)
 .intro x c y _ x2 I;by_cases x0:x=0
  .rw[if_pos x0]at I;let#[ec,gy]:=I;subst ec;subst x0;dsimp only;rw[if_neg zb];erw[QZ,Nat.min_self,Q0];have fin:∀ y',SB kd b y'->Up κ y' b.size->(if (1)=0 then ((ah:Option PUnit),b.size)=(ah,0) /\ SB kd b (setPending y'<|(pendingOf y').push (0,b.size,0)) else ((ah:Option PUnit),b.size)=(ah,b.size) /\ KZ κ b _):=
    λy' g' u'=>by rw[if_neg zb];show#[rfl,g'.fin u']
   refine cL<|count C gy (aH _) zb λm y1 g1 m1 m2 u1=>?_;dsimp only;by_cases lt:m<b.size
   .rw[if_pos lt];refine cL<|Xk<|qu #[rfl,cL<|ah0 C g1 (aH _) m2 u1 λy3 g3 u3=>?_];rw[if_neg zg];refine cL<|xF ?_;rw[show (pendingOf y3).back?=ah by rw[g3.pn];rfl];show cL<|Xl<|d9<|fin y3 g3 u3
   .rw[if_neg lt];obtain rfl:m=b.size:=by lia
    refine cL<|xF ?_;rw[show (pendingOf y1).back?=ah by rw[g1.pn];rfl];show cL<|Xl<|d9<|fin y1 g1 u1
  .rw[if_neg x0]at I;let#[ec,fy]:=I;subst ec;dsimp only;rw[if_pos<|aH _];show d9 #[rfl,fy]
 .intro c y I;rw[if_neg zb]at I;show I
 .intro c y ⟨ec,fy⟩;subst ec;dsimp only;refine cL (IU (xG (I:=λ_ c y'=>y'=y /\ c=(ah,())) ?_ (λ_ _ h=>h) #[rfl,rfl]) ?_)
  .intro x c y' _ _ ⟨e1,e2⟩;subst e1;subst e2;refine cL<|xF ?_;rw[if_pos (by rw[fy.2.2.1];show aH 1)];show d9 #[rfl,rfl]
  .intro c y' ⟨e1,e2⟩;subst e1;subst e2;show d9<|q _ fy.1 fy.2.1 fy.2.2.2
end
theorem jm:∀ a,lexLt a a=af
 |[]=>rfl
 |x::a=>by rw[gD,if_pos rfl];show jm a
theorem lJ:∀ a b c,lexLt a b=ag->lexLt b c=ag->lexLt a c=ag
 |[],[],_,h,_=>by cases h
 |[],_::_,[],_,h=>by cases h
 |[],_::_,_::_,_,_=>rfl
 |_::_,[],_,h,_=>by cases h
 |_::_,_::_,[],_,h=>by cases h
 | x::a,y::b,z::c,h,g=>by
   rw[gD]at *;by_cases e1:x=y
   .subst e1;rw[if_pos rfl]at h;by_cases e2:x=z
    .subst e2;rw[if_pos rfl]at g ⊢;show lJ a b c h g
    .rw[if_neg e2]at g ⊢;show g
   .rw[if_neg e1]at h;by_cases e2:y=z
    .subst e2;rw[if_neg e1];show h
    .rw[if_neg e2]at g;rw[if_neg zb];show decide_eq_true zb
theorem jn:∀ a b,lexLt a b=af->lexLt b a=af->a=b
 |[],[],_,_=>rfl
 |[],_::_,h,_=>by cases h
 |_::_,[],_,h=>by cases h
 | x::a,y::b,h,g=>by
   rw[gD]at *;by_cases e:x=y
   .subst e;rw[if_pos rfl]at h g;rw[jn a b h g]
   .lia
theorem Ca (a b c:List Int) (h:lexLt a c=ag):lexLt a b=ag \/ lexLt b c=ag:=by
 cases e:lexLt a b with
 |true=>show .inl zj
 |false=>
   refine .inr ?_;cases f:lexLt b a with
   |true=>show lJ b a c f h
   |false=>rw[<-jn a b e f];show h
section
variable {s:aq}
theorem FP {x y:Int}{t u:Tok}(k:Bool) {Q:Bool->aq->zk}(h:Q (decide (x<y)) s):wpAny zf A (oneLt' k (.int x t)<|.int y u) Q E s:=by
 cases k with
 |true=>show oneLt_int h
 |false=>
   show ak<|(abW<|qt h)
theorem CO (f:Bool) (x y:aj):keyLt' (tuples' f) x y=(do
 let xs <-Builtin.List.listItems x
 let ys <-Builtin.List.listItems y
 for ((p,q),i) in (xs.toList.zip ys.toList).zipIdx do
  if !(<-eqBool p q) then return <-oneLt' (f&&i==0) p q
 return decide (xs.size<ys.size)):=rfl
end
structure KP (P:aE->aj->List Int->zk):zk where
 inj:∀ {h:aE}{v:aj}{ns ms:List Int},P h v ns->P h v ms->ns=ms
 push:∀ {h:aE}{v:aj}{ns:List Int},P h v ns->∀ o:aV,P (h.push o) v ns
 upd:∀ {h:aE}{v:aj}{ns:List Int},P h v ns->∀ {l:ai}{xs:Array aj}{n:Nat},h.get? l=ae (seqObj "list" xs n)->∀ f:aV->aV,P (h.update l f) v ns
section
variable {s:aq} {P:aE -> aj -> List Int -> zk} (KQ:KP P)
open Classical in
noncomputable def uI (P:aE->aj->List Int->zk) (h:aE):KeyKind where
 α:=List Int
 blt:=lexLt
 irrefl:=jm
 trans:=lJ
 negTrans:=Ca
 total:=jn
 keyOf v:=if p:∃ ns,P h v ns then ae p.choose else ah
 dflt:=[]
include KQ in
open Classical in
theorem Aw {h:aE}{v:aj}(p:P h v ns):((uI P h).keyOf v).getD []=ns:=by
 have e:∃ ns,P h v ns:=#[ns,p];change (if p:∃ ns,P h v ns then ae p.choose else ah).getD []=ns;rw[dif_pos e];show KQ.inj e.choose_spec p
def vA (P:aE->aj->List Int->zk) (h:aE) (vs:List aj):zk:=vs.Pairwise λx y=>∀ ns ms,P h x ns->P h y ms->lexLt ms ns=af
def Zz (P:aE->aj->List Int->zk) (prog:cG) (w:bH) (U:Nat) (s:aq) (vs:List aj):zk:=∀ (A:cE) (h':aE),A.units<=U->(∀ v ns,P s.heap v ns->P h' v ns) ->
 (∀ {Q:SortKind->aq->zk}{E:aj->aq->zk},Q (tuples' ag) { s with heap:=h' }->wpAny zf A (keyKind' vs.toArray) Q E { s with heap:=h' }) /\ ∀ E,uH prog w A E { s with heap:=h' } (uI P h') (tuples' ag) (pairsOf vs)
include KQ
theorem MP {h:aE}(H:∀ v∈vs,∃ ns,P h v ns) (up:∀ v ns,P h v ns->P h' v ns) {z:SortSt}(pm:(arrOf z).Perm<|pairsOf vs) (u:Up (uI P h') z (pairsOf vs).size) :
 ((arrOf z).map (·.2)).toList.Perm vs /\ vA P h ((arrOf z).map (·.2)).toList:=by
 have hl:(arrOf z).toList.Perm (vs.zip vs):=by rw[<-abX];show Array.perm_iff_toList_perm.mp pm
 have me:∀ p∈(arrOf z).toList,p.1=p.2 /\ p.1∈vs:=λp hp=>Xm<|hl.mem_iff.mp hp;rw[Array.toList_map];constructor
 .have:=hl.map (·.2);rw[Xb<|aH _]at this;show this
 .unfold vA;rw[ub,List.pairwise_iff_getElem];intro i j hi hj EF ns ms p q;have yh:j<(arrOf z).size:=by simpa using hj
  have g:=u i j (eX EF) (by rw[<-pm.size_eq];show yh);have ki:kx (uI P h') z i=ns:=by
   simp[KK,getElem?_pos (arrOf z) i (by simpa using hi)];rw[abZ,<-(me _ zg).1]at p;show Aw KQ<|up _ _ p
  have kj:kx (uI P h') z j=ms:=by
   simp[KK,getElem?_pos (arrOf z) j yh];rw[abZ,<-(me _ zg).1]at q;show Aw KQ<|up _ _ q
  rw[ki,kj]at g;show g
theorem GR {R:Fin->aq->zk}(ho:s.heap.get? a=ae (seqObj "list" vs.toArray n)) (H:∀ v∈vs,∃ ns,P s.heap v ns) {U:Nat}(hU:A.units<=U) (S:vs≠[]->Zz P prog w U s vs) (di:vs.length<64)
 (h:∀ out:Array aj,out.toList.Perm vs->vA P s.heap out.toList->R (.done<|.ret .none) { s with heap:=sortedHeap s.heap a vs out }):wpAny zf A (Builtin.«list.sort» #[[.ref a],[]]) R E s:=by
 rw[list_sort_plain];have la:a<s.heap.objs.size:=ba ho;refine ak<|xE ho zj<|ak<|IG ho zj ?_;obtain⟨k,Ht⟩:∃ k,(s.heap.update a<|Obj.mapSeq λ_=>#[]).get? a=ae (seqObj "list" #[] k):=#[_,abS ho λ_=>#[]];refine ak<|Xn Ht zj<|ak<|QT<|ak<|xm<|eU ?_;generalize eh:((s.heap.update a<|Obj.mapSeq λ_=>#[]).push<|seqObj "tuple" vs.toArray 0).push (seqObj "list" #[] 0)=h6;have up:∀ v ns,P s.heap v ns->P h6 v ns:=λv ns p=>eh▸KQ.push (KQ.push (KQ.upd p ho _) _) _;have K0:h6.get? a=ae (seqObj "list" #[] k):=by
  rw[<-eh];show aS _<|aS _ Ht
 have fin:∀ out:Array aj,out.toList.Perm vs->vA P s.heap out.toList->R (.done<|.ret .none) { s with heap:=h6.update a (Obj.mapSeq λ_=>out) }:=λout p q=>by
  rw[<-eh];show h out p q
 change wpAny zf A _ R E { s with heap:=h6 };dsimp only;have big:vs.length<=sizeLine+1:=by rw[bC];lia
 by_cases h2:vs.toArray.size<2
 .rw[if_pos h2,if_pos h2];refine ak<|ay ?_;rw[StateT.run_pure];refine ak<|ay ?_;dsimp only;have em:(Array.map (λx=>x.2)<|vs.toArray.zip vs.toArray)=vs.toArray:=by
   apply Array.toList_inj.mp;simp[Xb]
  rw[em];refine ak<|Xn K0 zj<|ak<|IG K0 zj ?_ (hsz2:=by rw[bU];show big);rw[bne_self_eq_false];refine ay<|fin vs.toArray (List.Perm.refl _) ?_;rw[bU]at h2;unfold vA;show L2.T9 h2
 .rw[if_neg h2,if_neg h2];rw[bU]at h2;have ne:vs≠[]:=λe=>by rw[e]at h2;simp at h2
  have H6:∀ v∈vs,∃ ns,P h6 v ns:=λv m=>let ⟨ns,p⟩:=H v m;#[ns,up v ns p]
  refine ak<|(S ne A h6 hU up).1 ?_;refine ak<|kn (runs (s:={ s with heap:=h6 }) (κ:=uI P h6) (kd:=tuples' ag) (b:=pairsOf vs) (z:=SortSt.mk' (tuples' ag) (vs.toArray.zip vs.toArray) #[] 7 ah)
   (Q:=λ_ y=>(arrOf y).Perm (pairsOf vs) /\ failedOf y=ah /\ Up (uI P h6) y (pairsOf vs).size) ((S ne A h6 hU up).2 _) #[Array.Perm.refl _,rfl,rfl,rfl] (by rw[Xo];lia) (by rw[Xo];show di) λy a1 a2 a3=>#[a1,a2,a3]) ?_ λ_ _ e=>e
  rintro⟨⟨⟩,y⟩ s' ⟨es,pm,fl,u⟩;subst es;dsimp only;let#[o1,o2]:=MP KQ H up pm u;refine ak<|Xn K0 zj<|ak<|IG K0 zj ?_ (hsz2:=by rw[Array.size_map,pm.size_eq,Xo];show big);rw[fl,bne_self_eq_false];show ay<|fin _ o1 o2
theorem J1 {l:ai}(hl:∀ (A:cE) {Q:List aj->aq->zk},Q vs { s with heap:=(s.heap.push<|seqObj "list" #[] 0).update s.heap.objs.size (Obj.mapSeq (·++vs.toArray)) }->wpAny zf A (collect<|.ref l) Q E s) (H:∀ v∈vs,∃ ns,P s.heap v ns) {U:Nat}(hU:A.units+8<=U) (S:vs≠[]->Zz P prog w U s vs) (di:vs.length<64)
 (h:∀ out:Array aj,out.toList.Perm vs->vA P s.heap out.toList->Q (.ref zF) { s with heap:=sortedAll s.heap vs out }):wpAny zf A (call (.builtin "sorted") [.ref l]) Q E s:=by
 refine Kb IH II IJ (IK _) ?_;refine ak<|ay<|ak<|hl _<|ak<|xm ?_;generalize eg:(s.heap.push<|seqObj "list" #[] 0).update s.heap.objs.size (Obj.mapSeq (·++vs.toArray))=g;have sg:g.objs.size=s.heap.objs.size+1:=by rw[<-eg,abj,uf]
 have up:∀ v ns,P s.heap v ns->P (g.push<|seqObj "list" vs.toArray 0) v ns:=λv ns p=>by
  rw[<-eg];show KQ.push (KQ.upd (KQ.push p _) (bA _ zj) _) _
 have gl:(g.push<|seqObj "list" vs.toArray 0).get? zF=ae (seqObj "list" vs.toArray 0):=by rw[<-sg];show bA _ zj
 rw[sg];refine ak<|eU<|eW IL #[_,gl,rfl] IM (GR KQ gl (λv m=>let ⟨ns,p⟩:=H v m;#[ns,up v ns p]) zb (λne A h2 hu k=>S ne A h2 hu λv ns p=>k v ns<|up v ns p) di λout o1 o2=>#[_,rfl,ay #[_,rfl,?_]])<|IP _;have:=h out o1<|List.Pairwise.imp (λ{x y} r ns ms p q=>r ns ms (up _ _ p)<|up _ _ q) o2;unfold sortedAll at this;rw[eg]at this;show this
omit KQ
end
end HT
namespace L2.DL
theorem DD:∀ {rs:List ai}{us:List aj},Vals (rs.map V.ref) us->us=rs.map Value.ref
 |[],_,.nil=>rfl
 | r::rs,_,.cons q t=>by
   cases q;rw[DD t];rfl
end L2.DL
namespace HT
inductive aI where
 |i (n:Int)|s (x:Str)
 deriving DecidableEq
noncomputable def aI.code:aI->List Int
 |.i n=>[n]
 |.s x=>x.cps.toList.map (λ(c:Nat)=>(c:Int)+1)++[0]
noncomputable def aI.nM:aI->aI->Bool
 |.i _,.i _=>ag
 |.s _,.s _=>ag
 |_,_=>af
def bh (l:List aI):List Int:=l.flatMap (λd=>1::d.code)++[0]
def eP (l m:List aI):Bool:=(l.zip m).all λp=>p.1.nM p.2
theorem DH (r q:List Int):∀ (a b:List Nat),a≠b->lexLt ((a.map λ(c:Nat)=>(c:Int)+1)++[0]++r) ((b.map λ(c:Nat)=>(c:Int)+1)++[0]++q)=decide (a<b)
 |[],[],h=>absurd zj h
 | [],y::b,_=>by
   change lexLt (0::_) (((y)+1)::_)=_;rw[gD,if_neg zb,decide_eq_true zb,decide_eq_true zg]
 | x::a,[],_=>by
   change lexLt (((x)+1)::_) (0::_)=_;rw[gD,if_neg zb,decide_eq_false zb,decide_eq_false zg]
 | x::a,y::b,h=>by
   change lexLt (((x)+1)::_) (((y)+1)::_)=_;rw[gD];by_cases e:x=y
   .subst e;rw[if_pos rfl];refine(DH r q a b λz=>h (by rw[z])).trans ?_;by_cases c:a<b
    .rw[decide_eq_true c,decide_eq_true (by simpa using c)]
    .rw[decide_eq_false c,decide_eq_false (by simpa using c)]
   .rw[if_neg zb];by_cases c:x<y
    .rw[decide_eq_true zb,decide_eq_true<|List.cons_lt_cons_iff.mpr<|.inl c]
    .rw[decide_eq_false zb,decide_eq_false ?_];intro z;rcases List.cons_lt_cons_iff.mp z with z|z
     .lia
     .lia
noncomputable def aI.lt:aI->aI->Bool
 |.i n,.i m=>decide (n<m)
 |.s x,.s y=>decide (x.cps.toList<y.cps.toList)
 |_,_=>af
theorem aI.app (r q:List Int):∀ {a b:aI},a.nM b=ag->a≠b->lexLt (a.code++r) (b.code++q)=a.lt b
 | .i n,.i m,_,h=>by
   change lexLt (n::r) (m::q)=_;rw[gD,if_neg λz=>h (by rw[z])];rfl
 |.s x,.s y,_,h=>DH r q _ _ λz=>h (by
  let#[#[a]]:=x;let#[#[b]]:=y;have z':a=b:=z;rw[z'])
theorem MQ (a r q:List Int):lexLt (a++r) (a++q)=lexLt r q:=by
 induction a with
 |nil=>rfl
 |cons x a ih=>rw[Q9,Q9,gD,if_pos rfl,ih]
def cD:List aI->List aI->Bool
 |[],m=>!m.isEmpty
 |_::_,[]=>af
 |a::l,b::m=>if a=b then cD l m else a.lt b
theorem Ax:∀ (l m:List aI),eP l m=ag->lexLt (bh l) (bh m)=cD l m
 |[],[],_=>rfl
 | [],b::m,_=>by
   change lexLt _ _=_;rfl
 | a::l,[],_=>by
   change lexLt _ _=_;rfl
 | a::l,b::m,h=>by
   have h':(a.nM b&&eP l m)=ag:=h;rw[aL]at h';have e1:bh (a::l)=1::(a.code++bh l):=by simp[bh]
   have e2:bh (b::m)=1::(b.code++bh m):=by simp[bh]
   rw[e1,e2,gD,if_pos rfl];unfold cD;by_cases c:a=b
   .rw[if_pos c,c,MQ];show Ax l m h'.2
   .rw[if_neg c];show aI.app _ _ h'.1 c
noncomputable def nN (h:aE) (v:aj):aI->zk
 |.i n=>∃ t,v=.int n t
 |.s x=>∃ t,v=.str x t
inductive dY (h:aE):List aj->List aI->zk
 |nil:dY h [] []
 |cons {v:aj}{d:aI}{vs:List aj}{l:List aI}:nN h v d->dY h vs l->dY h (v::vs) (d::l)
def rM (L:List<|List aI) (h:aE) (v:aj) (ns:List Int):zk:=∃ a vs n l,v=.ref a /\ IsTup h a vs.toArray /\ dY h vs (.i n::l) /\ .i n::l∈L /\ ns=bh (.i n::l)
theorem nN.inj {h:aE}{v:aj}:∀ {a b:aI},nN h v a->nN h v b->a=b
 |.i n,.i m,⟨t,e⟩,⟨u,f⟩=>by rw[e]at f;cases f;rfl
 |.s n,.s m,⟨t,e⟩,⟨u,f⟩=>by rw[e]at f;cases f;rfl
 |.i n,.s m,⟨t,e⟩,⟨u,f⟩=>by rw[e]at f;cases f
 |.s n,.i m,⟨t,e⟩,⟨u,f⟩=>by rw[e]at f;cases f
theorem dY.inj {h:aE}{vs:List aj}{l m:List aI}(p:dY h vs l) (q:dY h vs m):l=m:=by
 induction p generalizing m with
 |nil=>cases q;rfl
 |cons a _ ih=>cases q with|cons b q=>rw[a.inj b,ih q]
theorem nN.keep {h:aE}{v:aj}{d:aI}(p:nN h v d):nN h' v d:=by
 cases d with
 |i n=>show p
 |s x=>show p
theorem dY.keep {h h':aE}{vs:List aj}{l:List aI}(p:dY h vs l):dY h' vs l:=by
 induction p with
 |nil=>show .nil
 |cons a _ ih=>show .cons a.keep ih
theorem MR {h:aE}(o:aV):∀ a vs,IsTup h a vs->IsTup (h.push o) a vs:=λa vs ⟨u,e1,e2⟩=>#[u,aS _ e1,e2]
theorem PY {h:aE}{l:ai}{xs:Array aj}(hl:h.get? l=ae (seqObj "list" xs n)) (f:aV->aV):∀ a vs,IsTup h a vs->IsTup (h.update l f) a vs:=λa vs ⟨u,e1,e2,e3⟩=>by
 refine#[u,?_,e2,e3];by_cases q:l=a
 .subst q;rw[hl]at e1;cases e1;injection (e2) with e4;show absurd e4 zc
 .rw[Heap.get?_update_ne _ _ _ _<|Ne.symm q];show e1
theorem cP (L:List<|List aI):KP (rM L) where
 inj:=by
  rintro h v ns ms ⟨a,vs,n,l,rfl,⟨o,e1,_,k,e2⟩,i1,_,rfl⟩ ⟨a',EZ,n',l',e,⟨o',f1,_,k',f2⟩,i2,_,rfl⟩;cases e;rw[e1]at f1;cases f1;rw[e2]at f2;injection f2 with g _;have:vs=EZ:=by simpa using g
  subst this;rw[i1.inj i2]
 push:=λ⟨a,vs,n,l,e,t,i,m,c⟩ o=>#[a,vs,n,l,e,MR o _ _ t,i.keep,m,c]
 upd:=λ⟨a,vs,n,l,e,t,i,m,c⟩ _ _ _ hl f=>#[a,vs,n,l,e,PY hl f _ _ t,i.keep,m,c]
section
variable {s:aq}
theorem Wx {v:aj}{a b:aI}(hu:A.units<cLine) (p:nN s.heap v a) (q:nN s.heap u b) (hl:a.nM b=ag) {Q:Bool->aq->zk}(h:Q (decide (a=b)) s):wpAny zf A (eqBool v u) Q E s:=by
 cases a with
 |i n=>
   cases b with
   |i m=>
     let#[t,rfl]:=p;let#[t',rfl]:=q;refine aaz ?_;rw[show (n==m)=decide (aI.i n=aI.i m) by by_cases e:n=m<;>simp[e]];show h
   |_=>cases hl
 |s x=>
   cases b with
   |s y=>
     let#[t,rfl]:=p;let#[t',rfl]:=q;refine XI x t y t' prog w E Q ?_;rw[show (x==y)=decide (aI.s x=aI.s y) by by_cases e:x=y<;>simp[e]];show h
   |_=>cases hl
theorem Wy {v:aj}{a b:aI}(hu:A.units<cLine) (k:Bool) (hk:k=ag->∃ n,a=.i n) (p:nN s.heap v a) (q:nN s.heap u b) (hl:a.nM b=ag) {Q:Bool->aq->zk}(h:Q (a.lt b) s):wpAny zf A (oneLt' k v u) Q E s:=by
 have gen:∀ {v u}{c},k=af->(∀ {R},R (.bool c) s->wpAny _ A (compareOp .Lt v u) R E s)->Q c s->wpAny zf A (oneLt' k v u) Q E s:=λ{v u c} z f h=>by
  rw[oneLt'_eq,z,if_neg zg];show ak<|f<|qt h
 cases a with
 |i n=>
   cases b with
   |i m=>let#[t,rfl]:=p;let#[t',rfl]:=q;show FP k h
   |_=>cases hl
 |s x=>
   cases b with
   |s y=>let#[t,rfl]:=p;let#[t',rfl]:=q;show gen (by cases k with|true=>let#[n,e]:=hk zj;cases e|false=>rfl) (λr=>lt_str r) h
   |_=>cases hl
theorem dY.length {h:aE}{vs:List aj}{l:List aI}(p:dY h vs l):vs.length=l.length:=by
 induction p with
 |nil=>rfl
 |cons _ _ ih=>rw[bw,bw,ih]
theorem PZ (hu:A.units<cLine) {l m:List aI}(p:dY s.heap vs l) (q:dY s.heap us m) (hl:eP l m=ag) (i:Nat) (h0:i=0->∀ d r,l=d::r->∃ n,d=.i n) {R:(Option Bool×PUnit)->aq->zk}
 (k:∀ r,(r=(ae<|cD l m,PUnit.unit) \/ (r=(ah,PUnit.unit) /\ cD l m=decide (vs.length<us.length)))->R r s) :
 wpAny zf A (forIn ((vs.zip us).zipIdx i) ((ah,PUnit.unit):Option Bool×PUnit) λ(z:(aj×aj)×Nat) _=>(do
  let z1 <-eqBool z.1.1 z.1.2
  if (!z1)=ag then do
   let r <-oneLt' (ag&&z.2==0) z.1.1 z.1.2
   pure (ForInStep.done (ae r,PUnit.unit))
  else pure (ForInStep.yield (ah,PUnit.unit)))) R E s:=by
 induction p generalizing us m i with
 |nil=>
   refine ay<|k _<|.inr #[rfl,?_];cases q with
   |nil=>rfl
   |cons _ q=>unfold cD;simp
 |@cons v d vs l pa p ih=>
   cases q with
   |nil=>
     show ay<|k _ (.inr #[rfl,by unfold cD;simp])
   |@cons u e us m qa q=>
     have nJ:(d.nM e&&eP l m)=ag:=hl;rw[aL]at nJ;rw[vY,Xa,xq];refine ak<|ak<|Wx hu pa qa nJ.1 ?_;by_cases c:d=e
     .subst c;rw[if_neg zg];refine ay<|ih q nJ.2 _ (λz=>by lia) λr hr=>k r ?_;have:cD (d::l) (d::m)=cD l m:=by conv=>lhs;unfold cD;rw[if_pos rfl]
      rw[this];rcases hr with hr|⟨hr,Hu⟩
      .show .inl hr
      .show .inr #[hr,by rw[Hu];simp]
     .rw[if_pos (by simp[c])];refine ak (Wy hu _ (λz=>?_) pa qa nJ.1<|ay<|ay<|k _<|.inl ?_)
      .have:i=0:=by simpa using z
       show h0 this d l zj
      .have:cD (d::l) (e::m)=d.lt e:=by conv=>lhs;unfold cD;rw[if_neg c]
       rw[this]
theorem Cb {L:List (List aI)}(C:∀ l∈L,∀ m∈L,eP l m=ag) {U:Nat}(hU:U<cLine) (H:∀ v∈vs,∃ ns,rM L s.heap v ns) (ne:vs≠[]):Zz (rM L) prog w U s vs:=λA h' hu up=>by
 have H':∀ v∈vs,∃ ns,rM L h' v ns:=λv m=>let ⟨ns,p⟩:=H v m;#[ns,up v ns p]
 refine#[λ{Q E} h=>?_,λE=>?_]
 .have ah1:∀ (us:List aj),(∀ v∈us,∃ ns,rM L h' v ns)->∀ {Q}{E},(∀ (ws) (is),ws.length=us.length->IntsAre ws is->Q (ws.map ae) { s with heap:=h' })->wpAny zf A (us.mapM firstOfTuple') Q E { s with heap:=h' }:=by
   intro us;induction us with
   |nil=>intro _ Q E k;rw[List.mapM_nil];show ay<|k [] [] zj .nil
   |cons u us ih=>
     intro G Q E k;let#[ns,a,xs,n,l,rfl,#[o,e1,e3,c,e2],it,_,_]:=G u<|bN ..;rw[List.mapM_cons];refine ak<|?_;refine ak<|vQ #[o,e1,e3] ?_;rw[if_neg zc];refine ak<|xE e1 e2<|ay ?_;cases it with
     |cons hv _=>
       let#[t,rfl]:=hv;show ak<|ih (λv m=>G v<|bG _ m) λws is e q=>ay<|k _ _ (by simp[e])<|.cons n t q
  rw[keyKind'_eq,abx];refine ak<|?_;rw[<-bind_pure_comp];refine ak<|ah1 vs H' λus is e k=>ay ?_;rw[if_pos zg];refine ak<|qu ?_;have e1:((us.map ae).toArray.filterMap id)=us.toArray:=by simp
  rw[e1,oneTypeOnly'_eq,abx,mapM_typeOf_ints k];cases us with
  |nil=>show absurd (xw e.symm) ne
  |cons u us=>
    erw[map_pure,pure_bind];rw[show ((u::us).map λ_=>Value.type "int").toArray[0]?=ae (Value.type "int") by simp];dsimp only;rw[if_pos zg];show ak<|ay<|ay h
 .intro x y mx my Q E' q;rw[abX]at mx my;let#[ns,hx]:=H' _ (Xm mx).2;let#[ms,hy]:=H' _ (Xm my).2
  change Q (lexLt (((uI (rM L) h').keyOf x.1).getD [])<|((uI (rM L) h').keyOf y.1).getD []) _ at q
  rw[(Aw (cP L) hx),(Aw (cP L) hy)]at q;let#[a,akU,n1,l1,e1,#[o1,x1,x2,c1,x3],i1,m1,rfl]:=hx;let#[b,Ha,n2,l2,e2,#[o2,y1,y2,c2,y3],i2,m2,rfl]:=hy;have lk:=C _ m1 _ m2;rw[Ax _ _ lk]at q;rw[e1,e2,CO];refine ak<|xE x1 x3<|ak<|xE y1 y3 ?_;refine ak<|PZ (Et hu hU) i1 i2 lk 0 (λ_ d r z=>by cases z;show#[n1,rfl]) λr hr=>?_;rcases hr with rfl|⟨rfl,e⟩
  .show ay q
  .refine ay ?_;rw[bU,bU,<-e];show q
end
end HT
namespace L2.DL
open HT (aI bh eP lexLt)
noncomputable def K3:D->Option aI
 |.int i=>ae<|.i i
 |.str x=>ae<|.s x
 |_=>ah
noncomputable def kQ:aI->D
 |.i n=>.int n
 |.s x=>.str x
def tU:List D->Option (List aI)
 |[]=>ae []
 |d::l=>(K3 d).bind λa=>(tU l).map λr=>a::r
def rowOf:D->Option (List aI)
 |.tup (.int i::l)=>(tU l).map λr=>.i i::r
 |_=>ah
def rowsOf:List D->Option (List<|List aI)
 |[]=>ae []
 |d::l=>(rowOf d).bind λa=>(rowsOf l).map λr=>a::r
def dO (l:List aI):D:=.tup<|l.map kQ
theorem P0 {d:D}{a:aI}(e:K3 d=ae a):d=kQ a:=by
 cases d with
 |int i=>cases e;rfl
 |str x=>cases e;rfl
 |_=>cases e
theorem A7:∀ {l:List D}{r:List aI},tU l=ae r->l=r.map kQ:=by
 intro l_;induction l_ with
 |nil=>(intro _ e;cases e;rfl)
 |cons d l aD=>
   intro r e;unfold tU at e;cases q:K3 d with
   |none=>rw[q]at e;cases e
   |some a=>
     cases q2:tU l with
     |none=>rw[q,q2]at e;cases e
     |some t=>rw[q,q2]at e;cases e;rw[P0 q,aD q2];rfl
theorem MS {d:D}{r:List aI}(e:rowOf d=ae r):d=dO r /\ ∃ n l,r=.i n::l:=by
 unfold rowOf at e;split at e
 .ext i l;cases q:tU l with
  |none=>rw[q]at e;cases e
  |some t=>rw[q]at e;cases e;rw[A7 q];show#[rfl,i,t,rfl]
 .cases e
theorem Cc:∀ {l:List D}{rs:List (List aI)},rowsOf l=ae rs->l=rs.map dO /\ ∀ r∈rs,∃ n l,r=.i n::l:=by
 intro l_;induction l_ with
 |nil=>(intro _ e;cases e;show#[rfl,λr m=>nomatch m])
 |cons d l aD=>
   intro rs e;unfold rowsOf at e;cases q:rowOf d with
   |none=>rw[q]at e;cases e
   |some a=>
     cases q2:rowsOf l with
     |none=>rw[q,q2]at e;cases e
     |some t=>
       rw[q,q2]at e;cases e;let#[h1,h2]:=MS q;let#[h3,h4]:=aD q2;refine#[by rw[h1,h3];rfl,λr m=>?_];rcases bz.mp m with rfl|m
       .show h2
       .show h4 r m
def n8 (rs:List<|List aI):List (List aI):=rs.mergeSort λa b=>!lexLt (bh b) (bh a)
theorem iX (rs:List<|List aI):(n8 rs).Perm rs:=abt rs _
theorem iQ (rs:List<|List aI):(n8 rs).Pairwise (λa b=>lexLt (bh b) (bh a)=af):=(abu (le:=λa b:List aI=>!lexLt _ (bh a)) (λa b c h1 h2=>by
 cases e:lexLt _ (bh a) with
 |false=>rfl
 |true=>
   rcases HT.Ca _ _ _ e with z|z
   .rw[z]at h2;cases h2
   .rw[z]at h1;cases h1) (λa b=>by
 rw[vW,pz,pz];cases e:lexLt _ (bh a) with
 |false=>show .inl zj
 |true=>
   cases f:lexLt _ (bh b) with
   |false=>show .inr zj
   |true=>have:=HT.lJ _ _ _ e f;rw[HT.jm]at this;cases this) rs).imp λ{a b} z=>by simpa using z
theorem J2 {a b:aI}(h:a.nM b=ag):b.nM a=ag:=by cases a<;>cases b<;>first|rfl|cases h
theorem A8:∀ {a b:List Nat},¬ a<b->¬ b<a->a=b
 |[],[],_,_=>rfl
 |[],y::b,h,_=>absurd zg h
 |x::a,[],_,h=>absurd zg h
 | x::a,y::b,h,g=>by
   rw[List.cons_lt_cons_iff]at h g;have e:x=y:=by
    rcases Nat.lt_trichotomy x y with z|z|z
    .show absurd (.inl z) h
    .show z
    .show absurd (.inl z) g
   subst e;rw[A8 (λz=>h<|.inr #[rfl,z]) λz=>g<|.inr #[rfl,z]]
theorem UT:∀ {a b:aI},a.nM b=ag->a.lt b=af->b.lt a=af->a=b
 | .i n,.i m,_,h,g=>by
   have h':=of_decide_eq_false h;have g':=of_decide_eq_false g;rw[show n=m by lia]
 | .s x,.s y,_,h,g=>by
   have:=A8 (of_decide_eq_false h)<|of_decide_eq_false g;let#[#[a]]:=x;let#[#[b]]:=y;have z':a=b:=this;rw[z']
theorem code_inj:∀ {l m:List aI},eP l m=ag->bh l=bh m->l=m
 |[],[],_,_=>rfl
 | [],b::m,_,e=>by
   have e':([0])=1::(b.code++bh m):=by rw[show (1::(b.code++bh m))=bh (b::m) by simp[bh]];show e
   simp at e'
 | a::l,[],_,e=>by
   have e':1::(a.code++bh l)=([0]):=by rw[show (1::(a.code++bh l))=bh (a::l) by simp[bh]];show e
   simp at e'
 | a::l,b::m,h,e=>by
   have h':(a.nM b&&eP l m)=ag:=h;rw[aL]at h';have e':a.code++bh l=b.code++bh m:=by
    have:1::(a.code++bh l)=1::(b.code++bh m):=by rw[show (1::(a.code++bh l))=bh (a::l) by simp[bh],show (1::(b.code++bh m))=bh (b::m) by simp[bh]];show e
    show(List.cons.inj this).2
   have ab:a=b:=by
    by_cases c:a=b
    .show c
    .have x1:=HT.aI.app (bh l) (bh m) h'.1 c;have x2:=HT.aI.app (bh m) (bh l) (J2 h'.1) λz=>c z.symm;rw[e',HT.jm]at x1;rw[<-e',HT.jm]at x2;show UT h'.1 x1.symm x2.symm
   subst ab;rw[code_inj h'.2<|List.append_cancel_left e']
theorem K4 {β:Type}{f:α->β}{l n:List β}(h:l.Perm n):∀ {m:List α},n=m.map f->∃ m':List α,l=m'.map f /\ m'.Perm m:=by
 induction h with
 |nil=>intro m e;cases m with|nil=>show⟨[],rfl,.nil⟩|cons _ _=>cases e
 |cons x _ ih=>
   intro m e;cases m with
   |nil=>cases e
   |cons a m=>
     let#[e1,e2]:=List.cons.inj e;let#[m',q1,q2]:=ih e2;show#[a::m',by rw[aU,<-q1,e1],q2.cons a]
 |swap x y l=>
   intro m e;match m,e with
   |a::b::m,e=>
     let#[e1,e2]:=List.cons.inj e;let#[e2,e3]:=List.cons.inj e2;show#[b::a::m,by rw[aU,aU,<-e1,<-e2,<-e3],.swap ..]
 |trans _ _ ZA ZC=>
   intro m e;let#[m2,q1,q2]:=ZC e;let#[m1,q3,q4]:=ZA q1;show#[m1,q3,q4.trans q2]
def rN (rs:List<|List aI):Bool:=rs.all λa=>rs.all λb=>eP a b
theorem jw {rs a:List (List aI)}(hl:rN rs=ag) (p:a.Perm rs) (ha:a.Pairwise λa b=>lexLt (bh b) (bh a)=af):a=n8 rs:=by
 refine(p.trans (iX rs).symm).eq_of_pairwise (λx y mx my h1 h2=>code_inj ((λx mx y my=>bR.mp (bR.mp hl x mx) y my) x (p.mem_iff.mp mx) y<|(iX rs).mem_iff.mp my)<|HT.jn _ _ h2 h1) ha (iQ rs)
section
variable {s:aq}
theorem Wz (I:Inv X pins σ H s) (sub:Sub F H) {a:aI}(h:Den F (kQ a) v) (r:RelV v u):HT.nN s.heap u a:=by
 cases a with
 |i n=>cases (h);show r
 |s x=>cases (h);show r
theorem FQ (I:Inv X pins σ H s) (sub:Sub F H):∀ {l:List aI}{vs:List V}{us:List aj},aJ F (l.map kQ) vs->Vals vs us->HT.dY s.heap us l:=by
 intro l_;induction l_ with
 |nil=>(intro _ _ h r;cases (h);cases r;show .nil)
 |cons a l aD=>
   intro _ _ h r;let#[v,t,rfl,h1,h2]:=h;cases r with
   |cons r1 r2=>show .cons (Wz I sub h1 r1)<|aD h2 r2
theorem P3:∀ {rs:List (List aI)}{vs:List V},aJ F (rs.map dO) vs->∃ ps:List (ai×List aI),vs=ps.map (λp=>V.ref p.1) /\ rs=ps.map (·.2) /\ ∀ p∈ps,Den F (dO p.2) (.ref p.1):=by
 intro l_;induction l_ with
 |nil=>(intro _ h;show#[[],h,rfl,λp m=>nomatch m])
 |cons r rs aD=>
   intro _ h;let#[v,t,rfl,h1,h2]:=h;let#[ps,e1,e2,e3]:=aD h2;let#[a,ws,rfl,h3,h4]:=id h1;refine#[(a,r)::ps,by rw[e1];rfl,by rw[e2];rfl,λp m=>?_];rcases bz.mp m with rfl|m
   .show h1
   .show e3 p m
theorem MT:∀ {ps:List (ai×List aI)},(∀ p∈ps,Den F (dO p.2)<|.ref p.1)->aJ F ((ps.map (·.2)).map dO) (ps.map λp=>V.ref p.1):=by
 intro l_;induction l_ with
 |nil=>show λ_=>rfl
 |cons p ps aD=>show λh=>.cons (h p<|bN ..)<|aD λq m=>h q<|bG _ m
end
def ZD (K:PySem.W.Frag) (vs:List V) (H:Hp) (Q:VK):zk:=∃ (F:Hp) (p:ai) (xs:List V) (rs:List<|List aI),vs=[.ref p] /\ Sub F H /\ (bI K H p xs \/ cM K H p xs) /\ aJ F (rs.map dO) xs /\ (∀ r∈rs,∃ n l,r=.i n::l) /\ rs.length<64 /\ rN rs=ag /\
 ∀ (q:ai) (ys:List V),H q=ah->aJ F ((n8 rs).map dO) ys->Q (.ref q) (upd H q<|.lst ys)
theorem FR (hu:X.A.units+100<cLine):kA X (.builtin "sorted") (ZD X.K):=by
 intro pins s σ H xs us Q I rv h;let#[F,p,vs,rs,rfl,sub,hp,hd,hf,di,aea,q]:=h;let#[u,rfl,ru]:=Vals.one rv;cases ru;have gt:∃ its,Vals vs its /\ ∀ (A) (E) {Q},vs.length<=sizeLine->Q its { s with heap:=(s.heap.push<|seqObj "list" #[] 0).update s.heap.objs.size (Obj.mapSeq (·++its.toArray)) }->wpAny ze A (collect<|.ref p) Q E s:=by
  rcases hp with hp|hp
  .let#[its,r1,p1,z1]:=I.list hp;show#[its,r1,λA E Q z h=>collect_list (hsz:=by have:=r1.length;simp;lia) p1.isList h]
  .let#[its,r1,p1,z1]:=I.tuple hp;show#[its,r1,λA E Q z=>HT.o9 p1 (by rw[<-r1.length];show z)]
 let#[its,r1,p1]:=gt;let#[ps,e1,e2,e3]:=P3 hd;subst e1;have ei:its=ps.map λp=>Value.ref p.1:=by
  have:=DD (by rw[bO];show r1);rw[this,bO];rfl
 subst ei;have row:∀ p∈ps,HT.rM rs s.heap (.ref p.1) (bh p.2):=λp m=>by
  have mr:p.2∈rs:=by rw[e2];show bE.mpr #[p,m,rfl]
  let#[n,l,el]:=hf _ mr;let#[b,ws,eb,h3,h4]:=(e3 p m);cases eb;let#[us,r',pl,_]:=I.tuple<|.of<|sub _ _ h3;rw[el]at h4 mr;show#[p.1,us,n,l,rfl,pl,FQ I sub h4 r',mr,by rw[el]]
 have HH:∀ v∈ps.map (λp=>Value.ref p.1),∃ ns,HT.rM rs s.heap v ns:=λv m=>by
  let#[r,mr,rfl]:=bE.mp m;show#[_,row r mr]
 have ln:ps.length=rs.length:=by rw[e2,a8]
 refine HT.J1 (HT.cP rs) (λA Q=>p1 A _ (by rw[a8,ln];show dF (eX di) zc)) HH (aH _) (λne=>HT.Cb (λx mx y my=>bR.mp (bR.mp aea x mx) y my) zb HH ne) (by rw[a8,ln];show di) λout o1 o2=>?_;let#[vB,q1,q2]:=K4 o1 zj;let#[k,he]:=abU s.heap (ps.map λp=>Value.ref p.1) out;have ord:(vB.map (·.2)).Pairwise (λa b=>lexLt (bh b) (bh a)=af):=by
  unfold HT.vA at o2;rw[q1,ub]at o2;rw[ub];show XM (λ{a b} ma mb r=>r _ _ (row a<|q2.mem_iff.mp ma)<|row b<|q2.mem_iff.mp mb) o2
 have ll:(vB.map λp=>V.ref p.1).length<=sizeLine:=by
  rw[a8,q2.length_eq,ln];show dF (eX di) zc
 refine#[.ref zF,_,I.laid (λb ob q=>abV q) (sx _) ?_,rfl,q _ _ (I.aF.fresh<|sx _) (by rw[<-(jw aea (by rw[e2];show q2.map _) ord)];show MT λp m=>e3 p<|q2.mem_iff.mp m)];refine#[ll,out.toList,k,?_,he];rw[q1];have:∀ l:List (ai×List aI),Vals (l.map λp=>V.ref p.1) (l.map λp=>Value.ref p.1):=λl=>by
  induction l with
  |nil=>show .nil
  |cons a l ih=>show .cons zj ih
 show this vB
def cT:List D->Option Res:=λxs=>match tL xs with
 |some r=>ae r
 | none=>match xs with
   |[.lst l]=>(rowsOf l).bind λrs=>if rs.length<64 /\ rN rs=ag then ae (.lst<|(n8 rs).map dO) else ah
   |[.tup l]=>(rowsOf l).bind λrs=>if rs.length<64 /\ rN rs=ag then ae (.lst<|(n8 rs).map dO) else ah
   |_=>ah
theorem FS (hu:X.A.units+100<cLine):kA X (.builtin "sorted") (λvs H Q=>KO X.K vs H Q \/ ZD X.K vs H Q):=λpins s σ H xs us Q I rv h=>h.elim (JR pins s σ H xs us Q I rv)<|FR hu pins s σ H xs us Q I rv
theorem ah2:ng (λvs H Q=>KO K vs H Q \/ ZD K vs H Q) cT:=by
 intro F H xs vs Q s sub rx e k;unfold cT at e;cases er:tL xs with
 |some r=>
   rw[er]at e;cases e;show .inl<|ahE F H xs vs Q s sub rx er k
 |none=>
   rw[er]at e;dsimp only at e;split at e
   .ext l;cases e1:rowsOf l with
    |none=>rw[e1]at e;cases e
    |some rs=>
      rw[e1]at e;erw[bS]at e;split at e
      .ext hc;cases e;let#[v,t,rfl,#[a,us,rfl,h1,h2],rt]:=rx;cases (rt);let#[b1,b2]:=Cc e1;subst b1;show .inr #[F,a,us,rs,rfl,sub,.inl<|.of h1,h2,b2,hc.1,hc.2,λq ys hq hy=>k _ _ #[q,ys,rfl,hq,rfl,hy]]
      .cases e
   .ext l;cases e1:rowsOf l with
    |none=>rw[e1]at e;cases e
    |some rs=>
      rw[e1]at e;erw[bS]at e;split at e
      .ext hc;cases e;let#[v,t,rfl,#[a,us,rfl,h1,h2],rt]:=rx;cases (rt);let#[b1,b2]:=Cc e1;subst b1;show .inr #[F,a,us,rs,rfl,sub,.inr<|.of<|sub _ _ h1,h2,b2,hc.1,hc.2,λq ys hq hy=>k _ _ #[q,ys,rfl,hq,rfl,hy]]
      .cases e
   .cases e
end L2.DL
namespace L2
theorem GS {src:List (Option Nat)}{elt:au}{scope:bK}{vC:aK}{wi:TI}{g:TG}{tf:TT}{te:TE}{ii:Nat} 
 (hc:X.calm=ag) (S:sW X N src scope) (hi:PI X tg iter wi)
 (hg:∀ cl s H C fp,PG zN tg g) (hf:∀ cl s H C fp,PF zN ifs tf) (he:∀ cl s H C fp,PE zN elt te)
 (hN:X.N.Nodup) (wR:X.N[ii]?=ae x) (hx:Loc X.env.scope x) (Hv:swapsWith zD (ae<|.Name x pos') vC.line X.env=pure ag)
 (Hw:X.fn x=ag \/ X.env.scope.names.lookup x=ae .local)
 (hs:∀ x,foldedSetIterable iter X.env x=pure x:=by intro _;rfl):PS X (.Assign [.Name x pos'] zD vC) (Kf (Kw src wi g tf te)<|X0 ii):=by
 intro pins s σ H Dn I h;rw[exec_Assign_Name_used _ _ _ _ Hv];refine ak<|Ic<|ak ?_
 change wpAny _ X.A _ _ _ s
 refine ak<|kn (aaV zj hs (AU<|S.cells I.ok) S.kind S.names<|cb (hi pins s σ H _ I h) λxv s1 h1=>cb h1 λKg s2 h2=>?_) (λ_ s' hq=>ay<|ay hq) λ_ _ q=>q;let#[it,fp,tn,J,H2,e,I2,T,wc,f2,hW]:=h2;subst e;refine eV ?_;generalize hD:s2.heap.objs.size=D;have I3:Inv X pins σ (upd H2 D<|.lst []) { s2 with heap:=s2.heap.push { cls:=.type "list",dict:=ah,data:=.seq ([]).toArray } }:=by
  subst hD;show I2.laid (λb u e=>aS _ e) (aH _) #[dR _,[],0,.nil,bA _ zj]
 let#[W,#[m0,w0],turn]:=hW D<|I2.aF.fresh<|vT hD;have up:∀ b o,s2.heap.get? b=ae o->(s2.heap.push { cls:=.type "list",dict:=ah,data:=.seq ([]).toArray }).get? b=ae o:=λb u e=>aS _ e;have vg:=T.keep _ _ _ wc λb _ o e=>up b o e;have ER:∀ b∈fp,b<s2.heap.objs.size:=λb hb=>by let#[o,e,_]:=(T.obj _ _ wc) b hb;show ba e
 have f3:∀ b∈fp,pE X pins (upd H2 D<|.lst []) b:=λb hb=>#[by rw[fu (by rw[<-hD];show bJ (ER b hb))];show(f2 b hb).1,(f2 b hb).2];generalize Y5:({ s2 with heap:=s2.heap.push { cls:=.type "list",dict:=ah,data:=.seq ([]).toArray } })=s3 at I3 ⊢;have ES:s3.heap=s2.heap.push { cls:=.type "list",dict:=ah,data:=.seq ([]).toArray }:=by rw[<-Y5]
 rw[<-ES]at vg;have Y6:∀ b∈fp,b<s3.heap.objs.size:=λb hb=>by rw[ES,qT];show pS<|ER b hb
 generalize agO:upd H2 D (.lst [])=H3 at I3 f3 w0;refine AW ?_;generalize ET:pushCells (s3.heap.push { cls:=.type "dict",data:=.dict #[] }) scope.names=h₁;have k1:∀ b o,s3.heap.get? b=ae o->h₁.get? b=ae o:=λb o e=>by rw[<-ET];show Ig _ _ b o<|aS _ e
 have IY:=Du S I3 (λb hb=>#[f3 b hb,Y6 b hb]) (by rw[ET]);have EU:=T.keep _ _ _ vg λb _ o e=>k1 b o e;generalize ye:cellsFrom (s3.heap.objs.size+1) scope.names (eJ X.env.cells scope.names [])=cl at IY ⊢;generalize hC:s3.heap.objs.size=C at IY ⊢;have wz:∀ {H'},(∀ b∈fp,H' b=ah)->∀ b∈fp,pE zT [] H' b:=λhn b hb=>by
  refine#[hn b hb,((IY.ok.v9 b hb).1),(IY.ok.wa b hb),.inl hb,?_,λp hp=>absurd (hp) zg]
  .intro x c e z;show(IY.ok.v9 b hb).2 x c e z
 have fin:∀ (σ') (H') (s':aq),Inv zT [] σ' H' s'->∀ h',Heap.SameBut C s'.heap h'->Inv X pins σ H' { s' with heap:=h' }:=λσ' H' s' I' h' wB=>by
  have EV:H' C=ah:=I'.free;have kp:∀ b o,b≠C->s'.heap.get? b=ae o->h'.get? b=ae o:=λb o hb e=>wB.extBut b o hb e;have Y7:s3.heap.get? C=ah:=by rw[<-hC];show Q6<|aH _
  have qz:∀ b o,s3.heap.get? b=ae o->b≠C:=λb o e z=>by rw[z,Y7]at e;cases e
  have U:=I'.base;refine I3.XX I'.os #[λb o e n hb hx=>kp b o (qz b o e)<|U.keep b o e n hb hx,λb o e n hb hx=>?_,U.free,λb o e hx=>?_,U.kJ,U.k7,U.nR] ?_ I'.bare λb hb=>(#[(f3 b hb).2.2.2.1,(f3 b hb).2.1,λx c e=>(f3 b hb).2.2.2.2.1 x c e,(f3 b hb).2.2.2.2.2])
  .let#[sl,e1]:=U.slot b o e n hb hx;show#[sl,kp b _ (qz b o e) e1]
  .let#[o',e1]:=U.there b o e hx;show#[o',kp b o' (qz b o e) e1]
  .intro b ob e;refine(I'.aF b ob e).eZ (λc w' dS q=>kp c w' (λz=>?_) q) (λ_ q=>q) λ_ _ q=>q;rcases dS with z1|z1
   .rw[<-z1,z,EV]at e;cases e
   .rw[z,EV]at z1;cases z1
 have loop:∀ s4:aq,s4={ s3 with heap:=h₁ } ->
  codeAny ze X.A (.compLoop zD 0 (.ref it) (.ref D)<|compEnvC scope cl C X.env) (compPost ze X.A X.xe (ae<|assign (.Name x pos') X.env) (λ_ s'=>SP X pins Dn .next s') (.ref D) C) s4:=by
  rintro s4 rfl;refine m9 (λn s'=>∃ i σ' H',Inv zT [] σ' H' s' /\ tn i s'.heap /\ (∀ b∈fp,H' b=ah) /\ W i n σ' H') _ (λ_ _ _ q=>q) ?_ m0 #[0,_,H3,IY,EU,λb hb=>(f3 b hb).1,w0];rintro n s5 ⟨i,σ5,H5,I5,uk,wg,w5⟩;have kC:∀ {α:Type}{t:Sem α}{Q1:α->aq->zk}{E1:aj->aq->zk}{ss:aq},wpAny ze X.A t Q1 (λ_ _=>False) ss->wpAny ze X.A t Q1 E1 ss:=λhw=>kn hw (λ_ _ q=>q) λ_ _ z=>False.elim z;rcases turn i n σ5 H5 w5 with⟨stop,q5⟩|⟨go,NN,hN,step⟩
  .refine kC<|cb (T.done (X.comp N scope cl s3 H3 C fp) zj zj zj hc i [] s5 σ5 H5 (λ_ _=>False) I5 (wz wg) uk stop) ?_;rintro r s6 ⟨hr,I6⟩;subst hr;let#[m6,Y8,_]:=I6.loc
   change wpAny _ X.A (assign (.Name x pos') X.env<|.ref D) _ _ s6
   refine aaF<|BS (v:=.ref D) (fin σ5 H5 s6 I6 s6.heap<|Heap.SameBut.refl ..) hN wR hx zj (λs7 I7 ⟨a,sb,ha⟩=>?_) Hw;refine#[m6,Y8.sameBut sb (λz=>by
    rcases ha with w1|w1
    .have l1:X.env.locals<s3.heap.objs.size:=I3.lt;rw[<-w1,<-z,<-hC]at l1;show kq _ l1
    .let#[v1,o1,w2,_]:=I3.cell x a w1;have l1:=ba w2;rw[<-z,<-hC]at l1;show kq _ l1),λh' wB=>?_]
   refine#[σ.set ii<|ae<|.ref D,H5,?_,q5];refine I7.turned (λb o hb e=>wB.extBut b o hb e) I6.free (Ne.symm (λz=>by have l1:=I3.lt;rw[z,<-hC]at l1;show kq _ l1)) (.inr ?_) (λy c e z=>?_) λp hp z=>?_
   .rw[<-hC];show I3.sz
   .let#[v1,o1,w2,_]:=I3.cell y c e;have l1:=ba w2;rw[z,<-hC]at l1;show kq _ l1
   .have l1:=ba (I3.pin p hp).1;rw[z,<-hC]at l1;show kq _ l1
  .refine kC<|cb (T.item zT zj zj zj hc i [] s5 σ5 H5 (λ_ _=>False) I5 (wz wg) uk go) ?_;rintro r s6 ⟨u,hr,h6⟩;subst hr;refine kC<|cb h6 ?_;rintro _ s7 ⟨x,H7,I7,r7,y7,wC,Y9⟩;refine kC<|cb (hg cl s3 H3 C fp _ s7 σ5 H7 x u _ (I7.pinned (wz Y9)<|T.obj _ _ wC) r7<|step x H7 y7) ?_;rintro _ s8 ⟨σ8,H8,I8,q8⟩;refine kC<|tT (hf cl s3 H3 C fp _ s8 σ8 H8 _ I8 q8) λb s9 H9 I9 q9=>?_;have again:∀ {σ9:St}{HA:Hp}{sA:aq},Inv zT ([]++ya fp s7.heap) σ9 HA sA->NN σ9 HA->∃ m,m<n /\ ∃ i σ' H',Inv zT [] σ' H' sA /\ tn i sA.heap /\ (∀ b∈fp,H' b=ah) /\ W i m σ' H':=λ{σ9 HA sA} IA nA=>by
    let#[m',hm,wA]:=hN σ9 HA nA;refine#[m',hm,i+1,σ9,HA,IA.EH,T.keep _ _ _ wC λb hb o e=>(IA.pin (b,o)<|pB _<|pB _<|iG hb e).1,λb hb=>?_,wA];let#[o,e,d]:=T.obj _ _ wC b hb;show(IA.pin (b,o)<|pB _<|pB _<|iG hb e).2.1
   cases b with
   |false=>
     rw[if_neg zc]at q9;rw[if_neg zc];show again I9 q9
   |true=>
     rw[if_pos rfl]at q9;rw[if_pos rfl];refine kC<|tE (he cl s3 H3 C fp _ s9 σ8 H9 _ I9 q9) λyv sA y HA IA rA hh=>?_;let#[ys,Za,Zb,nA]:=hh;refine kC<|cb (lU _ sA σ8 HA (.ref D) [y] (.ref D) [yv] (λ_ HB=>NN σ8 HB) IA zj (.cons rA .nil) #[D,ys,y,rfl,rfl,Za,Zb,nA]) λr sB hB=>?_;let#[_,HB,IB,_,nB]:=hB;show again IB nB
 show aaW (loop _ zj)<|T.self _ 0 _ _ _ EU<|loop _ zj
end L2
namespace L2.DL
section
variable {src:List (Option Nat)} {elt:au} {scope:bK} {vC:aK} {g:DG} 
theorem MU (i:Nat) (bo:Bool) (hc:X.calm=ag) (S:sW X N src scope) (hi:uA X T Z tg iter mi)
 (hg:∀ T cl s H C fp,nY zN T tg g) (hf:∀ T cl s H C fp,PF zN ifs<|sY T #[E0,Z.cl] tf) (he:∀ T cl s H C fp,PD zN T #[E0,Z.cl] elt te)
 (hN:X.N.Nodup) (wR:X.N[i]?=ae x:=by rfl) (hx:Loc X.env.scope x:=by first|show Or.inl zj|show Or.inr zj) (Hv:swapsWith zD (ae<|.Name x pos') vC.line X.env=pure ag:=by rfl)
 (Hw:X.fn x=ag \/ X.env.scope.names.lookup x=ae .local:=by first|show .inl zj|show .inr zj|assumption)
 (hs:∀ x,foldedSetIterable iter X.env x=pure x:=by intro _;rfl):cx X T Z (.Assign [.Name x pos'] zD vC) (fJ (f7 bo src mi g tf te)<|fe i):=by
 refine PS.imp (GS (g:=E7 g) (tf:=E8 _ tf) (te:=E9 _ te) hc S hi (λcl s H C fp pins s' σ' H' v u Q I rv ⟨T,q⟩=>hg T cl s H C fp pins s' σ' H' v u Q I rv q)
  (λcl s H C fp pins s' σ' H' Q I ⟨T,q⟩=>hf T cl s H C fp pins s' σ' H' Q I q) (λcl s H C fp pins s' σ' H' Q I ⟨T,q⟩=>he T cl s H C fp pins s' σ' H' Q I q) hN wR hx Hv Hw hs) λD σ H=>x4 λF r env bx R h=>(Mw #[F,r,env,bx,R,End.br h λw bx1 F1 r1 v H1 g1 R1 d1 h1=>h1 F1 r1 _ H1 zS<|R1.set d1 i])
end
noncomputable def cu:au->Bool
 |.Starred _ _=>af
 |_=>ag
def eQ:List au->Bool
 |[]=>ag
 |e::es=>cu e&&eQ es
theorem fI (h:cu e=ag) (es:List au) (env:Env):starEach (e::es) env=(af,eval e env)::starEach es env:=by
 cases e<;>first|rfl|cases h
theorem ic {env:Env}:∀ {es:List au},eQ es=ag->(backTo pos<|starEach es env).any (·.1)=af:=by
 intro l_;induction l_ with
 |nil=>show λ_=>rfl
 |cons e es aD=>
   intro h;have h':(cu e&&eQ es)=ag:=h;rw[aL]at h';rw[fI h'.1];change (af||(backTo pos _).any _)=af;rw[aD h'.2];rfl
theorem gu (h:eQ (e::es)=ag):cu e=ag /\ eQ es=ag:=by
 have h':(cu e&&eQ es)=ag:=h
 rwa [aL]at h'
theorem lK (h:cu e=ag) (es:List au) (env:Env):assignEach (e::es) env=(af,assign e env)::assignEach es env:=by
 cases e<;>first|rfl|cases h
theorem A9 {env:Env}:∀ {es:List au},eQ es=ag->(assignEach es env).length=es.length /\ (assignEach es env).findIdx? (·.1)=ah:=by
 intro l_;induction l_ with
 |nil=>show λ_=>#[rfl,rfl]
 |cons e es aD=>
   intro h;let#[h1,h2]:=gu h;let#[a,b]:=aD h2;rw[lK h1];show#[by rw[bw,bw,a],by rw[List.findIdx?_cons,b];rfl]
section
variable {a b c:au} {p p1:aK} {k k' nn:Nat} {ps:List Str} 
theorem ou (ha:PD X T Z e ma) (hr:dJ X T Z es m) (hn:cu e=ag:=by rfl):dJ X T Z (e::es) (fc ma m):=Ml ha hr<|fI hn es X.env
theorem WA {id:String}{q:List V->Hp->VK->zk}{g:List D->Option Res}(bo:Bool) (hc:kA X (.builtin id) q) (hk:ng q g) (hg:Gl X x) (hm:X.mg x=ah) (hv:bootBuiltins x=ae (.builtin id)) (ha:dJ X T Z (e::es) m)
 (cS:eQ (e::es)=ag:=by rfl) (hn:x ≠ "__name__":=by decide) (dg:(x==("__debug__":Str))=af:=by decide):PD X T Z zJ (dN bo g m):=
 Mq bo hc hk hg hm hv ha hn dg (fI (gu cS).1 es X.env) (ic (gu cS).2)
theorem UU {id:String}{q:List V->Hp->VK->zk}{g:List D->Option Res}(bo:Bool) (hc:kA X (.type id) q) (hk:ng q g) (hg:Gl X x) (hm:X.mg x=ah) (hv:bootBuiltins x=ae (.type id)) (ha:dJ X T Z (e::es) m)
 (cS:eQ (e::es)=ag:=by rfl) (hn:x ≠ "__name__":=by decide) (dg:(x==("__debug__":Str))=af:=by decide):PD X T Z zJ (dN bo g m):=
 JK bo hc hk hg hm hv ha hn dg (fI (gu cS).1 es X.env) (ic (gu cS).2)
theorem WB (h:rL X.prog X.w X.K X.mg X.base Z.cl k x ps fn) (hr:cg k' X.A) (hk:k<=k') (hg:Gl X x) (hx:Passes (dz X.prog X.w) X Z.E) (ha:dJ X T Z (e::es) m)
 (cS:eQ (e::es)=ag:=by rfl) (hn:ps.length=nn:=by rfl) (dg:(x==("__debug__":Str))=af:=by decide):PD X T Z zJ (fj fn nn m):=
 US h hr hk hg hx ha dg (fI (gu cS).1 es X.env) (ic (gu cS).2) hn
theorem WC {n:String}(hT:qg X.K n) (hg:Gl X "isinstance") (hm:X.mg "isinstance"=ah) (wI:Gl X x) (wJ:X.mg x=ah) (hv:bootBuiltins x=ae (.type n)) (ha:PD X T Z a ma) (hs:cu a=ag:=by rfl)
 (hn:x ≠ "__name__":=by decide) (dg:(x==("__debug__":Str))=af:=by decide):PD X T Z (.Call (.Name "isinstance" p) [a,.Name x p1] [] pos) (jI n ma):=
 Pv hT hg hm wI wJ hv ha hn dg (fI hs _ X.env) (fI zj _ X.env) (ic zj)
theorem UV {g:DG}{q:pJ}(h1:nY X T e g) (h2:uz X T es q) (hn:cu e=ag:=by rfl):uz X T (e::es) (fm g q):=JM h1 h2 (by rw[lK hn];rfl)
theorem WD {q:pJ}{i:Nat}(hc:X.calm=ag) (h:uz X T es q) (cS:eQ es=ag:=by rfl) (hn:es.length=nn:=by rfl):nY X T (.Tuple es i pos) (gj nn q):=
 Po hc h ((A9 cS).1.trans hn) (A9 cS).2
end
open PySem.W
noncomputable def Hy:List Str:=["NoHouse","NoOuts","NoRoom","NoHour","NoPages","NoLot","NoAsks","NoNumber","NoMoves","NoEach","NoOrder","NoPage","NoOut","Twice","Missing","TooMany","NoDeed"]
noncomputable def rO:List Str:=["house","outs","room","hour","pages","lot","asks","number","moves","each","order","page","out","twice","missing","many","deed"]
def wordOf (i:Nat):Str:=rO.getD i ""
structure nD (K:Frag) (mg:Str->Option aj) (R:ai) (c:Nat->ai):zk where
 m:∀ i x,Hy[i]?=ae x->mg x=ae (.ref<|c i)
 mR:mg "RimeError"=ae (.ref R)
 inst:mg "isinstance"=ah
 ah3:mg "ValueError"=ah
 ex:∀ i,i<17->excIn K (c i) Ze "ValueError.__new__"=ag
 ek:∀ i,i<17->wD K (c i)
 kt:∀ i j,i<17->j<17->kitOne K (.ref<|c i) (.ref<|c j)=ae (decide (i=j))
 kv:∀ i,i<17->kitOne K (.ref<|c i) (.type "ValueError")=ae ag
 kr:∀ i,i<17->kitCls K (.ref<|c i) (.ref R)=ae ag
 rb:mroIn K R (.type "BaseException")=ae ag
def aeb (c:Nat->ai):Sp:=λvs H Q _=>∃ (a:ai) (i:Nat),vs=[.ref a] /\ i<17 /\ H a=ae (.ext (kD a<|c i)) /\ ∀ H',hM H H'->Q (.str<|wordOf i) H'
def Hz (P:cG) (w:bH) (K:Frag) (mg:Str->Option aj) (base:aE) (cl:Nat->ai):zk:=
 ∃ (f:ai) (fd:FuncData),EY P w K mg base rC 1 f fd ["_law_e"] (aeb cl) /\ mg "_law_word"=ae (.ref f) /\ keepIn K (.ref f)=ag /\ Binds K fd ["_law_e"] []
section
variable {a b:au} {p np cJ rp wF:aK} {body:List bp} {m k:az} {n:Str} {c i:Nat} {R:ai}
def yu (c:Nat) (m:DE W):az:=λenv bx=>br zI λ_ bx1=>.exc c bx1
theorem J3 (c:Nat) (E:nD X.K X.mg R Z.cl) (hc:X.calm=ag) (l:vm X Z.E) (hg:Gl X x) (hx:Hy[c]?=ae x) (he:PD X T Z e ma) (hi:c<17:=by decide) (cS:eQ [e]=ag:=by rfl) (hd:(x==("__debug__":Str))=af:=by decide) :
 cx X T Z (.Raise (ae<|.Call (.Name x np) [e] [] cJ) ah pos) (yu c ma):=
 PS.imp (Mf hc l hg (E.m c x hx) (E.ex c hi) he (fI (gu cS).1 [] X.env) hd) λD σ H=>x4 λF r env bx Rr h=>
  #[F,r,env,bx,Rr,End.br h λw bx1 F1 r1 v H1 g1 R1 d1 h1=>#[rfl,h1 F1 r1 H1 zS R1.drop]]
noncomputable def bZ:az:=λ_ _=>.bad
theorem fK:cx X T Z st bZ:=λ_ _ _ _ _ _ h=>by
 let#[_,_,_,_,_,h]:=h;show h.elim
theorem Rel.same {H2:Hp}(Rr:Rel T F r [] H [] bx) (s:hM H H2):Rel T F r [] H2 [] bx:=
 #[λa u h=>s _ _<|Rr.fh a u h,λi w e=>by simp at e,Rr.len,Rr.nd,λn c a e1 e2=>by
  have:=Rr.box n c a e1 e2;cases c with
  |lst l=>let#[h1,vs,h2,h3]:=this;show#[h1,vs,s _ _ h2,h3]
  |aG l=>let#[h1,vs,h2,h3]:=this;show#[h1,vs,s _ _ h2,h3]
  |dT l=>let#[h1,vs,h2,h3]:=this;show#[h1,vs,s _ _ h2,h3]
  |fD l=>let#[o,vs,h1,h2,h3]:=this;show#[o,vs,h1,s _ _ h2,h3]
  |ins C l=>let#[h1,dx,vs,h2,h3]:=this;show#[h1,dx,vs,s _ _ h2,h3]
  |dead=>let#[u,h2]:=this;show#[u,s _ _ h2],λa u h hn=>s _ _<|Rr.keep a u h hn,Rr.new,Rr.n0,aH _,Rr.fs]
def vD (m:az):az:=λenv bx=>match m env bx with
 |.exc c bx1=>if c<17 then .rt (.d<|.str<|wordOf c) bx1 else .bad
 |o=>o
theorem P4 (i:Nat) {L:ai}{k':Nat}{ah4:aK}(E:nD X.K X.mg R Z.cl) (W:Hz X.prog X.w X.K X.mg X.base Z.cl) (hr:cg k' X.A) (rD:1<=k') (pD:X.stack=X.env::X.outer) (nI:X.env.frame=ae L) (Ky:L=X.env.locals) (hg:Gl X "RimeError") (ah5:Gl X "_law_word")
 (hN:X.N.Nodup) (hi:X.N[i]?=ae n) (hn:X.env.kindOf n=ae .local) (hb:∀ pn E,rG (X.rF pn E) T #[E,Z.cl] body m)
 (hv:sL X.env.scope n:=by first|show Or.inl zj|show Or.inr (Or.inl zj)|show Or.inr (Or.inr zj)) (hd:(n==("__debug__":Str))=af:=by decide) (dI:(n==("__classdict__":Str))=af:=by decide) :
 cx X T Z (.Try body [.ExceptHandler (ae<|.Name "RimeError" rp) (ae n) [.Return (ae<|.Call (.Name "_law_word" np) [.Name n cJ] [] ah4) p] wF] [] [] pos) (vD m):=by
 intro pins s σ H D I ⟨F,r,env,bx,Rr,h⟩;let#[fW,akV,gW,mW,kW,bW]:=W;refine Ue (E:=λCv _ H'=>∃ c bx' F' r',m env bx=.exc c bx' /\ Cv=.ref (Z.cl c) /\ bq F r F' r' /\ Rel T F' r' [] H' [] bx') pD nI Ky hg E.mR E.rb hN hi hn (λpn=>hb pn _)
  (λpn ea=>mY<|CB<|Mg gW ((hr.mono rD).h.mark) ah5 mW kW bW .nil agI<|fw (AK hi hv hd dI) fR zj) zc pins s σ H D I #[?_,?_]
 .refine#[F,r,env,bx,Rr,?_];unfold vD at h;cases e:m env bx with
  |exc c bx1=>show λF' r' H' g R'=>#[c,bx1,F',r',rfl,rfl,g,R']
  |nx a9 bx1=>rw[e]at h;show h
  |rt w bx1=>rw[e]at h;show h
  |bk a9 bx1=>rw[e]at h;show h
  |ct a9 bx1=>rw[e]at h;show h
  |bad=>rw[e]at h;show h
 .rintro σ' ea C H' hl ⟨c,bx1,F',r',e,eC,g,R'⟩ Kz;have ah6:=Value.ref.inj eC;subst ah6;unfold vD at h;rw[e]at h;simp only at h;split at h
  .ext hc;show#[E.kr c hc,_,pV (by rw[hl];show(List.getElem?_eq_some_iff.mp hi).1),ea,c,rfl,hc,fv,λH2 s2=>(h F' r' (.str<|wordOf c) H2 g (R'.same λb o z=>s2 b o (by rw[fu<|fL z Kz];show z)) zj)]
  .show h.elim
end
section
variable {k:Nat} {ps:List Str} {m:az} {nn kk:Nat}
end
section
variable {a:au} {p p2 uJ:aK} {ta:TA} {ks:DE (List W)}
theorem P5 {b:au}{y:Str}{px py pt:aK}{kt k2 nH}(i j:Nat) (hc:X.calm=ag) (hN:X.N.Nodup) (ha:dJ X T Z [a,b] ks) (hi:X.N[i]?=ae x:=by rfl) (hj:X.N[j]?=ae y:=by rfl) (EF:i≠j:=by decide)
 (hx:X.env.scope.names.lookup x=ae .local:=by rfl) (hy:X.env.scope.names.lookup y=ae .local:=by rfl)
 (hw:swappedStores [.Tuple [.Name x px,.Name y py] kt pt] (.Tuple [a,b] k2 nH) X.env=pure (ae [x,y]):=by rfl)
 (hs:swapsWithSole [.Tuple [.Name x px,.Name y py] kt pt] (.Tuple [a,b] k2 nH) pos.line X.env=pure af:=by rfl) :
 cx X T Z zal (kO i j ks):=
 PS.imp (TR hc hN hi hj EF hx hy ha hw hs) λD σ H h=>Wq h
end
noncomputable def wU:D->V
 |.aB=>.aB
 |.bl b=>.bl b
 |.int i=>.int i
 |.str x=>.str x
 |_=>.ty ""
noncomputable def ka:D->Bool
 |.aB=>ag
 |.bl _=>ag
 |.int _=>ag
 |.str _=>ag
 |_=>af
def K5 (a b:D):Bool:=eB (wU a)<|wU b
theorem Ba {d:D}(f:ka d=ag) (h:Den F d v):v=wU d /\ hG v=ag:=by
 cases d with
 |aB=>cases (h);show#[rfl,rfl]
 |bl b=>cases (h);show#[rfl,rfl]
 |int i=>cases (h);show#[rfl,rfl]
 |str x=>cases (h);show#[rfl,rfl]
 |_=>cases f
theorem Cd:∀ {l:List D}{vs:List V},l.all ka=ag->aJ F l vs->vs=l.map wU /\ vs.all hG=ag:=by
 intro l_;induction l_ with
 |nil=>(intro _ _ h;cases (h);show#[rfl,rfl])
 |cons d l aD=>
   intro _ f h;let#[v,r,e,h1,h2]:=h;subst e;rw[pW,aL]at f;let#[e1,f1]:=Ba f.1 h1;let#[e2,f2]:=aD f.2 h2;subst e1;subst e2;show#[rfl,by rw[pW,f1,f2];rfl]
def nE (x:D) (l:List D):Bool:=l.any λy=>K5 y x
theorem GT (x:D) (l:List D):Kq (wU x) (l.map wU)=nE x l:=by
 unfold Kq nE;rw[Xc];rfl
def K6 (neg:Bool):D->D->Option Res:=λx y=>match y with
 |.lst l=>if ka x=ag /\ l.all ka=ag then ae (.old<|.bl (if neg then !nE x l else nE x l)) else ah
 |.tup l=>if ka x=ag /\ l.all ka=ag then ae (.old<|.bl (if neg then !nE x l else nE x l)) else ah
 |_=>ah
theorem aec (neg:Bool):cA (Kr K neg) (K6 neg):=by
 intro F H x y v w Q s sub hx hy e k;unfold K6 at e;have fx:∀ {d},ka d=ag->qc F H d v->Den F d v:=λ{d} f h=>by
  cases d with
  |aB=>show h
  |bl b=>show h
  |int i=>show h
  |str z=>show h
  |_=>cases f
 cases y with
 |lst l=>
   simp only at e;split at e
   .ext f;cases e;let#[a,vs,rfl,h1,h2]:=hy;let#[e1,f1]:=Ba f.1<|fx f.1 hx;let#[e2,f2]:=Cd f.2 h2;subst e1;subst e2;refine#[a,_,rfl,.inl<|bI.of h1,f1,f2,?_];rw[GT];show k _ _ #[rfl,rfl]
   .cases e
 |tup l=>
   simp only at e;split at e
   .ext f;cases e;let#[a,vs,rfl,h1,h2]:=hy;let#[e1,f1]:=Ba f.1<|fx f.1 hx;let#[e2,f2]:=Cd f.2 h2;subst e1;subst e2;refine#[a,_,rfl,.inr<|cM.of<|sub _ _ h1,f1,f2,?_];rw[GT];show k _ _ #[rfl,rfl]
   .cases e
 |_=>cases e
def K7 (neg:Bool):R2:=λx y H Q=>∃ F dx dy,Sub F H /\ qc F H dx x /\ qc F H dy y /\ eN dx=ag /\ eN dy=ag /\ ∃ l,(dy=.lst l \/ dy=.tup l) /\ Q (.bl (if neg then !(l.any λz=>eqv z dx) else l.any λz=>eqv z dx)) H
theorem lY (dx:D):∀ l:List D,((nu l).any λy=>PyData.eqv y<|toPy dx)=l.any λz=>eqv z dx:=by
 intro l_;induction l_ with
 |nil=>show rfl
 |cons z l aD=>
   change (PyData.eqv _ _||_)=_;rw[aD];rfl
theorem UW (hu:X.A.units+100<cLine):bc X (compareOp .In) (K7 af):=by
 intro pins s σ H x y v u Q I rx ry h;let#[F,dx,dy,sub,hx,hy,ox,oy,l,hl,q]:=h;let#[as,ra]:=gZ I sub hx rx;let#[bs,rb]:=gZ I sub hy ry;let#[x1,x2]:=lI ox;let#[y1,y2]:=lI oy;rcases hl with rfl|rfl
 .show SeqAt.in_list_reads rb ra y1 x1 zb (by rw[lY];show#[.bl _,H,I,rfl,q])
 .show SeqAt.in_tuple_reads rb ra y1 x1 zb (by rw[lY];show#[.bl _,H,I,rfl,q])
theorem J4 (hu:X.A.units+100<cLine):bc X (compareOp .NotIn) (K7 ag):=by
 intro pins s σ H x y v u Q I rx ry h;let#[F,dx,dy,sub,hx,hy,ox,oy,l,hl,q]:=h;let#[as,ra]:=gZ I sub hx rx;let#[bs,rb]:=gZ I sub hy ry;let#[x1,x2]:=lI ox;let#[y1,y2]:=lI oy;rcases hl with rfl|rfl
 .show SeqAt.notIn_list_reads rb ra y1 x1 zb (by rw[lY];show#[.bl _,H,I,rfl,q])
 .show SeqAt.notIn_tuple_reads rb ra y1 x1 zb (by rw[lY];show#[.bl _,H,I,rfl,q])
def uK (neg:Bool) (x y:D) (l:List D):Option Res:=if eN x&&eN y then ae (.old<|.bl (if neg then !(l.any λz=>eqv z x) else l.any λz=>eqv z x)) else ah
def inD (neg:Bool):D->D->Option Res:=λx y=>match y with
 |.lst l=>if ka x=ag /\ l.all ka=ag then ae (.old<|.bl (if neg then !nE x l else nE x l)) else uK neg x y l
 |.tup l=>if ka x=ag /\ l.all ka=ag then ae (.old<|.bl (if neg then !nE x l else nE x l)) else uK neg x y l
 |_=>ah
theorem okIn (neg:Bool):cA (λx y H Q=>Kr K neg x y H Q \/ K7 neg x y H Q) (inD neg):=by
 intro F H x y v w Q s sub hx hy e k;have g:∀ l,(y=.lst l \/ y=.tup l)->uK neg x y l=ae s->K7 neg v w H Q:=λl hl e=>by
  unfold uK at e;split at e
  .ext c;rw[aL]at c;cases e;show#[F,x,y,sub,hx,hy,c.1,c.2,l,hl,k _ _ #[rfl,rfl]]
  .cases e
 unfold inD at e;split at e
 .ext l;split at e
  .ext f;show .inl<|aec neg F H x _ v w Q s sub hx hy (by unfold K6;simp only;rw[if_pos f];show e) k
  .show .inr<|g l (.inl zj) e
 .ext l;split at e
  .ext f;show .inl<|aec neg F H x _ v w Q s sub hx hy (by unfold K6;simp only;rw[if_pos f];show e) k
  .show .inr<|g l (.inr zj) e
 .cases e
section
variable {a b o:au} {p:aK}
def wV (m k:DE W):DE W:=λenv bx=>fC zI λx bx1=>match x with
 | .b n=>(match bx1[n]? with
   | some (.lst _)=>fC (k env bx1) λy ax=>(match y,ax[n]? with
     | .d (.int i),ae (.lst l)=>if -(2 ^ 63)<=i /\ i<2 ^ 63 then (match cy l.length i with
       |some j=>(match l[j]? with|some d=>.val (.d d) (ax.set n<|.lst<|l.eraseIdx j)|none=>.bad)
       |none=>.bad) else .bad
     |_,_=>.bad)
   |_=>.bad)
 |_=>.bad
theorem P6 {Q:VK}(h:tD T Z (wV ma mb) σ H Q):Ks X.K "list" ada (tD T Z ma) (Kk (tD T Z mb) EK) σ H Q:=by
 let#[F,r,env,bx,R,h]:=h;refine#[F,r,env,bx,R,End.bind h λx bx1 F1 r1 v H1 g1 R1 d1 h1=>?_];cases x with
 |b n=>
   simp at h1;let#[a,rfl,ha]:=d1;let#[c,hc,kc]:=R1.hV ha;rw[hc]at h1;cases c with
   |lst l0=>
     let#[_,vt,k0,_]:=kc;refine#[.inl #[rfl,vt,bI.of k0],F1,r1,env,bx1,R1,End.bind h1 λy ax F2 r2 u H2 g2 R2 d2 h2=>?_];let#[t,et]:=g2.p;have vv:r2[n]?=ae a:=by rw[<-et,dH (List.getElem?_eq_some_iff.mp ha).1];show ha
     let#[c2,nV,uC]:=R2.hV vv;rw[nV]at h2;split at h2
     .ext i l eq;cases eq;let#[hF,vs,k1,k2]:=uC;cases (d2);split at h2
      .ext hi;split at h2
       .ext j hj;split at h2
        .ext d hd;let#[y,hy,dy]:=k2.get hd;refine#[a,vs,i,j,y,rfl,rfl,k1,hi.1,hi.2,?_,hy,(h2 F2 r2 _ _ (.refl F2 r2) (R2.write vv hF #[hF,vs.eraseIdx j,fv,k2.eraseIdx j]) dy)]
         .rw[<-k2.length];show(CD hj).1
        .show h2.elim
       .show h2.elim
      .show h2.elim
     .show h2.elim
   |_=>show h1.elim
 |_=>show h1.elim
theorem MV (ho:PD X T Z o ma) (ha:PD X T Z e mb) (cS:cu e=ag:=by rfl)
 (ur:attributeBase o "pop" X.env (eval o X.env)=eval o X.env:=by rfl)
 (wx:((backTo pos<|starEach [e] X.env).all (λx=>!x.1)&&(backToKw pos<|keywordEach [] X.env).all (λx=>x.1.isSome)
  && decide zab)=ag:=by rfl)
 (p8:(apos.endLine==pos.line)=ag:=by rfl):PD X T Z (.Call (.Attribute o "pop" apos) [e] [] pos) (wV ma mb):=
 PE.imp (BZ xK PySem.F.slot_list_pop PySem.F.type_list_pop L7 ho (fw ha fR<|fI cS [] X.env) ur wx p8 (fI cS [] X.env) (by rfl)) λσ H Q h=>P6 h
noncomputable def rQ:D->Option Key
 |.int i=>ae<|.inl i
 |.str x=>ae<|.inr x
 |_=>ah
theorem jT {d:D}{k:Key}(e:rQ d=ae k) (h:Den F d v):v=kV k:=by
 cases d with
 |int i=>cases e;show h
 |str x=>cases e;show h
 |_=>cases e
noncomputable def kR (l:List<|Key×D) (k:Key):Option D:=(l.find? λkv=>decide (kv.1=k)).map (·.2)
noncomputable def HC (l:List<|Key×D) (k:Key) (d:D):List (Key×D):=
 if (l.any λkv=>decide (kv.1=k))=ag then l.map (λkv=>if kv.1=k then (kv.1,d) else kv) else l++[(k,d)]
theorem aT.some {F:Hp}{k:Key}{d:D}:∀ {l:List (Key×D)}{vs:List (Key×V)},aT F l vs->kR l k=ae d->∃ v,nL vs k=ae v /\ Den F d v
 |[],_,_,e=>by cases e
 | (k',d')::l,_,⟨v,r,e,h1,h2⟩,q=>by
   subst e;by_cases c:k'=k
   .simp[kR,xx,c,]at q;cases q;show#[v,om c,h1]
   .erw[kR,xx,c]at q;let#[u,e1,e2]:=aT.some h2 q;show#[u,(lG c).trans e1,e2]
theorem aT.none {F:Hp}{k:Key}:∀ {l:List (Key×D)}{vs:List (Key×V)},aT F l vs->kR l k=ah->nL vs k=ah
 |[],_,h,_=>by cases (h);rfl
 | (k',d')::l,_,⟨v,r,e,h1,h2⟩,q=>by
   subst e;by_cases c:k'=k
   .erw[kR,xx,c,]at q;cases q
   .erw[kR,xx,c]at q;show(lG c).trans (aT.none h2 q)
theorem aT.any {F:Hp}(k:Key):∀ {l:List (Key×D)}{vs:List (Key×V)},aT F l vs->(l.any λkv=>decide (kv.1=k))=(vs.any λkv=>decide (kv.1=k))
 |[],_,h=>by cases (h);rfl
 |(k',d')::l,_,⟨v,r,e,h1,h2⟩=>by subst e;simp[u7,aT.any k h2]
theorem aT.map {F:Hp}{k:Key}{d:D}{v:V}(hv:Den F d v):∀ {l:List (Key×D)}{vs:List (Key×V)},aT F l vs->aT F (l.map λkv=>if kv.1=k then (kv.1,d) else kv) (vs.map λkv=>if kv.1=k then (kv.1,v) else kv)
 |[],_,h=>by cases (h);show rfl
 | (k',d')::l,_,⟨u,r,e,h1,h2⟩=>by
   subst e;by_cases c:k'=k
   .simp[aU,c];show#[v,_,rfl,hv,aT.map hv h2]
   .simp[aU,c];show#[u,_,rfl,h1,aT.map hv h2]
theorem aT.app {F:Hp}{m:List (Key×D)}{us:List (Key×V)}(hm:aT F m us):∀ {l:List (Key×D)}{vs:List (Key×V)},aT F l vs->aT F (l++m) (vs++us)
 |[],_,h=>by cases (h);show hm
 |(k',d')::l,_,⟨u,r,e,h1,h2⟩=>by subst e;show#[u,_,rfl,h1,aT.app hm h2]
theorem aT.put {k:Key}{d:D}{l:List (Key×D)}{vs:List (Key×V)}(h:aT F l vs) (hv:Den F d v):aT F (HC l k d) (putK vs k v):=by
 unfold HC putK;rw[aT.any k h];split
 .show aT.map hv h
 .show aT.app (show aT F [(k,d)] _ from#[v,[],rfl,hv,rfl]) h
noncomputable def qM (bx:List Bx):W->Option (List<|Key×D)
 |.d (.aG l)=>ae l
 |.b n=>(match bx[n]? with|some (.aG l)=>ae l|some (.fD l)=>ae l|_=>ah)
 |_=>ah
theorem CP (R:Rel T F r σ H env bx) {w:W}(d:bX F r w v) {l:List (Key×D)}(e:qM bx w=ae l):∃ a ao,v=.ref a /\ Rd H a (.dK ao) /\ aT F l ao:=by
 unfold qM at e;split at e
 .cases e;let#[a,vs,rfl,h1,h2]:=d;show#[a,vs,rfl,.inl<|R.fh _ _ h1,h2]
 .let#[a,rfl,ha]:=d;let#[c,hc,kc]:=R.hV ha;rw[hc]at e;split at e
  .ext q;cases q;cases e;let#[_,vs,h1,h2]:=kc;show#[a,vs,rfl,.inl h1,h2]
  .ext q;cases q;cases e;let#[o,vs,_,h1,h2]:=kc;show#[a,vs,rfl,.inr #[o,h1],h2]
  .cases e
 .cases e
def kS (m k:DE W):DE W:=λenv bx=>fC zI λx bx1=>fC (k env bx1) λy ax=>match y,qM ax x with
 |.d d,ae l=>(match (rQ d).bind (kR l) with|some u=>.val (.d u) ax|none=>.bad)
 |_,_=>.bad
theorem FT {Q:VK}(h:tD T Z (kS ma mb) σ H Q):adR (tD T Z ma) (tD T Z mb) σ H Q:=by
 let#[F,r,env,bx,R,h]:=h;refine#[F,r,env,bx,R,End.bind h λx bx1 F1 r1 v H1 g1 R1 d1 h1=>#[F1,r1,env,bx1,R1,End.bind h1 λy ax F2 r2 u H2 g2 R2 d2 h2=>?_]];split at h2
 .ext d l q;let#[a,ao,rfl,k1,k2]:=CP R2 (g2.den d1) q;split at h2
  .ext w hw;let#[k,e1,e2]:=Option.bind_eq_some_iff.mp hw;cases jT e1 d2;let#[z,e3,e4]:=aT.some k2 e2;show#[a,z,rfl,e3▸.inl #[_,k,k1,rfl,rfl],h2 F2 r2 _ H2 (.refl F2 r2) R2 e4]
  .show h2.elim
 .show h2.elim
theorem P7 (hu:X.A.units+1<cLine) (ho:PD X T Z o ma) (hi:PD X T Z e mb) (hs:KR e):PD X T Z (.Subscript o e pos) (kS ma mb):=
 PE.imp (PH hu ho hi hs) λσ H Q h=>FT h
def kT (neg:Bool) (k m:DE W):DE W:=λenv bx=>fC (k env bx) λy bx1=>fC (m env bx1) λx ax=>match y,qM ax x with
 |.d d,ae l=>(match rQ d with|some k=>.val (.d<|.bl (if neg then !(kR l k).isSome else (kR l k).isSome)) ax|none=>.bad)
 |_,_=>.bad
theorem MW {l:List (Key×D)}{vs:List (Key×V)}(h:aT F l vs) (k:Key):(nL vs k).isSome=(kR l k).isSome:=by
 cases q:kR l k with
 |none=>rw[aT.none h q];rfl
 |some d=>let#[v,e,_]:=aT.some h q;rw[e];rfl
theorem GU {Q:VK}(h:tD T Z (kT af mb ma) σ H Q):adS (tD T Z mb) (tD T Z ma) σ H Q:=by
 let#[F,r,env,bx,R,h]:=h;refine#[F,r,env,bx,R,End.bind h λy bx1 F1 r1 u H1 g1 R1 d1 h1=>#[F1,r1,env,bx1,R1,End.bind h1 λx ax F2 r2 v H2 g2 R2 d2 h2=>?_]];split at h2
 .ext d l q;let#[a,ao,rfl,k1,k2]:=CP R2 d2 q;split at h2
  .ext k e1;cases jT e1 (g2.den d1);refine#[a,_,rfl,.inl #[_,k,k1,rfl,rfl],?_];rw[MW k2];show h2 F2 r2 _ H2 (.refl F2 r2) R2 zj
  .show h2.elim
 .show h2.elim
theorem MX {Q:VK}(h:tD T Z (kT ag mb ma) σ H Q):adT (tD T Z mb) (tD T Z ma) σ H Q:=by
 let#[F,r,env,bx,R,h]:=h;refine#[F,r,env,bx,R,End.bind h λy bx1 F1 r1 u H1 g1 R1 d1 h1=>#[F1,r1,env,bx1,R1,End.bind h1 λx ax F2 r2 v H2 g2 R2 d2 h2=>?_]];split at h2
 .ext d l q;let#[a,ao,rfl,k1,k2]:=CP R2 d2 q;split at h2
  .ext k e1;cases jT e1 (g2.den d1);refine#[a,_,rfl,.inl #[_,k,k1,rfl,rfl],?_];rw[MW k2];show h2 F2 r2 _ H2 (.refl F2 r2) R2 zj
  .show h2.elim
 .show h2.elim
theorem UX (hu:X.A.units+1<cLine) (hi:PD X T Z e mb) (ho:PD X T Z o ma) (hm:behindInMarks .In o=af):PD X T Z (.Compare e [.In] [o] pos) (kT af mb ma):=
 PE.imp (Cz (ME hu hi ho) hm) λσ H Q h=>GU h
theorem P8 (hu:X.A.units+1<cLine) (hi:PD X T Z e mb) (ho:PD X T Z o ma) (hm:behindInMarks .NotIn o=af):PD X T Z (.Compare e [.NotIn] [o] pos) (kT ag mb ma):=
 PE.imp (Cz (B7 hu hi ho) hm) λσ H Q h=>MX h
def rR (m k v:DE W):az:=λenv bx=>br (v env bx) λz bx1=>br (m env bx1) λx ax=>br (k env ax) λy cj=>match x,y,z with
 | .b n,.d d,.d u=>(match cj[n]?,rQ d with
   |some (.aG l),ae k=>if l.length<sizeLine then .nx env (cj.set n<|.aG<|HC l k u) else .bad
   |_,_=>.bad)
 |_,_,_=>.bad
theorem WE {D:Ends}(h:tS T Z (rR ma mb mc) D σ H):adU (tD T Z ma) (tD T Z mb) (tD T Z mc) D σ H:=by
 let#[F,r,env,bx,R,h]:=h;refine#[F,r,env,bx,R,End.br h λz bx1 F1 r1 t H1 g1 R1 d1 h1=>#[F1,r1,env,bx1,R1,End.br h1 λx ax F2 r2 v H2 g2 R2 d2 h2=>#[F2,r2,env,ax,R2,End.br h2 λy cj F3 r3 u H3 g3 R3 d3 h3=>?_]]];split at h3
 .let#[a,rfl,ha]:=(g3.den d2);let#[c,hc,kc]:=R3.hV ha;rw[hc]at h3;split at h3
  .ext l k e1 e2;cases e1;split at h3
   .ext hl;let#[hF,ao,k1,k2]:=kc;cases jT e2 d3;show#[a,_,rfl,.inl #[ao,k,k1,rfl,by rw[<-aT.length k2];show hl,rfl],h3 F3 r3 _ _ (.refl F3 r3)<|R3.write ha hF #[hF,_,fv,aT.put k2<|g3.den<|g2.den d1]]
   .show h3.elim
  .show h3.elim
 .show h3.elim
theorem MY {value:au}(hu:X.A.units+1<cLine) (ho:PD X T Z o ma) (hi:PD X T Z e mb) (hv:PD X T Z value mc) (hs:swapsWith value (ae<|.Subscript o e pos') pos.line X.env=pure af:=by rfl) :
 cx X T Z (.Assign [.Subscript o e pos'] value pos) (rR ma mb mc):=
 PS.imp (GN hu ho hi hv hs) λD σ H h=>WE h
end
end L2.DL
namespace L2
end L2
namespace L2.DL
section
variable {a:au} {p tp:aK} {elts:List au} {kt:Nat} {k:DE (List W)}
theorem MZ {a b:au}{ks:DE zah}{y:Str}{px py pt:aK}{kt k2 nH}(i j:Nat) (hc:X.calm=ag) (hN:X.N.Nodup) (ha:dJ X T Z [a,b] ks) (hi:X.N[i]?=ae x:=by rfl) (hj:X.N[j]?=ae y:=by rfl)
 (hx:Loc X.env.scope x:=by first|show Or.inl zj|show Or.inr zj) (hy:Loc X.env.scope y:=by first|show Or.inl zj|show Or.inr zj)
 (ah7:X.fn x=ag \/ X.env.scope.names.lookup x=ae .local:=by first|show .inl zj|show .inr zj) (ah8:X.fn y=ag \/ X.env.scope.names.lookup y=ae .local:=by first|show .inl zj|show .inr zj)
 (hs:swapsWithSole [.Tuple [.Name x px,.Name y py] kt pt] (.Tuple [a,b] k2 nH) pos.line X.env=pure af:=by rfl)
 (hw:swappedStores [.Tuple [.Name x px,.Name y py] kt pt] (.Tuple [a,b] k2 nH) X.env=pure ah:=by rfl)
 (h0:(assignEach [.Tuple [.Name x px,.Name y py] kt pt] X.env).map (·.2)=[assign (.Tuple [.Name x px,.Name y py] kt pt) X.env]:=by rfl)
 (h1:(assignEach [.Name x px,.Name y py] X.env).map (·.2)=assign (.Name x px) X.env::(assignEach [.Name y py] X.env).map (·.2):=by rfl)
 (h2:(assignEach [.Name y py] X.env).map (·.2)=assign (.Name y py) X.env::(assignEach [] X.env).map (·.2):=by rfl)
 (hn:(assignEach [.Name x px,.Name y py] X.env).length=2:=by rfl) (pD:(assignEach [.Name x px,.Name y py] X.env).findIdx? (·.1)=ah:=by rfl) :
 cx X T Z zal (kO i j ks):=by
 refine PS.imp (LJ (LU ha) (LH hc (AM (CC hN hi hx ah7) (AM (CC hN hj hy ah8) Gy h2) h1) hn pD) hs hw h0) λD σ H=>x4 λF r env bx R h=>?_;refine#[F,r,env,bx,R,End.br h λws bx1 F1 r1 vs H1 g1 R1 d1 h1=>?_];split at h1
 .let#[v,t,rfl,q1,u,t2,rfl,q2,q3]:=d1;cases (q3);refine#[by change 2<=sizeLine;decide,λp hp=>?_];have gr:=R1.ux (o:=.tup [v,u]) hp;show#[p,[v,u],rfl,cM.of fv,rfl,v,[u],rfl,u,[],rfl,rfl,h1 _ r1 _ _ gr<|((R1.yj hp).set (gr.den q1) i).set (gr.den q2) j]
 .show h1.elim
end
def aed (K:PySem.W.Frag) (vs:List V) (H:Hp) (Q:VK):zk:=∃ (p:ai) (bs:List Bool),vs=[.ref p] /\ H p=ae (.lst<|bs.map V.bl) /\ Q (.bl<|bs.any id) H
theorem oO (bs:List Bool):((List.range bs.length).any λi=>(bs[i]?).getD af)=bs.any id:=by
 rw[pT,ud,ud];constructor
 .rintro⟨i,m,h⟩;have hi:=List.mem_range.mp m;rw[cX hi]at h;show#[bs[i],sF hi,h]
 .rintro⟨b,m,h⟩;let#[i,hi,e]:=List.mem_iff_getElem.mp m;show#[i,List.mem_range.mpr hi,by rw[cX hi,e];show h]
theorem J5 (hc:X.calm=ag):kA X (.builtin "any") (aed X.K):=by
 intro pins s σ H xs us Q I rv h;let#[p,bs,rfl,hp,q]:=h;let#[u,rfl,ru]:=Vals.one rv;cases ru;let#[its,r1,p1,z1]:=I.list<|bI.of hp;have hl:=p1.isList;have hlen:bs.length=its.length:=by have:=r1.length;simpa using this
 refine call_any_walk<|Ih hl ?_
 refine#[s.heap.objs.size,[s.heap.objs.size,p],[s.heap.objs.size],its.toArray.size,_,_,λi=>(bs[i]?).getD af,rfl,Walks.list (A:=X.A.in1) (I.ok.hd hc) _ p (bJ (by let#[_,e,_]:=hl;show ba e)) its.toArray,
  #[#[_,bA _ zj,rfl,rfl],hl.push _],λi v s' Q' E' hP hQ=>?_,λh' tk hk=>?_]
 .have Hb:its[i]?=ae v:=by simpa using hP
  have hi:i<bs.length:=by rw[hlen];show(List.getElem?_eq_some_iff.mp Hb).1
  let#[w,e1,e2]:=r1.get (i:=i) (x:=V.bl bs[i]) zg;rw[Hb]at e1;cases e1;cases e2;simp[cX hi]at hQ;show qt hQ
 .have e:((List.range its.toArray.size).any λi=>(bs[i]?).getD af)=bs.any id:=by
   rw[bU,<-hlen];show oO bs
  rw[e];show#[.bl _,H,I.kept<|acu hk,rfl,q]
def HD:List D->Option Res
 |[.lst l]=>(pN l).map λbs=>.old<|.bl<|bs.any id
 |_=>ah
theorem ah9:ng (aed K) HD:=by
 intro F H xs vs Q s sub rx e k;unfold HD at e;split at e
 .ext l;let#[v,t,rfl,#[a,us,rfl,h1,h2],rt]:=rx;cases (rt);cases e1:pN l with
  |none=>rw[e1]at e;cases e
  |some bs=>
    rw[e1]at e;cases e;have q1:=h2.Zs e1;subst q1;show#[a,bs,rfl,h1,k _ _ #[rfl,rfl]]
 .cases e
section
variable {a:au} 
def kF (neg:Bool) (m:DE W):DE W:=λenv bx=>fC zI λx bx1=>match x with
 |.d d=>.val (.d<|.bl (match d with|.aB=>!neg|_=>neg)) bx1
 |_=>.bad
theorem Ay {d:D}(h:Den F d v):decide (v=.aB)=(match d with|.aB=>ag|_=>af):=by
 cases d with
 |aB=>cases (h);rfl
 |bl b=>cases (h);rfl
 |int i=>cases (show v=.int i from h);rfl
 |str x=>cases (show v=.str x from h);rfl
 |tup l=>let#[a,vs,rfl,_]:=h;rfl
 |lst l=>let#[a,vs,rfl,_]:=h;rfl
 |aG l=>let#[a,vs,rfl,_]:=h;rfl
theorem UY {j pos'}(ha:PD X T Z a ma):PD X T Z (.Compare a [.Is] [.Constant .none j pos'] pos) (kF af ma):=by
 refine PE.imp (Cz<|LA ha) λσ H Q=>x4 λF r env bx R h=>?_;refine#[F,r,env,bx,R,End.bind h λx bx1 F1 r1 v H1 g1 R1 d1 h1=>?_];cases x with
 |d d=>
   rw[Ay<|d1];cases d<;>show h1 F1 r1 _ H1 zS R1 zj
 |_=>show h1.elim
theorem P9 {j pos'}(ha:PD X T Z a ma):PD X T Z (.Compare a [.IsNot] [.Constant .none j pos'] pos) (kF ag ma):=by
 refine PE.imp (Cz<|Gv ha) λσ H Q=>x4 λF r env bx R h=>?_;refine#[F,r,env,bx,R,End.bind h λx bx1 F1 r1 v H1 g1 R1 d1 h1=>?_];cases x with
 |d d=>
   rw[Ay<|d1];cases d<;>show h1 F1 r1 _ H1 zS R1 zj
 |_=>show h1.elim
end
open PySem.W
noncomputable def vE (f:Str) (v:D ⊕ Nat):List (Str×(D ⊕ Nat))->List (Str×(D ⊕ Nat))
 |[]=>[(f,v)]
 |(g,x)::r=>if g=f then (g,v)::r else (g,x)::vE f v r
theorem dE.look {F:Hp}{r:List ai}{n:Nat}(f:Str):∀ {l:List (Str×(D ⊕ Nat))}{vs:List (Str×V)},dE F r n l vs->(l.lookup f=ah /\ vs.lookup f=ah) \/ ∃ w v,l.lookup f=ae w /\ vs.lookup f=ae v /\ E2 F r n w v
 |[],_,h=>by cases (h);show .inl #[rfl,rfl]
 | (k,w)::l,_,⟨v,t,e,h1,h2⟩=>by
   subst e;rw[kH,kH];cases f==k with
   |true=>show .inr #[w,v,rfl,rfl,h1]
   |false=>show dE.look f h2
theorem dE.put {F:Hp}{r:List ai}{n:Nat}{f:Str}{w:D ⊕ Nat}{v:V}(hw:E2 F r n w v):∀ {l:List (Str×(D ⊕ Nat))}{vs:List (Str×V)},dE F r n l vs->dE F r n (vE f w l) (kK f v vs)
 |[],_,h=>by cases (h);show#[v,[],rfl,hw,rfl]
 | (k,u)::l,_,⟨z,t,e,h1,h2⟩=>by
   subst e;unfold vE kK;by_cases c:k=f
   .rw[if_pos c,if_pos c];show#[v,t,rfl,hw,h2]
   .rw[if_neg c,if_neg c];show#[z,_,rfl,h1,dE.put hw h2]
theorem dE.len {F:Hp}{r:List ai}{n:Nat}:∀ {l:List (Str×(D ⊕ Nat))}{vs:List (Str×V)},dE F r n l vs->vs.length=l.length
 |[],_,h=>by cases (h);rfl
 |(k,u)::l,_,⟨z,t,e,h1,h2⟩=>by subst e;rw[bw,bw,h2.len]
def cU (C:ai) (m:DE W) (f:Str):DE W:=λenv bx=>fC zI λx bx1=>match x with
 | .b n=>(match bx1[n]? with
   | some (.ins C' fs)=>if C'=C then (match fs.lookup f with
     |some (.inl d)=>.val (.d d) bx1
     |some (.inr j)=>.val (.b j) bx1
     |none=>.bad) else .bad
   |_=>.bad)
 |_=>.bad
def qj (C:ai) (m:DE W) (f:Str) (v:DE W):az:=λenv bx=>br (v env bx) λy bx1=>br (m env bx1) λx ax=>match x,y with
 | .b n,.d d=>(match ax[n]? with
   |some (.ins C' fs)=>if C'=C /\ fs.length<1000 then .nx env (ax.set n<|.ins C<|vE f (.inl d) fs) else .bad
   |_=>.bad)
 |_,_=>.bad
def kg (C:ai) (fn:List W->List Bx->O W) (nm:Str) (n:Nat) (m:DE W) (k:DE zah):DE W:=λenv bx=>fC zI λx bx1=>match x with
 | .b j=>(match bx1[j]? with
   |some (.ins C' fs)=>if C'=C /\ (fs.lookup nm).isNone=ag then fC (k env bx1) λws ax=>if ws.length+1=n then fn (.b j::ws) ax else .bad else .bad
   |_=>.bad)
 |_=>.bad
section
variable {o value:au} {p:aK} {f:Str} 
theorem UZ (c:kL X.K C) (na:rm X.K C f) (h:PD X T Z e ma) (hb:attributeBase e f X.env (eval e X.env)=eval e X.env):PD X T Z (.Attribute e f pos) (cU C ma f):=by
 refine PE.imp (T3 h hb) λσ H Q=>x4 λF r env bx R h=>#[F,r,env,bx,R,End.bind h λx bx1 F1 r1 v H1 g1 R1 d1 h1=>?_];split at h1
 case h_2=>show h1.elim
 let#[a,rfl,ha]:=d1;let#[b,hc,kc]:=R1.hV ha;rw[hc]at h1;split at h1
 case h_2=>show h1.elim
 ext C' fs e0;cases e0;let#[k0,dx,vs,k1,k2]:=kc;split at h1
 case isFalse=>show h1.elim
 ext hC;subst hC;rcases dE.look f k2 with⟨l1,l2⟩|⟨w,u,l1,l2,l3⟩
 .rw[l1]at h1;show h1.elim
 .rw[l1]at h1;refine#[a,C',dx,vs,u,rfl,k1,c,na,l2,?_];cases w with
  |inl d=>show h1 F1 r1 u H1 zS R1 l3
  |inr j=>let#[_,b,rfl,hj]:=l3;show h1 F1 r1 _ H1 zS R1 #[b,rfl,hj]
theorem Rb (c:kL X.K C) (na:rm X.K C f) (ho:PD X T Z o ma) (hv:PD X T Z value mb) (hs:swapsWith value (ae<|.Attribute o f pos') pos.line X.env=pure af):cx X T Z (.Assign [.Attribute o f pos'] value pos) (qj C ma f mb):=by
 refine PS.imp (LS ho hv hs) λD σ H=>x4 λF r env bx R h=>#[F,r,env,bx,R,End.br h λy bx1 F1 r1 v H1 g1 R1 d1 h1=>#[F1,r1,env,bx1,R1,End.br h1 λx ax F2 r2 u H2 g2 R2 d2 h2=>?_]];split at h2
 case h_2=>show h2.elim
 ext n d;let#[a,rfl,ha]:=d2;let#[b,hc,kc]:=R2.hV ha;rw[hc]at h2;split at h2
 case h_2=>show h2.elim
 ext C' fs e0;cases e0;let#[k0,dx,vs,k1,k2]:=kc;split at h2
 case isFalse=>show h2.elim
 ext hC;let#[hC,hl]:=hC;subst hC;refine#[a,C',dx,vs,rfl,k1,c,na,by rw[k2.len];show hl,?_];have aia:E2 F2 r2 n (.inl d) v:=Den.mono g2.s d d1;show h2 F2 r2 σ _ (.refl F2 r2)<|R2.write ha k0 #[k0,dx,_,fv,k2.put aia]
theorem Ce {args:List au}(ur:attributeBase o f X.env (eval o X.env)=eval o X.env) (cS:eQ args=ag) (hl:args.length<30) (p8:(apos.endLine==pos.line)=ag):∃ pl,eval (.Call (.Attribute o f apos) args [] pos) X.env=(do
 let ov <-eval o X.env
 standAt apos.atName
 let (f,first) <-holding [ov] (getMethod ov f pl)
 callWith pos f first (backTo pos<|starEach args X.env) (backToKw pos<|keywordEach [] X.env)):=by
 have EO:(backTo pos<|starEach args X.env).all (λx=>!x.1)=ag:=by
  have:=ic (env:=X.env) (pos:=pos) cS;rw[bR];rw[Iq]at this;intro x hx;have:=this x hx;simpa using this
 have aib:methodCallForm (args.length+([]:List Keyword).length) (backTo pos<|starEach args X.env) (backToKw pos<|keywordEach [] X.env)=ag:=by
  unfold methodCallForm;rw[EO];simp[backToKw,keywordEach];lia
 have wF:∀ b,methodCallPos b o X.env apos pos=pure pos:=λb=>by unfold methodCallPos;simp[p8]
 refine#[(do return (<-importBound o X.env).getD ag),?_];rw[arm_eval_Call,ur];unfold methodCall;rw[aib];simp[wF];rfl
end
section
variable (P:cG) (w:bH) (K:PySem.W.Frag) (mg:Str -> Option aj) (base:aE) (cl:Nat -> ai)
def HE (C:ai) (k:Nat) (x:Str) (ps:List Str) (fn:List W->List Bx->O W):zk:=
 ∃ (f:ai) (fd:FuncData),cZ P w K mg base (dz P w) k f fd ps (qd cl ps.length fn) /\ Meth K C x f /\ Binds K fd ps []
end
section
variable {o:au} {mk:DE (List W)} {ps:List Str} {k k' nn:Nat}
theorem M0 {Q:VK}(h:tD T Z (kg C fn x nn ma mk) σ H Q):YV C x (qd Z.cl nn fn) [] Z.E (tD T Z ma) (E3 T Z mk) σ H Q:=by
 let#[F,r,env,bx,R,h]:=h;refine#[F,r,env,bx,R,End.bind h λw bx1 F1 r1 v H1 g1 R1 d1 h1=>?_];split at h1
 case h_2=>show h1.elim
 ext j;let#[a,rfl,ha]:=d1;let#[b,hc,kc]:=R1.hV ha;rw[hc]at h1;split at h1
 case h_2=>show h1.elim
 ext C' fs e0;cases e0;let#[k0,dx,vs,k1,k2]:=kc;split at h1
 case isFalse=>show h1.elim
 ext hC;let#[hC,hl]:=hC;subst hC;refine#[a,dx,vs,rfl,k1,?_,F1,r1,env,bx1,R1,End.bind h1 λws ax F2 r2 us H2 g2 R2 d2 h2=>?_]
 .rcases dE.look x k2 with⟨l1,l2⟩|⟨w,u,l1,l2,l3⟩
  .show l2
  .rw[l1]at hl;cases hl
 .split at h2
  .ext hn;refine#[F2,r2,.b j::ws,ax,R2.enter,#[_,_,rfl,#[a,rfl,FE g2.p j a ha],by rw[qv];show d2],hn,?_];cases e:fn _ ax with
   |val w bx'=>rw[e]at h2;show λF' r' v H' g R' d=>h2 F' r' v H' g (R2.after g R') d
   |exc c bx'=>rw[e]at h2;show λF' r' H' g R'=>h2 F' r' H' g (R2.after g R').drop
   |bad=>rw[e]at h2;show h2
  .show h2.elim
theorem Re (c:kL X.K C) (h:HE X.prog X.w X.K X.mg X.base Z.cl C k x ps fn) (hr:cg k' X.A) (hk:k<=k') (hx:Passes (dz X.prog X.w) X Z.E) (ho:PD X T Z o ma) (ha:dJ X T Z (e::es) mk) (hb:attributeBase o x X.env (eval o X.env)=eval o X.env)
 (p8:(apos.endLine==pos.line)=ag) (cS:eQ (e::es)=ag) (hl:(e::es).length<30) (hn:ps.length=nn):PD X T Z (.Call (.Attribute o x apos) (e::es) [] pos) (kg C fn x nn ma mk):=by
 subst hn;let#[f,fd,G,hm,wW]:=h;let#[pl,ht]:=Ce hb cS hl p8;show PE.imp (OY ho c hm G (hr.mono hk) wW .nil hx ha (fI (gu cS).1 es X.env) (ic (gu cS).2) ht) λσ H Q h=>M0 h
theorem M2 (c:kL X.K C) (h:HE X.prog X.w X.K X.mg X.base Z.cl C k x ps fn) (hr:cg k' X.A) (hk:k<=k') (hx:Passes (dz X.prog X.w) X Z.E) (ho:PD X T Z o ma) (hb:attributeBase o x X.env (eval o X.env)=eval o X.env)
 (p8:(apos.endLine==pos.line)=ag) (hn:ps.length=nn):PD X T Z (.Call (.Attribute o x apos) [] [] pos) (kg C fn x nn ma ff):=by
 subst hn;let#[f,fd,G,hm,wW]:=h;let#[pl,ht]:=Ce (args:=[]) hb zj (by decide) p8;refine PE.imp (LV ho c hm G (hr.mono hk) wW .nil hx ht) λσ H Q h=>?_;let#[F,r,env,bx,R,h]:=M0 h;refine#[F,r,env,bx,R,?_];revert h;generalize ma env bx=O1;intro h;cases O1 with
 |bad=>show h
 |exc c b=>show h
 |val w b=>
   intro F' r' v H' g R' d';let#[a,dx,fs,e1,e2,e3,F2,r2,cK,ax,R2,h]:=h F' r' v H' g R' d';show#[a,dx,fs,e1,e2,e3,h F2 r2 [] H' (.refl F2 r2) R2 zj]
end
def K8 (f:bp->az):List bp->az
 |[]=>aY
 |s::r=>fq (f s)<|K8 f r
theorem DI {X:Cx}{T:Fr}{Z:Xs}{f:bp->az}{st:bp}{t:TS}(h:∀ s,cx X T Z s<|f s) (hl:PS X st t):∀ b,dD X (b++[st]) (λD σ H=>tS T Z (K8 f b) { D with nx:=λσ' H'=>t D σ' H' } σ H)
 |[]=>dD.imp (mY hl) λD σ H=>x4 λF r env bx R h=>h F r σ H (.refl F r) R
 | s::b=>by
   refine dD.imp (g9 (h s)<|DI h hl b) λD σ H=>x4 λF r env bx R h=>#[F,r,env,bx,R,?_];have h':kN T Z F r _ (fq _ _ env bx):=h;unfold fq at h';cases e:f s env bx with
   |nx a9 bx1=>rw[e]at h';show λF1 r1 σ1 H1 g R1=>#[F1,r1,a9,bx1,R1,kN.weak g h']
   |rt w bx1=>rw[e]at h';show h'
   |bk a9 bx1=>rw[e]at h';show h'
   |ct a9 bx1=>rw[e]at h';show h'
   |exc c bx1=>rw[e]at h';show h'
   |bad=>rw[e]at h';show h'
noncomputable def yx (n:Nat) (h:D):aP:=[ae<|.b n,ae<|.d h]
def K9 (C:ai) (fl:Str) (m:az):Sp:=λvs H Q _=>∃ T F r bx x h hv aQ fs,vs=[.ref x,hv] /\ Rel T F (r++[x]) [] H [] (bx++[.ins C []]) /\ T.H₀ x=ah /\ T.n₀<=r.length /\ Den F h hv /\
 m (yx r.length h) (bx++[.ins C []])=.nx aQ (bx++[.ins C fs]) /\ aQ[0]?=ae (ae<|.b r.length) /\ fs.length<1000 /\
 ∀ F' H' l,Sub F F'->Rel T F' (r++[l,x]) [] H' [] (bx++[.lst [],.ins C<|vE fl (.inr r.length) fs])->Q .aB H'
theorem Rel.aic {x:ai}{c:Bx}(R:Rel T F (r++[x]) σ H env<|bx++[c]) (hx:T.H₀ x=ah) (hn:T.n₀<=r.length):Rel T F r [] H [] bx:=by
 have up:∀ {n}{a},r[n]?=ae a->(r++[x])[n]?=ae a:=λe=>FE (pX r [x]) _ _ e;refine#[R.fh,λi w e=>by simp at e,(by have:=R.len;simp at this;show this),(sH.mp R.nd).1,λn c' a e1 e2=>?_,λa u e hn=>?_,λn a h e=>R.new n a h<|up e,hn,aH _,λa u e=>?_]
 .have k:=R.box n c' a (by rw[dH (List.getElem?_eq_some_iff.mp e1).1];show e1)<|up e2;cases c' with
  |ins _ _=>let#[q1,dx,vs,q2,q3]:=k;show#[q1,dx,vs,q2,dE.cR (Sub.refl F).d (λm hm b e=>by rw[dH<|vV hm (List.getElem?_eq_some_iff.mp e2).1]at e;show e) _ q3]
  |_=>show k
 .refine R.keep a u e λz=>?_;rcases List.mem_append.mp z with z|z
  .show hn z
  .cases ku.mp z;rw[hx]at e;cases e
 .rcases R.fs a u e with z|z|z|z
  .show .inl z
  .show .inr<|.inl z
  .show .inr<|.inr<|.inl z
  .rcases List.mem_append.mp z with z|z
   .show .inr<|.inr<|.inr z
   .cases ku.mp z;show .inr<|.inr<|.inl hx
theorem Rel.aid (R:Rel T F r σ H env bx) {o:HO}(hf:F p=ah) (hb:p∉r) (hT:T.H₀ p=ah):Rel T F r σ (upd H p o) env bx:=by
 refine#[λa u e=>?_,R.slot,R.len,R.nd,λn c a e1 e2=>?_,λa u e hn=>?_,R.new,R.n0,R.sl,R.fs]
 .rw[fu (λz=>by rw[z,hf]at e;cases e)];show R.fh a u e
 .have ha:a≠p:=λz=>hb<|List.mem_iff_getElem?.mpr #[n,z▸e2];show(R.box n c a e1 e2).grow (Sub.refl F) (eY r) id λu z=>by rw[fu ha];show z
 .rw[fu (λz=>by rw[z,hT]at e;cases e)];show R.keep a u e hn
theorem Rel.aie (R:Rel T F r σ H env bx) {c:Bx}(hb:p∉r) (hT:T.H₀ p=ah) (hc:sX F r r.length H p c):Rel T F (r++[p]) σ H env (bx++[c]):=by
 refine#[R.fh,λi w e=>?_,by rw[bQ,bQ,R.len];rfl,?_,λn c' a e1 e2=>?_,λa u e hn=>R.keep a u e λz=>hn<|pU _ z,λn a hn e=>?_,by rw[bQ];show dF R.n0 (uZ _ _),R.sl,λa u e=>(R.fs a u e).imp id<|Or.imp id<|Or.imp id λz=>pU _ z]
 .let#[v,e1,e2]:=R.slot i w e;show#[v,e1,e2.mono (Sub.refl F)<|pX r [p]]
 .rw[sH];refine#[R.nd,by simp,λa ha b yy=>?_];rw[ku]at yy;subst yy;show λz=>hb<|z▸ha
 .by_cases hn:n<r.length
  .rw[dH hn]at e2;rw[dH (by rw[<-R.len];show hn)]at e1;show(R.box n c' a e1 e2).grow (Sub.refl F) (pX r [p]) id λ_ z=>z
  .have qf:=(List.getElem?_eq_some_iff.mp e2).1;rw[bQ,Iw]at qf;have uh:n=r.length:=by lia
   subst uh;rw[eI (by rw[R.len];show aH _),R.len,nO]at e1;simp at e1 e2;subst e1 e2;show hc.grow (Sub.refl F) (pX r _) id λ_ z=>z
 .by_cases hl:n<r.length
  .rw[dH hl]at e;show R.new n a hn e
  .have qf:=(List.getElem?_eq_some_iff.mp e).1;rw[bQ,Iw]at qf;have uh:n=r.length:=by lia
   subst uh;rw[eI<|aH _,nO]at e;simp at e;subst e;show hT
section
variable {ps:List Str} {k:Nat} {fl s0:Str} {sm:bp -> az} {b4:List bp} {p1 p2 p3 p4:aK}
theorem Rf (F:eD K x qual st f fd) (S:rn N ps<|fE st) (HF:ps.length=2) (hN:N.length=2) (c:kL K C) (na:rm K C fl) (wW:f8 st=b4++[.Assign [.Attribute (.Name s0 p1) fl p2] (.List [] p3) p4])
 (aif:N[0]?=ae s0) (hv:sL (fE st) s0) (hd:(s0==("__debug__":Str))=af) (dI:(s0==("__classdict__":Str))=af)
 (nU:∀ (cdv:aj) (A:cE) (outer:List Env) (s:aq) (H:Hp) (E:XK) (T:Fr),cg k z7 ->
  ∀ s1,cx (qB rC P w K mg base N qual (fE st) f cdv A outer s H E).ui T #[E0,cl] s1<|sm s1):cZ P w K mg base (dz P w) (k+1) f fd ps (K9 C fl<|K8 sm b4):=by
 refine S9<|F.ok S (λvs H Q E h=>?_) λcdv A outer s H vs Q E hr h=>?_
 .let#[_,_,_,_,_,_,_,_,_,rfl,_]:=h;rw[HF];rfl
 .let#[T,F1,r,bx,x,h,EJ,aQ,fs,rfl,R,hx,aih,dh,hm,he,Ky,hQ]:=h;have e2:r.length=bx.length:=by have:=R.len;simp at this;show this
  refine#[_,by rw[wW];show DI (nU cdv A outer s H E T hr) (LS (AK aif hv hd dI) (lC fR) zj) b4,?_];have aii:kM F1 (r++[x]) [.b r.length,.d h] [.ref x,EJ]:=#[_,_,rfl,#[x,rfl,by rw[eI<|aH _,nO];rfl],_,_,rfl,dh,rfl];have R0:=R.start (N:=N) aii;have ee:envOf N.length [.b r.length,.d h]=yx r.length h:=by rw[hN];rfl
  rw[ee]at R0;refine#[F1,r++[x],_,_,R0,?_];rw[hm];intro F2 r2 σ2 H2 g2 R2;have er:r2=r++[x]:=by
   let#[t,rfl]:=g2.p;have:=R2.len;simp at this;have:t=[]:=List.length_eq_zero_iff.mp zb;rw[this,qv]
  subst er;have aee:(r++[x])[r.length]?=ae x:=by rw[eI<|aH _,nO];rfl
  let#[v,e5,a,rfl,ha]:=R2.slot 0 _ he;rw[aee]at ha;cases ha;let#[q1,dx,vs,q2,q3]:=R2.box r.length (.ins C fs) x (by rw[eI zb,e2,nO];rfl) aee;have Rc:=R2.aic hx aih;have aij:x∉r:=λz=>(sH.mp R2.nd).2.2 x z x zg zj;refine#[dR _,λl hl=>?_];have aef:x≠l:=fL q2 hl;refine#[_,e5,x,C,dx,vs,rfl,by rw[fu aef];show q2,c,na,by rw[q3.len];show Ky,?_];have aeg:x∉r++[l]:=by simp[aij,aef]
  have aik:dE F2 (r++[l]) (r++[l]).length fs vs:=by
   have q4:∀ (fs:List<|Str×(D ⊕ Nat)) (vs:List<|Str×V),dE F2 (r++[x]) r.length fs vs->dE F2 (r++[l]) (r++[l]).length fs vs:=λfs=>by
    induction fs with
    |nil=>intro vs z;show z
    |cons y fs ih=>
      let#[ky,wy]:=y;intro vs ⟨v,t,z1,z2,z3⟩;refine#[v,t,z1,?_,ih t z3];cases wy with
      |inl d=>show z2
      |inr m=>
        let#[z4,a,z5,z6]:=z2;rw[dH z4]at z6;show#[by rw[bQ];show Nat.lt_add_right _ z4,a,z5,by rw[dH z4];show z6]
   show q4 fs vs q3
  have zz:E2 F2 (r++[l]) (r++[l]).length (.inr r.length) (.ref l):=#[by simp,l,rfl,by rw[eI<|aH _,nO];rfl];have Ri:=((Rc.E5 (c:=.lst []) hl #[Rc.vn hl,[],fv,rfl]).aid (o:=.ins C dx<|kK fl (.ref l) vs) q1 aeg hx).aie (p:=x) (c:=.ins C<|vE fl (.inr r.length) fs) aeg hx #[q1,dx,_,fv,aik.put zz];show hQ F2 _ l g2.s (by simpa using Ri)
end
open Classical in
def yz (C:ai) (fl:Str) (m:az) (k:DE zah):DE W:=λenv bx=>fC (k env bx) λws bx1=>match ws with
 | [.d h]=>(match m (yx bx1.length h) (bx1++[.ins C []]) with
   | .nx aQ ax=>(match ax.getLast? with
     |some (.ins _ fs)=>if ax=bx1++[.ins C fs] /\ aQ[0]?=ae (ae<|.b bx1.length) /\ fs.length<1000 then .val (.b<|bx1.length+1) (bx1++[.lst [],.ins C<|vE fl (.inr bx1.length) fs]) else .bad
     |_=>.bad)
   |_=>.bad)
 |_=>.bad
section
variable {mk:DE (List W)} {p:aK} {fl:Str} {ps:List Str} {m:az} {k k':Nat}
theorem Rg (M:Mk X.K C f) (G:cZ X.prog X.w X.K X.mg X.base (dz X.prog X.w) k f fd ps<|K9 C fl m) (hr:cg k' X.A) (hk:k+1<=k') (hg:Gl X x) (hm:X.mg x=ae zaa) (hb:Binds X.K fd ps []) (hx:Passes (dz X.prog X.w) X Z.E) (ha:dJ X T Z (e::es) mk)
 (cS:eQ (e::es)=ag) (dg:(x==("__debug__":Str))=af):PD X T Z zJ (yz C fl m mk):=by
 refine PE.imp (OZ M G (hr.mono hk) hg hm hb .nil hx ha dg (fI (gu cS).1 es X.env)<|ic (gu cS).2) λσ H Q=>x4 λF r env bx R h=>?_;refine#[F,r,env,bx,R,End.bind h λws bx1 F1 r1 vs H1 g1 R1 d1 h1=>?_];split at h1
 case h_2=>show h1.elim
 ext hh;let#[v,t,rfl,dh,rt]:=d1;cases (rt);split at h1
 case h_2=>show h1.elim
 ext aQ ax em;split at h1
 case h_2=>show h1.elim
 ext C' fs el;split at h1
 case isFalse=>show h1.elim
 ext hc;let#[eb,e0,hl]:=hc;subst eb;intro y dx ny ail ne;have R2:=(R1.enter.adB (o:=.own y) ail);have aeh:upd H1 dx (.own y) y=ah:=by rw[fu<|Ne.symm ne];show ny
 refine#[_,F1,r1,bx1,y,hh,v,aQ,fs,rfl,(R2.E5 (c:=.ins C []) aeh #[R2.vn aeh,dx,[],fv,rfl]),ny,aH _,dh,by rw[R1.len];show em,by rw[R1.len];show e0,hl,λF' H' l s R'=>#[rfl,?_]];have g:bq F1 r1 F' (r1++[l,y]):=#[s,pX _ _];rw[R1.len]at R';refine h1 F' _ _ H' g (R1.after g (by rw[<-R1.len]at R' ⊢;show R')) #[y,rfl,?_];rw[<-R1.len,eI zb];have:r1.length+1-r1.length=1:=by lia
 rw[this];rfl
end
end L2.DL
namespace HT
open PySem.W
abbrev Kp (h h':aE):zk:=∀ b o,h.get? b=ae o->h'.get? b=ae o
section
variable {s:aq} {l I S:ai} {nm:String} 
section
variable {kf:Nat -> Int} (hh:A.handled = ah) (hl:s.heap.IsList l vs.toArray) (aim:l ≠ I) (ain:S ≠ I) (aio:s.heap.get? S = ah) (aip:s.heap.get? I = ah)
include hh hl aim ain aio aip
end
end
end HT
namespace L2
open PySem.W
section
variable {a:au} {p q kp:aK} {t:TA}
end
end L2
namespace L2.DL
open PySem.W
section
variable {a:au} {p q kp:aK} 
end
end L2.DL
namespace HT
open PySem.W
section
variable {s:aq} {t:ai} 
noncomputable abbrev dist (ns:List Int):List Int:=firstMet (λi=>ns.getD i 0) ns.length
end
end HT
namespace L2
open PySem.W
section
variable {a:au} {p p2 uJ:aK} {t:TA}
theorem Bb:∀ {ns:List Int}{us:List aj},Vals (ns.map V.int) us->IntsAre us ns
 |[],_,.nil=>.nil
 | n::ns,_,.cons r q=>by
   let#[t,rfl]:=r;show .cons n t<|Bb q
end
end L2
namespace L2.DL
open PySem.W
section
variable {a:au} {p p2 uJ:aK} 
end
end L2.DL
namespace HT
open PySem.W
abbrev rS (xs:Array Nat):zk:=xs.toList.Pairwise (·<·)
theorem Az {xs:Array Nat}(h:rS xs) {i x y:Nat}(hi:xs[i]?=ae x) (hj:xs[j]?=ae y) (l:i<j):x<y:=by
 let#[a,rfl]:=List.getElem?_eq_some_iff.mp (by rw[qZ];show hi);let#[b,rfl]:=List.getElem?_eq_some_iff.mp (by rw[qZ];show hj);show List.pairwise_iff_getElem.mp h i j a b l
theorem M3 {xs:Array Nat}(h:rS xs) (j:Nat):∀ (f lo hi:Nat),hi-lo<=f->lo<=hi->hi<=xs.size->(∀ i x,i<lo->xs[i]?=ae x->x<j)->(∀ i x,hi<=i->xs[i]?=ae x->j<=x) ->
 SetTable.below.go xs j f lo hi<=xs.size /\ (∀ i x,i<SetTable.below.go xs j f lo hi->xs[i]?=ae x->x<j) /\ ∀ i x,SetTable.below.go xs j f lo hi<=i->xs[i]?=ae x->j<=x:=by
 intro l_;induction l_ with
 |zero=>
   intro lo hi hf hl hh h1 h2;have:lo=hi:=by lia
   subst this;show#[hh,h1,h2]
 |succ f aD=>
   intro lo hi hf hl hh h1 h2;rw[SetTable.below.go];by_cases c:lo<hi
   .rw[if_pos c];have hm:(lo+hi) / 2<xs.size:=by lia
    have em:xs[(lo+hi) / 2]?=ae xs[(lo+hi) / 2]:=by simp
    have eg:xs.getD ((lo+hi) / 2) j=xs[(lo+hi) / 2]:=by simp[hm]
    simp[eg];by_cases q:xs[(lo+hi) / 2]<j
    .simp[if_pos q];refine aD _ hi zb zb hh (λi x wR e=>?_) h2;by_cases z:i<(lo+hi) / 2
     .have:=Az h e em z;lia
     .have:i=(lo+hi) / 2:=by lia
      subst this;rw[em]at e;cases e;show q
    .simp[if_neg q];refine aD lo _ zb zb zb h1 λi x wR e=>?_;by_cases z:i=(lo+hi) / 2
     .subst z;rw[em]at e;cases e;lia
     .have:=Az h em e zb;lia
   .rw[if_neg c];have:lo=hi:=by lia
    subst this;show#[hh,h1,h2]
theorem mI {xs:Array Nat}(h:rS xs) (j:Nat):SetTable.below xs j<=xs.size /\ (∀ i x,i<SetTable.below xs j->xs[i]?=ae x->x<j) /\ ∀ i x,SetTable.below xs j<=i->xs[i]?=ae x->j<=x:=
 M3 h j xs.size 0 xs.size zb (dR _) (aH _) (λi x hi=>absurd hi<|Q3 _) λi x hi e=>by
  have:=(Array.getElem?_eq_some_iff.mp e).1;lia
theorem Bc {xs:Array Nat}(h:rS xs) {i x:Nat}(e:xs[i]?=ae x):SetTable.below xs (x+1)=i+1:=by
 let#[b1,b2,b3]:=mI h _;have h1:¬ SetTable.below xs (x+1)<=i:=λz=>by
  have:=b3 i x z e;lia
 have h2:¬ i+1<SetTable.below xs (x+1):=λz=>by
  have el:xs[i+1]?=ae xs[i+1]:=by
   simp
  have a:=b2 _ _ z el;have b:=Az h e el<|sr i;lia
 lia
theorem Bd {xs:Array Nat}(h:rS xs):SetTable.below xs 0=0:=by
 let#[b1,b2,b3]:=mI h 0;apply Classical.byContradiction;intro z;have el:xs[0]?=ae xs[0]:=by simp
 have:=b2 0 _ zb el;lia
theorem Aq (xs:Array α) (p:Nat) (x:α):(SetTable.insertAt xs p x).toList=xs.toList.take p++x::xs.toList.drop p:=by
 unfold SetTable.insertAt;rw[Array.toList_append,Xq,ab0,ab0];simp[sD,List.singleton_append];congr 2;show IC zg
theorem M4 {xs:Array Nat}(h:rS xs) (hn:xs[SetTable.below xs j]?≠ae j):rS (SetTable.insertAt xs (SetTable.below xs j) j):=by
 let#[b1,b2,b3]:=mI h j;unfold rS;rw[Aq];have qf:∀ x∈xs.toList.take (SetTable.below xs j),x<j:=λx m=>by
  let#[i,hi,e]:=aby m;rw[Ew]at hi;refine b2 i x zb ?_;rw[<-qZ,<-e,List.getElem_take];show cX zb
 have aei:∀ x∈xs.toList.drop _,j<x:=λx m=>by
  let#[i,hi,e]:=aby m;rw[Iu]at hi;have ex:xs[SetTable.below xs j+i]?=ae x:=by
   rw[<-qZ,<-e,List.getElem_drop];show cX zb
  have:=b3 _ x (uZ _ _) ex;have ne:x≠j:=λz=>by
   subst z;cases i with
   |zero=>show hn ex
   |succ i=>
     have lt:SetTable.below xs x<xs.size:=by
      have:=(Array.getElem?_eq_some_iff.mp ex).1;lia
     have el:xs[SetTable.below xs x]?=ae xs[SetTable.below xs x]:=by simp
     have a:=b3 _ _ (aH _) el;have b:=Az h el ex zb;lia
  lia
 rw[List.pairwise_append];refine#[h.sublist<|abm _ _,List.pairwise_cons.mpr #[aei,h.sublist<|List.drop_sublist _ _],λa ma b mb=>?_];have:=qf a ma;rcases bz.mp mb with rfl|mb
 .show this
 .have:=aei b mb;lia
theorem FU (n:Nat):rS (Array.range n):=by
 unfold rS;rw[Array.toList_range];show abz
def HG (t:SetTable) (j:Nat):zk:=t.place[SetTable.below t.place j]?≠ae j
theorem DJ (h:∀ i,t.slot j≠.live i):HG t j:=λe=>by
 refine h (SetTable.below t.place j) ?_;unfold SetTable.slot;simp[e]
theorem M5 {ha:Nat->Int}{h:Int}:∀ (f:Nat) (p:SetTable.Probe) {j:Nat}{d:Option Nat},(∀ z,p.dummy=ae z->HG t z)->SetTable.probe.go t ha h f p=ae (.empty j d)->HG t j /\ ∀ z,d=ae z->HG t z:=by
 intro l_;induction l_ with
 |zero=>(intro p j d _ e;cases e)
 |succ f aD=>
   intro p j d hp e;rw[SetTable.probe.go]at e;split at e
   .ext q;cases e;show#[DJ (λi z=>by rw[q]at z;cases z),hp]
   .ext q;refine aD _ (λz hz=>?_) e;have:(t.advance { p with dummy:=ae p.j }).dummy=ae p.j:=by
     unfold SetTable.advance;split<;>rfl
    rw[this]at hz;cases hz;show DJ λi z=>by rw[q]at z;cases z
   .split at e
    .cases e
    .refine aD _ (λz hz=>?_) e;have:(t.advance p).dummy=p.dummy:=by
      unfold SetTable.advance;split<;>rfl
     rw[this]at hz;show hp z hz
theorem M6 {h:Int}{b:Bool}(e:t.freeSlot h=ae (j,b)):HG t j:=by
 unfold SetTable.freeSlot at e;split at e
 .ext j' d q;let#[a,c]:=M5 _ _ (by intro z hz;cases hz) q;cases d with
  |none=>cases e;show a
  |some z=>cases e;show c z zj
 .cases e
structure kh (aiq:Bool) (t:SetTable):zk where
 r:rS t.place
 l:aiq=af->t.led=ag
theorem kh.Qa {b:Bool}(h:kh b t) (n:Nat):kh b (t.standIn n):=#[FU n,h.l]
theorem kh.lay {b:Bool}(h:kh b t) (es:Array<|Int×aj) (k:Int) (x:aj):kh b (layNew t es k x).2.1:=by
 unfold layNew;cases e:t.freeSlot k with
 |none=>show h.Qa _
 |some p=>
   let#[j,d]:=p;change kh b ((t.put j).1.orStandIn _);have hp:kh b (t.put j).1:=#[M4 h.r<|M6 e,h.l];unfold SetTable.orStandIn;split
   .show hp
   .show hp.Qa _
theorem kh.plain {b:Bool}{t:SetTable}(h:kh b t) (p:Bool):kh b { t with plain:=p }:=#[h.r,h.l]
theorem J6 (f:Nat->Option Nat):∀ l:List Nat,l.Pairwise (·<·)->(((l.filterMap λj=>(f j).map (j,·)).map (·.1))).Pairwise (·<·):=by
 intro l_;induction l_ with
 |nil=>show λ_=>.nil
 |cons j l aD=>
   intro h;let#[h1,h2]:=List.pairwise_cons.mp h;have ih:=aD h2;rw[qU];cases e:f j with
   |none=>show ih
   |some z=>
     refine List.pairwise_cons.mpr #[λa ma=>?_,ih];let#[p,mp,rfl]:=bE.mp ma;let#[i,mi,ei]:=List.mem_filterMap.mp mp;cases q:f i with
     |none=>rw[q]at ei;cases ei
     |some w=>
       rw[q]at ei;cases ei;show h1 i mi
theorem kh.air {b:Bool}(h:kh b t) (es:Array<|Int×aj) (n:Nat):kh b (relayAll t es n).2.1:=by
 unfold relayAll;cases e:t.relaid _ n with
 |none=>show h.Qa _
 |some p=>
   let#[t',o]:=p;have ht:kh b t':=by
    unfold SetTable.relaid SetTable.laid at e;cases q:SetTable.layClean _ _ with
    |none=>rw[q]at e;cases e
    |some ow=>
      rw[q]at e;cases e;show#[J6 _ _ abz,h.l]
   change kh b (if (coversAll o es.size&&t'.fits (o.filterMap _).size)=ag then (o.filterMap _,t',af) else (es,t.standIn es.size,ag)).2.1;split
   .show ht
   .show h.Qa _
section
variable {s:aq}
structure eE (prog:cG) (w:bH) (b:Bool) (o:aV) (ns:List Int) (es:Array<|Int×aj) (ep:Nat) (t:SetTable) (ms:List Int):zk where
 x:o.ExactSet
 d:o.data=.set es ep t
 el:ElemsOf (intKind prog w) es.toList
 bd:es.size<scanBound
 ft:t.fits es.size=ag
 ok:kh b t
 vs:IntsAre (es.toList.map (·.2)) ms
 pm:ms.Perm ns
def qN (prog:cG) (w:bH) (b:Bool) (h:aE) (a:ai) (ns:List Int):zk:=∃ o es ep t ms,h.get? a=ae o /\ eE prog w b o ns es ep t ms
theorem Ad:∀ {vs:List aj}{ms:List Int},IntsAre vs ms->∀ k:Int,k∈ms ↔ ∃ v∈vs,(intKind prog w).is k v=ag
 |_,_,.nil,k=>by simp
 | _,_,.cons n t h,k=>by
   have e:(intKind prog w).is k (.int n t)=ag ↔ k=n:=by
    constructor
    .intro z;show(intKind prog w).inj _ k n z (Er prog w n t)
    .rintro rfl;show Er prog w k t
   rw[bz,(Ad h k)];constructor
   .rintro(z|⟨v,mv,ev⟩)
    .show#[_,bN ..,e.mpr z]
    .show#[v,bG _ mv,ev]
   .rintro⟨v,mv,ev⟩;rcases bz.mp mv with rfl|mv
    .show .inl<|e.mp ev
    .show .inr #[v,mv,ev]
theorem eE.mem {b:Bool}{ms:List Int}{es:Array (Int×aj)}(S:eE prog w b o ns es ep t ms) (k:Int):k∈ns ↔ ∃ e∈es.toList,(intKind prog w).is k e.2=ag:=by
 rw[<-S.pm.mem_iff,Ad S.vs k];constructor
 .rintro⟨v,mv,ev⟩;let#[e,me,rfl]:=bE.mp mv;show#[e,me,ev]
 .rintro⟨e,me,ev⟩;show#[e.2,bE.mpr #[e,me,rfl],ev]
theorem eE.len {b:Bool}{ms:List Int}{es:Array (Int×aj)}(S:eE prog w b o ns es ep t ms):es.size=ns.length:=by
 rw[<-S.pm.length_eq,<-S.vs.length,a8,nP]
theorem jU:∀ {vs us:List aj},us.Perm vs->∀ {ms:List Int},IntsAre vs ms->∃ ks,IntsAre us ks /\ ks.Perm ms:=by
 intro vs us p;induction p with
 |nil=>intro ms h;show#[ms,h,.refl _]
 |cons x p ih=>
   intro ms h;cases h with
   |cons n t h=>
     let#[ks,a,c]:=ih h;show#[n::ks,.cons n t a,c.cons n]
 |swap x y l=>
   intro ms h;cases h with
   |cons n t h=>
     cases h with
     |cons m u h=>show#[_,.cons m u<|.cons n t h,.swap ..]
 |trans p q ZA ZC=>
   intro ms h;let#[ks,a,c]:=ZC h;let#[js,a',c']:=ZA a;show#[js,a',c'.trans c]
theorem oz:∀ {vs:List aj}{ms:List Int},IntsAre vs ms->∀ (i:Int) (t:Tok),IntsAre (vs++[.int i t]) (ms++[i])
 |_,_,.nil,i,t=>.cons i t .nil
 |_,_,.cons n u h,i,t=>.cons n u<|oz h i t
theorem eE.anew {b:Bool}{ms:List Int}{es:Array (Int×aj)}(S:eE prog w b o ns es ep t ms) {es':Array (Int×aj)}{t':SetTable}(sO:Nat) (p:es'.toList.Perm es.toList) (f:t'.fits es'.size=ag) (k:kh b t') :
 ∃ ZE,eE prog w b { o with data:=.set es' sO t' } ns es' sO t' ZE:=by
 let#[ks,a,c]:=jU (p.map _) S.vs;have z:es'.size=es.size:=by rw[<-nP,p.length_eq,nP]
 show#[ks,S.x,rfl,S.el.perm p,by rw[z];show S.bd,f,k,a,c.trans S.pm]
theorem eE.more {b:Bool}{ms:List Int}{es:Array (Int×aj)}(S:eE prog w b o ns es ep t ms) (i:Int) (u:Tok) {es':Array (Int×aj)}{t':SetTable}(sO:Nat) (hb:es.size+1<scanBound)
 (p:es'.toList.Perm<|es.toList++[((intKind prog w).hash i,.int i u)]) (f:t'.fits es'.size=ag) (k:kh b t'):∃ ZE,eE prog w b { o with data:=.set es' sO t' } (ns++[i]) es' sO t' ZE:=by
 have q:(es.toList++[((intKind prog w).hash i,Value.int i u)]).map (·.2)=es.toList.map (·.2)++[Value.int i u]:=by simp
 let#[ks,a,c]:=jU (us:=es'.toList.map _) (q▸p.map _)<|oz S.vs i u;have z:es'.size=es.size+1:=by rw[<-nP,p.length_eq,bQ,nP,Iw]
 show#[ks,S.x,rfl,(S.el.push (Er prog w i u) zj).perm p,by rw[z];show hb,f,k,a,c.trans<|S.pm.append_right _]
theorem stored {es es':Array (Int×aj)}{t':SetTable}(ho:s.heap.get? a=ae o) (hd:o.data=.set es ep t):(s.heap.update a<|Obj.putSet es' t').get? a=ae { o with data:=.set es' (ep+1) t' }:=by
 have z:=sy (Obj.putSet es' t') ho (by rw[putSet_of es' t' hd];rfl)
 rwa [putSet_of es' t' hd]at z
theorem Cg {b:Bool}{ms:List Int}{es dZ:Array (Int×aj)}{t1:SetTable}{wd:Bool}{R:Option Bool->aq->zk}{g:Bool->Sem Unit}(hg:∀ (z:Bool) (s1:aq) (Q:Unit->aq->zk),Q () s1->wpAny zf A (g z) Q E s1)
 (ho:s.heap.get? a=ae o) (hd:o.data=.set es ep t) (S:eE prog w b { o with data:=.set dZ (ep+1) t1 } ns dZ (ep+1) t1 ms)
 (h:∀ h',Heap.SameBut a s.heap h'->qN prog w b h' a ns->R (ae ag) { s with heap:=h' }) :
 wpAny zf A (do
  storeSet a dZ t1
  if (!wd&&t1.tooFull)=ag then do
   g (relayAll t1 dZ<|SetTable.grown dZ.size).2.2
   storeSet a (relayAll t1 dZ<|SetTable.grown dZ.size).1 (relayAll t1 dZ<|SetTable.grown dZ.size).2.1
   pure (ae ag)
  else pure (ae ag)) R E s:=by
 have g1:=stored (es':=dZ) (t':=t1) ho hd;have sb:=Heap.SameBut.update s.heap a<|Obj.putSet dZ t1;refine ak<|aa0 ho hd ?_<|QV S.bd;by_cases c:(!wd&&t1.tooFull)=ag
 .rw[if_pos c];have kp:=relayAll_perm t1 dZ<|SetTable.grown dZ.size;let#[ais,S2]:=S.anew _ kp (relayAll_fits t1 dZ _)<|S.ok.air dZ _;have z2:(relayAll t1 dZ<|SetTable.grown dZ.size).1.size=dZ.size:=by rw[<-nP,kp.length_eq,nP]
  show ak<|hg _ _ _<|ak<|aa0 g1 zj (ay<|h _ (sb.trans<|Heap.SameBut.update _ a _) #[_,_,_,_,ais,(stored (s:={ s with heap:=s.heap.update a _ }) (es':=(relayAll t1 dZ _).1) (t':=(relayAll t1 dZ _).2.1) g1 zj),S2])<|QV (by rw[z2];show S.bd)
 .rw[if_neg c];show ay<|h _ sb #[_,_,_,_,ms,g1,S]
end
section
variable {s:aq}
theorem add_int {b:Bool}{i:Int}{u:Tok}{Q:Bool->aq->zk}(S:qN prog w b s.heap a ns) (hb:ns.length+1<scanBound)
 (h:∀ z h',Heap.SameBut a s.heap h'->qN prog w b h' a (sI ns i)->Q z { s with heap:=h' }):wpAny zf A (setAddHashed a (.int i u)<|(intKind prog w).hash i) Q E s:=by
 have sc:(Value.int i u).scannable=ag:=rfl;let#[o,es,ep,t,ms,ho,S]:=S;have hl:=S.len;refine eU ?_;refine ak<|vS ho S.d S.ft ?_;change wpAny _ _ (if byScan _ es=ag then _ else _) _ _ _;rw[if_pos<|byScan_of sc S.bd S.el];refine ak<|ak<|qu<|ak<|wpAny_setScan_of (Er prog w i u) ho S.d S.ft S.el ?_;have gw:∀ (z) (s1) (Q1),Q1 () s1->wpAny zf A (match z with|true=>rule "set.scan.the-table-gave-way"|false=>pure ()) Q1 E s1:=by
  intro z s1 Q1 q;cases z
  .show ay q
  .show qu q
 cases fd:List.findIdx? _ es.toList with
 |some j=>
   let#[hj,pj,_]:=List.findIdx?_eq_some_iff_getElem.mp fd;have e1:sI ns i=ns:=by
    unfold sI;rw[if_pos (ud.mpr #[i,((S.mem i).mpr #[_,sF hj,pj]),by simp])]
   refine ay<|ay ?_;have:=h af s.heap (Heap.SameBut.refl a s.heap) (by rw[e1];show#[o,es,ep,t,ms,ho,S]);show this
 |none=>
   have e1:sI ns i=ns++[i]:=by
    unfold sI;rw[if_neg];intro z;let#[k,mk,ek]:=ud.mp z;have:k=i:=by simpa using ek
    show(λz=>by
    let#[e,me,pe]:=(S.mem i).mp z;have:=List.findIdx?_eq_none_iff.mp fd e me;rw[pe]at this;cases this) (this▸mk)
   have lp:=layNew_perm t es ((intKind prog w).hash i)<|.int i u;have lf:=layNew_fits t es ((intKind prog w).hash i)<|.int i u;have lk:=S.ok.lay es ((intKind prog w).hash i)<|.int i u;rw[Xq]at lp;dsimp only;generalize layNew t es _ _=L at lp lf lk ⊢;let#[dZ,t1,wd,gv]:=L;dsimp only at lp lf lk ⊢;have fin:∀ h',Heap.SameBut a s.heap h'->qN prog w b h' a _->wpAny zf A _ Q E { s with heap:=h' }:=λh' sb si=>ay<|h ag h' sb (by rw[e1];show si);refine ak<|gw _ _ _ ?_;by_cases cp:t1.plain=ag
   .rw[if_pos cp,hashByValue_scannable 8 sc];refine ak<|ay ?_;have tk:kh b (if plainKind (.int i u)=ag then t1 else { t1 with plain:=af }):=by
     split
     .show lk
     .show lk.plain _
    have tf:(if plainKind (.int i u)=ag then t1 else { t1 with plain:=af }).fits dZ.size=ag:=by
     split
     .show lf
     .show afK lf
    let#[ait,S1]:=S.more i u (ep+1) zb lp tf tk;show Cg gw ho S.d S1 λh' sb si=>fin h' sb si
   .rw[if_neg cp];refine ak<|ay ?_;let#[ait,S1]:=S.more i u (ep+1) zb lp lf lk;change wpAny _ _ (do
     storeSet a dZ t1
     if (!wd&&t1.tooFull)=ag then _ else _) _ _ _
    show Cg gw ho S.d S1 λh' sb si=>fin h' sb si
end
section
variable {s:aq}
noncomputable abbrev cQ (w:bH):Bool:=w.params.followText "set-order"
abbrev rT (w:bH):aV:={ cls:=.type "set",dict:=ah,data:=.set #[] 0 (.fresh 0 0<|!cQ w) }
theorem Rh {h:aE}(e:h.get? a=ae (rT w)):qN prog w (cQ w) h a []:=
 #[_,#[],0,_,[],e,#[#[rfl,rfl,rfl],rfl,λe m=>by simp at m,by decide,rfl,#[.nil,λz=>by rw[z];rfl],.nil,.refl _]]
theorem qN.at {b:Bool}{h:aE}(S:qN prog w b h a ns) (k:∀ o,h.get? a=ae o->h'.get? a=ae o):qN prog w b h' a ns:=by
 let#[o,es,ep,t,ms,ho,S]:=S;show#[o,es,ep,t,ms,k o ho,S]
theorem Rj (a:aj) (h:Q zad { s with heap:=s.heap.push (rT w) }):codeAny zf A (.call (.builtin "set.__new__") #[[.type "set",a],[]]) (wants Q E) s:=by
 refine aa1<|ak<|Em (F.newCall_set_1 a)<|ay #[Im F.plain_set_new _,tZ F.entry_set_new ?_];have ss:=aa2;unfold Builtin.«set.__new__» Builtin.Frozenset.newClass
 wp_walk
 refine uY<|ay<|ak<|aaU<|ay<|ay h
variable {I:ai} {wr:List ai} {G:Array GenState -> Array GenState -> zk} {P:Nat -> aj -> zk} {St:Nat -> aq -> zk} {b:Bool}
theorem J7 (W:WalksS prog w A.in1 I fp wr G n P St) (ha:a∉fp) (val:Nat->Int) (hv:∀ i v,P i v->∃ t,v=.int (val i) t) (hb:n+1<scanBound) :
 ∀ (k i:Nat) (s:aq),n=i+k->St i s->qN prog w b s.heap a (firstMet val i)->(∀ s',Moved (a::wr) G s s'->qN prog w b s'.heap a (firstMet val n)->R (.ok<|.ret .none) s') ->
  codeAny zf A (.builtin "set.update.loop" #[[.ref a,.ref I],[]]) R s:=by
 have aw:=λz=>ha<|W.sub _ z;have su:∀ c∈wr,c∈a::wr:=λc z=>.tail _ z;intro k;induction k with
 |zero=>
   intro i s hk st S fin;obtain rfl:n=i:=hk;refine tZ acv<|ak<|W.done s _ _ st λs' mv=>ay<|fin s' (mv.mono su)<|S.at λo e=>mv.heap a o aw e
 |succ k ih=>
   intro i s hk st S fin;refine tZ acv ?_;rw[XO acw _];refine ak<|W.item i s _ _ zb st λv s1 pv aiu mv=>?_;let#[t,rfl]:=hv i v pv;change wpAny _ A.in1 _ _ _ s1;refine ak<|eU ?_;unfold setAdd;refine eU<|ak<|(intKind prog w).pyHash (Er _ _ _ _)<|add_int (S.at λo e=>mv.heap a o aw e) (by have:=firstMet_length_le val i;lia) λz h' sb S2=>?_;have ne:∀ c,c∈fp->c≠a:=λc m z=>ha<|z▸m;show ay #[Im acw _,ih (i+1) _ zb (W.frame _ s1 _ _ aiu (sx _) λc hc o e=>(sb.2 c<|ne c hc).trans e) (by rw[firstMet_succ];show S2) λs2 m2 S4=>fin s2 (Moved.trans W.gtrans ((mv.mono su).then_heap (sx _) λc o hc e=>((sb.2 c λz=>hc<|z▸.head _).trans e)) m2) S4]
end
section
variable {s:aq} {t:ai} 
def Qb (prog:cG) (w:bH) (s:aq) (ns:List Int) (s':aq):zk:=∃ h' tk,s'={ s with heap:=h',toks:=tk } /\ qN prog w (cQ w) h' s.heap.objs.size (dist ns) /\ Kp s.heap h'
theorem Rm {I:ai}{St:Nat->aq->zk}{P:Nat->aj->zk}{it:aV}(W:WalksS prog w A.in1 zF [s.heap.objs.size+1,t] [s.heap.objs.size+1] (λa b=>b=a) ns.length P St) (lt:t<s.heap.objs.size)
 (hv:∀ i v,P i v->∃ u,v=.int (ns.getD i 0) u) (hb:ns.length+1<scanBound) (st:St 0 { s with heap:=(s.heap.push<|rT w).push it }) (hf:it.isFreed=af)
 {F:Result->aq->zk}(h:∀ s',Qb prog w s ns s'->F (.ok<|.ret .none) s') :
 codeAny zf A (.builtin "set.update.loop" #[[.ref s.heap.objs.size,.ref zF],[]]) F { s with heap:=(s.heap.push<|rT w).push it }:=by
 refine J7 W ?_ _ hv hb ns.length 0 _ zb st (Rh<|aS _<|bA _ zj) λs' mv S=>?_
 .erw[bz,qY,or_false,not_or];show#[bJ<|sr _,xo lt]
 .let#[h',g',d',aiv,YT]:=s';have e1:=mv.gens;have e2:=mv.drawn;have e3:YT=s.os:=mv.os;subst e1 e2 e3;refine h _ #[h',aiv,rfl,S,λc o e=>mv.heap c o ?_<|aS _<|aS _ e];have cl:=ba e;simp[bz,qY,or_false,not_or];show#[bJ cl,bJ<|pS cl]
theorem M7 (hh:A.handled=ah) (ht:s.heap.IsList t vs.toArray) (hi:IntsAre vs ns) (hb:ns.length+1<scanBound) {F:Fin->aq->zk}(h:∀ s',Qb prog w s ns s'->F (.done<|.ret .none) s') :
 wpAny zf A (Builtin.«set.__init__» #[[.ref s.heap.objs.size,.ref t],[]]) F E { s with heap:=s.heap.push (rT w) }:=by
 have gS:(s.heap.push _).get? s.heap.objs.size=ae (rT w):=bA _ zj;have aej:(s.heap.push<|rT w).IsList t vs.toArray:=ht.at λo e=>aS _ e;let#[ot,Hg,_]:=id ht;have lt:=ba Hg;let#[#[oc,od,akW,pf],g1,g2,n,g3]:=id aej;simp at g2 g3;subst g2;subst g3;have y1:=PySem.F.sub_list_set;have y2:=PySem.F.sub_list_frozenset;have y3:(Value.type "list"==Value.type "dict")=af:=rfl;have sz:(s.heap.push<|rT w).objs.size=s.heap.objs.size+1:=uf ..;unfold Builtin.«set.__init__» noKeywords Builtin.Frozenset.updateFrom;generalize hP:pyIter=P
 wp_walk
 subst hP;refine Ih aej<|ak<|QQ ?_;rw[sz];have gI:((s.heap.push<|rT w).push { cls:=.type "list_iterator",data:=.fields (List.toArray [.ref t,.int 0 0]) }).get? zF=ae { cls:=.type "list_iterator",data:=.fields (List.toArray [.ref t,.int 0 0]) }:=by
  rw[<-sz];show bA _ zj
 have W:=(Walks.list (prog:=prog) (w:=w) (A:=A.in1) hh zF t (bJ<|pS lt) vs.toArray).toS;rw[show vs.toArray.size=ns.length by simpa using hi.length]at W;show Rm (I:=0) W lt (λi v e=>IntsAre.int_at hi i v (by simpa using e)) hb #[#[_,gI,rfl,rfl],ht.at λo e=>aS _<|aS _ e] zj λs' e=>ay<|ay<|h s' e
theorem M8 (hh:A.handled=ah) (ht:s.heap.IsList t vs.toArray) (hi:IntsAre vs ns) (hb:ns.length+1<scanBound) (h:∀ s',Qb prog w s ns s'->Q zad s') :
 wpAny zf A (call (.type "set") [.ref t]) Q E s:=by
 let#[c,tl,f1]:=PySem.F.called_set.mro;have f2:=PySem.F.called_set.made;have f3:=PySem.F.called_set.sub;have f4:=PySem.F.called_set.notType;have f5:=PySem.F.called_set.canCreate;have f6:=PySem.F.typeCall_set_1<|.ref t;refine Ie<|aa1<|ay #[XJ _ (by decide +kernel),tZ PySem.F.entry_type_call ?_];rw[Around.under_plain (weight_type_call_type "set" [.ref t] []) rfl]
 repeat (any_goals (first|assumption|wp_step))
 refine uV (Rj (.ref t) (E:=E) (Q:=λo s1=>o=.ref s.heap.objs.size /\ s1={ s with heap:=s.heap.push (rT w) }) #[rfl,rfl]) λr s1 hr=>?_;match r,hr with
 |.error e,hr=>show hr
 |.ok (.ret o),⟨e1,e2⟩=>
   subst e1;subst e2;have ty:Shared.TypeIs { s with heap:=s.heap.push (rT w) } zad "set":=#[_,(bA _ zj),rfl];have k1:=PySem.F.called_set.init.lookup;have k2:=PySem.F.called_set.init.bind zad
   repeat (any_goals (first|assumption|wp_step))
   refine uV (QP (R:=wants (λr s2=>r=.none /\ Qb prog w s ns s2) E) PySem.F.called_set.init.plain PySem.F.entry_set_init<|check_set_init_1 ty<|M7 (by simp[hh]) ht hi hb λs' e=>#[rfl,e]) λr2 s2 Hu=>?_
   .match r2,Hu with
    |.error e,Hu=>show Hu
    |.ok (.ret r),⟨e3,e4⟩=>
      subst e3
      repeat (any_goals (first|assumption|wp_step))
      show h _ e4
end
theorem gQ:Slot "set_iterator" "__next__" "set_iterator.__next__":=.of (owner:="set_iterator") (n:="__next__") (by kernel_rfl) (rfl) (rfl) (rfl) (.inl<|rfl) (by kernel_rfl)
theorem AA:Slot "set_iterator" "__iter__" "set_iterator.__iter__":=.of (owner:="set_iterator") (n:="__iter__") (by kernel_rfl) (rfl) (rfl) (rfl) (.inl<|rfl) (by kernel_rfl)
theorem lZ:entryFor table "set_iterator.__next__"=ae Builtin.«set_iterator.__next__»:=entryFor_of_tree (by kernel_rfl)
theorem Ch:entryFor table "set_iterator.__iter__"=ae Builtin.«dict_keyiterator.__iter__»:=aa3 (id':="dict_keyiterator.__iter__") (by kernel_rfl) zj (by decide +kernel) (by kernel_rfl)
theorem FV:entryFor table "set.__iter__"=ae Builtin.«frozenset.__iter__»:=aa3 (id':="frozenset.__iter__") (by kernel_rfl) zj (by decide +kernel) (by kernel_rfl)
theorem l5 (a:aj):argsOk "set_iterator.__next__" #[[a],[]]:=by
 kernel_rfl
theorem Ci (a:aj):argsOk "set_iterator.__iter__" #[[a],[]]:=by
 kernel_rfl
section
variable {s:aq}
theorem mJ {α:Type}:∀ (l:List α) {i:Nat}(h:i<l.length),(l[i]::l.eraseIdx i).Perm l
 |[],i,h=>absurd h<|Q3 _
 |x::l,0,h=>.refl _
 |x::l,i+1,h=>(List.Perm.swap ..).trans<|(mJ l _).cons x
theorem Rn (nx:Nat->Nat):∀ (f k:Nat) (l:List α) (out:Array α),l.length=f->(pickOrder.go nx f k l out).toList.Perm (out.toList++l):=by
 intro l_;induction l_ with
 |zero=>
   intro k l out h;have:=xw h;subst this;simp[pickOrder.go]
 |succ f aD=>
   intro k l out h;have lt:nx k % l.length<l.length:=abb _ zb;rw[pickOrder.go,cX lt];refine(aD _ _ _ (by rw[Xd lt];lia)).trans ?_;rw[Xq,sD];show afL _<|mJ l lt
theorem Cj (nx:Nat->Nat) (xs:Array α):(pickOrder nx xs).toList.Perm xs.toList:=by
 have:=Rn nx xs.size 0 xs.toList #[]<|rfl;simpa[pickOrder] using this
def kU (w:bH) (t:SetTable):Nat->Nat
 |0=>0
 |i+1=>if cQ w then 0 else t.place.getD i 0+1
def given (w:bH) (a:ai) (ep:Nat) (es:Array<|Int×aj):List aj:=(if cQ w then (pickOrder (w.params.setOrder a ep) es).toList else es.toList).map (·.2)
theorem mK (a:ai) (ep:Nat) (es:Array<|Int×aj):(given w a ep es).Perm (es.toList.map (·.2)):=by
 unfold given;split
 .show(Cj _ es).map _
 .show .refl _
theorem FW (h:cQ w=ag) (t:SetTable) (i:Nat):kU w t i=0:=by
 cases i with
 |zero=>rfl
 |succ i=>show if_pos h
theorem U0 {ms:List Int}{es:Array (Int×aj)}(ho:s.heap.get? a=ae o) (S:eE prog w (cQ w) o ns es ep t ms) (hp:cQ w=af->(!t.plain&&decide (es.size>1))=af) {i:Nat}{x:aj}(hx:(given w a ep es)[i]?=ae x)
 {Q:Option (aj×Nat)->aq->zk}(h:Q (ae (x,kU w t<|i+1)) s):wpAny zf A (setNext a (kU w t i) i ep) Q E s:=by
 have il:i<es.size:=by
  have:=(List.getElem?_eq_some_iff.mp hx).1;rw[(mK a ep es).length_eq,a8,nP]at this;show this
 refine ak<|vS ho S.d S.ft ?_;refine ak<|ak<|uY<|ay ?_;cases bt:cQ w with
 |true=>
   change wpAny _ _ (if cQ w=ag then _ else _) _ _ _;rw[if_pos bt];rw[if_neg zg];unfold setWalk setsByText;refine ak<|ak<|vS ho S.d S.ft<|ak<|ak<|uY<|ay ?_;change wpAny _ _ (if cQ w=ag then _ else _) _ _ _;rw[if_pos bt];refine ak<|uY<|ay<|ay ?_;unfold given at hx;rw[if_pos bt,kZ,qZ]at hx;rw[FW bt]at h ⊢;change Q (((pickOrder (w.params.setOrder a ep) es)[i]?).map λe=>(e.2,0)) s;cases q:(pickOrder _ es)[i]? with
   |none=>rw[q]at hx;cases hx
   |some e=>
     rw[q]at hx;cases hx;show h
 |false=>
   change wpAny _ _ (if cQ w=ag then _ else _) _ _ _;rw[if_neg (by rw[bt];decide)];unfold given at hx;rw[if_neg (by rw[bt];decide),kZ,qZ]at hx;have pl:t.place.size=es.size:=by
    have:=S.ft;simp[SetTable.fits,aL,beq_iff_eq]at this;show this.1
   have pi:t.place[i]?=ae (t.place.getD i 0):=by
    have:i<t.place.size:=by lia
    simp[this]
   have sl:SetTable.below t.place (kU w t i)=i:=by
    cases i with
    |zero=>show Bd S.ok.r
    |succ i=>
      have e1:kU w t (i+1)=t.place.getD i 0+1:=if_neg (by rw[bt];decide);rw[e1];refine Bc S.ok.r ?_;have:i<t.place.size:=by lia
      simp[this]
   split
   .ext c;show absurd ((c).symm.trans<|hp bt) zc
   .refine ak ?_;change wpAny _ _ (if (!t.led&&!es.isEmpty)=ag then _ else _) _ _ _;rw[if_neg (by rw[(S.ok.l bt)];simp)];refine ay<|ay ?_;rw[sl];cases q:es[i]? with
    |none=>rw[q]at hx;cases hx
    |some e=>
      rw[q]at hx;cases hx;rw[pi];have e1:kU w t (i+1)=t.place.getD i 0+1:=if_neg (by rw[bt];decide);rw[e1]at h;show h
end
section
variable {s:aq}
def uL (h:aE) (it a:ai) (k i n ep:Nat):zk:=∃ o u0 u1 u2 u3,h.get? it=ae o /\ o.cls=.type "set_iterator" /\ o.data=.fields (List.toArray [.int (k:Nat) u0,.int (i:Nat) u1,.ref a,.int (n:Nat) u2,.int (ep:Nat) u3])
theorem uL.typeIs {k i:Nat}(h:uL s.heap it a k i n ep):s.TypeIs (.ref it) "set_iterator":=by
 let#[o,_,_,_,_,e,c,_]:=h;show#[o,e,c]
theorem uL.at {h:aE}{k i:Nat}(x:uL h it a k i n ep) (e:∀ o,h.get? it=ae o->h'.get? it=ae o):uL h' it a k i n ep:=by
 let#[o,u0,u1,u2,u3,ho,r]:=x;show#[o,u0,u1,u2,u3,e o ho,r]
theorem Ro {ms:List Int}{es:Array (Int×aj)}{i:Nat}{x:aj}{Q:Option aj->aq->zk}(nv:a≠it) (hi:uL s.heap it a (kU w t i) i es.size ep) (ho:s.heap.get? a=ae o) (S:eE prog w (cQ w) o ns es ep t ms)
 (hp:cQ w=af->(!t.plain&&decide (es.size>1))=af) (hx:(given w a ep es)[i]?=ae x)
 (hQ:∀ h',uL h' it a (kU w t<|i+1) (i+1) es.size ep->Heap.SameBut it s.heap h'->Q (ae x) { s with heap:=h' }):wpAny zf A (pyNext<|.ref it) Q E s:=by
 have ty:=hi.typeIs;let#[oi,u0,u1,u2,u3,pQ,hc,hd]:=hi;unfold pyNext;refine ak<|ua<|qQ ty gQ<|eW gQ ty lZ ?_<|l5 _;unfold Builtin.«set_iterator.__next__»;refine ak<|ay ?_;refine ak<|xn pQ hd ?_;change wpAny _ _ _ _ _ s;refine ak<|Es ho S.d S.ft ?_;rw[if_neg zg];change wpAny _ _ (setNext a ((kU w t i):Int).toNat ((i):Int).toNat ((ep):Int).toNat >>= λr=>_) _ _ s;rw[pC,pC,pC];refine ak<|U0 ho S hp hx ?_;change wpAny _ _ _ _ _ s;have h1:(s.heap.update it _).get? it=ae (Obj.mapFields (·.setIfInBounds 0 (rawInt ((kU w t (i+1):Nat):Int))) oi):=sy _ pQ<|xI<|qy hd _;have d1:(Obj.mapFields (·.setIfInBounds 0 (rawInt ((kU w t (i+1):Nat):Int))) oi).data=.fields (List.toArray [rawInt ((kU w t (i+1):Nat):Int),.int (i:Nat) u1,.ref a,.int (es.size:Nat) u2,.int (ep:Nat) u3]):=by rw[qy hd];simp
 refine ak<|sq pQ hd zg ?_;change wpAny _ _ _ _ _ _;refine ak<|sq h1 d1 zg ?_;refine ay #[_,rfl,ay<|hQ _ #[_,0,0,u2,u3,sy _ h1<|xI<|qy d1 _,((Ez ..).trans<|(Ez ..).trans hc),?_]<|(Heap.SameBut.update ..).trans<|Heap.SameBut.update ..]
 .rw[qy d1];simp[rawInt]
end
section
variable {s:aq}
theorem U1 {ms:List Int}{es:Array (Int×aj)}(ho:s.heap.get? a=ae o) (S:eE prog w (cQ w) o ns es ep t ms) (hp:cQ w=af->(!t.plain&&decide (es.size>1))=af)
 {Q:Option (aj×Nat)->aq->zk}(h:Q ah s):wpAny zf A (setNext a (kU w t es.size) es.size ep) Q E s:=by
 refine ak<|vS ho S.d S.ft ?_;refine ak<|ak<|uY<|ay ?_;cases bt:cQ w with
 |true=>
   change wpAny _ _ (if cQ w=ag then _ else _) _ _ _;rw[if_pos bt,if_neg zg];refine ak<|ak<|vS ho S.d S.ft<|ak<|ak<|uY<|ay ?_;change wpAny _ _ (if cQ w=ag then _ else _) _ _ _;rw[if_pos bt];refine ak<|uY<|ay<|ay ?_;have e1:(pickOrder (w.params.setOrder a ep) es)[es.size]?=ah:=by
    have:=(Cj (w.params.setOrder a ep) es).length_eq;rw[nP,nP]at this;rw[<-this];simp
   change Q (((pickOrder (w.params.setOrder a ep) es)[es.size]?).map λe=>(e.2,kU w t es.size)) s;rw[e1];show h
 |false=>
   change wpAny _ _ (if cQ w=ag then _ else _) _ _ _;rw[if_neg (by rw[bt];decide)];have pl:t.place.size=es.size:=by
    have:=S.ft;simp[SetTable.fits,aL,beq_iff_eq]at this;show this.1
   have sl:SetTable.below t.place (kU w t es.size)=es.size:=by
    cases q:es.size with
    |zero=>show Bd S.ok.r
    |succ i=>
      have e1:kU w t (i+1)=t.place.getD i 0+1:=if_neg (by rw[bt];decide);rw[e1];refine Bc S.ok.r ?_;have:i<t.place.size:=by lia
      simp[this]
   split
   .ext c;show absurd ((c).symm.trans<|hp bt) zc
   .refine ak ?_;change wpAny _ _ (if (!t.led&&!es.isEmpty)=ag then _ else _) _ _ _;rw[if_neg (by rw[(S.ok.l bt)];simp)];refine ay<|ay ?_;rw[sl];have e2:es[es.size]?=ah:=by simp
    rw[e2];show h
theorem U2 {ms:List Int}{es:Array (Int×aj)}{Q:Option aj->aq->zk}(hh:A.handled=ah) (hi:uL s.heap it a (kU w t es.size) es.size es.size ep) (ho:s.heap.get? a=ae o) (S:eE prog w (cQ w) o ns es ep t ms)
 (hp:cQ w=af->(!t.plain&&decide (es.size>1))=af) (hQ:∀ h',Heap.ExtBut it s.heap h'->Q ah { s with heap:=h' }):wpAny zf A (pyNext<|.ref it) Q E s:=by
 have ty:=hi.typeIs;let#[oi,u0,u1,u2,u3,pQ,hc,hd]:=hi;refine ak<|ua<|qQ ty gQ<|eW gQ ty lZ ?_<|l5 _;refine ak<|ay ?_;refine ak<|xn pQ hd ?_;refine ak<|Es ho S.d S.ft ?_;rw[if_neg zg];change wpAny _ _ _ _ _ s;refine ak (U1 ho S hp (ak (sq pQ hd zg (ak (by
  refine ak<|eV (ak<|Em (by first|rfl|(rfl))<|eV ?_ (by size_fits)) (by size_fits);refine ak<|Ij ?_;rw[hh];refine ak<|ay<|Ik ?_;show ak (Ep #[_,bA _ zj,rfl] Il<|ay<|hQ _<|((Heap.SameBut.update ..).extBut.push _).push _))))))
theorem M9 (hh:A.handled=ah) (nv:a≠it) {ms:List Int}{es:Array (Int×aj)}(S:eE prog w (cQ w) o ns es ep t ms) (hp:cQ w=af->(!t.plain&&decide (es.size>1))=af) :
 Walks prog w A it [it,a] [it] es.size (λi v=>(given w a ep es)[i]?=ae v) (λi h=>uL h it a (kU w t i) i es.size ep /\ h.get? a=ae o) where
 sub:=λb hb=>by simp at hb;simp[hb]
 frame:=λ_ _ _ st hk=>#[st.1.at λo e=>hk it zg o e,hk a zg _ st.2]
 item:=λi s Q E hi st hQ=>by
  obtain⟨x,hx⟩:∃ x,(given w a ep es)[i]?=ae x:=by
   have:i<(given w a ep es).length:=by rw[(mK a ep es).length_eq,a8,nP];show hi
   show#[_,cX this]
  show Ro nv st.1 st.2 S hp hx λh' i' sb=>(hQ x h' s.toks hx #[i',(sb.2 a nv).trans st.2] λb o hb e=>(sb.2 b λz=>hb (by simp[z])).trans e)
 done:=λs Q E st hQ=>U2 hh st.1 st.2 S hp λh' he=>hQ h' s.toks λb o hb e=>he b o (λz=>hb (by simp[z])) e
 self:=λi s Q E st hQ=>by
  have ty:=st.1.typeIs;show Eo ty AA<|eW AA ty Ch (ay #[_,rfl, "set_iterator",_,ty,gQ.lookup,hQ])<|Ci _
end
section
variable {s:aq}
theorem Na {src:Source}{Q:Nat->aq->zk}(hn:n≠0) (h:∀ i,i<n->Q i { s with drawn:=s.drawn.bump src }):wpAny zf A (choose src n) Q E s:=λ_ _ _=>#[hn,h _<|abb _<|Nat.pos_of_ne_zero hn]
theorem DM {α:Type}:∀ (n:Nat) (l:List α) (s:aq) {Q:List α->aq->zk},l.length=n->(∀ l' d,l'.Perm l->Q l' { s with drawn:=d })->wpAny zf A (drawOrder n l) Q E s
 | 0,l,s,Q,hl,h=>by
   have:=xw hl;subst this;show ay<|h [] s.drawn<|.refl _
 |n+1,[],s,Q,hl,h=>by cases hl
 | n+1,x::l,s,Q,hl,h=>by
   refine ak<|Na zg λi hi=>?_;rw[cX hi];show ak<|DM n _ _ (by rw[Xd hi];lia) λl' d p=>ay<|h _ d<|(p.cons _).trans<|mJ _ hi
def uM (h:aE) (it a q:ai) (i n ep:Nat):zk:=∃ o u1 u2 u3,h.get? it=ae o /\ o.cls=.type "set_iterator" /\ o.data=.fields (List.toArray [.ref q,.int (i:Nat) u1,.ref a,.int (n:Nat) u2,.int (ep:Nat) u3])
theorem uM.typeIs {q:ai}{i:Nat}(h:uM s.heap it a q i n ep):s.TypeIs (.ref it) "set_iterator":=by
 let#[o,_,_,_,e,c,_]:=h;show#[o,e,c]
theorem uM.at {h:aE}{q:ai}{i:Nat}(x:uM h it a q i n ep) (e:∀ o,h.get? it=ae o->h'.get? it=ae o):uM h' it a q i n ep:=by
 let#[o,u1,u2,u3,ho,r]:=x;show#[o,u1,u2,u3,e o ho,r]
theorem Rp {q:ai}{oq:aV}{ms:List Int}{es:Array (Int×aj)}{c:Nat}{ps:List Nat}{i:Nat}{e:Int×aj}{Q:Option aj->aq->zk}(hi:uM s.heap it a q i es.size ep) (ho:s.heap.get? a=ae o) (S:eE prog w (cQ w) o ns es ep t ms)
 (hq:s.heap.get? q=ae oq) (yB:oq.data=.seq (ps.map λ(k:Nat)=>rawInt (k:Int)).toArray c) (hj:ps[i]?=ae j) (hx:es[j]?=ae e)
 (hQ:∀ h',uM h' it a q (i+1) es.size ep->Heap.SameBut it s.heap h'->Q (ae e.2) { s with heap:=h' }):wpAny zf A (pyNext<|.ref it) Q E s:=by
 have ty:=hi.typeIs;let#[oi,u1,u2,u3,pQ,hc,hd]:=hi;unfold pyNext;refine ak<|ua<|qQ ty gQ<|eW gQ ty lZ ?_<|l5 _;unfold Builtin.«set_iterator.__next__»;refine ak<|ay ?_;refine ak<|xn pQ hd ?_;change wpAny _ _ _ _ _ s;refine ak<|Es ho S.d S.ft ?_;rw[if_neg zg];change wpAny _ _ _ _ _ s;unfold seqItems?;refine ak<|ak<|xl hq ?_;rw[yB];refine ay ?_;dsimp only;rw[pC,show (ps.map λ(k:Nat)=>rawInt<|k).toArray[i]?=ae (rawInt<|j) by simp[hj]];change wpAny _ _ (setNextDrawn a ((j):Int).toNat ((ep):Int).toNat >>= λr=>_) _ _ s;rw[pC,pC];unfold setNextDrawn;refine ak<|ak<|vS ho S.d S.ft ?_;dsimp only;rw[if_neg zg,hx];refine ay ?_;change wpAny _ _ _ _ _ _;refine ak<|sq pQ hd zg ?_;refine ay #[_,rfl,ay<|hQ _ #[_,0,u2,u3,sy _ pQ<|xI<|qy hd _,(Ez ..).trans hc,?_]<|Heap.SameBut.update ..];rw[qy hd];simp[rawInt]
end
section
variable {s:aq}
theorem U3 {q:ai}{oq:aV}{ms:List Int}{es:Array (Int×aj)}{c:Nat}{ps:List Nat}{i:Nat}{Q:Option aj->aq->zk}(hh:A.handled=ah) (hi:uM s.heap it a q i es.size ep) (ho:s.heap.get? a=ae o) (S:eE prog w (cQ w) o ns es ep t ms)
 (hq:s.heap.get? q=ae oq) (yB:oq.data=.seq (ps.map λ(k:Nat)=>rawInt (k:Int)).toArray c) (hj:ps[i]?=ah)
 (hQ:∀ h',Heap.ExtBut it s.heap h'->Q ah { s with heap:=h' }):wpAny zf A (pyNext<|.ref it) Q E s:=by
 have ty:=hi.typeIs;let#[oi,u1,u2,u3,pQ,hc,hd]:=hi;refine ak<|ua<|qQ ty gQ<|eW gQ ty lZ ?_<|l5 _;refine ak<|ay ?_;refine ak<|xn pQ hd ?_;refine ak<|Es ho S.d S.ft ?_;rw[if_neg zg];refine ak<|ak<|xl hq ?_;rw[yB];refine ay ?_;dsimp only;rw[pC,show (ps.map λ(k:Nat)=>rawInt<|k).toArray[i]?=ah by simpa using hj];have d1:(Obj.mapFields (·.setIfInBounds 0 (rawInt 0)) oi).data=.fields (List.toArray [rawInt 0,.int (i) u1,.ref a,.int (es.size) u2,.int (ep) u3]):=by rw[qy hd];simp
 refine ak (sq pQ hd zg (ak (sq (sy _ pQ<|xI<|qy hd _) d1 zg (ak (by
  refine ak<|eV (ak<|Em (by first|rfl|(simp;rfl))<|eV ?_ (by size_fits)) (by size_fits);refine ak<|Ij ?_;rw[hh];refine ak<|ay<|Ik ?_;show ak (Ep #[_,bA _ zj,rfl] Il<|ay<|hQ _<|(((Heap.SameBut.update ..).trans<|Heap.SameBut.update ..).extBut.push _).push _))))))
noncomputable def Qc (es:Array<|Int×aj) (ps:List Nat):List aj:=ps.map λk=>(es.getD k (0,.none)).2
theorem DN {es:Array (Int×aj)}{ps:List Nat}(p:ps.Perm<|List.range es.size):(Qc es ps).Perm (es.toList.map (·.2)):=by
 refine(p.map _).trans (afM ?_);apply xu;intro i;by_cases h:i<es.size
 .simp[h]
 .simp[h]
theorem Rq (hh:A.handled=ah) {q:ai}(nv:a≠it) (aiw:q≠it) {oq:aV}{ms:List Int}{es:Array (Int×aj)}{c:Nat}{ps:List Nat}(S:eE prog w (cQ w) o ns es ep t ms)
 (yB:oq.data=.seq (ps.map λ(k:Nat)=>rawInt (k:Int)).toArray c) (p:ps.Perm<|List.range es.size) :
 Walks prog w A it [it,a,q] [it] es.size (λi v=>(Qc es ps)[i]?=ae v) (λi h=>uM h it a q i es.size ep /\ h.get? a=ae o /\ h.get? q=ae oq) where
 sub:=λb hb=>by simp at hb;simp[hb]
 frame:=λ_ _ _ st hk=>#[st.1.at λo e=>hk it zg o e,hk a zg _ st.2.1,hk q zg _ st.2.2]
 item:=λi s Q E hi st hQ=>by
  have il:i<ps.length:=by rw[p.length_eq,xr];show hi
  have ej:=cX il;have jl:=List.mem_range.mp<|p.mem_iff.mp<|sF il;have ex:es[ps[i]]?=ae es[ps[i]]:=by simp
  refine Rp st.1 st.2.1 S st.2.2 yB ej ex λh' i' sb=>?_;refine hQ _ h' s.toks ?_ #[i',(sb.2 a nv).trans st.2.1,(sb.2 q aiw).trans st.2.2] λb o hb e=>(sb.2 b λz=>hb (by simp[z])).trans e;unfold Qc;rw[kZ,ej];simp[jl]
 done:=λs Q E st hQ=>U3 hh st.1 st.2.1 S st.2.2 yB (qX (by rw[p.length_eq,xr];show aH _)) λh' he=>hQ h' s.toks λb o hb e=>he b o (λz=>hb (by simp[z])) e
 self:=λi s Q E st hQ=>by
  have ty:=st.1.typeIs;refine Eo ty AA<|eW AA ty Ch ?_<|Ci _;change wpAny _ _ _ _ _ s;show ay #[_,rfl, "set_iterator",_,ty,gQ.lookup,hQ]
end
section
variable {s:aq}
def aix (prog:cG) (w:bH) (A:cE) (s:aq) (a:ai) (es:Array<|Int×aj) (it:ai) (s':aq):zk:=
 ∃ (h':aE) (d:Drawn) (us:List aj) (fp:List ai) (St:Nat->aE->zk),s'={ s with heap:=h',drawn:=d } /\ Kp s.heap h' /\ us.Perm (es.toList.map (·.2)) /\ it∈fp /\ (∀ b∈fp,b<h'.objs.size /\ (b=a \/ s.heap.objs.size<=b)) /\ s.heap.objs.size<=it /\
  Walks prog w A it fp [it] es.size (λi v=>us[i]?=ae v) St /\ St 0 h' /\ ∀ i h,St i h->∃ o,h.get? it=ae o /\ o.cls=.type "set_iterator"
theorem Nb (hh:A.handled=ah) {ms:List Int}{es:Array (Int×aj)}(ho:s.heap.get? a=ae o) (S:eE prog w (cQ w) o ns es ep t ms)
 (h:∀ it s',aix prog w A s a es it s'->Q (.ref it) s'):wpAny zf A (pyIter zaf) Q E s:=by
 have ty:s.TypeIs zaf "set":=#[o,ho,S.x.1];have al:=ba ho;refine Eo ty ack<|eW ack ty FV ?_<|F.args_set_iter_1 _;unfold Builtin.«frozenset.__iter__»;change wpAny _ _ (Builtin.Frozenset.sizeOf a >>= λn=>_) _ _ s;unfold Builtin.Frozenset.sizeOf;refine ak<|ak<|Es ho S.d S.ft<|ay ?_;unfold setDrawn setsByText;refine ak<|ak<|vS ho S.d S.ft<|ak<|ak<|uY<|ay<|ay ?_;dsimp only;split
 .ext c;have c':(!cQ w&&(!t.plain&&decide _))=ag:=c;refine ak<|DM es.size _ s zg λps d p=>?_;unfold newTuple;refine ak (eV ?_ ?_)
  .have Ht:(s.heap.push { cls:=.type "tuple",data:=.seq (ps.map λ(k:Nat)=>rawInt<|k).toArray }).get? a=ae o:=aS _ ho;refine ak<|aa4 Ht S.d S.ft ?_;unfold newFields;refine ak<|eV (ay ?_) (by size_fits);have sz:(s.heap.push { cls:=.type "tuple",data:=.seq (ps.map λ(k:Nat)=>rawInt<|k).toArray }).objs.size=s.heap.objs.size+1:=uf ..;have gi:=bA (s.heap.push { cls:=.type "tuple",data:=.seq (ps.map λ(k:Nat)=>rawInt<|k).toArray }) (o:={ cls:=.type "set_iterator",data:=.fields [.ref s.heap.objs.size,rawInt 0,.ref a,rawInt (es.size:Nat),rawInt (ep:Nat)].toArray }) zj
   refine#[_,rfl, "set_iterator",_,#[_,gi,rfl],gQ.lookup,h _ _ #[_,d,Qc es ps,[_,a,s.heap.objs.size],_,rfl,λb o e=>aS _<|aS _ e,DN p,.head _,λb hb=>?_,by rw[sz];show sx _,
    Rq hh (by rw[sz];show bJ (pS al)) (by rw[sz];show bJ (sr _)) S zj p,#[#[_,_,_,_,gi,rfl,rfl],aS _ Ht,aS _<|bA _ zj],λi h st=>?_]]
   .rw[uf,sz];erw[bz,qY,or_false]at hb;rcases hb with rfl|rfl|rfl
    .rw[sz];show#[sr _,.inr<|sx _]
    .show#[pS<|pS al,.inl zj]
    .show#[pS<|sr _,.inr<|aH _]
   .let#[#[oi,_,_,_,e,cl,_],_]:=st;show#[oi,e,cl]
  .change (ps.map λ(k:Nat)=>rawInt (k:Int)).toArray.size<=sizeLine;have l1:=p.length_eq;have bd:=S.bd;have sb:scanBound=4096:=rfl;have sl:sizeLine=16777216:=bC;rw[xr]at l1;simp;lia
 .ext c;refine ak<|ay ?_;change wpAny _ _ (setEpoch a >>= λe=>_) _ _ s;refine ak<|aa4 ho S.d S.ft ?_;change wpAny _ _ (newFields "set_iterator" [rawInt 0,rawInt 0,.ref a,rawInt (es.size:Nat),rawInt (ep:Nat)] >>= λv=>ret v) _ _ s;unfold newFields;refine ak<|eV (ay ?_) (by size_fits);have gi:(s.heap.push { cls:=.type "set_iterator",data:=.fields [rawInt 0,rawInt 0,.ref a,rawInt (es.size:Nat),rawInt (ep:Nat)].toArray }).get? s.heap.objs.size=ae { cls:=.type "set_iterator",data:=.fields [rawInt 0,rawInt 0,.ref a,rawInt (es.size:Nat),rawInt (ep:Nat)].toArray }:=bA _ zj;refine#[_,rfl, "set_iterator",_,#[_,gi,rfl],gQ.lookup,h _ _ #[_,s.drawn,given w a ep es,[s.heap.objs.size,a],_,rfl,λb o e=>aS _ e,mK a ep es,.head _,λb hb=>?_,aH _,M9 hh (bJ al) S (λz=>by
   have c':¬ ((!cQ w&&(!t.plain&&decide (es.size>1)))=ag):=c;rw[z]at c';simpa using c'),#[#[_,_,_,_,_,gi,rfl,rfl],aS _ ho],λi h st=>?_]]
  .rw[uf];simp at hb;rcases hb with rfl|rfl
   .show#[sr _,.inr<|aH _]
   .show#[pS al,.inl zj]
  .let#[#[oi,_,_,_,_,e,cl,_],_]:=st;show#[oi,e,cl]
end
section
variable {s:aq}
noncomputable abbrev ZF:aV:={ cls:=.type "list",data:=.seq ([]:List aj).toArray }
def aiy (s:aq) (s':aq):zk:=∃ h' d tk,s'={ s with heap:=h',drawn:=d,toks:=tk } /\ Kp s.heap h' /\ s.heap.objs.size<=h'.objs.size
theorem DO (hh:A.handled=ah) {ms:List Int}{es:Array (Int×aj)}{Q:List aj->aq->zk}(ho:s.heap.get? a=ae o) (S:eE prog w (cQ w) o ns es ep t ms)
 (h:∀ us s',us.Perm (es.toList.map (·.2))->aiy s s'->Q us s'):wpAny zf A (collect zaf) Q E s:=by
 have nl:s.heap.objs.size≠a:=xo<|ba ho;have ty:∀ h' d tk,Kp s.heap h'->Shared.TypeIs { s with heap:=h',drawn:=d,toks:=tk } zaf "set":=λh' d tk k=>#[o,k a o ho,S.x.1];unfold collect;refine ak (QQ (tZ F.entry_proto_collect (by
  rw[XO F.plain_proto_collect _];refine ak<|eV (ay #[Im acm _,tZ F.entry_list_iadd ?_]) (by size_fits);rw[XO acm _];change wpAny _ A.in1 (Builtin.List.listExtendWith _ _ _) _ _ _;unfold Builtin.List.listExtendWith;have k1:Kp s.heap (s.heap.push ZF):=λb ob e=>aS _ e;refine ak<|vQ (ty _ s.drawn s.toks k1) ?_;rw[if_neg (by simp[Builtin.List.listSameRef,nl])];refine ak<|Nb (by simp[hh]) (k1 a o ho) S λit s1 bg=>?_;let#[h1,d,us,fp,St,rfl,k2,pu,mi,fl,ge,W,aiz,cl]:=bg;have k3:Kp s.heap h1:=λb ob e=>k2 b ob<|k1 b ob e;have g0:h1.get? s.heap.objs.size=ae ZF:=k2 _ _<|bA _ zj;refine ak<|eU ?_;unfold Builtin.List.listLengthHint;refine ak<|aaX (ty h1 d s.toks k3) F.slot_set_len.lookup ?_;dsimp only;rw[show splitId "set.__len__"=ae ("set","__len__") by decide +kernel];dsimp only;refine ak<|Ep (b:=ag) (ty h1 d s.toks k3) aa2 ?_;rw[if_neg zc];rw[if_pos (by decide +kernel)];refine ak<|vQ (ty h1 d s.toks k3) ?_;refine ay ?_;rw[if_pos (by decide +kernel)];refine ak<|qu<|ak ?_;change wpAny _ A.in1 _ _ _ _;have g1:=sy (Obj.mapSeq (·.push Value.none)) g0 zj;have z1:(s.heap.push ZF).objs.size=s.heap.objs.size+1:=uf ..;have aiA:s.heap.objs.size+1<=it:=z1▸ge;have nf:s.heap.objs.size∉fp:=λm=>by
   rcases(fl _ m).2 with z|z
   .show nl z
   .show absurd (z1▸z:s.heap.objs.size+1<=s.heap.objs.size)<|Nat.not_succ_le_self _
  have aek:∀ b ob,b≠s.heap.objs.size->h1.get? b=ae ob->((h1.update s.heap.objs.size (Obj.mapSeq (·.push Value.none))).update s.heap.objs.size (Obj.mapSeq (·.pop))).get? b=ae ob:=λb ob ne e=>(Ip _ _<|Ne.symm ne).trans<|(Ip _ _<|Ne.symm ne).trans e;refine ak (aa5 g0 zj (aa5 g1 zj (ay #[Im F.plain_extend_loop _,codeAny_extend_loopS W.toS (QV S.bd) _ nf _ es.size 0 _ _ _ zj (dR _) (W.frame 0 h1 _ aiz λb hb ob e=>aek b ob (λz=>nf<|z▸hb) e) (sy (Obj.mapSeq (·.pop)) g1 zj) (ItemsOf.nil _) λs2 acc c mv gs Qd=>?_])));refine ak<|xl gs<|ay<|h _ s2 ?_ ?_
  .have e1:acc.toList=us:=by
    have ul:us.length=es.size:=by rw[pu.length_eq,a8,nP]
    apply xu;intro j;by_cases hj:j<acc.size
    .have ej:acc[j]?=ae acc[j]:=by simp
     rw[qZ,ej];show(Qd.2 j _ ej).symm
    .have h3:=Qd.1;rw[qZ,Xr zb,qX zb]
   rw[e1];show pu
  .let#[h2,gg,dd,tk,os]:=s2;have q1:gg=s.gens:=mv.gens;have q2:dd=d:=mv.drawn;have q3:os=s.os:=mv.os;subst q1 q2 q3;refine#[h2,dd,tk,rfl,λb ob e=>?_,eX<|ba gs];have bl:=ba e;refine mv.heap b ob ?_<|aek b ob (bJ bl)<|k3 b ob e;simp[bz,qY,or_false,not_or];show#[bJ bl,bJ<|eG (pS bl) aiA])))
end
section
variable {s:aq}
theorem FX (hh:A.handled=ah) (S:qN prog w (cQ w) s.heap a ns) (di:ns.length<64)
 (h:∀ (l:ai) (out:Array aj) (ks:List Int) (c:Nat) (h':aE) (d:Drawn) (tk:Nat),IntsAre out.toList ks->ks.Perm ns->ks.Pairwise (·<=·)->Kp s.heap h'->s.heap.objs.size<=l->h'.get? l=ae (seqObj "list" out c)->Q (.ref l) { s with heap:=h',drawn:=d,toks:=tk }) :
 wpAny zf A (call (.builtin "sorted") [.ref a]) Q E s:=by
 let#[o,es,ep,t,ms,ho,S]:=S;refine Kb IH II IJ (IK _) ?_;refine ak<|ay<|ak<|DO (by simp[hh]) ho S λus s1 pu wk=>?_;let#[h1,d,tk,rfl,k1,le]:=wk;let#[ks,ik,pk]:=jU pu S.vs;have ul:us.length<64:=by
  rw[ik.length,pk.length_eq,S.pm.length_eq];show di
 refine ak<|xm ?_;have gl:(h1.push _).get? h1.objs.size=ae (seqObj "list" us.toArray 0):=bA _ zj;refine ak<|eU<|eW IL #[_,gl,rfl] IM (abT gl ik ul λout js a1 a2 a3=>#[_,rfl,ay #[_,rfl,?_]])<|IP _;let#[c,gc]:=abY gl;show h _ out js c _ d tk a1 ((a2.trans pk).trans S.pm) a3 (λb ob e=>by
  have bl:=ba<|k1 b ob e;rw[Xp (bJ bl) (by rw[uf];show pS bl)];show aS _ (k1 b ob e)) le gc
end
end HT
namespace L2
open PySem.W
section
variable {a:au} {p p2 uJ:aK} {t:TA}
def ael (K:Frag) (vs:List V) (H:Hp) (Q:VK):zk:=∃ (p:ai) (ns:List Int),vs=[.ref p] /\ bI K H p (ns.map V.int) /\ ns.length<4000 /\ (HT.dist ns).length<64 /\ ∀ l,H l=ah->Q (.ref l) (upd H l<|.lst<|(DL.sortI<|HT.dist ns).map V.int)
theorem FY (hc:X.calm=ag) (hg:Gl X "sorted") (hm:X.mg "sorted"=ah) (wI:Gl X "set") (wJ:X.mg "set"=ah) (ha:PA X [a] t) (hs:DL.cu a=ag) :
 PE X (.Call (.Name "sorted" p) [.Call (.Name "set" p2) [a] [] uJ] [] pos) (Kl (ael X.K) t):=by
 intro pins s σ H Q I h;have st:=DL.fI (e:=.Call (.Name "set" p2) [a] [] uJ) zj [] X.env;refine sk<|jC I hg hm (by decide +kernel:bootBuiltins "sorted"=ae (.builtin "sorted")) ?_ zc<|rfl;refine callWith_builtin1 ?_ st<|DL.ic zj;rw[st];change wpAny _ _ (spliced ((af,eval (.Call (.Name "set" p2) [a] [] uJ) X.env)::backTo pos (starEach [] X.env))) _ _ s;refine EC<|sk<|jC I wI wJ (rfl:bootBuiltins "set"=ae (.type "set")) ?_ zc<|rfl;refine callWith_type1 (tA (ha uJ pins s σ H _ I h) λus s1 vs H1 I1 r1 q1=>?_) (DL.fI hs [] X.env) zj;let#[l,ns,rfl,hl,hn,di,q]:=q1;let#[u,rfl,ru]:=Vals.one r1;cases ru;have sb:scanBound=4096:=rfl;have hd:=I1.ok.hd hc;let#[its,r',pl,hz]:=I1.list hl;show HT.M8 hd pl.isList (Bb r') zb (λs' e=>by
  let#[h',tk,rfl,S,hk]:=e;have lz:s1.heap.objs.size<=h'.objs.size:=by
   let#[o,_,_,_,_,ho,_]:=S;show eX<|ba ho
  refine EB<|HT.FX hd S di λL out ks c h2 d aiB a1 a2 a3 k2 le gL=>?_;have e:=DL.Aa (a2.trans (DL.gU _).symm) a3<|DL.jR _;subst e;have ll:((DL.sortI<|HT.dist ns).map V.int).length<=sizeLine:=by
   rw[a8,(DL.gU _).length_eq];show dF (eX di) zc
  have I2:=I1.laid (t':=aiB) (o:=.lst<|(DL.sortI<|HT.dist ns).map V.int) (λb u e=>k2 b u<|hk b u e) (dF lz le) #[ll,out.toList,c,DL.oP a1,gL];show#[.ref L,_,#[I2.ok,I2.os,I2.bare,I2.base,I2.loc,I2.cell,I2.free,I2.nG,I2.pin,I2.aF,I2.len],rfl,q L<|I1.aF.fresh<|dF lz le])
end
end L2
namespace L2.DL
open PySem.W
def wX:List D->Option Res:=λxs=>match xs with
 |[.lst l]=>(intsOf l).bind λns=>if ns.length<4000 /\ (HT.dist ns).length<64 then ae (.lst<|(sortI<|HT.dist ns).map D.int) else ah
 |_=>ah
theorem aiC:ng (ael K) wX:=by
 intro F H xs vs Q s sub rx e k;unfold wX at e;split at e
 .ext l;let#[v,t,rfl,#[a,ws,rfl,h3,h4],h2]:=rx;cases (h2);cases e1:intsOf l with
  |none=>rw[e1]at e;cases e
  |some ns=>
    rw[e1]at e;erw[bS]at e;split at e
    .ext hn;cases e;have q1:=h4.ints e1;subst q1;show#[a,ns,rfl,.of h3,hn.1,hn.2,λp hp=>k _ _ #[p,_,rfl,hp,rfl,A3 _]]
    .cases e
 .cases e
section
variable {a:au} {p p2 uJ:aK} 
theorem FZ (bo:Bool) (hc:X.calm=ag) (hg:Gl X "sorted") (hm:X.mg "sorted"=ah) (wI:Gl X "set") (wJ:X.mg "set"=ah) (ha:dJ X T Z [a] m) (hs:cu a=ag) :
 PD X T Z (.Call (.Name "sorted" p) [.Call (.Name "set" p2) [a] [] uJ] [] pos) (dN bo wX m):=PE.imp (FY hc hg hm wI wJ ha hs)<|Mm aiC
end
end L2.DL
namespace HT
open PySem.W
section
variable {s:aq} {v d:ai} {i:Nat}
end
section
variable {K:Type} [DecidableEq K] {knd:HeapKind prog w K} {s:aq} {d:ai} {k:K} {xs:List (K × ai × aj)} {v:aj}
end
end HT
namespace L2
open PySem.W
section
variable {o f:au} {cJ p:aK} {td ty tx:TE}
end
section
variable {elt it aiD Qd:au} {aiE:List au} {scope:bK} {i acc:aj} {env:Env}
end
section
variable {s:aq}
end
abbrev TK:=St->Hp->List Int->(St->Hp->List Int->zk)->zk
section
variable {s:aq} {D:ai} 
end
section
variable {src:List (Option Nat)} {elt:au} {rest:List Comprehension} {scope:bK} {cJ p:aK} {wi:TI} {g:TG} {tf:TT} {k:TK} {body:aj -> Env -> Sem Unit}
end
end L2
namespace L2.DL
section
variable {a:au} {p p1:aK}
end
section
variable {src:List (Option Nat)} {elt:au} {scope:bK} {m:DE W} {g:DG} 
end
open PySem.W
abbrev DK:=aP->List Bx->List Int->Option (aP×List Bx×List Int)
section
variable {g:DG} {k:DK}
end
section
variable {src:List (Option Nat)} {elt aiD Qd:au} {aiE:List au} {scope:bK} {cJ p:aK} {akX:DE (List W)} {g g2:DG} {akY:DE Bool} 
end
def yC:List D->Option (List Key)
 |[]=>ae []
 |d::l=>(rQ d).bind λk=>(yC l).map λt=>k::t
theorem Rs:∀ {l:List D}{ks:List Key}{vs:List V},yC l=ae ks->aJ F l vs->vs=ks.map kV:=by
 intro l_;induction l_ with
 |nil=>(intro _ _ e h;cases e;show h)
 |cons d l aD=>
   intro ks _ e h;let#[v,t,rfl,h1,h2]:=h;unfold yC at e;cases e1:rQ d with
   |none=>rw[e1]at e;cases e
   |some k=>
     cases e2:yC l with
     |none=>rw[e1,e2]at e;cases e
     |some t'=>
       rw[e1,e2]at e;cases e;rw[jT e1 h1,aD e2 h2];rfl
theorem bV.length {F:Hp}:∀ {l:List (List Key×D)}{r:List (List Key×V)},bV F l r->l.length=r.length
 |[],_,h=>by cases (h);rfl
 | (k,d)::l,_,h=>by
   let#[v,t,rfl,_,h2]:=h;simp[h2.length]
section
variable {o f:au} {p cJ:aK} 
noncomputable def yD:DE W:=λ_ bx=>.val (.b bx.length)<|bx++[.dT []]
theorem Rt:PD X T Z (.Dict [] [] pos) yD:=by
 refine PE.imp MH λσ H Q=>x4 λF r env bx R h=>λq hq=>?_;refine h F _ _ _ #[Sub.refl F,pX r [q]] (R.E5 hq #[R.vn hq,[],fv,rfl]) #[q,rfl,?_];rw[<-R.len,eI<|aH _,nO];rfl
end
section
variable {o f:au} {Kj:aK}
noncomputable def vF (l:List<|Key×D) (k:Key):List (Key×D):=l.filter λkv=>decide (kv.1≠k)
theorem aT.drop {F:Hp}(k:Key):∀ {l:List (Key×D)}{vs:List (Key×V)},aT F l vs->aT F (vF l k) (tM vs k)
 | [],_,h=>by
   cases (h);show rfl
 | (k',d)::l,_,h=>by
   let#[v,t,rfl,h1,h2]:=h;have ih:=aT.drop k h2;by_cases c:k'=k
   .have e1:vF ((k',d)::l) k=vF l k:=xA (by simp[c]);have e2:tM ((k',v)::t) k=tM t k:=xA (by simp[c]);rw[e1,e2];show ih
   .have e1:vF _ k=(k',d)::vF l k:=xC (by simp[c]);have e2:tM _ k=(k',v)::tM t k:=xC (by simp[c]);rw[e1,e2];show#[v,_,rfl,h1,ih]
theorem bq.at {r':List ai}(g:bq F r F' r') (h:r[n]?=ae a):r'[n]?=ae a:=by
 let#[t,e]:=g.p;rw[<-e,dH (List.getElem?_eq_some_iff.mp h).1];show h
def vG (m k:DE W):DE W:=λenv bx=>fC zI λx bx1=>match x with
 | .b n=>(match bx1[n]? with
   | some (.aG _)=>fC (k env bx1) λy ax=>(match y,ax[n]? with
     |.d d,ae (.aG l)=>(match rQ d with|some k=>.val (.d<|(kR l k).getD .aB) ax|none=>.bad)
     |_,_=>.bad)
   |_=>.bad)
 |_=>.bad
theorem Ru {Q:VK}(h:tD T Z (vG ma mb) σ H Q):adX (tD T Z ma) (tD T Z mb) σ H Q:=by
 let#[F,r,env,bx,R,h]:=h;refine#[F,r,env,bx,R,End.bind h λx bx1 F1 r1 v H1 g1 R1 d1 h1=>?_];cases x with
 |b n=>
   simp at h1;let#[a,rfl,ha]:=d1;let#[c,hc,kc]:=R1.hV ha;rw[hc]at h1;cases c with
   |aG l0=>
     let#[_,vt,k0,_]:=kc;refine#[a,rfl,.inl #[vt,.inl k0],F1,r1,env,bx1,R1,End.bind h1 λy ax F2 r2 u H2 g2 R2 d2 h2=>?_];let#[c2,nV,uC]:=R2.hV<|g2.at ha;rw[nV]at h2;split at h2
     .ext d l eq;cases eq;let#[hF,vs,k1,k2]:=uC;split at h2
      .ext k e1;cases jT e1 d2;refine#[_,qH.k k1,?_];cases q:kR l k with
       |none=>
         rw[q]at h2;rw[aT.none k2 q];show h2 F2 r2 _ H2 (.refl F2 r2) R2 zj
       |some w=>
         rw[q]at h2;let#[z,e3,e4]:=aT.some k2 q;rw[e3];show h2 F2 r2 _ H2 (.refl F2 r2) R2 e4
      .show h2.elim
     .show h2.elim
   |_=>show h1.elim
 |_=>show h1.elim
theorem Nc (hu:X.A.units+1<cLine) (ho:PD X T Z o ma) (ha:PD X T Z e mb) (m:M1 X o "get" apos e pos):PD X T Z (.Call (.Attribute o "get" apos) [e] [] pos) (vG ma mb):=
 PE.imp (MK hu ho ha m) λσ H Q h=>Ru h
def uN (m k:DE W):az:=λenv bx=>br zI λx bx1=>br (k env bx1) λy ax=>match x,y with
 | .b n,.d d=>(match ax[n]?,rQ d with
   |some (.aG l),ae k=>if (kR l k).isSome then .nx env (ax.set n<|.aG<|vF l k) else .bad
   |_,_=>.bad)
 |_,_=>.bad
theorem WF {D:Ends}(h:tS T Z (uN ma mb) D σ H):adV (tD T Z ma) (tD T Z mb) D σ H:=by
 let#[F,r,env,bx,R,h]:=h;refine#[F,r,env,bx,R,End.br h λx ax F2 r2 v H2 g2 R2 d2 h2=>#[F2,r2,env,ax,R2,End.br h2 λy cj F3 r3 u H3 g3 R3 d3 h3=>?_]];split at h3
 .let#[a,rfl,ha]:=(g3.den d2);let#[c,hc,kc]:=R3.hV ha;rw[hc]at h3;split at h3
  .ext l k e1 e2;cases e1;split at h3
   .ext hl;let#[hF,ao,k1,k2]:=kc;cases jT e2 d3;show#[a,ao,k,rfl,k1,rfl,by rw[MW k2];show hl,h3 F3 r3 _ _ (.refl F3 r3)<|R3.write ha hF #[hF,_,fv,aT.drop k k2]]
   .show h3.elim
  .show h3.elim
 .show h3.elim
theorem Rv (ho:PD X T Z o ma) (hi:PD X T Z e mb):cx X T Z (.Delete [.Subscript o e Kj] pos) (uN ma mb):=
 PS.imp (PJ ho hi) λD σ H h=>WF h
def rV (m:DE W) (k:DE W):DE W:=λenv bx=>fC zI λx bx1=>match x with
 | .b n=>(match bx1[n]? with
   | some (.lst _)=>fC (k env bx1) λy ax=>(match y,ax[n]? with
     |.d (.lst r),ae (.lst l)=>if l.length+r.length<=sizeLine then .val (.d .aB) (ax.set n<|.lst<|l++r) else .bad
     |_,_=>.bad)
   |_=>.bad)
 |_=>.bad
theorem WG {Q:VK}(h:tD T Z (rV ma mb) σ H Q):Ks X.K "list" ac9 (tD T Z ma) (Kk (tD T Z mb) EK) σ H Q:=by
 let#[F,r,env,bx,R,h]:=h;refine#[F,r,env,bx,R,End.bind h λx bx1 F1 r1 v H1 g1 R1 d1 h1=>?_];cases x with
 |b n=>
   simp at h1;let#[a,rfl,ha]:=d1;let#[c,hc,kc]:=R1.hV ha;rw[hc]at h1;cases c with
   |lst l0=>
     let#[_,vt,k0,_]:=kc;refine#[.inl #[rfl,vt,bI.of k0],F1,r1,env,bx1,R1,End.bind h1 λy ax F2 r2 u H2 g2 R2 d2 h2=>?_];have vv:=g2.at ha;let#[c2,nV,uC]:=R2.hV vv;rw[nV]at h2;split at h2
     .ext q l eq;cases eq;let#[hF,vs,k1,k2]:=uC;let#[b,zs,rfl,k3,k4]:=d2;split at h2
      .ext hz;show#[a,b,vs,zs,rfl,rfl,k1,R2.fh _ _ k3,by rw[<-k2.length,<-k4.length];show hz,h2 F2 r2 _ _ (.refl F2 r2) (R2.write vv hF #[hF,vs++zs,fv,k2.append k4]) zj]
      .show h2.elim
     .show h2.elim
   |_=>show h1.elim
 |_=>show h1.elim
theorem J8 (ho:PD X T Z o ma) (ha:PD X T Z e mb)
 (ur:attributeBase o "extend" X.env (eval o X.env)=eval o X.env:=by rfl)
 (wx:((backTo pos<|starEach [e] X.env).all (λx=>!x.1)&&(backToKw pos<|keywordEach [] X.env).all (λx=>x.1.isSome)
  && decide zab)=ag:=by rfl)
 (p8:(apos.endLine==pos.line)=ag:=by rfl) (hs:starEach [e] X.env=zae::starEach [] X.env:=by rfl) :
 PD X T Z (.Call (.Attribute o "extend" apos) [e] [] pos) (rV ma mb):=
 PE.imp (BZ xK PySem.F.slot_list_extend PySem.F.type_list_extend JF ho (fw ha fR hs) ur wx p8 hs (by rfl)) λσ H Q h=>WG h
end
section
variable {i:Nat} {l:List D} {vs:List V}
end
end L2.DL
namespace L2
end L2
namespace L2.DL
section
variable {a b c f o:au} {p:aK} {k k' nn:Nat} {ps:List Str} 
end
end L2.DL
namespace L2
open PySem.W
section
variable {s:aq} {ao:List (Key × V)} 
theorem Inv.aem (I:Inv X pins σ H s) {u0 u:HO}(h:H a=ae u0) (n1:∀ xs,u0≠.tup xs) (n2:∀ o v,X.H₀ a≠ae (.bF o v)) (n3:∀ ps,u0≠.rf ps) (n4:∀ y,u0≠.own y) (new:dn X.prog X.w (upd H a u) s.heap a u):Inv X pins σ (upd H a u) s:=by
 have ne:∀ {b},H b=ah->upd H a u b=ah:=λ{b} e=>by rw[fu (λz=>by rw[z,h]at e;cases e)];show e
 have ke:∀ {b v},H b=ae v->v≠u0->upd H a u b=ae v:=λ{b v} e n=>by rw[fu (λz=>by rw[z,h]at e;cases e;show n rfl)];show e
 refine#[I.ok,I.os,I.bare,#[I.base.keep,I.base.slot,λb o e n x=>ne<|I.base.free b o e n x,I.base.there,λb xs e=>ke (I.base.kJ b xs e) λz=>n1 xs z.symm,λb o v e=>?_,λb ps e=>?_],I.loc,I.cell,ne I.free,λx c e=>ne<|I.nG x c e,λp hp=>?_,λb v e=>?_,I.len]
 .rw[fu λz=>n2 o v (by rw[<-z];show e)];show I.base.k7 b o v e
 .let#[m,q]:=I.base.nR b ps e;show#[m,ke q λz=>n3 _ z.symm]
 .let#[q1,q2,q3]:=I.pin p hp;show#[q1,ne q2,q3]
 .by_cases z:b=a
  .subst z;rw[fv]at e;cases e;show new
  .rw[fu z]at e;show(I.aF b v e).eZ (λ_ _ _ q=>q) (λc q=>ke q λz=>n4 _ z.symm) λc xs q=>ke q λz=>n1 _ z.symm
theorem Inv.freeze (I:Inv X pins σ H s) (h:H a=ae (.dK ao)):∃ o,s.heap.get? a=ae o /\ (∀ o v,X.H₀ a≠ae (.bF o v)) /\ Inv X pins σ (upd H a zap) s:=by
 let#[z,y,vs,r,ob,es,ep,e,c]:=I.aF a _ h;have nf:∀ o v,X.H₀ a≠ae _:=λo v q=>by have:=I.base.k7 a o v q;rw[h]at this;cases this
 show#[ob,e,nf,I.aem h (λ_ q=>nomatch q) nf (λ_ q=>nomatch q) (λ_ q=>nomatch q) #[e,z,y,vs,r,ob,es,ep,e,c]]
theorem Inv.HI (I:Inv X pins σ H s) (h:H a=ae zap) (nf:∀ o v,X.H₀ a≠ae (.bF o v)):Inv X pins σ (upd H a<|.dK ao) s:=by
 let#[_,q]:=I.aF a _ h;show I.aem h (λ_ q=>nomatch q) nf (λ_ q=>nomatch q) (λ_ q=>nomatch q) q
def HJ (a:ai) (o:aV) (ao:List<|Key×V):It:=
 #[λi H=>H a=ae zap /\ i<ao.length,λi H x H'=>H'=H /\ ∃ k v,ao[i]?=ae (k,v) /\ x=kV k,λi H=>H a=ae zap /\ ao.length<=i]
theorem Paired.at_ {α β:Type}{F:α->β->zk}:∀ {l:List α}{m:List β}{i:Nat}{x:α},Paired F l m->l[i]?=ae x->∃ y,m[i]?=ae y /\ F x y
 |_,_,_,_,.nil,e=>by simp at e
 |_,_,0,_,.cons r t,e=>by simp at e;subst e;show#[_,rfl,r]
 |_,_,i+1,_,.cons r t,e=>by let#[y,q,f]:=Paired.at_ t (by simpa using e);show#[y,by simpa using q,f]
theorem Rw {k:Key}{v:aj}(h:(eu P w).is k v=ag):RelV (kV k) v:=by
 rcases gh h with⟨i,t,rfl,rfl⟩|⟨x,t,rfl,rfl⟩
 .show#[t,rfl]
 .show#[t,rfl]
theorem CQ {h:aE}{es:Array DictEntry}(q:dn P w H h a zap) (ed:o.data=.dict es ep):∃ vs,KV ao vs /\ h.DictAt (eu P w) a vs ep:=by
 let#[e,_,_,vs,r,ob,es',sO,e',c1,c2,c3]:=q;rw[e]at e';cases e';rw[ed]at c2;cases c2;show#[vs,r,o,es,e,c1,ed,c3]
theorem J9 (it:ai) {es:Array DictEntry}(ed:o.data=.dict es ep) (ne:a≠it):Turn P w K tg (HJ a o ao) [it] it (λi h=>h.IsKeyIter it a i ao.length ep) where
 mem:=by simp
 obj:=λi h st b hb=>by
  have e:b=it:=by simpa using hb
  subst e;let#[o,e,c,d]:=st;show#[o,e,λv z=>by rw[d]at z;cases z]
 keep:=λi h h' st k=>st.at λo e=>k it zg o e
 item:=by
  intro X hP hw hK hc i pins s σ H E I hf st hg;subst hP hw hK;let#[ha,hi]:=hg;let#[vs,r,da]:=CQ (I.aF a _ ha) ed;have hl:=Paired.length r;obtain⟨⟨k,v⟩,hx⟩:∃ p,ao[i]?=ae p:=#[ao[i],by simp];let#[#[k',v'],hy,e1,_]:=Paired.at_ r hx;cases (e1);let#[f0,f1,f2,f3,f4,f5]:=hf it zg;rw[hl]at st;refine wpAny_pyNext_dict_item st da hy λkey h' X8 pF sb=>?_;let#[o,e,c,d]:=id pF;show#[key,rfl,Do e c d zc #[kV k,H,(I.turned (λb o hb e=>(sb.2 b hb).trans e) f0 f1 f3 f4 f5),Rw X8,#[rfl,k,v,hx,rfl],by rw[hl];show pF,λb hb=>(hf b hb).1]]
 done:=by
  intro X hP hw hK hc i pins s σ H E I hf st hg;subst hP hw hK;let#[ha,hi]:=hg;let#[vs,r,da]:=CQ (I.aF a _ ha) ed;have hl:=Paired.length r;let#[f0,f1,f2,f3,f4,f5]:=hf it zg;rw[hl]at st;show wpAny_pyNext_dict_end (I.ok.hd hc) st da (qX zb) λh' eb=>#[rfl,I.turned (λb o hb e=>eb b o hb e) f0 f1 f3 f4 f5]
 self:=λ_ _ _ _ _ st h=>aa6 st h
def NF (H₀:Hp) (a:ai):zk:=∀ o v,H₀ a≠ae (.bF o v)
def aen (H₀:Hp) (tl:TE):TI:=λσ H R=>tl σ H λx H1=>∃ a ao,x=.ref a /\ ((H1 a=ae (.dK ao) /\ ∀ o,NF H₀ a->R (HJ a o ao) (upd H1 a zap)) \/ ∃ o,H1 a=ae zap /\ R (HJ a o ao) H1)
theorem U4 {l:au}{tl:TE}(hl:PE X l tl):PI X tg l (aen X.H₀ tl):=by
 intro pins s σ H R I h;refine tE (hl pins s σ H _ I h) λv s1 x H1 I1 r1 q1=>?_;let#[a,ao,e,q]:=q1;subst e;cases r1;obtain⟨o,H2,I2,e2,q2⟩:∃ o H2,Inv X pins σ H2 s1 /\ H2 a=ae (.bF o _) /\ R (HJ a o ao) H2:=by
  rcases q with⟨e,q⟩|⟨o,e,q⟩
  .let#[o,_,nf,I2]:=I1.freeze e;show#[o,_,I2,fv,q o nf]
  .show#[o,H1,I1,e,q]
 let#[e3,_,y,_,_,ob,es,ep,e4,_,ed,_]:=id<|I2.aF a _ e2;rw[e3]at e4;cases e4;let#[vs,r,da]:=CQ (I2.aF a _ e2) ed;refine wpAny_pyIter_dict y da ?_;refine#[s1.heap.objs.size,[s1.heap.objs.size],_,_,H2,rfl,I2.kept λb o e=>aS _ e,J9 _ ed<|bJ<|I2.aF.lt e2,#[_,bA _ zj,rfl,by rw[(Paired.length r)];rfl],λb hb=>?_,q2];have e:b=s1.heap.objs.size:=by simpa using hb
 subst e;show I2.xZ (aH _)<|I2.aF.fresh<|aH _
def vH (H₀:Hp) (Q:α->Hp->zk):α->Hp->zk:=λx H=>Q x H \/ ∃ a o ao,H a=ae zap /\ NF H₀ a /\ Q x (upd H a<|.dK ao)
noncomputable def Ends.HI (H₀:Hp) (D:Ends):Ends:=#[vH H₀ D.nx,vH H₀ D.rt,vH H₀ D.bk,vH H₀ D.ct]
theorem CS {s:aq}{Q:α->Hp->zk}{x:α}(I:Inv X pins σ H s) (q:vH X.H₀ Q x H):∃ H',Inv X pins σ H' s /\ Q x H':=by
 rcases q with q|⟨a,o,ao,e,nf,q⟩
 .show#[H,I,q]
 .show#[_,I.HI e nf,q]
theorem Rx {t:TS}(h:PS X st t):PS X st (λD=>t<|D.HI X.H₀):=λpins s σ H D I q=>cb (h pins s σ H _ I q) λf s' q'=>by
 cases f with
 |ret v=>let#[x,σ',H',I',r,q']:=q';let#[H2,I2,q2]:=CS I' q';show#[x,σ',H2,I2,r,q2]
 |_=>let#[σ',H',I',q']:=q';let#[H2,I2,q2]:=CS I' q';show#[σ',H2,I2,q2]
end
end L2
namespace L2.DL
open PySem.W
noncomputable def Qe:Key->D
 |.inl i=>.int i
 |.inr x=>.str x
noncomputable def vI (F:Hp) (a:ai):Hp:=λb=>if b=a then ah else F b
theorem jV {b:ai}(h:b≠a):vI F a b=F b:=if_neg h
section
variable {l:List (Key × D)} {ao:List (Key × V)}
theorem GV:∀ {l:List (Key×D)}{ao:List (Key×V)}{i:Nat}{k:Key}{v:V},aT F l ao->ao[i]?=ae (k,v)->∃ d,l[i]?=ae (k,d) /\ Den F d v
 |[],_,i,_,_,h,e=>by cases (h);simp at e
 | (k',d)::l,_,0,_,_,h,e=>by
   let#[u,t,rfl,h1,_]:=h;let#[rfl,rfl]:=e;show#[d,rfl,h1]
 | (k',d)::l,_,i+1,_,_,h,e=>by
   let#[u,t,rfl,_,h2]:=h;show GV (i:=i) h2 (by simpa using e)
theorem AB (h:F a=ae zap):wG F (vI F a):=λb u n e=>by
 rw[jV (λz=>by rw[z,h]at e;cases e;show n _ _ rfl)];show e
theorem bX.off (h:F a=ae zap):∀ {w:W}{v:V},bX F r w v->bX (vI F a) r w v
 |.d x,_,q=>Den.cR (AB h) x q
 |.b _,_,q=>q
 |.s _,_,q=>let ⟨b,ob,e,q⟩:=q;#[b,ob,e,by rw[jV (λz=>by rw[z,h]at q;cases q)];show q]
 |.x _,_,q=>q
 |.t _,_,q=>let ⟨c,as,e,h1,h2⟩:=q;#[c,as,e,AB h _ _ (λ_ _ z=>nomatch z) h1,h2]
 |.m _,_,q=>let ⟨c,as,e,h1,h2⟩:=q;#[c,as,e,AB h _ _ (λ_ _ z=>nomatch z) h1,h2]
theorem Rel.bF (R:Rel T F r σ H env bx) (hb:bx[n]?=ae (.aG l)) (ha:r[n]?=ae a) (k0:F a=ah) (k2:aT F l ao) :
 Rel T (upd F a zap) r σ (upd H a zap) env (bx.set n<|.fD l):=by
 have s:=jQ (o:=.bF o<|.dK ao) k0;have ma:=List.mem_iff_getElem?.mpr #[n,ha];refine#[λb u e=>?_,λi w e=>?_,by rw[qW];show R.len,R.nd,λm c b e1 e2=>?_,λb u e hn=>?_,R.new,R.n0,R.sl,λb u e=>?_]
 .by_cases z:b=a
  .subst z;rw[fv]at e ⊢;show e
  .rw[fu z]at e ⊢;show R.fh b u e
 .let#[v,e1,e2]:=R.slot i w e;show#[v,e1,e2.mono s<|eY r]
 .by_cases z:m=n
  .subst z;rw[pV (List.getElem?_eq_some_iff.mp hb).1]at e1;cases e1;rw[ha]at e2;cases e2;show#[o,ao,fv,fv,aT.mono s _ k2]
  .rw[sC λq=>z q.symm]at e1;have nb:b≠a:=λq=>z<|lF R.nd e2<|q▸ha;show(R.box m c b e1 e2).grow s (eY r) (λq=>by rw[fu nb];show q) (λu q=>by rw[fu nb];show q)
 .rw[fu λz=>hn (by rw[z];show ma)];show R.keep b u e hn
 .by_cases z:b=a
  .subst z;show .inr<|.inr<|.inr ma
  .rw[fu z]at e;show R.fs b u e
theorem Rel.aiF (R:Rel T F r σ H env bx) (hb:bx[n]?=ae (.fD l)) (ha:r[n]?=ae a) :
 ∃ o ao,F a=ae zap /\ H a=ae zap /\ Rel T (vI F a) r σ (upd H a<|.dK ao) env (bx.set n<|.aG l):=by
 let#[o,ao,f1,h1,dk]:=R.box n _ a hb ha;have sd:=AB f1;refine#[o,ao,f1,h1,λb u e=>?_,λi w e=>?_,by rw[qW];show R.len,R.nd,λm c b e1 e2=>?_,λb u e hn=>?_,R.new,R.n0,R.sl,λb u e=>?_]
 .by_cases z:b=a
  .subst z;unfold vI at e;rw[if_pos rfl]at e;cases e
  .rw[jV z]at e;rw[fu z];show R.fh b u e
 .let#[v,e1,e2]:=R.slot i w e;show#[v,e1,e2.off f1]
 .by_cases z:m=n
  .subst z;rw[pV (List.getElem?_eq_some_iff.mp hb).1]at e1;cases e1;rw[ha]at e2;cases e2;show#[if_pos zj,ao,fv,aT.cR sd _ dk]
  .rw[sC λq=>z q.symm]at e1;have nb:b≠a:=λq=>z<|lF R.nd e2<|q▸ha;have q:=R.box m c b e1 e2;have fo:F b=ah->vI F a b=ah:=λz=>by rw[jV nb];show z
   have ho:∀ {u},H b=ae u->upd H a (.dK ao) b=ae u:=λz=>by rw[fu nb];show z
   cases c with
   |lst _=>let#[q1,vs,q2,q3]:=q;show#[fo q1,vs,ho q2,aJ.cR sd _ q3]
   |aG _=>let#[q1,vs,q2,q3]:=q;show#[fo q1,vs,ho q2,aT.cR sd _ q3]
   |dead=>let#[u,q]:=q;show#[u,ho q]
   |dT _=>let#[q1,vs,q2,q3]:=q;show#[fo q1,vs,ho q2,bV.cR sd _ q3]
   |fD _=>let#[o2,vs,q1,q2,q3]:=q;show#[o2,vs,by rw[jV nb];show q1,ho q2,aT.cR sd _ q3]
   |ins _ _=>let#[q1,dx,vs,q2,q3]:=q;show#[fo q1,dx,vs,ho q2,dE.cR sd (λ_ _ _ z=>z) _ q3]
 .rw[fu λz=>hn (by rw[z];show(List.mem_iff_getElem?.mpr #[n,ha]))];show R.keep b u e hn
 .by_cases z:b=a
  .subst z;unfold vI at e;rw[if_pos rfl]at e;cases e
  .rw[jV z]at e;show R.fs b u e
theorem bq.off {r':List ai}{u:HO}(g:bq (upd F a u) r F' r') (k0:F a=ah):bq F r (vI F' a) r':=#[λb v e=>by
 have nb:=fL e k0;rw[jV nb];show g.s b v (by rw[fu nb];show e),g.p]
def vJ (l:List<|Key×D):List W:=l.map λp=>.d<|Qe p.1
theorem Be (g:F' a=ae zap) (k2:aT F l ao):vo F' r (vJ l) (HJ a o ao):=λT' i F1 r1 σ1 H1 a9 bx1 g1 R1=>by
 have h:=R1.fh a _<|g1.s a _ g;have hl:=k2.length;refine#[λe=>#[h,by rw[<-hl,<-e];simp[vJ]],λw e=>?_];unfold vJ at e;rw[kZ]at e;have hi:i<ao.length:=by
  rw[<-hl];cases q:l[i]? with
  |none=>rw[q]at e;cases e
  |some p=>show(List.getElem?_eq_some_iff.mp q).1
 refine#[#[h,hi],λx H2 ⟨e2,k,v,e3,e4⟩=>?_];subst e2 e4;let#[d,e5,_]:=GV k2 e3;rw[e5]at e;cases e;refine#[F1,.refl F1 r1,R1,?_];cases k<;>show rfl
noncomputable def yE (n:Nat) (bx:List Bx):Option (List Bx):=match bx[n]? with|some (.fD l)=>ae (bx.set n<|.aG l)|_=>ah
def yF (n:Nat):O W->O W
 |.val w bx=>(match yE n bx with|some b=>.val w b|none=>.bad)
 |o=>o
theorem U5 {b:List Bx}(h:yE n bx=ae b):∃ l,bx[n]?=ae (.fD l) /\ b=bx.set n (.aG l):=by
 unfold yE at h;split at h
 .cases h;show#[_,by assumption,rfl]
 .cases h
theorem Ry {H₀:Hp}{u:HO}{Q:VK}(k0:F a=ah) (ha:r[n]?=ae a) (nf:NF H₀ a):∀ {q:O W},End T Z bX F r σ env Q (yF n q)->End T Z bX (upd F a u) r σ env (vH H₀ Q) q
 | .val w b,h=>λF2 r2 v H2 g2 R2 dv=>by
   cases q:yE n b with
   |none=>simp[yF,q]at h;show h.elim
   |some b2=>
     simp[yF,q]at h;let#[l,hl,rfl]:=U5 q;let#[o,ao,f1,h1,R3]:=R2.aiF hl<|g2.at ha;show .inr #[a,o,ao,h1,nf,h _ r2 v _ (g2.off k0) R3<|dv.off f1]
 |.exc c b,h=>λF2 r2 H2 g2 R2=>h F2 r2 H2 #[(jQ k0).trans g2.s,g2.p] R2
 |.bad,h=>h.elim
theorem End.HI {H₀:Hp}{Q:VK}:∀ {q:O W},End T Z bX F r σ env Q q->End T Z bX F r σ env (vH H₀ Q) q
 |.val _ _,h=>λF2 r2 σ2 H2 g2 R2 d=>.inl<|h F2 r2 σ2 H2 g2 R2 d
 |.exc _ _,h=>h
 |.bad,h=>h
theorem U6 {i:Nat}{Q:VK}(e:env[i]?=ae (ae<|.b n)) (h:∀ F' r' a H',bq F r F' r'->Rel T F' r' σ H' env bx->r'[n]?=ae a->Q zaf H'):End T Z bX F r σ env Q (dV i env bx):=by
 unfold dV;rw[e];intro F' r' v H' g R d;let#[a,rfl,ha]:=d;show h F' r' a H' g R ha
def wY (bo:Bool) (src:List<|Option Nat) (i:Nat) (g:DG) (tf:DE Bool) (te:DE W):DE W:=λenv bx=>match env[i]? with
 | some (ae<|.b n)=>(match bx[n]? with
   |some (.aG l)=>yF n<|fC (bL g tf te (vJ l) (eL src env) (bx.set n<|.fD l) []) λl ax=>cz bo (ae<|.lst l) ax
   |some (.fD l)=>fC (bL g tf te (vJ l) (eL src env) bx []) λl ax=>cz bo (ae<|.lst l) ax
   |_=>.bad)
 |_=>.bad
theorem Rz {i:Nat}{src:List (Option Nat)}{g:DG}{Q:VK}{H₀:Hp}(h:tD T Z (wY bo src i g tf te) σ H Q) :
 Kw src (aen H₀<|tD T Z<|dV i) (E7 g) (E8 #[E0,Z.cl] tf) (E9 #[E0,Z.cl] te) σ H (vH H₀ Q):=by
 let#[F,r,env,bx,R,h]:=h;unfold wY at h;split at h
 case h_2=>show h.elim
 ext n e;refine#[F,r,env,bx,R,U6 e λF' r' a H' g' R' ha=>?_];split at h
 .ext l hb;let#[k0,ao,k1,k2]:=R'.box n _ a hb ha;show#[a,ao,rfl,.inl #[k1,λo nf=>FF (R'.bF hb ha k0 k2) (Be fv k2)<|Ry k0 ha nf<|End.weak g' h]]
 .ext l hb;let#[o,ao,k0,k1,k2]:=R'.box n _ a hb ha;show#[a,ao,rfl,.inr #[o,k1,FF R' (Be k0 k2) (End.weak g' h).HI]]
 .show h.elim
theorem La {src:List (Option Nat)}{elt:au}{scope:bK}{vC:aK}{g:DG}(i:Nat) (bo:Bool) (hc:X.calm=ag) (S:sW X N src scope) (hi:PD X T Z iter<|dV j)
 (hg:∀ T cl s H C fp,nY zN T tg g) (hf:∀ T cl s H C fp,PF zN ifs<|sY T #[E0,Z.cl] tf) (he:∀ T cl s H C fp,PD zN T #[E0,Z.cl] elt te)
 (hN:X.N.Nodup) (wR:X.N[i]?=ae x) (hx:Loc X.env.scope x) (Hv:swapsWith zD (ae<|.Name x pos') vC.line X.env=pure ag)
 (Hw:X.fn x=ag \/ X.env.scope.names.lookup x=ae .local) (hs:∀ x,foldedSetIterable iter X.env x=pure x):cx X T Z (.Assign [.Name x pos'] zD vC) (fJ (wY bo src j g tf te)<|fe i):=PS.imp (Rx (GS (g:=E7 g) (tf:=E8 _ tf) (te:=E9 _ te) hc S (U4 hi) (λcl s H C fp pins s' σ' H' v u Q I rv ⟨T,q⟩=>hg T cl s H C fp pins s' σ' H' v u Q I rv q)
 (λcl s H C fp pins s' σ' H' Q I ⟨T,q⟩=>hf T cl s H C fp pins s' σ' H' Q I q) (λcl s H C fp pins s' σ' H' Q I ⟨T,q⟩=>he T cl s H C fp pins s' σ' H' Q I q) hN wR hx Hv Hw hs)) λD σ H=>x4 λF r env bx R h=>(Rz #[F,r,env,bx,R,End.br h λw bx1 F1 r1 v H1 g1 R1 d1 h1=>h1 F1 r1 _ H1 zS<|R1.set d1 i])
end
end L2.DL
namespace HT
open PySem.W
def wZ (h:aE) (d:ai) (vs:List aj) (ep:Nat):zk:=∃ o es,h.get? d=ae o /\ o.cls=.type "dict" /\ o.data=.dict es ep /\ es.toList.map (·.key)=vs
theorem wZ.at {h:aE}{d:ai}(x:wZ h d vs ep) (k:∀ o,h.get? d=ae o->h'.get? d=ae o):wZ h' d vs ep:=let ⟨o,es,e,r⟩:=x;#[o,es,k o e,r]
section
variable {s:aq} {v d:ai} {i:Nat}
theorem RC (y:(d==sysModules)=af) (hm:wZ s.heap d vs ep)
 (q:Q zad { s with heap:=s.heap.push { cls:=.type "dict_keyiterator",data:=.fields (List.toArray [.ref d,.int 0 0,.int vs.length 0,.int ep 0]) } }):wpAny zf A (pyIter<|.ref d) Q E s:=by
 let#[o,es,e2,c2,d2,ev]:=id hm;have sz:es.size=vs.length:=by rw[<-ev];simp
 have ty:s.TypeIs (.ref d) "dict":=#[o,e2,c2];refine Eo ty acn<|eW acn ty PySem.F.entry_dict_iter ?_<|PySem.F.args_dict_iter_1 _;refine ak<|ak<|wpAny_notOrdered_dict ty ?_;refine ay ?_;change wpAny _ _ (Builtin.Dict.showsAll d >>= _) _ _ s;unfold Builtin.Dict.showsAll;rw[if_neg (by rw[y];show dG)];refine ak<|ay<|ak<|aa7 e2 d2<|ak<|aa8 e2 d2<|ak<|eV<|ay #[_,rfl, "dict_keyiterator",_,#[_,bA _ zj,rfl],XD.lookup,?_];simpa[rawInt,sz] using q
theorem GW {Q:Option aj->aq->zk}(hit:s.heap.IsKeyIter it d i vs.length ep) (hm:wZ s.heap d vs ep) (hh:A.handled=ah)
 (q:∀ x h',vs[i]?=ae x->h'.IsKeyIter it d (i+1) vs.length ep->Heap.SameBut it s.heap h'->Q (ae x) { s with heap:=h' })
 (qe:∀ h',vs[i]?=ah->Heap.ExtBut it s.heap h'->Q ah { s with heap:=h' }):wpAny zf A (pyNext<|.ref it) Q E s:=by
 let#[o,e1,c1,d1]:=id hit;let#[od,es,e2,c2,d2,ev]:=id hm;have sz:es.size=vs.length:=by rw[<-ev];simp
 unfold pyNext;refine ak<|ua<|qQ hit.typeIs XD<|eW XD hit.typeIs PySem.F.entry_dict_keyiterator_next ?_<|PySem.F.args_dict_keyiterator_next_1 _;refine ak<|ay<|ak<|ak ?_;first|refine ak (QW hit.typeIs<|ay<|ak<|xn e1 d1 ?_)|refine ak<|QX hit.typeIs<|ay<|ak<|xn e1 d1 ?_
 simp only[];change wpAny _ _ (if (Value.ref d==Value.none)=ag then _ else _) _ _ s;rw[if_neg (show ¬ ((Value.ref d==Value.none)=ag) from dG)];refine ak<|ay<|ak<|aa7 e2 d2 ?_;rw[if_neg (by rw[sz];simp)];refine ak<|ay<|ak<|aa8 e2 d2 ?_;rw[if_neg zg];refine ay ?_;rcases xp i vs.length with hl|hl
 .have nJ:i<es.size:=by rw[sz];show hl
  simp[pC,Array.getElem?_eq_getElem nJ];refine ak ?_;first|refine ak (QW hit.typeIs<|ay<|ak<|QY hit.typeIs ?_)|refine ak<|QX hit.typeIs<|ay<|ak<|QY hit.typeIs ?_
  change wpAny _ _ (setField (.ref it) 1 (rawInt<|(i)+1) >>= _) _ _ s;refine ak<|sq e1 d1 zg ?_;have h2:(s.heap.update it (Obj.mapFields (·.setIfInBounds 1 (rawInt<|(i)+1)))).IsKeyIter it d (i+1) vs.length ep:=
   #[_,sy _ e1<|xI<|qy d1 _,(Ez ..).trans c1,by rw[qy d1];simp[rawInt]]
  refine ak (eU (ak (QY (s:={ s with heap:=s.heap.update it (Obj.mapFields (·.setIfInBounds 1 (rawInt<|(i:Int)+1))) }) h2.typeIs ?_)));change wpAny _ _ (pure es[i].key) _ _ _;show ay<|ay #[_,rfl,ay<|q _ _ (by rw[<-ev];simp[nJ]) h2<|Heap.SameBut.update ..]
 .simp[show ¬ ((i:Int)<0) from by lia,if_false,pC,Xr (show es.size<=i by rw[sz];show hl)];refine ak ?_;first|refine ak (QW hit.typeIs<|ay ?_)|refine ak (QX hit.typeIs<|ay ?_)
  change wpAny _ _ (setField (.ref it) 0 .none >>= _) _ _ s;refine ak<|sq e1 d1 zg ?_;change wpAny _ _ (newExc (.type "StopIteration") [] >>= _) _ _ _;refine ak ?_;simp[newExc,newTuple];refine ak<|eV (ak (m:=firstArgMember _ _)<|Em (a:=Value.none) (by first|rfl|(simp[firstArgMember];rfl))<|eV ?_ (by size_fits)) (by size_fits);erw[raiseNew];refine ak<|Ij ?_;rw[show A.in1.handled=ah from hh];refine ak<|ay<|Ik ?_;show ak<|Ep (T:="StopIteration") (b:=ag) #[_,bA _ zj,rfl] Il<|ay<|qe _ (qX hl)<|((Heap.SameBut.update ..).extBut.push _).push _
theorem RD (hh:A.handled=ah) (nv:d≠it) (vs:List aj) (ep:Nat):Walks prog w A it [it,d] [it] vs.length (λi v=>vs[i]?=ae v) (λi h=>h.IsKeyIter it d i vs.length ep /\ wZ h d vs ep) where
 sub:=λb hb=>by simp at hb;simp[hb]
 frame:=λ_ _ _ st hk=>#[st.1.at λo e=>hk it zg o e,st.2.at λo e=>hk d zg o e]
 item:=λi s Q E hi st hQ=>GW st.1 st.2 hh (λx h' hx h2 sb=>hQ x h' s.toks hx #[h2,st.2.at λo e=>sb.extBut d o nv e] λb o hb e=>sb.extBut b o (λz=>hb (by simp[z])) e) λh' hx _=>by rw[List.getElem?_eq_none_iff]at hx;lia
 done:=λs Q E st hQ=>GW st.1 st.2 hh (λx h' hx _ _=>by simp at hx) λh' _ he=>hQ h' s.toks λb o hb e=>he b o (λz=>hb (by simp[z])) e
 self:=λ_ _ _ _ st hQ=>aa6 st.1 hQ
theorem U7 (y:(d==sysModules)=af) (vs:List aj) (ep:Nat):KdlSrc prog w "dict" d d vs.length (λi v=>vs[i]?=ae v) (λh=>wZ h d vs ep) where
 type:=λ_ hm=>let ⟨o,_,ho,hc,_⟩:=hm;#[o,ho,hc]
 there:=λ_ hm=>let ⟨_,_,ho,_⟩:=hm;#[ba ho,ba ho]
 keep:=λ_ _ hm hk=>hm.at λo e=>hk d (.inr zj) o e
 notList:=rfl
 notTuple:=rfl
 hint:=λ_ _ _ _ hm hq=>kdl_hint_dict (let ⟨o,_,ho,hc,_⟩:=hm;#[o,ho,hc]) hq
 iter:=λ_ _ hh hm=>#[_,_,(λ_ _ hq=>RC y hm hq),RD hh (bJ (let ⟨_,_,ho,_⟩:=hm;ba ho)) vs ep,#[#[_,bA _ zj,rfl,rfl],hm.at λo e=>aS _ e]]
end
end HT
namespace L2
open PySem.W
section
variable {o:au} {p:aK} {td:TE}
def aiG (td:TE):TE:=λσ H Q=>td σ H λx H1=>∃ a ao,x=.ref a /\ H1 a=ae (.dT ao) /\ ∀ bs,Paired (λ(q:List Key×V) (b:ai)=>H1 b=ae (.tup<|q.1.map kV)) ao bs->∀ l,H1 l=ah->Q (.ref l) (upd H1 l<|.lst<|bs.map V.ref)
theorem RE (r:KT H ao xs):Paired (λ(q:List Key×V) (b:ai)=>H b=ae (.tup<|q.1.map kV)) ao (xs.map (·.2.1)):=by
 induction r with
 |nil=>show .nil
 |cons h t ih=>show .cons h.2.1 ih
theorem Lb:∀ bs:List ai,Vals (bs.map V.ref) (bs.map Value.ref):=by
 intro l_;induction l_ with
 |nil=>show .nil
 |cons b bs aD=>show .cons zj<|aD
theorem Nd (hc:X.calm=ag) (hg:Gl X "list") (hm:X.mg "list"=ah) (ho:PE X o td) (hs:DL.cu o=ag):PE X (.Call (.Name "list" p) [o] [] pos) (aiG td):=by
 intro pins s σ H Q I h;refine sk<|jC I hg hm (by decide +kernel:bootBuiltins "list"=ae (.type "list")) ?_ zc<|rfl;refine callWith_type1 ?_ (DL.fI hs [] X.env) zj;rw[DL.fI hs [] X.env];change wpAny _ _ (spliced ((af,eval o X.env)::backTo pos _)) _ _ s;refine EC<|tE (ho pins s σ H _ I h) λu s1 x H1 I1 rx hh=>?_;let#[a,ao,ex,ea,q1]:=hh;subst ex;obtain rfl:u=Value.ref a:=rx;let#[zl,hd,xs,rel,dd]:=Tb I1.aF ea;let#[ob,es,ep,hq,h2,h3,h4,_,h5]:=id dd;have lx:((xs.map (·.2.1)).map Value.ref).length<=sizeLine:=by rw[a8,a8,<-Paired.length rel];show zl
 refine EB (kdl_call (HT.U7 hd _ ep) (I1.ok.hd hc) #[ob,es,hq,h2.1,h3,by rw[h4,bO,bO];rfl] lx λh' tk acc c hk hD aeo=>?_);have ev:acc.toList=(xs.map (·.2.1)).map Value.ref:=by
  apply xu;intro j;by_cases hj:j<acc.size
  .have ej:acc[j]?=ae acc[j]:=by simp
   rw[qZ,ej];show(aeo.2 j _ ej).symm
  .have h3:=aeo.1;rw[qZ,Xr zb,qX zb]
 show#[.ref _,_,(I1.laid (t':=tk) (o:=.lst ((xs.map (·.2.1)).map V.ref)) (λb u e=>hk b u e) (aH _) #[by rw[a8];rw[a8]at lx;show lx,acc.toList,c,(by rw[ev];show Lb _),by simpa using hD]),rfl,q1 _ (RE rel) _<|I1.aF.fresh<|aH _]
end
end L2
namespace L2.DL
open PySem.W
section
variable {o:au} {p:aK} 
theorem Rel.aiH (R:Rel T F r σ H env bx) {b:ai}{vs:List V}(hb:H b=ae (.tup vs)):∃ F',bq F r F' r /\ Rel T F' r σ H env bx /\ F' b=ae (.tup vs):=by
 cases q:F b with
 |some u=>
   have:=R.fh b u q;rw[hb]at this;cases this;show#[F,.refl F r,R,q]
 |none=>
   have s:=jQ (o:=.tup vs) q;refine#[upd F b<|.tup vs,#[s,eY r],#[λa u e=>?_,λi w e=>?_,R.len,R.nd,λn c a e1 e2=>?_,R.keep,R.new,R.n0,R.sl,λa u e=>?_],fv]
   .by_cases z:a=b
    .subst z;rw[fv]at e;cases e;show hb
    .rw[fu z]at e;show R.fh a u e
   .let#[v,e1,e2]:=R.slot i w e;show#[v,e1,e2.mono s<|eY r]
   .have k:=R.box n c a e1 e2;have ne:∀ {u},H a=ae u->(∀ ys,u≠.tup ys)->upd F b (.tup vs) a=F a:=λ{u} z y=>fu λq=>by rw[q,hb]at z;cases z;show y _ zj
    cases c with
    |lst _=>let#[q1,ws,q2,q3]:=k;show#[(ne q2 λ_ z=>nomatch z).trans q1,ws,q2,aJ.mono s _ q3]
    |aG _=>let#[q1,ws,q2,q3]:=k;show#[(ne q2 λ_ z=>nomatch z).trans q1,ws,q2,aT.mono s _ q3]
    |dead=>show k
    |dT _=>let#[q1,ws,q2,q3]:=k;show#[(ne q2 λ_ z=>nomatch z).trans q1,ws,q2,bV.mono s _ q3]
    |fD _=>let#[o2,ws,q1,q2,q3]:=k;show#[o2,ws,s _ _ q1,q2,aT.mono s _ q3]
    |ins _ _=>let#[q1,dx,ws,q2,q3]:=k;show#[(ne q2 λ_ z=>nomatch z).trans q1,dx,ws,q2,dE.cR s.d (λ_ _ _ z=>z) _ q3]
   .by_cases z:a=b
    .subst z;rw[fv]at e;cases e;show .inl #[_,rfl]
    .rw[fu z]at e;show R.fs a u e
theorem Nf:∀ (k:List Key),aJ F (k.map Qe) (k.map kV):=by
 intro l_;induction l_ with
 |nil=>show rfl
 |cons k t aD=>show#[_,_,rfl,by cases k<;>show rfl,aD]
abbrev Qf (l:List<|List Key×D):List D:=l.map λq=>.tup<|q.1.map Qe
theorem Rel.kJ:∀ {l:List (List Key×D)}{ao:List (List Key×V)}{bs:List ai}{F:Hp},Rel T F r σ H env bx->bV F l ao->Paired (λ(q:List Key×V) (b:ai)=>H b=ae (.tup<|q.1.map kV)) ao bs->∃ F',bq F r F' r /\ Rel T F' r σ H env bx /\ aJ F' (Qf l) (bs.map V.ref)
 | [],_,_,F,R,h,q=>by
   cases (h);cases q;show#[F,.refl F r,R,rfl]
 | (k,d)::l,_,_,F,R,h,q=>by
   let#[v,t,rfl,_,h2]:=h;cases q with
   |@cons _ b _ bs q1 q2=>
     let#[F1,g1,R1,e1]:=R.aiH q1;let#[F2,g2,R2,d2]:=Rel.kJ R1 (bV.mono g1.s _ h2) q2;show#[F2,g1.trans g2,R2,V.ref b,_,rfl,#[b,_,rfl,g2.s _ _ e1,Nf k],d2]
def HK (bo:Bool) (m:DE W):DE W:=λenv bx=>fC zI λx bx1=>match x with
 | .b n=>(match bx1[n]? with
   |some (.dT l)=>cz bo (ae<|.lst<|Qf l) bx1
   |_=>.bad)
 |_=>.bad
theorem Ng (bo:Bool) (hc:X.calm=ag) (hg:Gl X "list") (hm:X.mg "list"=ah) (ho:PD X T Z o ma) (hs:cu o=ag):PD X T Z (.Call (.Name "list" p) [o] [] pos) (HK bo ma):=by
 refine PE.imp (Nd hc hg hm ho hs) λσ H Q=>x4 λF r env bx R h=>#[F,r,env,bx,R,End.bind h λx bx1 F1 r1 v H1 g1 R1 d1 h1=>?_];split at h1
 case h_2=>show h1.elim
 let#[a,rfl,ha]:=d1;let#[c,hc,kc]:=R1.hV ha;rw[hc]at h1;split at h1
 case h_2=>show h1.elim
 ext l0 e0;cases e0;let#[_,ao,k1,k2]:=kc;refine#[a,ao,rfl,k1,λbs hb l hl=>?_];let#[F2,g2,R2,d2]:=Rel.kJ R1 k2 hb;show ib R2 (End.weak g2 h1) #[l,_,rfl,hl,rfl,d2]
noncomputable def yG (l:List<|List Key×D) (k:List Key) (d:D):List (List Key×D):=
 if (l.any λkv=>decide (kv.1=k))=ag then l.map (λkv=>if kv.1=k then (kv.1,d) else kv) else l++[(k,d)]
theorem bV.any {F:Hp}(k:List Key):∀ {l:List (List Key×D)}{vs:List (List Key×V)},bV F l vs->(l.any λkv=>decide (kv.1=k))=(vs.any λkv=>decide (kv.1=k))
 |[],_,h=>by cases (h);rfl
 |(k',d')::l,_,⟨v,r,e,h1,h2⟩=>by subst e;simp[u7,bV.any k h2]
theorem bV.map {F:Hp}{k:List Key}{d:D}{v:V}(hv:Den F d v):∀ {l:List (List Key×D)}{vs:List (List Key×V)},bV F l vs->bV F (l.map λkv=>if kv.1=k then (kv.1,d) else kv) (vs.map λkv=>if kv.1=k then (kv.1,v) else kv)
 |[],_,h=>by cases (h);rfl
 | (k',d')::l,_,⟨u,r,e,h1,h2⟩=>by
   subst e;by_cases c:k'=k
   .simp[aU,c];show#[v,_,rfl,hv,bV.map hv h2]
   .simp[aU,c];show#[u,_,rfl,h1,bV.map hv h2]
theorem bV.app {F:Hp}{m:List (List Key×D)}{us:List (List Key×V)}(hm:bV F m us):∀ {l:List (List Key×D)}{vs:List (List Key×V)},bV F l vs->bV F (l++m) (vs++us)
 |[],_,h=>by cases (h);show hm
 |(k',d')::l,_,⟨u,r,e,h1,h2⟩=>by subst e;show#[u,_,rfl,h1,bV.app hm h2]
theorem bV.put2 {k:List Key}{d:D}{l:List (List Key×D)}{vs:List (List Key×V)}(h:bV F l vs) (hv:Den F d v):bV F (yG l k d) (putK vs k v):=by
 unfold yG putK;rw[bV.any k h];split
 .show bV.map hv h
 .show bV.app (show bV F [(k,d)] _ from#[v,[],rfl,hv,rfl]) h
def yH (m k v:DE W):az:=λenv bx=>br (v env bx) λz bx1=>br (m env bx1) λx ax=>br (k env ax) λy cj=>match x,y,z with
 | .b n,.d (.tup d),.d u=>(match cj[n]?,yC d with
   |some (.dT l),ae k=>if l.length<sizeLine then .nx env (cj.set n<|.dT<|yG l k u) else .bad
   |_,_=>.bad)
 |_,_,_=>.bad
theorem Lc {value:au}(hu:X.A.units+1<cLine) (ho:PD X T Z o ma) (hi:PD X T Z e mb) (hv:PD X T Z value mc) (hs:swapsWith value (ae<|.Subscript o e pos') pos.line X.env=pure af) :
 cx X T Z (.Assign [.Subscript o e pos'] value pos) (yH ma mb mc):=by
 refine PS.imp (GN hu ho hi hv hs) λD σ H=>x4 λF r env bx R h=>?_;refine#[F,r,env,bx,R,End.br h λz bx1 F1 r1 t H1 g1 R1 d1 h1=>#[F1,r1,env,bx1,R1,End.br h1 λx ax F2 r2 v H2 g2 R2 d2 h2=>#[F2,r2,env,ax,R2,End.br h2 λy cj F3 r3 u H3 g3 R3 d3 h3=>?_]]];split at h3
 .let#[a,rfl,ha]:=(g3.den d2);let#[c,hc,kc]:=R3.hV ha;rw[hc]at h3;split at h3
  .ext l k e1 e2;cases e1;split at h3
   .ext hl;let#[hF,ao,k1,k2]:=kc;let#[b,us,rfl,f1,f2]:=d3;cases Rs e2 f2;show#[a,_,rfl,.inr #[ao,k,b,k1,rfl,R3.fh _ _ f1,by rw[<-k2.length];show hl,rfl],h3 F3 r3 _ _ (.refl F3 r3)<|R3.write ha hF #[hF,_,fv,k2.put2<|g3.den<|g2.den d1]]
   .show h3.elim
  .show h3.elim
 .show h3.elim
end
end L2.DL
namespace HT
open PySem.W
theorem RF (A:cE) (s:aq) {h:aE}{v:aj}{a b:aI}(p:nN h v a) (q:nN h u b) (hl:a.nM b=ag):∃ e,SeqAt.EqAt A s v u e /\ (e=ag ↔ a=b):=by
 cases a with
 |i n=>
   cases b with
   |i m=>let#[t,rfl]:=p;let#[t',rfl]:=q;show#[_,XH n t m t',by simp]
   |_=>cases hl
 |s x=>
   cases b with
   |s y=>let#[t,rfl]:=p;let#[t',rfl]:=q;show#[_,XI x t y t',by simp]
   |_=>cases hl
theorem RG (A:cE) (s:aq) {h:aE}{v:aj}{a b:aI}(p:nN h v a) (q:nN h u b) (hl:a.nM b=ag) (prog:cG) (w:bH) (E:aj->aq->zk) (Q:aj->aq->zk) (k:Q (.bool<|a.lt b) s) :
 wpAny zf A (richCompare .Lt v u) Q E s:=by
 cases a with
 |i n=>
   cases b with
   |i m=>let#[t,rfl]:=p;let#[t',rfl]:=q;show(abW k)
   |_=>cases hl
 |s x=>
   cases b with
   |s y=>let#[t,rfl]:=p;let#[t',rfl]:=q;show(lt_str k)
   |_=>cases hl
section
open PySem.SeqAt
open PySem.AutoSeq1 (wpAny_loadPart')
open PySem.MeetsSeq PySem.MeetsSeq2 PySem.MeetsSeq3
theorem BM (l b:ai) (items tV:Array aj) (n n2:Nat) (dd vh:Option ai) (sl vi:Array<|Option aj) (h0:aE) (x y:List aI) (hi:dY h0 items.toList x) (hj:dY h0 tV.toList y) (hl:eP x y=ag) :
 Meets (Builtin.«tuple.__lt__» #[[.ref l,.ref b],[]])
  (λ_ R s=>s.heap.get? l=ae { cls:=.type "tuple",dict:=dd,data:=.seq items n,slots:=sl } /\ s.heap.get? b=ae { cls:=.type "tuple",dict:=vh,data:=.seq tV n2,slots:=vi } /\
   R (.ok<|.ret<|.bool<|cD x y) s):=
 .of_wp λprog w A R s h=>by
  let#[hp,g,d,tk,os]:=s;let#[nJ,hb,h]:=h;have f2:=afG;have z1:items.size=x.length:=by rw[<-hi.length];simp
  have z2:tV.size=y.length:=by rw[<-hj.length];simp
  wp_walk using wpAny_loadPart' nJ,wpAny_loadPart' hb,wpAny_forIn_list _ (λrest b s'=>b.1=ah /\ s'=#[hp,g,d,tk,os] /\ ∃ (vs ws:List aj) (p q:List aI),rest=vs.zip ws /\
   dY h0 vs p /\ dY h0 ws q /\ eP p q=ag /\ p.length+tV.size=q.length+items.size /\ R (.ok<|.ret<|.bool<|cD p q) #[hp,g,d,tk,os]) _
  case turn=>
   rintro⟨v,u⟩ rest b s' ⟨yy,rfl,vs,ws,p,q,hz,hv,hw,hk,hlen,hR⟩;cases hv with
   |nil=>rw[abA]at hz;cases hz
   |@cons v' a vs p ha EJ=>
     cases hw with
     |nil=>rw[List.zip_nil_right]at hz;cases hz
     |@cons u' c ws q hc aiI=>
       rw[vY]at hz;injection hz with aiJ aiK;injection aiJ with hy hx;subst hy hx;erw[bw]at hlen;have rD:(a.nM c&&eP p q)=ag:=hk;rw[aL]at rD;unfold cD at hR;let#[e,he,aep]:=RF A.in1 #[hp,g,d,tk,os] ha hc rD.1;refine ak<|he prog w _ _ ?_;cases e with
       |true=>
         rw[if_pos<|aep.mp rfl]at hR
         wp_walk
         show#[rfl,rfl,_,_,_,_,aiK,EJ,aiI,rD.2,by lia,hR]
       |false=>
         rw[if_neg λq=>absurd (aep.mpr q) dG]at hR
         wp_walk using (RG A.in1 #[hp,g,d,tk,os] ha hc rD.1 prog w)
         show#[_,rfl,by simpa using hR]
  case fin=>
   rintro⟨b1,b2⟩ s' ⟨yy,rfl,vs,ws,p,q,hz,hv,hw,hk,hlen,hR⟩;simp only at yy;subst yy;have hx:cD p q=decide (items.size<tV.size):=by
    cases hv with
    |nil=>
      cases hw with
      |nil=>erw[qw]at hlen;unfold cD;show(decide_eq_false zb).symm
      |cons c hw=>erw[qw,bw]at hlen;unfold cD;show(decide_eq_true zb).symm
    |cons a hv=>
      cases hw with
      |nil=>erw[qw,bw]at hlen;unfold cD;show(decide_eq_false zb).symm
      |cons c hw=>rw[vY]at hz;cases hz
   rw[hx]at hR
   wp_walk
   show#[_,rfl,by simpa[Builtin.Tuple.tupleCompareSizes] using hR]
  case h=>show⟨rfl,rfl,items.toList,tV.toList,x,y,rfl,hi,hj,hl,by lia,h⟩
end
theorem RH {s:aq}{l b:ai}{tV:Array aj}{x y:List aI}(hl:IsTup s.heap l items) (hb:IsTup s.heap b tV) (hi:dY s.heap items.toList x) (hj:dY s.heap tV.toList y)
 (hk:eP x y=ag) (hu:A.units<cLine) (h:Q (.bool<|cD x y) s):wpAny zf A (compareOp .Lt (.ref l)<|.ref b) Q E s:=by
 let#[#[cls,dd,data,sl],ho,hc,n,hd]:=id hl;let#[#[acX,vh,data2,vi],sR,nV,n2,hd2]:=id hb;subst hc hd nV hd2;show richCompare_meets_room (op:=.Lt) #[_,ho,rfl] #[_,sR,rfl] PySem.F.slot_tuple_lt PySem.F.entry_tuple_lt (PySem.F.args_tuple_lt_2 _ _) (BM l b items tV n n2 dd vh sl vi s.heap x y hi hj hk)
  #[ho,sR,#[(λx=>nomatch x),h]] hu
end HT
namespace L2.DL
open PySem.W
open HT (aI eP cD)
def ZG:R2:=λx y H Q=>∃ F a b vs us l m,x=.ref a /\ y=.ref b /\ Sub F H /\ F a=ae (.tup vs) /\ F b=ae (.tup us) /\ aJ F (l.map kQ) vs /\ aJ F (m.map kQ) us /\ eP l m=ag /\ Q (.bl<|cD l m) H
theorem U8 (hu:X.A.units<cLine):bc X (compareOp .Lt) ZG:=by
 intro pins s σ H x y v u Q I rx ry h;let#[F,a,b,vs,us,l,m,rfl,rfl,sub,fa,fb,da,db,k,q]:=h;cases rx;cases ry;let#[_,its,r1,p1]:=(I.aF a _<|sub _ _ fa);let#[_,sU,r2,p2]:=(I.aF b _<|sub _ _ fb);show HT.RH p1 p2 (by simpa using FQ I sub da r1) (by simpa using FQ I sub db r2) k hu #[.bl _,H,I,rfl,q]
def dt:D->D->Option Res
 |.int i,.int j=>ae<|.old<|.bl<|decide (i<j)
 | .tup a,.tup b=>(match tU a,tU b with
   |some l,ae m=>if eP l m=ag then ae (.old<|.bl<|cD l m) else ah
   |_,_=>ah)
 |_,_=>ah
theorem U9 (hu:X.A.units<cLine):bc X (compareOp .Lt) (λx y H Q=>k9 (λi j=>.bl<|decide (i<j)) x y H Q \/ ZG x y H Q):=Wj.or<|U8 hu
theorem aiL:cA (λx y H Q=>k9 (λi j=>.bl<|decide (i<j)) x y H Q \/ ZG x y H Q) dt:=by
 intro F H x y v w Q s sub rx ry e k;unfold dt at e;split at e
 .cases e;show .inl #[_,_,rx,ry,k _ _ #[rfl,rfl]]
 .split at e
  .ext l m e1 e2;split at e
   .ext c;cases e;rw[A7 e1]at rx;rw[A7 e2]at ry;let#[p,vs,rfl,h1,h2]:=rx;let#[q,us,rfl,h3,h4]:=ry;show .inr #[F,p,q,vs,us,l,m,rfl,rfl,sub,h1,h3,h2,h4,c,k _ _ #[rfl,rfl]]
   .cases e
  .cases e
 .cases e
section
variable {body:List bp} {mi:DE W} {g:DG} {m:az}
end
def rW (sub:Bool) (i:Nat) (m:DE W):az:=λenv bx=>match env[i]? with
 |some (ae<|.d<|.int a)=>br zI λw bx1=>(match w with|.d (.int b)=>.nx (env.set i<|ae<|.d<|.int (if sub then a-b else a+b)) bx1|_=>.bad)
 |_=>.bad
theorem Tc {i:Nat}{D:Ends}(sub:Bool) (h:tS T Z (rW sub i ma) D σ H):acM i (tD T Z ma) (X1 λa b=>if sub then a-b else a+b) D σ H:=by
 let#[F,r,env,bx,R,h]:=h;unfold rW at h;split at h
 .ext a q;let#[v,e1,e2]:=R.slot i _ q;cases (e2);refine#[.int a,e1,F,r,env,bx,R,End.br h λw bx1 F1 r1 u H1 g1 R1 d1 h1=>?_];split at h1
  .ext b;cases (d1);show#[a,b,rfl,rfl,h1 F1 r1 _ H1 zS<|R1.set (w:=.d<|.int _) zj i]
  .show h1.elim
 .show h.elim
theorem RI (i:Nat) (he:PD X T Z e ma) (hN:X.N.Nodup) (hi:X.N[i]?=ae x) (hx:Loc X.env.scope x) (hf:X.fn x=ag \/ X.env.scope.names.lookup x=ae .local):cx X T Z (.AugAssign (.Name x pos') .Add e pos) (rW af i ma):=
 PS.imp (LK hN hi hx he TU hf) λD σ H h=>Tc af h
theorem RJ (i:Nat) (he:PD X T Z e ma) (hN:X.N.Nodup) (hi:X.N[i]?=ae x) (hx:Loc X.env.scope x) (hf:X.fn x=ag \/ X.env.scope.names.lookup x=ae .local):cx X T Z (.AugAssign (.Name x pos') .Sub e pos) (rW ag i ma):=
 PS.imp (LK hN hi hx he TV hf) λD σ H h=>Tc ag h
end L2.DL
namespace L2
open PySem.W
end L2
namespace L2.DL
open PySem.W
section
variable {o:au} 
end
end L2.DL
namespace HT
open PySem.W
section
variable {s:aq}
theorem Td {h:aE}:∀ {vs:List aj}{ns:List Int},IntsAre vs ns->dY h vs (ns.map aI.i)
 |_,_,.nil=>.nil
 |_,_,.cons n t r=>.cons #[t,rfl]<|Td r
theorem Te {h:aE}:∀ {vs:List aj}{ns:List Int},dY h vs (ns.map aI.i)->IntsAre vs ns
 |_,[],.nil=>.nil
 |_,n::ns,.cons ⟨t,e⟩ r=>by subst e;show .cons n t<|Te r
theorem CT:∀ a b:List Int,eP (a.map aI.i) (b.map aI.i)=ag
 |[],_=>rfl
 |_::_,[]=>rfl
 | a::l,b::m=>by
   have:=CT l m;unfold eP at this ⊢;rw[aU,aU,vY,pW,this];rfl
theorem Ld {d r:ai}{ao:List (L2.Key×aj)}(key:L2.Key×aj->List Int) (hh:A.handled=ah) (hu:A.units+8<cLine) (hv:s.heap.IsItemsView r d) (hm:s.heap.DictAt (L2.eu prog w) d ao ep) (di:ao.length<64)
 (hI:∀ q∈ao,∀ v,(L2.eu prog w).is q.1 v=ag->IntsAre [v,q.2] (key q))
 (h:∀ (h':aE) (tk:Nat) (a:ai) (k:Nat) (qs:List<|ai×List Int),(∀ b o,s.heap.get? b=ae o->h'.get? b=ae o /\ b≠a /\ b∉qs.map (·.1))->a∉qs.map (·.1)->(qs.map (·.1)).Nodup->h'.get? a=ae (seqObj "list" (qs.map λq=>Value.ref q.1).toArray k) ->
  (∀ q∈qs,∃ vs,IsTup h' q.1 vs.toArray /\ IntsAre vs q.2)->(qs.map (·.2)).Perm (ao.map key)->qs.Pairwise (λa b=>lexLt (bh<|b.2.map aI.i) (bh<|a.2.map aI.i)=af)->Q zaf { s with heap:=h',toks:=tk }) :
 wpAny zf A (call (.builtin "sorted") [.ref r]) Q E s:=by
 refine Kb IH II IJ (IK _) ?_;unfold Builtin.«sorted»;refine ak<|ay ?_;have h6:ao.length<=sizeLine:=dF (eX di) zc;refine ak<|kdx_collect hh hv hm h6 λh1 tk as hk hl G=>?_;refine ak<|xm ?_ (by rw[a8,hl];show h6);generalize ZH:h1.push (seqObj "list" (as.map Value.ref).toArray 0)=h2;have ve:h2.get? h1.objs.size=ae (seqObj "list" (as.map Value.ref).toArray 0):=by rw[<-ZH];show bA _ zj
 have aeq:∀ b o,h1.get? b=ae o->h2.get? b=ae o:=λb o q=>by rw[<-ZH];show aS _ q
 change wpAny _ _ _ _ _ { s with heap:=h2,toks:=tk };have aiM:∃ ps:List (ai×List Int),ps.map (·.1)=as /\ ps.map (·.2)=ao.map key /\ ∀ p∈ps,rM (ao.map λq=>(key q).map aI.i) h2 (.ref p.1) (bh<|p.2.map aI.i):=by
  refine#[as.zip<|ao.map key,by rw[List.map_fst_zip];rw[a8];lia,by rw[Xb];rw[a8];lia,λp m=>?_];let#[j,hj]:=List.mem_iff_getElem?.mp m;let#[e1,e2]:=List.getElem?_zip_eq_some.mp hj;rw[kZ]at e2;let#[q,e3,e4]:=Option.map_eq_some_iff.mp e2;let#[v,k,x,g1,g2,g3]:=G.pairs j p.1 e1;rw[e3]at g1;cases g1;have:=hI _ (qV e3) v g2;have t2:=e4▸this;have it:=Td (h:=h2) t2;have mm:p.2.map aI.i∈ao.map λq=>(key q).map aI.i:=by rw[<-e4];show bE.mpr #[_,qV e3,rfl]
  cases ek:p.2 with
  |nil=>rw[ek]at t2;cases t2
  |cons n l=>
    rw[ek]at it mm;show#[p.1,[v,x],n,l.map aI.i,rfl,#[_,aeq _ _ g3,rfl,0,rfl],it,mm,rfl]
 let#[ps,p1,p2,p3]:=aiM;have HH:∀ v∈as.map Value.ref,∃ ns,rM (ao.map λq=>(key q).map aI.i) h2 v ns:=λv m=>by
  let#[a,ma,rfl]:=bE.mp m;rw[<-p1]at ma;let#[q,mq,rfl]:=bE.mp ma;show#[_,p3 q mq]
 refine ak<|eU<|eW IL #[_,ve,rfl] IM (GR (cP<|ao.map λq=>(key q).map aI.i) ve HH zb (λne=>Cb (λl m l2 m2=>by let#[x,_,rfl]:=bE.mp m;let#[y,_,rfl]:=bE.mp m2;show CT _ _) hu HH ne) (by rw[a8,hl];show di) λout o1 o2=>#[_,rfl,ay #[_,rfl,?_]])<|IP _;let#[e,he]:=abY ve;have pm:out.toList.Perm (ps.map λq=>Value.ref q.1):=by
  rw[show (ps.map λq=>Value.ref q.1)=as.map Value.ref by rw[<-p1,bO];rfl];show o1
 let#[qs,q1,q2]:=L2.DL.K4 pm zj;have aer:h2.objs.size=h1.objs.size+1:=by rw[<-ZH,uf]
 have old:∀ b o,h1.get? b=ae o->(sortedHeap h2 h1.objs.size (as.map Value.ref) out).get? b=ae o:=λb o q=>by
  have lt:=ba q;show(Xp (bJ lt) (by rw[aer];show pS lt)).trans (aeq b o q)
 have mem:∀ a,a∈qs.map (·.1) ↔ a∈as:=λa=>by rw[<-p1];show(q2.map (·.1)).mem_iff
 refine h _ tk _ e qs (λb o q=>#[old b o<|hk b o q,bJ<|ba<|hk b o q,λz=>?_]) (λz=>(absurd (G.there<|(mem _).mp z)<|kq _)) ?_ ?_ (λq m=>?_) ?_ ?_
 .have:=G.above b<|(mem b).mp z;show absurd (ba q)<|Nat.not_lt.mpr<|eX this
 .rw[(q2.map (·.1)).nodup_iff,p1];show(G.rise.imp λr=>bJ r)
 .rw[he];have:out=(qs.map λq=>Value.ref q.1).toArray:=by apply Array.toList_inj.mp;rw[q1]
  rw[<-this]
 .let#[b,vs,n,l,eb,#[o,t1,t2],t3,tm,t4]:=p3 q<|q2.mem_iff.mp m;cases eb;let#[y,_,ey]:=bE.mp tm;refine#[vs,#[o,?_,t2],Te<|(L2.DL.code_inj (by rw[<-ey];show CT _ _) t4)▸t3];have lt:=G.there<|(mem q.1).mp<|vb m;show(Xp (bJ lt) (by rw[aer];show pS lt)).trans t1
 .rw[<-p2];show q2.map _
 .unfold vA at o2;rw[q1,ub]at o2;show XM (λ{a b} ma mb r=>r _ _ (p3 a<|q2.mem_iff.mp ma)<|p3 b<|q2.mem_iff.mp mb) o2
end
end HT
namespace L2
open PySem.W
def rX (H:Hp):List (ai×HO)->Hp
 |[]=>H
 |q::l=>upd (rX H l) q.1 q.2
theorem AC {b:ai}:∀ {l:List (ai×HO)},b∉l.map (·.1)->rX H l b=H b:=by
 intro l_;induction l_ with
 |nil=>show λ_=>rfl
 |cons q l aD=>
   intro h;rw[aU,bz,not_or]at h;change upd _ q.1 q.2 b=_;rw[fu h.1,aD h.2]
theorem RK {b:ai}{u:HO}:∀ {l:List (ai×HO)},rX H l b=ae u->(b,u)∈l \/ H b=ae u:=by
 intro l_;induction l_ with
 |nil=>show λh=>.inr h
 |cons q l aD=>
   intro h;by_cases e:b=q.1
   .subst e;rw[show rX H _=upd _ q.1 q.2 from rfl,fv]at h;cases h;show .inl<|bN ..
   .rw[show rX H _=upd _ q.1 q.2 from rfl,fu e]at h;show(aD h).imp (bG _) id
theorem dn.any {h:aE}{o:HO}(x:dn P w H h a o):∃ u,h.get? a=ae u:=by
 cases o with
 |lst xs=>let#[_,_,_,_,e]:=x;show#[_,e]
 |tup xs=>let#[_,_,_,o,e,_]:=x;show#[_,e]
 |dK ao=>let#[_,_,_,_,o,_,_,e,_]:=x;show#[_,e]
 |dT ao=>let#[_,_,_,_,o,_,_,e,_]:=x;show#[_,e]
 |set S n=>let#[o,_,_,_,e,_]:=x;show#[_,e]
 |ins C dx fs=>let#[_,_,_,e,_]:=x;show#[_,e]
 |own y=>show x
 |xd fs=>let#[_,#[_,_,_,e,_],_]:=x;show#[_,e]
 |xQ lo hi=>let#[_,_,_,e]:=x;show#[_,e]
 |bF ob u=>let#[e,_]:=x;show#[_,e]
 |rf ps=>show#[_,(x)]
 |met f y=>show#[_,(x)]
 |ext φ=>let#[_,#[_,e],_]:=x;show#[_,e]
section
variable {s:aq} 
theorem Inv.aiN {l:List (ai×HO)}(I:Inv X pins σ H s) (k:∀ b u,s.heap.get? b=ae u->h'.get? b=ae u /\ b∉l.map (·.1)) (new:∀ q∈l,dn X.prog X.w (rX H l) h' q.1 q.2) :
 Inv X pins σ (rX H l) { s with heap:=h',toks:=t' }:=by
 have old:∀ b u,H b=ae u->rX H l b=ae u:=λb u e=>by
  let#[ob,eb]:=(I.aF b u e).any;rw[AC (k b ob eb).2];show e
 refine I.un #[λb u q _ _ _=>(k b u q).1,λb u q _ _ _=>#[u.slots,(k b u q).1],λb u q n _=>(AC (k b u q).2).trans n,λb u q _=>#[u,(k b u q).1],λb xs q=>old _ _ q,λb u xs q=>old _ _ q,λb ps q=>#[#[],by rw[old _ _ q];simp]] λb u e=>?_;rcases RK e with m|m
 .show new _ m
 .show(I.aF b u m).eZ (λc v _ q=>(k c v q).1) (λc q=>old _ _ q) λc xs q=>old _ _ q
end
section
variable {o:au} {p cJ:aK} {td:TE}
def aiO (td:TE):TE:=λσ H Q=>td σ H λx H1=>∃ (a:ai) (ps:List<|Int×Int),x=.ref a /\ Rd H1 a (.dK<|ps.map λp=>(Sum.inl p.1,V.int p.2)) /\ ps.length<64 /\ ∀ (bs:List<|ai×List Int) (l:ai),(∀ b∈bs,H1 b.1=ah)->H1 l=ah->l∉bs.map (·.1)->(bs.map (·.1)).Nodup->bs.map (λb=>b.2.map HT.aI.i)=DL.n8 (ps.map λp=>[HT.aI.i p.1,.i p.2]) ->
 Q (.ref l) (upd (rX H1<|bs.map λb=>(b.1,.tup<|b.2.map V.int)) l<|.lst<|bs.map λb=>V.ref b.1)
noncomputable def aes:Key×aj->List Int
 |(.inl i,.int j _)=>[i,j]
 |_=>[]
theorem RL:∀ {ps:List (Int×Int)}{vs:List (Key×aj)},KV (ps.map λp=>(Sum.inl p.1,V.int p.2)) vs->vs.map aes=(ps.map λp=>[p.1,p.2]) /\ ∀ q∈vs,∃ i j t,q=(Sum.inl i,.int j t):=by
 intro l_;induction l_ with
 |nil=>(intro vs h;cases h;show#[rfl,λ_ m=>nomatch m])
 |cons p ps aD=>
   intro _ h;cases h with
   |@cons _ q _ vs h t=>
     let#[a,b]:=aD t;let#[k,x]:=q;let#[h1,t',h2]:=h;cases h1;cases h2;refine#[by rw[aU,aU,a];rfl,λq m=>?_];rcases bz.mp m with rfl|m
     .show#[_,_,_,rfl]
     .show b q m
theorem Bf:∀ {us:List aj}{ns:List Int},IntsAre us ns->Vals (ns.map V.int) us
 |_,_,.nil=>.nil
 |_,_,.cons n t h=>.cons #[t,rfl]<|Bf h
theorem Le (hc:X.calm=ag) (hu:X.A.units+8<cLine) (hg:Gl X "sorted") (hm:X.mg "sorted"=ah) (ho:PE X o td) (hb:attributeBase o "items" X.env (eval o X.env)=eval o X.env) (hl:(apos.endLine==cJ.line)=ag) :
 PE X (.Call (.Name "sorted" p) [.Call (.Attribute o "items" apos) [] [] cJ] [] pos) (aiO td):=by
 intro pins s σ H Q I h;have st:=DL.fI (e:=.Call (.Attribute o "items" apos) [] [] cJ) zj [] X.env;refine sk<|jC I hg hm boot_sorted ?_ zc zc;refine callWith_builtin1 ?_ st<|DL.ic zj;rw[st];change wpAny _ _ (spliced ((af,eval (.Call (.Attribute o "items" apos) [] [] cJ) X.env)::backTo pos (starEach [] X.env))) _ _ s;refine EC<|aaZ hb zj hl acb aco PySem.F.type_dict_items<|tE (ho pins s σ H _ I h) λu s1 x H1 I1 rx hh=>?_;let#[a,ps,ex,ea,di,q1]:=hh;subst ex;obtain rfl:u=Value.ref a:=rx;let#[t1,t2,_]:=MJ I1<|.inl #[_,ea];refine#[t1,t2,XF zj<|ae6 ?_];let#[zl,hd,vs,rel,dd]:=Ac I1.aF ea;let#[ep,dat]:=dd.dictAt;let#[k1,k2]:=RL rel;refine Ii aco dd.typeIs PySem.F.entry_dict_items (PySem.F.args_dict_items_1 _) (meets_dict_items (eu X.prog X.w) a hd) #[#[vs,dd],?_];have I2:Inv X pins σ H1 { s1 with heap:=s1.heap.push { cls:=.type "dict_items",data:=.fields (List.toArray [.ref a]) } }:=I1.kept λb o e=>aS _ e;have lv:vs.length=ps.length:=by
  have:=congrArg List.length k1;simpa using this
 refine EB<|HT.Ld aes (I1.ok.hd hc) hu #[_,bA _ zj,rfl,rfl] (dat.push _) zb (λq m v hv=>?_) λh' tk l k qs ok nl nd hL tp pm ord=>?_
 .let#[i,j,t,rfl]:=k2 q m;rcases gh (k:=Sum.inl i) hv with⟨i',t',e1,rfl⟩|⟨y,t',e1,rfl⟩
  .cases (show (Sum.inl i)=Sum.inl i' from e1);show .cons _ _<|.cons _ _ .nil
  .cases (show (Sum.inl i)=Sum.inr y from e1)
 .have fr:∀ b,(b=l \/ b∈qs.map (·.1))->H1 b=ah:=λb z=>by
   cases q:H1 b with
   |none=>rfl
   |some w=>
     let#[ob,eb]:=(I2.aF b w q).any;let#[_,o1,o2]:=ok b ob eb;show z.elim (λz=>absurd z o1) λz=>absurd z o2
  have so:qs.map (λb=>b.2.map HT.aI.i)=DL.n8 (ps.map λp=>[HT.aI.i p.1,.i p.2]):=by
   refine DL.jw ?_ ?_ ?_
   .unfold DL.rN;rw[bR];intro a ma;rw[bR];intro b mb;let#[x,_,rfl]:=bE.mp ma;let#[y,_,rfl]:=bE.mp mb;show HT.CT [x.1,x.2] [y.1,y.2]
   .have:=(k1▸pm).map λl:List Int=>l.map HT.aI.i;rw[bO,bO]at this;show this
   .rw[ub];show ord
  have akZ:qs.length<64:=by
   have:=pm.length_eq;erw[a8]at this;lia
  have ak0:(64)<=sizeLine:=by decide
  have I3:=I2.aiN (t':=tk) (l:=(l,.lst<|qs.map λb=>V.ref b.1)::qs.map λb=>(b.1,HO.tup<|b.2.map V.int)) (λb u e=>by
   let#[o0,o1,o2]:=ok b u e;refine#[o0,?_];rw[aU,bz,bO];show λz=>z.elim o1 o2) (λq m=>by
   rcases bz.mp m with rfl|m
   .refine#[by rw[a8];lia,_,k,?_,hL];have:∀ l:List<|ai×List Int,Vals (l.map λp=>V.ref p.1) (l.map λp=>Value.ref p.1):=λl=>by
     induction l with
     |nil=>show .nil
     |cons a l ih=>show .cons zj ih
    show this qs
   .let#[q,mq,rfl]:=bE.mp m;let#[us,tu,iu]:=tp q mq;refine#[?_,us,Bf iu,tu];let#[q',m3,e3]:=bE.mp<|pm.mem_iff.mp<|vb mq;let#[i,j,t,rfl]:=k2 q' m3;rw[<-e3];change (2:Nat)<=sizeLine;lia)
  show#[.ref l,_,I3,rfl,q1 qs l (λb m=>fr b.1<|.inr<|vb m) (fr l<|.inl zj) nl nd so]
end
end L2
namespace L2.DL
open PySem.W
section
variable {o:au} {p cJ:aK} 
noncomputable def yI:List (Key×D)->Option (List<|Int×Int)
 |[]=>ae []
 |(.inl k,.int v)::l=>(yI l).map ((k,v)::·)
 |_::_=>ah
theorem DP:∀ {l:List (Key×D)}{ao:List (Key×V)}{ps:List (Int×Int)},aT F l ao->yI l=ae ps->ao=ps.map λp=>(Sum.inl p.1,V.int p.2)
 | [],_,_,h,e=>by
   cases (h);cases e;rfl
 | (.inl k,.int v)::l,_,_,h,e=>by
   let#[u,t,rfl,h1,h2]:=h;let#[ns,e1,rfl]:=Option.map_eq_some_iff.mp<|e;cases (h1);rw[aU,DP h2 e1]
 |(.inr _,_)::_,_,_,_,e=>by cases e
 |(.inl _,.aB)::_,_,_,_,e=>by cases e
 |(.inl _,.bl _)::_,_,_,_,e=>by cases e
 |(.inl _,.str _)::_,_,_,_,e=>by cases e
 |(.inl _,.tup _)::_,_,_,_,e=>by cases e
 |(.inl _,.lst _)::_,_,_,_,e=>by cases e
 |(.inl _,.aG _)::_,_,_,_,e=>by cases e
theorem RM:∀ ns:List Int,aJ F ((ns.map HT.aI.i).map kQ) (ns.map V.int):=by
 intro l_;induction l_ with
 |nil=>show rfl
 |cons n ns aD=>show#[_,_,rfl,rfl,aD]
theorem Rel.aiP:∀ {bs:List (ai×List Int)}{F:Hp},Rel T F r σ H env bx->(∀ b∈bs,H b.1=ah)->(bs.map (·.1)).Nodup->∃ F',bq F r F' r /\ Rel T F' r σ (rX H<|bs.map λb=>(b.1,.tup<|b.2.map V.int)) env bx /\ aJ F' ((bs.map λb=>b.2.map HT.aI.i).map dO) (bs.map λb=>V.ref b.1):=by
 intro l_;induction l_ with
 |nil=>(intro F R _ _;show#[F,.refl F r,R,rfl])
 |cons b bs aD=>
   intro F R h nd;rw[aU,uc]at nd;let#[F1,g1,R1,d1]:=aD R (λc m=>h c<|bG _ m) nd.2;have hn:rX H (bs.map λb=>(b.1,HO.tup<|b.2.map V.int)) b.1=ah:=by
    rw[AC (by rw[bO];show nd.1)];show h b<|bN ..
   have g2:=R1.ux (o:=.tup<|b.2.map V.int) hn;show#[_,g1.trans g2,R1.yj hn,.cons #[b.1,_,rfl,fv,RM b.2]<|aJ.mono g2.s _ d1]
def HL (bo:Bool) (m:DE W):DE W:=λenv bx=>fC zI λx bx1=>match (qM bx1 x).bind yI with
 |some ps=>if ps.length<64 then cz bo (ae<|.lst<|(n8<|ps.map λp=>[HT.aI.i p.1,.i p.2]).map dO) bx1 else .bad
 |none=>.bad
theorem Lf (bo:Bool) (hc:X.calm=ag) (hu:X.A.units+8<cLine) (hg:Gl X "sorted") (hm:X.mg "sorted"=ah) (ho:PD X T Z o ma) (hb:attributeBase o "items" X.env (eval o X.env)=eval o X.env) (hl:(apos.endLine==cJ.line)=ag) :
 PD X T Z (.Call (.Name "sorted" p) [.Call (.Attribute o "items" apos) [] [] cJ] [] pos) (HL bo ma):=by
 refine PE.imp (Le hc hu hg hm ho hb hl) λσ H Q=>x4 λF r env bx R h=>#[F,r,env,bx,R,End.bind h λx bx1 F1 r1 v H1 g1 R1 d1 h1=>?_];split at h1
 .ext ps q;split at h1
  .ext di;let#[l,q1,q2]:=Option.bind_eq_some_iff.mp q;let#[a,ao,rfl,k1,k2]:=CP R1 d1 q1;rw[DP k2 q2]at k1;refine#[a,ps,rfl,k1,di,λbs l hb hl nl nd so=>?_];let#[F2,g2,R2,d2]:=Rel.aiP R1 hb nd;rw[so]at d2;refine ib R2 (End.weak g2 h1) #[l,_,rfl,?_,rfl,d2];rw[AC (by rw[bO];show nl)];show hl
  .show h1.elim
 .show h1.elim
end
end L2.DL
namespace K1
open L2 L2.DL
def Bg:az:=(fF<|gx (jI "int"<|dV 0)<|E6<|jI "bool"<|dV 0)
def jx:List W->List Bx->O W:=aM 1<|aO Bg
def Ae:az:=(fF<|gx (fj K1.jx 1<|fc (dV 0) ff)<|d3 dX dX (dV 1) (dV 0)<|dV 2)
def f9:List W->List Bx->O W:=aM 3<|aO Ae
def Bh:az:=(fF<|gx (jI "tuple"<|dV 0)<|d3 dX dX (dV 1) (dN af cC<|fc (dV 0) ff)<|dV 2)
def fY:List W->List Bx->O W:=aM 3<|aO Bh
def Af:az:=(fF<|dN af dM<|fc (f7 af [ah,ae 0] (tF<|fc zd<|fc (dN af cC<|fc (dV 0) ff) ff) (fe 0) gk<|d2 af dt (d2 af aA (dV 1)<|d2 af cB (dV 0) zd)<|d2 af aA (dV 1)<|dV 0) ff)
def ie:List W->List Bx->O W:=aM 1<|aO Af
def DQ:az:=(fF<|gx (fj K1.fY 3<|fc (dV 0)<|fc zd<|fc (dC<|.int 5) ff)<|dN af dM<|fc (f7 af [ah] (bP<|dV 0) (fe 0) gk<|fj K1.f9 3<|fc (dV 0)<|fc zh<|fc zB ff) ff)
def jW:List W->List Bx->O W:=aM 1<|aO DQ
def DR:az:=(fq (aR (nW (dU<|dB<|fj K1.fY 3<|fc (dV 0)<|fc (d2 af fP zB zd)<|fc (d2 af fP zB zd) ff)<|dU<|dB<|dN af dM<|fc (f7 af [ah] (bP<|dV 0) (fe 0) gk<|fj K1.f9 3<|fc (dV 0)<|fc zh<|fc (dC<|.int 9) ff) ff) (fF<|dC<|.bl af) aY)<|fF<|dN af dM<|fc (f7 af [ah,ah] (qL<|fc (dV 0)<|fc (qi af (dV 0) (qh zd) qC) ff) (gj 2<|fm (fe 0)<|fm (fe 1) gn) gk<|d2 af dX (dV 1)<|dV 0) ff)
def jX:List W->List Bx->O W:=aM 1<|aO DR
def Lg:az:=(fF<|gx (fj K1.fY 3<|fc (dV 0)<|fc zP<|fc zP ff)<|gx (fj K1.f9 3<|fc (d2 af aA (dV 0) zh)<|fc zd<|fc (dC<|.int 999) ff)<|fj K1.jX 1<|fc zar ff)
def mL:List W->List Bx->O W:=aM 1<|aO Lg
def DS:az:=(fF<|gx (fj K1.fY 3<|fc (dV 0)<|fc zd zW)<|dN af dM<|fc (f7 af [ah] (bP<|dV 0) (fe 0) gk<|fj K1.mL 1<|fc (dV 0) ff) ff)
def jY:List W->List Bx->O W:=aM 1<|aO DS
def Ar:az:=(fq (aR (dU<|dB<|fj K1.fY 3<|fc (dV 0)<|fc zP<|fc zP ff) (fF<|dC<|.bl af) aY)<|fF<|gx (dN af dM<|fc (f7 af [ah,ae 1] (bP<|dV 0) (fe 0) gk<|fj K1.f9 3<|fc (dV 0)<|fc zh<|fc (d2 af cB (dV 1) zd) ff) ff)<|d2 af dt (d2 af aA (dV 0) zh) zar)
def iJ:List W->List Bx->O W:=aM 2<|aO Ar
def DT:az:=(fq (aR (dU<|dB<|jI "tuple"<|dV 0) (fF<|dC<|.bl af) aY)<|fF<|gx (dN af dM<|fc (f7 af [ah,ae 1] (bP<|dV 0) (fe 0) gk<|fj K1.iJ 2<|fc (dV 0) zE) ff)<|fj K1.ie 1<|fc (dV 0) ff)
def jZ:List W->List Bx->O W:=aM 2<|aO DT
def F6:az:=(fq (aR (dU<|dB<|fj K1.fY 3<|fc (dV 0)<|fc (dC<|.int 4) zW) (fF<|dC<|.bl af) aY)<|fq (fJ (dV 0)<|gj 4<|fm (fe 1)<|fm (fe 2)<|fm (fe 3)<|fm (fe 4) gn)<|fF<|gx (fj K1.jW 1 zE)<|gx (fj K1.jY 1 zM)<|gx (fj K1.jZ 2<|fc (dV 3)<|fc (dN af cC zM) ff)<|fj K1.f9 3<|fc (dV 4)<|fc zd<|fc (dC<|.int 9) ff)
def lL:List W->List Bx->O W:=aM 5<|aO F6
def jD:az:=(fq (aR (dB<|d2 af dt (dV 1)<|uF<|dV 0) (fF<|Hf (dV 0)<|dV 1) aY)<|fF zh)
def ig:List W->List Bx->O W:=aM 2<|aO jD
def jJ:az:=(fq (aR (dB<|d2 af nZ (dV 0)<|d2 af pM (dC<|.int 10)<|dC<|.int 18) (fF<|gF ag<|fc (d2 af cB (dV 0)<|d2 af pM (dC<|.int 10)<|dC<|.int 18) ff) aY)<|fq (fJ zh<|fe 1)<|fq (gT (dW<|fc (dC<|.int 64) ff) (fe 2) zH)<|fF<|gF ag zE)
def j0:List W->List Bx->O W:=aM 4<|aO jJ
def Bi:az:=(fq (fJ (d2 af pL (d2 af aA (dV 0) zh)<|dV 1)<|fe 2)<|fq (fJ (d2 af pK (d2 af aA (dV 0) zh)<|dV 1)<|He (dV 0) zh)<|fF<|dV 2)
def fk:List W->List Bx->O W:=aM 3<|aO Bi
def Ag:az:=(fF<|gx (jI "int"<|dV 0)<|E6<|jI "bool"<|dV 0)
def jb:List W->List Bx->O W:=aM 1<|aO Ag
def oA:az:=(fF<|gx (fj K1.jb 1<|fc (dV 0) ff)<|d3 dX dX (dV 1) (dV 0)<|dV 2)
def iS:List W->List Bx->O W:=aM 3<|aO oA
def Ck:az:=(fq (fJ (gF af<|fc (dC .aB)<|fc (dC<|.bl ag)<|fc (dC<|.bl af)<|fc (tK zd)<|fc (d2 af pM (dC<|.int 10)<|dC<|.int 30)<|fc (dC<|.str "")<|fc (dC<|.str "a")<|fc (dC<|.str "1")<|fc (gf ff)<|fc (gF af ff)<|fc (eO af [])<|fc (gF af<|fc (gf ff) ff)<|fc (gf<|fc (gf ff) ff)<|fc (gf<|fc zh ff)<|fc (gF af<|fc zh ff)<|fc (eO af [(.inl 0,.int 1)])<|fc (gf<|fc (dC<|.bl ag)<|fc (dC<|.bl ag) ff) ff)<|fe 1)<|fF<|d2 af aA (dV 1)<|fj K1.fk 2<|fc (dV 0)<|fc (dN af cC zE) ff)
def jo:List W->List Bx->O W:=aM 2<|aO Ck
def mD:az:=(fq (fJ (d2 af aA (gF af<|fc (dC<|.int 9)<|fc zB<|fc zd<|fc (dC<|.int 9) ff)<|fj K1.fk 2<|fc (dV 0) zW)<|fe 1)<|fq (fJ (KN af<|dN af cT<|fc (f7 af [ah,ae 0,ae 1] (dW zW) (fe 0) gk<|fj K1.fk 2<|fc (dV 1)<|fc (d2 af fP (dV 2) zd) ff) ff)<|fe 2)<|fF<|gf<|fc (d2 af aA (gF af<|fc (dC<|.int 30)<|fc (d2 af fP zd<|fj K1.fk 2<|fc (dV 0)<|fc (dC<|.int 20) ff)<|fc (dC<|.int 999)<|fc (dC<|.int 8) ff)<|fj K1.fk 2<|fc (dV 0) zW)<|fc (dN af tH zM) ff)
def ij:List W->List Bx->O W:=aM 3<|aO mD
end K1
namespace K2
open L2 L2.DL
def F7:az:=(fq (kO 2 3<|fc (gF ag ff)<|fc (fj K1.fk 2<|fc (dV 0) zE) ff)<|fq (gT (dW<|fc (d2 af aA (gF af<|fc zh<|fc zd<|fc zP zW)<|fj K1.fk 2<|fc (dV 0) zW) ff) (fe 4) zan)<|fF<|dN af tH zM)
def jy:List W->List Bx->O W:=aM 5<|aO F7
def gK:az:=(fF<|dN af dM<|fc (f7 af [ah,ah] (qL<|fc (dV 0)<|fc (qi af (dV 0) (qh zd) qC) ff) (gj 2<|fm (fe 0)<|fm (fe 1) gn) gk<|d2 af dt zar<|d2 af aA (dV 1) zh) ff)
def im:List W->List Bx->O W:=aM 1<|aO gK
def oS:az:=(fF<|gx (fj K1.jx 1<|fc (dV 0) ff)<|d2 af nZ (dV 0) zh)
def gM:List W->List Bx->O W:=aM 1<|aO oS
def oB:az:=(fF<|gx (fj K1.fY 3<|fc (dV 0)<|fc zP<|fc zP ff)<|gx (fj K2.gM 1<|fc (d2 af aA (dV 0) zh) ff)<|gx (fj K2.gM 1<|fc zar ff)<|d2 af dt (d2 af aA (dV 0) zh) zar)
def jK:List W->List Bx->O W:=aM 1<|aO oB
def DU:az:=(aR (dU<|dB<|fj K2.gM 1<|fc (dV 0) ff) (yu 3<|dC<|.str "an hour is a whole number from 0 on") aY)
def jc:List W->List Bx->O W:=aM 1 DU
def jp:az:=(fq (fJ (d2 af aA (d2 af aA (dV 0) zh)<|dV 2)<|fe 4)<|fq (gT (bP<|dV 1) (gj 2<|fm (fe 5)<|fm (fe 6) gn)<|aR (dB<|d3 dX dt (dV 5) (dV 3)<|dV 6) (fF<|dN af maxD<|fc zh<|fc (d2 af cB (dV 4)<|d2 af pK (d2 af cB (dV 3)<|dV 5)<|d2 af aA (dV 0) zB) ff) aY)<|fF<|dV 4)
def i8:List W->List Bx->O W:=aM 7<|aO jp
def mE:az:=(fF<|gx (fj K1.jb 1<|fc (dV 0) ff)<|d2 af nZ (dV 0) zh)
def ip:List W->List Bx->O W:=aM 1<|aO mE
end K2
namespace bu
open L2 L2.DL
def j5:az:=(aR (dU<|dB<|fj K1.lL 1<|fc (dV 0) ff) bZ aY)
def gP:List W->List Bx->O W:=aM 1<|aO j5
end bu
namespace aN
open L2 L2.DL
def DV:az:=(fq (fJ (dN af tH<|fc (f7 af [ah,ae 0] (dW<|fc (d2 af fP zd<|fj K1.fk 2<|fc (dV 0)<|fc (dC<|.int 5) ff) ff) (fe 0) gk<|fj K1.fk 2<|fc (dV 1) zW) ff)<|fe 1)<|fq (fJ (dN af tH<|fc (f7 af [ah,ae 0] (dW<|fc (d2 af fP zd<|fj K1.fk 2<|fc (dV 0) zW) ff) (fe 0) gk<|fj K1.ij 1 zE) ff)<|fe 2)<|fq (fJ (gF af ff)<|fe 3)<|fq (gT (dW<|fc (dN af cC zM) ff) (fe 4)<|fJ (d2 af fP (dV 3)<|f7 af [ah,ae 0,ae 4] (dW<|fc (dV 4) ff) (fe 0) (dB<|d2 af bf (fj K1.fk 2<|fc (dV 1)<|fc zB ff) zh)<|gf<|fc (dV 0) zM)<|fe 3)<|fF<|gf<|fc (dV 1)<|fc (dV 2)<|fc (dN af tH<|fc (dN af cT zam) ff)<|fc (d2 af aA (gF af<|fc zd<|fc zP<|fc (dC<|.int 9)<|fc (d2 af fP zd<|fj K1.fk 2<|fc (dV 0)<|fc (dC<|.int 9) ff) ff)<|fj K1.fk 2<|fc (dV 0) zW) ff)
def jd:List W->List Bx->O W:=aM 5<|aO DV
def lM:az:=(fq (fJ (dN ag wK zE)<|fe 2)<|fF<|f7 af [ah,ae 0,ae 2] (bP<|dV 1) (fe 0) gk<|wV (dV 2)<|fj K1.fk 2<|fc (dV 1)<|fc (dN af cC zM) ff)
def j6:List W->List Bx->O W:=aM 3<|aO lM
def Bj:az:=(fq (kO 3 4<|fc (fj K1.fk 2<|fc (dV 0) zM)<|fc (fj K1.fk 2<|fc (dV 0)<|fc (d2 af aA (gF af<|fc zB<|fc (dC<|.int 10) ff)<|fj K1.fk 2<|fc (dV 0)<|fc zP ff) ff) ff)<|fq (kO 5 6<|fc (fj K1.fk 2<|fc (dV 0)<|fc (dN af cC<|fc (d2 af aA (dV 1) zh) ff) ff)<|fc (fj K1.fk 2<|fc (dV 0)<|fc (dC<|.int 5) ff) ff)<|fq (aR (dB<|d2 af bf (dV 6) zh) (fF<|gf<|fc (dV 3)<|fc (dC<|.str "out")<|fc (dV 4) ff) aY)<|fq (aR (dB<|d2 af dt (dV 6) zB) (fF<|gf<|fc (dV 3)<|fc (dC<|.str "to")<|fc (dV 4)<|fc (dV 5) ff) aY)<|fq (fJ (d2 af aA (gF af<|fc zh<|fc (fj K1.fk 2<|fc (dV 0)<|fc (dC<|.int 9) ff)<|fc (fj K1.fk 2<|fc (dV 0)<|fc (dC<|.int 40) ff)<|fc (dC<|.int 999) ff)<|fj K1.fk 2<|fc (dV 0) zW)<|fe 7)<|fF<|gf<|fc (dV 3)<|fc (dC<|.str "in")<|fc (dV 4)<|fc (fj K1.fk 2<|fc (dV 0)<|fc (dN af cC<|fc (d2 af aA (dV 1) zd) ff) ff)<|fc (dV 5)<|fc (dV 7)<|fc (fj K1.fk 2<|fc (dV 0)<|fc (dC<|.int 100) ff) ff)
def g6:List W->List Bx->O W:=aM 8<|aO Bj
def DW:az:=(fq (fJ yD<|fe 4)<|fq (gT (dW<|fc (fj K1.fk 2<|fc (dV 0)<|fc (d2 af fP (dV 2) zd) ff) ff) (fe 5) zQ)<|fF<|fj aN.j6 2<|fc (dV 0)<|fc (HK af<|dV 4) ff)
def jf:List W->List Bx->O W:=aM 7<|aO DW
def jL:az:=(fq (kO 2 3<|fc (d2 af cB (dN af cC<|fc zar ff) zd)<|fc (d2 af cB (dN af cC<|fc (d2 af aA (dV 0) zh) ff) zd) ff)<|fq (aR (dB<|d2 af bf (dV 1)<|dC<|.str "in") (fF<|gf<|fc (dC<|.int 9)<|fc (dV 2)<|fc (dV 3)<|fc (dC<|.int 999)<|fc (dC<|.int 99) ff) aY)<|fq (aR (dB<|d2 af bf (dV 1)<|dC<|.str "out") (fF<|gf<|fc (dC<|.int 9) ff) aY)<|fq (aR (dB<|d2 af bf (dV 1)<|dC<|.str "to") (fF<|gf<|fc (dC<|.int 9) zam) aY)<|fF<|gf ff)
def iq:List W->List Bx->O W:=aM 4<|aO jL
def Lh:az:=(fq (aR (nW (dU<|dB<|jI "tuple"<|dV 1)<|nW (dB<|d2 af dt (dN af cC zE) zB)<|dU<|dB<|fj K2.gM 1<|fc (d2 af aA (dV 1) zh) ff) (fF<|dC<|.bl af) aY)<|fq (fJ (fj aN.iq 2<|fc (dV 0)<|fc (d2 af aA (dV 1) zd) ff)<|fe 2)<|fq (aR (dB<|d2 af pP (dN af cC zM)<|d2 af cB (dN af cC zE) zP) (fF<|dC<|.bl af) aY)<|fF<|dN af dM<|fc (f7 af [ah,ah] (qL<|fc (qi af (dV 1) (qh zP) qC) zM) (gj 2<|fm (fe 0)<|fm (fe 1) gn) gk<|fj K1.f9 3<|fc (dV 0)<|fc zh zE) ff)
def jq:List W->List Bx->O W:=aM 3<|aO Lh
def DY:az:=(fq (aR (nW (dU<|dB<|jI "list"<|dV 1)<|dB<|d2 af kP (dN af cC zE)<|dC<|.int 16) (fF<|dC<|.bl af) aY)<|fF<|gx (dN af dM<|fc (f7 af [ah,ae 0] (bP<|dV 1) (fe 0) gk<|fj aN.jq 2<|fc (dV 1)<|fc (dV 0) ff) ff)<|fj K1.ie 1<|fc (dN af cT zE) ff)
def j7:List W->List Bx->O W:=aM 2<|aO DY
def j8:az:=(fq (fX<|fj bu.gP 1<|fc (dV 0) ff)<|aR (dU<|dB<|fj aN.j7 2<|fc (dV 0) zE) bZ aY)
def iT:List W->List Bx->O W:=aM 2<|aO j8
def lN:az:=(fq (aR (dB<|d2 af bf zar<|dC<|.str "in") (fF<|d2 af aA (dV 0)<|dC<|.int 4) aY)<|fq (aR (dB<|d2 af bf zar<|dC<|.str "to") (fF<|d2 af aA (dV 0) zB) aY)<|fF<|dC .aB)
def fN:List W->List Bx->O W:=aM 1<|aO lN
def DZ:az:=(fF<|d2 af (inD ag) (gf<|fc (dN af minD<|fc (dV 1) zM)<|fc (dN af maxD<|fc (dV 1) zM) ff)<|d2 af aA (dV 0) zP)
def jg:List W->List Bx->O W:=aM 3<|aO DZ
def mM:az:=(fq (kO 4 5<|fc (d2 af aA (dV 3) zd)<|fc (d2 af aA (dV 3) zP) ff)<|fq (aR (nK (dB<|d2 af bf (dV 4)<|dC<|.str "in")<|dB<|kT af (dV 5)<|dV 1) (fF<|dC<|.str "there") aY)<|fq (aR (nK (dB<|d2 af pP (dV 4)<|dC<|.str "in")<|dB<|kT ag (dV 5)<|dV 2) (fF<|dC<|.str "none") aY)<|fq (aR (dB<|d2 af bf (dV 4)<|dC<|.str "out") (fF<|dC<|.str "takes") aY)<|fq (fJ (fj aN.fN 1 zam)<|fe 6)<|fq (aR (nK (dB<|d2 af bf (dV 4)<|dC<|.str "to")<|dB<|d2 af bf (kS (dV 2)<|dV 5)<|dV 6) (fF<|dC<|.str "same") aY)<|fq (fJ (nX (dB<|d2 af bf (dV 4)<|dC<|.str "in") (d2 af aA (dV 3) zB)<|kS (dV 1)<|dV 5)<|fe 7)<|fq (fJ (wY af [ah,ae 2,ae 6] 2 (fe 0) (dB<|d2 af bf (kS (dV 1)<|dV 0)<|dV 2)<|dV 0)<|fe 8)<|fq (aR (dB<|dN af dM<|fc (f7 af [ah,ae 0,ae 1,ae 7] (bP<|dV 8) (fe 0) gk<|fj aN.jg 3<|fc (dV 1)<|fc (dV 3)<|fc (kS (dV 2)<|dV 0) ff) ff) (fF<|dC<|.str "takes") aY)<|fF<|dC<|.str "apart")
def iY:List W->List Bx->O W:=aM 9<|aO mM
def Nh:az:=(fq (fJ (gF ag ff)<|fe 2)<|fq (fJ (eO ag [])<|fe 3)<|fq (fJ (eO ag [])<|fe 4)<|fq (gT (bP<|dN af cT zE) (fe 5)<|fq (fJ (d2 af aA (dV 5) zP)<|fe 6)<|fq (fJ (fj aN.iY 4<|fc (dV 0)<|fc (dV 3)<|fc (dV 4)<|fc (dV 5) ff)<|fe 7) zA)<|fF<|uE 2)
def CU:List W->List Bx->O W:=aM 8<|aO Nh
end aN
namespace cw
open L2 L2.DL
def lO:az:=(fq (fJ (eO ag [])<|fe 2)<|fq (gT (bP<|dV 0) (gj 3<|fm (fe 3)<|fm (fe 4)<|fm (fe 5) gn)<|fq (aR (dB<|d2 af kP (d2 af aA (dV 3) zh)<|dV 1) KC aY)<|aR (dB<|kF af<|dV 5) (uN (dV 2)<|d2 af aA (dV 3) zP)<|rR (dV 2) (d2 af aA (dV 3) zP)<|dV 5)<|fF<|uE 2)
def gR:List W->List Bx->O W:=aM 6<|aO lO
def BN:az:=(fF<|f7 af [ah,ah,ah,ah] (bP<|fj aN.CU 2<|fc (dV 0) zE) (gj 4<|fm (fe 0)<|fm (fe 1)<|fm (fe 2)<|fm (fe 3) gn) (dB<|d2 af bf (dV 1)<|dC<|.str "takes")<|gf<|fc (dV 0)<|fc (dV 2) zam)
def gC:List W->List Bx->O W:=aM 2<|aO BN
end cw
namespace bj
open L2 L2.DL
noncomputable section
def Bl:az:=(fq (fX<|fj bu.gP 1<|fc (dV 0) ff)<|fF<|gx (fj K1.fY 3<|fc (dV 1)<|fc zh zW)<|gx (dN af dM<|fc (f7 af [ah] (bP<|dV 1) (fe 0) gk<|fj K2.jK 1<|fc (dV 0) ff) ff)<|fj K2.im 1 zE)
def lP:List W->List Bx->O W:=aM 2<|aO Bl
def Ah:az:=(aR (dU<|dB<|fj bj.lP 2<|fc (dV 0) zE) bZ aY)
def j9:List W->List Bx->O W:=aM 2<|aO Ah
def D0:az:=(fq (gT (bP<|dV 0) (gj 3<|fm (fe 2)<|fm (fe 3)<|fm (fe 4) gn)<|aR (nK (dB<|d2 af bf (d2 af aA (dV 2) zd)<|dC<|.str "in")<|dB<|d2 af bf (d2 af aA (dV 2) zP)<|dV 1) (fF<|dV 2) aY)<|fF<|dC .aB)
def ir:List W->List Bx->O W:=aM 5<|aO D0
def iy:az:=(fq (fJ (gF ag ff)<|fe 2)<|fq (gT (bP<|dV 1) (gj 2<|fm (fe 3)<|fm (fe 4) gn)<|fq (fX<|rV (dV 2)<|gF af<|fc (dV 3)<|fc (dV 4) ff)<|fX<|rV (dV 2)<|f7 af [ah,ae 0,ae 3] (tF<|fc zd<|fc (d2 af fP zB zd) ff) (fe 0) gk<|d2 af fP (dV 2)<|d2 af dj (dV 0)<|d2 af aA (dV 1) zB)<|fF<|dV 2)
def gX:List W->List Bx->O W:=aM 5<|aO iy
def D3:az:=(fF<|dN af HD<|fc (f7 af [ah,ah,ah,ae 1,ae 2] (bP<|dV 0) (gj 3<|fm (fe 0)<|fm (fe 1)<|fm (fe 2) gn) gk<|gx (d2 af bf (d2 af aA (dV 0) zh)<|dV 4)<|d2 af (inD af) (dV 3)<|gf<|fc (dV 1) zM) ff)
def jh:List W->List Bx->O W:=aM 3<|aO D3
def D4:az:=(fq (fJ (fj cw.gR 2<|fc (dV 2)<|fc (dV 4) ff)<|fe 5)<|fq (aR (dB<|kT ag (d2 af aA (dV 3) zP)<|dV 5) (fF zh) aY)<|fq (fJ (kS (dV 5)<|d2 af aA (dV 3) zP)<|fe 6)<|fq (fJ (fj K2.i8 4<|fc (dV 0)<|fc (dV 1)<|fc (dV 6)<|fc (dV 4) ff)<|fe 7)<|fq (aR (dB<|fj bj.jh 3<|fc (dV 2)<|fc (dV 6)<|fc (dV 4) ff) (fJ (dN af maxD<|fc zh<|fc (d2 af cB (dV 7) zd) ff)<|fe 7) aY)<|fF<|d2 af aA (d2 af aA (d2 af aA zar<|d2 af aA (dV 3) zB) zd)<|dV 7)
def ji:List W->List Bx->O W:=aM 8<|aO D4
def D5:az:=(fq (fJ (fj bj.gX 2<|fc (dV 0) zE)<|fe 4)<|fq (gT (bP<|dV 2) zak<|fX<|rV (dV 4)<|gF af<|fc (d2 af aA (dV 5) zh)<|fc (d2 af fP (d2 af aA (dV 5) zh) zd) ff)<|fq (fJ (f7 af [ah,ae 3] (bP<|dN af wX<|fc (dV 4) ff) (fe 0) (dB<|d2 af nZ (dV 0)<|d2 af aA (dV 1) zh)<|dV 0)<|fe 8)<|fq (fJ (d2 af fP (qi af (dV 8) (qh zd) qC)<|gF af<|fc (dC .aB) ff)<|fe 9)<|fF<|f7 af [ah,ah,ae 0,ae 1,ae 2,ae 3] (qL<|fc (dV 8)<|fc (dV 9) ff) (gj 2<|fm (fe 0)<|fm (fe 1) gn) gk<|gf<|fc (dV 0)<|fc (dV 1)<|fc (fj bj.ji 5<|fc (dV 2)<|fc (dV 3)<|fc (dV 4)<|fc (dV 5)<|fc (dV 0) ff) ff)
def jj:List W->List Bx->O W:=aM 10<|aO D5
def Li:az:=(fq (fJ (d2 af aA (dV 3)<|dC<|.int 5)<|fe 5)<|fq (gT (bP<|fj bj.jj 4<|fc (dV 0)<|fc (dV 1)<|fc (dV 2) zam) (gj 3<|fm (fe 6)<|fm (fe 7)<|fm (fe 8) gn)<|fq (fJ (nX (dB<|kF af<|dV 7) (dV 4)<|dN af minD<|fc (dV 7)<|fc (dV 4) ff)<|fe 9)<|rW af 5<|d2 af dj (dV 8)<|dN af maxD<|fc zh<|fc (d2 af cB (dV 9)<|dV 6) ff)<|fF<|dV 5)
def mO:List W->List Bx->O W:=aM 10<|aO Li
def F8:az:=(fF<|d2 af aA (d2 af aA zar<|d2 af aA (dV 1) zB) zh)
def jz:List W->List Bx->O W:=aM 2<|aO F8
def BO:az:=(fq (fJ (d2 af cB (fj bj.jz 2<|fc (dV 0) zam)<|d2 af aA (dV 3)<|dC<|.int 5)<|fe 4)<|fq (aR (dB<|d2 af dX (dV 4) zh) (fF<|d2 af aA (dV 3) zh) aY)<|fq (gT (bP<|fj bj.jj 4<|fc (dV 0)<|fc (dV 1)<|fc (dV 2) zam) zak z8)<|fF<|dC .aB)
def jr:List W->List Bx->O W:=aM 9<|aO BO
end
end bj
namespace qO
open L2 L2.DL
noncomputable section
end
end qO
namespace K24
open L2 L2.DL
noncomputable section
def oC (C:ai):az:=(fq (fX<|fj bu.gP 1 zE)<|fq (qj C (dV 0) "home"<|dV 1)<|fq (qj C (dV 0) "kept"<|gf ff)<|fq (qj C (dV 0) "dark_hours"<|gf ff) aY)
noncomputable def Lj (C:ai):List W->List Bx->O W:=λ_ _=>.bad
def BP (C:ai):az:=(aR (dU<|dB<|fj aN.jq 2<|fc (cU C (dV 0) "home") zE) bZ aY)
def lQ (C:ai):List W->List Bx->O W:=aM 2<|aO<|BP C
def Ni (C:ai):az:=(fq (fX<|qD (cU C (dV 0) "earlier")<|gf<|fc (cU C (dV 0) "kept")<|fc (cU C (dV 0) "dark_hours") ff)<|fq (qj C (dV 0) "kept"<|dN af tH<|fc (dN af cT zE) ff)<|qj C (dV 0) "dark_hours"<|dN af tH<|fc (dN af cT zM) ff)
def l7 (C:ai):List W->List Bx->O W:=aM 3<|aO<|Ni C
def Nj (C:ai):az:=(fq (fX<|kg C (K24.lQ C) "need_page" 2 (dV 0) zE)<|fq (aR (dB<|d2 af (inD af) (dV 1)<|cU C (dV 0) "kept") bZ aY)<|fq (aR (dB<|d2 af nZ (dN af cC<|fc (cU C (dV 0) "kept") ff)<|dC<|.int 16) bZ aY)<|fX<|kg C (K24.l7 C) "keep" 3 (dV 0)<|fc (d2 af fP (cU C (dV 0) "kept")<|gf zE)<|fc (cU C (dV 0) "dark_hours") ff)
def l8 (C:ai):List W->List Bx->O W:=aM 2<|aO<|Nj C
def Nk (C:ai):az:=(fq (fJ (gf<|fc (dV 1) zM)<|fe 3)<|fq (aR (nW (dU<|dB<|fj K2.jK 1 zam)<|dU<|dB<|fj K2.im 1<|fc (dN af cT<|fc (d2 af fP (cU C (dV 0) "dark_hours")<|gf zam) ff) ff) bZ aY)<|fq (aR (dB<|d2 af nZ (dN af cC<|fc (cU C (dV 0) "dark_hours") ff)<|dC<|.int 4) bZ aY)<|fX<|kg C (K24.l7 C) "keep" 3 (dV 0)<|fc (cU C (dV 0) "kept")<|fc (d2 af fP (cU C (dV 0) "dark_hours")<|gf zam) ff)
def mf (C:ai):List W->List Bx->O W:=aM 4<|aO<|Nk C
def BQ:az:=(fq (fX<|fj bj.j9 2<|fc (dV 0) zE)<|fq (fX<|fj aN.iT 2<|fc (dV 0) zM)<|aR (dU<|dB<|fj K1.f9 3<|fc (dV 3)<|fc zh<|fc (dC<|.int 9) ff) (yu 5<|dC<|.str "a lot is a whole number from 0 to 9") aY)
def iz:List W->List Bx->O W:=aM 4<|BQ
def F9:az:=(fq (fX<|fj K24.iz 4<|fc (dV 0)<|fc (dV 1)<|fc (dV 2) zam)<|fq (fX<|fj K2.jc 1<|fc (dV 4) ff)<|fq (fJ (fj cw.gC 2<|fc (dV 0) zM)<|fe 5)<|fq (fJ (fj bj.ir 2<|fc (dV 5) zam)<|fe 6)<|fq (aR (nW (dB<|kF af<|dV 6)<|dB<|d2 af kP (d2 af aA (dV 6) zh)<|dV 4) (fF<|dC .aB) aY)<|fF<|fj bj.mO 5<|fc (dV 0)<|fc (dV 1)<|fc (dV 5)<|fc (dV 6)<|fc (dV 4) ff)
def iZ:List W->List Bx->O W:=aM 7<|F9
def D6:az:=(fq (fX<|fj K24.iz 4<|fc (dV 0)<|fc (dV 1)<|fc (dV 2) zam)<|fq (fJ (fj cw.gC 2<|fc (dV 0) zM)<|fe 4)<|fq (fJ (fj bj.ir 2<|fc (dV 4) zam)<|fe 5)<|fq (aR (dB<|kF af<|dV 5) (fF<|dC .aB) aY)<|fF<|fj bj.jr 4<|fc (dV 0)<|fc (dV 1)<|fc (dV 4)<|fc (dV 5) ff)
def iA:List W->List Bx->O W:=aM 6<|D6
def Lk (C:ai):az:=(fF<|dN af wK<|fc (cU C (dV 0) "kept") ff)
def jt (C:ai):List W->List Bx->O W:=aM 1<|aO<|Lk C
def CV (C:ai):az:=(fF<|fj K24.iZ 5<|fc (cU C (dV 0) "home")<|fc (cU C (dV 0) "dark_hours")<|fc (kg C (K24.jt C) "pages" 1 (dV 0) ff)<|fc (dV 1) zM)
def mF (C:ai):List W->List Bx->O W:=aM 3<|CV C
def BR (C:ai):az:=(fF<|fj K24.iA 4<|fc (cU C (dV 0) "home")<|fc (cU C (dV 0) "dark_hours")<|fc (kg C (K24.jt C) "pages" 1 (dV 0) ff) zE)
def lR (C:ai):List W->List Bx->O W:=aM 2<|BR C
def Nl:az:=(fq (fX<|fj aN.iT 2<|fc (dV 0) zE)<|fq (fX<|fj K2.jc 1 zM)<|fq (fJ (fj cw.gR 2<|fc (fj cw.gC 2<|fc (dV 0) zE) zM)<|fe 3)<|fF<|HL af<|dV 3)
def mh:List W->List Bx->O W:=aM 4<|Nl
def Ga (C:ai):az:=(fF<|fj K24.mh 3<|fc (cU C (dV 0) "home")<|fc (kg C (K24.jt C) "pages" 1 (dV 0) ff) zE)
def Ai (C:ai):List W->List Bx->O W:=aM 2<|Ga C
def Gb (C:ai):az:=(fq (vD<|aR (dB<|d2 af bf (dV 0) zh) (fX<|fj K24.iZ 5<|fc (dV 1)<|fc (dV 2)<|fc (dV 3)<|fc (dV 5)<|fc (dV 6) ff)<|aR (dB<|d2 af bf (dV 0) zd) (fX<|fj K24.iA 4<|fc (dV 1)<|fc (dV 2)<|fc (dV 3)<|fc (dV 5) ff)<|aR (dB<|d2 af bf (dV 0) zP) (fX<|kg C (K24.mF C) "ripeness" 3 (dV 4)<|fc (dV 5)<|fc (dV 6) ff)<|aR (dB<|d2 af bf (dV 0) zB) (fX<|kg C (K24.lR C) "spoilt_at" 2 (dV 4)<|fc (dV 5) ff)<|fX<|kg C (K24.Ai C) "places" 2 (dV 4)<|fc (dV 6) ff)<|fF<|dC<|.str "")
def jA (C:ai):List W->List Bx->O W:=aM 8<|aO<|Gb C
def Cn:az:=(fq (aR (nK (dB<|d2 af dt (dV 0)<|dC<|.int 4)<|dU<|dB<|fj K1.iS 3<|fc (dV 1)<|fc zh<|fc (dC<|.int 9) ff) (fF<|dC<|.str "lot") aY)<|fF<|nX (nW (dB<|d2 af (inD af) (dV 0)<|gf<|fc zd<|fc zB ff)<|dB<|fj K2.ip 1 zM) (dC<|.str "")<|dC<|.str "hour")
def lb:List W->List Bx->O W:=aM 3<|aO Cn
def Tf (C:ai):az:=(fq (gT (dW<|fc (dN af maxD<|fc zd<|fc (dN af minD<|fc (uF<|dV 0)<|fc (dC<|.int 6) ff) ff) ff) (fe 1)<|fq (fJ (fj K1.j0 1<|fc (fj K1.ig 2<|fc (dV 0) zE) ff)<|fe 2)<|fq (fJ (fj aN.jd 1 zM)<|fe 3)<|fq (kO 4 5<|fc (fj K2.jy 2<|fc (dV 2)<|fc (dC<|.int 20) ff)<|fc (fj aN.jf 4<|fc (dV 2)<|fc (dV 3)<|fc (dC<|.int 10)<|fc (dC<|.int 30) ff) ff)<|fq (fJ (yz C "earlier" (K24.oC C) zam)<|fe 6)<|fq (gT (bP<|dV 5) (fe 7)<|fX<|kg C (K24.l8 C) "tell" 2 (dV 6)<|fc (dV 7) ff)<|fq (gT (bP<|dV 4) (gj 2<|fm (fe 8)<|fm (fe 9) gn)<|fX<|kg C (K24.mf C) "dark" 3 (dV 6)<|fc (dV 8)<|fc (dV 9) ff)<|fq (fJ (gF af zq)<|fe 10)<|gT (bP<|dV 10) (fe 11)<|gT (bP<|gF af<|fc (dC<|.int 4)<|fc (d2 af aA (dV 10)<|fj K1.fk 2<|fc (dV 2)<|fc (dC<|.int 13) ff)<|fc (d2 af aA (dV 10)<|fj K1.fk 2<|fc (dV 2)<|fc (dC<|.int 13) ff) ff) (fe 12)<|gT (dW<|fc (dC<|.int 5) ff) (fe 13) zat)<|fF<|dC<|.bl ag)
def CW (C:ai):List W->List Bx->O W:=aM 14<|aO<|Tf C
end
end K24
namespace L2.DL
section
variable {β:Type}
@[simp] theorem fQ {a:α}{k:α->List Bx->O β}:fC (.val a bx) k=k a bx:=rfl
@[simp] theorem YQ {k:α->List Bx->O β}:fC .bad k=.bad:=rfl
@[simp] theorem iM {a:α}{k:α->List Bx->OS}:br (.val a bx) k=k a bx:=rfl
@[simp] theorem YR {k:α->List Bx->OS}:br (.bad:O α) k=.bad:=rfl
@[simp] theorem Bm {a:α}{k:α->List Bx->O β}:bindB (.val a bx) k=k a bx:=rfl
end
@[simp] theorem jE {i:Nat}:dV i env bx=match env[i]? with|some (ae w)=>.val w bx|_=>.bad:=rfl
@[simp] theorem WH {d:D}:dC d env bx=.val (.d d) bx:=rfl
@[simp] theorem Va:ff env bx=.val [] bx:=rfl
@[simp] theorem GX {m:DE W}{k:DE zah}:fc m k env bx=fC zI λw bx1=>fC (k env bx1) λl ax=>.val (w::l) ax:=rfl
@[simp] theorem GY {k:DE zah}:fj fn n k env bx=fC (k env bx) λws bx1=>if ws.length=n then fn ws bx1 else .bad:=rfl
@[simp] theorem Yx {m:DE W}:dB m env bx=fC zI λw bx1=>match w with|.d (.bl k)=>.val k bx1|_=>.bad:=rfl
@[simp] theorem Nm {m k:DE Bool}:nK m k env bx=fC zI λb bx1=>match b with|true=>k env bx1|false=>.val af bx1:=rfl
@[simp] theorem Tg {m k:DE Bool}:nW m k env bx=fC zI λb bx1=>match b with|true=>.val ag bx1|false=>k env bx1:=rfl
@[simp] theorem Vb {m:DE Bool}:dU m env bx=fC zI λb bx1=>.val (!b) bx1:=rfl
@[simp] theorem RN {m k:DE W}:gx m k env bx=fC zI λw bx1=>match w with|.d (.bl ag)=>k env bx1|.d (.bl af)=>.val (.d<|.bl af) bx1|_=>.bad:=rfl
@[simp] theorem Yp {m:DE W}:E6 m env bx=fC zI λw bx1=>match w with|.d (.bl k)=>.val (.d<|.bl<|!k) bx1|_=>.bad:=rfl
@[simp] theorem GZ:gk env bx=.val ag bx:=rfl
@[simp] theorem Yq {n:String}{m:DE W}:jI n m env bx=fC zI λw bx1=>match bY bx1 w with|some d=>.val (.d<|.bl<|vq (rH d) n) bx1|none=>.bad:=rfl
@[simp] theorem Nn {b:Bool}:d2 b g ma mb env bx=fC (ma env bx) λx bx1=>fC (mb env bx1) λy ax=>cz b ((bY ax x).bind λp=>(bY ax y).bind λq=>g p q) ax:=rfl
@[simp] theorem Ll {b:Bool}{g:List D->Option Res}{k:DE zah}:dN b g k env bx=fC (k env bx) λws bx1=>cz b ((kE bx1 ws).bind g) bx1:=rfl
@[simp] theorem YS {g':D->D->Option Res}:d3 g g' ma mb mc env bx=fC (ma env bx) λx bx1=>fC (mb env bx1) λy ax=>
 fC (cz af ((bY ax x).bind λp=>(bY ax y).bind λq=>g p q) ax) λz cj=>match z with
  |.d (.bl ag)=>fC (mc env cj) λw hZ=>cz af ((bY hZ y).bind λp=>(bY hZ w).bind λq=>g' p q) hZ
  |.d (.bl af)=>.val (.d<|.bl af) cj
  |_=>.bad:=rfl
@[simp] theorem Bn {d:D}:bY bx (.d d)=ae d:=rfl
@[simp] theorem No:kE bx []=ae []:=rfl
@[simp] theorem Np {d:D}{l:List W}:kE bx (.d d::l)=(kE bx l).map λt=>d::t:=by
 erw[kE];cases kE bx l<;>rfl
@[simp] theorem Wg {b:Bool}:cz b ah bx=.bad:=rfl
@[simp] theorem ju {q:Res}:cz af (ae q) bx=.val (.d q.toD) bx:=by cases q<;>rfl
@[simp] theorem Yy {l:List D}:cz ag (ae<|.lst l) bx=.val (.b bx.length) (bx++[.lst l]):=rfl
@[simp] theorem G0 {d:D}:(Res.old d).toD=d:=rfl
@[simp] theorem RP {l:List D}:(Res.tup l).toD=.tup l:=rfl
@[simp] theorem oE {l:List D}:(Res.lst l).toD=.lst l:=rfl
@[simp] theorem Yr {l:List (Key×D)}:(Res.aG l).toD=.aG l:=rfl
@[simp] theorem Yz:aY env bx=.nx env bx:=rfl
@[simp] theorem jv {m k:az}:fq m k env bx=match m env bx with|.nx a9 bx1=>k a9 bx1|o=>o:=rfl
@[simp] theorem G1 {m:DE W}:fX m env bx=br zI λ_ bx1=>.nx env bx1:=rfl
@[simp] theorem Gc {m:DE W}:fF m env bx=br zI λw bx1=>.rt w bx1:=rfl
@[simp] theorem Th {t:DE Bool}{m k:az}:aR t m k env bx=br (t env bx) λb bx1=>match b with|true=>m env bx1|false=>k env bx1:=rfl
@[simp] theorem Ge {m:DE W}{g:DG}:fJ m g env bx=br zI λw bx1=>match g w env bx1 with|some (a9,ax)=>.nx a9 ax|none=>.bad:=rfl
@[simp] theorem Vc {g:DG}{body:az}:gT m g body env bx=br zI λds bx1=>cq g body ds env bx1:=rfl
@[simp] theorem D7 {i:Nat}{w:W}:fe i w env bx=ae (env.set i<|ae w,bx):=rfl
@[simp] theorem Ys:gn [] env bx=ae (env,bx):=rfl
@[simp] theorem WI {g:DG}{k:pJ}{w:W}{l:List W}:fm g k (w::l) env bx=(g w env bx).bind λ(a9,bx1)=>k l a9 bx1:=rfl
@[simp] theorem Yt {k:pJ}{l:List D}:gj n k (.d<|.tup l) env bx=if l.length=n then k (l.map W.d) env bx else ah:=rfl
@[simp] theorem CY {src:List (Option Nat)}{g:DG}:f7 bo src mi g tf te env bx=fC (mi env bx) λds bx1=>fC (bL g tf te ds (eL src env) bx1 []) λl ax=>cz bo (ae<|.lst l) ax:=rfl
@[simp] theorem Bo:eL [] env=[]:=rfl
@[simp] theorem Aj {l:List (Option Nat)}:eL (ah::l) env=ah::eL l env:=rfl
@[simp] theorem Ak {i:Nat}{l:List (Option Nat)}:eL (ae i::l) env=((env[i]?).bind id)::eL l env:=rfl
@[simp] theorem G2 {m:DE W}:bP m env bx=fC zI λw bx1=>match w with|.d (.lst l)=>.val (l.map W.d) bx1|.d (.tup l)=>.val (l.map W.d) bx1|_=>.bad:=rfl
@[simp] theorem Vd {k:DE zah}:gf k env bx=fC (k env bx) λws bx1=>cz af ((pI ws).bind λl=>if l.length<=sizeLine then ae (.tup l) else ah) bx1:=rfl
@[simp] theorem Nq {k:DE zah}:gF bo k env bx=fC (k env bx) λws bx1=>cz bo ((pI ws).bind λl=>if l.length<=sizeLine then ae (.lst l) else ah) bx1:=rfl
@[simp] theorem WJ:pI []=ae []:=rfl
@[simp] theorem Ve {d:D}{l:List W}:pI (.d d::l)=(pI l).map λt=>d::t:=rfl
@[simp] theorem Vf {m:DE W}:tK m env bx=fC zI λw bx1=>match w with|.d (.int i)=>.val (.d<|.int<|-i) bx1|_=>.bad:=rfl
@[simp] theorem WK {m:DE W}{l u:DE (Option Int)}:qi bo m l u env bx=fC zI λx bx1=>fC (l env bx1) λi ax=>fC (u env ax) λj cj=>cz bo ((bY cj x).bind λd=>tJ d i j) cj:=rfl
@[simp] theorem YO:qC env bx=.val ah bx:=rfl
@[simp] theorem RQ {m:DE W}:qh m env bx=fC zI λw bx1=>match w with|.d (.int i)=>.val (ae i) bx1|_=>.bad:=rfl
@[simp] theorem YA {m:DE W}:KN bo m env bx=fC zI λx bx1=>cz bo ((bY bx1 x).bind λd=>match d with|.lst l=>ae (.lst l.reverse)|_=>ah) bx1:=rfl
theorem fU {m:az}{ws:List W}{d:D}(h:m zK bx=.rt (.d d) bx):aM n (aO m) ws bx=.val (.d d) bx:=by
 simp[aM,aO,DL.envOf,h,nj,nq,vX]
end L2.DL
namespace K1
open L2 L2.DL
noncomputable def wh:D->Bool
 |.int _=>ag
 |_=>af
noncomputable def wi (d:D) (lo hi:Int):Bool:=match d with
 |.int i=>decide (lo<=i)&&decide (i<=hi)
 |_=>af
noncomputable def tl (d:D) (lo hi:Int):Bool:=match d with
 |.tup l=>decide (lo<=(l.length:Int))&&decide ((l.length:Int)<=hi)
 |_=>af
theorem Nr (d:D):vq (rH d) "int"=(match d with|.int _=>ag|.bl _=>ag|_=>af):=by cases d<;>rfl
theorem G3 (d:D):vq (rH d) "bool"=(match d with|.bl _=>ag|_=>af):=by cases d<;>rfl
theorem Vg (d:D):vq (rH d) "tuple"=(match d with|.tup _=>ag|_=>af):=by cases d<;>rfl
theorem Bp (d:D) (bx:List Bx):jx [.d d] bx=.val (.d<|.bl<|wh d) bx:=
 fU (by cases d<;>simp[Bg,Nr,G3,wh])
theorem Co (d:D) (bx:List Bx):jb [.d d] bx=.val (.d<|.bl<|wh d) bx:=
 fU (by cases d<;>simp[Ag,Nr,G3,wh])
theorem oT (d:D) (lo hi:Int) (bx:List Bx):f9 [.d d,.d<|.int lo,.d<|.int hi] bx=.val (.d<|.bl<|wi d lo hi) bx:=
 fU (by
  cases d<;>simp[Ae,Bp,wh,wi,dX];ext i;by_cases h:lo<=i<;>simp[h])
theorem Gf (d:D) (lo hi:Int) (bx:List Bx):iS [.d d,.d<|.int lo,.d<|.int hi] bx=.val (.d<|.bl<|wi d lo hi) bx:=
 fU (by
  cases d<;>simp[oA,Co,wh,wi,dX];ext i;by_cases h:lo<=i<;>simp[h])
theorem Bq (d:D) (lo hi:Int) (bx:List Bx):fY [.d d,.d<|.int lo,.d<|.int hi] bx=.val (.d<|.bl<|tl d lo hi) bx:=
 fU (by
  cases d<;>simp[Bh,Vg,tl,dX,cC];ext l;by_cases h:lo<=(l.length)<;>simp[h])
theorem RR {g:DG}(J:aP->zk) (p:D->Bool) (f:D->D):∀ (l:List D) (env:aP) (acc:List D),J env ->
 (∀ d∈l,∀ env,J env->∃ aQ,g (.d d) env bx=ae (aQ,bx) /\ J aQ /\ tf aQ bx=.val (p d) bx /\ (p d=ag->te aQ bx=.val (.d<|f d) bx))->acc.length+l.length<=sizeLine ->
 bL g tf te (l.map W.d) env bx acc=.val (acc++(l.filter p).map f) bx:=by
 intro l_;induction l_ with
 |nil=>(intro env acc _ _ _;simp[bL])
 |cons d l aD=>
   intro env acc j h n;let#[aQ,e1,j',e2,e3]:=h d (bN ..) env j;have n':acc.length<sizeLine:=by simp[bw]at n;lia
   simp[aU,bL,e1,e2];have h':=λx (m)=>h x<|bG _ m;cases q:p d with
   |false=>
     simp[Iy,q];show aD aQ acc j' h' (by simp[bw]at n;lia)
   |true=>
     simp[Iy,q,e3 q,Bm,if_pos n'];rw[aD aQ _ j' h' (by simp[bQ,bw,qw]at n ⊢;lia)];simp
theorem oF {g:DG}(J:aP->zk) (f:D->D) {l:List D}(j:J env) (h:∀ d∈l,∀ env,J env->∃ aQ,g (.d d) env bx=ae (aQ,bx) /\ J aQ /\ te aQ bx=.val (.d<|f d) bx) (n:l.length<=sizeLine) :
 bL g gk te (l.map W.d) env bx []=.val (l.map f) bx:=by
 rw[RR (tf:=gk) J _ f l env [] j (λd m e je=>let ⟨e',a,b,c⟩:=h d m e je;#[e',a,b,rfl,λ_=>c]) (by simpa using n)];rw[List.filter_eq_self.mpr λ_ _=>rfl];rfl
theorem Nt (l:List D) (p:D->Bool):pN (l.map λd=>D.bl<|p d)=ae (l.map p):=by
 induction l with
 |nil=>rfl
 |cons d l ih=>simp[pN,ih]
@[simp] theorem all_map (l:List D) (p:D->Bool):dM [.lst<|l.map λd=>D.bl<|p d]=ae (.old<|.bl<|l.all p):=by
 simp[dM,Nt]
def rooms (d:D):Bool:=match d with
 |.tup l=>tl (.tup l) 1 5&&l.all λx=>wi x 0 3
 |_=>af
theorem oU {l:List D}{lo hi:Int}(h:tl (.tup l) lo hi=ag):lo<=(l.length:Int) /\ (l.length:Int)<=hi:=by simpa[tl] using h
noncomputable def xa:List D->Bool
 |x::y::l=>(match x,y with|.int i,.int j=>decide (j<=i)|_,_=>af)&&xa (y::l)
 |_=>ag
def yJ (d:D):Bool:=match d with
 |.tup l=>tl (.tup l) 4 4&&(l.all (λx=>wi x 0 9)&&xa l)
 |_=>af
theorem aet {l:List D}(h:tl (.tup l) 2 2=ag):∃ a b,l=[a,b]:=by
 have n:=oU h;obtain⟨a,l,rfl⟩:∃ a t,l=a::t:=xD zb;obtain⟨b,l,rfl⟩:∃ a t,l=a::t:=xD (by simp at n;lia);have:l.length=0:=by simp at n;lia
 show#[a,b,by rw[xw this]]
theorem aiQ {l:List D}(h:tl (.tup l) 4 4=ag):∃ a b c e,l=[a,b,c,e]:=by
 have n:=oU h;obtain⟨a,l,rfl⟩:∃ a t,l=a::t:=xD zb;obtain⟨b,l,rfl⟩:∃ a t,l=a::t:=xD (by simp at n;lia);obtain⟨c,l,rfl⟩:∃ a t,l=a::t:=xD (by simp at n;lia);obtain⟨e,l,rfl⟩:∃ a t,l=a::t:=xD (by simp at n;lia);have:l.length=0:=by simp at n;lia
 show#[a,b,c,e,by rw[xw this]]
theorem lc {x:D}{lo hi:Int}(h:wi x lo hi=ag):∃ i,x=.int i /\ lo<=i /\ i<=hi:=by
 cases x<;>simp[wi]at h;show#[_,rfl,h]
def kind (d:D):Bool:=match d with
 |.tup l=>tl (.tup l) 2 2&&(match l with|[a,b]=>wi a 1 999&&yJ b|_=>af)
 |_=>af
def kinds (d:D):Bool:=match d with
 |.tup l=>tl (.tup l) 1 4&&l.all kind
 |_=>af
def yL (n:Int) (d:D):Bool:=match d with
 |.tup l=>tl (.tup l) 2 2&&(match l with|[.int a,.int b]=>decide (0<=a)&&decide (a<b)&&decide (b<=n-1)|_=>af)
 |_=>af
noncomputable abbrev dP (p:Int×Int):D:=.tup [.int p.1,.int p.2]
abbrev xP (l:List<|Int×Int):Option W:=ae<|.d<|.lst<|l.map dP
def qk (p q:Int×Int):Bool:=HT.lexLt [p.1,p.2] [q.1,q.2]
noncomputable def rP (p:Int×Int):List HT.aI:=[.i p.1,.i p.2]
theorem WL (p q:Int×Int):HT.cD (rP p) (rP q)=qk p q:=by simp[rP,qk,HT.cD,HT.lexLt,HT.aI.lt]
theorem WM (p q:Int×Int):dt (dP p) (dP q)=ae (.old<|.bl<|qk p q):=by
 rw[<-WL];change (if HT.eP (rP p) (rP q)=ag then ae _ else ah)=_;show if_pos zj
def vK:List (Int×Int)->Bool
 |p::q::r=>qk p q&&vK (q::r)
 |_=>ag
theorem Br:∀ ps:List (Int×Int),vK ps=(List.range<|ps.length-1).all λi=>qk (ps.getD i (0,0)) (ps.getD (i+1) (0,0))
 |[]=>rfl
 |[p]=>rfl
 | p::q::r=>by
   rw[vK,Br _];simp[bw,abc];rw[List.range_succ_eq_map,pW,vZ];rfl
theorem G4 {i:Nat}(h:i<ps.length):bD zac (i:Int)=ae (dP<|ps.getD i (0,0)):=by
 unfold bD cy;simp[h]
theorem Gg {k:DE zah}{i j:Int}(e:k env bx=.val [.d<|.int i,.d<|.int j] bx1):tF k env bx=.val (fO i (j-i).toNat) bx1:=by
 unfold tF;rw[e,fQ]
theorem mP {k:DE zah}{j:Int}(e:k env bx=.val [.d<|.int j] bx1) (h:-(2 ^ 62)<=j /\ j<2 ^ 62):dW k env bx=.val (fO 0 j.toNat) bx1:=by
 unfold dW;rw[e,fQ];show if_pos h
theorem RS (lo:Int) (n:Nat):fO lo n=((List.range n).map λ(i:Nat)=>D.int<|lo+(i:Int)).map W.d:=by
 rw[bO];rfl
theorem Lm (ps:List<|Int×Int) (n:ps.length<=sizeLine) (bx:List Bx):ie [.d<|.tup zac] bx=.val (.d<|.bl<|vK ps) bx:=
 fU (by
  have s2:sizeLine=16777216:=bC;have r:tF (fc zd<|fc (dN af cC<|fc (dV 0) ff) ff) [ae<|.d<|.tup zac] bx=.val (fO 1 (((ps.length):Int)-1).toNat) bx:=Gg (by simp[cC]);erw[Af,Gc,Ll,GX,CY,aU,abB,bw,qw,nO,List.replicate_zero,qv,r,fQ,RS,Aj,Ak,Bo,abC,bS,id];rw[oF (λe=>∃ w,e=[w,ae _]) _ #[ah,rfl] ?_ (by rw[a8,xr];lia)]
  .erw[fQ,Va,ju,oE,Np,No,ue,bS];rw[all_map,ju,G0,iM,vZ,show ((ps.length:Int)-1).toNat=ps.length-1 by lia];have z:((λx:D=>match x with|.int i=>qk (ps.getD (i.toNat-1) (0,0)) (ps.getD i.toNat (0,0))|_=>af)∘λ(i:Nat)=>D.int<|1+(i:Int))=λi=>qk (ps.getD i (0,0)) (ps.getD (i+1) (0,0)):=by
    funext i;change qk (ps.getD ((1+(i:Int)).toNat-1) (0,0)) (ps.getD (1+(i:Int)).toNat (0,0))=_;rw[show (1+(i:Int)).toNat=i+1 by lia,abc]
   rw[z,<-Br]
  .intro x m e ⟨w,je⟩;let#[i,mi,rfl]:=bE.mp m;have hi:i<((ps.length:Int)-1).toNat:=List.mem_range.mp mi;refine#[[xN<|1+(i:Int),ae<|.d<|.tup zac],by simp[je],#[_,rfl],?_];have a2:=G4 (ps:=ps) (i:=i+1) zb;rw[show ((i+1:Nat):Int)=1+(i:Int) by lia]at a2;erw[Nn,jE,WH,abC,List.getElem?_cons_succ,fQ,Bn,bS,aA,cB,ju,G0,show 1+(i:Int)-1=(i:Int) by lia,(G4 (ps:=ps) (i:=i) (by lia)),a2,ue,WM];rw[show (1+(i:Int)).toNat=i+1 by lia];rfl)
noncomputable def ZI:D->Option (Int×Int)
 |.tup [.int a,.int b]=>ae (a,b)
 |_=>ah
theorem G5 (ps:List<|Int×Int):(ps.map dP).filterMap ZI=ps:=by
 induction ps with
 |nil=>rfl
 |cons p ps ih=>rw[aU,qU,ih];rfl
def apart (n:Int) (d:D):Bool:=match d with
 |.tup l=>l.all (yL n)&&vK (l.filterMap ZI)
 |_=>af
noncomputable def lenOf:D->Int
 |.tup l=>l.length
 |_=>0
def house (d:D):Bool:=match d with
 |.tup [r,k,p,h]=>rooms r&&(kinds k&&(apart (lenOf k) p&&wi h 1 9))
 |_=>af
end K1
namespace L2.DL
section
variable {a9 cK:aP} {ax cj:List Bx} {m k:DE W} {ks:DE (List W)} {w u:W} {l:List W}
theorem fg (h1:m env bx=.val w bx1) (h2:ks env bx1=.val l ax):fc m ks env bx=.val (w::l) ax:=by rw[GX,h1,fQ,h2,fQ]
theorem RT:∀ {ds:List D},kE bx (ds.map W.d)=ae ds:=by
 intro l_;induction l_ with
 |nil=>show rfl
 |cons d ds aD=>(rw[aU,Np,aD];rfl)
theorem CZ:∀ {ds:List D},pI (ds.map W.d)=ae ds:=by
 intro l_;induction l_ with
 |nil=>show rfl
 |cons d ds aD=>(rw[aU,Ve,aD];rfl)
theorem iF {g:List D->Option Res}{r:Res}(ds:List D) (h:ks env bx=.val (ds.map W.d) bx1) (hg:g ds=ae r):dN af g ks env bx=.val (.d r.toD) bx1:=by rw[Ll,h,fQ,RT,bS,hg,ju]
theorem gH (ds:List D) (h:ks env bx=.val (ds.map W.d) bx1) (hl:ds.length<=sizeLine):gf ks env bx=.val (.d<|.tup ds) bx1:=by rw[Vd,h,fQ,CZ,bS,if_pos hl,ju,RP]
theorem lh (ds:List D) (h:ks env bx=.val (ds.map W.d) bx1) (hl:ds.length<=sizeLine):gF af ks env bx=.val (.d<|.lst ds) bx1:=by rw[Nq,h,fQ,CZ,bS,if_pos hl,ju,oE]
theorem Bs (ds:List D) (h:ks env bx=.val (ds.map W.d) bx1) (hl:ds.length<=sizeLine):gF ag ks env bx=.val (.b bx1.length) (bx1++[.lst ds]):=by rw[Nq,h,fQ,CZ,bS,if_pos hl];rfl
theorem fH {r:Res}{x y:D}(h1:m env bx=.val (.d x) bx1) (h2:k env bx1=.val (.d y) ax) (hg:g x y=ae r):d2 af g m k env bx=.val (.d r.toD) ax:=by rw[Nn,h1,fQ,h2,fQ,Bn,Bn,bS,bS,hg,ju]
theorem fM (h:ks env bx=.val l bx1) (hn:l.length=n) (hf:fn l bx1=.val w ax):fj fn n ks env bx=.val w ax:=by rw[GY,h,fQ,if_pos hn,hf]
theorem gm {b:Bool}(h:m env bx=.val (.d<|.bl b) bx1):dB m env bx=.val b bx1:=by rw[Yx,h,fQ]
theorem gJ {t:DE Bool}{b:Bool}(h:t env bx=.val b bx1):dU t env bx=.val (!b) bx1:=by rw[Vb,h,fQ]
theorem Nu {t s:DE Bool}(h:t env bx=.val ag bx1):nW t s env bx=.val ag bx1:=by rw[Tg,h,fQ]
theorem ja {t s:DE Bool}{b:Bool}(h:t env bx=.val af bx1) (h2:s env bx1=.val b ax):nW t s env bx=.val b ax:=by rw[Tg,h,fQ,h2]
theorem lS {t s:DE Bool}(h:t env bx=.val af bx1):nK t s env bx=.val af bx1:=by rw[Nm,h,fQ]
theorem jF {t s:DE Bool}{b:Bool}(h:t env bx=.val ag bx1) (h2:s env bx1=.val b ax):nK t s env bx=.val b ax:=by rw[Nm,h,fQ,h2]
theorem C0 {b:Bool}(h:m env bx=.val (.d<|.bl b) bx1):gx m k env bx=if b then k env bx1 else .val (.d<|.bl af) bx1:=by rw[RN,h];cases b<;>rfl
theorem gO {src:List (Option Nat)}{g:DG}{ds:List D}{e2:aP}(h1:mi env bx=.val l bx1) (he:eL src env=e2) (h2:bL g tf te l e2 bx1 []=.val ds ax):f7 af src mi g tf te env bx=.val (.d<|.lst ds) ax:=by
 subst he;rw[CY,h1,fQ,h2,fQ,ju,oE]
theorem Nv {x:D}{r:Res}{lo hi:DE (Option Int)}{i j:Option Int}(h1:m env bx=.val (.d x) bx1) (h2:lo env bx1=.val i ax) (h3:hi env ax=.val j cj) (hs:tJ x i j=ae r):qi af m lo hi env bx=.val (.d r.toD) cj:=by
 rw[WK,h1,fQ,h2,fQ,h3,fQ,Bn,bS,hs,ju]
theorem G6 {i:Int}(h:m env bx=.val (.d<|.int i) bx1):qh m env bx=.val (ae i) bx1:=by rw[RQ,h,fQ]
theorem gG {ds:List D}(h:m env bx=.val (.d<|.lst ds) bx1):bP m env bx=.val (ds.map W.d) bx1:=by rw[G2,h,fQ]
theorem iU {ds:List D}(h:m env bx=.val (.d<|.tup ds) bx1):bP m env bx=.val (ds.map W.d) bx1:=by rw[G2,h,fQ]
theorem Nw {i:Int}(h:m env bx=.val (.d<|.int i) bx1):tK m env bx=.val (.d<|.int<|-i) bx1:=by rw[Vf,h,fQ]
theorem fA {a b:az}(h:a env bx=.nx a9 bx1):fq a b env bx=b a9 bx1:=by rw[jv,h]
theorem i9 {a b:az}(h:a env bx=.rt w bx1):fq a b env bx=.rt w bx1:=by rw[jv,h]
theorem gN {i:Nat}(h:m env bx=.val w bx1):fJ m (fe i) env bx=.nx (env.set i<|ae w) bx1:=by rw[Ge,h,iM,D7]
theorem fS (h:m env bx=.val w bx1):fF m env bx=.rt w bx1:=by rw[Gc,h,iM]
theorem iN (h:m env bx=.val w bx1):fX m env bx=.nx env bx1:=by rw[G1,h,iM]
theorem i0 {t:DE Bool}{a b:az}(h:t env bx=.val ag bx1):aR t a b env bx=a env bx1:=by rw[Th,h,iM]
theorem gz {t:DE Bool}{a b:az}(h:t env bx=.val af bx1):aR t a b env bx=b env bx1:=by rw[Th,h,iM]
theorem iB {g:DG}{body:az}(h:mi env bx=.val l bx1):gT mi g body env bx=cq g body l env bx1:=by rw[Vc,h,iM]
theorem iO {g:DG}{body:az}(h1:g w env bx=ae (a9,bx1)) (h2:body a9 bx1=.nx cK ax):cq g body (w::l) env bx=cq g body l cK ax:=by
 rw[cq,h1];simp[h2]
theorem Gh {g:DG}{body:az}(h1:g w env bx=ae (a9,bx1)) (h2:body a9 bx1=.rt u ax):cq g body (w::l) env bx=.rt u ax:=by
 rw[cq,h1];simp[h2]
theorem lj {g:DG}{body:az}(I:Nat->aP->List Bx->zk):∀ (l:List W) (k:Nat) (env:aP) (bx:List Bx),I k env bx ->
 (∀ i w env bx,l[i]?=ae w->I (k+i) env bx->∃ a9 bx1 cK ax,g w env bx=ae (a9,bx1) /\ body a9 bx1=.nx cK ax /\ I (k+i+1) cK ax) ->
 ∃ aQ bx',cq g body l env bx=.nx aQ bx' /\ I (k+l.length) aQ bx':=by
 intro l;induction l with
 |nil=>intro k env bx h _;show#[env,bx,rfl,h]
 |cons w l ih=>
   intro k env bx h st;let#[a9,bx1,cK,ax,e1,e2,h2]:=st 0 w env bx zj h;let#[aQ,bx',e3,h3]:=ih _ cK ax h2 λi x env bx e hi=>by
    have:=st (i+1) x env bx (by simpa using e) (by rw[show k+(i+1)=k+1+i by lia];show hi);rw[show k+(i+1)+1=k+1+i+1 by lia]at this;show this
   show#[aQ,bx',by rw[iO e1 e2,e3],by rw[bw,show k+(l.length+1)=k+1+l.length by lia];show h3]
section
variable {b c:az} {o:OS} {i:Nat} {t:DE Bool} {g:DG} 
theorem qS (h:m env bx=.val w bx1) (k:b (env.set i<|ae w) bx1=o):fq (fJ m<|fe i) b env bx=o:=(fA<|gN h).trans k
theorem qG (h:m env bx=.val w bx1) (hg:g w env bx1=ae (cK,ax)) (k:b cK ax=o):fq (fJ m g) b env bx=o:=by
 rw[jv,Ge,h,iM,hg];show k
theorem qF (h:t env bx=.val af bx1) (k:b env bx1=o):fq (aR t c aY) b env bx=o:=(fA<|(gz h)).trans k
theorem qR (h:t env bx=.val ag bx1) (k:m env bx1=.val w ax):fq (aR t (fF m) aY) b env bx=.rt w ax:=i9<|(i0 h).trans<|fS k
theorem qE (h:m env bx=.val w bx1) (k:b env bx1=o):fq (fX m) b env bx=o:=(fA<|iN h).trans k
theorem cV (hf:fn l bx1=.val w ax) (h:ks env bx=.val l bx1:=by rfl) (hn:l.length=n:=by rfl):fj fn n ks env bx=.val w ax:=fM h hn hf
end
end
theorem yM {e:α->D}{g:DG}{E:α->aP}{J:aP->zk}(p:α->Bool) (f:α->D) (hJ:∀ a,J<|E a):∀ (l:List α) (env:aP) (acc:List D),acc.length+l.length<=sizeLine->J env ->
 (∀ a∈l,∀ env,J env->g (.d<|e a) env B=ae (E a,B))->(∀ a∈l,tf (E a) B=.val (p a) B /\ (p a=ag->te (E a) B=.val (.d<|f a) B))->bL g tf te ((l.map e).map W.d) env B acc=.val (acc++(l.filter p).map f) B:=by
 intro l_;induction l_ with
 |nil=>(intro _ _ _ _ _ _;simp[bL])
 |cons a l aD=>
   intro env acc n j hg h;let#[h1,h2]:=h a<|bN ..;rw[bw]at n;have n':acc.length<sizeLine:=by lia
   have e0:=hg a (bN ..) env j;cases c:p a with
   |false=>
     rw[c]at h1;rw[xA (by simp[c]),<-(aD _ acc zb (hJ a) (λx m=>hg x<|bG _ m) λx m=>h x<|bG _ m)];simp[aU,bL,e0,h1,Bm]
   |true=>
     rw[c]at h1;rw[xC c];erw[aU,bL,e0,h1,h2 c,Bm,if_pos n',(aD _ (acc++[f a]) zo (hJ a) (λx m=>hg x<|bG _ m) λx m=>h x<|bG _ m)];simp
end L2.DL
namespace aN
open L2 L2.DL K1
open HT (aI bh eP cD lexLt)
inductive Pg where
 |aZ (h l k r p w:Int)|to (h l r:Int)|out (h l:Int)
noncomputable def cP:Pg->List aI
 |.aZ h l k r p w=>[.i h,.s "in",.i l,.i k,.i r,.i p,.i w]
 |.to h l r=>[.i h,.s "to",.i l,.i r]
 |.out h l=>[.i h,.s "out",.i l]
def enc (g:Pg):D:=dO<|cP g
theorem C2 (g:Pg):rowOf (enc g)=ae (cP g):=by cases g<;>rfl
theorem Nx:∀ gs:List Pg,rowsOf (gs.map enc)=ae (gs.map cP):=by
 intro l_;induction l_ with
 |nil=>show rfl
 |cons g gs aD=>(simp[rowsOf,C2,aD])
theorem G7 {a b:Pg}(h:cP a=cP b):a=b:=by
 cases a<;>cases b<;>simp[cP]at h<;>simp_all
theorem RU {a b:Pg}(h:enc a=enc b):a=b:=by
 have:=C2 a;rw[h,C2]at this;show(G7<|Option.some.inj this).symm
theorem AD (a b:Pg):eP (cP a) (cP b)=ag:=by cases a<;>cases b<;>rfl
theorem D8 (gs:List Pg):rN (gs.map cP)=ag:=by
 erw[rN,bR,bE];rintro _ ⟨a,_,rfl⟩ _ ⟨b,_,rfl⟩;show AD a b
theorem Ny {g:Pg}{gs:List Pg}(h:(g::gs).length<64):cT [.lst<|(g::gs).map enc]=ae (.lst<|(n8<|(g::gs).map cP).map dO):=by
 have e:tL [.lst<|(g::gs).map enc]=ah:=by cases g<;>rfl
 unfold cT;rw[e];erw[Nx,bS,D8,a8,and_true,if_pos h]
abbrev rY (gs:List Pg):zk:=gs.Pairwise λa b=>cD (cP a) (cP b)=ag
theorem Vh {gs:List Pg}(nd:gs.Nodup) (h:(gs.map cP).Pairwise λa b=>lexLt (bh b) (bh a)=af):rY gs:=by
 rw[ub]at h;refine List.Pairwise.imp₂ (λ{a b} (x) (y)=>?_) h nd;rw[<-HT.Ax _ _ (AD a b)];cases e:lexLt _ (bh _) with
 |true=>rfl
 |false=>show absurd (G7<|code_inj (AD a b)<|HT.jn _ _ e x) y
theorem AE {gs:List Pg}(nd:gs.Nodup) (h:gs.length<64):∃ qs:List Pg,qs.Perm gs /\ rY qs /\ ∀ g2:List Pg,g2.Perm gs->cT [.lst<|g2.map enc]=ae (.lst zaq):=by
 let#[qs,e,p]:=K4 (iX _) zj;refine#[qs,p,Vh (p.nodup_iff.mpr nd) (by rw[<-e];show iQ _),λg2 p2=>?_];cases g2 with
 |nil=>
   have z:=p2.length_eq;have:gs=[]:=by cases gs with|nil=>rfl|cons=>simp at z
   subst this;have:qs=[]:=by have:=p.length_eq;cases qs with|nil=>rfl|cons=>simp at this
   subst this;simp[cT,tL,intsOf,sortI]
 |cons g g2=>
   rw[Ny (by rw[p2.length_eq];show h)];have:=jw (D8 gs) ((iX _).trans<|p2.map cP)<|iQ _;rw[this,e,bO];rfl
theorem Vi (a b:Pg):dt (enc a) (enc b)=ae (.old<|.bl<|cD (cP a)<|cP b):=by
 have:∀ g,∃ l,enc g=.tup l /\ tU l=ae (cP g):=λg=>by cases g<;>show#[_,rfl,rfl]
 let#[l,e1,e3]:=this a;let#[m,f1,f3]:=this b;rw[e1,f1];unfold dt;simp[e3,f3,AD,if_true]
end aN
variable {gs qs:List aN.Pg}{ca:List (Int × aN.Pg)}
namespace K1
open L2 L2.DL
theorem D9:∀ ns:List Int,intsOf (ns.map D.int)=ae ns:=by
 intro l_;induction l_ with
 |nil=>show rfl
 |cons n ns aD=>(rw[aU,intsOf,aD];rfl)
theorem G8:∀ ns:List Int,xa (ns.map D.int)=ag ↔ ns.Pairwise (λa b=>b<=a)
 |[]=>by simp[xa]
 |[x]=>by simp[xa]
 | x::y::l=>by
   have ih:=G8 (y::l);erw[aU]at ih ⊢;erw[xa,aL,decide_eq_true_eq,ih];constructor
   .intro ⟨h,p⟩;refine List.pairwise_cons.mpr #[λz m=>?_,p];rcases bz.mp m with rfl|m
    .show h
    .show Int.le_trans ((List.pairwise_cons.mp p).1 z m) h
   .intro p;have q:=List.pairwise_cons.mp p;show#[q.1 y<|bN ..,q.2]
theorem Fa {lo hi:Int}:∀ {l:List D},(l.all λx=>wi x lo hi)=ag->∃ ns:List Int,l=ns.map D.int:=by
 intro l_;induction l_ with
 |nil=>show λ_=>#[[],rfl]
 |cons d l aD=>
   intro h;erw[pW,aL]at h;let#[i,rfl,_]:=lc h.1;let#[ns,rfl]:=aD h.2;show#[i::ns,rfl]
noncomputable def pt (bx:List Bx) (n:Nat) (p:Int):List Bx:=bx.set n<|.lst [.int p]
theorem gq {p:Int}:(pt bx n p).length=bx.length:=qW ..
theorem Vj {p:Int}(h:n<bx.length):(pt bx n p)[n]?=ae (.lst [.int p]):=by simp[pt,h]
theorem Fb {m:az}{ws:List W}{d:D}{bx':List Bx}(h:m zK bx=.rt (.d d) bx') (l:bx'.length<=bx.length):aM n (aO m) ws bx=.val (.d d) bx':=by
 simp[aM,aO,DL.envOf,h,nj,nq,IC l]
theorem Nz (h:n<bx.length) (p k:Int) (hk:0<k) (vz:k<10 ^ 40):fk [.b n,.d<|.int k] zV=.val (.d<|.int<|p % k) (pt bx n<|p / k):=by
 refine Fb ?_ (by rw[gq,gq];show aH _);have c:vp p k:=#[hk,vz];simp[Bi,bY,(Vj (p:=p) h),aA,bD,cy,pL,pK,hk,c,He];rw[pt,pt,abD]
theorem jk (h:n<bx.length) (p k:Int) (hk:0<k) (vz:k<1073741824):fk [.b n,.d<|.int k] zV=.val (.d<|.int<|p % k) (pt bx n<|p / k):=Nz h p k hk zb
theorem mj {l:List α}{i:Int}(h0:0<=i) (h1:i<l.length):∃ d,bD l i=ae d /\ d∈l:=by
 refine#[l[i.toNat],?_,sF zb];simp[bD,cy,h0,h1]
def Dr (o:O W) (bx:List Bx) (n:Nat) (P:D->zk):zk:=∃ d p,o=.val (.d d) zV /\ P d
theorem mQ (p:Int) {k:Int}(h:0<k):0<=p % k:=Int.emod_nonneg _ zb
theorem mS (p:Int) {k:Int}(h:0<k):p % k<k:=Int.emod_lt_of_pos _ h
noncomputable def ZJ:List D:=[.aB,.bl ag,.bl af,.int<|-1,.int<|10 ^ 30,.str "",.str "a",.str "1",.tup [],.lst [],.aG [],.lst [.tup []],.tup [.tup []],.tup [.int 0],.lst [.int 0],.aG [(.inl 0,.int 1)],.tup [.bl ag,.bl ag]]
theorem Vk (h:n<bx.length) (p:Int):Dr (jo [.b n] zV) bx n (λd=>d∈ZJ):=by
 let#[d,e,m]:=mj (l:=ZJ) (mQ p (k:=17) zc) (by change _<(17);show(mS p (k:=17) zc));refine#[d,p / 17,Fb ?_ (by rw[gq,gq];show aH _),m];have t:=jk h p 17 zc zc;have c:wj 10 30:=by decide
 have aiR:(17)<=sizeLine:=by decide
 have s0:(1)<=sizeLine:=by decide
 have s2:(2)<=sizeLine:=by decide
 unfold Ck;generalize fk=ft at t ⊢;unfold ZJ at e;simp[pM,c,eO,cC,t,aA,aiR,s0,s2]at e ⊢;simp[e]
theorem Fc (l:List D) (i:Nat) (h:i<=l.length):DL.cutD l (ae (i:Int)) ah=l.drop i:=by
 unfold DL.cutD;rw[HT.O2,HT.LX,Q2 h];show IC (by rw[Iu];show aH _)
theorem NA (l:List α) (i:Nat) (h:i<l.length):bD l (i:Int)=ae l[i]:=by
 simp[bD,cy,h]
theorem G9 {g:DG}(J:aP->zk) (P:D->zk):∀ (l:List W) (env:aP) (p:Int) (acc:List D),J env ->
 (∀ w∈l,∀ env p,J env->∃ aQ,g w env zV=ae (aQ,pt bx n p) /\ J aQ /\ Dr (te aQ zV) bx n P)->acc.length+l.length<=sizeLine ->
 ∃ ds p',bL g gk te l env zV acc=.val (acc++ds) (pt bx n p') /\ ds.length=l.length /\ ∀ d∈ds,P d:=by
 intro l_;induction l_ with
 |nil=>show λenv p acc _ _ _=>#[[],p,by simp[bL],rfl,λd m=>by cases m]
 |cons w l aD=>
   intro env p acc j h z;let#[aQ,e1,j',d,q,e2,hd]:=h w (bN ..) env p j;have z':acc.length<sizeLine:=by simp[bw]at z;lia
   let#[ds,p',e3,e4,e5]:=aD aQ q (acc++[d]) j' (λx m=>h x<|bG _ m) (by simp[bQ,bw,qw]at z ⊢;lia);refine#[d::ds,p',?_,by simp[e4],λx m=>?_]
   .erw[bL,e1,GZ,Bm,e2,if_pos z',e3];simp
   .rcases bz.mp m with rfl|m
    .show hd
    .show e5 x m
theorem NB {g:DG}(J:aP->zk) (f:W->D):∀ (l:List W) (env:aP) (p:Int) (acc:List D),J env ->
 (∀ w∈l,∀ env p,J env->∃ aQ b q,g w env zV=ae (aQ,pt bx n p) /\ J aQ /\ tf aQ zV=.val b (pt bx n q) /\ te aQ (pt bx n q)=.val (.d<|f w) (pt bx n q))->acc.length+l.length<=sizeLine ->
 ∃ l' p',bL g tf te l env zV acc=.val (acc++l'.map f) (pt bx n p') /\ List.Sublist l' l:=by
 intro l_;induction l_ with
 |nil=>show λenv p acc _ _ _=>#[[],p,by simp[bL],.slnil]
 |cons w l aD=>
   intro env p acc j h z;let#[aQ,b,q,e1,j',e2,e3]:=h w (bN ..) env p j;have z':acc.length<sizeLine:=by simp[bw]at z;lia
   cases b with
   |false=>
     let#[ds,p',e4,e5]:=aD aQ q acc j' (λx m=>h x<|bG _ m) (by simp[bw]at z;lia);show#[ds,p',by simp[bL,e1,e2,Bm,e4],.cons _ e5]
   |true=>
     let#[ds,p',e4,e5]:=aD aQ q (acc++[f w]) j' (λx m=>h x<|bG _ m) (by simp[bQ,bw,qw]at z ⊢;lia);refine#[w::ds,p',?_,.cons_cons _ e5];erw[bL,e1,e2,Bm,e3,if_pos z',e4];simp
def digit (d:D):zk:=∃ i:Int,d=.int i /\ 0<=i /\ i<=9
theorem Ln:∀ {l:List D},(∀ d∈l,digit d)->∃ ns:List Int,l=ns.map D.int /\ ∀ i∈ns,0<=i /\ i<=9:=by
 intro l_;induction l_ with
 |nil=>show λ_=>#[[],rfl,λ_ m=>by cases m]
 |cons d l aD=>
   intro h;let#[i,rfl,h1]:=h d<|bN ..;let#[ns,rfl,h2]:=aD λx m=>h x<|bG _ m;show#[i::ns,rfl,λx m=>by
    rcases bz.mp m with rfl|m
    .show h1
    .show h2 x m]
theorem NC (h4:ns.length=4) (h:∀ i∈ns,0<=i /\ i<=9):yJ (.tup ((sortI ns).map D.int).reverse)=ag:=by
 have l4:(sortI ns).length=4:=by rw[(gU ns).length_eq,h4]
 rw[<-List.map_reverse];have a1:tl (.tup<|(sortI ns).reverse.map D.int) 4 4=ag:=by simp[tl,l4]
 have a2:(((sortI ns).reverse.map D.int).all λx=>wi x 0 9)=ag:=by
  rw[vZ,bR];intro i m;have:=h i<|(gU ns).mem_iff.mp<|List.mem_reverse.mp m;simp[wi,this.1,this.2]
 erw[yJ,a1,a2,((G8 _).mpr<|List.pairwise_reverse.mpr<|jR ns),abf]
theorem RV (h:n<bx.length) (p:Int):Dr (ij [.b n] zV) bx n (λd=>kind d=ag):=by
 have t4:=jk h p 4 zc zc;let#[y,e,m]:=mj (l:=[D.int 9,.int 3,.int 1,.int 9]) (mQ p (k:=4) zc) (by change _<(4);show mS p zc);obtain⟨top,rfl,h0,h9⟩:∃ i:Int,y=.int i /\ 0<=i /\ i<=9:=by
  simp at m;rcases m with rfl|rfl|rfl|rfl<;>show#[_,rfl,by decide,by decide]
 have z4:(4)<=sizeLine:=by decide
 let#[ds,q,e1,e2,e3]:=G9 (g:=fe 0) (te:=fj fk 2<|fc (dV 1)<|fc (d2 af fP (dV 2) zd) ff) (λe=>∃ w,e=[w,xB n,xN top]) digit (bx:=bx) (n:=n) (fO 0 4) [ah,xB n,xN top] (p / 4) [] #[ah,rfl] (by
  intro w _ env p ⟨w0,je⟩;show#[[ae w,xB n,xN top],by simp[je],#[_,rfl],(#[.int<|p % (top+1),p / (top+1),by simp[fP,(jk h p (top+1) (by lia) (by lia))],_,rfl,mQ _ zb,by have:=mS p (k:=top+1) zb;lia])]) (by
  simp;show z4)
 let#[ns,rfl,cS]:=Ln e3;have n4:ns.length=4:=by
  rw[a8]at e2;rw[e2];simp[fO]
 have so:cT [.lst<|ns.map D.int]=ae (.lst<|(sortI ns).map D.int):=by simp[cT,tL,D9,n4]
 have aeu:=jk h q 20 zc zc;have tx:=jk h (q / 20) 4 zc zc;have b0:=mQ q (k:=20) zc;have b1:=mS q (k:=20) zc;let#[y,ey,my]:=mj (l:=[D.int 30,.int<|1+q % 20,.int 999,.int 8]) (mQ (q / 20) (k:=4) zc) (by change _<(4:Int);show mS _ zc);have hy:wi y 1 999=ag:=by
  simp at my;rcases my with rfl|rfl|rfl|rfl
  .rfl
  .simp[wi];lia
  .rfl
  .rfl
 refine#[.tup [y,.tup ((sortI ns).map D.int).reverse],q / 20 / 4,Fb ?_ (by rw[gq,gq];show aH _),by simp[kind,tl,hy,(NC n4 cS)]];have rg:∀ env bx,dW zW env bx=.val (fO 0 4) bx:=λenv bx=>mP (j:=4) (bx1:=bx) zg zc;have z2:(2:Nat)<=sizeLine:=by decide
 unfold mD;generalize fk=ft at t4 aeu tx e1 ⊢;erw[u9]at e1;simp[z4,z2,t4,aA,e,rg,e1,so,aeu,tx,fP,ey,tH]
noncomputable def Qg:List HT.aI->Int×Int
 |[.i a,.i b]=>(a,b)
 |_=>(0,0)
theorem Bt:∀ ps:List (Int×Int),rowsOf zac=ae (ps.map rP):=by
 intro l_;induction l_ with
 |nil=>show rfl
 |cons p ps aD=>(simp[rowsOf,rowOf,tU,K3,aD,rP])
theorem RW (ps:List<|Int×Int) (h:ps.length<64):∃ qs:List (Int×Int),qs.Perm ps /\ qs.Pairwise (λa b=>qk b a=af) /\ cT [.lst zac]=ae (.lst<|qs.map dP):=by
 cases ps with
 |nil=>show#[[],.refl _,.nil,by simp[cT,tL,intsOf,sortI]]
 |cons p ps=>
   have pe:=iX<|(p::ps).map rP;have e:(n8<|(p::ps).map rP).map (rP∘Qg)=n8 ((p::ps).map rP):=by
    conv=>rhs;rw[<-abE (n8 _)]
    refine xt λx m=>?_;let#[p,_,rfl]:=bE.mp<|pe.mem_iff.mp m;rfl
   refine#[(n8<|(p::ps).map rP).map Qg,?_,?_,?_]
   .have:=pe.map Qg;rw[bO]at this
    rwa [show (Qg∘rP)=id from rfl,abE]at this
   .have so:=iQ<|(p::ps).map rP;rw[<-e,<-bO]at so;show(ub.mp so).imp λ{a b} h=>h
   .change ((rowsOf _).bind λrs=>if rs.length<64 /\ rN rs=ag then ae _ else ah)=_;rw[Bt,bS,if_pos #[by rw[a8];show h,by erw[rN,bR,bE];rintro _ ⟨a,_,rfl⟩ _ ⟨b,_,rfl⟩;rfl],bO]
    conv=>lhs;rw[<-e]
    rw[bO];rfl
theorem WN {p q:Int×Int}(h:qk q p=af) (n:p≠q):qk p q=ag:=by
 cases e:qk p q with
 |true=>rfl
 |false=>
   have:=HT.jn _ _ e h;simp[List.cons.injEq,and_true]at this;show absurd (Prod.ext this.1 this.2) n
theorem Ja:∀ {qs:List (Int×Int)},qs.Pairwise (λa b=>qk b a=af)->qs.Nodup->vK qs=ag
 |[],_,_=>rfl
 |[p],_,_=>rfl
 | p::q::r,h,n=>by
   have h1:=List.pairwise_cons.mp h;have n1:=uc.mp n;simp[vK,aL];show#[WN (h1.1 q<|bN ..) λe=>n1.1 (by rw[e];show bN ..),Ja h1.2 n1.2]
structure HM (k:Nat) (ps:List<|Int×Int):zk where
 nd:ps.Nodup
 b:∀ p∈ps,0<=p.1 /\ p.1<p.2 /\ p.2<(k:Int)
 l:ps.length<=4*k
theorem HM.more {k:Nat}{is:List Nat}(s:HM k ps) (s1:is.Sublist<|List.range k) (hk:k<=4):HM (k+1) (ps++is.map λ(i:Nat)=>((i:Int),(k:Int))):=by
 have li:is.length<=k:=by have:=s1.length_le;simpa using this
 refine#[sH.mpr #[s.nd,(ub.mpr<|(s1.nodup List.nodup_range).imp λ{a b} h e=>h (by have z:=congrArg Prod.fst e;lia)),?_],?_,?_]
 .intro a ma b mb e;subst e;let#[i,_,rfl]:=bE.mp mb;have:=(s.b _ ma).2.2;simp at this
 .intro a ma;rcases List.mem_append.mp ma with m|m
  .have:=s.b a m;lia
  .let#[i,mi,rfl]:=bE.mp m;have:=List.mem_range.mp<|s1.subset mi;lia
 .have:=s.l;simp;lia
theorem C3 {k:Nat}(e:m env bx=.val [.d<|.int (k:Int)] bx) (hk:k<=1000000):dW m env bx=.val (fO 0 k) bx:=by
 rw[mP e zb,pC]
theorem RX (h:n<bx.length) (p:Int) (x1 x2 x3 x4:Option W):∃ (d:D) (q:Int),wi d 1 9=ag /\
 d2 af aA (gF af<|fc zd<|fc zP<|fc (dC<|.int 9)<|fc (d2 af fP zd<|fj fk 2<|fc (dV 0)<|fc (dC<|.int 9) ff) ff) (fj fk 2<|fc (dV 0) zW) [xB n,x1,x2,x3,x4] zV=.val (.d d) (pt bx n q):=by
 let#[y,ey,my]:=mj (l:=[D.int 1,.int 2,.int 9,.int<|1+p % 9]) (mQ (p / 9) (k:=4) zc)<|mS _ zc;have z4:(4)<=sizeLine:=by decide
 refine#[y,p / 9 / 4,?_,?_]
 .simp at my;rcases my with rfl|rfl|rfl|rfl
  .rfl
  .rfl
  .rfl
  .simp[wi];lia
 .simp[(jk h p 9 (by decide) (by decide)),fP,z4,(jk h _ 4 (by decide) (by decide)),aA,ey]
theorem Jb {m k:DE W}{ax:List Bx}{i:Nat}{l l0:List D}{d:D}(h1:m env bx=.val (.b i) bx1) (aev:bx1[i]?=ae (.lst l0)) (h2:k env bx1=.val (.d d) ax) (hb:ax[i]?=ae (.lst l)) (hl:l.length<sizeLine):qD m k env bx=.val (.d .aB) (ax.set i<|.lst<|l++[d]):=by
 unfold qD;rw[h1,fQ];simp[aev,h2,fQ,hb,if_pos hl]
section
variable {d lim rt:D} {ps:List D} {fo so fi tw th:Option W} 
end
section
variable {d lim rt:D} {ps:List D} {fo so fi tw th:Option W} 
end
theorem mT {m:az}{ws:List W}{d:D}{bx':List Bx}(h:m zK bx=.rt (.d d) bx'):aM n (aO m) ws bx=.val (.d d) (bx'.take bx.length):=by
 simp[aM,aO,DL.envOf,h,nj,nq]
theorem WO {i k:Nat}{l:List D}(h:env[k]?=ae (xB i)) (hb:bx[i]?=ae (.lst l)):uE k env bx=.val (.d<|.lst l) (bx.set i .dead):=by
 unfold uE;simp[h,hb]
theorem Vl (l:List Int) (k:Nat) (bx:List Bx):∃ c:Int,ig [.s l,.d<|.int (k:Int)] bx=.val (.d<|.int c) bx:=by
 by_cases h:k<l.length
 .refine#[l[k],fU ?_];have h':(k)<(l.length):=by lia
  simp[jD,uF,dt,h',Hf,(NA l k h)]
 .refine#[0,fU ?_];have h':¬ (k)<(l.length):=by lia
  simp[jD,uF,dt,h']
abbrev aew:az:=zH
theorem ND {i j:Int}(h1:-(2 ^ 64)<i) (h2:i<2 ^ 64):dj (.int i) (.int j)=ae (.old<|.int<|i*j):=if_pos<|.inl #[h1,h2]
theorem Ti {i j:Int}(h1:-(2 ^ 64)<j) (h2:j<2 ^ 64):dj (.int i) (.int j)=ae (.old<|.int<|i*j):=if_pos<|.inr #[h1,h2]
theorem NE {i j:Int}(h1:0<j):pL (.int i) (.int j)=ae (.old<|.int<|i % j):=if_pos h1
theorem NG {i j:Int}(h1:wj i j):pM (.int i) (.int j)=ae (.old<|.int<|i ^ j.toNat):=if_pos h1
theorem Lo (c x j:Int) (w:Option W) (bx:List Bx):∃ x' y,aew [xN c,xN x,xN j,w] bx=.nx [xN c,xN x',xN j,xN y] bx:=by
 let a:=(c % 2147483629+7919*j+1)*48271 % 2147483647
 let b:=(a*a+69621*j+7) % 2147483587
 have e1:fJ (d2 af pL (d2 af dj (d2 af fP (d2 af fP (d2 af pL (dV 0)<|dC _)<|d2 af dj (dC _)<|dV 2) zd)<|dC _)<|dC _) (fe 3) [ae _,ae _,ae _,w] bx=.nx [ae _,xN x,xN j,xN a] bx:=
  gN (fH (fH (fH (r:=.old _) (fH (fH zj zj<|NE zc) (fH zj zj<|ND zc zc) zj) zj zj) zj<|Ti zc zc) zj<|NE zc)
 have e2:fJ (d2 af pL (d2 af fP (d2 af fP (d2 af dj (dV 3)<|dV 3)<|d2 af dj (dC<|.int 69621)<|dV 2)<|dC<|.int 7)<|dC<|.int 2147483587) (fe 3) [xN c,xN x,xN j,xN a] bx=.nx [xN c,xN x,xN j,xN b] bx:=
  gN (fH (fH (r:=.old _) (fH (fH zj zj<|ND zb zb) (fH zj zj<|ND zc zc) zj) zj zj) zj<|NE zc)
 have e3:fJ (d2 af fP (d2 af dj (dV 1)<|dC<|.int 2147483587)<|dV 3) (fe 1) [xN c,xN x,xN j,xN b] bx=.nx [xN c,xN<|x*2147483587+b,xN j,xN b] bx:=
  gN (fH (r:=.old _) (fH zj zj<|Ti zc zc) zj zj)
 show#[_,_,by unfold aew;rw[fA e1,fA e2,e3]]
theorem NH {m:az}{ws:List W}{i:Nat}{bx':List Bx}(h:m zK bx=.rt (.b i) bx'):aM n (aO m) ws bx=.val (.b i) bx':=by
 simp[aM,aO,DL.envOf,h,nj,nq]
theorem WP (c:Int) (bx:List Bx):∃ p:Int,j0 [.d<|.int c] bx=.val (.b bx.length) (bx++[.lst [.int p]]):=by
 have sz:=bC;have aex:∀ e b,d2 af pM (dC _) (dC<|.int 18) e b=.val (.d<|.int<|10 ^ 18) b:=λe b=>fH (r:=.old _) zj zj<|NG zc;have t:dB (d2 af nZ (dV 0) _) [xN c,ah,ah,ah] bx=.val (decide (10 ^ 18<=c)) bx:=gm<|fH (r:=.old _) zj (aex _ _) zj;by_cases h:10 ^ 18<=c
 .rw[decide_eq_true h]at t;refine#[c-10 ^ 18,NH ?_];change jJ [xN c,ah,ah,ah] bx=_;unfold jJ;refine(i9<|(i0 t).trans<|fS<|Bs [.int<|c-10 ^ 18] (fg (fH (r:=.old _) zj (aex _ _) zj) zj) (show (1)<=sizeLine by lia))
 .rw[decide_eq_false h]at t;have rg:=C3 (env:=[xN c,xN 0,ah,ah]) (bx:=bx) (m:=fc (dC<|.int 64) ff) zj zc;let#[aQ,bx',e,x,w2,w3,rfl,rfl]:=lj (g:=fe 2) (λ_ env b=>∃ (x:Int) (w2 w3:Option W),env=[xN c,xN x,w2,w3] /\ b=bx) (fO 0 64) 0 [xN c,xN 0,ah,ah] bx #[0,ah,ah,rfl,rfl] (by
   rintro i w env b hw ⟨x,w2,w3,rfl,rfl⟩;let#[j,_,rfl]:=bE.mp<|qV hw;let#[x',y,e]:=Lo c x (0+(j)) w3 b;show#[_,_,_,_,rfl,e,x',_,_,rfl,rfl])
  refine#[x,NH ?_];change jJ [xN c,ah,ah,ah] bx'=_;unfold jJ;show(fA<|gz t).trans ((fA<|gN zj).trans<|(fA<|(iB rg).trans e).trans<|fS<|Bs [.int x] zj (show (1)<=sizeLine by lia))
end K1
namespace K2
open L2 L2.DL K1
noncomputable def hr (d:D):Bool:=match d with
 |.int i=>decide (0<=i)
 |_=>af
theorem C4 (d:D) (bx:List Bx):gM [.d d] bx=.val (.d<|.bl<|hr d) bx:=
 fU (by cases d<;>simp[oS,Bp,wh,nZ,hr])
theorem NI (d:D) (bx:List Bx):ip [.d d] bx=.val (.d<|.bl<|hr d) bx:=
 fU (by cases d<;>simp[mE,Co,wh,nZ,hr])
theorem C5 {d:D}(h:hr d=ag):∃ i:Int,d=.int i /\ 0<=i:=by
 cases d<;>simp[hr]at h;show#[_,rfl,h]
noncomputable def vL (d:D):Bool:=match d with
 |.tup [.int a,.int b]=>decide (0<=a)&&decide (a<b)
 |_=>af
theorem Vm (a b:D):vL (.tup [a,b])=(hr a&&(hr b&&(match a,b with|.int i,.int j=>decide (i<j)|_,_=>af))):=by
 cases a<;>cases b<;>simp[vL,hr];lia
theorem Vn (d:D) (bx:List Bx):jK [.d d] bx=.val (.d<|.bl<|vL d) bx:=
 fU (by
  cases d with
  |tup l=>
    have e1:=Bq (.tup l) 2 2 bx;cases h:tl (.tup l) 2 2 with
    |false=>
      rw[h]at e1;have e:vL (.tup l)=af:=by
       unfold vL;split
       .ext q;cases q;simp[tl]at h
       .rfl
      unfold oB;generalize K1.fY=ft at e1 ⊢;simp[e1,e]
    |true=>
      let#[a,b,rfl]:=aet h;rw[h]at e1;have h1:=C4 a bx;have h2:=C4 b bx;rw[Vm];unfold oB;generalize K1.fY=ft at e1 ⊢;generalize gM=fh at h1 h2 ⊢;cases q1:hr a with
      |false=>simp[e1,aA,bD,cy,h1,q1]
      |true=>
        cases q2:hr b with
        |false=>simp[e1,aA,bD,cy,h1,q1,h2,q2]
        |true=>
          let#[i,rfl,_]:=C5 q1;let#[j,rfl,_]:=C5 q2;simp[e1,aA,bD,cy,h1,q1,h2,q2,dt]
  |_=>simp[oB,Bq,tl,vL])
noncomputable def eF:List (Int×Int)->Bool
 |p::q::r=>decide (p.2<q.1)&&eF (q::r)
 |_=>ag
theorem oV:∀ (p:Int×Int) (ps:List<|Int×Int),nC ((p::ps).map dP) zac=((p::ps).zip ps).map λx=>W.d (.tup [dP x.1,dP x.2])
 |p,[]=>rfl
 | p,q::ps=>by
   have:=oV q ps;simp[aU]at this ⊢;simp[nC,vY,aU,this]
theorem oW:∀ (p:Int×Int) (ps:List<|Int×Int),eF (p::ps)=((p::ps).zip ps).all λx=>decide (x.1.2<x.2.1)
 |p,[]=>rfl
 | p,q::ps=>by
   rw[eF,oW q ps];simp
theorem Vo (ps:List<|Int×Int) (n:ps.length<=1000) (bx:List Bx):im [.d<|.tup zac] bx=.val (.d<|.bl<|eF ps) bx:=
 fU (by
  have sz:=bC;have cut:DL.cutD zac (ae 1) ah=ps.tail.map dP:=by
   cases ps with
   |nil=>rfl
   |cons p ps=>
     have:=Fc ((p::ps).map dP) 1 zg;simpa using this
  cases ps with
  |nil=>simp[gK,tJ,qL,nC,bL,dM,pN,eF]
  |cons p ps=>
    have c:=oF (g:=gj 2<|fm (fe 0)<|fm (fe 1) gn) (te:=d2 af dt zar<|d2 af aA (dV 1) zh) (bx:=bx) (l:=((p::ps).zip ps).map λx=>D.tup [dP x.1,dP x.2]) (λe=>∃ a b,e=[a,b]) (λd=>.bl (match d with|.tup [.tup [_,.int i],.tup [.int j,_]]=>decide (i<j)|_=>af)) #[ah,ah,rfl] (by
     intro d m e ⟨a,b,je⟩;let#[x,_,rfl]:=bE.mp m;show#[[ae<|.d<|dP x.1,ae<|.d<|dP x.2],by simp[je],#[_,_,rfl],rfl]) (by
     rw[a8,Xe];simp at n ⊢;lia)
    rw[bO]at c;have r:(qL<|fc (dV 0)<|fc (qi af (dV 0) (qh zd) qC) ff) [ae<|.d<|.tup<|(p::ps).map dP] bx=.val (((p::ps).zip ps).map λx=>W.d<|.tup [dP x.1,dP x.2]) bx:=by
     unfold qL;rw[fg (w:=.d<|.tup<|(p::ps).map dP) (l:=[.d<|.tup zac]) rfl<|fg (Nv (r:=.tup zac) rfl (G6 rfl) rfl (by rw[tJ,cut];rfl)) rfl,fQ,<-(oV p ps)]
    change gK [ae<|.d<|.tup<|(p::ps).map dP] bx=_;unfold gK;refine fS ?_;refine(iF (r:=.old<|.bl<|eF (p::ps)) [.lst _] (fg (gO r zj c) zj) ?_);rw[bO];have:=all_map (((p::ps).zip ps).map λx=>D.tup [dP x.1,dP x.2]) λd=>match d with|.tup [.tup [_,.int i],.tup [.int j,_]]=>decide (i<j)|_=>af;rw[bO,vZ]at this;rw[oW];show this)
noncomputable def kX (c hold hour:Int):List (Int×Int)->Int
 |[]=>c
 |p::ps=>if p.1<=hour /\ hour<p.2 then max 0 (c-(hour-p.1) / hold) else kX c hold hour ps
theorem Fd {c hold hour:Int}(h:0<=c):∀ ps,0<=kX c hold hour ps
 |[]=>h
 | p::ps=>by
   unfold kX;split
   .show Int.le_max_left ..
   .show Fd h ps
theorem Fe {c hold hour:Int}(h:0<=c) (hh:0<hold):∀ ps,kX c hold hour ps<=c
 |[]=>ab2 _
 | p::ps=>by
   unfold kX;split
   .have:0<=(hour-p.1) / hold:=Int.ediv_nonneg zb zb;lia
   .show Fe h hh ps
theorem NJ (x:Int):maxD [.int 0,.int x]=ae (.old<|.int<|max 0 x):=by
 change ae _=_;congr 3;split<;>lia
theorem NK {i j:Int}(h:0<j) (h2:j<1073741824):pK (.int i) (.int j)=ae (.old<|.int<|i / j):=if_pos #[h,by lia]
theorem WQ {g':D->D->Option Res}{x y z:D}{r:Res}(h1:ma env bx=.val (.d x) bx) (h2:mb env bx=.val (.d y) bx) (h3:g x y=ae (.old<|.bl ag)) (h4:mc env bx=.val (.d z) bx) (h5:g' y z=ae r):d3 g g' ma mb mc env bx=.val (.d r.toD) bx:=by
 simp[h1,h2,h3,h4,h5]
theorem YB {g':D->D->Option Res}{x y:D}(h1:ma env bx=.val (.d x) bx) (h2:mb env bx=.val (.d y) bx) (h3:g x y=ae (.old<|.bl af)):d3 g g' ma mb mc env bx=.val (.d<|.bl af) bx:=by
 simp[h1,h2,h3]
section
variable {hs:List D} {c hour:Int} {x1 x2:Option W} 
abbrev Qh:DE Bool:=dB<|d3 dX dt (dV 5) (dV 3)<|dV 6
theorem RY (p:Int×Int) (x0 x1 x2 x4:Option W):Qh [x0,x1,x2,xN hour,x4,xN p.1,xN p.2] bx=.val (decide (p.1<=hour /\ hour<p.2)) bx:=by
 by_cases h:p.1<=hour
 .by_cases h2:hour<p.2
  .rw[decide_eq_true #[h,h2]];show gm<|WQ (r:=.old _) zj zj (by simp[dX,h]) zj (by simp[dt,h2])
  .rw[decide_eq_false λz=>h2 z.2];show gm<|WQ (r:=.old _) zj zj (by simp[dX,h]) zj (by simp[dt,h2])
 .rw[decide_eq_false λz=>h z.1];show gm<|YB zj zj (by simp[dX,h])
theorem aey (x0 x1 x2:Option W) (rt:DE W) (hr:∀ p:Int×Int,rt [x0,x1,x2,xN hour,xN c,xN p.1,xN p.2] bx=.val (.d<|.int<|max 0<|c-(hour-p.1) / hold) bx) :
 ∀ (ps:List<|Int×Int) (x5 x6:Option W),(∃ y5 y6,cq (gj 2<|fm (fe 5)<|fm (fe 6) gn) (aR Qh (fF rt) aY) ((ps.map dP).map W.d) [x0,x1,x2,xN hour,xN c,x5,x6] bx=.nx [x0,x1,x2,xN hour,xN c,y5,y6] bx /\ kX c hold hour ps=c) \/
  cq (gj 2<|fm (fe 5)<|fm (fe 6) gn) (aR Qh (fF rt) aY) ((ps.map dP).map W.d) [x0,x1,x2,xN hour,xN c,x5,x6] bx=.rt (.d<|.int<|kX c hold hour ps) bx
 |[],x5,x6=>.inl #[x5,x6,rfl,rfl]
 | p::ps,x5,x6=>by
   have g:gj 2 (fm (fe 5)<|fm (fe 6) gn) (W.d<|dP p) [x0,x1,x2,ae _,ae _,x5,x6] bx=ae ([x0,x1,x2,xN hour,xN c,ae _,ae _],bx):=rfl;have t:=RY (hour:=hour) (bx:=bx) p x0 x1 x2<|xN c;erw[aU];by_cases h:p.1<=hour /\ hour<p.2
   .rw[decide_eq_true h]at t;have e:kX c hold hour (p::ps)=max 0 (c-(hour-p.1) / hold):=by rw[kX,if_pos h]
    show .inr (by rw[Gh g<|(i0 t).trans<|fS<|hr p,e])
   .rw[decide_eq_false h]at t;have e:kX c hold hour (p::ps)=kX c hold hour ps:=by rw[kX,if_neg h]
    have st:aR Qh (fF rt) aY _ bx=.nx _ bx:=gz t;rw[e];rcases aey x0 x1 x2 rt hr ps _ _ with⟨y5,y6,z,q⟩|z
    .show .inl #[y5,y6,by rw[iO g st];show z,q]
    .show .inr (by rw[iO g st];show z)
end
structure aez (d:D) (rs:List Int) (hold:Int):zk where
 e:∃ k p,d=.tup [.tup<|rs.map D.int,k,p,.int hold]
 r:∀ c∈rs,0<=c /\ c<=3
 n:1<=rs.length /\ rs.length<=5
 h:1<=hold /\ hold<=9
section
variable {d:D} {rs:List Int} {hour:Int} 
theorem Vp (H:aez d rs hold) (j:Nat) (hj:j<rs.length) (ps:List<|Int×Int):i8 [.d d,.d<|.tup zac,.d<|.int (j:Int),.d<|.int hour] bx=.val (.d<|.int<|kX rs[j] hold hour ps) bx:=by
 let#[#[k,p,rfl],_,_,h1,h2]:=H;refine fU ?_;change jp _ bx=_;have e3:aA (.tup [.tup<|rs.map D.int,k,p,.int hold]) (.int 3)=ae _:=rfl;have ej:aA (.tup<|rs.map D.int) (.int<|j)=ae (.old<|.int rs[j]):=by simp[aA,bD,cy,hj]
 unfold jp;refine(fA<|gN<|fH (fH zj zj zj) zj ej).trans ?_;rcases(aey (bx:=bx) (ae _) _ _ (dN af maxD<|fc zh<|fc (d2 af cB (dV 4)<|d2 af pK (d2 af cB (dV 3)<|dV 5)<|d2 af aA (dV 0) zB) ff) (λq=>iF (r:=.old _) [.int 0,.int<|rs[j]-(hour-q.1) / hold] (fg zj<|fg (fH (r:=.old _) zj (fH (r:=.old _) (fH (r:=.old _) zj zj zj) (fH zj zj e3)<|NK zb zb) zj) zj)<|NJ _) ps ah ah) with⟨y5,y6,z,q⟩|z
 .rw[q];show(fA<|(iB<|iU zj).trans z).trans (fS zj)
 .show i9<|(iB<|iU zj).trans z
end
end K2
namespace L2.DL
section
variable {a9:aP} {ax:List Bx} {m:DE W} {ks:DE (List W)} {l:List W} {c:Nat}
theorem ls (h:ks env bx=.val l bx1) (hn:l.length=n) (hf:fn l bx1=.exc c ax):fj fn n ks env bx=.exc c ax:=by rw[GY,h,fQ,if_pos hn,hf]
theorem Bu (h:m env bx=.exc c bx1):fX m env bx=.exc c bx1:=by rw[G1,h];rfl
theorem WR (h:m env bx=.exc c bx1):fF m env bx=.exc c bx1:=by rw[Gc,h];rfl
theorem Jc {a b:az}(h:a env bx=.exc c bx1):fq a b env bx=.exc c bx1:=by rw[jv,h]
theorem Jd {w:W}(h:m env bx=.val w bx1):yu c m env bx=.exc c bx1:=by unfold yu;rw[h];rfl
theorem Bv {m:az}{ws:List W}(h:m zK bx=.exc c bx):aM n m ws bx=.exc c bx:=by
 simp[aM,DL.envOf,h,nj,nq,vX]
theorem Tj {m:az}{ws:List W}{e:aP}(h:m zK bx=.nx e bx):aM n m ws bx=.val (.d .aB) bx:=by
 simp[aM,DL.envOf,h,nj,nq,vX]
theorem Bw {m:az}{ws:List W}{d:D}(h:m zK bx=.rt (.d d) bx):aM n m ws bx=.val (.d d) bx:=by
 simp[aM,DL.envOf,h,nj,nq,vX]
theorem Je {t:DE Bool}{m k:DE W}{w:W}(h:t env bx=.val ag bx1) (h2:m env bx1=.val w ax):nX t m k env bx=.val w ax:=by unfold nX;rw[h,fQ];show h2
theorem NL {t:DE Bool}{m k:DE W}{w:W}(h:t env bx=.val af bx1) (h2:k env bx1=.val w ax):nX t m k env bx=.val w ax:=by unfold nX;rw[h,fQ];show h2
end
end L2.DL
namespace K2
open L2 L2.DL K1
section
variable {h:D} {rs:List Int} 
theorem Am (t:D):jc [.d t] bx=if hr t then .val (.d .aB) bx else .exc 3 bx:=by
 have e:=C4 t bx;cases q:hr t with
 |true=>
   rw[q]at e;show Tj<|gz<|gJ<|gm<|fM (fg zj zj) zj e
 |false=>
   rw[q]at e;show Bv<|(i0<|gJ<|gm<|fM (fg zj zj) zj e).trans<|Jd zj
end
end K2
namespace K1
open L2 L2.DL
section
variable {p:Int} {x y:Bx} {E:List Bx}
theorem lu (h:n<bx.length):pt bx n p++E=pt (bx++E) n p:=by
 unfold pt;rw[List.set_append_left _ _ h]
theorem jB (h:n<bx.length):(pt (bx++[x]) n p)[bx.length]?=ae x:=by
 rw[<-lu h,<-gq];show abF
theorem C6 (h:n<bx.length):(pt (bx++[x]) n p).set bx.length y=pt (bx++[y]) n p:=by
 rw[<-lu h,<-lu h,<-gq,abG _ _<|aH _,nO];rfl
theorem By (h:n<bx.length):(pt (bx++E) n p).take bx.length=pt bx n p:=by
 rw[<-lu h,<-gq,List.take_left]
end
theorem Jf (h:n<bx.length) (p k:Int) (hk:0<k) (vz:k<1073741824):∃ r q,fk [.b n,.d<|.int k] zV=.val (.d<|.int r) (pt bx n q) /\ 0<=r /\ r<k:=
 #[_,_,jk h p k hk vz,mQ p hk,mS p hk]
end K1
namespace K2
open L2 L2.DL K1
theorem Tk {m:Nat}{l:List D}(h:bx[m]?=ae (.lst l)):bY bx (.b m)=ae (.lst l):=by simp[bY,h]
abbrev aiS:az:=zan
end K2
namespace bu
open L2 L2.DL K1
section
variable {i:Nat}
theorem Gi (h:n<bx.length) {p p1:Int}(he:env[i]?=ae (xB n)) {m:DE W}{k:Int}(hm:m env zV=.val (.d<|.int k) (pt bx n p1)) (h0:0<k) (h1:k<1073741824) :
 ∃ r q,fj K1.fk 2 (fc (dV i)<|fc m ff) env zV=.val (.d<|.int r) (pt bx n q) /\ 0<=r /\ r<k:=by
 let#[r,q,t,a,b]:=Jf h p1 k h0 h1;show#[r,q,(fM (fg (by unfold dV;rw[he])<|fg hm zj) zj t),a,b]
theorem aiT (h:n<bx.length) (p:Int) (he:env[i]?=ae (xB n)) (k:Int) (h0:0<k) (h1:k<1073741824) :
 ∃ r q,fj K1.fk 2 (fc (dV i)<|fc (dC<|.int k) ff) env zV=.val (.d<|.int r) (pt bx n q) /\ 0<=r /\ r<k:=
 Gi h he zj h0 h1
theorem nF (h:n<bx.length) (p k:Int) (h0:0<k) (h1:k<1073741824):∃ r q,(∀ {env:aP}{i:Nat}{m:DE W}{p0:Int},env[i]?=ae (xB n)->m env (pt bx n p0)=.val (.d<|.int k) zV->fj K1.fk 2 (fc (dV i)<|fc m ff) env (pt bx n p0)=.val (.d<|.int r) (pt bx n q)) /\ 0<=r /\ r<k:=by
 let#[r,q,t,a,b]:=Jf h p k h0 h1;show#[r,q,λhe hm=>fM (fg (by rw[jE,he])<|fg hm zj) zj t,a,b]
theorem aeA (h:n<bx.length) (p:Int) (l:List Int) (ks:DE zah) (hk:∀ e b,ks e b=.val ((l.map D.int).map W.d) b) {k:Int}(hl:(l.length:Int)=k) (h0:0<k) (h1:k<1000) :
 ∃ v q,(∀ (env:aP) (i:Nat),env[i]?=ae (xB n)->d2 af aA (gF af ks) (fj K1.fk 2<|fc (dV i)<|fc (dC<|.int k) ff) env zV=.val (.d<|.int v) (pt bx n q)) /\ v∈l:=by
 let#[r,q,t,a,b]:=nF h p k h0 zb;let#[d,e,m]:=mj (l:=l.map D.int) a (by rw[a8,hl];show b);let#[v,mv,rfl]:=bE.mp m;have sz:=bC;show#[v,q,λenv i he=>fH (r:=.old _) (lh _ (hk _ _) (by rw[a8];lia)) (t he zj) (by simp[aA,e,ue]),mv]
theorem Vq {m:DE W}{l:List D}(h:m env bx=.val (.b j) bx1) (g:bx1[j]?=ae (.lst l)):dN af cC (fc m ff) env bx=.val (.d<|.int l.length) bx1:=by
 rw[Ll,fg h rfl,fQ];have:kE bx1 [.b j]=ae [.lst l]:=by simp[kE,bY,g,bS,ue]
 rw[this];rfl
end
theorem Bz {lo:Int}{m:Nat}{w:W}(h:(fO lo m)[j]?=ae w):w=.d (.int<|lo+j) /\ j<m:=by
 have hm:j<m:=by simpa[fO] using (List.getElem?_eq_some_iff.mp h).1
 simp[fO,hm]at h;show#[h.symm,hm]
section
variable {ax:List Bx}
theorem oG {i:Nat}{x y:W}{a b:DE W}(h1:a env bx=.val x bx1) (h2:b env bx1=.val y ax):kO i j (fc a<|fc b ff) env bx=.nx ((env.set i<|ae x).set j<|ae y) ax:=by
 unfold kO;rw[fg h1<|fg h2 rfl,iM]
end
end bu
namespace K2
open L2 L2.DL K1
end K2
namespace bu
open L2 L2.DL K1
section
variable {ax:List Bx}
theorem RZ {m k:DE W}{t:Nat}{i:Int}{l l0:List D}{d:D}(h1:m env bx=.val (.b j) bx1) (g0:bx1[j]?=ae (.lst l0)) (h2:k env bx1=.val (.d<|.int i) ax) (g:ax[j]?=ae (.lst l)) (hi:-(2 ^ 63)<=i /\ i<2 ^ 63) (hx:cy l.length i=ae t) (hd:l[t]?=ae d) :
 wV m k env bx=.val (.d d) (ax.set j<|.lst<|l.eraseIdx t):=by
 unfold wV;rw[h1,fQ];erw[g0,h2,fQ,g,if_pos hi,hx,hd]
end
theorem R6 {m t:Nat}(h:t<m):cy m (t:Int)=ae t:=by
 unfold cy;simp;lia
open K2
theorem gY {m k:DE W}{r:O W}(h:m env bx=.val (.d<|.bl ag) bx1) (h2:k env bx1=r):gx m k env bx=r:=by rw[C0 h];show h2
theorem Vr {m k:DE W}(h:m env bx=.val (.d<|.bl af) bx1):gx m k env bx=.val (.d<|.bl af) bx1:=by rw[C0 h];rfl
section
variable {h:D} {k:Nat}
end
theorem NM (is:List Int) (b:Int):nE (.int b) (is.map D.int)=is.any λz=>decide (z=b):=by
 unfold nE;rw[Xc];rfl
theorem Lp (is:List Int):(is.map D.int).all ka=ag:=by rw[vZ];show bR.mpr λ_ _=>rfl
end bu
namespace dA
open L2 L2.DL
open K1 bu
section
variable {enc:α -> D} {r:aP}
theorem aeB (p:α->Bool) (f:α->D):∀ (l:List α) (w:Option W) (acc:List D),acc.length+l.length<=sizeLine->(∀ a∈l,tf (ae (.d<|enc a)::r) bx=.val (p a) bx /\ (p a=ag->te (ae (.d<|enc a)::r) bx=.val (.d<|f a) bx)) ->
 bL (fe 0) tf te ((l.map enc).map W.d) (w::r) bx acc=.val (acc++(l.filter p).map f) bx:=by
 intro l_;induction l_ with
 |nil=>(intro w acc _ _;simp[bL])
 |cons a l aD=>
   intro w acc n h;let#[h1,h2]:=h a<|bN ..;rw[bw]at n;have n':acc.length<sizeLine:=by lia
   have e0:fe 0 _ (w::r) bx=ae (ae (W.d<|enc a)::r,bx):=rfl;cases c:p a with
   |false=>
     rw[xA (by simp[c]),<-aD (ae<|W.d<|enc a) acc zb λx m=>h x<|bG _ m];rw[c]at h1;simp[aU,bL,e0,h1,Bm]
   |true=>
     rw[xC c];rw[c]at h1;erw[aU,bL,e0,h1,h2 c,Bm,if_pos n',(aD _ (acc++[f a]) zo λx m=>h x<|bG _ m)];simp
theorem aiU {src:List (Option Nat)}{vM:List Bx}{l:List α}(p:α->Bool) (f:α->D) (h1:mi env vM=.val ((l.map enc).map W.d) bx) (he:eL src env=ah::r) (n:l.length<=sizeLine)
 (h:∀ a∈l,tf (ae (.d<|enc a)::r) bx=.val (p a) bx /\ (p a=ag->te (ae (.d<|enc a)::r) bx=.val (.d<|f a) bx)):f7 af src mi (fe 0) tf te env vM=.val (.d<|.lst<|(l.filter p).map f) bx:=
 gO h1 he (by rw[aeB p f l ah [] (by simpa using n) h];rfl)
theorem aiV {src:List (Option Nat)}{vM:List Bx}{l:List α}(f:α->D) (h1:mi env vM=.val ((l.map enc).map W.d) bx) (he:eL src env=ah::r) (n:l.length<=sizeLine)
 (h:∀ a∈l,te (ae (.d<|enc a)::r) bx=.val (.d<|f a) bx):f7 af src mi (fe 0) gk te env vM=.val (.d<|.lst<|l.map f) bx:=by
 have:=aiU (tf:=gk) _ f h1 he n λa m=>#[rfl,λ_=>h a m]
 rwa [List.filter_eq_self.mpr λ_ _=>rfl]at this
theorem Cp (l:List α) (p:α->Bool):pN (l.map λd=>D.bl<|p d)=ae (l.map p):=by
 induction l with
 |nil=>rfl
 |cons d l ih=>simp[pN,ih]
theorem ZK {src:List (Option Nat)}{vM:List Bx}{l:List α}(p:α->Bool) (h1:mi env vM=.val ((l.map enc).map W.d) bx) (he:eL src env=ah::r) (n:l.length<=sizeLine)
 (h:∀ a∈l,te (ae (.d<|enc a)::r) bx=.val (.d<|.bl<|p a) bx):dN af dM (fc (f7 af src mi (fe 0) gk te) ff) env vM=.val (.d<|.bl<|l.all p) bx:=
 iF (r:=.old _) [.lst _] (fg (aiV _ h1 he n h) zj) (by simp[dM,Cp])
end
noncomputable abbrev tupI (l:List Int):D:=.tup<|l.map D.int
abbrev xU (l:List Int):Option W:=ae<|.d<|tupI l
theorem Ff:∀ l:List Int,PyData.canLayAll0 (nu<|l.map D.int)=ag /\ PyData.depthAll (nu<|l.map D.int)=0:=by
 intro l_;induction l_ with
 |nil=>show#[rfl,rfl]
 |cons i l aD=>
   let#[a,b]:=aD;simp[nu,toPy,PyData.canLayAll0,PyData.canLay0,PyData.depthAll,PyData.depth,a,b]
theorem NO:∀ l:List (List Int),PyData.canLayAll0 (nu<|l.map tupI)=ag /\ PyData.depthAll (nu<|l.map tupI)<=1:=by
 intro l_;induction l_ with
 |nil=>show#[rfl,dR _]
 |cons i l aD=>
   let#[a,b]:=aD;let#[c,d]:=Ff i;erw[aU,nu,toPy,PyData.canLayAll0,PyData.canLay0,PyData.depthAll,PyData.depth,a,c];show#[rfl,by lia]
theorem R7 (l:List Int):eN (tupI l)=ag:=by
 let#[c,d]:=Ff l;simp[eN,toPy,PyData.canLay0,PyData.depth,c,d]
theorem NP (l:List<|List Int):eN (.lst<|l.map tupI)=ag:=by
 let#[c,d]:=NO l;unfold eN;simp[toPy,PyData.canLay0,PyData.depth,c,abg,decide_eq_true_eq];lia
theorem Gj (ps:List<|Int×Int):ps.map dP=(ps.map λq=>[q.1,q.2]).map tupI:=by rw[bO];rfl
theorem NQ (a b:Int×Int):eqv (dP a) (dP b)=decide (a=b):=by
 rw[pT];let#[a1,a2]:=a;let#[b1,b2]:=b;simp[eqv,toPy,nu,PyData.eqv,PyData.eqvAll]
theorem Vs (ps:List<|Int×Int) (q:Int×Int):((ps.map dP).any λz=>eqv z<|dP q)=decide (q∈ps):=by
 rw[pT,ud,decide_eq_true_eq];constructor
 .rintro⟨z,m,e⟩;let#[x,mx,rfl]:=bE.mp m;rw[NQ,decide_eq_true_eq]at e;show e▸mx
 .intro m;show#[dP q,bE.mpr #[q,m,rfl],by rw[NQ,decide_eq_true_eq]]
theorem R8 (neg:Bool) (is:List Int) (b:Int):inD neg (.int b) (.tup<|is.map D.int)=ae (.old<|.bl (if neg then !decide (b∈is) else decide (b∈is))):=by
 change (if ka _=ag /\ (is.map D.int).all ka=ag then ae _ else uK neg _ _ _)=_;rw[if_pos #[rfl,Lp is],NM];have:(is.any λz=>decide (z=b))=decide (b∈is):=by
  rw[pT];simp
 rw[this]
end dA
namespace aN
open L2 L2.DL K1 dA
open HT (cD)
abbrev hs (rs ks:List D) (ps:List<|Int×Int) (hd:D):D:=.tup [.tup rs,.tup ks,.tup zac,hd]
structure Hs (rs ks:List D) (ps:List<|Int×Int) (hd:D):zk where
 r1:1<=rs.length
 r5:rs.length<=5
 k1:1<=ks.length
 k4:ks.length<=4
 b:∀ p∈ps,p.1<p.2
 l:ps.length<=1000
 hh:house za=ag
noncomputable def rZ (nr nk:Nat):Pg->zk
 |.aZ h l k r p w=>0<=h /\ (0<=l /\ l<=9) /\ (0<=k /\ k<(nk:Int)) /\ (0<=r /\ r<(nr:Int)) /\ (0<=p /\ p<=999) /\ 0<=w /\ w<=99
 |.to h l r=>0<=h /\ (0<=l /\ l<=9) /\ 0<=r /\ r<(nr:Int)
 |.out h l=>0<=h /\ 0<=l /\ l<=9
theorem eq_str (a b:Str):bf (.str a) (.str b)=ae (.old<|.bl<|decide (a=b)):=rfl
theorem ne_str (a b:Str):pP (.str a) (.str b)=ae (.old<|.bl<|!decide (a=b)):=rfl
theorem Vt:(("in":Str)="out")=False:=eq_false zc
theorem WS:(("in":Str)="to")=False:=eq_false zc
theorem NR:(("out":Str)="in")=False:=eq_false zc
theorem WT:(("out":Str)="to")=False:=eq_false zc
theorem Lq:(("to":Str)="in")=False:=eq_false zc
theorem Vu:(("to":Str)="out")=False:=eq_false zc
noncomputable def aeC (rs ks:List D):Pg->List D
 |.aZ ..=>[.int 9,.int<|(ks.length:Int)-1,.int<|(rs.length:Int)-1,.int 999,.int 99]
 |.to ..=>[.int 9,.int<|(rs.length:Int)-1]
 |.out ..=>[.int 9]
noncomputable def cW:Pg->Str
 |.aZ ..=>"in"
 |.to ..=>"to"
 |.out ..=>"out"
theorem C7 (g:Pg):iq [.d za,.d<|.str<|cW g] bx=.val (.d<|.tup<|aeC rs ks g) bx:=
 fU (by
  have s5:(5)<=sizeLine:=by decide
  have s1:(1)<=sizeLine:=by decide
  have s2:(2)<=sizeLine:=by decide
  cases g<;>simp[jL,kO,cC,aA,bD,cy,cB,eq_str,cW,aeC,Vt,WS,NR,WT,Lq,Vu,s5,s1,s2])
theorem BA {i:Int}(h:0<=i):K2.gM [.d<|.int i] bx=.val (.d<|.bl ag) bx:=
 fU (by simp[K2.oS,Bp,wh,nZ,h])
theorem NS (g:Pg) (ok:rZ rs.length ks.length g):jq [.d za,.d<|enc g] bx=.val (.d<|.bl ag) bx:=by
 have z:=bC;have fin:∀ (l:List<|Int×Int) {env:aP}{k:DE _},l.length<=5->(∀ a∈l,0<=a.1 /\ a.1<=a.2)->k env bx=.val ((l.map λa=>D.tup [.int a.1,.int a.2]).map W.d) bx->dN af dM (fc (f7 af [ah,ah] k (gj 2<|fm (fe 0)<|fm (fe 1) gn) gk<|fj K1.f9 3<|fc (dV 0)<|fc zh zE) ff) env bx=.val (.d<|.bl ag) bx:=λl env k n h e=>by
  refine(iF [.lst<|(l.map λa=>D.int a.1).map λd=>.bl<|(λ_=>ag) d] (fg (gO e zj<|(yM (J:=λe=>∃ a b,e=[a,b]) (λ_=>ag) (λ_=>.bl ag) (λ_=>#[_,_,rfl]) l [ah,ah] [] zo #[_,_,rfl] (λx _ env ⟨a,b,e⟩=>by subst e;rfl) λx m=>#[rfl,λ_=>(cV<|oT (.int x.1) 0 x.2 bx).trans (by rw[show wi (.int x.1) 0 x.2=ag by simp[wi];show h x m])]).trans (by rw[List.filter_eq_self.mpr λ_ _=>rfl,bO];rfl)) zj)<|all_map (l.map λa=>D.int a.1) λ_=>ag).trans zg
 cases g with
 |aZ h l k r p w=>
   let#[a,b,c,d,e,f]:=ok;show fU<|qF (ja zj<|ja zj<|gJ<|gm<|cV<|BA a)<|qS (cV<|C7<|.aZ h l k r p w)<|qF zj<|fS<|fin [(l,9),(k,(ks.length)-1),(r,(rs.length)-1),(p,999),(w,99)] zg zo zj
 |to h l r=>
   let#[a,b,c]:=ok;show fU<|qF (ja zj<|ja zj<|gJ<|gm<|cV<|BA a)<|qS (cV<|C7<|.to h l r)<|qF zj<|fS<|fin [(l,9),(r,(rs.length)-1)] zg zo zj
 |out h l=>
   let#[a,b]:=ok;show fU<|qF (ja zj<|ja zj<|gJ<|gm<|cV<|BA a)<|qS (cV<|C7<|.out h l)<|qF zj<|fS<|fin [(l,9)] zg zo zj
theorem WU {i:Nat}{g:Pg}(h:qs[i]?=ae g):bD zaq (i:Int)=ae (enc g):=Au (by rw[kZ,h];rfl)
theorem WV (h:rY qs) (hl:qs.length<=16):K1.ie [.d<|.lst zaq] bx=.val (.d<|.bl ag) bx:=by
 have z:sizeLine=16777216:=bC;refine fU<|fS ?_;have rg:tF (fc zd<|fc (dN af cC<|fc (dV 0) ff) ff) [ae<|.d<|.lst zaq] bx=.val (((List.range<|qs.length-1).map λ(i:Nat)=>D.int<|1+(i)).map W.d) bx:=by
  rw[Gg (i:=1) (j:=(qs.length)) (bx1:=bx) (by simp[cC]),show ((qs.length:Int)-1).toNat=qs.length-1 by lia,bO];rfl
 have:=ZK (r:=[ae _]) (te:=d2 af dt (d2 af aA (dV 1)<|d2 af cB (dV 0)<|dC _)<|d2 af aA (dV 1)<|dV 0) (src:=[ah,ae 0]) _ rg zj (by simp;lia) λi m=>by
  have hi:=List.mem_range.mp m;have e1:qs[i]?=ae qs[i]:=cX zb;have e2:qs[i+1]?=ae qs[i+1]:=cX zb;refine fH (r:=.old<|.bl ag) (x:=enc qs[i]) (y:=enc qs[i+1]) (fH (r:=.old<|enc qs[i]) (x:=.lst zaq) (y:=.int (i:Int)) zj (fH (r:=.old<|.int (i:Int)) (x:=.int<|1+(i:Int)) (y:=.int 1) zj zj ?_) ?_) (fH (r:=.old<|enc qs[i+1]) (x:=.lst zaq) (y:=.int<|1+(i:Int)) zj zj ?_) ?_
  .simp[cB];lia
  .simp[aA,WU e1]
  .have:=WU e2;rw[show ((i+1:Nat):Int)=1+(i:Int) by lia]at this;simp[aA,this]
  .rw[Vi,(List.pairwise_iff_getElem.mp h i (i+1) zb zb zb)]
 rw[bR.mpr λ_ _=>rfl]at this;show this
theorem Cq {e2:aP}{s:List (Option Nat)}{l:List D}(hm:mi env bx=.val (l.map W.d) bx) (he:eL s env=ah::e2) (n:l.length<=1000) (h:∀ x∈l,te (ae (.d x)::e2) bx=.val (.d<|.bl ag) bx):dN af dM (fc (f7 af s mi (fe 0) gk te) ff) env bx=.val (.d<|.bl ag) bx:=by
 have z:=bC;show(iF _ (fg (gO hm he<|oF (λe=>∃ w,e=w::e2) _ #[_,rfl] (λx m e ⟨w,je⟩=>#[ae _::e2,by rw[je];rfl,#[_,rfl],h x m]) zb) zj)<|all_map l λ_=>ag).trans zg
theorem BC {d:D}{lo hi:Int}(h:wi d lo hi=ag):K1.f9 [.d d,.d<|.int lo,.d<|.int hi] bx=.val (.d<|.bl ag) bx:=by rw[oT,h]
theorem An {l:List D}{lo hi:Int}(h:tl (.tup l) lo hi=ag):K1.fY [.d<|.tup l,.d<|.int lo,.d<|.int hi] bx=.val (.d<|.bl ag) bx:=by rw[Bq,h]
theorem R9 {d:D}(h:yJ d=ag):K1.jX [.d d] bx=.val (.d<|.bl ag) bx:=by
 have z:=bC;cases d with
 |tup l=>
   simp[yJ,aL,bR]at h;let#[t,a,f]:=h;refine fU<|qF (ja (gJ<|gm<|cV<|An t)<|gJ<|gm<|Cq (iU zj) zj (by have:=oU t;lia) λx m=>cV<|BC<|a x m)<|fS ?_;let#[p,q,r,s,rfl]:=aiQ t;let#[p,rfl,_]:=lc<|a p zg;let#[q,rfl,_]:=lc<|a q zg;let#[r,rfl,_]:=lc<|a r zg;let#[s,rfl,_]:=lc<|a s zg;simp[xa,aL,decide_eq_true_eq]at f;refine(iF (r:=.old _) [.lst _] (fg (gO (l:=([(p,q),(q,r),(r,s)].map λa:Int×Int=>D.tup [.int a.1,.int a.2]).map W.d) zj zj<|(yM (J:=λe=>∃ a b,e=[a,b]) _ _ (λ_=>#[_,_,rfl]) _ _ [] zo #[_,_,rfl] (λx _ env ⟨a,b,e⟩=>by subst e;rfl) λx m=>#[rfl,λ_=>(fH (r:=.old<|.bl ag) zj zj (by simp at m;simp[dX];rcases m with rfl|rfl|rfl<;>lia))])) zj) zj)
 |_=>cases h
theorem Vv {d:D}(h:kind d=ag):K1.mL [.d d] bx=.val (.d<|.bl ag) bx:=by
 cases d with
 |tup l=>
   simp[kind,aL]at h;let#[t,h]:=h;let#[a,b,rfl]:=aet t;simp[aL]at h;show fU<|fS<|bu.gY (cV<|An t)<|bu.gY (cV<|BC h.1)<|cV<|R9 h.2
 |_=>cases h
theorem Vw {d:D}{n:Int}(h:yL n d=ag):K1.iJ [.d d,.d<|.int n] bx=.val (.d<|.bl ag) bx:=by
 cases d with
 |tup l=>
   simp[yL,aL]at h;let#[t,h]:=h;split at h
   .simp[aL,decide_eq_true_eq]at h;show fU<|qF (gJ<|gm<|cV<|An t)<|fS<|bu.gY (Cq (iU zj) zj (by simp) λx m=>cV<|BC (d:=x) (lo:=0) (hi:=n-1) (by simp at m;rcases m with rfl|rfl<;>(simp[wi,aL,decide_eq_true_eq];lia)))<|fH (r:=.old _) zj zj (by simp[dt];show h.1.2)
   .cases h
 |_=>cases h
theorem Sa (h:Hs rs ks ps hd):K1.lL [.d za] bx=.val (.d<|.bl ag) bx:=by
 have z:=bC;have l:=h.l;have q:=h.hh;erw[house,aL,rooms,kinds,apart,bR]at q;let#[#[t1,q1],#[t2,q2],#[q3,i],q4]:=q;rw[G5]at i;have ri:=Lm ps zb bx;rw[i]at ri;have e1:K1.jW [.d _] bx=.val _ bx:=fU<|fS<|bu.gY (cV<|An t1)<|Cq (iU zj) zj (by have:=oU t1;lia) λx m=>cV<|BC<|q1 x m;have e2:K1.jY [.d _] bx=.val _ bx:=fU<|fS<|bu.gY (cV<|An t2)<|Cq (iU zj) zj (by have:=oU t2;lia) λx m=>cV<|Vv<|q2 x m;have e3:K1.jZ [.d _,.d _] bx=.val _ bx:=fU<|qF zj<|fS<|bu.gY (Cq (iU zj) zj (by rw[a8];lia) λx m=>cV<|Vw<|q3 x m)<|cV ri;show fU<|qF (gJ<|gm<|cV<|An zj)<|qG zj zj<|fS<|bu.gY (cV e1)<|bu.gY (cV e2)<|bu.gY (cV e3)<|cV<|BC q4
theorem lw (h:Hs rs ks ps hd):bu.gP [.d za] bx=.val (.d .aB) bx:=by
 have b:bu.j5 _ bx=.nx [ae _] bx:=
  (gz<|gJ<|gm<|fM zj zj<|Sa (bx:=bx) h)
 change nq bx.length (nj<|aO bu.j5 [ae _] bx)=_;unfold aO;rw[b];simp[nj,nq]
theorem NT (l:List D):vq (rH<|.lst l) "list"=ag:=rfl
structure Gs (nr nk:Nat) (gs:List Pg):zk where
 ok:∀ g∈gs,rZ nr nk g
 nd:gs.Nodup
 l:gs.length<=16
theorem Gs.perm {nr nk:Nat}{g2:List Pg}(G:Gs nr nk gs) (p:g2.Perm gs):Gs nr nk g2:=#[λg m=>G.ok g<|p.mem_iff.mp m,p.nodup_iff.mpr G.nd,by rw[p.length_eq];show G.l]
theorem oH (G:Gs rs.length ks.length gs):j7 [.d za,.d zx] bx=.val (.d<|.bl ag) bx:=by
 have z:=bC;have gl:=G.l;let#[qs,p,r,e]:=AE G.nd zb;have ql:=p.length_eq;refine fU ?_;have t:nW (dU<|dB<|jI "list"<|dV 1) (dB<|d2 af kP (dN af cC zE)<|dC<|.int 16) [ae<|.d za,ae<|.d zx] bx=.val af bx:=by
  simp[NT,cC,kP];lia
 have a:dN af dM (fc (f7 af [ah,ae 0] (bP<|dV 1) _ gk<|fj aN.jq 2<|fc (dV 1)<|fc (dV 0) ff) ff) [ae<|.d za,ae<|.d zx] bx=.val (.d<|.bl<|gs.all λ_=>ag) bx:=
  ZK _ (gG zj) zj (by lia) λg m=>fM zj zj<|NS g<|G.ok g m
 rw[bR.mpr λ_ _=>rfl]at a;refine(fA<|gz t).trans (fS ?_);rw[C0 a,if_pos rfl];show fM (fg (iF [.lst<|gs.map enc] (fg zj zj)<|e gs<|.refl _) zj) zj<|WV r zb
theorem ly (h:Hs rs ks ps hd) (G:Gs rs.length ks.length gs):iT [.d za,.d zx] bx=.val (.d .aB) bx:=by
 have b:j8 [ae<|.d za,ae<|.d zx] bx=.nx [ae<|.d za,ae<|.d zx] bx:=(fA<|iN<|fM zj zj<|lw h).trans<|(gz<|gJ<|gm<|fM zj zj<|oH G);change nq bx.length (nj<|aO j8 [ae _,ae _] bx)=_;unfold aO;rw[b];simp[nj,nq]
noncomputable abbrev Al:=List<|Int×Int
noncomputable def look (l:Al) (x:Int):Option Int:=(l.find? λq=>decide (q.1=x)).map (·.2)
noncomputable def put (l:List<|Int×α) (x:Int) (v:α):List (Int×α):=if (l.any λq=>decide (q.1=x))=ag then l.map (λq=>if q.1=x then (q.1,v) else q) else l++[(x,v)]
noncomputable def xb (l:List<|Int×α) (x:Int):List (Int×α):=l.filter λq=>decide (q.1≠x)
def kk (K:Al) (l:Int):Int:=(look K l).getD 0
noncomputable def HN (ps:Al) (a b:Int):Bool:=decide ((a,b)∈ps)||decide ((b,a)∈ps)
def tW (ps K R:Al) (k r:Int):Bool:=R.any λq=>decide (q.2=r)&&HN ps k (kk K q.1)
def word (ps K R:Al):Pg->Str
 |.aZ _ l k r _ _=>if (look K l).isSome then "there" else if tW ps K R k r then "apart" else "takes"
 | .to _ l r=>match look R l with
   |none=>"none"
   |some r0=>if r0=r then "same" else if tW ps K R (kk K l) r then "apart" else "takes"
 | .out _ l=>match look R l with
   |none=>"none"
   |some _=>"takes"
noncomputable def bM:Pg->Int
 |.aZ _ l ..=>l
 |.to _ l _=>l
 |.out _ l=>l
def stK (K:Al):Pg->Al
 |.aZ _ l k ..=>put K l k
 |_=>K
def se (R:Al):Pg->Al
 |.aZ _ l _ r ..=>put R l r
 |.to _ l r=>put R l r
 |.out _ l=>xb R l
structure kG (K R:Al) (n:Nat):zk where
 nd:(R.map (·.1)).Nodup
 sub:∀ q∈R,(look K q.1).isSome=ag
 lk:K.length<=n
 lr:R.length<=n
section
variable {e:α -> D}
noncomputable def km (e:α->D) (l:List<|Int×α):List (Key×D):=l.map λq=>(.inl q.1,e q.2)
abbrev bB (l:Al):List (Key×D):=km D.int l
theorem Jg (a b:Int):decide ((Sum.inl a:Key)=Sum.inl b)=decide (a=b):=by
 by_cases h:a=b
 .simp
 .rw[decide_eq_false h];show decide_eq_false λz=>h<|Sum.inl.inj z
theorem mn (l:List<|Int×α) (x:Int):kR (km e l) (.inl x)=((l.find? λq=>decide (q.1=x)).map (·.2)).map e:=by
 unfold kR km;rw[List.find?_map];have:((λkv:Key×D=>decide (kv.1=Sum.inl x))∘λq:Int×α=>((Sum.inl q.1),e q.2))=λq=>decide (q.1=x):=by
  funext q;show Jg q.1 x
 rw[this];cases l.find? λq=>decide (q.1=x)<;>rfl
theorem Sb (l:List<|Int×α) (x:Int):((km e l).any λkv=>decide (kv.1=Sum.inl x))=l.any λq=>decide (q.1=x):=by
 unfold km;rw[Xc];congr 1;funext q;show Jg q.1 x
theorem Sd (l:List<|Int×α) (x:Int) (v:α):HC (km e l) (.inl x) (e v)=km e (put l x v):=by
 unfold HC put;rw[Sb];split
 .unfold km;rw[bO,bO];refine xt λq _=>?_;by_cases h:q.1=x
  .simp[h]
  .simp[h]
 .unfold km;simp
theorem NU (l:List<|Int×α) (x:Int):vF (km e l) (.inl x)=km e (xb l x):=by
 unfold vF xb km;rw[List.filter_map];congr 1;congr 1;funext q;by_cases h:q.1=x<;>simp
theorem C8 (l:List<|Int×α) (x:Int) (v:α):(put l x v).length<=l.length+1:=by
 unfold put;split<;>simp
end
theorem NV {R:Al}(nd:(R.map (·.1)).Nodup) {q:Int×Int}(m:q∈R):look R q.1=ae q.2:=by
 induction R with
 |nil=>cases m
 |cons a R ih=>
   rw[aU,uc]at nd;unfold look;rw[xx];rcases bz.mp m with rfl|m
   .simp
   .have:¬ a.1=q.1:=λz=>nd.1 (by rw[z];show vb m);rw[decide_eq_false this];show ih nd.2 m
theorem Gk (ps:Al):eN (.tup zac)=ag:=by
 have h:=NP<|ps.map λq=>[q.1,q.2];rw[<-Gj]at h;unfold eN at h ⊢;simpa[toPy,PyData.canLay0,PyData.depth] using h
theorem NW (neg:Bool) (q:Int×Int) (ps:Al):inD neg (dP q) (.tup zac)=ae (.old<|.bl (if neg then !decide (q∈ps) else decide (q∈ps))):=by
 change (if ka (dP q)=ag /\ (ps.map dP).all ka=ag then ae (Res.old<|.bl (if neg then !nE (dP q) zac else nE (dP q) zac)) else uK neg _ _ _)=_;unfold uK;rw[show eN (dP q)=ag from R7 [q.1,q.2],Gk,Vs];rfl
theorem Se (h:Hs rs ks ps hd) (a b:Int):jg [.d za,.d<|.int a,.d<|.int b] bx=.val (.d<|.bl<|!HN ps a b) bx:=by
 have z:(2)<=sizeLine:=by decide
 refine fU<|fS ?_;have e1:gf (fc (dN af minD<|fc (dV 1) zM)<|fc (dN af maxD<|fc (dV 1) zM) ff) [ae<|.d za,xN a,xN b] bx=.val (.d<|dP (if b<a then b else a,if b>a then b else a)) bx:=rfl;refine(fH e1 zj<|NW ag _ ps).trans ?_;have:decide ((if b<a then b else a,if b>a then b else a)∈ps)=HN ps a b:=by
  unfold HN;rw[pT];simp[vW,decide_eq_true_eq];by_cases c:b<a
  .rw[if_pos c,if_neg zb];show#[.inr,λz=>z.elim (λz=>absurd (h.b _ z) zo) id]
  .rw[if_neg c];by_cases d:b>a
   .rw[if_pos d];show#[.inl,λz=>z.elim id λz=>absurd (h.b _ z) zo]
   .rw[if_neg d];have:a=b:=by lia
    subst this;show#[.inl,λz=>z.elim id id]
 rw[this];rfl
theorem C9 (g:Pg):fN [.d<|enc g] bx=.val (.d (match g with|.aZ _ _ _ r _ _=>.int r|.to _ _ r=>.int r|.out ..=>.aB)) bx:=
 fU (by cases g<;>simp[lN,enc,dO,cP,kQ,aA,bD,cy,eq_str,Lq,NR,WT])
section
variable {e:α -> D} {L:List (Int × α)} {m k:DE W} {i:Nat} {l:Int}
theorem Tl (neg:Bool) (hk:k env bx=.val (.d<|.int l) bx) (hm:m env bx=.val (.b i) bx) (hb:qM bx (.b i)=ae (km e L)) :
 kT neg k m env bx=.val (.d (.bl (if neg then !((L.find? λq=>decide (q.1=l)).map (·.2)).isSome else ((L.find? λq=>decide (q.1=l)).map (·.2)).isSome))) bx:=by
 unfold kT;rw[hk,fQ,hm,fQ,hb];change O.val _ bx=_;rw[mn,v7]
theorem Db {v:α}(hk:k env bx=.val (.d<|.int l) bx) (hm:m env bx=.val (.b i) bx) (hb:qM bx (.b i)=ae (km e L)) (hf:(L.find? λq=>decide (q.1=l)).map (·.2)=ae v):kS m k env bx=.val (.d<|e v) bx:=by
 unfold kS;rw[hm,fQ,hk,fQ,hb];change (match kR _ _ with|some u=>O.val _ bx|none=>.bad)=_;rw[mn,hf];rfl
theorem Fg {l:List (Key×D)}(h:bx[i]?=ae (.aG l)):qM bx (.b i)=ae l:=by unfold qM;simp[h]
theorem WW {l:List (Key×D)}(h:bx[i]?=ae (.fD l)):qM bx (.b i)=ae l:=by unfold qM;simp[h]
theorem NX:vJ (km e L)=(L.map λq=>D.int q.1).map W.d:=by
 unfold vJ km;rw[bO,bO];rfl
end
theorem NY {x y:Bx}(h:bx[j]?=ae x):(bx.set j y).set j x=bx:=by
 rw[abD];apply xu;intro n;by_cases e:j=n
 .subst e;rw[pV (List.getElem?_eq_some_iff.mp h).1,h]
 .rw[sC e]
theorem WX {l:List (Key×D)}(h:bx[j]?=ae (.aG l)):yE j (bx.set j<|.fD l)=ae bx:=by
 unfold yE;rw[pV (List.getElem?_eq_some_iff.mp h).1];simp[NY h]
section
variable {K R:List (Int × Int)} {i:Nat} 
abbrev ZL:DE W:=wY af [ah,ae 2,ae 6] 2 (fe 0) (dB<|d2 af bf (kS (dV 1)<|dV 0)<|dV 2)<|dV 0
theorem YC (J:kG K R n) (hn:n<=100) (hj:bx[j]?=ae (.aG<|bB R)) {r:Int}(h2:env[2]?=ae (xB j)) (h6:env[6]?=ae (xN r)) :
 ZL env bx=.val (.d<|.lst<|(R.filter λq=>decide (q.2=r)).map λq=>D.int q.1) bx:=by
 have z:sizeLine=16777216:=bC;have lr:=J.lr;unfold ZL wY;erw[h2,hj];have s:eL [ah,ae 2,ae 6] env=[ah,xB j,xN r]:=by simp[h2,h6]
 rw[s,show vJ (bB R)=(R.map λq=>D.int q.1).map W.d from NX,(aeB (tf:=dB _) (te:=dV 0) (r:=[ae _,ae _]) _ _ R ah [] zo λq m=>
  #[gm<|fH (r:=.old _) (Db zj zj (WW<|pV (a:=.fD<|bB R) (List.getElem?_eq_some_iff.mp hj).1)<|NV J.nd m) zj<|rfl,λ_=>rfl]),fQ]
 change yF j (.val _ _)=_;unfold yF;erw[WX hj];rfl
abbrev aeD:DE W:=dN af dM<|fc (f7 af [ah,ae 0,ae 1,ae 7] (bP<|dV 8) (fe 0) gk<|fj aN.jg 3<|fc (dV 1)<|fc (dV 3)<|fc (kS (dV 2)<|dV 0) ff) ff
theorem YD (h:Hs rs ks ps hd) (J:kG K R n) (hn:n<=100) (hi:bx[i]?=ae (.aG<|bB K)) {r k:Int}(h0:env[0]?=ae (ae<|.d za)) (h1:env[1]?=ae (xB i)) (h7:env[7]?=ae (xN k))
 (h8:env[8]?=ae (ae<|.d<|.lst<|(R.filter λq=>decide (q.2=r)).map λq=>D.int q.1)):aeD env bx=.val (.d<|.bl<|!tW ps K R k r) bx:=by
 have z:sizeLine=16777216:=bC;have lr:=J.lr;have fl:=Iz (λq:Int×Int=>decide (q.2=r)) R;have it:bP (dV 8) env bx=.val _ bx:=gG (by unfold dV;rw[h8]);have s:eL [ah,ae 0,ae 1,ae 7] env=ah::[ae<|.d za,xB i,xN k]:=by simp[h0,h1,h7]
 refine(ZK (λq=>!HN ps k (kk K q.1)) it s zb λq m=>?_).trans ?_
 .let#[v,hv]:=Option.isSome_iff_exists.mp<|J.sub q (List.mem_filter.mp m).1;have e:kk K q.1=v:=by unfold kk;rw[hv];rfl
  rw[e];show fM (fg zj<|fg zj<|fg (Db zj zj (Fg hi) hv) zj) zj<|Se h k v
 .congr 3;unfold tW;rw[pT];erw[bR,List.mem_filter,pz,Iq,aL,decide_eq_true_eq,not_and,abh];show#[λa q m c=>a q #[m,c],λa q m=>a q m.1 m.2]
def aiW:az:=(fq (fJ ZL<|fe 8)<|fq (aR (dB aeD) (fF<|dC<|.str "takes") aY)<|fF<|dC<|.str "apart")
theorem WY (h:Hs rs ks ps hd) (J:kG K R n) (hn:n<=100) (hi:bx[i]?=ae (.aG<|bB K)) (hj:bx[j]?=ae (.aG<|bB R)) (x3 x4 x5 x8:Option W) (k r:Int) :
 aiW [ae<|.d za,xB i,xB j,x3,x4,x5,xN r,xN k,x8] bx=.rt (.d<|.str (if tW ps K R k r then "apart" else "takes")) bx:=by
 have b:=YD (env:=[ae _,ae _,xB j,x3,x4,x5,xN r,xN k,ae<|.d<|.lst<|(R.filter λq=>decide (q.2=r)).map λq=>D.int q.1]) h J hn hi zj zj zj zj;refine(fA<|gN<|YC (env:=[ae _,ae _,ae _,x3,x4,x5,ae _,ae _,x8]) J hn hj zj zj).trans ?_;cases c:tW ps K R k r with
 |true=>
   rw[c]at b;show(fA<|gz<|gm b)
 |false=>
   rw[c]at b;show i9<|(i0<|gm b)
theorem Vx (h:Hs rs ks ps hd) (J:kG K R n) (hn:n<=100) (hi:bx[i]?=ae (.aG<|bB K)) (hj:bx[j]?=ae (.aG<|bB R)) (g:Pg) :
 iY [.d za,.b i,.b j,.d<|enc g] bx=.val (.d<|.str<|word ps K R g) bx:=by
 refine fU ?_;change mM _ bx=_;have eM:mM=(fq _ _):=rfl;rw[eM];have p1:kO 4 5 (fc (d2 af aA (dV 3) zd)<|fc (d2 af aA (dV 3) zP) ff) [ae<|.d za,xB i,xB j,ae<|.d<|enc g,ah,ah,ah,ah,ah] bx=.nx [ae<|.d za,xB i,xB j,ae<|.d<|enc g,ae<|.d<|.str<|cW g,xN<|bM g,ah,ah,ah] bx:=by
  cases g<;>simp[kO,enc,dO,cP,kQ,aA,bD,cy,cW,bM]
 refine(fA p1).trans ?_;have tE:∀ (w:Str) (x6 x7:Option W),dB (d2 af bf (dV 4)<|dC<|.str w) [ae<|.d za,xB i,xB j,ae<|.d<|enc g,ae<|.d<|.str<|cW g,xN<|bM g,x6,x7,ah] bx=.val (decide (cW g=w)) bx:=λw x6 x7=>gm<|fH zj zj<|eq_str _ _;have tN:dB (d2 af pP (dV 4)<|dC<|.str "in") [ae<|.d za,xB i,xB j,ae<|.d<|enc g,ae<|.d<|.str<|cW g,xN<|bM g,ah,ah,ah] bx=.val (!decide (cW g="in")) bx:=gm<|fH zj zj<|ne_str _ _;have iK:dB (kT af (dV 5)<|dV 1) [ae<|.d za,xB i,xB j,ae<|.d<|enc g,ae<|.d<|.str<|cW g,xN<|bM g,ah,ah,ah] bx=.val (look K<|bM g).isSome bx:=gm<|Tl af zj zj<|Fg hi;have iR:dB (kT ag (dV 5)<|dV 2) [ae<|.d za,xB i,xB j,ae<|.d<|enc g,ae<|.d<|.str<|cW g,xN<|bM g,ah,ah,ah] bx=.val (!(look R<|bM g).isSome) bx:=gm<|Tl ag zj zj<|Fg hj;cases g with
 |aZ h' l k r p w=>
   change _=OS.rt (W.d<|.str (if (look K l).isSome then "there" else if tW ps K R k r then "apart" else "takes")) bx;have t1:=jF (tE "in" ah ah) iK;cases c:(look K l).isSome with
   |true=>
     rw[show (look K<|bM<|.aZ h' l k r p w).isSome=ag from c]at t1;show i9<|(i0 t1).trans zj
   |false=>
     rw[show (look K<|bM<|.aZ h' l k r p w).isSome=af from c]at t1;refine(fA<|(gz t1).trans zj).trans ?_;refine(fA<|(gz<|lS tN).trans zj).trans ?_;have t3:=tE "out" ah ah;rw[decide_eq_false (show ¬ cW (.aZ h' l k r p w)="out" by change ¬ ("in":Str)="out";rw[Vt];show id)]at t3;refine(fA<|(gz t3).trans zj).trans ?_;refine(fA<|gN<|fM (l:=[.d<|enc<|.aZ h' l k r p w]) zj zj<|C9 _).trans ?_;have t4:=tE "to" (xN r) ah;rw[decide_eq_false (show ¬ cW (.aZ h' l k r p w)="to" by change ¬ ("in":Str)="to";rw[WS];show id)]at t4;refine(fA<|(gz<|lS t4).trans zj).trans ?_;have kv:nX (dB<|d2 af bf (dV 4)<|dC<|.str "in") (d2 af aA (dV 3) zB) (kS (dV 1)<|dV 5) [ae<|.d za,xB i,xB j,ae<|.d<|enc<|.aZ h' l k r p w,ae<|.d<|.str<|cW<|.aZ h' l k r p w,xN<|bM<|.aZ h' l k r p w,xN r,ah,ah] bx=.val (.d<|.int k) bx:=by
      unfold nX;rw[(tE "in" (xN r) ah),fQ];rfl
     show(fA<|gN kv).trans (WY h J hn hi hj _ _ _ _ k r)
 |to h' l r=>
   have t1:=tE "in" ah ah;rw[decide_eq_false (show ¬ cW (.to h' l r)="in" by change ¬ ("to":Str)="in";rw[Lq];show id)]at t1 tN;refine(fA<|(gz<|lS t1).trans zj).trans ?_;have t2:=jF tN iR;change _=OS.rt (W.d<|.str (match look R l with|none=>"none"|some r0=>if r0=r then "same" else if tW ps K R (kk K l) r then "apart" else "takes")) bx;cases c:look R l with
   |none=>
     rw[show look R (bM<|.to h' l r)=ah from c]at t2;show i9<|(i0 t2).trans zj
   |some r0=>
     rw[show look R (bM<|.to h' l r)=ae r0 from c]at t2;refine(fA<|(gz t2).trans zj).trans ?_;have t3:=tE "out" ah ah;rw[decide_eq_false (show ¬ cW (.to h' l r)="out" by change ¬ ("to":Str)="out";rw[Vu];show id)]at t3;refine(fA<|(gz t3).trans zj).trans ?_;refine(fA<|gN<|fM (l:=[.d<|enc<|.to h' l r]) zj zj<|C9 _).trans ?_;have t4:nK (dB<|d2 af bf (dV 4)<|dC<|.str "to") (dB<|d2 af bf (kS (dV 2)<|dV 5)<|dV 6) [ae<|.d za,xB i,xB j,ae<|.d<|enc<|.to h' l r,ae<|.d<|.str<|cW<|.to h' l r,xN<|bM<|.to h' l r,xN r,ah,ah] bx=.val (decide (r0=r)) bx:=
      jF (tE "to" (xN r) ah) (gm<|fH (r:=.old<|.bl<|decide (r0=r)) (x:=.int r0) (y:=.int r) (Db (e:=D.int) (L:=R) zj zj (Fg hj) c) zj<|rfl)
     by_cases d:r0=r
     .rw[decide_eq_true d]at t4;change _=OS.rt (W.d<|.str (if r0=r then "same" else if tW ps K R (kk K l) r then "apart" else "takes")) bx;rw[if_pos d];show i9<|(i0 t4).trans zj
     .rw[decide_eq_false d]at t4;change _=OS.rt (W.d<|.str (if r0=r then "same" else if tW ps K R (kk K l) r then "apart" else "takes")) bx;rw[if_neg d];refine(fA<|(gz t4).trans zj).trans ?_;obtain⟨q,mq,eq⟩:∃ q∈R,q.1=l:=by
       unfold look at c;cases f:R.find? λq=>decide (q.1=l) with
       |none=>rw[f]at c;cases c
       |some q=>show#[q,ID f,by have:=Xf f;simpa using this]
      let#[v,hv]:=Option.isSome_iff_exists.mp<|J.sub q mq;rw[eq]at hv;have ev:kk K l=v:=by unfold kk;rw[hv];rfl
      have t5:=tE "in" (xN r) ah;rw[decide_eq_false (show ¬ cW (.to h' l r)="in" by change ¬ ("to":Str)="in";rw[Lq];show id)]at t5;have kv:nX (dB<|d2 af bf (dV 4)<|dC<|.str "in") (d2 af aA (dV 3) zB) (kS (dV 1)<|dV 5) [ae<|.d za,xB i,xB j,ae<|.d<|enc<|.to h' l r,ae<|.d<|.str<|cW<|.to h' l r,xN<|bM<|.to h' l r,xN r,ah,ah] bx=.val (.d<|.int<|kk K l) bx:=by
       unfold nX;rw[t5,fQ,ev];show Db (e:=D.int) (L:=K) zj zj (Fg hi) hv
      show(fA<|gN kv).trans (WY h J hn hi hj _ _ _ _ (kk K l) r)
 |out h' l=>
   have t1:=tE "in" ah ah;rw[decide_eq_false (show ¬ cW (.out h' l)="in" by change ¬ ("out":Str)="in";rw[NR];show id)]at t1 tN;refine(fA<|(gz<|lS t1).trans zj).trans ?_;have t2:=jF tN iR;change _=OS.rt (W.d<|.str (match look R l with|none=>"none"|some _=>"takes")) bx;cases c:look R l with
   |none=>
     rw[show look R (bM<|.out h' l)=ah from c]at t2;show i9<|(i0 t2).trans zj
   |some r0=>
     rw[show look R (bM<|.out h' l)=ae r0 from c]at t2;show(fA<|(gz t2).trans zj).trans (i9<|(i0<|tE "out" ah ah).trans zj)
end
open bu
theorem AF {L:List (Int×α)}{x:Int}{v:α}{q:Int×α}(m:q∈put L x v):(q.1=x /\ q.2=v) \/ q∈L:=by
 unfold put at m;split at m
 .let#[p,mp,rfl]:=bE.mp m;by_cases h:p.1=x
  .rw[if_pos h];show .inl #[h,rfl]
  .rw[if_neg h];show .inr mp
 .rcases List.mem_append.mp m with m|m
  .show .inr m
  .cases ku.mp m;show .inl #[rfl,rfl]
theorem NZ {L:List (Int×α)}{x:Int}{v:α}(nd:(L.map (·.1)).Nodup):((put L x v).map (·.1)).Nodup:=by
 unfold put;split
 .rw[bO];have:((λq:Int×α=>q.1)∘λq=>if q.1=x then (q.1,v) else q)=λq=>q.1:=by
   funext q;by_cases h:q.1=x<;>simp[h]
  rw[this];show nd
 .ext h;rw[Ey,sH];refine#[nd,by simp,λa ma b mb=>?_];cases (ku.mp mb);let#[q,mq,rfl]:=bE.mp ma;show λz=>h<|ud.mpr #[q,mq,decide_eq_true z]
theorem Vy {L:List (Int×α)}{x:Int}(nd:(L.map (·.1)).Nodup):((xb L x).map (·.1)).Nodup:=nd.sublist<|(List.filter_sublist).map _
theorem Cr {L:Al}{x v:Int}(h:look L x=ae v):∃ q∈L,q.1=x:=by
 unfold look at h;cases f:L.find? λq=>decide (q.1=x) with
 |none=>rw[f]at h;cases h
 |some q=>show#[q,ID f,by have:=Xf f;simpa using this]
theorem AG {L:Al}{x:Int}:(look L x).isSome=ag ↔ ∃ q∈L,q.1=x:=by
 constructor
 .intro h;let#[v,h]:=Option.isSome_iff_exists.mp h;show Cr h
 .rintro⟨q,m,rfl⟩;unfold look;rw[v7,List.find?_isSome];show#[q,m,by simp]
theorem N0 {L:Al}{x v y:Int}(h:y=x \/ (look L y).isSome=ag):(look (put L x v) y).isSome=ag:=by
 rw[AG];have key:∀ z,(∃ q∈L,q.1=z)->∃ q∈put L x v,q.1=z:=λz ⟨q,m,e⟩=>by
  unfold put;split
  .refine#[if q.1=x then (q.1,v) else q,vb m,?_];split<;>show e
  .show#[q,pU _ m,e]
 rcases h with rfl|h
 .by_cases c:(look L y).isSome=ag
  .show key y<|AG.mp c
  .unfold put;rw[if_neg]
   .show#[(y,v),by simp,rfl]
   .intro z;let#[q,m,e]:=ud.mp z;show c<|AG.mpr #[q,m,of_decide_eq_true e]
 .show key y<|AG.mp h
theorem kG.step {ps K R:Al}(J:kG K R n) {g:Pg}(h:word ps K R g="takes"):kG (stK K g) (se R g) (n+1):=by
 have lk:=J.lk;have lr:=J.lr;cases g with
 |aZ h' l k r p w=>
   have a:=C8 K l k;have b:=C8 R l r;refine#[NZ J.nd,λq m=>?_,by change (put K l k).length<=_;lia,by change (put R l r).length<=_;lia];rcases AF m with m|m
   .show N0<|.inl m.1
   .show N0<|.inr<|J.sub q m
 |to h' l r=>
   have b:=C8 R l r;refine#[NZ J.nd,λq m=>?_,by change K.length<=_;lia,by change (put R l r).length<=_;lia];rcases AF m with m|m
   .rw[m.1];cases c:look R l with
    |none=>
      simp[word,c]at h;show absurd h zc
    |some v=>
      let#[q0,m0,e0]:=Cr c;rw[<-e0];show J.sub q0 m0
   .show J.sub q m
 |out h' l=>
   refine#[Vy J.nd,λq m=>J.sub q (List.mem_filter.mp m).1,by change K.length<=_;lia,?_];have:=Iz (λq:Int×Int=>decide (q.1≠l)) R;change (xb R l).length<=_;unfold xb;lia
def tq (x:Pg×Str×D×D):D:=.tup [enc x.1,.str x.2.1,x.2.2.1,x.2.2.2]
section
def Bk (bx:List Bx) (T:List<|Pg×Str×D×D) (K R:Al):List Bx:=bx++[.lst<|T.map tq,.aG<|bB K,.aG<|bB R]
variable {T T':List (Pg × Str × D × D)} {K R K' R':Al}
theorem HP:(Bk bx T K R)[bx.length]?=ae (.lst<|T.map tq):=by simp[Bk]
theorem aeE:(Bk bx T K R)[bx.length+1]?=ae (.aG<|bB K):=by simp[Bk]
theorem HQ:(Bk bx T K R)[bx.length+2]?=ae (.aG<|bB R):=by simp[Bk]
theorem aeF:(Bk bx T K R).set bx.length (.lst<|T'.map tq)=Bk bx T' K R:=by simp[Bk]
theorem aiX:(Bk bx T K R).set (bx.length+1) (.aG<|bB K')=Bk bx T K' R:=by simp[Bk]
theorem ZM:(Bk bx T K R).set (bx.length+2) (.aG<|bB R')=Bk bx T K R':=by simp[Bk]
abbrev rB:az:=(fq (fJ (d2 af aA (dV 5) zP)<|fe 6)<|fq (fJ (fj aN.iY 4<|fc (dV 0)<|fc (dV 3)<|fc (dV 4)<|fc (dV 5) ff)<|fe 7) zA)
theorem Vz {a9 cK:aP}{ax:List Bx}{w:W}{l:List W}{g:DG}{body:az}(h1:g w env bx=ae (a9,bx1)) (h2:body a9 bx1=.ct cK ax):cq g body (w::l) env bx=cq g body l cK ax:=by
 rw[cq,h1];simp[h2]
noncomputable abbrev rE (H P:D) (t:Nat) (x5 x6 x7:Option W):aP:=[ae<|.d H,ae<|.d P,ae<|.b t,ae<|.b<|t+1,ae<|.b<|t+2,x5,x6,x7]
variable {P:D}
theorem WZ (g:Pg) (h:env[5]?=ae zL):d2 af aA (dV 5) zP env B=.val (.d<|.int<|bM g) B:=by
 cases g<;>simp[h,enc,dO,cP,kQ,aA,bD,cy,bM]
theorem Tn (g:Pg) (w:Str) (h:env[5]?=ae zL):dB (d2 af bf (d2 af aA (dV 5) zd)<|dC<|.str w) env B=.val (decide (cW g=w)) B:=by
 refine gm<|fH ?_ zj<|eq_str _ _;cases g<;>simp[h,enc,dO,cP,kQ,aA,bD,cy,cW]
theorem N1 (h:Hs rs ks ps hd) (J:kG K R n) (hn:n<=100) (g:Pg) (x6 x7:Option W) {k:az} :
 fq (fJ (d2 af aA (dV 5) zP)<|fe 6) (fq (fJ (fj aN.iY 4<|fc (dV 0)<|fc (dV 3)<|fc (dV 4)<|fc (dV 5) ff)<|fe 7) k) (rE za P bx.length zL x6 x7) (Bk bx T K R) =
  k (rE za P bx.length zL (xN<|bM g)<|ae<|.d<|.str<|word ps K R g) (Bk bx T K R):=
 (fA<|gN<|WZ g zj).trans (fA<|gN<|fM zj zj<|Vx h J hn aeE HQ g)
theorem To (w:Str) (h:env[7]?=ae (ae<|.d<|.str w)):dB (d2 af pP (dV 7)<|dC<|.str "takes") env B=.val (!decide (w="takes")) B:=
 gm (fH (by unfold dV;rw[h]) zj<|ne_str _ _)
theorem W0 (h:Hs rs ks ps hd) (J:kG K R n) (hn:n<=100) (hT:T.length<=100) (g:Pg) (x6 x7:Option W) (c:¬ word ps K R g="takes") :
 rB (rE za P bx.length zL x6 x7) (Bk bx T K R)=.ct (rE za P bx.length zL (xN<|bM g)<|ae<|.d<|.str<|word ps K R g) (Bk bx (T++[(g,word ps K R g,.aB,.aB)]) K R):=by
 have z:=bC;refine(N1 h J hn g x6 x7).trans ?_;have t:=To _ (env:=rE za P bx.length zL (xN<|bM g)<|ae<|.d<|.str<|word ps K R g) (B:=Bk bx T K R) zj;rw[decide_eq_false c]at t;have a:=Jb (m:=dV 2) (k:=gf<|fc (dV 5)<|fc (dV 7)<|fc (dC .aB)<|fc (dC .aB) ff) (env:=rE za P bx.length zL (xN<|bM g)<|ae<|.d<|.str<|word ps K R g) (bx:=Bk bx T K R) (d:=tq (g,word ps K R g,.aB,.aB)) zj HP (gH [enc g,.str<|word ps K R g,.aB,.aB] zj zo) HP zo;rw[show T.map tq++[tq (g,word ps K R g,D.aB,D.aB)]=(T++[(g,word ps K R g,D.aB,D.aB)]).map tq by simp,aeF]at a;rw[jv,i0 t,fA<|iN a];rfl
noncomputable def eS:Pg->D
 |.aZ _ _ _ r _ _=>.int r
 |.to _ _ r=>.int r
 |.out ..=>.aB
theorem Fh {L:Al}{m k v:DE W}{i:Nat}{l x:Int}(hv:v env B=.val (.d<|.int x) B) (hm:m env B=.val (.b i) B) (hk:k env B=.val (.d<|.int l) B) (hb:B[i]?=ae (.aG<|bB L)) (hl:L.length<=1000):rR m k v env B=.nx env (B.set i<|.aG<|bB<|put L l x):=by
 have z:=bC;unfold rR;rw[hv,iM,hm,iM,hk,iM];simp[hb,rQ];rw[if_pos (by unfold bB km;simp;lia),Sd]
theorem Tp {L:Al}{m k:DE W}{i:Nat}{l:Int}(hm:m env B=.val (.b i) B) (hk:k env B=.val (.d<|.int l) B) (hb:B[i]?=ae (.aG<|bB L)) (hs:(look L l).isSome=ag):uN m k env B=.nx env (B.set i<|.aG<|bB<|xb L l):=by
 unfold uN;rw[hm,iM,hk,iM];simp[hb,rQ];rw[if_pos (by rw[mn,v7];show hs),NU]
theorem VA {L:Al}{m k:DE W}{i:Nat}{l:Int}(hm:m env B=.val (.b i) B) (hk:k env B=.val (.d<|.int l) B) (hb:B[i]?=ae (.aG<|bB L)):vG m k env B=.val (.d<|((look L l).map D.int).getD .aB) B:=by
 unfold vG;rw[hm,fQ];simp[hb,hk,fQ,rQ];rw[mn];rfl
theorem Fi {h' l:Int}(c:word ps K R (.out h' l)="takes"):(look R l).isSome=ag:=by
 simp[word]at c;cases e:look R l with
 |none=>rw[e]at c;show absurd c zc
 |some v=>rfl
theorem VB (h:Hs rs ks ps hd) (J:kG K R n) (hn:n<=100) (hT:T.length<=100) (g:Pg) (x6 x7:Option W) (c:word ps K R g="takes") :
 rB (rE za P bx.length zL x6 x7) (Bk bx T K R)=.nx (rE za P bx.length zL (xN<|bM g)<|ae<|.d<|.str<|word ps K R g) (Bk bx (T++[zai]) (stK K g)<|se R g):=by
 have z:sizeLine=16777216:=bC;have lk:=J.lk;have lr:=J.lr;refine(N1 h J hn g x6 x7).trans ?_;generalize hE:rE _ P bx.length _ _ _=E;have e2:∀ B,dV 2 E B=.val _ B:=λB=>by subst hE;rfl
 have e3:∀ B,dV 3 E B=.val _ B:=λB=>by subst hE;rfl
 have e4:∀ B,dV 4 E B=.val _ B:=λB=>by subst hE;rfl
 have e5:E[5]?=ae zL:=by subst hE;rfl
 have v5:∀ B,dV 5 E B=.val _ B:=λB=>by subst hE;rfl
 have e6:∀ B,dV 6 E B=.val _ B:=λB=>by subst hE;rfl
 have e7:∀ B,dV 7 E B=.val _ B:=λB=>by subst hE;rfl
 have t:=To _ (env:=E) (B:=Bk bx T K R) (by subst hE;rfl);rw[decide_eq_true c]at t;refine(fA<|(gz t).trans zj).trans ?_;have en:∀ B,fj aN.fN 1 (fc _ ff) E B=.val (.d<|eS g) B:=λB=>(fM (fg (v5 B) zj) zj<|C9 g).trans (by cases g<;>rfl);have a:=Jb (k:=gf<|fc (dV 5)<|fc (dV 7)<|fc (vG (dV 4)<|dV 6)<|fc (fj aN.fN 1<|fc (dV 5) ff) ff) (bx:=Bk bx T K R) (d:=tq zai) (e2 _) HP
  (gH [enc g,.str<|word ps K R g,((look R<|bM g).map D.int).getD .aB,eS g] (fg (v5 _)<|fg (e7 _)<|fg (VA (e4 _) (e6 _) HQ)<|fg (en _) zj) zo) HP zo
 rw[show T.map tq++[tq zai]=(T++[zai]).map tq by simp,aeF]at a;refine(fA<|iN a).trans ?_;generalize T++[zai]=T2;have ti:=Tn g "in" (B:=Bk bx T2 K R) e5;have to:=λK2=>Tn g "out" (B:=Bk bx T2 K2 R) e5;cases g with
 |aZ h' l k r p w=>
   have p1:=Fh (v:=d2 af aA (dV 5) zB) (B:=Bk bx T2 K R) (env:=E) (by rw[Nn,v5];rfl) (e3 _) (e6 _) aeE zb;rw[aiX]at p1;refine(fA<|(i0 ti).trans p1).trans ?_;have to:=to<|put K l k;rw[decide_eq_false (show ¬ cW (.aZ h' l k r p w)="out" by change ¬ ("in":Str)="out";rw[Vt];show id)]at to;have p2:=Fh (v:=fj aN.fN 1<|fc (dV 5) ff) (x:=r) (B:=Bk bx T2 (put K l k) R) (env:=E) (en _) (e4 _) (e6 _) HQ zb;rw[ZM]at p2;show(gz to).trans p2
 |to h' l r=>
   rw[decide_eq_false (show ¬ cW (.to h' l r)="in" by change ¬ ("to":Str)="in";rw[Lq];show id)]at ti;refine(fA<|(gz ti).trans zj).trans ?_;have to:=to K;rw[decide_eq_false (show ¬ cW (.to h' l r)="out" by change ¬ ("to":Str)="out";rw[Vu];show id)]at to;have p2:=Fh (v:=fj aN.fN 1<|fc (dV 5) ff) (x:=r) (B:=Bk bx T2 K R) (env:=E) (en _) (e4 _) (e6 _) HQ zb;rw[ZM]at p2;show(gz to).trans p2
 |out h' l=>
   rw[decide_eq_false (show ¬ cW (.out h' l)="in" by change ¬ ("out":Str)="in";rw[NR];show id)]at ti;refine(fA<|(gz ti).trans zj).trans ?_;have p2:=Tp (B:=Bk bx T2 K R) (env:=E) (e4 _) (e6 _) HQ<|Fi c;rw[show bM (.out h' l)=l from rfl,ZM]at p2;show(i0<|to K).trans p2
theorem ZN:kG [] [] 0:=#[by simp,(λq m=>nomatch m),aH _,aH _]
abbrev g4:DG:=gj 4<|fm (fe 0)<|fm (fe 1)<|fm (fe 2)<|fm (fe 3) gn
end
noncomputable abbrev At:=List<|Int×(Int×Int)
section
variable {K R:List (Int × Int)} {b:Nat} {k:Int}
end
noncomputable abbrev ml (n:Nat):List (Str×Nat):=[("there",n),("came",n+1),("gone",n+2),("doors",n+3),("at",n+4),("words",n+5)]
section
variable {th ak1:At} {ak2:List (Int × Pg)} {go go':Al} {ak3:List (List Key × D)} {av ak4 wd ak5:List D}
end
noncomputable def b9:Pg->Int
 |.aZ h ..=>h
 |.to h ..=>h
 |.out h _=>h
section
variable {e:α -> D} {L:List (Int × α)} {m k v:DE W} {i:Nat} {l:Int}
end
end aN
namespace bu
open L2 L2.DL K1 K2
section
variable {ax cj:List Bx}
end
end bu
namespace K2
open L2 L2.DL K1
section
variable {h:D} {rs:List Int} {x0 x1 x2 x4 x5 x6 x7 x8 x9 x10 sf x12 x13 aiY:Option W}
end
section
variable {h:D} {rs:List Int} {x0 x1 x4 x5 x6 x7 x8 x12 x13 aiY:Option W}
end
end K2
namespace K1
open L2 L2.DL
end K1
namespace K2
open L2 L2.DL K1
end K2
namespace bu
open L2 L2.DL K1 K2
section
variable {x0 x1 x2 x5 x7 x8 x9 x10:Option W}
end
section
variable {ax:List Bx}
end
section
variable {x0 x1 x3 x5 x6 x7 sf x12 x13:Option W}
end
section
variable {x0 x1 x5:Option W}
end
end bu
namespace dA
open L2 L2.DL K1 bu
section
variable {r:aP}
end
section
variable {ax:List Bx}
end
end dA
namespace aN
open L2 L2.DL K1 dA bu
def yO (ps K R:Al) (g:Pg):Al:=if word ps K R g="takes" then stK K g else K
def vN (ps K R:Al) (g:Pg):Al:=if word ps K R g="takes" then se R g else R
theorem Jh {ps K R:Al}{g:Pg}(h:¬ word ps K R g="takes"):yO ps K R g=K /\ vN ps K R g=R:=#[if_neg h,if_neg h]
theorem Dc {ps K R:Al}{g:Pg}(h:word ps K R g="takes"):yO ps K R g=stK K g /\ vN ps K R g=se R g:=#[if_pos h,if_pos h]
section
variable {K R:List (Int × Int)} 
variable {go:Al} {av wd:List D}
noncomputable def isIn:Pg->Bool
 |.aZ ..=>ag
 |_=>af
end
theorem kG.nx {ps K R:Al}(J:kG K R n) (g:Pg):kG (yO ps K R g) (vN ps K R g) (n+1):=by
 by_cases c:word ps K R g="takes"
 .rw[(Dc c).1,(Dc c).2];show J.step c
 .rw[(Jh c).1,(Jh c).2];show#[J.nd,J.sub,Q4 J.lk,Q4 J.lr]
section
variable {P:D} 
theorem W1 (g:Pg) (h:env[3]?=ae zL):d2 af aA (dV 3) zh env B=.val (.d<|.int<|b9 g) B:=by
 cases g<;>simp[h,enc,dO,cP,kQ,aA,bD,cy,b9]
end
abbrev ZO (ft:List W->List Bx->O W):az:=(fJ (d2 af fP (dV 3)<|f7 af [ah,ae 0,ae 4] (dW<|fc (dV 4) ff) (fe 0) (dB<|d2 af bf (fj ft 2<|fc (dV 1)<|fc zB ff) zh)<|gf<|fc (dV 0) zM)<|fe 3)
theorem Lr (h:n<bx.length) (k:Nat) (hk:k<=4) (p:Int):∃ is:List Nat,∃ q,is.Sublist (List.range k) /\
 bL (fe 0) (dB<|d2 af bf (fj K1.fk 2<|fc (dV 1)<|fc zB ff) zh) (gf<|fc (dV 0) zM) (fO 0 k) [ah,xB n,xN k] zV []=.val (is.map λ(i:Nat)=>dP ((i:Int),(k:Int))) (pt bx n q):=by
 have z2:(2)<=sizeLine:=by decide
 have sz:=bC
 let#[l',q,e,s]:=NB (g:=fe 0) (tf:=dB<|d2 af bf (fj K1.fk 2<|fc (dV 1)<|fc zB ff) zh) (te:=gf<|fc (dV 0) zM) (λe=>∃ w,e=[w,xB n,xN k]) (λw=>.tup [match w with|.d x=>x|_=>.aB,.int k]) (bx:=bx) (n:=n) (fO 0 k) [ah,xB n,xN k] p [] #[ah,rfl] (by
  intro w mw env p ⟨w0,je⟩;let#[i,_,rfl]:=bE.mp mw;show#[[xN<|0+(i),xB n,xN k],decide (p % 3=0),p / 3,by simp[je],#[_,rfl],by simp[(jk h p 3 (by decide) (by decide)),bf],rfl]) (by simp[fO];lia)
 let#[is,s1,rfl]:=List.sublist_map_iff.mp s;refine#[is,q,s1,?_];rw[e,u9,bO];congr 1;refine xt λi _=>?_;simp
theorem N2 {ft:List W->List Bx->O W}{k:Nat}{p q:Int}(x1 x2:Option W) {is:List Nat}(hk:k<=4) (y:ps.length+is.length<=sizeLine)
 (e:bL (fe 0) (dB<|d2 af bf (fj ft 2<|fc (dV 1)<|fc zB ff) zh) (gf<|fc (dV 0) zM) (fO 0 k) [ah,xB n,xN k] zV []=.val (is.map λ(i:Nat)=>dP ((i:Int),(k:Int))) (pt bx n q)) :
 ZO ft [xB n,x1,x2,xP ps,xN (k:Int)] zV=.nx [xB n,x1,x2,xP<|ps++is.map λ(i:Nat)=>((i:Int),(k:Int)),xN (k:Int)] (pt bx n q):=by
 have ad:fP (.lst zac) (.lst<|is.map λ(i:Nat)=>dP ((i),(k)))=ae (.lst<|(ps++is.map λ(i:Nat)=>((i:Int),(k:Int))).map dP):=by
  refine(if_pos (by rw[a8,a8];show y)).trans ?_;rw[Ey,bO];rfl
 unfold ZO
 rw[Ge,Nn,show dV 3 _ _=.val _ _ from rfl,fQ,CY,(C3 (env:=[ae _,x1,x2,ae _,ae _]) (bx:=pt bx n p) (k:=k) (m:=fc _ ff) (rfl) zb),fQ,
  show eL _ _=[ah,ae _,ae _] from rfl,e,fQ,ju,fQ,oE,Bn,Bn,bS,bS,ad,ju,oE,iM,D7]
 rfl
theorem N3 (h:n<bx.length) (x1 x2:Option W):∀ (c k:Nat) (p:Int) (ps:List<|Int×Int) (w:Option W),k+c<=4->HM k ps ->
 ∃ vB w' q,cq (fe 4) (ZO K1.fk) ((List.range' k c).map λ(i:Nat)=>W.d<|.int<|0+(i:Int)) [xB n,x1,x2,xP ps,w] zV=.nx [xB n,x1,x2,xP vB,w'] (pt bx n q) /\ HM (k+c) vB:=by
 intro c;induction c with
 |zero=>intro k p ps w _ s;show#[ps,w,p,rfl,s]
 |succ c ih=>
   intro k p ps w hk s;let#[is,q,s1,e]:=Lr h k zb p;have li:is.length<=k:=by have:=s1.length_le;simpa using this
   let#[vB,w',q',e2,s2]:=ih _ q _ _ zb<|s.more s1 zb;refine#[vB,w',q',?_,by rw[show k+(c+1)=k+1+c by lia];show s2];have sz:=bC;have pl:=s.l;have g1:fe 4 (W.d<|.int<|0+(k)) [xB n,x1,x2,xP ps,w] zV=ae ([xB n,x1,x2,xP ps,xN<|k],pt bx n p):=by
    rw[Xt];rfl
   rw[List.range'_succ,aU,iO g1<|N2 x1 x2 (ps:=ps) zb zb e];show e2
theorem Ji (h:n<bx.length) (p:Int) {P:D->zk}{k:Int}(k0:0<k) (k5:k<=5) (ht:∀ (w:W) (p:Int),∃ d q,te [ae w,xB n] zV=.val (.d d) (pt bx n q) /\ P d):∃ ds q,(∀ d∈ds,P d) /\ 1<=ds.length /\ (ds.length:Int)<=k /\ ∀ {env:aP},env[0]?=ae (xB n)->dN af tH (fc (f7 af [ah,ae 0] (dW<|fc (d2 af fP zd<|fj K1.fk 2<|fc (dV 0)<|fc (dC<|.int k) ff) ff) (fe 0) gk te) ff) env zV=.val (.d<|.tup ds) (pt bx n q):=by
 have sz:=bC;let#[r,q1,t,r0,r1]:=bu.nF h p k k0 zb;let#[j,rfl]:=IV r0
 let#[ds,q,e1,e2,e3]:=G9 (g:=fe 0) (λe=>∃ w,e=[w,xB n]) P (fO 0<|1+j) _ q1 [] #[ah,rfl] (by
  intro w _ env p ⟨w0,je⟩;let#[d,q,e,m]:=ht w p;show#[[ae w,xB n],by simp[je],#[_,rfl],d,q,e,m]) (by simp[fO];lia)
 have n5:ds.length=1+j:=by rw[e2];simp[fO]
 simp[u9]at e1;refine#[ds,q,e3,by lia,by lia,λ{env} he=>?_];have rg:=mP (fg (ks:=ff) (fH (g:=fP) (m:=dC<|.int 1) zj (t (env:=env) he (m:=dC<|.int k) zj) zj) zj) zb;rw[show (1+(j:Int)).toNat=1+j by lia]at rg;show iF (r:=.tup ds) [.lst ds] (fg (gO rg (by simp[Aj,Ak,Bo,he,bS,id]) e1) zj) zj
theorem N4 (h:n<bx.length) (p:Int):∃ rs ks ps hd q,jd [.b n] zV=.val (.d za) (pt bx n q) /\ Hs rs ks ps hd:=by
 let#[rs,q1,hr,r1,r5,e1]:=Ji h p (te:=fj K1.fk 2<|fc (dV 1) zW) (P:=λd=>wi d 0 3=ag) (k:=5) zc zc (λw p=>by
  let#[r,q,t,a,b]:=bu.nF h p 4 zc zc;show#[.int r,q,t zj zj,by simp[wi];lia])
 let#[ks,q2,hk,k1,k4,e2]:=Ji h q1 (te:=fj K1.ij 1 zE) (k:=4) zc zc (λw p=>by
  let#[d,q,e,m]:=RV h p;show#[d,q,fM zj zj e,m])
 let#[ps,w',q3,e3,s3]:=N3 h (ae<|.d<|.tup rs) (ae<|.d<|.tup ks) ks.length 0 q2 [] ah zb #[.nil,(λp m=>nomatch m),aH _];rw[Q0]at s3;have pl:=s3.l;let#[qs,pq,so,e4]:=RW ps zb;let#[hd,q4,hh,e5]:=RX h q3 (ae<|.d<|.tup rs) (ae<|.d<|.tup ks) (xP ps) w';have hb:∀ p∈qs,0<=p.1 /\ p.1<p.2 /\ p.2<(ks.length):=λp m=>s3.b p<|pq.mem_iff.mp m;have lq:qs.length<=16:=by rw[pq.length_eq];lia
 refine#[rs,ks,qs,hd,q4,Fb ?_ (by rw[gq,gq];show aH _),#[by lia,by lia,by lia,by lia,λp m=>(hb p m).2.1,by lia,?_]]
 .have sz:=bC;show qS (e1 zj)<|qS (e2 zj)<|qS (lh [] zj<|dR _)<|(fA<|(iB<|C3 (env:=[xB n,ae<|.d<|.tup rs,ae<|.d<|.tup ks,xP<|[],ah]) (bx:=pt bx n q2) (k:=ks.length) (m:=fc (dN af cC zM) ff) (rfl) zb).trans (by unfold fO;rw[List.range_eq_range'];show e3)).trans<|fS<|gH [.tup rs,.tup ks,.tup<|qs.map dP,hd] (fg zj<|fg zj<|fg (iF (r:=.tup<|qs.map dP) [.lst<|qs.map dP] (fg (iF (r:=.lst<|qs.map dP) [.lst zac] (fg zj zj) e4) zj) zj)<|fg e5 zj) (show (4:Nat)<=sizeLine by lia)
 .have a:apart (ks.length:Int) (.tup<|qs.map dP)=ag:=by
   have b1:(qs.map dP).all (yL (ks.length:Int))=ag:=by
    rw[vZ,bR];intro p m;have:=hb p m;simp[yL,tl];lia
   change (((qs.map dP).all<|yL (ks.length:Int))&&vK ((qs.map dP).filterMap ZI))=ag;rw[G5,b1,(Ja so<|pq.nodup_iff.mpr s3.nd)];rfl
  have aiZ:rooms (.tup rs)=ag:=by simp[rooms,tl,bR.mpr hr];lia
  have rD:kinds (.tup ks)=ag:=by simp[kinds,tl,bR.mpr hk];lia
  simp[house,lenOf,aiZ,rD,a,hh,abf]
theorem BD {α:Type}:∀ {l:List α}{c:Nat}(h:c<l.length),(l[c]::l.eraseIdx c).Perm l
 |a::l,0,_=>.refl _
 |a::l,c+1,h=>(List.Perm.swap _ _ _).trans<|(BD<|Nat.lt_of_succ_lt_succ h).cons a
abbrev ai0:DE W:=wV (dV 2)<|fj K1.fk 2<|fc (dV 1)<|fc (dN af cC zM) ff
theorem Gm (h:n<bx.length):∀ (l:List W) (left:List D) (w:Option W) (p:Int) (acc:List D),left.length=l.length->left.length<=1000->acc.length+l.length<=sizeLine ->
 ∃ ds q,bL (fe 0) gk ai0 l [w,xB n,xB bx.length] (pt (bx++[.lst left]) n p) acc=.val (acc++ds) (pt (bx++[.lst []]) n q) /\ ds.Perm left:=by
 intro l_;induction l_ with
 |nil=>
   intro left w p acc hl _ _;cases left with
   |nil=>show#[[],p,by simp[bL],.refl _]
   |cons a b=>simp at hl
 |cons u l aD=>
   intro left w p acc hl ak6 z;have b0:=jB (p:=p) (x:=.lst left) h;have ln:dN af cC zM [ae u,xB n,ae _] _=.val (.d<|.int left.length) (pt (bx++[.lst left]) n p):=Vq zj b0;have lp:0<left.length:=by rw[hl];simp
   let#[r,q,t,r0,r1]:=Gi zo (i:=1) zj ln zb zb;let#[c,rfl]:=IV r0;have hc:c<left.length:=by lia
   have pv:=RZ (m:=dV 2) zj b0 t (jB (p:=q) (x:=.lst left) h) #[by lia,by lia] (R6 hc)<|cX hc;rw[C6 h]at pv;have z':acc.length<sizeLine:=by simp[bw]at z;lia
   have el:(left.eraseIdx c).length=l.length:=by rw[Xd hc,hl];simp
   let#[ds,q',e3,e4]:=aD (left.eraseIdx c) (ae u) q (acc++[left[c]]) el (by rw[el];simp at hl;lia) (by simp[bQ,bw,qw]at z ⊢;lia);refine#[left[c]::ds,q',?_,((e4.cons _).trans<|BD hc)]
   .have g0:fe 0 u [w,xB n,xB bx.length] (pt (bx++[.lst left]) n p)=ae ([ae u,xB n,xB bx.length],pt (bx++[.lst left]) n p):=rfl;erw[bL,g0,GZ,Bm,pv,if_pos z',e3];simp
theorem Sf (h:n<bx.length) (p:Int) (l:List D) (hl:l.length<=1000):∃ ds q,j6 [.b n,.d<|.lst l] zV=.val (.d<|.lst ds) (pt bx n q) /\ ds.Perm l:=by
 have sz:=bC;let#[ds,q,e1,e2]:=Gm h (l.map W.d) l ah p [] zg hl zo;have s1:fJ (dN ag wK zE) (fe 2) [xB n,ae<|.d<|.lst l,ah] zV=.nx [xB n,ae<|.d<|.lst l,xB bx.length] (pt (bx++[.lst l]) n p):=by
  have a:dN ag wK zE [xB n,ae<|.d<|.lst l,ah] zV=.val (.b bx.length) (pt (bx++[.lst l]) n p):=by
   rw[Ll,fg rfl rfl,fQ,<-lu h];have:=gq (bx:=bx) (n:=n) (p:=p);change O.val (W.b (pt bx n p).length) _=_;rw[this]
  show gN a
 have M:lM [xB n,ae<|.d<|.lst l,ah] zV=.rt (.d<|.lst ds) (pt (bx++[.lst []]) n q):=by
  unfold lM;show(fA s1).trans (fS<|gO (gG zj) zj e1)
 refine#[ds,q,(mT M).trans ?_,e2];rw[gq,By h]
theorem Gn {i:Nat}(h:env[i]?=ae (ae<|.d za)):dN af cC (fc (d2 af aA (dV i) zh) ff) env B=.val (.d<|.int (rs.length:Int)) B:=iF (r:=.old<|.int<|rs.length) [.tup rs] (fg (fH (r:=.old<|.tup rs) (by unfold dV;rw[h]) zj zj) zj)<|rfl
theorem VC {i:Nat}(h:env[i]?=ae (ae<|.d za)):dN af cC (fc (d2 af aA (dV i) zd) ff) env B=.val (.d<|.int (ks.length:Int)) B:=iF (r:=.old<|.int<|ks.length) [.tup ks] (fg (fH (r:=.old<|.tup ks) (by unfold dV;rw[h]) zj zj) zj)<|rfl
theorem Sg (h:n<bx.length) (H:Hs rs ks ps hd) (p near:Int) (h0:0<near) (h1:near<=40):∃ g q,g6 [.b n,.d za,.d<|.int near] zV=.val (.d<|enc g) (pt bx n q) /\ rZ rs.length ks.length g /\ b9 g<near:=by
 have sz:=bC;have r1:=H.r1;have r5:=H.r5;have k1:=H.k1;have k4:=H.k4;let#[a,q1,t1,a0,a1]:=nF h p near h0 zb;let#[v,q2,t2,mv]:=aeA h q1 [3,10] (fc zB<|fc (dC<|.int 10) ff) (λ_ _=>rfl) zj (by decide) zc;have hv:0<v /\ v<=10:=by simp at mv;lia
 let#[l,q3,t3,l0,l1]:=nF h q2 v hv.1 zb;let#[r,q4,t4,c0,c1]:=nF h q3 rs.length zb zb;let#[w,q5,t5,w0,w1]:=nF h q4 5 zc zc;have fin:∀ {g:Pg}{q:Int},Bj [xB n,ae<|.d za,xN near,ah,ah,ah,ah,ah] zV=.rt (.d<|enc g) (pt bx n q)->g6 [.b n,.d za,.d<|.int near] zV=.val (.d<|enc g) (pt bx n q):=λe=>Fb e (by rw[gq,gq];show aH _);have tz:∀ {e:aP},e[6]?=ae (xN w)->dB (d2 af bf (dV 6) zh) e (pt bx n q5)=.val (decide (w=0)) (pt bx n q5):=λe=>gm<|fH (r:=.old<|.bl<|decide (w=0)) (by rw[jE,e]) zj<|rfl;have tt:∀ {e:aP},e[6]?=ae (xN w)->dB (d2 af dt (dV 6) zB) e (pt bx n q5)=.val (decide (w<3)) (pt bx n q5):=λe=>gm<|fH (r:=.old<|.bl<|decide (w<3)) (by rw[jE,e]) zj<|rfl;by_cases aeG:w=0
 .rw[decide_eq_true aeG]at tz;show#[.out a l,q5,fin<|(fA<|oG (t1 zj zj)<|t3 zj<|t2 _ _ zj).trans<|(fA<|oG (t4 zj<|Gn zj)<|t5 zj zj).trans<|qR (tz zj)<|gH [.int a,.str "out",.int l] zj zo,#[a0,l0,by lia],a1]
 .rw[decide_eq_false aeG]at tz;by_cases c2:w<3
  .rw[decide_eq_true c2]at tt;show#[.to a l r,q5,fin<|(fA<|oG (t1 zj zj)<|t3 zj<|t2 _ _ zj).trans<|(fA<|oG (t4 zj<|Gn zj)<|t5 zj zj).trans<|qF (tz zj)<|qR (tt zj)<|gH [.int a,.str "to",.int l,.int r] zj zo,#[a0,#[l0,by lia],c0,c1],a1]
  .rw[decide_eq_false c2]at tt;let#[x,q6,t6,x0,x1]:=nF h q5 9 zc zc;let#[y,q7,t7,y0,y1]:=nF h q6 40 zc zc;let#[c,q8,t8,e0,e1]:=nF h q7 4 zc zc;let#[d,ed,md]:=mj (l:=[D.int 0,.int x,.int y,.int 999]) e0 (by simpa using e1);obtain⟨z,rfl,z0,z1⟩:∃ z,d=.int z /\ 0<=z /\ z<=999:=by
    simp at md;rcases md with rfl|rfl|rfl|rfl<;>show#[_,rfl,by lia,by lia]
   let#[k,q9,t9,f0,f1]:=nF h q8 ks.length zb zb;let#[u,qa,ta,u0,u1]:=nF h q9 100 zc zc;show#[.aZ a l k r z u,qa,fin<|(fA<|oG (t1 zj zj)<|t3 zj<|t2 _ _ zj).trans<|(fA<|oG (t4 zj<|Gn zj)<|t5 zj zj).trans<|qF (tz zj)<|qF (tt zj)<|qS (fH (r:=.old<|.int z) (lh [.int 0,.int x,.int y,.int 999] (fg zj<|fg (t6 zj zj)<|fg (t7 zj zj)<|fg zj zj) zo) (t8 zj zj) (by erw[aA,ed,ue]))<|fS<|gH [.int a,.str "in",.int l,.int k,.int r,.int z,.int u] (fg zj<|fg zj<|fg zj<|fg (t9 zj<|VC zj)<|fg zj<|fg zj<|fg (ta zj zj) zj) zo,#[a0,#[l0,by lia],#[f0,f1],#[c0,c1],#[z0,z1],u0,by lia],a1]
noncomputable def qI:Pg->List Key
 |.aZ h l k r p w=>[.inl h,.inr "in",.inl l,.inl k,.inl r,.inl p,.inl w]
 |.to h l r=>[.inl h,.inr "to",.inl l,.inl r]
 |.out h l=>[.inl h,.inr "out",.inl l]
def ke (g:Pg):List Key×D:=(qI g,.bl ag)
theorem Dd (g:Pg):D.tup ((qI g).map Qe)=enc g:=by cases g<;>rfl
theorem N5 (g:Pg):∃ l,enc g=.tup l /\ yC l=ae (qI g):=by cases g<;>show#[_,rfl,rfl]
theorem N6 {a b:Pg}(h:qI a=qI b):a=b:=RU (by rw[<-Dd,<-Dd,h])
theorem Sh (gs:List Pg):Qf (gs.map ke)=gs.map enc:=by
 unfold Qf;rw[bO];show xt λg _=>Dd g
theorem VD {g:Pg}:∃ g2:List Pg,yG (gs.map ke) (qI g) (.bl ag)=g2.map ke /\ (gs.Nodup->g2.Nodup) /\ (∀ x∈g2,x∈gs \/ x=g) /\ g2.length<=gs.length+1:=by
 by_cases m:g∈gs
 .refine#[gs,?_,id,λx m=>.inl m,by lia];unfold yG;rw[if_pos]
  .rw[bO];refine xt λx _=>?_;change (if qI x=qI g then (qI x,D.bl ag) else ke x)=ke x;split<;>rfl
  .show ud.mpr #[ke g,vb m,by simp[ke]]
 .refine#[gs++[g],?_,λnd=>?_,λx mx=>?_,by simp]
  .unfold yG;rw[if_neg]
   .simp[ke]
   .intro z;let#[x,mx,e]:=ud.mp z;let#[y,my,rfl]:=bE.mp mx;show m<|N6 (of_decide_eq_true e)▸my
  .rw[sH];show#[nd,by simp,λa ma b mb=>by cases ku.mp mb;show λz=>m<|z▸ma]
  .rcases List.mem_append.mp mx with z|z
   .show .inl z
   .show .inr<|ku.mp z
abbrev gB:az:=zQ
noncomputable abbrev gE (n b:Nat) (H:D) (mo near:Int) (x5 x6:Option W):aP:=[ae<|.b n,ae<|.d H,ae<|.d<|.int mo,ae<|.d<|.int near,ae<|.b b,x5,x6]
def Gd (nr nk:Nat) (near:Int) (g:Pg):zk:=rZ nr nk g /\ b9 g<near
theorem YE (g:Pg) (near:Int) (h:env[6]?=ae zL):dB (d2 af bf (d2 af aA (dV 6) zd)<|dC<|.str "in") env B=.val (decide (cW g="in")) B:=by
 refine gm<|fH ?_ zj<|eq_str _ _;cases g<;>simp[h,enc,dO,cP,kQ,aA,bD,cy,cW]
theorem Si {h' l k r p w:Int}{mo near:Int}(x5:Option W) {H:D}{b:Nat}:fJ (d2 af fP (gf<|fc (d2 af pK (d2 af aA (dV 6) zh) zB) ff)<|qi af (dV 6) (qh zd) qC) (fe 6) (gE n b H mo near x5<|ae<|.d<|enc<|.aZ h' l k r p w) B=.nx (gE n b H mo near x5<|ae<|.d<|enc<|.aZ (h' / 3) l k r p w) B:=by
 have c:vp h' 3:=by unfold vp;lia
 simp[enc,dO,cP,kQ,aA,bD,cy,pK,c,tJ,DL.cutD,HT.a7,fP,bC]
theorem YF {mo:Int}(h:n<bx.length) (H:Hs rs ks ps hd) (near:Int) (h0:0<near) (h1:near<=40) (nd:gs.Nodup) (ok:∀ g∈gs,Gd rs.length ks.length near g) (hl:gs.length<=100) (q:Int) (x5 x6:Option W) :
 ∃ (g2:List Pg) (q':Int) (y6:Option W),gB (gE n bx.length za mo near x5 x6) (pt zZ n q)=.nx (gE n bx.length za mo near x5 y6) (pt (bx++[.dT<|g2.map ke]) n q') /\ g2.Nodup /\ (∀ g∈g2,Gd rs.length ks.length near g) /\ g2.length<=gs.length+1:=by
 have sz:=bC;have hn:n<(bx++[Bx.dT<|gs.map ke]).length:=by simp;lia
 let#[g,q1,e,og,hg]:=Sg hn H q near h0 h1;have s1:fJ (fj aN.g6 3<|fc (dV 0)<|fc (dV 1) zam) (fe 6) (gE n bx.length za mo near x5 x6) (pt zZ n q)=.nx (gE n bx.length za mo near x5 zL) (pt zZ n q1):=
  gN (fM zj zj e)
 have pu:∀ (g:Pg) (q2:Int),Gd rs.length ks.length near g->∃ g2:List Pg,yH (dV 4) (dV 6) (dC<|.bl ag) (gE n bx.length za mo near x5 zL) (pt zZ n q2)=.nx (gE n bx.length za mo near x5 zL) (pt (bx++[.dT<|g2.map ke]) n q2) /\ g2.Nodup /\ (∀ g∈g2,Gd rs.length ks.length near g) /\ g2.length<=gs.length+1:=λg q2 og=>by
  let#[g2,e2,n2,m2,l2]:=VD;let#[l,el,kl]:=N5 g;refine#[g2,?_,n2 nd,λx mx=>(m2 x mx).elim (ok x) λz=>z▸og,l2];unfold yH;have v6:dV 6 (gE n bx.length za mo near x5 zL) (pt zZ n q2)=.val (.d<|.tup l) (pt zZ n q2):=by rw[<-el];rfl
  have v4:dV 4 (gE n bx.length za mo near x5 zL) (pt zZ n q2)=.val (.b bx.length) (pt zZ n q2):=rfl;rw[WH,iM,v4,iM,v6,iM];erw[(jB (p:=q2) (x:=.dT<|gs.map ke) h),kl];rw[if_pos zo,e2,C6 h]
 have tg:=YE g near (env:=gE n bx.length za mo near x5 zL) (B:=pt zZ n q1) zj;by_cases c:cW g="in"
 .rw[decide_eq_true c]at tg;let#[r,q2,t,r0,r1]:=aiT hn q1 (env:=gE n bx.length za mo near x5 zL) (i:=0) zj 3 zc zc;have tt:=jF tg<|gm<|fH (g:=kP) (r:=.old<|.bl<|decide (0<r)) (x:=.int r) (y:=.int 0) (m:=fj K1.fk 2<|fc (dV 0)<|fc zB ff) (k:=dC<|.int 0) t zj<|rfl;by_cases d:0<r
  .rw[decide_eq_true d]at tt;cases g with
   |aZ h' l k r' p w=>
     let#[o1,o2]:=og;have yk:h'<near:=hg;let#[g2,e2,n2,m2,l2]:=pu (.aZ (h' / 3) l k r' p w) q2 #[#[by lia,o2],by change h' / 3<near;lia];show#[g2,q2,_,(fA s1).trans<|(fA<|(i0 tt).trans<|Si x5).trans e2,n2,m2,l2]
   |to _ _ _=>show absurd c (by change ¬ ("to":Str)="in";rw[Lq];show id)
   |out _ _=>show absurd c (by change ¬ ("out":Str)="in";rw[NR];show id)
  .rw[decide_eq_false d]at tt;let#[g2,e2,n2,m2,l2]:=pu g q2 #[og,hg];show#[g2,q2,_,(fA s1).trans<|(fA<|(gz tt).trans zj).trans e2,n2,m2,l2]
 .rw[decide_eq_false c]at tg;let#[g2,e2,n2,m2,l2]:=pu g q1 #[og,hg];show#[g2,q1,_,(fA s1).trans<|(fA<|(gz<|lS tg).trans zj).trans e2,n2,m2,l2]
theorem N7 {mo:Int}(h:n<bx.length) (H:Hs rs ks ps hd) (p near:Int) (h0:0<near) (h1:near<=40) (m0:0<=mo) (m1:mo<=16):∃ (gs:List Pg) (q:Int),jf [.b n,.d za,.d<|.int mo,.d<|.int near] zV=.val (.d zx) (pt bx n q) /\ gs.Nodup /\ (∀ g∈gs,Gd rs.length ks.length near g) /\ gs.length<=16:=by
 have sz:=bC;have hn:n<(bx++[Bx.dT []]).length:=by simp;lia
 have s1:fJ yD (fe 4) [xB n,ae<|.d za,xN mo,xN near,ah,ah,ah] zV=.nx (gE n bx.length za mo near ah ah) (pt (bx++[.dT<|([]).map ke]) n p):=by
  have:yD [xB n,ae<|.d za,xN mo,xN near,ah,ah,ah] zV=.val (.b bx.length) (pt (bx++[.dT []]) n p):=by
   unfold yD;rw[gq,lu h]
  show gN this
 let#[c,q1,t,c0,c1]:=Gi hn (env:=gE n bx.length za mo near ah ah) (i:=0) (m:=d2 af fP (dV 2) zd) zj (fH (r:=.old<|.int<|mo+1) zj zj<|rfl) zb zb;let#[c,rfl]:=IV c0;have rg:dW (fc (fj K1.fk 2<|fc (dV 0)<|fc (d2 af fP (dV 2) zd) ff) ff) (gE n bx.length za mo near ah ah) (pt (bx++[.dT []]) n p)=.val (fO 0 c) (pt (bx++[.dT []]) n q1):=by
  rw[mP (fg t rfl) zb,pC]
 let#[aQ,bx',e,gs,q,w5,w6,rfl,rfl,nd,ok,l]:=lj (g:=fe 5) (body:=gB) (λi env b=>∃ (gs:List Pg) (q:Int) (w5 w6:Option W),env=gE n bx.length za mo near w5 w6 /\ b=pt zZ n q /\ gs.Nodup /\ (∀ g∈gs,Gd rs.length ks.length near g) /\ gs.length<=i) (fO 0 c) 0 (gE n bx.length za mo near ah ah) (pt (bx++[.dT<|([]:List Pg).map ke]) n q1) #[[],q1,ah,ah,rfl,rfl,.nil,(λg m=>nomatch m),aH _] (by
  rintro i w env b hw ⟨gs,q,w5,w6,rfl,rfl,nd,ok,l⟩;let#[_,hi]:=Bz hw;let#[g2,q',y6,e2,n2,m2,l2]:=YF h H near h0 h1 nd ok zb q (ae w) w6;show#[gE n bx.length za mo near (ae w) w6,_,gE n bx.length za mo near (ae w) y6,_,rfl,e2,g2,q',_,y6,rfl,rfl,n2,m2,by lia])
 have lr:(fO 0 c).length=c:=by simp[fO]
 rw[lr]at l;let#[ds,q2,e3,pm]:=Sf (bx:=bx++[.dT<|gs.map ke]) (n:=n) zo q (gs.map enc) zo;let#[g2,rfl,pg]:=K4 pm zj;have lt:HK af (dV 4) (gE n bx.length za mo near w5 w6) (pt zZ n q)=.val (.d zx) (pt zZ n q):=by
  have v4:dV 4 (gE n bx.length za mo near w5 w6) (pt zZ n q)=.val (.b bx.length) (pt zZ n q):=rfl;unfold HK;rw[v4,fQ];erw[(jB (p:=q) (x:=.dT<|gs.map ke) h),Sh];rfl
 refine#[g2,q2,?_,pg.nodup_iff.mpr nd,λg m=>ok g<|pg.mem_iff.mp m,by rw[pg.length_eq];lia];refine(mT (ws:=[.b n,.d za,.d<|.int mo,.d<|.int near])<|(fA s1).trans<|(fA<|(iB rg).trans e).trans<|fS<|fM (l:=[.b n,.d zx]) (fg zj<|fg lt zj) zj e3).trans ?_;rw[gq,By h]
end aN
namespace cw
open L2 L2.DL K1 dA bu aN
def pre (h:Int) (ps:Al):Al->Al->List Pg->Al×Al
 |K,R,[]=>(K,R)
 |K,R,g::gs=>if b9 g<=h then pre h ps (yO ps K R g) (vN ps K R g) gs else (K,R)
abbrev yP (gs:List Pg):zk:=gs.Pairwise λa b=>b9 a<=b9 b
theorem VE (r:rY gs):yP gs:=by
 refine r.imp λ{a b} h=>?_;have:∀ {l m}{i j},HT.cD (.i i::l) (.i j::m)=ag->i<=j:=λ{l m i j} h=>by
  unfold HT.cD at h;split at h
  .ext e;cases e;show ab2 _
  .have:decide _=ag:=h;simp at this;lia
 cases a<;>cases b<;>show this h
theorem N8 {h:Int}{ps K R:Al}:∀ {gs:List Pg},(∀ g∈gs,¬ b9 g<=h)->pre h ps K R gs=(K,R)
 |[],_=>rfl
 |g::gs,l=>by unfold pre;rw[if_neg<|l g<|bN ..]
def taken (ps:Al):Al->Al->List Pg->List Pg
 |_,_,[]=>[]
 |K,R,g::gs=>if word ps K R g="takes" then g::taken ps (stK K g) (se R g) gs else taken ps K R gs
abbrev yQ:az:=(fq (aR (dB<|d2 af kP (d2 af aA (dV 3) zh)<|dV 1) KC aY)<|aR (dB<|kF af<|dV 5) (uN (dV 2)<|d2 af aA (dV 3) zP)<|rR (dV 2) (d2 af aA (dV 3) zP)<|dV 5)
abbrev tX (q:Pg×D):D:=.tup [enc q.1,q.2,eS q.1]
abbrev g3:DG:=gj 3<|fm (fe 3)<|fm (fe 4)<|fm (fe 5) gn
theorem ZP (g:Pg) (h:env[3]?=ae zL):d2 af aA (dV 3) zP env B=.val (.d<|.int<|bM g) B:=by
 cases g<;>simp[h,enc,dO,cP,kQ,aA,bD,cy,bM]
theorem VF {a9 cK:aP}{ax:List Bx}{w:W}{l:List W}{g:DG}{body:az}(h1:g w env bx=ae (a9,bx1)) (h2:body a9 bx1=.bk cK ax):cq g body (w::l) env bx=.nx cK ax:=by
 rw[cq,h1];simp[h2]
theorem VG {a b:az}{a9:aP}(h:a env bx=.bk a9 bx1):fq a b env bx=.bk a9 bx1:=by rw[jv,h]
section
variable {ps:Al} {h:Int} {x0:Option W}
theorem VH {K R:Al}(J:kG K R n) (hn:n<=100) {g:Pg}(c:word ps K R g="takes") (t:b9 g<=h) (x:D) :
 yQ [x0,xN h,xB bx.length,ae<|.d<|enc g,ae<|.d x,ae<|.d<|eS g] (bx++[.aG<|bB R])=.nx [x0,xN h,xB bx.length,ae<|.d<|enc g,ae<|.d x,ae<|.d<|eS g] (bx++[.aG<|bB<|se R g]):=by
 have lr:=J.lr;refine(fA<|(gz<|gm<|fH (r:=.old<|.bl af) (W1 g zj) zj (by simp[kP];lia)).trans zj).trans ?_;have b0:(bx++[Bx.aG<|bB R])[bx.length]?=ae (.aG<|bB R):=by simp
 have st:∀ L:Al,(bx++[Bx.aG<|bB R]).set bx.length (.aG<|bB L)=bx++[.aG<|bB L]:=λL=>by simp
 cases g with
 |aZ h' l k r p w=>
   have p2:=Fh (m:=dV 2) (v:=dV 5) (env:=[x0,xN h,xB bx.length,ae<|.d<|enc<|.aZ h' l k r p w,ae<|.d x,ae<|.d<|eS<|.aZ h' l k r p w]) zj zj (ZP (.aZ h' l k r p w) zj) b0 zb;rw[st]at p2;show(gz zj).trans p2
 |to h' l r=>
   have p2:=Fh (L:=R) (m:=dV 2) (k:=d2 af aA (dV 3) zP) (v:=dV 5) (x:=r) (l:=l) (i:=bx.length) (B:=bx++[.aG<|bB R]) (env:=[x0,xN h,xB bx.length,ae<|.d<|enc<|.to h' l r,ae<|.d x,ae<|.d<|eS<|.to h' l r]) zj zj (ZP (.to h' l r) zj) b0 zb;rw[st]at p2;show(gz (t:=dB<|kF af<|dV 5) zj).trans p2
 |out h' l=>
   have p2:=Tp (L:=R) (m:=dV 2) (k:=d2 af aA (dV 3) zP) (l:=l) (i:=bx.length) (B:=bx++[.aG<|bB R]) (env:=[x0,xN h,xB bx.length,ae<|.d<|enc<|.out h' l,ae<|.d x,ae<|.d<|eS<|.out h' l]) zj (ZP (.out h' l) zj) b0<|Fi c;rw[st]at p2;show(i0 (t:=dB<|kF af<|dV 5) zj).trans p2
theorem Sj:∀ (gs:List Pg) (K R:Al) (n:Nat) (S:List<|Pg×D) (y3 y4 y5:Option W),yP gs->kG K R n->n+gs.length<=100->S.map (·.1)=taken ps K R gs ->
 ∃ z3 z4 z5,cq g3 yQ ((S.map tX).map W.d) [x0,xN h,xB bx.length,y3,y4,y5] (bx++[.aG<|bB R])=.nx [x0,xN h,xB bx.length,z3,z4,z5] (bx++[.aG<|bB (pre h ps K R gs).2]):=by
 intro l_;induction l_ with
 |nil=>
   intro K R n S y3 y4 y5 _ _ _ e;have:=List.map_eq_nil_iff.mp e;subst this;show#[y3,y4,y5,rfl]
 |cons g gs aD=>
   intro K R n S y3 y4 y5 s J hn e;let#[s1,s2]:=List.pairwise_cons.mp s;rw[bw]at hn;by_cases c:word ps K R g="takes"
   .rw[show taken ps K R (g::gs)=g::taken ps _ _ gs from if_pos c]at e;cases S with
    |nil=>cases e
    |cons q S=>
      let#[q1,x]:=q;rw[aU]at e;injection e with e1 e2;subst e1;have g1:g3 (W.d<|tX (q1,x)) [x0,ae _,ae _,y3,y4,y5] _=ae ([x0,xN h,xB bx.length,ae _,ae<|.d x,ae<|.d<|eS q1],bx++[.aG<|bB R]):=rfl;by_cases t:b9 q1<=h
      .let#[z3,z4,z5,ih]:=aD (stK K q1) (se R q1) (n+1) S (ae<|.d<|enc q1) (ae<|.d x) (ae<|.d<|eS q1) s2 (J.step c) zb e2;refine#[z3,z4,z5,?_];rw[aU,aU,iO g1<|VH J zb c t x,ih,show pre h ps K R (q1::gs)=pre h ps (yO ps K R q1) (vN ps K R q1) gs from if_pos t,(Dc c).1,(Dc c).2]
      .refine#[ae<|.d<|enc q1,ae<|.d x,ae<|.d<|eS q1,?_];have bk:yQ [x0,xN h,xB bx.length,ae<|.d<|enc q1,ae<|.d x,ae<|.d<|eS q1] (bx++[.aG<|bB R])=.bk [x0,xN h,xB bx.length,ae<|.d<|enc q1,ae<|.d x,ae<|.d<|eS q1] (bx++[.aG<|bB R]):=VG<|(i0<|gm<|fH (r:=.old<|.bl ag) (W1 q1 zj) zj (by simp[kP];lia)).trans zj;rw[aU,aU,VF g1 bk,show pre h ps K R (q1::gs)=(K,R) from if_neg t]
   .rw[show taken ps K R (g::gs)=taken ps K R gs from if_neg c]at e;let#[z3,z4,z5,ih]:=aD K R n S y3 y4 y5 s2 J zb e;refine#[z3,z4,z5,ih.trans ?_];by_cases t:b9 g<=h
    .rw[show pre h ps K R (g::gs)=pre h ps (yO ps K R g) (vN ps K R g) gs from if_pos t,(Jh c).1,(Jh c).2]
    .rw[show pre h ps K R (g::gs)=(K,R) from if_neg t,N8 λg' m=>by have:=s1 g' m;lia]
end
theorem W2 {i k:Nat}{l:List (Key×D)}(h:env[k]?=ae (xB i)) (hb:bx[i]?=ae (.aG l)):uE k env bx=.val (.d<|.aG l) (bx.set i .dead):=by
 unfold uE;simp[h,hb]
theorem Jj {h:Int}{S:List (Pg×D)}(s:yP qs) (hl:qs.length<=16) (e:S.map (·.1)=taken ps [] [] qs) :
 gR [.d<|.lst<|S.map tX,.d<|.int h] bx=.val zas bx:=by
 let#[z3,z4,z5,f]:=Sj qs [] [] 0 S ah ah ah s ZN zb e;have s1:fJ (eO ag []) (fe 2) [ae<|.d<|.lst<|S.map tX,xN h,ah,ah,ah,ah] bx=.nx [ae<|.d<|.lst<|S.map tX,xN h,xB bx.length,ah,ah,ah] (bx++[.aG<|bB []]):=by
  have:eO ag [] [ae<|.d<|.lst<|S.map tX,xN h,ah,ah,ah,ah] bx=.val (.b bx.length) (bx++[.aG<|bB []]):=rfl;show gN this
 have b:lO [ae<|.d<|.lst<|S.map tX,xN h,ah,ah,ah,ah] bx=.rt zas ((bx++[Bx.aG<|bB (pre h ps [] [] qs).2]).set bx.length .dead):=
  (fA s1).trans ((fA<|(iB<|gG zj).trans f).trans<|fS<|W2 zj zg)
 refine(mT b).trans ?_;simp
theorem ai1:∀ (T:List<|Pg×Str×D×D) (w0 w1 w2 w3:Option W) (acc:List D),acc.length+T.length<=1000 ->
 bL g4 (dB<|d2 af bf (dV 1)<|dC<|.str "takes") (gf<|fc (dV 0)<|fc (dV 2) zam) ((T.map tq).map W.d) [w0,w1,w2,w3] B acc=.val (acc++(T.filter λx=>decide (x.2.1=("takes":Str))).map λx=>.tup [enc x.1,x.2.2.1,x.2.2.2]) B:=by
 intro l_;induction l_ with
 |nil=>(intro _ _ _ _ acc _;simp[bL])
 |cons x T aD=>
   intro w0 w1 w2 w3 acc hl;have z:sizeLine=16777216:=bC;rw[bw]at hl;have e0:g4 (W.d<|tq x) [w0,w1,w2,w3] B=ae ([ae _,ae _,ae _,ae _],B):=rfl;have t:dB (d2 af bf (dV 1)<|dC<|.str "takes") [ae<|.d<|enc x.1,ae<|.d<|.str x.2.1,ae<|.d x.2.2.1,ae<|.d x.2.2.2] B=.val (decide (x.2.1="takes")) B:=gm<|fH zj zj<|eq_str _ _;have e1:gf (fc (dV 0)<|fc (dV 2) zam) [ae<|.d<|enc x.1,ae<|.d<|.str x.2.1,ae<|.d x.2.2.1,ae<|.d x.2.2.2] B=.val (.d<|.tup [enc x.1,x.2.2.1,x.2.2.2]) B:=gH [enc x.1,x.2.2.1,x.2.2.2] zj zo;by_cases c:x.2.1=("takes")
   .have ih:=aD (ae<|.d<|enc x.1) (ae<|.d<|.str x.2.1) (ae<|.d x.2.2.1) (ae<|.d x.2.2.2) (acc++[.tup [enc x.1,x.2.2.1,x.2.2.2]]) zo;rw[decide_eq_true c]at t;erw[aU,bL,e0,t,Bm,e1];rw[if_pos zb,ih,xC (by simpa using c)];simp
   .rw[decide_eq_false c]at t;erw[aU,bL,e0,t,Bm];rw[(aD (ae<|.d<|enc x.1) (ae<|.d<|.str x.2.1) (ae<|.d x.2.2.1) (ae<|.d x.2.2.2) acc zb),xA (by simpa using c)]
end cw
namespace bj
noncomputable abbrev Sx:=Int×Option Int×Int
noncomputable def yR (f:Int->Int):List Int->List Sx
 |[]=>[]
 |[b]=>[(b,ah,f b)]
 |b::c::r=>(b,ae c,f b)::yR f (c::r)
noncomputable def oX (h:Int):Option Int->Int
 |none=>h
 |some e=>min e h
def aeH (h:Int):Int->List Sx->Int
 |r,[]=>r
 |r,q::t=>aeH h (r+q.2.2*max 0 (oX h q.2.1-q.1)) t
noncomputable def xc:Int->List Sx->Option Int
 |_,[]=>ah
 |x,q::t=>if 0<q.2.2 then (match q.2.1 with
  |none=>ae<|q.1+(x+q.2.2-1) / q.2.2
  |some e=>if q.1+(x+q.2.2-1) / q.2.2<=e then ae (q.1+(x+q.2.2-1) / q.2.2) else xc (x-q.2.2*(e-q.1)) t) else xc x t
open L2 L2.DL K2 aN cw
noncomputable def ZQ:Pg->List Int
 |.aZ _ _ _ r _ _=>[r]
 |.to _ _ r=>[r]
 |.out ..=>[]
def aeI (R:Al) (g:Pg):Al:=(ZQ g++(look R<|bM g).toList).map λr=>(b9 g,r)
def ops (ps:Al):Al->Al->List Pg->Al
 |_,_,[]=>[]
 |K,R,g::gs=>if word ps K R g="takes" then aeI R g++ops ps (stK K g) (se R g) gs else ops ps K R gs
def aeJ (rl:List Int) (hold:Int) (outs:Al) (rt:List Int) (D:Al) (h:Int):Option Int->Int
 |none=>0
 |some r=>rt.getD (max 0<|kX (rl.getD r.toNat 0) hold h outs-if (h,r)∈D then 1 else 0).toNat 0
abbrev yQ (ps:Al) (qs:List Pg) (l h:Int):Option Int:=look (pre h ps [] [] qs).2 l
abbrev uO (rl:List Int) (hold:Int) (outs:Al) (rt:List Int) (ps:Al) (qs:List Pg) (l h:Int):Int:=aeJ rl hold outs rt (ops ps [] [] qs) h<|yQ ps qs l h
abbrev chg (hold:Int) (outs:Al) (tk:List Pg):List Int:=(outs.map λp=>[p.1,p.2,p.1+1*hold,p.1+2*hold,p.1+3*hold]).flatten++(tk.map λg=>[b9 g,b9 g+1]).flatten
open K1
abbrev HR (R:Al) (g:Pg):D:=((look R<|bM g).map D.int).getD .aB
def qm (ps:Al):Al->Al->List Pg->List (Pg×Str×D×D)
 |_,_,[]=>[]
 |K,R,g::gs=>if word ps K R g="takes" then (g,word ps K R g,HR R g,eS g)::qm ps (stK K g) (se R g) gs else (g,word ps K R g,.aB,.aB)::qm ps K R gs
def sj (ps:Al):Al->Al->List Pg->List (Pg×D)
 |_,_,[]=>[]
 |K,R,g::gs=>if word ps K R g="takes" then (g,HR R g)::sj ps (stK K g) (se R g) gs else sj ps K R gs
theorem Cs {ps:Al}:∀ {gs:List Pg}{K R:Al},(sj ps K R gs).map (·.1)=taken ps K R gs:=by
 intro l_;induction l_ with
 |nil=>(intro _ _;show rfl)
 |cons g gs aD=>
   intro K R;unfold sj taken;split
   .rw[aU,aD]
   .show aD
theorem Sk {ps:Al}:∀ {gs:List Pg}{K R:Al},(qm ps K R gs).length=gs.length:=by
 intro l_;induction l_ with
 |nil=>(intro _ _;show rfl)
 |cons g gs aD=>
   intro K R;unfold qm;split<;>rw[bw,aD,bw]
theorem Sl {ps:Al}:∀ {gs:List Pg}{K R:Al},((qm ps K R gs).filter λx=>decide (x.2.1=("takes":Str))).map (λx=>D.tup [enc x.1,x.2.2.1,x.2.2.2])=(sj ps K R gs).map tX:=by
 intro l_;induction l_ with
 |nil=>(intro _ _;show rfl)
 |cons g gs aD=>
   intro K R;unfold qm sj;by_cases c:word ps K R g="takes"
   .rw[if_pos c,if_pos c,xC (by simpa using c),aU,aU,aD]
   .rw[if_neg c,if_neg c,xA (by simpa using c),aD]
section
variable {P:D} 
theorem Ls (h:Hs rs ks ps hd):∀ (gs:List Pg) (T:List<|Pg×Str×D×D) (K R:Al) (n:Nat) (x5 x6 x7:Option W),kG K R n->n+gs.length<=100->T.length+gs.length<=100 ->
 ∃ K' R' y5 y6 y7,cq (fe 5) rB ((gs.map enc).map W.d) (rE za P bx.length x5 x6 x7) (Bk bx T K R)=.nx (rE za P bx.length y5 y6 y7) (Bk bx (T++qm ps K R gs) K' R'):=by
 intro l_;induction l_ with
 |nil=>show λT K R n x5 x6 x7 _ _ _=>#[K,R,x5,x6,x7,by simp[cq,qm]]
 |cons g gs aD=>
   intro T K R n x5 x6 x7 J hn hT;rw[bw]at hn hT;have g1:fe 5 _ (rE _ P bx.length x5 x6 x7) _=ae (rE za P bx.length zL x6 x7,Bk bx T K R):=rfl;unfold qm;by_cases c:word ps K R g="takes"
   .let#[K',R',y5,y6,y7,e2]:=aD (T++[(g,word ps K R g,HR R g,eS g)]) _ _ _ _ _ _ (J.step c) zb zo;refine#[K',R',y5,y6,y7,?_];rw[if_pos c,aU,aU,iO g1<|VB (P:=P) (bx:=bx) (T:=T) h J zb zb g x6 x7 c,e2,sD];rfl
   .let#[K',R',y5,y6,y7,e2]:=aD (T++[(g,word ps K R g,.aB,.aB)]) K R n zL (xN<|bM g) (ae<|.d<|.str<|word ps K R g) J zb zo;refine#[K',R',y5,y6,y7,?_];rw[if_neg c,aU,aU,Vz g1<|W0 (P:=P) (bx:=bx) h J zb zb (T:=T) g x6 x7 c,e2,sD];rfl
theorem VI (h:Hs rs ks ps hd) (hl:qs.length<=16) (so:cT [.lst<|gs.map enc]=ae (.lst zaq)) :
 aN.CU [.d za,.d zx] bx=.val (.d<|.lst<|(qm ps [] [] qs).map tq) bx:=by
 let#[K',R',y5,y6,y7,e]:=Ls h qs [] [] [] 0 ah ah ah ZN zb zo;have s2:fJ (eO ag []) (fe 3) [ae<|.d za,ae<|.d zx,xB bx.length,ah,ah,ah,ah,ah] (bx++[.lst []])=.nx [ae<|.d za,ae<|.d zx,xB bx.length,xB<|bx.length+1,ah,ah,ah,ah] (bx++[.lst [],.aG []]):=by
  have:eO ag [] [ae<|.d za,ae<|.d zx,xB bx.length,ah,ah,ah,ah,ah] (bx++[.lst []])=.val (.b<|bx.length+1) (bx++[.lst [],.aG []]):=by
   simp[eO,cz]
  show gN this
 have s3:fJ (eO ag []) (fe 4) [ae<|.d za,ae<|.d zx,xB bx.length,xB<|bx.length+1,ah,ah,ah,ah] (bx++[.lst [],.aG []])=.nx (rE za zx bx.length ah ah ah) (Bk bx [] [] []):=by
  have:eO ag [] [ae<|.d za,ae<|.d zx,xB bx.length,xB<|bx.length+1,ah,ah,ah,ah] (bx++[.lst [],.aG []])=.val (.b<|bx.length+2) (Bk bx [] [] []):=by
   simp[eO,cz,Bk,km]
  show gN this
 have b:Nh [ae<|.d za,ae<|.d zx,ah,ah,ah,ah,ah,ah] bx=.rt (.d<|.lst<|(qm ps [] [] qs).map tq) ((Bk bx (qm ps [] [] qs) K' R').set bx.length .dead):=by
  refine(fA<|gN<|Bs [] zj<|dR _).trans ((fA s2).trans<|(fA s3).trans<|(fA<|(iB<|gG<|iF (r:=.lst zaq) [.lst<|gs.map enc] (fg zj zj) so).trans e).trans ?_);rw[u9];show fS<|WO zj HP
 refine(mT (ws:=[.d za,.d zx]) b).trans ?_;simp[Bk,abH]
theorem Sm (H:Hs rs ks ps hd) (hl:qs.length<=16) (so:cT [.lst<|gs.map enc]=ae (.lst zaq)) :
 cw.gC [.d za,.d zx] bx=.val (.d<|.lst<|(sj ps [] [] qs).map tX) bx:=by
 have c:=ai1 (B:=bx) (qm ps [] [] qs) ah ah ah ah [] (by rw[Sk];simp;lia);rw[Sl,u9]at c;show fU<|fS<|gO (gG<|fM zj zj<|VI H hl so) zj c
end
section
variable {K R:List (Int × Int)} 
variable {go:Al} {av wd:List D}
end
abbrev n9 (l:Int) (g:Pg):Bool:=isIn g&&decide (bM g=l)
section
variable {P:D} 
end
open dA bu
noncomputable abbrev oI:Option Int->D
 |none=>.aB
 |some r=>.int r
noncomputable def qo:Pg->Option Int
 |.aZ _ _ _ r _ _=>ae r
 |.to _ _ r=>ae r
 |.out ..=>ah
theorem W3 (g:Pg):eS g=oI (qo g):=by cases g<;>rfl
theorem W4 (R:Al) (g:Pg):HR R g=oI (look R<|bM g):=by unfold HR;cases look R _<;>rfl
theorem W5 (a b:Int):K5 (.int a) (.int b)=decide (a=b):=by rw[pT];simp[K5,wU,eB]
theorem W6 (b:Int):K5 .aB (.int b)=af:=rfl
theorem VJ (r:Int) (a b:Option Int):inD af (.int r) (.tup [oI a,oI b])=ae (.old<|.bl<|decide (a=ae r \/ b=ae r)):=by
 cases a<;>cases b<;>simp[inD,ka,nE,W5,W6]
abbrev d6 (q:Pg×Option Int):D:=.tup [enc q.1,oI q.2,oI<|qo q.1]
def d7 (ps:Al):Al->Al->List Pg->List (Pg×Option Int)
 |_,_,[]=>[]
 |K,R,g::gs=>if word ps K R g="takes" then (g,look R<|bM g)::d7 ps (stK K g) (se R g) gs else d7 ps K R gs
theorem N9 {ps:Al}:∀ {gs:List Pg}{K R:Al},(sj ps K R gs).map tX=(d7 ps K R gs).map d6:=by
 intro l_;induction l_ with
 |nil=>(intro _ _;show rfl)
 |cons g gs aD=>
   intro K R;unfold sj d7;split
   .rw[aU,aU,aD];change D.tup _::_=D.tup _::_;rw[W4,W3]
   .show aD
theorem Ct {ps:Al}:∀ {gs:List Pg}{K R:Al},(d7 ps K R gs).map (·.1)=taken ps K R gs:=by
 intro l_;induction l_ with
 |nil=>(intro _ _;show rfl)
 |cons g gs aD=>
   intro K R;unfold d7 taken;split
   .rw[aU,aD]
   .show aD
theorem De {ps:Al}:∀ {gs:List Pg}{K R:Al},(d7 ps K R gs).length<=gs.length:=by
 intro l_;induction l_ with
 |nil=>(intro _ _;show aH _)
 |cons g gs aD=>
   intro K R;unfold d7;split
   .show aa9 aD
   .show Q4 aD
theorem Sn {ps:Al}{h r:Int}:∀ {gs:List Pg}{K R:Al},((d7 ps K R gs).any λq=>decide (b9 q.1=h)&&decide (q.2=ae r \/ qo q.1=ae r))=decide ((h,r)∈ops ps K R gs):=by
 intro l_;induction l_ with
 |nil=>(intro _ _;show rfl)
 |cons g gs aD=>
   intro K R;unfold d7 ops;split
   .rw[u7,aD,pT];simp[vW,aL,decide_eq_true_eq,List.mem_append];refine or_congr ?_ Iff.rfl;unfold aeI;rw[bE];constructor
    .rintro⟨rfl,e|e⟩
     .show#[r,by rw[e];simp,rfl]
     .show#[r,pU _ (by cases g<;>simp_all[qo,ZQ]),rfl]
    .rintro⟨x,m,e⟩;let#[rfl,rfl]:=Prod.mk.inj e;refine#[rfl,?_];rcases List.mem_append.mp m with m|m
     .show .inr (by cases g<;>simp_all[qo,ZQ])
     .show .inl (by simpa using m)
   .show aD
section
variable {S:List (Pg × Option Int)}
theorem yS (g:Pg) {i:Nat}(h:env[i]?=ae zL):d2 af aA (dV i) zh env B=.val (.d<|.int<|b9 g) B:=
 fH (r:=.old _) (by rw[jE,h]) zj (by cases g<;>rfl)
theorem Oa (g:Pg) {i:Nat}(h:env[i]?=ae zL):d2 af aA (dV i) zP env B=.val (.d<|.int<|bM g) B:=
 fH (r:=.old _) (by rw[jE,h]) zj (by cases g<;>rfl)
theorem W7 (g:Pg) {i:Nat}(h:env[i]?=ae zL) (w:Str):dB (d2 af bf (d2 af aA (dV i) zd)<|dC<|.str w) env B=.val (decide (cW g=w)) B:=
 gm (fH (fH (r:=.old _) (by rw[jE,h]) zj (by cases g<;>rfl)) zj<|eq_str _ _)
theorem Ob (hl:S.length<=16) (r h:Int):jh [.d<|.lst<|S.map d6,.d<|.int r,.d<|.int h] bx=.val (.d<|.bl<|S.any λq=>decide (b9 q.1=h)&&decide (q.2=ae r \/ qo q.1=ae r)) bx:=by
 have z:=bC;refine fU<|fS<|iF (r:=.old<|.bl _) [.lst<|(S.filter λ_=>ag).map λq=>D.bl<|decide (b9 q.1=h)&&decide (q.2=ae r \/ qo q.1=ae r)] (fg (gO (gG zj) zj ?_) zj) ?_
 .refine yM (J:=λenv=>∃ a b c,env=[a,b,c,xN r,xN h]) (λ_=>ag) (λq=>D.bl<|decide (b9 q.1=h)&&decide (q.2=ae r \/ qo q.1=ae r)) (λq=>#[_,_,_,rfl]) S _ [] zo #[_,_,_,rfl] (λq _ env ⟨a,b,c,e⟩=>by subst e;rfl) λq _=>#[rfl,λ_=>?_];have t1:d2 af bf (d2 af aA (dV 0) zh) (dV 4) [ae<|.d<|enc q.1,ae<|.d<|oI q.2,ae<|.d<|oI<|qo q.1,xN r,xN h] bx=.val (.d<|.bl<|decide (b9 q.1=h)) bx:=fH (r:=.old<|.bl<|decide (b9 q.1=h)) (yS q.1 zj) zj<|rfl;cases c:decide (b9 q.1=h) with
  |false=>rw[c]at t1;show Vr t1
  |true=>
    rw[c]at t1;show gY t1<|fH zj (gH [oI q.2,oI<|qo q.1] zj zo)<|VJ _ _ _
 .simp[HD,Cp]
theorem Oc (hl:S.length<=16) (l:Int):ir [.d<|.lst<|S.map d6,.d<|.int l] bx=.val (.d (match (S.map (·.1)).find? (n9 l) with|some g=>enc g|none=>.aB)) bx:=by
 have go:∀ (T:List<|Pg×Option Int) (w2 w3 w4:Option W),(fq (λenv bx=>cq (gj 3<|fm (fe 2)<|fm (fe 3)<|fm (fe 4) gn) (aR (nK (dB<|d2 af bf (d2 af aA (dV 2) zd)<|dC<|.str "in")<|dB<|d2 af bf (d2 af aA (dV 2) zP)<|dV 1) (fF<|dV 2) aY) ((T.map d6).map W.d) env bx)<|fF<|dC .aB) [ae<|.d<|.lst<|S.map d6,xN l,w2,w3,w4] bx=.rt (.d (match (T.map (·.1)).find? (n9 l) with|some g=>enc g|none=>.aB)) bx:=by
  intro T;induction T with
  |nil=>intro w2 w3 w4;rfl
  |cons q T ih=>
    intro w2 w3 w4
    let E:aP:=[ae<|.d<|.lst<|S.map d6,xN l,ae<|.d<|enc q.1,ae<|.d<|oI q.2,ae<|.d<|oI<|qo q.1]
    have t:nK (dB<|d2 af bf (d2 af aA (dV 2) zd)<|dC<|.str "in") (dB<|d2 af bf (d2 af aA (dV 2) zP)<|dV 1) E bx=.val (n9 l q.1) bx:=by
     have a:=W7 q.1 (env:=E) (B:=bx) (i:=2) zj "in";have w:decide (cW q.1="in")=isIn q.1:=by cases q.1<;>rfl
     rw[w]at a;unfold n9;cases c:isIn q.1 with
     |false=>rw[c]at a;show lS a
     |true=>rw[c]at a;show jF a<|gm<|fH (r:=.old<|.bl<|decide (bM q.1=l)) (Oa q.1 zj) zj<|rfl
    rw[aU,aU,aU,xx];cases c:n9 l q.1 with
    |true=>
      rw[c]at t;show i9<|Gh zj<|(i0 t).trans zj
    |false=>
      rw[c]at t;have e:=ih (ae<|.d<|enc q.1) (ae<|.d<|oI q.2)<|ae<|.d<|oI<|qo q.1;have bd:aR (nK (dB<|d2 af bf (d2 af aA (dV 2) zd)<|dC<|.str "in")<|dB<|d2 af bf (d2 af aA (dV 2) zP)<|dV 1) (fF<|dV 2) aY E bx=.nx E bx:=(gz t).trans zj;rw[jv]at e ⊢;rw[iO rfl bd];show e
 refine fU ?_;have:=go S ah ah ah;rw[jv]at this;change fq (gT (bP<|dV 0) _ _) _ _ _=_;rw[jv,iB<|gG rfl];show this
end
noncomputable abbrev yT (q:Int×List Int):D:=.tup [.int q.1,.tup<|q.2.map D.int]
structure Hk (rs ks:List D) (ps:Al) (hd:D) (rl:List Int) (hold:Int) (kl:List<|Int×List Int):zk where
 H:Hs rs ks ps hd
 er:rs=rl.map D.int
 eh:hd=.int hold
 ek:ks=kl.map yT
 r:∀ c∈rl,0<=c /\ c<=3
 h:1<=hold /\ hold<=9
 k:∀ q∈kl,1<=q.1 /\ q.1<=999 /\ q.2.length=4 /\ ∀ x∈q.2,0<=x /\ x<=9
theorem So {d:D}(h:kind d=ag):∃ q:Int×List Int,d=yT q /\ 1<=q.1 /\ q.1<=999 /\ q.2.length=4 /\ ∀ x∈q.2,0<=x /\ x<=9:=by
 unfold kind at h;split at h
 .rw[aL]at h;let#[_,h]:=h;split at h
  .rw[aL]at h;let#[h1,h2]:=h;let#[i,rfl,i1,i2]:=lc h1;unfold yJ at h2;split at h2
   .erw[aL]at h2;let#[h3,h4,_]:=h2;let#[rt,rfl]:=Fa h4;have n:=oU h3;rw[a8]at n;refine#[(i,rt),rfl,i1,i2,by change rt.length=4;lia,λx m=>?_];have:=bR.mp h4 _<|vb m;simpa[wi] using this
   .cases h2
  .cases h
 .cases h
theorem Oe:∀ {l:List D},l.all kind=ag->∃ kl:List (Int×List Int),l=kl.map yT /\ ∀ q∈kl,1<=q.1 /\ q.1<=999 /\ q.2.length=4 /\ ∀ x∈q.2,0<=x /\ x<=9:=by
 intro l_;induction l_ with
 |nil=>show λ_=>#[[],rfl,λ_ m=>nomatch m]
 |cons d l aD=>
   intro h;rw[pW,aL]at h;let#[q,rfl,a]:=So h.1;let#[kl,rfl,b]:=aD h.2;show#[q::kl,rfl,λx m=>(bz.mp m).elim (λe=>e▸a)<|b x]
theorem W8 {ps:Al}(H:Hs rs ks ps hd):∃ rl hold kl,Hk rs ks ps hd rl hold kl:=by
 have h:=H.hh;simp[house,aL]at h;let#[h1,h2,_,h4]:=h;erw[rooms,aL]at h1;let#[rl,e1]:=Fa h1.2;let#[i,e2,i1,i2]:=lc h4;erw[kinds,aL]at h2;let#[kl,e3,k3]:=Oe h2.2;refine#[rl,i,kl,H,e1,e2,e3,λc m=>?_,#[i1,i2],k3];have:=bR.mp h1.2 _ (by rw[e1];show vb m);simpa[wi] using this
section
variable {ps op:Al} 
theorem Hk.i (X:Hk rs ks ps hd rl hold kl):aez za rl hold:=by
 have a:=X.H.r1;have b:=X.H.r5;rw[X.er,a8]at a b;show#[#[_,_,by rw[X.er,X.eh]],X.r,#[a,b],X.h]
theorem YG {l:List Int}{i:Int}(h0:0<=i) (h1:i<l.length):aA (.tup<|l.map D.int) (.int i)=ae (.old<|.int<|l.getD i.toNat 0):=by
 have e:bD (l.map D.int) _=ae (.int<|l.getD i.toNat 0):=Au (by rw[kZ,Xg,cX zb];rfl);rw[show ((i.toNat))=i by lia]at e;change (bD _ i).map Res.old=_;rw[e];rfl
theorem Tq (X:Hk rs ks ps hd rl hold kl) {k:Int}(h0:0<=k) (hq:kl[k.toNat]?=ae q):aA (.tup ks) (.int k)=ae (.old<|yT q):=by
 have e:bD ks _=ae _:=Au (by rw[X.ek,kZ,hq];rfl);rw[show ((k.toNat))=k by lia]at e;change (bD ks k).map Res.old=_;rw[e];rfl
theorem GU {e:α->D}{L:List (Int×α)}{m k:DE W}{l:Int}(neg:Bool) (hk:k env bx=.val (.d<|.int l) bx) (hm:m env bx=.val (.d<|.aG<|km e L) bx) :
 kT neg k m env bx=.val (.d (.bl (if neg then !((L.find? λq=>decide (q.1=l)).map (·.2)).isSome else ((L.find? λq=>decide (q.1=l)).map (·.2)).isSome))) bx:=by
 unfold kT;rw[hk,fQ,hm,fQ];change O.val _ bx=_;rw[mn,v7]
theorem FT {e:α->D}{L:List (Int×α)}{m k:DE W}{l:Int}{v:α}(hk:k env bx=.val (.d<|.int l) bx) (hm:m env bx=.val (.d<|.aG<|km e L) bx) (hf:(L.find? λq=>decide (q.1=l)).map (·.2)=ae v):kS m k env bx=.val (.d<|e v) bx:=by
 unfold kS;rw[hm,fQ,hk,fQ];change (match kR _ _ with|some u=>O.val _ bx|none=>.bad)=_;rw[mn,hf];rfl
def Rk (n:Nat) (R:Al):zk:=∀ q∈R,0<=q.2 /\ q.2<(n:Int)
theorem W9 {nr nk:Nat}{ps K R:Al}{g:Pg}(ok:rZ nr nk g) (h:Rk nr R):Rk nr (vN ps K R g):=by
 unfold vN;split
 .cases g with
  |aZ h' l k r p w=>show λq m=>(AF m).elim (λz=>by rw[z.2];show ok.2.2.2.1)<|h q
  |to h' l r=>show λq m=>(AF m).elim (λz=>by rw[z.2];show ok.2.2)<|h q
  |out h' l=>show λq m=>h q (List.mem_filter.mp m).1
 .show h
theorem VL {nr nk:Nat}{ps:Al}{h:Int}:∀ {gs:List Pg}{K R:Al},(∀ g∈gs,rZ nr nk g)->Rk nr R->Rk nr (pre h ps K R gs).2:=by
 intro l_;induction l_ with
 |nil=>(intro _ _ _ r;show r)
 |cons g gs aD=>
   intro K R o r;unfold pre;split
   .show aD (λx m=>o x<|bG _ m)<|W9 (o g<|bN ..) r
   .show r
theorem Sq {R:Al}(h:Rk n R) {l r:Int}(e:look R l=ae r):0<=r /\ r<(n:Int):=by
 let#[q,e1,rfl]:=Option.map_eq_some_iff.mp e;show h q<|ID e1
theorem Of (X:Hk rs ks ps hd rl hold kl) (s:yP qs) (ok:∀ g∈qs,rZ rs.length ks.length g) (hl:qs.length<=16) {h0 l k r p w:Int}(k0:0<=k) (hq:kl[k.toNat]?=ae q) (h:Int) :
 ji [.d za,.d zp,.d<|.lst<|(d7 ps [] [] qs).map d6,.d zU,.d<|.int h] bx=.val (.d<|.int<|uO rl hold op q.2 ps qs l h) bx:=by
 have z:sizeLine=16777216:=bC;have sl:=De (ps:=ps) (gs:=qs) (K:=[]) (R:=[]);have rv:=cw.Jj (bx:=bx) (h:=h) (S:=sj ps [] [] qs) s hl Cs;rw[N9]at rv;generalize hS:(d7 ps [] [] qs)=S at rv sl;have c4:=(X.k q<|qV hq).2.2.1
 let E:=λx5 x6 x7=>([ae<|.d za,ae<|.d zp,ae<|.d<|.lst<|S.map d6,ae<|.d zU,xN h,x5,x6,x7]:aP)
 have t1:=GU (bx:=bx) (k:=d2 af aA (dV 3) _) (m:=dV 5) (env:=(E (ae zas) ah ah)) ag (Oa _ zj) zj;have g1:=λv=>FT (bx:=bx) (k:=d2 af aA (dV 3) _) (m:=dV 5) (env:=(E (ae zas) ah ah)) (v:=v) (Oa _ zj) zj;refine fU<|qS (cV rv) ?_;unfold uO yQ
 change kT ag _ _ _ _=.val (.d<|.bl<|!(look (pre h ps [] [] qs).2 l).isSome) bx at t1
 change ∀ v,look (pre h ps [] [] qs).2 l=ae v->_ at g1
 cases c:look (pre h ps [] [] qs).2 l with
 |none=>
   rw[c]at t1;show qR (gm t1) zj
 |some r'=>
   rw[c]at t1;let#[r0,r1]:=Sq (VL (h:=h) (ps:=ps) ok (K:=[]) (R:=[]) λq m=>nomatch m) c;rw[X.er,a8]at r1;refine qF (gm t1)<|qS (g1 r' c) ?_;have cd:=Vp (bx:=bx) (hour:=h) X.i r'.toNat zb op;rw[show ((r'.toNat:Nat))=r' by lia]at cd;have eg:rl[r'.toNat]'(by lia)=rl.getD r'.toNat 0:=by rw[Xg,cX zb];rfl
   rw[eg]at cd;have rb:=X.r (rl.getD r'.toNat 0) (by rw[<-eg];show sF _);have lo:=Fd (hold:=hold) (hour:=h) rb.1 op;have hi:=Fe (hour:=h) rb.1 (show 0<hold by have:=X.h;lia) op;refine qS (cV cd) ?_;change fq _ _ (E (ae zas) (xN r')<|xN<|kX (rl.getD r'.toNat 0) hold h op) bx=.rt (.d<|.int<|q.2.getD (max 0<|kX (rl.getD r'.toNat 0) hold h op-if (h,r')∈ops ps [] [] qs then 1 else 0).toNat 0) bx;generalize kX (rl.getD r'.toNat 0) hold h op=cc at *;have o:=Ob (bx:=bx) (S:=S) zb r' h;rw[<-hS,Sn,hS]at o;have t2:dB (fj bj.jh 3<|fc (dV 2)<|fc (dV 6)<|fc (dV 4) ff) (E (ae zas) (xN r')<|xN cc) bx=.val (decide ((h,r')∈ops ps [] [] qs)) bx:=gm<|cV o;have fin:∀ x:Int,0<=x->x<=3->fF (d2 af aA (d2 af aA (d2 af aA zar<|d2 af aA (dV 3) zB) zd)<|dV 7) (E (ae zas) (xN r')<|xN x) bx=.rt (.d<|.int<|q.2.getD x.toNat 0) bx:=λx x0 x3=>
    fS (fH (x:=.tup<|q.2.map D.int) (y:=.int x) (r:=.old _) (fH (x:=yT q) (y:=.int 1) (r:=.old<|.tup<|q.2.map D.int) (fH (x:=.tup ks) (y:=.int k) (r:=.old<|yT q) (fH (x:=hs rs ks ps hd) (y:=.int 1) (r:=.old<|.tup ks) zj zj zj) (fH (x:=enc<|.aZ h0 l k r p w) (y:=.int 3) (r:=.old<|.int k) zj zj zj)<|Tq X k0 hq) zj zj) zj<|YG x0 zb)
   by_cases d:(h,r')∈ops ps [] [] qs
   .rw[decide_eq_true d]at t2;rw[if_pos d];show(fA<|(i0 t2).trans<|gN<|iF (r:=.old<|.int<|max 0<|cc-1) [.int 0,.int<|cc-1] (fg zj<|fg (fH (x:=.int cc) (y:=.int 1) (r:=.old<|.int<|cc-1) zj zj zj) zj)<|NJ _).trans (fin (max 0<|cc-1) zb zb)
   .rw[decide_eq_false d]at t2;rw[if_neg d];rw[Int.sub_zero,show max 0 cc=cc by lia];show qF t2<|fin cc lo zb
end
end bj
namespace Qi
open L2 L2.DL bu dA
noncomputable def dd (l:List Int):List Int:=l.foldl sI []
theorem Og (a:List Int) (i:Int):(sI a i).length<=a.length+1:=by
 unfold sI;split<;>simp
theorem Oh:∀ (l a:List Int),(l.foldl sI a).length<=a.length+l.length:=by
 intro l_;induction l_ with
 |nil=>(intro a;simp)
 |cons i l aD=>
   intro a;have h1:=aD<|sI a i;have h2:=Og a i;rw[abq,bw];lia
theorem VM (l:List Int):(dd l).length<=l.length:=by have:=Oh l [];rw[dd];simpa using this
theorem Cu (l:List Int):HT.dist l=dd l:=by
 unfold HT.dist firstMet dd;congr 1;apply xu;intro j;by_cases h:j<l.length
 .simp[h]
 .simp[h]
end Qi
namespace bj
open L2 L2.DL K1 K2 dA bu aN cw
noncomputable abbrev xf (hold:Int) (p:Int×Int):List Int:=[p.1,p.2,p.1+1*hold,p.1+2*hold,p.1+3*hold]
section
variable {ps op:Al} 
theorem Oi {m k:DE W}{i:Nat}{l r:List D}(h1:m env B=.val (.b i) B) (hb:B[i]?=ae (.lst l)) (h2:k env B=.val (.d<|.lst r) B) (hl:l.length+r.length<=sizeLine):rV m k env B=.val (.d .aB) (B.set i<|.lst<|l++r):=by
 unfold rV;rw[h1,fQ];erw[hb,h2,fQ];show if_pos hl
theorem Qj {x:Bx}:(bx++[x])[bx.length]?=ae x:=by simp
theorem ZR {x y:Bx}:(bx++[x]).set bx.length y=bx++[y]:=by simp
abbrev ai2:az:=(fq (fX<|rV (dV 2)<|gF af<|fc (dV 3)<|fc (dV 4) ff)<|fX<|rV (dV 2)<|f7 af [ah,ae 0,ae 3] (tF<|fc zd<|fc (d2 af fP zB zd) ff) (fe 0) gk<|d2 af fP (dV 2)<|d2 af dj (dV 0)<|d2 af aA (dV 1) zB)
theorem Sr (X:Hk rs ks ps hd rl hold kl) {o w2:Option W}{b e:Int}:f7 af [ah,ae 0,ae 3] (tF<|fc zd<|fc (d2 af fP zB zd) ff) (fe 0) gk (d2 af fP (dV 2)<|d2 af dj (dV 0)<|d2 af aA (dV 1) zB) [ae<|.d za,o,w2,xN b,xN e] B=.val (.d<|.lst<|[b+1*hold,b+2*hold,b+3*hold].map D.int) B:=by
 have z:=bC;have eh:=X.eh;subst eh;refine gO (Gg<|fg zj<|fg (fH (r:=.old _) zj zj zj) zj) zj ?_;refine(yM (J:=λenv=>∃ a,env=[a,ae _,ae _]) _ (λi:Int=>D.int<|b+i*hold) (λ_=>#[_,rfl]) [1,2,3] _ [] zo #[_,rfl] (λi _ env ⟨a,e⟩=>by subst e;rfl) λi m=>#[rfl,λ_=>?_]).trans ?_
 .refine fH (r:=.old _) zj (fH zj (fH zj zj zj)<|if_pos<|.inr ?_) zj;have:=X.h;lia
 .rfl
theorem Ss (X:Hk rs ks ps hd rl hold kl) (o:Option W):∀ (l:Al) (acc:List Int) (w3 w4:Option W),acc.length+l.length*5<=1000->∃ y3 y4,
 cq (gj 2<|fm (fe 3)<|fm (fe 4) gn) ai2 ((l.map dP).map W.d) [ae<|.d za,o,xB bx.length,w3,w4] (bx++[.lst<|acc.map D.int])=.nx [ae<|.d za,o,xB bx.length,y3,y4] (bx++[.lst<|(acc++(l.map<|xf hold).flatten).map D.int]):=by
 intro l_;induction l_ with
 |nil=>show λacc w3 w4 _=>#[w3,w4,by simp[cq]]
 |cons p l aD=>
   intro acc w3 w4 n;have z:sizeLine=16777216:=bC;rw[bw]at n;let#[y3,y4,e]:=aD (acc++xf hold p) _ _ zo;refine#[y3,y4,?_];have e1:=Oi (m:=dV 2) (k:=gF af<|fc (dV 3)<|fc (dV 4) ff) (env:=[ae<|.d za,o,xB bx.length,xN p.1,xN p.2]) (B:=bx++[.lst<|acc.map D.int]) zj Qj (lh [.int p.1,.int p.2] zj zo) zo;rw[ZR]at e1;have e2:=Oi (m:=dV 2) (env:=[ae<|.d za,o,xB bx.length,xN p.1,xN p.2]) (B:=bx++[.lst<|acc.map D.int++[.int p.1,.int p.2]]) zj Qj (Sr X) zo;rw[ZR]at e2;rw[aU,aU,iO rfl<|(fA<|iN e1).trans<|iN e2];have:acc.map D.int++[.int p.1,.int p.2]++[p.1+1*hold,p.1+2*hold,p.1+3*hold].map D.int=(acc++xf hold p).map D.int:=by simp
   rw[this,e];simp
theorem Su (X:Hk rs ks ps hd rl hold kl) (ho:op.length<=4):gX [.d za,.d zp] bx=.val (.b bx.length) (bx++[.lst<|((op.map<|xf hold).flatten).map D.int]):=by
 let#[y3,y4,e]:=Ss X _ op [] ah ah zo;have s1:fJ (gF ag ff) (fe 2) [ae _,ae _,ah,ah,ah] bx=.nx [ae<|.d za,ae<|.d zp,ae _,ah,ah] _:=gN<|Bs [] zj<|dR _;have b:iy _ bx=.rt (.b bx.length) (bx++[.lst<|((op.map<|xf hold).flatten).map D.int]):=
  (fA s1).trans ((fA<|(iB<|iU zj).trans e))
 change nq bx.length (nj<|aO iy [ae<|.d za,ae<|.d zp,ah,ah,ah] bx)=_;unfold aO;rw[b];rfl
end
abbrev yU (q:Sx):D:=.tup [.int q.1,oI q.2.1,.int q.2.2]
noncomputable abbrev ends (bs:List Int):List (Option Int):=bs.tail.map ae++[ah]
theorem Jk (f:Int->Int):∀ bs:List Int,yR f bs=(bs.zip<|ends bs).map λq=>(q.1,q.2,f q.1)
 |[]=>rfl
 |[b]=>rfl
 | b::c::r=>by
   change (b,ae c,f b)::yR f _=_;rw[Jk f _];rfl
theorem Tr:∀ (l:List Int) (r:List<|Option Int),nC (l.map D.int) (r.map oI)=((l.zip r).map λq=>D.tup [.int q.1,oI q.2]).map W.d
 |[],_=>rfl
 |_::_,[]=>rfl
 | x::l,y::r=>by
   change W.d _::nC _ _=_;rw[Tr l r];rfl
def yV (C:List Int) (h0:Int):List Int:=(sortI<|HT.dist C).filter λh=>decide (h0<=h)
section
variable {ps op:Al} 
abbrev ai3:az:=(fX<|rV (dV 4)<|gF af<|fc (d2 af aA (dV 5) zh)<|fc (d2 af fP (d2 af aA (dV 5) zh) zd) ff)
theorem Sv (x0 x1 x2 x3 x8 x9:Option W):∀ (S:List<|Pg×Option Int) (acc:List Int) (w5 w6 w7:Option W),acc.length+S.length*2<=1000->∃ y5 y6 y7,
 cq zak ai3 ((S.map d6).map W.d) [x0,x1,x2,x3,xB bx.length,w5,w6,w7,x8,x9] (bx++[.lst<|acc.map D.int])=.nx [x0,x1,x2,x3,xB bx.length,y5,y6,y7,x8,x9] (bx++[.lst ((acc++((S.map (·.1)).map λg=>[b9 g,b9 g+1]).flatten).map D.int)]):=by
 intro l_;induction l_ with
 |nil=>show λacc w5 w6 w7 _=>#[w5,w6,w7,by simp[cq]]
 |cons q S aD=>
   intro acc w5 w6 w7 n;have z:=bC;rw[bw]at n;let#[y5,y6,y7,e]:=aD (acc++[b9 q.1,b9 q.1+1]) _ _ _ zo;refine#[y5,y6,y7,?_];have e1:=Oi (m:=dV 4) (k:=gF af<|fc (d2 af aA (dV 5) zh)<|fc (d2 af fP (d2 af aA (dV 5) zh) zd) ff) (env:=[x0,x1,x2,x3,xB bx.length,ae<|.d<|enc q.1,ae<|.d<|oI q.2,ae<|.d<|oI<|qo q.1,x8,x9]) (B:=bx++[.lst<|acc.map D.int]) zj Qj (lh [.int<|b9 q.1,.int<|b9 q.1+1] (fg (yS q.1 zj)<|fg (fH (r:=.old<|.int<|b9 q.1+1) (yS q.1 zj) zj zj) zj) zo) zo;rw[ZR]at e1;rw[aU,aU,iO rfl<|iN e1];have:acc.map D.int++[.int<|b9 q.1,.int<|b9 q.1+1]=(acc++[b9 q.1,b9 q.1+1]).map D.int:=by simp
   rw[this,e];simp
theorem Sw {tk:List Pg}(h1:op.length<=4) (h2:tk.length<=16):(chg hold op tk).length<64:=by
 rw[bQ,abI,abI,bO,bO];have a:((op.map<|List.length∘λp=>[p.1,p.2,p.1+1*hold,p.1+2*hold,p.1+3*hold])).sum=op.length*5:=by
  clear h1;induction op with
  |nil=>rfl
  |cons p l ih=>rw[aU,abJ,ih,bw];change 5+_=_;lia
 have b:((tk.map<|List.length∘λg=>[b9 g,b9 g+1])).sum=tk.length*2:=by
  clear h2;induction tk with
  |nil=>rfl
  |cons p l ih=>rw[aU,abJ,ih,bw];change 2+_=_;lia
 lia
theorem Ao (X:Hk rs ks ps hd rl hold kl) (ho:op.length<=4) (s:yP qs) (ok:∀ g∈qs,rZ rs.length ks.length g) (hl:qs.length<=16) {h0 l k r p w:Int}(k0:0<=k) (hq:kl[k.toNat]?=ae q) :
 jj [.d za,.d zp,.d<|.lst<|(d7 ps [] [] qs).map d6,.d zU] bx=.val (.d<|.lst<|(yR (uO rl hold op q.2 ps qs l)<|yV (chg hold op<|taken ps [] [] qs) h0).map yU) bx:=by
 have z:sizeLine=16777216:=bC;have sl:=De (ps:=ps) (gs:=qs) (K:=[]) (R:=[]);have st:=Ct (ps:=ps) (gs:=qs) (K:=[]) (R:=[]);have pv:=λB h=>Of (bx:=B) (op:=op) X s ok hl (h0:=h0) (l:=l) (r:=r) (p:=p) (w:=w) k0 hq h;generalize (d7 ps [] [] qs)=S at sl st pv ⊢;have tl:(taken ps [] [] qs).length<=16:=by rw[<-st,a8];lia
 have cl:=Sw (hold:=hold) ho tl;let#[y5,y6,y7,lp]:=Sv (ae<|.d za) (ae<|.d zp) (ae<|.d<|.lst<|S.map d6) (ae<|.d zU) ah ah S ((op.map<|xf hold).flatten) ah ah ah (by
  rw[show chg hold op _=(op.map<|xf hold).flatten++((taken ps [] [] qs).map λg=>[b9 g,b9 g+1]).flatten from rfl,bQ]at cl;lia)
 rw[st]at lp
 change _=OS.nx _ (bx++[.lst<|(chg hold op<|taken ps [] [] qs).map D.int]) at lp
 generalize chg hold op (taken ps [] [] qs)=C at *;have dl:=Qi.VM C;have so:∀ {e:aP},e[4]?=ae (xB bx.length)->dN af wX (fc (dV 4) ff) e (bx++[.lst<|C.map D.int])=.val (.d<|.lst<|(sortI<|HT.dist C).map D.int) (bx++[.lst<|C.map D.int]):=λh=>by
  rw[Ll,fg (by rw[jE,h]) rfl,fQ,show kE (bx++[.lst<|C.map D.int]) [.b bx.length]=ae [.lst<|C.map D.int] by simp[kE,bY,Qj,bS,ue]];have:wX [.lst<|C.map D.int]=ae (.lst<|(sortI<|HT.dist C).map D.int):=by
   change ((intsOf<|C.map D.int).bind λns=>if ns.length<4000 /\ (HT.dist ns).length<64 then ae (Res.lst<|(sortI<|HT.dist ns).map D.int) else ah)=_;rw[K1.D9];show if_pos #[by lia,by rw[Qi.Cu];lia]
  rw[bS,this];rfl
 have sz:(sortI<|HT.dist C).length<64:=by rw[(gU _).length_eq,Qi.Cu];lia
 have bl:(yV C h0).length<64:=Et (Iz ..) sz;have b1:=yM (g:=fe 0) (tf:=dB<|d2 af nZ (dV 0)<|d2 af aA (dV 1) zh) (te:=dV 0) (B:=bx++[.lst<|C.map D.int]) (e:=D.int) (E:=λi:Int=>[xN i,ae<|.d zU]) (J:=λenv=>∃ a,env=[a,ae<|.d zU]) (λh=>decide (h0<=h)) (λi:Int=>D.int i) (λ_=>#[_,rfl]) (sortI<|HT.dist C) _ [] zo #[ah,rfl] (λi _ env ⟨a,e⟩=>by subst e;rfl) λi m=>#[gm<|fH (x:=.int i) (y:=.int h0) (r:=.old<|.bl<|decide (h0<=i)) zj (yS (.aZ h0 l k r p w) zj)<|rfl,λ_=>rfl]
 change _=O.val ((yV C h0).map D.int) _ at b1
 generalize yV C h0=bs at *;have ai4:DL.cutD (bs.map D.int) (ae 1) ah=bs.tail.map D.int:=by
  cases bs with
  |nil=>rfl
  |cons b t=>simp[DL.cutD,HT.a7];show IC zg
 have e2:bs.tail.map D.int++[.aB]=(ends bs).map oI:=by
  unfold ends;rw[Ey,bO];rfl
 refine(mT (ws:=[.d za,.d zp,.d<|.lst<|S.map d6,.d zU]) (bx':=bx++[.lst<|C.map D.int]) (qS (cV<|Su X ho) ((fA<|(iB<|gG zj).trans lp).trans (qS (gO (gG<|so zj) zj b1) (qS (fH (x:=.lst<|bs.tail.map D.int) (y:=.lst [.aB]) (r:=.lst<|(ends bs).map oI) (Nv (x:=.lst<|bs.map D.int) (i:=ae 1) (j:=ah) (r:=.lst<|bs.tail.map D.int) zj zj zj (by rw[<-ai4];rfl)) (lh [.aB] zj zo) (by rw[<-e2];show if_pos zo)) (fS (gO (bx1:=bx++[.lst<|C.map D.int]) (congrArg (O.val · _)<|Tr bs<|ends bs) zj<|yM (g:=gj 2<|fm (fe 0)<|fm (fe 1) gn) (tf:=gk) (te:=gf<|fc (dV 0)<|fc (dV 1)<|fc (fj bj.ji 5<|fc (dV 2)<|fc (dV 3)<|fc (dV 4)<|fc (dV 5)<|fc (dV 0) ff) ff) (B:=bx++[.lst<|C.map D.int]) (e:=λa:Int×Option Int=>D.tup [.int a.1,oI a.2]) (E:=λa:Int×Option Int=>[xN a.1,ae<|.d<|oI a.2,ae<|.d za,ae<|.d zp,ae<|.d<|.lst<|S.map d6,ae<|.d zU]) (J:=λenv=>∃ a b,env=[a,b,ae<|.d za,ae<|.d zp,ae<|.d<|.lst<|S.map d6,ae<|.d zU]) (λ_=>ag) (λa=>yU (a.1,a.2,uO rl hold op q.2 ps qs l a.1)) (λ_=>#[_,_,rfl]) (bs.zip<|ends bs) [ah,ah,ae<|.d za,ae<|.d zp,ae<|.d<|.lst<|S.map d6,ae<|.d zU] [] (by rw[Xe];simp;lia) #[_,_,rfl] (λi _ env ⟨a,b,e⟩=>by subst e;rfl) λa m=>#[rfl,λ_=>gH [.int a.1,oI a.2,.int<|uO rl hold op q.2 ps qs l a.1] (fg zj<|fg zj<|fg (cV<|pv _ a.1) zj) zo]))))))).trans ?_;rw[List.filter_eq_self.mpr λ_ _=>rfl,Jk,bO,u9];simp[abH,afN]
end
theorem Ts (i j:Int):minD [.int i,.int j]=ae (.old<|.int<|min i j):=by
 change ae _=_;congr 3;split<;>lia
section
variable {ps op:Al} 
abbrev aeK:az:=(fq (fJ (nX (dB<|kF af<|dV 7) (dV 4)<|dN af minD<|fc (dV 7)<|fc (dV 4) ff)<|fe 9)<|rW af 5<|d2 af dj (dV 8)<|dN af maxD<|fc zh<|fc (d2 af cB (dV 9)<|dV 6) ff)
theorem Jl (x0 x1 x2 x3:Option W) (h:Int):∀ (T:List Sx) (x:Int) (w6 w7 w8 w9:Option W),(∀ q∈T,0<=q.2.2 /\ q.2.2<=9)->∃ y6 y7 y8 y9,
 cq (gj 3<|fm (fe 6)<|fm (fe 7)<|fm (fe 8) gn) aeK ((T.map yU).map W.d) [x0,x1,x2,x3,xN h,xN x,w6,w7,w8,w9] bx=.nx [x0,x1,x2,x3,xN h,xN<|aeH h x T,y6,y7,y8,y9] bx
 |[],x,w6,w7,w8,w9,_=>#[w6,w7,w8,w9,rfl]
 | (a,o,g)::T,x,w6,w7,w8,w9,b=>by
   have bg:0<=g /\ g<=9:=b _<|bN ..;let#[y6,y7,y8,y9,e]:=Jl x0 x1 x2 x3 h T _ _ _ _ _ λy m=>b y<|bG _ m;refine#[y6,y7,y8,y9,?_]
   let E:=λx w9=>([x0,x1,x2,x3,xN h,xN x,xN a,ae<|.d<|oI o,xN g,w9])
   have u:nX (dB<|kF af<|dV 7) (dV 4) (dN af minD<|fc (dV 7)<|fc (dV 4) ff) (E x w9) bx=.val (.d<|.int<|oX h o) bx:=by
    cases o with
    |none=>show Je zj zj
    |some v=>show NL zj<|iF _ zj<|Ts v h
   have bd:aeK _ bx=.nx (E _<|xN<|oX h o) bx:=qS u (by
    change br (d2 af dj (dV 8) (dN af maxD<|fc zh<|fc (d2 af cB (dV 9)<|dV 6) ff) (E x<|xN<|oX h o) bx) _=_;rw[fH rfl (iF [.int 0,.int<|oX h o-a] (fg rfl<|fg (fH (r:=.old<|.int<|oX h o-a) rfl rfl rfl) rfl)<|NJ _)<|if_pos<|.inl zb,iM];rfl)
   rw[aU,aU,iO rfl bd,e];rfl
theorem Oj (X:Hk rs ks ps hd rl hold kl) (hq:q∈kl) (qs:List Pg) (l h:Int):0<=uO rl hold op q.2 ps qs l h /\ uO rl hold op q.2 ps qs l h<=9:=by
 unfold uO aeJ;split
 .lia
 .rename_i r _;rw[Xg];cases c:q.2[(max 0<|kX _ hold h op-if (h,r)∈ops ps [] [] qs then 1 else 0).toNat]? with
  |none=>simp
  |some v=>show(X.k q hq).2.2.2 v (qV c)
theorem Ol {f:Int->Int}(p:∀ h,0<=f h /\ f h<=9):∀ {bs:List Int},∀ q∈yR f bs,0<=q.2.2 /\ q.2.2<=9
 |[],_,m=>nomatch m
 |[b],q,m=>by cases ku.mp m;show p b
 | b::c::r,q,m=>by
   rcases bz.mp m with rfl|m
   .show p b
   .show Ol p q m
structure Cm (rs ks:List D) (ps:Al) (qs:List Pg) (kl:List<|Int×List Int) (h0 l k r p w:Int) (q:Int×List Int):zk where
 m:Pg.aZ h0 l k r p w∈taken ps [] [] qs
 k0:0<=k
 hq:kl[k.toNat]?=ae q
abbrev HS:az:=z8
theorem Jm (x0 x1 x2 x3:Option W):∀ (T:List Sx) (x:Int) (w5 w6 w7 w8:Option W),(∀ q∈T,0<=q.2.2 /\ q.2.2<=9) ->
 fq (λenv bx=>cq zak HS ((T.map yU).map W.d) env bx) (fF<|dC .aB) [x0,x1,x2,x3,xN x,w5,w6,w7,w8] bx=.rt (.d<|oI<|xc x T) bx
 |[],x,w5,w6,w7,w8,_=>rfl
 | (a,o,g)::T,x,w5,w6,w7,w8,b=>by
   have bg:0<=g /\ g<=9:=b _<|bN ..
   let E:=λx w8=>([x0,x1,x2,x3,xN x,xN a,ae<|.d<|oI o,xN g,w8])
   have t:dB (d2 af kP (dV 7) zh) (E x w8) bx=.val _ bx:=gm<|fH (r:=.old _) zj zj<|rfl;have nx:∀ {x'}{w'},HS (E x w8) bx=.nx (E x' w') bx->fq (λenv bx=>cq zak HS ((((a,o,g)::T).map yU).map W.d) env bx) (fF<|dC .aB) [x0,x1,x2,x3,xN x,w5,w6,w7,w8] bx=.rt (.d<|oI<|xc x' T) bx:=λ{x' w'} e=>by
    have:=(λx w8=>Jm x0 x1 x2 x3 T x (xN a) (ae<|.d<|oI o) (xN g) w8 λy m=>b y<|bG _ m) x' w';rw[jv]at this ⊢;rw[aU,aU,iO rfl e];show this
   have rt:∀ {w},HS (E x w8) bx=.rt w bx->fq (λenv bx=>cq zak HS ((((a,o,g)::T).map yU).map W.d) env bx) (fF<|dC .aB) [x0,x1,x2,x3,xN x,w5,w6,w7,w8] bx=.rt w bx:=λe=>i9<|Gh zj e;unfold xc;by_cases c:0<g
   .rw[decide_eq_true c]at t;rw[if_pos c];have s1:d2 af fP (dV 5) (d2 af pK (d2 af cB (d2 af fP (dV 4)<|dV 7) zd)<|dV 7) (E x w8) bx=.val (.d<|.int<|a+(x+g-1) / g) bx:=fH (r:=.old<|.int<|a+(x+g-1) / g) zj (fH (fH (fH zj zj zj) zj zj) zj<|NK c zb) zj;dsimp only;generalize a+(x+g-1) / g=y at *;cases o with
    |none=>show rt<|(i0 t).trans<|qS s1<|qR (Nu zj) zj
    |some e=>
      have n2:dB (d2 af dX (dV 8)<|dV 6) (E x<|xN y) bx=.val (decide (y<=e)) bx:=gm<|fH (r:=.old<|.bl<|decide (y<=e)) zj zj zj;change _=OS.rt (W.d<|oI (if y<=e then ae y else xc (x-g*(e-a)) T)) bx;by_cases d:y<=e
      .rw[decide_eq_true d]at n2;rw[if_pos d];show rt<|(i0 t).trans<|qS s1<|qR (ja zj n2) zj
      .rw[decide_eq_false d]at n2;rw[if_neg d];refine nx (w':=xN y)<|(i0 t).trans<|qS s1<|qF (ja zj n2) ?_;unfold rW;change br (d2 af dj (dV 7) (d2 af cB (dV 6)<|dV 5) (E x<|xN y) bx) _=_;rw[fH rfl (fH rfl rfl rfl)<|if_pos<|.inl zb,iM];rfl
   .rw[decide_eq_false c]at t;rw[if_neg c];show nx<|(gz t).trans zj
end
structure Sc (rs ks:List D) (ps:Al) (hd:D) (rl:List Int) (hold:Int) (kl:List<|Int×List Int) (op:Al) (gs qs:List Pg):zk where
 X:Hk rs ks ps hd rl hold kl
 G:Gs rs.length ks.length gs
 so:cT [.lst<|gs.map enc]=ae (.lst zaq)
 pm:qs.Perm gs
 ri:rY qs
 ol:op.length<=4
 ob:∀ p∈op,0<=p.1 /\ p.1<p.2
 oa:eF op=ag
section
variable {ps op:Al} 
theorem Sc.s (Z:Sc rs ks ps hd rl hold kl op gs qs):yP qs:=VE Z.ri
theorem Sc.l (Z:Sc rs ks ps hd rl hold kl op gs qs):qs.length<=16:=by rw[Z.pm.length_eq];show Z.G.l
theorem Sc.ok (Z:Sc rs ks ps hd rl hold kl op gs qs):∀ g∈qs,rZ rs.length ks.length g:=(Z.G.perm Z.pm).ok
theorem YH {m:az}{ws:List W}{e:aP}(h:m zK bx=.nx e bx):aM n (aO m) ws bx=.val (.d .aB) bx:=by
 change nq bx.length (nj<|aO m (ws.map ae++List.replicate _ ah) bx)=_;unfold aO;rw[h];simp[nj,nq]
theorem Om (Z:Sc rs ks ps hd rl hold kl op gs qs):j9 [.d za,.d zp] bx=.val (.d .aB) bx:=by
 have sz:=bC;have ol:=Z.ol;have lv:=Vo op zb bx;rw[Z.oa]at lv;have o:∀ x∈op.map dP,K2.jK [.d x] bx=.val (.d _) bx:=λx m=>by
  let#[p,mp,rfl]:=bE.mp m;have:=Z.ob p mp;show fU<|fS<|gY (cV<|An zj)<|gY (cV<|aN.BA (i:=p.1) zb)<|gY (cV<|aN.BA (i:=p.2) zb)<|fH (y:=.int p.2) (r:=.old<|.bl ag) zj zj (by simp[dt];lia)
 have m:Bl [ae _,ae _] bx=.rt _ bx:=qE (cV<|aN.lw Z.X.H)<|fS<|gY (cV<|An (l:=op.map dP) (lo:=0) (hi:=4) (by simp[tl];lia))<|gY (Cq (iU zj) zj (by rw[a8];lia) λx m=>cV<|o x m)<|cV lv;show YH (m:=Ah)<|(gz<|gJ<|gm<|cV (fn:=lP) (l:=[.d za,.d zp])<|fU m).trans zj
theorem ai5 {ps:Al}{g:Pg}:∀ {gs:List Pg}{K R:Al},g∈taken ps K R gs->g∈gs:=by
 intro l_;induction l_ with
 |nil=>(intro _ _ m;show nomatch m)
 |cons x gs aD=>
   intro K R m;unfold taken at m;split at m
   .rcases bz.mp m with rfl|m
    .show bN ..
    .show bG _<|aD m
   .show bG _<|aD m
abbrev Qk (ps:Al) (qs:List Pg) (l:Int):Option Pg:=(taken ps [] [] qs).find?<|n9 l
theorem Tt (Z:Sc rs ks ps hd rl hold kl op gs qs) {l:Int}{g:Pg}(h:Qk ps qs l=ae g):∃ h0 k r p w q,g=.aZ h0 l k r p w /\ Cm rs ks ps qs kl h0 l k r p w q /\ 0<=h0 /\ (0<=p /\ p<=999) /\ (1<=q.1 /\ q.1<=999) /\ g∈qs:=by
 have m:=ID h;have c:=Xf h;have mm:=ai5 m;have o:=Z.ok g mm;cases g with
 |aZ h0 l' k r p w=>
   have el:l'=l:=of_decide_eq_true c;subst el;let#[o1,o2,#[k0,k1],o4,o5,o6]:=o;have ZS:k.toNat<kl.length:=by rw[Z.X.ek,a8]at k1;lia
   show#[h0,k,r,p,w,kl[k.toNat],rfl,#[m,k0,cX ZS],o1,o5,#[(Z.X.k _<|sF ZS).1,(Z.X.k _<|sF ZS).2.1],mm]
 |to h' l' r=>simp[isIn]at c
 |out h' l'=>simp[isIn]at c
theorem On (Z:Sc rs ks ps hd rl hold kl op gs qs) (l:Int):ir [.d<|.lst<|(d7 ps [] [] qs).map d6,.d<|.int l] bx=.val (.d (match Qk ps qs l with|some g=>enc g|none=>.aB)) bx:=by
 have sl:=De (ps:=ps) (gs:=qs) (K:=[]) (R:=[]);have:=Oc (bx:=bx) (S:=d7 ps [] [] qs) (by have:=Z.l;lia) l;rw[Ct]at this;show this
theorem Df (Z:Sc rs ks ps hd rl hold kl op gs qs):cw.gC [.d za,.d zx] bx=.val (.d<|.lst<|(d7 ps [] [] qs).map d6) bx:=by
 rw[<-N9];show bj.Sm Z.X.H Z.l Z.so
end
section
variable {ps op:Al} 
end
end bj
namespace cw
open L2 L2.DL K1 dA bu aN
section
variable {K':Al}
end
end cw
namespace bj
open L2 L2.DL K1 K2 dA bu aN cw
section
variable {ps op:Al} {N:Nat} 
variable {h0 l k r p w last:Int} 
end
end bj
namespace aN
open L2 L2.DL K1 dA bu
end aN
namespace cw
open L2 L2.DL K1 dA bu aN
theorem oG {i:Nat}{B1:List Bx}{x y:W}(h:m env B=.val [x,y] B1):kO i j m env B=.nx ((env.set i<|ae x).set j<|ae y) B1:=by
 unfold kO;rw[h,iM]
section
variable {N:Nat}
end
end cw
namespace bj
open L2 L2.DL K1 K2 dA bu aN cw
section
variable {ps op:Al} {N:Nat} {l last:Int}
end
theorem Cw {b e:Int}:∀ {ps:Al},eF ps=ag->(∀ x∈ps,x.2<b)->eF (ps++[(b,e)])=ag
 |[],_,_=>rfl
 | [p],_,h=>by
   simp[eF,h p _]
 | p::q::r,a,h=>by
   simp[eF,aL]at a;change eF _=ag;have:=Cw (e:=e) a.2 λx m=>h x<|bG _ m;simp[eF,aL];show#[a.1,this]
theorem Sy {nr:Int}(n0:0<nr) (n1:nr<=30) (h:n<bx.length) (p b:Int) (ps:Al) (hl:ps.length<=1000) (w:Option W) :
 ∃ e b' q,aiS [xB n,xN nr,xB bx.length,xN b,w] (pt (bx++[.lst zac]) n p)=.nx [xB n,xN nr,xB bx.length,xN b',w] (pt (bx++[.lst<|(ps++[(b,e)]).map dP]) n q) /\ b<e /\ e<=b+nr /\ e<b' /\ b'<=e+nr:=by
 have sz:=bC;let#[r1,p1,t1,m0,m1]:=nF (bx:=bx++[Bx.lst zac]) (n:=n) zo p nr n0 zb;have ap:=Jb (m:=dV 2) (k:=gf<|fc (dV 3)<|fc (d2 af fP (d2 af fP (dV 3) zd)<|fj K1.fk 2<|fc (dV 0) zE) ff) (env:=[xB n,xN nr,xB bx.length,xN b,w]) zj (jB h) (gH [.int b,.int<|b+1+r1] (fg zj<|fg (fH (r:=.old<|.int<|b+1+r1) (fH zj zj zj) (t1 zj zj) zj) zj) (show (2)<=sizeLine by lia)) (jB h) (by rw[a8];lia);rw[C6 h,show ps.map dP++[D.tup [.int b,.int<|b+1+r1]]=(ps++[(b,b+1+r1)]).map dP by simp]at ap;let#[r2,p2,t2,k0,k1]:=nF (bx:=bx++[Bx.lst<|(ps++[(b,b+1+r1)]).map dP]) (n:=n) zo p1 nr n0 zb;have b3:=jB (p:=p1) (x:=.lst<|(ps++[(b,b+1+r1)]).map dP) h;have la:bD ((ps++[(b,b+1+r1)]).map dP) (-1)=ae (dP (b,b+1+r1)):=by
  unfold bD cy;simp;rw[if_pos zb];simp;have:(-1+((ps.length:Int)+1)).toNat=ps.length:=by lia
  rw[this,<-a8 (f:=dP) (as:=ps)];simp
 refine#[b+1+r1,b+1+r1+1+r2,p2,(fA<|iN ap).trans<|gN<|fH (x:=.int<|b+1+r1+1) (y:=.int r2) (r:=.old<|.int<|b+1+r1+1+r2) (fH (x:=.int<|b+1+r1) (y:=.int 1) (r:=.old<|.int<|b+1+r1+1) (fH (x:=dP (b,b+1+r1)) (y:=.int 1) (r:=.old<|.int<|b+1+r1) ?_ zj zj) zj zj) (t2 zj zj) zj,by lia,by lia,by lia,by lia];generalize pt (bx++[.lst<|(ps++[(b,b+1+r1)]).map dP]) n p1=B at b3 ⊢;rw[Nn,show dV 2 [xB n,xN nr,xB bx.length,xN b,w] B=.val (.b bx.length) B from rfl,fQ,Nw rfl,fQ,Tk b3,Bn,bS,bS];change cz af (Option.map Res.old<|bD _<|-1) _=_;rw[la];rfl
structure Ot (op:Al) (m:Int):zk where
 l:op.length<=4
 b:∀ x∈op,0<=x.1 /\ x.1<x.2 /\ x.2<=m
 a:eF op=ag
noncomputable def fB (nr:Int):Nat->Int
 |0=>nr
 |i+1=>fB nr i+2*nr
theorem Ya {nr:Int}(n0:0<nr):∀ {i:Nat},i<=3->fB nr i<=7*nr
 |0,_=>by change nr<=_;lia
 |1,_=>by change nr+2*nr<=_;lia
 |2,_=>by change nr+2*nr+2*nr<=_;lia
 |3,_=>by change nr+2*nr+2*nr+2*nr<=_;lia
theorem Oo {nr:Int}(n0:0<nr) (n1:nr<=30) (h:n<bx.length) (p:Int):∃ ps q,K2.jy [.b n,.d<|.int nr] zV=.val (.d<|.tup zac) (pt bx n q) /\ Ot ps (8*nr):=by
 have sz:=bC;have h0:n<(bx++[Bx.lst []]).length:=by simp;lia
 let#[r0,p1,t0,m0,m1]:=nF h0 p nr n0 zb;let#[y,p2,t4,my]:=aeA h0 p1 [0,1,2,4] (fc zh<|fc zd<|fc zP zW) (λ_ _=>rfl) zj (by decide) zc;let#[c,rfl]:=IV (show 0<=y by simp at my;lia);have hc:c<=4:=by simp at my;lia
 let#[aQ,bx',e2,ps,b,w,q,rfl,rfl,hl,_,_,HF,ha,_]:=lj (g:=fe 4) (λi env bb=>∃ ps b w q,env=[xB n,xN nr,xB bx.length,xN b,w] /\ bb=pt (bx++[.lst zac]) n q /\ ps.length=i /\ 0<=b /\ b<=fB nr i /\ (∀ x∈ps,0<=x.1 /\ x.1<x.2 /\ x.2<=8*nr) /\ eF ps=ag /\ ∀ x∈ps,x.2<b) (fO 0 c) 0 [xB n,xN nr,xB bx.length,xN<|r0,ah] (pt (bx++[.lst<|([]).map dP]) n<|p2) #[[],_,_,_,rfl,rfl,rfl,m0,by change _<=nr;lia,(λx m=>by cases m),rfl,λx m=>by cases m] (by
  rintro i w env bb hw ⟨ps,b,w',q,rfl,rfl,hl,aev,ak7,HF,ha,hb⟩;have hi:i<c:=by
   have:=(List.getElem?_eq_some_iff.mp hw).1;simpa[fO] using this
  let#[e,b',q',ee,o1,o2,o3,o4]:=Sy n0 n1 h q b ps zb<|ae w;refine#[_,_,_,_,rfl,ee,ps++[(b,e)],b',_,q',rfl,rfl,by simp[hl],by lia,by change _<=fB nr (0+i)+2*nr;lia,λx m=>?_,Cw ha hb,λx m=>?_]
  .rcases List.mem_append.mp m with m|m
   .show HF x m
   .rw[ku.mp m];show#[by change 0<=b;lia,o1,by change e<=8*nr;have:=Ya n0 (show 0+i<=3 by lia);lia]
  .rcases List.mem_append.mp m with m|m
   .have:=hb x m;lia
   .rw[ku.mp m];show o3)
 refine#[ps,q,?_,by simp[fO]at hl;lia,HF,ha];refine(mT (ws:=[.b n,.d<|.int nr]) (d:=.tup zac) (bx':=pt (bx++[.lst zac]) n q)<|(fA<|cw.oG<|fg (w:=.b bx.length) (bx1:=pt (bx++[.lst []]) n p) (by rw[<-lu h,<-gq (bx:=bx) (n:=n) (p:=p)];show Bs [] zj (dR _))<|fg (t0 zj zj) zj).trans<|(fA<|(iB (l:=fO 0 c)<|mP (fg (t4 _ 0 zj) zj) zb).trans e2).trans<|fS ?_).trans ?_
 .rw[Ll,fg (w:=.b bx.length) (l:=[]) rfl rfl,fQ];have:kE (pt (bx++[.lst zac]) n q) [.b bx.length]=ae [.lst zac]:=by erw[kE,Tk<|jB (p:=q) (x:=.lst<|ps.map dP) h,bS,ue]
  rw[this];rfl
 .rw[gq,By h]
end bj
namespace qO
open L2 L2.DL K1 K2 dA bu aN cw bj
section
variable {ps op:Al} {N:Nat} {h0 l k r p w h:Int} 
end
end qO
namespace uP
open L2 L2.DL K1 K2 dA bu aN cw bj qO
section
variable {ps op:Al} {l:Int}
variable {Z:Sc rs ks ps hd rl hold kl op gs qs} {h0 k r p w:Int} 
end
open HT
variable {ps K R op:Al} {c:Int} {g:Pg} {l h:Int}
end uP
namespace HT
open PySem.W
section
variable {s:aq}
end
end HT
namespace L2
open PySem.W
section
variable {s:aq} 
end
end L2
namespace L2.DL
open PySem.W
end L2.DL
namespace L2
open PySem.W
end L2
namespace L2.DL
open PySem.W
end L2.DL
namespace uP
open L2 L2.DL
noncomputable section
end
end uP
namespace qO
open L2 L2.DL K1 K2 dA bu aN cw bj
end qO
namespace uP
open L2 L2.DL K1 K2 dA bu aN cw bj qO
section
variable {ps op:Al} 
end
theorem Sz {h:Int}{ps:Al}:∀ {gs:List Pg}{K R:Al}{n:Nat},kG K R n->∃ m,kG (pre h ps K R gs).1 (pre h ps K R gs).2 m /\ m<=n+gs.length:=by
 intro l_;induction l_ with
 |nil=>(intro K R n J;show#[n,J,aH _])
 |cons g gs aD=>
   intro K R n J;unfold pre;split
   .let#[m,j,l]:=aD<|J.nx g;show#[m,j,by rw[bw];lia]
   .show#[n,J,uZ _ _]
section
variable {ps op:Al} 
theorem Cy:∀ R:Al,yI (bB R)=ae R
 |[]=>rfl
 | (a,b)::R=>by
   change (yI<|bB R).map _=_;rw[Cy R];rfl
theorem Op {m:DE W}{R:Al}(h:m env B=.val (.d<|.aG<|bB R) B) (l:R.length<64):HL af m env B=.val (.d<|.lst<|(n8<|R.map λp=>[HT.aI.i p.1,.i p.2]).map dO) B:=by
 unfold HL;rw[h,fQ];have:(qM B<|.d<|.aG _).bind yI=ae R:=(Cy R);erw[this];rw[if_pos l];rfl
end
end uP
namespace K24
open L2 L2.DL K1 K2 dA bu aN cw bj qO uP
section
variable {ps op:Al} 
theorem Tu (Z:Sc rs ks ps hd rl hold kl op gs qs) (d:D):K24.iz [.d za,.d zp,.d zx,.d d] B=if wi d 0 9 then .val (.d .aB) B else .exc 5 B:=by
 have e:=oT d 0 9 B;cases q:wi d 0 9 with
 |true=>
   rw[q]at e;show Tj<|qE (cV<|Om Z)<|qE (cV<|aN.ly Z.X.H Z.G)<|(gz<|gJ<|gm<|cV e)
 |false=>
   rw[q]at e;show Bv<|qE (cV<|Om Z)<|qE (cV<|aN.ly Z.X.H Z.G)<|(i0<|gJ<|gm<|cV e).trans<|Jd zj
theorem VN (Z:Sc rs ks ps hd rl hold kl op gs qs) {h0 l k r p w:Int}(Y:Cm rs ks ps qs kl h0 l k r p w q) (h:Int):∃ x,mO [.d za,.d zp,.d<|.lst<|(d7 ps [] [] qs).map d6,.d zU,.d<|.int h] B=.val (.d<|.int x) B:=by
 let#[y6,y7,y8,y9,lp]:=Jl _ _ _ _ h _ p ah ah ah ah<|Ol λx=>Oj Z.X (qV Y.hq) qs l x;show#[_,fU<|qS (fH zj zj zj)<|(fA<|(iB<|gG<|cV<|Ao (bx:=B) Z.X Z.ol Z.s Z.ok Z.l (h0:=h0) (l:=l) (r:=r) (p:=p) (w:=w) Y.k0 Y.hq).trans lp).trans<|fS zj]
theorem Oq (Z:Sc rs ks ps hd rl hold kl op gs qs) {h0 l k r p w:Int}(Y:Cm rs ks ps qs kl h0 l k r p w q):∃ x,jr [.d za,.d zp,.d<|.lst<|(d7 ps [] [] qs).map d6,.d zU] B=.val (.d x) B:=by
 have sv:=Ao (bx:=B) Z.X Z.ol Z.s Z.ok Z.l (h0:=h0) (l:=l) (r:=r) (p:=p) (w:=w) Y.k0 Y.hq;have lp:=bj.Jm (bx:=B) (ae<|.d za) (ae<|.d zp) (ae<|.d<|.lst<|(d7 ps [] [] qs).map d6) (ae<|.d zU) _ (q.1-p) ah ah ah ah<|Ol (bs:=yV (chg hold op<|taken ps [] [] qs) h0) λx=>Oj (op:=op) Z.X (qV Y.hq) qs l x;have lm:jz [.d za,.d zU] B=.val (.d<|.int q.1) B:=fU<|fS<|fH (r:=.old<|.int q.1) (fH (fH zj zj zj) (fH zj zj zj)<|Tq Z.X Y.k0 Y.hq) zj zj;have t0:∀ {e:aP},e[4]?=ae (xN<|q.1-p)->dB (d2 af dX (dV 4) zh) e B=.val (decide (q.1-p<=0)) B:=λh=>gm<|fH (r:=.old<|.bl<|decide (q.1-p<=0)) (by rw[jE,h]) zj zj;have s1:=fH (g:=cB) (env:=[ae<|.d za,ae<|.d zp,ae<|.d<|.lst<|(d7 ps [] [] qs).map d6,ae<|.d zU,ah,ah,ah,ah,ah]) (m:=fj bj.jz 2<|fc (dV 0) zam) (k:=d2 af aA (dV 3)<|dC<|.int 5) (cV lm) (fH zj zj zj) zj;cases c:decide (q.1-p<=0) with
 |true=>
   rw[c]at t0;show#[_,fU<|qS s1<|qR (t0 zj)<|yS (.aZ h0 l k r p w) zj]
 |false=>
   rw[c]at t0;refine#[oI<|xc (q.1-p)<|yR (uO rl hold op q.2 ps qs l)<|yV (chg hold op<|taken ps [] [] qs) h0,fU<|qS s1<|qF (t0 zj) ?_];rw[jv]at lp ⊢;rw[iB<|gG<|cV sv];show lp
noncomputable def Due (o:O W) (B:List Bx):List (Nat×Bool)->zk
 |[]=>∃ x,o=.val (.d x) B
 |(c,ag)::l=>Due o B l
 |(c,af)::_=>o=.exc c B
theorem Os (Z:Sc rs ks ps hd rl hold kl op gs qs) (d t:D):Due (K24.iZ [.d za,.d zp,.d zx,.d d,.d t] B) B [(5,wi d 0 9),(3,hr t)]:=by
 have ln:=Tu (B:=B) Z d;have nh:=K2.Am (bx:=B) t;cases q1:wi d 0 9 with
 |false=>
   rw[q1]at ln;show Bv<|Jc<|Bu<|ls zj zj ln
 |true=>
 rw[q1]at ln;cases q2:hr t with
 |false=>
   rw[q2]at nh;show Bv<|qE (cV ln)<|Jc<|Bu<|ls zj zj nh
 |true=>
 rw[q2]at nh;let#[l,rfl,l0,l9]:=lc q1;let#[h,rfl,h0]:=C5 q2;have cv:=On (bx:=B) Z l;have sv:=Df (bx:=B) Z;obtain⟨S,hS⟩:∃ S,S=D.lst ((d7 ps [] [] qs).map d6):=#[_,rfl];rw[<-hS]at cv sv;cases c:Qk ps qs l with
 |none=>
   rw[c]at cv;show#[_,Bw<|qE (cV ln)<|qE (cV nh)<|qS (cV sv)<|qS (cV cv)<|qR (Nu zj) zj]
 |some g=>
   rw[c]at cv;let#[a0,k,r,p,w,q,rfl,Y,_,_]:=Tt Z c;let#[x,rv]:=VN Z Y h;rw[<-hS]at rv;have n2:=λ(e:aP) (a:e[6]?=ae (ae<|.d<|enc<|.aZ a0 l k r p w)) (b:e[4]?=ae (xN h))=>gm<|fH (g:=kP) (x:=.int a0) (r:=.old<|.bl<|decide (h<a0)) (bx:=B) (yS (.aZ a0 l k r p w) a) (k:=dV 4) (by rw[jE,b]) (by simp[kP]);by_cases y:h<a0
   .rw[decide_eq_true y]at n2;show#[_,Bw<|qE (cV ln)<|qE (cV nh)<|qS (cV sv)<|qS (cV cv)<|qR (ja zj<|n2 _ zj zj) zj]
   .rw[decide_eq_false y]at n2;show#[_,Bw<|qE (cV ln)<|qE (cV nh)<|qS (cV sv)<|qS (cV cv)<|qF (ja zj<|n2 _ zj zj)<|fS<|cV rv]
theorem Fj (Z:Sc rs ks ps hd rl hold kl op gs qs) (d:D):Due (K24.iA [.d za,.d zp,.d zx,.d d] B) B [(5,wi d 0 9)]:=by
 have ln:=Tu (B:=B) Z d;cases q1:wi d 0 9 with
 |false=>
   rw[q1]at ln;show Bv<|Jc<|Bu<|ls zj zj ln
 |true=>
 rw[q1]at ln;let#[l,rfl,l0,l9]:=lc q1;have cv:=On (bx:=B) Z l;have sv:=Df (bx:=B) Z;obtain⟨S,hS⟩:∃ S,S=D.lst ((d7 ps [] [] qs).map d6):=#[_,rfl];rw[<-hS]at cv sv;cases c:Qk ps qs l with
 |none=>
   rw[c]at cv;show#[_,Bw<|qE (cV ln)<|qS (cV sv)<|qS (cV cv)<|qR zj zj]
 |some g=>
   rw[c]at cv;let#[a0,k,r,p,w,q,rfl,Y,_]:=Tt Z c;let#[t,e]:=Oq Z Y;rw[<-hS]at e;show#[_,Bw<|qE (cV ln)<|qS (cV sv)<|qS (cV cv)<|qF zj<|fS<|cV e]
theorem Ov (Z:Sc rs ks ps hd rl hold kl op gs qs) (t:D):Due (K24.mh [.d za,.d zx,.d t] B) B [(3,hr t)]:=by
 have nh:=K2.Am (bx:=B) t;have np:=aN.ly (bx:=B) Z.X.H Z.G;cases q2:hr t with
 |false=>
   rw[q2]at nh;show Bv<|qE (cV np)<|Jc<|Bu<|ls zj zj nh
 |true=>
 rw[q2]at nh;let#[h,rfl,h0]:=C5 q2;let#[m,J,ml]:=Sz (h:=h) (ps:=ps) (gs:=qs) ZN;have zl:=Z.l;have lr:=J.lr;have rv:=cw.Jj (bx:=B) (h:=h) (S:=sj ps [] [] qs) Z.s Z.l Cs;rw[N9]at rv;show#[_,Bw<|qE (cV np)<|qE (cV nh)<|qS (fM (fg (fM zj zj<|Df Z) zj) zj rv)<|fS<|uP.Op zj zb]
end
noncomputable abbrev fld (h K Od:D) (e:Nat):List (Str×(D ⊕ Nat)):=[("home",.inl h),("kept",.inl K),("dark_hours",.inl Od),("earlier",.inr e)]
abbrev bk (L:List Bx) (C:ai) (h K Od:D) (er:List D):List Bx:=L++[.lst er,.ins C<|fld h K Od L.length]
section
variable {L:List Bx} {h K Od:D} {er:List D} {i:Nat}
theorem Go:(bk L C h K Od er)[L.length+1]?=ae (.ins C<|fld h K Od L.length):=by simp
theorem Yb:(bk L C h K Od er)[L.length]?=ae (.lst er):=by simp
theorem Yc {eT:List D}:(bk L C h K Od er).set L.length (.lst eT)=bk L C h K Od eT:=by simp
theorem Tv {fs:List (Str×(D ⊕ Nat))}:(bk L C h K Od er).set (L.length+1) (.ins C fs)=L++[.lst er,.ins C fs]:=by simp
theorem Gp {K' Od':D}{eT:List D}:(bk L C h K' Od' eT).length=(bk L C h K Od er).length:=by simp
theorem Dg (he:env[i]?=ae (xB<|L.length+1)):cU C (dV i) "home" env zX=.val (.d h) zX:=by
 unfold cU;rw[jE,he,fQ];erw[Go];rfl
theorem oY (he:env[i]?=ae (xB<|L.length+1)):cU C (dV i) "kept" env zX=.val (.d K) zX:=by
 unfold cU;rw[jE,he,fQ];erw[Go];rfl
theorem mU (he:env[i]?=ae (xB<|L.length+1)):cU C (dV i) "dark_hours" env zX=.val (.d Od) zX:=by
 unfold cU;rw[jE,he,fQ];erw[Go];rfl
theorem VO (he:env[i]?=ae (xB<|L.length+1)):cU C (dV i) "earlier" env zX=.val (.b L.length) zX:=by
 unfold cU;rw[jE,he,fQ];erw[Go];rfl
theorem VP (he:env[i]?=ae (xB<|L.length+1)) {v:DE W}{K':D}(hv:v env zX=.val (.d K') zX):qj C (dV i) "kept" v env zX=.nx env (bk L C h K' Od er):=by
 unfold qj;rw[hv,iM,jE,he,iM];erw[Go];show congrArg _ Tv
theorem VQ (he:env[i]?=ae (xB<|L.length+1)) {v:DE W}{Od':D}(hv:v env zX=.val (.d Od') zX):qj C (dV i) "dark_hours" v env zX=.nx env (bk L C h K Od' er):=by
 unfold qj;rw[hv,iM,jE,he,iM];erw[Go];show congrArg _ Tv
theorem iC {nm:Str}{k:DE zah}{ws:List W}{o:O W}(he:env[i]?=ae (xB<|L.length+1)) (hk:k env zX=.val ws zX) (hf:fn (.b (L.length+1)::ws) zX=o) (hn:((fld h K Od L.length).lookup nm).isNone=ag:=by rfl) (hl:ws.length+1=n:=by rfl):kg C fn nm n (dV i) k env zX=o:=by
 unfold kg;rw[jE,he,fQ];erw[Go];rw[if_pos #[trivial,hn],hk,fQ,if_pos hl,hf]
theorem Jn {m:az}{ws:List W}{bx':List Bx}{e:aP}(h:m zK bx=.nx e bx') (l:bx'.length=bx.length):aM n (aO m) ws bx=.val (.d .aB) bx':=by
 simp[aM,aO,DL.envOf,h,nj,nq];rw[<-l,vX]
theorem oH {l:List D}:jt C [.b<|L.length+1] (bk L C h (.tup l) Od er)=.val (.d<|.lst l) (bk L C h (.tup l) Od er):=
 fU (fS<|iF (r:=.lst l) [.tup l] (fg (oY zj) zj) zj)
theorem Ow {P Q:D}{K' Od':List D}(hp:cT [P]=ae (.lst K')) (hq:cT [Q]=ae (.lst Od')) (hl:er.length<1000) :
 l7 C [.b<|L.length+1,.d P,.d Q] zX=.val (.d .aB) (bk L C h (.tup K') (.tup Od')<|er++[.tup [K,Od]]):=by
 have sz:=bC;have a:=Jb (k:=gf<|fc (cU C (dV 0) "kept")<|fc (cU C (dV 0) "dark_hours") ff) (VO (h:=h) (er:=er) (env:=[xB<|L.length+1,ae<|.d P,ae<|.d Q]) (i:=0) zj) Yb (gH [K,Od] (fg (oY zj)<|fg (mU zj) zj) zo) Yb zb;rw[Yc]at a;show Jn (qE a<|(fA<|VP zj<|iF [.lst K'] (fg (iF [P] zj hp) zj) zj).trans<|VQ zj<|iF (r:=.tup Od') [.lst Od'] (fg (iF (r:=.lst Od') [Q] zj hq) zj) zj) Gp
theorem aeL {a:List D}{x:D}(h:a.length<=1000):fP (.tup a) (.tup [x])=ae (.tup<|a++[x]):=by
 have sz:=bC;change (if a.length+1<=sizeLine then ae _ else ah)=_;rw[if_pos zb]
end
theorem AH {l:List D}:cT [.tup l]=cT [.lst l]:=rfl
theorem Yd (g:Pg):(toPy<|enc g).canLay0=ag /\ (toPy<|enc g).depth<=1:=by
 have a:PyData.strOk (Str.ofString "out")=ag:=by decide +kernel
 have b:PyData.strOk (Str.ofString "in")=ag:=by decide +kernel
 have c:PyData.strOk (Str.ofString "to")=ag:=by decide +kernel
 cases g<;>simp[a,b,c,enc,dO,kQ,cP,toPy,nu,PyData.canLay0,PyData.canLayAll0,PyData.depth,PyData.depthAll]
theorem SA:∀ l:List Pg,PyData.canLayAll0 (nu<|l.map enc)=ag /\ PyData.depthAll (nu<|l.map enc)<=1:=by
 intro l_;induction l_ with
 |nil=>show#[rfl,dR _]
 |cons q l aD=>
   let#[a,b]:=Yd q;let#[c,d]:=aD;erw[aU,nu,PyData.canLayAll0,PyData.depthAll,a,c];show#[rfl,by lia]
theorem VR {g:Pg}{l:List Pg}(h:g∉l):inD af (enc g) (.tup<|l.map enc)=ae (.old<|.bl af):=by
 have fl:ka (enc g)=af:=by cases g<;>rfl
 change (if ka (enc g)=ag /\ (l.map enc).all ka=ag then ae (Res.old<|.bl (if af=ag then !nE (enc g) (l.map enc) else nE (enc g) (l.map enc))) else uK af (enc g) (.tup<|l.map enc) (l.map enc))=_;rw[if_neg (λz=>by rw[fl]at z;cases z.1)];unfold uK;have any:((l.map enc).any λz=>eqv z<|enc g)=af:=by
  rw[Iq];intro z m e;let#[x,mx,rfl]:=bE.mp m;refine h ?_;have:x=g:=by
   cases x<;>cases g<;>simp[eqv,enc,dO,kQ,cP,toPy,nu,PyData.eqv,PyData.eqvAll]at e ⊢<;>simp[e]
  rw[<-this];show mx
 let#[a1,a2]:=Yd g;let#[b1,b2]:=SA l;rw[any,show eN (enc g)=ag by unfold eN;rw[a1,abg,decide_eq_true_eq];lia,show eN (.tup<|l.map enc)=ag by
  unfold eN;erw[toPy,PyData.canLay0,PyData.depth,decide_eq_true_eq];lia]
 rfl
section
variable {ps:Al} {L:List Bx} {Od:D} {er:List D} {g:Pg}
theorem VS (ok:rZ rs.length ks.length g) (ni:g∉qs) (nd:qs.Nodup) (hl:qs.length<16) {Od':List D}(ho:cT [Od]=ae (.lst Od')) (he:er.length<900) :
 ∃ d8,d8.Perm (qs++[g]) /\ rY d8 /\ l8 C [.b<|L.length+1,.d<|enc g] (bk L C za (.tup zaq) Od er)=.val (.d .aB) (bk L C za (.tup<|d8.map enc) (.tup Od')<|er++[.tup [.tup zaq,Od]]):=by
 have sz:=bC;have pb:(qs++[g]).Nodup:=by
  rw[sH];show#[nd,by simp,λa ma b mb e=>ni (by rw[<-ku.mp mb,<-e];show ma)]
 let#[d8,p,r,so]:=AE pb (by rw[bQ];change qs.length+1<64;lia);refine#[d8,p,r,?_];have kv:=Ow (C:=C) (h:=hs rs ks ps hd) (K:=.tup zaq) (Od:=Od) (L:=L) (er:=er) (by rw[AH];show so _ (.refl _)) ho zb;refine Jn (qE (iC zj (fg zj zj)<|Jn ((gz<|gJ<|gm<|fM (fg (Dg zj)<|fg zj zj) zj<|NS g ok).trans zj) zj)<|qF (gm<|fH zj (oY zj)<|VR ni)<|qF (gm<|fH (r:=.old<|.bl af) (iF [.tup zaq] (fg (oY zj) zj) zj) zj ?_)<|iN<|iC zj (fg (fH (x:=.tup zaq) (y:=.tup [enc g]) (r:=.tup<|(qs++[g]).map enc) (oY zj) (gH [enc g] zj zo) ?_)<|fg (mU zj) zj) kv) Gp
 .simp[nZ];lia
 .rw[aeL (by rw[a8];lia),Ey];rfl
end
open HT
theorem Fk:∀ {op:Al},eF op=ag->(∀ p∈op,p.1<p.2)->op.Pairwise λa b=>a.2<b.1
 |[],_,_=>.nil
 |[p],_,_=>abo ..
 | p::q::r,a,h=>by
   simp[eF,aL,decide_eq_true_eq]at a;have ih:=Fk a.2 λx m=>h x<|bG _ m;refine List.pairwise_cons.mpr #[λx m=>?_,ih];rcases bz.mp m with rfl|m
   .show a.1
   .have:=(List.pairwise_cons.mp ih).1 x m;have:=h q zg;lia
theorem Fl:∀ {op:Al},(op.Pairwise λa b=>a.2<b.1)->eF op=ag
 |[],_=>rfl
 |[p],_=>rfl
 | p::q::r,h=>by
   simp[eF,aL,decide_eq_true_eq];show#[((List.pairwise_cons.mp h).1 q<|bN ..),Fl (List.pairwise_cons.mp h).2]
theorem SC {op:Al}(hl:op.length<64) (h:op.Pairwise λa b=>a.2<b.1) (hp:∀ p∈op,p.1<p.2):cT [.lst<|op.map dP]=ae (.lst<|op.map dP):=by
 cases op with
 |nil=>simp[cT,tL,intsOf,sortI]
 |cons p ps=>
   have nM:rN ((p::ps).map rP)=ag:=by
    unfold rN;rw[bR];intro a ma;let#[x,_,rfl]:=bE.mp ma;rw[bR];intro b mb;let#[y,_,rfl]:=bE.mp mb;rfl
   unfold cT;erw[Bt,bS,nM,a8,and_true,if_pos hl];rw[<-(jw nM (.refl _) (by
    rw[ub];refine XM (λ{a b} ma mb h=>?_) h;have ha:=hp a ma;have lt:cD (rP a) (rP b)=ag:=by
     change cD [aI.i a.1,.i a.2] [aI.i b.1,.i b.2]=ag;unfold cD;rw[if_neg (by intro z;injection z with z;lia)];show decide_eq_true zb
    rw[<-Ax _ _ rfl]at lt;cases c:lexLt (bh<|rP b) (bh<|rP a) with
    |false=>rfl
    |true=>show absurd (lJ _ _ _ lt c) (by rw[jm];decide))),bO]
   rfl
theorem Ye (ps:List<|Int×Int) (n:ps.length<=1000) (bx:List Bx):K2.im [.d<|.lst zac] bx=.val (.d<|.bl<|eF ps) bx:=
 fU (by
  have sz:=bC;have cut:DL.cutD zac (ae 1) ah=ps.tail.map dP:=by
   cases ps with
   |nil=>rfl
   |cons p ps=>
     have:=K1.Fc ((p::ps).map dP) 1 zg;simpa using this
  cases ps with
  |nil=>simp[K2.gK,tJ,qL,nC,bL,dM,pN,eF]
  |cons p ps=>
    have c:=K1.oF (g:=gj 2<|fm (fe 0)<|fm (fe 1) gn) (te:=d2 af dt zar<|d2 af aA (dV 1) zh) (bx:=bx) (l:=((p::ps).zip ps).map λx=>D.tup [dP x.1,dP x.2]) (λe=>∃ a b,e=[a,b]) (λd=>.bl (match d with|.tup [.tup [_,.int i],.tup [.int j,_]]=>decide (i<j)|_=>af)) #[ah,ah,rfl] (by
     intro d m e ⟨a,b,je⟩;let#[x,_,rfl]:=bE.mp m;show#[[ae<|.d<|dP x.1,ae<|.d<|dP x.2],by simp[je],#[_,_,rfl],by simp[aA,bD,cy,dt]]) (by
     rw[a8,Xe];simp at n ⊢;lia)
    rw[bO]at c;have r:(qL<|fc (dV 0)<|fc (qi af (dV 0) (qh zd) qC) ff) [ae<|W.d<|.lst<|(p::ps).map dP] bx=.val (((p::ps).zip ps).map λx=>W.d<|.tup [dP x.1,dP x.2]) bx:=by
     unfold qL;rw[fg (l:=[.d<|.lst zac]) rfl<|fg (Nv (r:=.lst zac) rfl (G6 rfl) rfl (by rw[tJ,cut];rfl)) rfl,fQ,<-(K2.oV p ps)]
    change K2.gK [ae<|W.d<|.lst<|(p::ps).map dP] bx=_;unfold K2.gK;refine fS ?_;refine(iF (r:=.old<|.bl<|eF (p::ps)) [.lst _] (fg (gO r zj c) zj) ?_);rw[bO];have:=K1.all_map (((p::ps).zip ps).map λx=>D.tup [dP x.1,dP x.2]) λd=>match d with|.tup [.tup [_,.int i],.tup [.int j,_]]=>decide (i<j)|_=>af;rw[bO,vZ]at this;rw[K2.oW];show this)
section
variable {ps:Al} {L:List Bx} {er:List D} {os:Al} {x y:Int}
theorem VT (nd:qs.Nodup) (hl:qs.length<=16) (x0:0<=x) (xy:x<y) (pw:(os++[(x,y)]).Pairwise λa b=>a.2<b.1) (hp:∀ p∈os,p.1<p.2) (ol:os.length<4) (he:er.length<900) :
 ∃ d8,d8.Perm qs /\ rY d8 /\ mf C [.b<|L.length+1,.d<|.int x,.d<|.int y] (bk L C za (.tup zaq) (.tup<|os.map dP) er)=.val (.d .aB) (bk L C za (.tup<|d8.map enc) (.tup<|(os++[(x,y)]).map dP)<|er++[.tup [.tup zaq,.tup<|os.map dP]]):=by
 have sz:=bC;let#[d8,p,r,so]:=AE nd zb;have aeM:=SC (by rw[bQ];change os.length+1<64;lia) pw (λq m=>by
  rcases List.mem_append.mp m with m|m
  .show hp q m
  .rw[ku.mp m];show xy)
 refine#[d8,p,r,?_];have kv:=Ow (C:=C) (h:=hs rs ks ps hd) (K:=.tup zaq) (Od:=.tup<|os.map dP) (L:=L) (er:=er) (by rw[AH];show so _ (.refl _)) (by rw[AH];show aeM) zb;have ad:fP (.tup<|os.map dP) (.tup [dP (x,y)])=ae (.tup<|(os++[(x,y)]).map dP):=by rw[aeL (by rw[a8];lia),Ey];rfl
 have io:=Vn (dP (x,y))<|bk L C za (.tup zaq) (.tup<|os.map dP) er;rw[show vL (dP (x,y))=ag by simp[vL];lia]at io;have li:=Ye (os++[(x,y)]) (by rw[bQ];change os.length+1<=1000;lia)<|bk L C za (.tup zaq) (.tup<|os.map dP) er;rw[Fl pw]at li;refine Jn (qS (gH [.int x,.int y] zj zo)<|qF (ja (gJ<|gm<|cV io)<|gJ<|gm<|fM (fg (iF (r:=.lst<|(os++[(x,y)]).map dP) [.tup<|(os++[(x,y)]).map dP] (fg (fH (mU zj) (gH [dP (x,y)] zj zo) ad) zj) (by rw[AH];show aeM)) zj) zj li)<|qF (gm<|fH (r:=.old<|.bl af) (iF [.tup<|os.map dP] (fg (mU zj) zj) zj) zj ?_)<|iN<|iC zj (fg (oY zj)<|fg (fH (r:=.tup<|(os++[(x,y)]).map dP) (mU zj) (gH [dP (x,y)] zj zo) ad) zj) kv) Gp;simp[nZ];lia
theorem fset {fs:List (Str×(D ⊕ Nat))}{v:DE W}{f:Str}{d:D}(he:env[0]?=ae (xB bx.length)) (hv:v env (bx++[.ins C fs])=.val (.d d) (bx++[.ins C fs])) (hl:fs.length<1000) :
 qj C (dV 0) f v env (bx++[.ins C fs])=.nx env (bx++[.ins C<|vE f (.inl d) fs]):=by
 unfold qj;rw[hv,iM,jE,he,iM];erw[abF];rw[if_pos #[trivial,hl],abG _ _<|aH _,nO];rfl
theorem VU (H:Hs rs ks ps hd) {k:DE zah}(hk:k env bx=.val [.d za] L):yz C "earlier" (oC C) k env bx=.val (.b<|L.length+1) (bk L C za (.tup []) (.tup []) []):=by
 have et:∀ b,gf ff (yx L.length za) b=.val (.d<|.tup []) b:=λb=>gH [] zj<|dR _;have m:oC C (yx L.length za) (L++[.ins C []])=.nx (yx L.length za) (L++[.ins C [("home",.inl za),("kept",.inl<|.tup []),("dark_hours",.inl<|.tup [])]]):=
  qE (cV<|aN.lw H) ((fA<|fset zj zj zg).trans<|(fA<|fset (fs:=[("home",.inl za)]) zj (et _) zg).trans<|(fA<|fset (fs:=[("home",.inl za),("kept",.inl<|.tup [])]) zj (et _) zg))
 unfold yz;rw[hk,fQ];erw[m,List.getLast?_concat];rw[if_pos #[rfl,rfl,by simp]];rfl
end
def wd:List (Nat×Bool)->Str
 |[]=>""
 |(_,ag)::l=>wd l
 |(c,af)::_=>wordOf c
theorem Due.to {o o':O W}{B:List Bx}(h1:∀ c,o=.exc c B->o'=.exc c B) (h2:∀ x,o=.val (.d x) B->o'=.val (.d x) B):∀ {l:List (Nat×Bool)},Due o B l->Due o' B l
 |[],⟨x,e⟩=>#[x,h2 x e]
 |(c,ag)::l,h=>Due.to h1 h2 (l:=l) h
 |(c,af)::l,h=>h1 c h
theorem mz {m:DE W}{b:az}{env:aP}{B:List Bx}(hb:b env B=fX m env B):∀ {l:List (Nat×Bool)},(∀ q∈l,q.1<17)->Due (m env B) B l->fq (vD b) (fF<|dC<|.str "") env B=.rt (.d<|.str<|wd l) B
 |[],_,⟨x,e⟩=>(fA (by unfold vD;rw[hb,iN e]))
 |(c,ag)::l,hl,h=>mz hb (l:=l) (λq m=>hl q<|bG _ m) h
 |(c,af)::l,hl,h=>i9 (by unfold vD;rw[hb,Bu h];show if_pos (hl (c,af)<|bN ..))
def wy (k:Nat) (d t:D):List (Nat×Bool):=if k=0 \/ k=2 then [(5,wi d 0 9),(3,hr t)] else if k=1 \/ k=3 then [(5,wi d 0 9)] else [(3,hr t)]
section
variable {ps op:Al} {q2:List Pg} {L:List Bx} {er:List D}
theorem Ox {k:Nat}{ws l:List W}{as:List (Nat×Bool)}(hm:m zK B=.val l B) (hl:l.length=k) (h:Due (fn l B) B as):Due (aM n (fF<|fj fn k m) ws B) B as:=
 h.to (λc e=>Bv<|WR<|ls hm hl e) λx e=>Bw<|fS<|fM hm hl e
theorem VW (Z:Sc rs ks ps hd rl hold kl op gs qs) (Y:Sc rs ks ps hd rl hold kl op q2 qs) (d t:D) {k:Nat}(hk:k<5) :
 jA C [.d<|.int k,.d za,.d zp,.d zx,.b<|L.length+1,.d d,.d t] (bk L C za (.tup<|q2.map enc) zp er)=.val (.d<|.str<|wd<|wy k d t) (bk L C za (.tup<|q2.map enc) zp er):=by
 have w5:∀ q∈wy k d t,q.1<17:=by
  unfold wy;split
  .simp
  .split<;>simp
 refine fU ?_;rcases k with _|_|_|_|_|k
 .show mz (i0 zj) w5<|(Os (B:=bk L C _ _ _ er) Z d t).to (λc e=>ls zj zj e) λx e=>cV e
 .show mz ((gz zj).trans<|i0 zj) w5<|(Fj (B:=bk L C _ _ _ er) Z d).to (λc e=>ls zj zj e) λx e=>cV e
 .show mz ((gz zj).trans<|(gz zj).trans<|i0 zj) w5<|(Ox (fg (Dg zj)<|fg (mU zj)<|fg (iC zj zj oH)<|fg zj<|fg zj zj) zj<|Os Y d t).to (λc e=>iC zj zj e) λx e=>iC zj zj e
 .show mz ((gz zj).trans<|(gz zj).trans<|(gz zj).trans<|i0 zj) w5<|(Ox (fg (Dg zj)<|fg (mU zj)<|fg (iC zj zj oH)<|fg zj zj) zj<|Fj Y d).to (λc e=>iC zj zj e) λx e=>iC zj zj e
 .show mz ((gz zj).trans<|(gz zj).trans<|(gz zj).trans<|gz zj) w5<|(Ox (fg (Dg zj)<|fg (iC zj zj oH)<|fg zj zj) zj<|Ov Y t).to (λc e=>iC zj zj e) λx e=>iC zj zj e
 .lia
theorem Yf (d t:D) {k:Nat}(hk:k<5):lb [.d<|.int k,.d d,.d t] B=.val (.d<|.str<|wd<|wy k d t) B:=by
 have a:∀ {e}{b},e[1]?=ae (ae<|.d d)->wi d 0 9=b->dU (dB<|fj K1.iS 3<|fc (dV 1)<|fc zh<|fc (dC<|.int 9) ff) e B=.val (!b) B:=λ{e b} h q=>gJ<|gm<|fM (fg (by rw[jE,h]) zj) zj (by rw[<-q];show(Gf d 0 9 B));have c:∀ {e}{b},e[2]?=ae (ae<|.d t)->hr t=b->dB (fj K2.ip 1 zM) e B=.val b B:=λ{e b} h q=>gm<|fM (fg (by rw[jE,h]) zj) zj (by rw[<-q];show(NI t B));have aZ:∀ (k) (b),decide (k∈[(1),3])=b->inD af (.int k) (.tup [.int 1,.int 3])=ae (.old<|.bl b):=λk b h=>by rw[<-h];show R8 af [1,3] k
 have i2:∀ {b},decide ((k:Int)∈[(1),3])=b->dB (d2 af (inD af) (dV 0)<|gf<|fc zd<|fc zB ff) [xN k,ae<|.d d,ae<|.d t] B=.val b B:=λ{b} h=>gm<|fH zj (gH [.int 1,.int 3] zj (by have:=bC;simp;lia))<|aZ k b h;refine fU ?_;change Cn [xN k,ae<|.d d,ae<|.d t] B=_;unfold wy;cases q1:wi d 0 9<;>cases q2:hr t<;>(rcases k with _|_|_|_|_|k)<;>first
  |show qR (jF zj<|a zj q1) zj
  |show qF (jF zj<|a zj q1)<|fS<|Je (Nu<|i2 zj) zj
  |show qF (jF zj<|a zj q1)<|fS<|Je (ja (i2 zj)<|c zj q2) zj
  |show qF (jF zj<|a zj q1)<|fS<|NL (ja (i2 zj)<|c zj q2) zj
  |show qF (lS zj)<|fS<|Je (ja (i2 zj)<|c zj q2) zj
  |show qF (lS zj)<|fS<|NL (ja (i2 zj)<|c zj q2) zj
  |lia
end
abbrev aeN (C:ai):az:=(fX<|kg C (K24.l8 C) "tell" 2 (dV 6)<|fc (dV 7) ff)
abbrev aeO (C:ai):az:=(fX<|kg C (K24.mf C) "dark" 3 (dV 6)<|fc (dV 8)<|fc (dV 9) ff)
abbrev Ql (C:ai):az:=zat
abbrev ltB (C:ai):az:=(gT (bP<|gF af<|fc (dC<|.int 4)<|fc (d2 af aA (dV 10)<|fj K1.fk 2<|fc (dV 2)<|fc (dC<|.int 13) ff)<|fc (d2 af aA (dV 10)<|fj K1.fk 2<|fc (dV 2)<|fc (dC<|.int 13) ff) ff) (fe 12)<|gT (dW<|fc (dC<|.int 5) ff) (fe 13)<|Ql C)
abbrev aeP (C:ai):az:=(fq (fJ (fj K1.j0 1<|fc (fj K1.ig 2<|fc (dV 0) zE) ff)<|fe 2)<|fq (fJ (fj aN.jd 1 zM)<|fe 3)<|fq (kO 4 5<|fc (fj K2.jy 2<|fc (dV 2)<|fc (dC<|.int 20) ff)<|fc (fj aN.jf 4<|fc (dV 2)<|fc (dV 3)<|fc (dC<|.int 10)<|fc (dC<|.int 30) ff) ff)<|fq (fJ (yz C "earlier" (K24.oC C) zam)<|fe 6)<|fq (gT (bP<|dV 5) (fe 7)<|aeN C)<|fq (gT (bP<|dV 4) (gj 2<|fm (fe 8)<|fm (fe 9) gn)<|aeO C)<|fq (fJ (gF af zq)<|fe 10)<|gT (bP<|dV 10) (fe 11)<|ltB C)
theorem YI (C:ai):Tf C=fq (gT (dW<|fc (dN af maxD<|fc zd<|fc (dN af minD<|fc (uF<|dV 0)<|fc (dC<|.int 6) ff) ff) ff) (fe 1)<|aeP C) (fF<|dC<|.bl ag):=rfl
noncomputable abbrev lE (l:List Int) (k:Int) (n:Nat) (H Ou P:D) (j:Nat) (x7 x8 x9 x10 sf x12 x13:Option W):aP:=[ae<|.s l,ae<|.d<|.int k,ae<|.b n,ae<|.d H,ae<|.d Ou,ae<|.d P,ae<|.b j,x7,x8,x9,x10,sf,x12,x13]
section
variable {ps op:Al} {Ou P:D} {q2:List Pg} {L:List Bx} {er:List D} {l:List Int} {k:Int} {x10 sf x12 x13:Option W}
theorem tells (ok:∀ g∈gs,rZ rs.length ks.length g) (x8 x9:Option W):∀ (g2 g1 qs:List Pg) (er:List D) (x7:Option W),gs=g1++g2->gs.Nodup->gs.length<=16->qs.Perm g1->rY qs->er.length=g1.length ->
 ∃ d8 eT y7,cq (fe 7) (aeN C) ((g2.map enc).map W.d) (lE l k n za Ou P (L.length+1) x7 x8 x9 x10 sf x12 x13) (bk L C za (.tup zaq) (.tup []) er)=.nx (lE l k n za Ou P (L.length+1) y7 x8 x9 x10 sf x12 x13) (bk L C za (.tup<|d8.map enc) (.tup []) eT) /\ d8.Perm gs /\ rY d8 /\ eT.length<=16:=by
 intro l_;induction l_ with
 |nil=>
   intro g1 qs er x7 eg _ hl p r el;rw[qv]at eg;show#[qs,er,x7,rfl,by rw[eg];show p,r,by rw[el,<-eg];show hl]
 |cons g g2 aD=>
   intro g1 qs er x7 eg nd hl p r el;have lg:g1.length+(g2.length+1)<=16:=by rw[eg,bQ]at hl;show hl
   have pb:=nd;rw[eg,sH]at pb;let#[q3,p3,r3,e3]:=VS (er:=er) (Od:=.tup []) (Od':=[]) (ok g (by rw[eg];simp)) (λm=>pb.2.2 g (p.mem_iff.mp m) g (bN ..) zj) (p.nodup_iff.mpr pb.1) (by rw[p.length_eq];lia) (by simp[cT,tL,intsOf,sortI]) zb;let#[d8,eT,y7,e,a,b,c]:=aD (g1++[g]) q3 (er++[.tup [.tup zaq,.tup []]]) zL (by rw[sD];show eg) nd hl (p3.trans<|p.append<|.refl _) r3 (by rw[bQ,bQ,el];rfl);show#[d8,eT,y7,(iO zj<|iN<|iC zj (fg zj zj) e3).trans e,a,b,c]
theorem ai6 (pw:op.Pairwise λa b=>a.2<b.1) (ob:∀ p∈op,0<=p.1 /\ p.1<p.2) (ol:op.length<=4) (nd:gs.Nodup) (hl:gs.length<=16) (x7:Option W):∀ (o2 o1:Al) (qs:List Pg) (er:List D) (x8 x9:Option W),op=o1++o2->qs.Perm gs->rY qs->er.length+o2.length<=100 ->
 ∃ d8 eT y8 y9,cq (gj 2<|fm (fe 8)<|fm (fe 9) gn) (aeO C) ((o2.map dP).map W.d) (lE l k n za Ou P (L.length+1) x7 x8 x9 x10 sf x12 x13) (bk L C za (.tup zaq) (.tup<|o1.map dP) er)=.nx (lE l k n za Ou P (L.length+1) x7 y8 y9 x10 sf x12 x13) (bk L C za (.tup<|d8.map enc) zp eT) /\ d8.Perm gs /\ rY d8:=by
 intro l_;induction l_ with
 |nil=>
   intro o1 qs er x8 x9 eo p r _;rw[qv]at eo;show#[qs,er,x8,x9,by rw[<-eo];rfl,p,r]
 |cons q o2 aD=>
   intro o1 qs er x8 x9 eo p r le;rw[bw]at le;have mq:q∈op:=by rw[eo];simp
   have aeQ:=pw;rw[eo,show o1++q::o2=(o1++[q])++o2 by simp]at aeQ;have o4:o1.length+(o2.length+1)<=4:=by rw[eo,bQ]at ol;show ol
   let#[q3,p3,r3,e3]:=VT (er:=er) (p.nodup_iff.mpr nd) (by rw[p.length_eq];show hl) (ob q mq).1 (ob q mq).2 (List.pairwise_append.mp aeQ).1 (λx m=>(ob x (by rw[eo];show pU _ m)).2) zb zb;let#[d8,eT,y8,y9,e,a,b]:=aD (o1++[q]) q3 (er++[.tup [.tup zaq,.tup<|o1.map dP]]) (xN q.1) (xN q.2) (by rw[sD];show eo) (p3.trans p) r3 (by rw[bQ];change er.length+1+o2.length<=100;lia);show#[d8,eT,y8,y9,(iO zj<|iN<|iC zj (fg zj<|fg zj zj) e3).trans e,a,b]
theorem YJ (Z:Sc rs ks ps hd rl hold kl op gs qs) (Y:Sc rs ks ps hd rl hold kl op q2 qs) (d t:D) {i:Nat}(hi:i<5) (x7 x8 x9:Option W):Ql C (lE l k n za zp zx (L.length+1) x7 x8 x9 x10 (ae<|.d d) (ae<|.d t)<|xN<|0+(i:Int)) (bk L C za (.tup<|q2.map enc) zp er)=.nx (lE l k n za zp zx (L.length+1) x7 x8 x9 x10 (ae<|.d d) (ae<|.d t)<|xN<|0+(i:Int)) (bk L C za (.tup<|q2.map enc) zp er):=by
 rw[Xt];show(gz<|gm<|fH (r:=.old _) (cV<|VW Z Y d t hi) (cV<|Yf d t hi) (by simp[pP]))
theorem Yg {Yl:List D}{r:Int}(r0:0<=r) (r1:r<Yl.length):∃ v,aA (.lst Yl) (.int r)=ae (.old v):=by
 have:=NA Yl r.toNat zb;rw[show ((r.toNat))=r by lia]at this;show#[_,by simp[aA,this];rfl]
theorem YK {A:List Bx}(hn:n<A.length) (Z:Sc rs ks ps hd rl hold kl op gs qs) (Y:Sc rs ks ps hd rl hold kl op q2 qs) (Yl:List D) (hY:Yl.length=13) (d:D) (q:Int) (x7 x8 x9:Option W) :
 ∃ qP qp q',ltB C (lE l k n za zp zx (A.length+1) x7 x8 x9 (ae<|.d<|.lst Yl) (ae<|.d d) x12 x13) (pt (bk A C za (.tup<|q2.map enc) zp er) n q)=.nx (lE l k n za zp zx (A.length+1) x7 x8 x9 (ae<|.d<|.lst Yl) (ae<|.d d) qP qp) (pt (bk A C za (.tup<|q2.map enc) zp er) n q'):=by
 have sz:=bC;have hB:n<(bk A C za (.tup<|q2.map enc) zp er).length:=by simp;lia
 let#[r1,q1,t1,a0,a1]:=nF hB q 13 zc zc;let#[r2,q3,t2,b0,b1]:=nF hB q1 13 zc zc;let#[v1,i1]:=Yg (Yl:=Yl) a0 zb;let#[v2,i2]:=Yg (Yl:=Yl) b0 zb;have wv:=λt {i:Nat}(hi:i<5)=>YJ (L:=pt A n q3) (er:=er) (C:=C) (l:=l) (k:=k) (n:=n) (x10:=ae<|.d<|.lst Yl) Z Y d t hi x7 x8 x9;rw[gq,show bk (pt A n q3) C za (.tup<|q2.map enc) zp er=pt (bk A C za (.tup<|q2.map enc) zp er) n q3 by unfold bk;rw[gq,lu hn]]at wv;generalize bk A C za (.tup<|q2.map enc) zp er=BB at *;let#[aQ,b',f,qP,qp,rfl,rfl]:=lj (g:=fe 12) (body:=gT (dW<|fc (dC<|.int 5) ff) (fe 13)<|Ql C) (λ_ env b=>∃ qP qp,env=lE l k n za zp zx (A.length+1) x7 x8 x9 (ae<|.d<|.lst Yl) (ae<|.d d) qP qp /\ b=pt BB n q3) ([D.int 4,v1,v2].map W.d) 0 (lE l k n za zp zx (A.length+1) x7 x8 x9 (ae<|.d<|.lst Yl) (ae<|.d d) x12 x13) (pt BB n q3) #[_,_,rfl,rfl] (by
  rintro i w env b hw ⟨qP,qp,rfl,rfl⟩;let#[t,_,rfl]:=bE.mp<|qV hw;let#[aQ,b',f,Qm,rfl,rfl]:=lj (g:=fe 13) (body:=Ql C) (λ_ env b=>∃ Qm,env=lE l k n za zp zx (A.length+1) x7 x8 x9 (ae<|.d<|.lst Yl) (ae<|.d d) (ae<|.d t) Qm /\ b=pt BB n q3) (fO 0 5) 0 (lE l k n za zp zx (A.length+1) x7 x8 x9 (ae<|.d<|.lst Yl) (ae<|.d d) (ae<|.d t) qp) (pt BB n q3) #[_,rfl,rfl] (by
   rintro i w env b hw ⟨Qm,rfl,rfl⟩;let#[rfl,hi]:=Bz hw;show#[_,_,_,_,rfl,wv t hi,_,rfl,rfl])
  show#[_,_,_,_,rfl,(iB (l:=fO 0 5)<|mP (j:=5) zj zc).trans f,_,_,rfl,rfl])
 show#[_,_,_,(iB<|gG<|lh [.int 4,v1,v2] (fg zj<|fg (fH (x:=.lst Yl) (y:=.int r1) (r:=.old v1) zj (t1 zj zj) i1)<|fg (fH (x:=.lst Yl) (y:=.int r2) (r:=.old v2) zj (t2 zj zj) i2) zj) zo).trans f]
end
theorem iV {l:List α}(h:l.length=n+1):∃ x t,l=x::t /\ t.length=n:=by
 cases l with
 |nil=>cases h
 |cons x t=>show#[x,t,rfl,Nat.succ.inj h]
theorem Yh (C:ai) (l:List Int) (k:Nat) (bx:List Bx) (xs:aP) (hx:xs.length=12):∃ (ys:aP) (bx':List Bx),ys.length=13 /\ aeP C (ae (.s l)::xN (k:Int)::xs) bx=.nx (ae (.s l)::ys) bx':=by
 iterate 4 (have h:=iV hx;clear hx;let#[_,xs,rfl,hx]:=h)
 have h:=iV hx;clear hx;let#[x6,xs,rfl,hx]:=h;have h:=iV hx;clear hx;let#[x7,xs,rfl,hx]:=h;have h:=iV hx;clear hx;let#[x8,xs,rfl,hx]:=h;have h:=iV hx;clear hx;let#[x9,xs,rfl,hx]:=h;have h:=iV hx;clear hx;let#[x10,xs,rfl,hx]:=h;have h:=iV hx;clear hx;let#[sf,xs,rfl,hx]:=h;have h:=iV hx;clear hx;let#[x12,xs,rfl,hx]:=h;have h:=iV hx;clear hx;let#[x13,xs,rfl,hx]:=h;cases xw hx;have sz:=bC;let#[c,ec]:=Vl l k bx;let#[p,ep]:=WP c bx;obtain⟨A,hn,pA⟩:∃ A:List Bx,bx.length<A.length /\ bx++[Bx.lst [D.int p]]=pt A bx.length p:=
  #[bx++[.lst [.int p]],by simp,by unfold pt;simp]
 rw[pA]at ep;generalize bx.length=n at *;let#[rs,ks,ps,hd,q,eh,H]:=aN.N4 hn p;let#[rl,hold,kl,X]:=W8 H;let#[op,q2,e2,O1]:=Oo (nr:=20) zc zc hn q;let#[gs,q3,e3,nd,ok,gl]:=N7 (mo:=10) hn H q2 30 zc zc zc zc;have ob:∀ x∈op,0<=x.1 /\ x.1<x.2:=λx m=>#[(O1.b x m).1,(O1.b x m).2.1];let#[q4,er,y7,f1,p4,r4,l4]:=tells (λg m=>(ok g m).1) x8 x9 gs [] [] [] x7 zj nd gl (.refl _) .nil zj;let#[q5,eT,y8,y9,f2,p5,r5]:=ai6 (Fk O1.a λx m=>(ob x m).2) ob O1.l nd gl y7 op [] q4 er x8 x9 zj p4 r4 (by have:=O1.l;lia);let#[qs,pq,aeR,so]:=AE nd zb;have mk:=VU (C:=C) H (k:=fc (dV 3) ff) (env:=[ae<|.s l,xN<|k,xB n,ae<|.d za,ae<|.d zp,ae<|.d zx,x6,x7,x8,x9,x10,sf,x12,x13]) (bx:=pt A n q3) zj;have hB:n<(bk A C za (.tup<|q5.map enc) zp eT).length:=by simp[bk];lia
 have eb:bk (pt A n q3) C za (.tup<|q5.map enc) zp eT=pt (bk A C za (.tup<|q5.map enc) zp eT) n q3:=by unfold bk;rw[gq,lu hn]
 rw[eb,gq]at f2;rw[gq]at f1 mk;let#[d,q6,e6,_]:=Vk hB q3;obtain⟨Yl,aeS⟩:∃ Yl:List D,Yl=[.int<|-1,.int 0,.int 9,.int 10,.int<|10 ^ 40-1,.int<|0-10 ^ 30,.bl ag,.aB,.str "3",.tup [.int 3],.lst [.int 3],.aG [],d]:=#[_,rfl];have lv:=λ(d:D) (q:Int) qP qp=>YK (C:=C) (l:=l) (k:=k) (er:=eT) (x12:=qP) (x13:=qp) hn #[X,#[λg m=>(ok g m).1,nd,gl],so gs<|.refl _,pq,aeR,O1.l,ob,O1.a] #[X,#[λg m=>(ok g<|p5.mem_iff.mp m).1,p5.nodup_iff.mpr nd,by rw[p5.length_eq];show gl],so q5 p5,pq.trans p5.symm,aeR,O1.l,ob,O1.a] Yl (by rw[aeS];rfl) d q y7 y8 y9;have yv:∀ {env:aP}{i:Nat},env[2]?=ae (xB n)->gF af zq env (pt (bk A C za (.tup<|q5.map enc) zp eT) n q3)=.val (.d<|.lst Yl) (pt (bk A C za (.tup<|q5.map enc) zp eT) n q6):=λ{env i} h2=>by
  rw[aeS];show lh _ (fg (Nw zj)<|fg zj<|fg zj<|fg zj<|fg (fH (x:=.int<|10 ^ 40) (y:=.int 1) (r:=.old<|.int<|10 ^ 40-1) (fH (r:=.old _) zj zj<|NG zc) zj zj)<|fg (fH (x:=.int 0) (y:=.int<|10 ^ 30) (r:=.old<|.int<|0-10 ^ 30) zj (fH (r:=.old _) zj zj<|NG zc) zj)<|fg zj<|fg zj<|fg zj<|fg (gH [.int 3] zj zo)<|fg (lh [.int 3] zj zo)<|fg zj<|fg (fM (l:=[.b n]) (fg (by rw[jE,h2]) zj) zj e6) zj) zo
 generalize bk A C za (.tup<|q5.map enc) zp eT=BB at *;let#[aQ,b',f3,ZT,qP,qp,q7,rfl,rfl]:=lj (g:=fe 11) (body:=ltB C) (λ_ env b=>∃ ZT qP qp q,env=lE l k n za zp zx (A.length+1) y7 y8 y9 (ae<|.d<|.lst Yl) ZT qP qp /\ b=pt BB n q) (Yl.map W.d) 0 (lE l k n za zp zx (A.length+1) y7 y8 y9 (ae<|.d<|.lst Yl) sf x12 x13) (pt BB n q6) #[_,_,_,_,rfl,rfl] (by
  rintro i w env b hw ⟨ZT,qP,qp,q,rfl,rfl⟩;let#[d,_,rfl]:=bE.mp<|qV hw;let#[ak8,Qm,q',e]:=lv d q qP qp;show#[_,_,_,_,rfl,e,_,_,_,_,rfl,rfl])
 refine#[_,_,?_,qS (fM (fg (fM (fg zj<|fg zj zj) zj ec) zj) zj ep)<|qS (fM (fg zj zj) zj eh)<|(fA<|cw.oG<|fg (fM (l:=[.b n,.d<|.int 20]) zj zj e2)<|fg (fM (l:=[.b n,.d za,.d<|.int 10,.d<|.int 30]) zj zj e3) zj).trans<|qS mk<|(fA<|(iB<|gG zj).trans f1).trans<|(fA<|(iB<|iU zj).trans f2).trans<|qS (yv (i:=0) zj)<|(iB<|gG zj).trans f3];rfl
theorem ai7 (l:List Int) (bx:List Bx) (xs:aP):∃ c:Nat,dW (fc (dN af maxD<|fc zd<|fc (dN af minD<|fc (uF<|dV 0)<|fc (dC<|.int 6) ff) ff) ff) (ae (.s l)::xs) bx=.val (fO 0 c) bx:=by
 have e3:=iF [.int 1,.int<|min (l.length) 6] (g:=maxD) (fg (m:=dC _) zj<|fg (iF (env:=ae (.s l)::xs) (bx:=bx) _ (fg (m:=uF<|dV 0) zj<|fg (m:=dC _) (ks:=ff) zj zj)<|Ts _ _) (ks:=ff) zj) zj;generalize hz:(if min (l.length:Int) 6>1 then min (l.length:Int) 6 else 1)=z at e3;show#[z.toNat,mP (fg e3 zj) zb]
theorem law_true (C:ai) (l:List Int) (hl:l.length<=1000):∃ bx',K24.CW C [.s l] []=.val (.d<|.bl ag) bx':=by
 let#[c,ec]:=ai7 l [] _;let#[aQ,bx',e,ys,rfl,hy]:=lj (g:=fe 1) (λ_ env b=>∃ ys,env=ae _::ys /\ ys.length=13) (fO 0 c) 0 (ae _::List.replicate 13 ah) [] #[_,rfl,rfl] (by
  rintro i w env b hw ⟨ys,rfl,hy⟩;let#[k,_,rfl]:=bE.mp<|qV hw;let#[x,ys,rfl,h]:=iV hy;let#[zs,bx',hz,e]:=Yh C l k b ys h;show#[ae _::ae _::ys,b,_,_,by rw[Xt];rfl,e,zs,rfl,hz])
 show#[_,mT (bx':=bx')<|(fA<|(iB ec).trans e).trans<|fS zj]
end K24
namespace L2.DL
open PySem.W
structure Cf where
 N:List Str
 nm:List (Str×NameKind)
 f:Bool
 bx:List Str
 dc:List Str
 wk:List (Str×Nat)   -- 1: a tuple of ak9,2: a box that is walked,3: a dict with tuple keys
 Qn:Str
 fs:List (Str×(Nat×(List W->List Bx->O W)))
 gl:List (Str×Int)
 bl:List Str
 rb:Bool
 rx:Bool
 tr:Bool
 ow:List Str
 C:ai:=0          -- the class of afP own,its attributes,its methods,how it is made
 fl:List Str:=[]
 ms:List (Str×(Nat×(List W->List Bx->O W))):=[]
 mc:Option (Str×(Str×az)):=ah
structure Qo (P:cG) (w:bH) (K:PySem.W.Frag) (mg:Str->Option aj) (base:aE) (cl:Nat->ai) (C:ai) (fl:List Str) (ms:List<|Str×(Nat×(List W->List Bx->O W))) (mk:Option<|Str×(Str×az)) (k:Nat):zk where
 cls:fl≠[]->kL K C
 na:∀ f,f∈fl->rm K C f
 ms:∀ x n fn,ms.lookup x=ae (n,fn)->∃ kk ps,HE P w K mg base cl C kk x ps fn /\ ps.length=n /\ kk<=k
 mc:∀ x f m,mk=ae (x,(f,m))->mg x=ae zaa /\ ∃ g fd ps kk,Mk K C g /\ cZ P w K mg base (dz P w) kk g fd ps (K9 C f m) /\ Binds K fd ps [] /\ kk+1<=k
structure bT (c:Cf) (k:Nat) (X:Cx) (Z:Xs):zk where
 N:X.N=c.N
 nm:X.env.scope.names=c.nm
 kd:X.env.scope.kind=.function
 calm:X.calm=ag
 fn:c.f=ag->∀ x,X.fn x=ag
 ow:∀ x,x∈c.ow->X.fn x=ag
 nd:c.N.Nodup
 room:cg k X.A
 fs:∀ x n fn,c.fs.lookup x=ae (n,fn)->∃ kk ps,rL X.prog X.w X.K X.mg X.base Z.cl kk x ps fn /\ ps.length=n /\ kk<=k
 gl:∀ x v,c.gl.lookup x=ae v->∃ t,X.mg x=ae (.int v t)
 bl:∀ x,x∈c.bl->X.mg x=ah
 Qp:Passes (dz X.prog X.w) X Z.E
 ti:qg X.K "int"
 tb:qg X.K "bool"
 tt:qg X.K "tuple"
 tl:qg X.K "list"
 own:c.rx=af->PassesOwn ze X.A X.env X.xe
 ai8:c.rx=ag->vm X Z.E /\ ∃ R,nD X.K X.mg R Z.cl
 aeT:c.tr=ag->(∃ R,nD X.K X.mg R Z.cl) /\ Hz X.prog X.w X.K X.mg X.base Z.cl /\ 1<=k /\ X.stack=X.env::X.outer /\ X.env.frame=ae X.env.locals
 ob:Qo X.prog X.w X.K X.mg X.base Z.cl c.C c.fl c.ms c.mc k
noncomputable def aX:DE α:=λ_ _=>.bad
section
variable {o:Option au}
theorem fG:PD X T Z e aX:=λ_ _ _ _ _ _ h=>by
 let#[_,_,_,_,_,h]:=h;show h.elim
theorem iD:eK X T Z e aX:=λ_ _ _ _ _ _ h=>by
 let#[_,_,_,_,_,h]:=h;show h.elim
theorem Jo:tj X T Z e aX:=λ_ _ _ _ _ _ _ h=>by
 let#[_,_,_,_,_,h]:=h;show h.elim
theorem SD:dJ X T Z es aX:=λ_ _ _ _ _ _ _ h=>by
 let#[_,_,_,_,_,h]:=h;show h.elim
theorem Dh:uA X T Z tg e aX:=λ_ _ _ _ _ _ h=>by
 let#[_,_,_,_,_,h]:=h;show h.elim
noncomputable def xg:DG:=λ_ _ _=>ah
noncomputable def aeU:pJ:=λ_ _ _=>ah
theorem mB:nY X T e xg:=λ_ _ _ _ _ _ _ _ _ h=>by
 let#[_,_,_,_,_,_,_,h]:=h;show h.elim
theorem Oy:uz X T es aeU:=λ_ _ _ _ _ _ _ _ _ h=>by
 let#[_,_,_,_,_,_,_,h]:=h;show h.elim
end
noncomputable def Cf.kd (c:Cf) (x:Str) (n:Nat):Bool:=match c.wk.lookup x with|some k=>k==n|none=>af
def aeV (c:Cf) (n:Nat):au->Bool
 |.Name x _=>c.kd x n
 |.Subscript _ (.Constant (.str x) _ _) _=>c.kd x n
 |_=>af
noncomputable def xh (c:Cf):au->Bool
 |.Name x _=>c.dc.contains x
 |.Subscript _ (.Constant (.str x) _ _) _=>c.dc.contains x
 |.Call (.Name x _) _ _ _=>c.dc.contains x
 |_=>af
noncomputable def Cf.ix (c:Cf) (x:Str):Option Nat:=c.N.findIdx? λy=>decide (y=x)
theorem Cf.ZU {c:Cf}{i:Nat}(h:c.ix x=ae i):c.N[i]?=ae x:=by
 let#[h1,h2,_]:=List.findIdx?_eq_some_iff_getElem.mp h;rw[cX h1,of_decide_eq_true h2]
noncomputable def Cf.HU (c:Cf) (x:Str):Bool:=(decide (c.nm.lookup x=ae .local)||decide (c.nm.lookup x=ae .cell)||decide (c.nm.lookup x=ae .free))&&!(x==("__debug__":Str))&&!(x==("__classdict__":Str))
noncomputable def Cf.uQ (c:Cf) (x:Str):Bool:=decide (c.nm.lookup x=ae .globalImplicit)&&!(x==("__debug__":Str))&&decide (x≠("__name__":Str))
noncomputable def Cf.xi (c:Cf) (x:Str):Bool:=(decide (c.nm.lookup x=ae .local)||decide (c.nm.lookup x=ae .cell))&&(c.f||decide (x∈c.ow)||decide (c.nm.lookup x=ae .local))
def Cf.qr (c:Cf) (x:Str):Bool:=c.uQ x&&decide (x∈c.bl)
section
variable {c:Cf} {k:Nat} {i:Nat} 
theorem bT.ZV (O:bT c k X Z) (h:c.HU x=ag):sL X.env.scope x /\ (x==("__debug__":Str))=af /\ (x==("__classdict__":Str))=af:=by
 erw[Cf.HU,aL,vW,decide_eq_true_eq,pz]at h;unfold sL;rw[O.nm];show#[or_assoc.mp h.1.1,h.1.2,h.2]
theorem bT.gb (O:bT c k X Z) (h:c.uQ x=ag):Gl X x /\ (x==("__debug__":Str))=af /\ x≠("__name__":Str):=by
 erw[Cf.uQ,aL,decide_eq_true_eq,pz]at h;unfold Gl Env.kindOf;rw[O.nm];show#[h.1.1,h.1.2,h.2]
theorem bT.lo (O:bT c k X Z) (h:c.xi x=ag):Loc X.env.scope x /\ (X.fn x=ag \/ X.env.scope.names.lookup x=ae .local):=by
 simp[Cf.xi,aL,vW,decide_eq_true_eq]at h;unfold Loc;rw[O.nm];show#[h.1,h.2.imp (λz=>z.elim (λz=>O.fn z x)<|O.ow x) id]
theorem bT.blt (O:bT c k X Z) (h:c.qr x=ag):Gl X x /\ (x==("__debug__":Str))=af /\ x≠("__name__":Str) /\ X.mg x=ah:=by
 simp[Cf.qr,aL,decide_eq_true_eq]at h;let#[a,b,d]:=O.gb h.1;show#[a,b,d,O.bl x h.2]
theorem bT.at (O:bT c k X Z) (h:c.ix x=ae i):X.N[i]?=ae x:=by rw[O.N];show c.ZU h
theorem bT.pb (O:bT c k X Z):X.N.Nodup:=by rw[O.N];show O.nd
theorem bT.u0 (O:bT c k X Z):X.A.units+100<cLine:=by have:=O.room.un;lia
theorem bT.u1 (O:bT c k X Z):X.A.units+1<cLine:=by have:=O.room.un;lia
def ZW (c:Cf) (fz:Bool) (x:Str):DE W:=match c.ix x with
 |some i=>if c.HU x then (if fz&&c.bx.contains x then uE i else dV i) else aX
 | none=>match c.gl.lookup x with
   |some v=>if c.uQ x then dC (.int v) else aX
   |none=>aX
theorem Oz (O:bT c k X Z) (fz:Bool):PD X T Z (.Name x pos) (ZW c fz x):=by
 unfold ZW;split
 .ext i e;split
  .ext h;let#[a,b,d]:=O.ZV h;split
   .show UN i (O.at e) a b d
   .show Mj i (O.at e) a b d
  .show fG
 .split
  .ext v e;split
   .ext h;let#[a,b,_]:=O.gb h;show PV a (O.gl x v e) b
   .show fG
  .show fG
end
section
variable {c:Cf} {k:Nat} {f:au -> DE W} {t:au -> DE Bool} {g:au -> DG}
def uR (f:au->DE W):List au->DE zah
 |[]=>ff
 |e::es=>if cu e then fc (f e) (uR f es) else aX
theorem lT (h:∀ e,PD X T Z e<|f e):∀ es,dJ X T Z es (uR f es)
 |[]=>lV
 | e::es=>by
   unfold uR;split
   .ext n;show ou (h e) (lT h es) n
   .show SD
def ZX (f:au->DE W):List au->DE W
 |[]=>aX
 |[a]=>f a
 |a::r=>gx (f a)<|ZX f r
theorem Jp (h:∀ e,PD X T Z e<|f e):∀ es,PD X T Z (.BoolOp .And es pos) (ZX f es)
 |[]=>fG
 |[a]=>Uo<|h a
 |a::b::r=>Uq (h a)<|Jp h _
def ZY (f:au->DE Bool):List au->DE Bool
 |[]=>aX
 |[a]=>f a
 |a::r=>nK (f a)<|ZY f r
theorem Fm (h:∀ e,eK X T Z e<|t e):∀ es,tj X T Z (.BoolOp .And es pos) (ZY t es)
 |[]=>Jo
 |[a]=>Mp<|h a
 |a::b::r=>Pi (h a)<|Fm h _
def ZZ (f:au->DE Bool):List au->DE Bool
 |[]=>aX
 |[a]=>f a
 |a::r=>nW (f a)<|ZZ f r
theorem Jq (h:∀ e,eK X T Z e<|t e):∀ es,tj X T Z (.BoolOp .Or es pos) (ZZ t es)
 |[]=>Jo
 |[a]=>Ph<|h a
 |a::b::r=>Um (h a)<|Jq h _
def Qq (g:au->DG):List au->pJ
 |[]=>gn
 |e::es=>if cu e then fm (g e) (Qq g es) else aeU
theorem OA (h:∀ e,nY X T e<|g e):∀ es,uz X T es (Qq g es)
 |[]=>Mv
 | e::es=>by
   unfold Qq;split
   .ext n;show UV (h e) (OA h es) n
   .show Oy
end
def aeW:Operator->Option (D->D->Option Res)
 |.Add=>ae fP|.Sub=>ae cB|.Mult=>ae dj|.FloorDiv=>ae pK|.Mod=>ae pL|.Pow=>ae pM
 |_=>ah
def vO:CmpOp->Option (D->D->Option Res)
 |.Eq=>ae bf|.NotEq=>ae pP|.Lt=>ae dt|.LtE=>ae dX|.Gt=>ae kP|.GtE=>ae nZ|.In=>ae (inD af)|.NotIn=>ae<|inD ag
 |_=>ah
theorem SE {op:Operator}(h:aeW op=ae g):∃ q,bc X (binaryOp op) q /\ cA q g:=by
 cases op<;>cases h
 .show#[_,Pu,ahj]
 .show#[_,TY,ahk]
 .show#[_,PM,ahM]
 .show#[_,T0,ahm]
 .show#[_,T1,ahn]
 .show#[_,My,ahl]
theorem mC (hu:X.A.units+100<cLine) (h:vO op=ae g):∃ q,bc X (compareOp op) q /\ cA q g:=by
 cases op<;>cases h
 .show#[_,UK hu,ahK]
 .show#[_,UL hu,ahL]
 .show#[_,U9 zb,aiL]
 .show#[_,UM zb,ahN]
 .show#[_,Wl,aho]
 .show#[_,Wm,ahp]
 .show#[_,JE.or<|UW hu,okIn af]
 .show#[_,CI.or<|J4 hu,okIn ag]
def Z0:List (Str×(Bool×(String×(List D->Option Res)))):=
 [("len",af, "len",cC),("all",af, "all",dM),("any",af, "any",HD),("sorted",af, "sorted",cT),("max",af, "max",maxD),("min",af, "min",minD),
  ("tuple",ag, "tuple",tH),("list",ag, "list",wK)]
def ai9 (X:Cx) (x:Str) (p:Bool×(String×(List D->Option Res))):zk:=
 match p with
 |(af,id,g)=>bootBuiltins x=ae (.builtin id) /\ ∃ q,kA X (.builtin id) q /\ ng q g
 |(ag,id,g)=>bootBuiltins x=ae (.type id) /\ ∃ q,kA X (.type id) q /\ ng q g
theorem iP {α:Type}{P:Str->α->zk}:∀ {l:List (Str×α)}{x:Str}{a:α},(∀ p∈l,P p.1 p.2)->l.lookup x=ae a->P x a
 |[],_,_,_,e=>by cases e
 | (y,b)::r,x,a,h,e=>by
   rw[kH]at e;cases hx:x==y with
   |true=>
     rw[hx]at e;cases e;have:x=y:=by simpa using hx
     subst this;show h _<|bN ..
   |false=>
     rw[hx]at e;show iP (λp m=>h p<|bG _ m) e
theorem SF (hc:X.calm=ag) (hu:X.A.units+100<cLine) {p:Bool×(String×(List D->Option Res))}(h:Z0.lookup x=ae p):ai9 X x p:=by
 refine iP (λp m=>?_) h;simp[Z0,bz,qY,or_false]at m;rcases m with rfl|rfl|rfl|rfl|rfl|rfl|rfl|rfl
 .show#[rfl,_,m8,ahr]
 .show#[rfl,_,JQ hc,ahv]
 .show#[rfl,_,J5 hc,ah9]
 .show#[rfl,_,FS hu,ah2]
 .show#[rfl,_,Jy hc,ahy]
 .show#[rfl,_,Jz hc,ahz]
 .show#[rfl,_,BH,ahw]
 .show#[rfl,_,CJ,ahx]
noncomputable def Z1:List (Str×String):=[("int","int"),("bool","bool"),("tuple","tuple"),("list","list")]
theorem OB {c:Cf}{k:Nat}(O:bT c k X Z) {n:String}(h:Z1.lookup x=ae n):qg X.K n /\ bootBuiltins x=ae (.type n):=by
 refine iP (P:=λx n=>qg X.K n /\ bootBuiltins x=ae (.type n)) (λp m=>?_) h;simp[Z1,bz,qY,or_false]at m;rcases m with rfl|rfl|rfl|rfl
 .show#[O.ti,rfl]
 .show#[O.tb,rfl]
 .show#[O.tt,rfl]
 .show#[O.tl,rfl]
end L2.DL
variable {c:L2.DL.Cf}
namespace L2.DL
open PySem.W
noncomputable def yW:au->Bool
 |.Call ..=>af
 |_=>ag
theorem iE {o:au}{a:Str}{env:Env}{whole:Sem aj}(h:yW o=ag):attributeBase o a env whole=whole:=by
 cases o<;>first|rfl|cases h
noncomputable def plainT:au->Bool
 |.BoolOp ..|.UnaryOp ..|.IfExp ..|.Compare ..=>af
 |_=>ag
theorem Lu {env:Env}(h:plainT e=ag) (whole:Sem aj):PySem.isTrue e env whole=(do let v <-whole;standAt e.pos;holding [v] (truthy v)):=by
 cases e<;>first|rfl|cases h
noncomputable def Qr:au->Bool
 |.Set ..=>af
 |_=>ag
theorem oJ {env:Env}(h:Qr e=ag) (x:aj):foldedSetIterable e env x=pure x:=by
 cases e<;>first|rfl|cases h
noncomputable def n9:au->Bool
 |.ListComp ..|.SetComp ..|.DictComp ..=>ag
 |_=>af
theorem jM {t:Option au}{l:Nat}{env:Env}(h:n9 e=af):swapsWith e t l env=pure af:=by
 cases e<;>first|rfl|cases h
noncomputable def HV:au->Bool
 |.Slice ..=>af
 |_=>ag
section
variable {a b o:au} {p:aK}
theorem BE (h:HV b=ag):Ko b:=λ_ _=>by
 cases b<;>first|rfl|cases h
theorem SG (h:HV b=ag):KR b:=λ_ _=>by
 cases b<;>first|rfl|cases h
theorem Qs {env:Env}(h:cu e=ag):((backTo pos<|starEach [e] env).all (λx=>!x.1)&&(backToKw pos<|keywordEach [] env).all (λx=>x.1.isSome)&&decide zab)=ag:=by
 rw[fI h];rfl
theorem Yi {Q:VK}(h:tD T Z (kF af ma) σ H Q):acF (tD T Z ma) σ H Q:=by
 let#[F,r,env,bx,R,h]:=h;refine#[F,r,env,bx,R,End.bind h λx bx1 F1 r1 v H1 g1 R1 d1 h1=>?_];cases x with
 |d d=>
   rw[Ay<|d1];cases d<;>show h1 F1 r1 _ H1 zS R1 zj
 |_=>show h1.elim
theorem VX {Q:VK}(h:tD T Z (kF ag ma) σ H Q):acG (tD T Z ma) σ H Q:=by
 let#[F,r,env,bx,R,h]:=h;refine#[F,r,env,bx,R,End.bind h λx bx1 F1 r1 v H1 g1 R1 d1 h1=>?_];cases x with
 |d d=>
   rw[Ay<|d1];cases d<;>show h1 F1 r1 _ H1 zS R1 zj
 |_=>show h1.elim
theorem SH (hu:X.A.units+1<cLine) (hi:PD X T Z e mb) (ho:PD X T Z o ma) (hm:behindInMarks .In o=af):eK X T Z (.Compare e [.In] [o] pos) (dB<|kT af mb ma):=
 PT.imp (CA (ME hu hi ho) hm) λσ H Q h=>GU<|Mn h
theorem OC (hu:X.A.units+1<cLine) (hi:PD X T Z e mb) (ho:PD X T Z o ma) (hm:behindInMarks .NotIn o=af):eK X T Z (.Compare e [.NotIn] [o] pos) (dB<|kT ag mb ma):=
 PT.imp (CA (B7 hu hi ho) hm) λσ H Q h=>MX<|Mn h
end
section
variable {k:Nat} {p:aK} {f:au -> DE W} {o:au}
def Z2 (c:Cf) (f:au->DE W) (x:Str) (es:List au):DE W:=match c.mc with
 | some (y,(fl,m))=>(match es with
   |[]=>aX
   |e::es=>if x=y /\ (c.uQ x&&eQ (e::es))=ag then yz c.C fl m (uR f (e::es)) else aX)
 |none=>aX
theorem VY (O:bT c k X Z) (h:∀ e,PD X T Z e<|f e) (es:List au):PD X T Z (.Call (.Name x p) es [] pos) (Z2 c f x es):=by
 unfold Z2;split
 .ext y fl m e;split
  .show fG
  .split
   .ext q;let#[rfl,q]:=q;rw[aL]at q;let#[g1,g2,_]:=O.gb q.1;let#[hm,g,fd,ps,kk,M,G,hb,hk]:=O.ob.mc _ _ _ e;show Rg M G O.room hk g1 hm hb O.Qp (lT h _) q.2 g2
   .show fG
 .show fG
def yX (c:Cf) (f:au->DE W) (bo:Bool) (x:Str) (es:List au):DE W:=
 match c.fs.lookup x with
 | some (n,fn)=>(match es with
   |[]=>aX
   |e::es=>if c.uQ x&&eQ (e::es) then fj fn n (uR f (e::es)) else aX)
 | none=>match Z0.lookup x with
   | some (_,_,g)=>(match es with
     |[]=>aX
     |e::es=>if c.qr x&&eQ (e::es) then dN bo g (uR f (e::es)) else aX)
   |none=>Z2 c f x es
theorem AI (O:bT c k X Z) (h:∀ e,PD X T Z e<|f e) (bo:Bool) (es:List au):PD X T Z (.Call (.Name x p) es [] pos) (yX c f bo x es):=by
 unfold yX;split
 .ext n fn e;split
  .show fG
  .split
   .ext a as q;rw[aL]at q;let#[g1,g2,_]:=O.gb q.1;let#[kk,ps,hh,hn,hk]:=O.fs x n fn e;show WB hh O.room hk g1 O.Qp (lT h _) q.2 hn g2
   .show fG
 .split
  .ext ty id g e;split
   .show fG
   .split
    .ext a as q;rw[aL]at q;let#[g1,g2,g3,g4]:=O.blt q.1;have b:=SF O.calm O.u0 e;cases ty with
     |false=>
       let#[b1,qq,b2,b3]:=b;show WA bo b2 b3 g1 g4 b1 (lT h _) q.2 g3 g2
     |true=>
       let#[b1,qq,b2,b3]:=b;show UU bo b2 b3 g1 g4 b1 (lT h _) q.2 g3 g2
    .show fG
  .show VY O h _
noncomputable def Z3 (c:Cf):au->Bool
 |.Name x _=>decide (x=c.Qn)
 |_=>af
def yY (c:Cf) (f:au->DE W) (bo:Bool) (x:Str) (es:List au):DE W:=match es with
 | [a]=>if x="len" /\ Z3 c a=ag then (if c.qr "len"&&cu a then uF (f a) else aX)
   else if x="list" /\ aeV c 3 a=ag then (if c.qr "list"&&cu a then HK bo (f a) else aX) else yX c f bo x es
 |_=>yX c f bo x es
def Z4 (c:Cf) (f:au->DE W) (bo:Bool) (x:Str) (es:List au):DE W:=
 if x="isinstance" then (match es with
  | [a,.Name t _]=>(match Z1.lookup t with
    |some n=>if c.qr "isinstance"&&c.qr t&&cu a then jI n (f a) else aX
    |none=>aX)
  |_=>aX)
 else match es with
  | [.Call g as [] cp]=>(match g with
    | .Name y _=>(match as with
      |[a]=>if x="sorted" /\ y="set" then (if c.qr "sorted"&&c.qr "set"&&cu a then dN bo wX (fc (f a) ff) else aX) else yX c f bo x es
      |_=>yY c f bo x es)
    | .Attribute o n ap=>(match as with
      |[]=>if x="sorted" /\ n="items" then (if c.qr "sorted"&&yW o&&(ap.endLine==cp.line) then HL bo (f o) else aX) else yX c f bo x es
      |_=>yY c f bo x es)
    |_=>yY c f bo x es)
  |_=>yY c f bo x es
theorem Di (O:bT c k X Z) (h:∀ e,PD X T Z e<|f e) (bo:Bool) (es:List au):PD X T Z (.Call (.Name x p) es [] pos) (yY c f bo x es):=by
 unfold yY;split
 .ext a;split
  .ext hx;let#[rfl,_]:=hx;split
   .ext q;rw[aL]at q;let#[g1,g2,g3,g4]:=O.blt q.1;show PP g1 g4 (h a)<|fI q.2 _ _
   .show fG
  .split
   .ext hx;let#[rfl,_]:=hx;split
    .ext q;rw[aL]at q;let#[g1,g2,g3,g4]:=O.blt q.1;show Ng bo O.calm g1 g4 (h a) q.2
    .show fG
   .show AI O h bo _
 .show AI O h bo _
theorem OD (O:bT c k X Z) (h:∀ e,PD X T Z e<|f e) (bo:Bool) (es:List au):PD X T Z (.Call (.Name x p) es [] pos) (Z4 c f bo x es):=by
 unfold Z4;split
 .ext hx;subst hx;split
  .ext a t tp;split
   .ext n e;split
    .ext q;erw[aL]at q;let#[g1,g2,g3,g4]:=O.blt q.1.1;let#[j1,j2,j3,j4]:=O.blt q.1.2;let#[y1,y2]:=OB O e;show WC y1 g1 g4 j1 j4 y2 (h a) q.2 j3 j2
    .show fG
   .show fG
  .show fG
 .split
  .ext g as cp;cases g<;>try show Di O h bo _
   case Name y q1=>
    rcases as with _|⟨a,_|_⟩<;>try show Di O h bo _
    dsimp only;split
    .ext hx;let#[rfl,rfl]:=hx;split
     .ext q;erw[aL]at q;let#[g1,g2,g3,g4]:=O.blt q.1.1;let#[j1,j2,j3,j4]:=O.blt q.1.2;show FZ bo O.calm g1 g4 j1 j4 (ou (h a) lV q.2) q.2
     .show fG
    .show AI O h bo _
   case Attribute o n ap=>
    cases as<;>try show Di O h bo _
    dsimp only;split
    .ext hx;let#[rfl,rfl]:=hx;split
     .ext q;erw[aL]at q;let#[g1,g2,g3,g4]:=O.blt q.1.1;show Lf bo O.calm (by have:=O.u0;lia) g1 g4 (h o) (iE q.1.2) q.2
     .show fG
    .show AI O h bo _
  .show Di O h bo _
def Z5 (dd:Bool) (f:au->DE W) (o:au) (m:Str) (es:List au):DE W:=match es with
 |[e]=>if cu e then (if dd then (if m="get" then vG (f o) (f e) else aX) else if m="extend" then rV (f o) (f e) else if m="append" then qD (f o) (f e) else if m="pop" then wV (f o) (f e) else aX) else aX
 |_=>aX
theorem SI (hu:X.A.units+1<cLine) (dd:Bool) (h:∀ e,PD X T Z e<|f e) {m:Str}(es:List au) (hb:yW o=ag) (hl:(apos.endLine==pos.line)=ag):PD X T Z (.Call (.Attribute o m apos) es [] pos) (Z5 dd f o m es):=by
 unfold Z5;split
 .ext e;split
  .ext n;split
   .split
    .ext z;subst z;show Nc hu (h o) (h e) #[iE hb,Qs n,hl,by rw[fI n];rfl]
    .show fG
   .split
    .ext z;subst z;show J8 (h o) (h e) (iE hb) (Qs n) hl<|fI n _ _
    .split
     .ext z;subst z;show JW (h o) (h e) (iE hb) (Qs n) hl<|fI n _ _
     .split
      .ext z;subst z;show MV (h o) (h e) n (iE hb) (Qs n) hl
      .show fG
  .show fG
 .show fG
def Z6 (c:Cf) (f:au->DE W) (o:au) (x:Str) (n:Nat) (fn:List W->List Bx->O W) (es:List au):DE W:=if c.fl≠[] then (match es with
 |[]=>kg c.C fn x n (f o) ff
 |e::es=>if eQ (e::es)=ag /\ (e::es).length<30 then kg c.C fn x n (f o) (uR f (e::es)) else aX) else aX
theorem VZ {m:Str}(O:bT c k X Z) (h:∀ e,PD X T Z e<|f e) (e:c.ms.lookup m=ae (n,fn)) (es:List au) (hb:yW o=ag) (hl:(apos.endLine==pos.line)=ag):PD X T Z (.Call (.Attribute o m apos) es [] pos) (Z6 c f o m n fn es):=by
 unfold Z6;split
 .ext hf;let#[kk,ps,H,hn,hk]:=O.ob.ms _ _ _ e;split
  .show M2 (O.ob.cls hf) H O.room hk O.Qp (h o) (iE hb) hl hn
  .split
   .ext q;show Re (O.ob.cls hf) H O.room hk O.Qp (h o) (lT h _) (iE hb) hl q.1 q.2 hn
   .show fG
 .show fG
end
noncomputable def Z7 (on names:List<|Str×NameKind):List (Str×NameKind):=names.map λ(n,k)=>if k==NameKind.free&&on.lookup n==ae .cell then (n,NameKind.cell) else (n,k)
noncomputable def Qt:Nat->au->List Str
 |_,.Name x _=>[x]
 |n+1,.Tuple es _ _=>es.flatMap<|Qt n
 |_,_=>[]
def Cf.cN (c:Cf) (tg:au) (sc:bK):List Str:=Qt 4 tg++c.N.filter λx=>decide (sc.names.lookup x=ae .free)
def Cf.src (c:Cf) (tg:au) (sc:bK):List (Option Nat):=(Qt 4 tg).map (λ_=>ah)++(c.N.filter λx=>decide (sc.names.lookup x=ae .free)).map c.ix
def Cf.inner (c:Cf) (tg:au) (sc:bK):Cf:={ c with N:=c.cN tg sc,nm:=Z7 c.nm sc.names,f:=af,bx:=[],rx:=af,tr:=af,ow:=(Qt 4 tg).filter λx=>decide (sc.names.lookup x=ae .cell) }
def Cf.Qu (c:Cf) (tg:au) (sc:bK):Bool:=Zy c.N { kind:=.function,names:=c.nm,isGenerator:=af,isCoroutine:=af } sc (c.cN tg sc) (c.src tg sc)&&decide (c.cN tg sc).Nodup
section
variable {k:Nat} {sc:bK}
theorem bT.inner (O:bT c k X Z) (h:c.Qu tg sc=ag):sW X (c.cN tg sc) (c.src tg sc) sc /\ ∀ cl s H C fp,bT (c.inner tg sc) k (X.comp (c.cN tg sc) sc cl s H C fp) #[E0,Z.cl]:=by
 unfold Cf.Qu at h;rw[aL,decide_eq_true_eq]at h;have S:=FO (λx=>by unfold Env.kindOf;rw[O.nm]) O.N h.1;refine#[S,λcl s H C fp=>#[rfl,?_,S.kind,O.calm,λz=>(by cases z),λx m=>(List.mem_filter.mp m).2,h.2,O.room,O.fs,O.gl,O.bl,CN,O.ti,O.tb,O.tt,O.tl,λ_=>PassesOwn.never,λz=>(by cases z),λz=>(by cases z),O.ob]];change (relabel sc X.env).names=Z7 c.nm sc.names;unfold relabel Z7 Env.kindOf;rw[O.kd,O.nm];simp
end
structure Cm where
 e:Cf->Bool->Bool->au->DE W
 t:Cf->au->DE Bool
 g:Cf->au->DG
 s:Cf->bp->az
structure Good (m:Cm):zk where
 e:∀ {c:Cf}{k:Nat}{X:Cx}{Z:Xs},bT c k X Z->∀ {T:Fr}(bo fz:Bool) (e:au),PD X T Z e (m.e c bo fz e)
 t:∀ {c:Cf}{k:Nat}{X:Cx}{Z:Xs},bT c k X Z->∀ {T:Fr}(e:au),eK X T Z e (m.t c e)
 g:∀ {c:Cf}{k:Nat}{X:Cx}{Z:Xs},bT c k X Z->∀ {T:Fr}(e:au),nY X T e (m.g c e)
 s:∀ {c:Cf}{k:Nat}{X:Cx}{Z:Xs},bT c k X Z->∀ {T:Fr}(st:bp),cx X T Z st (m.s c st)
section
variable (m:Cm) (c:Cf)
def cI (tg it:au):DE zah:=match it with
 |.Call (.Name x _) [a] [] _=>
   if x="range" then (if c.qr "range"&&cu a then dW (fc zR ff) else aX)
   else bP (m.e c af ag it)
 |.Call (.Name x _) [a,b] [] _=>
   if x="range" then (if c.qr "range"&&cu a&&cu b then tF (fc zR<|fc (m.e c af af b) ff) else aX)
   else if x="zip" then (if c.qr "zip"&&cu a&&cu b then qL (fc zR<|fc (m.e c af af b) ff) else aX)
   else bP (m.e c af ag it)
 |_=>bP<|m.e c af ag it
def cF (ifs:List au):DE Bool:=match ifs with
 |[]=>gk
 |[t]=>m.t c t
 |_=>aX
def Z8 (e:au):Option Nat:=match e with
 |.Name x _=>if c.dc.contains x&&c.HU x then c.ix x else ah
 |_=>ah
def Z9 (bo:Bool) (elt tg it:au) (ifs:List au) (sc:bK):DE W:=
 if c.Qu tg sc&&Qr it then f7 bo (c.src tg sc) (cI m c tg it) (m.g (c.inner tg sc) tg) (cF m (c.inner tg sc) ifs) (m.e (c.inner tg sc) af af elt) else aX
def cO (o:Option au):DE (Option Int):=match o with
 |none=>qC
 |some e=>qh<|m.e c af af e
def HW (a:au) (op:CmpOp) (b:au):DE W:=
 if xh c b then (match op with
  |.In=>if behindInMarks .In b=af then kT af zR (m.e c af af b) else aX
  |.NotIn=>if behindInMarks .NotIn b=af then kT ag zR (m.e c af af b) else aX
  |_=>aX)
 else match op,b with
  |.Is,.Constant .none _ _=>kF af zR
  |.IsNot,.Constant .none _ _=>kF ag zR
  | _,_=>match vO op with
    |some g=>if behindInMarks op b=af then d2 af g zR (m.e c af af b) else aX
    |none=>aX
def aaa (a:au) (op dq:CmpOp) (b d:au):DE W:=match vO op,vO dq with
 |some g,ae g'=>if lastMarks [op,dq] [b,d]=af then d3 g g' zR (m.e c af af b) (m.e c af af d) else aX
 |_,_=>aX
def aab (bo:Bool) (a b:au):DE W:=match b with
 |.Slice lo hi ah _=>qi bo zR (cO m c lo)<|cO m c hi
 |.Slice ah ah (ae<|.UnaryOp .USub (.Constant (.int i) _ _) _) _=>if i=1 then KN bo zR else aX
 |b=>if HV b then (if Z3 c a then Hf zR (m.e c af af b) else if xh c a then kS zR (m.e c af af b) else d2 af aA zR (m.e c af af b)) else aX
def aac (bo:Bool) (ks:List<|Option au) (vs:List au):DE W:=match ks,vs with
 |[],[]=>eO bo []
 | [ae k],[v]=>(match k with
   | .Constant (.int k) _ _=>(match v with
     |.Constant (.int v) _ _=>eO bo [(.inl k,.int v)]
     |_=>aX)
   |_=>aX)
 |_,_=>aX
def aad (v:Const):DE W:=match v with
 |.int i=>dC<|.int i
 |.bool b=>dC<|.bl b
 |.none=>dC .aB
 |.str x=>dC<|.str x
 |_=>aX
def aae (op:UnaryOp) (a:au):DE W:=match op with
 |.USub=>tK zR
 |.Not=>E6 zR
 |_=>aX
def aaf (op:BoolOp) (es:List au):DE W:=match op with
 |.And=>ZX (m.e c af af) es
 |.Or=>aX
def aeX (a:au) (ops:List CmpOp) (bs:List au):DE W:=match ops,bs with
 |[op],[b]=>HW m c a op b
 |[op,dq],[b,d]=>aaa m c a op dq b d
 |_,_=>aX
def aag (bo:Bool) (f:au) (es:List au) (ks:List Keyword) (pos:aK):DE W:=match f with
 | .Name x _=>(match ks with
   |[]=>Z4 c (m.e c af af) bo x es
   |_::_=>aX)
 | .Attribute o n apos=>(match ks with
   | []=>if yW o&&(apos.endLine==pos.line) then (match c.ms.lookup n with
     |some (k,fn)=>Z6 c (m.e c af af) o n k fn es
     |none=>Z5 (xh c o) (m.e c af af) o n es) else aX
   |_::_=>aX)
 |_=>aX
def aah (bo:Bool) (elt:au) (gs:List Comprehension) (sc:bK):DE W:=match gs with
 |[⟨tg,it,ifs,0⟩]=>Z9 m c bo elt tg it ifs sc
 |_=>aX
def aeY (o:au) (n:Str):DE W:=if yW o=ag /\ n∈c.fl then cU c.C (m.e c af af o) n else aX
def sE (bo fz:Bool) (e:au):DE W:=match e with
 |.Constant v _ _=>aad v
 |.Name x _=>ZW c fz x
 |.Tuple es _ _=>gf<|uR (m.e c af af) es
 |.List es _=>gF bo<|uR (m.e c af af) es
 |.Dict ks vs _=>aac bo ks vs
 | .BinOp a op b _=>(match aeW op with
   |some g=>d2 bo g zR<|m.e c af af b
   |none=>aX)
 |.UnaryOp op a _=>aae m c op a
 |.BoolOp op es _=>aaf m c op es
 |.Compare a ops bs _=>aeX m c a ops bs
 |.IfExp t a b _=>nX (m.t c t) zR<|m.e c af af b
 |.Subscript a b _=>aab m c bo a b
 |.Call f es ks pos=>aag m c bo f es ks pos
 |.ListComp elt gs sc _=>aah m c bo elt gs sc
 |.Attribute o n _=>aeY m c o n
 |_=>aX
def sT (e:au):DE Bool:=match e with
 |.BoolOp .And es _=>ZY (m.t c) es
 |.BoolOp .Or es _=>ZZ (m.t c) es
 |.UnaryOp .Not a _=>dU<|m.t c a
 | .Compare a [op] [b] _=>if xh c b then dB (HW m c a op b) else (match op,b with
   |.Is,.Constant .none _ _=>dB<|kF af zR
   |.IsNot,.Constant .none _ _=>dB<|kF ag zR
   | _,_=>match vO op with
     |some g=>if behindInMarks op b=af then dB (d2 af g zR<|m.e c af af b) else aX
     |none=>aX)
 | .Compare a [op,dq] [b,d] _=>(match vO op,vO dq with
   |some g,ae g'=>if lastMarks [op,dq] [b,d]=af then dB (d3 g g' zR (m.e c af af b)<|m.e c af af d) else aX
   |_,_=>aX)
 |e=>if plainT e then dB (m.e c af af e) else aX
def sG (tg:au):DG:=match tg with
 | .Name x _=>(match c.ix x with
   |some i=>if c.xi x then fe i else xg
   |none=>xg)
 |.Tuple es _ _=>if eQ es then gj es.length (Qq (m.g c) es) else xg
 |.Subscript o i _=>if HV i then He (m.e c af af o) (m.e c af af i) else xg
 |_=>xg
end
section
variable {m:Cm} {k:Nat} (G:Good m) (O:bT c k X Z)
include G O
theorem OE (tg it:au):uA X T Z tg it (cI m c tg it):=by
 cases it<;>try show oo zG
 ext f es ks pos;cases f<;>try show oo zG
 rcases es with _|⟨a,_|⟨b,_|_⟩⟩<;>cases ks<;>try show oo zG
 .unfold cI;dsimp only;split
  .ext z;subst z;split
   .ext q;rw[aL]at q;let#[g1,g2,g3,g4]:=O.blt q.1;show FG g1 g4 (ou (G.e O _ _ a) lV q.2)<|fI q.2 _ _
   .show Dh
  .show oo zG
 .unfold cI;dsimp only;split
  .ext z;subst z;split
   .ext q;simp[aL]at q;let#[#[q,n1],n2]:=q;let#[g1,g2,g3,g4]:=O.blt q;show FH g1 g4 (ou (G.e O _ _ a) (ou (G.e O _ _ b) lV n2) n1) (by rw[fI n1,fI n2];rfl)<|fI n2 _ _
   .show Dh
  .split
   .ext z;subst z;split
    .ext q;simp[aL]at q;let#[#[q,n1],n2]:=q;let#[g1,g2,g3,g4]:=O.blt q;show PU g1 g4 (ou (G.e O _ _ a) (ou (G.e O _ _ b) lV n2) n1) (by rw[fI n1,fI n2];rfl)<|fI n2 _ _
    .show Dh
   .show oo zG
theorem OF (ifs:List au):PF X ifs (sY T Z<|cF m c ifs):=by
 unfold cF;split
 .show Ps
 .show Pt<|G.t O _
 .show λ_ _ _ _ _ _ h=>by let#[_,_,_,_,_,h]:=h;show h.elim
omit G in
theorem SJ {i:Nat}(h:Z8 c e=ae i):PD X T Z e (dV i):=by
 unfold Z8 at h;split at h
 .split at h
  .ext q;rw[aL]at q;let#[a,b,d]:=O.ZV q.2;show Mj i (O.at h) a b d
  .cases h
 .cases h
theorem OG (bo:Bool) (elt tg it:au) (ifs:List au) (sc:bK) (pos:aK):PD X T Z (.ListComp elt [#[tg,it,ifs,0]] sc pos) (Z9 m c bo elt tg it ifs sc):=by
 unfold Z9;split
 .ext q;rw[aL]at q;let#[S,OO]:=O.inner q.1;show Pr bo O.calm S (OE G O tg it) (λ_ _ _ _ _ _=>G.g (OO _ _ _ _ _) tg) (λ_ _ _ _ _ _=>OF G (OO _ _ _ _ _) ifs) (λ_ _ _ _ _ _=>G.e (OO _ _ _ _ _) _ _ elt) λx=>oJ q.2 x
 .show fG
theorem OH (a:au) (op:CmpOp) (b:au) (pos:aK):PD X T Z (.Compare a [op] [b] pos) (HW m c a op b):=by
 unfold HW;split
 .split
  .split
   .ext q;show UX O.u1 (G.e O _ _ a) (G.e O _ _ b) q
   .show fG
  .split
   .ext q;show P8 O.u1 (G.e O _ _ a) (G.e O _ _ b) q
   .show fG
  .show fG
 .split
  .show UY<|G.e O _ _ a
  .show P9<|G.e O _ _ a
  .split
   .ext g e;let#[q,h1,h2]:=mC O.u0 e;split
    .ext z;show Ul h1 h2 (G.e O _ _ a) (G.e O _ _ b) z
    .show fG
   .show fG
theorem OI (a:au) (op dq:CmpOp) (b d:au) (pos:aK):PD X T Z (.Compare a [op,dq] [b,d] pos) (aaa m c a op dq b d):=by
 unfold aaa;split
 .ext g g' e e';let#[q,h1,h2]:=mC O.u0 e;let#[q',aai,aaj]:=mC O.u0 e';split
  .ext z;show Mo h1 aai h2 aaj (G.e O _ _ a) (G.e O _ _ b) (G.e O _ _ d) z
  .show fG
 .show fG
theorem Tw (o:Option au):Hc X T Z o (cO m c o):=by
 unfold cO;split
 .show UB
 .show Mz zG
theorem SK (bo:Bool) (a b:au) (pos:aK):PD X T Z (.Subscript a b pos) (aab m c bo a b):=by
 have aja:∀ b,HV b=ag->PD X T Z (.Subscript a b pos) (if Z3 c a then Hf zR (m.e c af af b) else if xh c a then kS zR (m.e c af af b) else d2 af aA zR (m.e c af af b)):=λb n=>by
  split
  .show UO (G.e O _ _ a) zG<|BE n
  .split
   .show P7 O.u1 (G.e O _ _ a) zG<|SG n
   .show Wo T7 ahq (G.e O _ _ a) zG<|BE n
 cases b<;>try show aja _ zj
 rename_i lo hi st _;rcases st with _|st
 .show MA bo (G.e O _ _ a) (Tw G O _)<|Tw G O _
 cases st<;>try show fG
 rename_i op e _;cases op<;>try show fG
 cases e<;>try show fG
 rename_i v _ _;cases v<;>try show fG
 cases lo<;>cases hi<;>try show fG
 unfold aab;try dsimp only
 split
 .ext z;subst z;show UD bo<|G.e O _ _ a
 .show fG
omit G O in
theorem SL (bo:Bool) (ks:List<|Option au) (vs:List au) (pos:aK):PD X T Z (.Dict ks vs pos) (aac bo ks vs):=by
 unfold aac;split
 .show PQ bo
 .split
  .split
   .show PR bo
   .show fG
  .show fG
 .show fG
omit G O in
theorem SM (v:Const) (k:Nat) (pos:aK):PD X T Z (.Constant v k pos) (aad v):=by
 unfold aad;split
 .show Uh
 .show Wn
 .show Ui
 .show Uj
 .show fG
theorem V0 (op:UnaryOp) (a:au) (pos:aK):PD X T Z (.UnaryOp op a pos) (aae m c op a):=by
 unfold aae;split
 .show UE zG
 .show Ur zG
 .show fG
theorem V1 (op:BoolOp) (es:List au) (pos:aK):PD X T Z (.BoolOp op es pos) (aaf m c op es):=by
 unfold aaf;split
 .show Jp (G.e O _ _) _
 .show fG
theorem V2 (a:au) (ops:List CmpOp) (bs:List au) (pos:aK):PD X T Z (.Compare a ops bs pos) (aeX m c a ops bs):=by
 rcases ops with _|⟨op,_|⟨dq,_|_⟩⟩<;>rcases bs with _|⟨b,_|⟨d,_|_⟩⟩<;>try show fG
 .show OH G O _ _ _ _
 .show OI G O _ _ _ _ _ _
theorem V3 (bo:Bool) (f:au) (es:List au) (ks:List Keyword) (pos:aK):PD X T Z (.Call f es ks pos) (aag m c bo f es ks pos):=by
 unfold aag;split
 .split
  .show OD O (G.e O _ _) bo _
  .show fG
 .split
  .split
   .ext q;rw[aL]at q;split
    .ext e;show VZ O (G.e O _ _) e _ q.1 q.2
    .show SI O.u1 _ (G.e O _ _) _ q.1 q.2
   .show fG
  .show fG
 .show fG
theorem V4 (bo:Bool) (elt:au) (gs:List Comprehension) (sc:bK) (pos:aK):PD X T Z (.ListComp elt gs sc pos) (aah m c bo elt gs sc):=by
 unfold aah;split
 .show OG G O bo _ _ _ _ _ _
 .show fG
theorem Yj (bo fz:Bool) (e:au):PD X T Z e (sE m c bo fz e):=by
 cases e<;>try show fG
 .show V1 G O _ _ _
 .unfold sE;dsimp only;split
  .ext g e;let#[q,h1,h2]:=SE e;show Uk bo h1 h2 zG zG
  .show fG
 .show V0 G O _ _ _
 .show Us (G.t O _) zG zG
 .show SL bo _ _ _
 .show V4 G O bo _ _ _ _
 .show V2 G O _ _ _ _
 .show V3 G O bo _ _ _ _
 .show SM _ _ _
 .unfold sE aeY;dsimp only;split
  .ext q;show UZ (O.ob.cls λz=>by rw[z]at q;cases q.2) (O.ob.na _ q.2) zG<|iE q.1
  .show fG
 .show SK G O bo _ _ _
 .show Oz O fz
 .show Uu bo<|lT (G.e O _ _) _
 .show Ut<|lT (G.e O _ _) _
theorem Yk (e:au):eK X T Z e (sT m c e):=by
 cases e<;>try show Pe zG λw=>Lu zj w
 .rename_i op _ _;cases op
  .show S8<|Fm (G.t O) _
  .show S8<|Jq (G.t O) _
 .rename_i op _ _;cases op<;>try show iD
  show Pj<|G.t O _
 .show iD
 .ext a ops bs pos;rcases ops with _|⟨op,_|⟨dq,_|_⟩⟩<;>rcases bs with _|⟨b,_|⟨d,_|_⟩⟩<;>try show iD
  .unfold sT;dsimp only;split
   .ext h;unfold HW;rw[if_pos h];cases op<;>try show iD
    .dsimp only;split
     .ext q;show SH O.u1 (G.e O _ _ a) (G.e O _ _ b) q
     .show iD
    .dsimp only;split
     .ext q;show OC O.u1 (G.e O _ _ a) (G.e O _ _ b) q
     .show iD
   .have dflt:∀ op b,eK X T Z (.Compare a [op] [b] pos) (match vO op with
     |some g=>if behindInMarks op b=af then dB (d2 af g zR<|m.e c af af b) else aX
     |none=>aX):=λop b=>by
     split
     .ext g e;let#[q,h1,h2]:=mC O.u0 e;split
      .ext z;show Pf h1 h2 zG zG z
      .show iD
     .show iD
    cases op<;>try show dflt _ _
    all_goals (cases b<;>try show dflt _ _)
    all_goals (rename_i v _ _ _;cases v<;>try show dflt _ _)
    .show PT.imp (CA (LA zG) zj) λσ H Q h=>Yi<|Mn h
    .show PT.imp (CA (Gv zG) zj) λσ H Q h=>VX<|Mn h
  .unfold sT;dsimp only;split
   .ext g g' e e';let#[q,h1,h2]:=mC O.u0 e;let#[q',aai,aaj]:=mC O.u0 e';split
    .ext z;show JJ h1 aai h2 aaj zG zG zG z
    .show iD
   .show iD
theorem Ym (tg:au):nY X T tg (sG m c tg):=by
 unfold sG;split
 .split
  .ext i e;split
   .ext h;let#[a,b]:=O.lo h;show Mu i O.pb (O.at e) a b
   .show mB
  .show mB
 .split
  .ext h;show WD O.calm (OA (G.g O) _) h zj
  .show mB
 .split
  .ext o i pos h;show PN (G.e O _ _ o) (G.e O _ _ i) (λv=>by cases i<;>first|rfl|cases h)
  .show mB
 .show mB
end
end L2.DL
namespace L2
end L2
namespace L2.DL
open PySem.W
section
variable {env:Env} {y:Str} {px py pt nH:aK} {kt k2:Nat} {a b:au}
theorem SN (hk:env.blockKind=.function) (hx:env.kindOf x=ae .local) (hy:env.kindOf y=ae .local) (hl:(px.line==py.line)=ag) (nv:x≠y) (na:cu a=ag) (nb:cu b=ag)
 (nf:([a,b].all<|foldedForSure 8)=af) (nc:([a,b].all<|constantsAlone 8)=af) :
 swappedStores [.Tuple [.Name x px,.Name y py] kt pt] (.Tuple [a,b] k2 nH) env=pure (ae [x,y]):=by
 have hd:([x,y]).eraseDups.length=2:=by
  have:(y==x)=af:=by simpa using Ne.symm nv
  simp[List.eraseDups_cons,this]
 have hp:∀ (x) (p),(Expr.Name x p).pos=p:=λ_ _=>rfl;unfold swappedStores;erw[hk,abK,ue,hp,];simp[(by simpa using hl),hd,hx,hy,nf,nc];rintro(h|h)
 .cases a<;>first|(cases h;done)|cases na
 .cases b<;>first|(cases h;done)|cases nb
theorem SO (hk:env.blockKind=.function) (na:cu a=ag) (nb:cu b=ag) (h:(env.kindOf x==ae .local&&env.kindOf y==ae .local)=af) :
 swappedStores [.Tuple [.Name x px,.Name y py] kt pt] (.Tuple [a,b] k2 nH) env=pure ah:=by
 have hp:∀ (x:Str) (p:aK),(Expr.Name x p).pos=p:=λ_ _=>rfl;unfold swappedStores;erw[abK,ue,hp];rw[abi]at h;rcases h with h|h
 .erw[qU,abL,h,Io];by_cases q:(env.kindOf y==ae .local&&py.line==px.line)=ag
  .simp[q]
  .simp[q]
 .erw[qU,abL,h,Io];by_cases z:env.kindOf x=ae .local<;>simp[z]
end
def xj (f:bp->az):List bp->az
 |[]=>aY
 |[s]=>f s
 |s::r=>fq (f s)<|xj f r
theorem mV {X:Cx}{Z:Xs}{T:Fr}{f:bp->az}(h:∀ s,cx X T Z s<|f s):∀ b,rG X T Z b (xj f b)
 |[]=>Pl
 |[s]=>Pm<|h s
 |s::a::r=>Mr (h s)<|mV h _
noncomputable def aak:au->au->Bool
 |.Tuple ..,.Tuple ..|.List ..,.Tuple ..=>af
 |_,_=>ag
theorem Tz {env:Env}(h:aak tg e=ag):swappedStores [tg] e env=pure ah:=by
 cases tg with
 |Tuple es n p=>cases e<;>first|rfl|cases h
 |List es p=>cases e<;>first|rfl|cases h
 |_=>rfl
noncomputable def aal (c:Cf) (x:Str) (tp cp:aK) (sc:bK):Bool:=c.nm.lookup x==ae .local&&tp.line==cp.line&&!(sc.names.any λ(n,k)=>n==x&&(k==.local||k==.cell))
section
variable {k:Nat} 
theorem bT.block (O:bT c k X Z):X.env.blockKind=.function:=by unfold Env.blockKind;rw[O.kd];rfl
theorem SQ (O:bT c k X Z) {elt:au}{gs:List Comprehension}{sc:bK}{cp tp:aK}{l:Nat}:swapsWith (.ListComp elt gs sc cp) (ae<|.Name x tp) l X.env=pure (aal c x tp cp sc):=by
 have h:swapsWith (.ListComp elt gs sc cp) (ae<|.Name x tp) l X.env=pure _:=rfl;rw[h,O.block];unfold Env.kindOf aal;rw[O.nm];rfl
end
noncomputable def Cf.rF (c:Cf):Cf:={ c with rx:=ag,tr:=af }
section
variable {k:Nat} 
theorem bT.rF (O:bT c k X Z) (h:c.tr=ag) (pn:List<|ai×aV) (E:XK):bT c.rF k (X.rF pn E) #[E,Z.cl]:=
 #[O.N,O.nm,O.kd,O.calm,O.fn,O.ow,O.nd,O.room,O.fs,O.gl,O.bl,B5.passes,O.ti,O.tb,O.tt,O.tl,λz=>(by cases z),λ_=>#[B5,(O.aeT h).1],λz=>(by cases z),O.ob]
end
theorem lA {t:au}{l:Nat}{env:Env}(h:n9 e=af):swapsWithSole [t] e l env=pure af:=jM h
section
variable (m:Cm) (c:Cf)
noncomputable def aam:au->Bool
 |.Dict [] [] _=>ag
 |_=>af
def aan (x:Str) (tp:aK) (e:au):az:=match c.ix x with
 | some i=>if c.xi x then (match e with
   | .ListComp elt [⟨tg,it,ifs,0⟩] sc cp=>if c.Qu tg sc&&Qr it&&aal c x tp cp sc then (match Z8 c it with
     |some j=>fJ (wY (c.bx.contains x) (c.src tg sc) j (m.g (c.inner tg sc) tg) (cF m (c.inner tg sc) ifs)<|m.e (c.inner tg sc) af af elt)<|fe i
     |none=>fJ (f7 (c.bx.contains x) (c.src tg sc) (cI m c tg it) (m.g (c.inner tg sc) tg) (cF m (c.inner tg sc) ifs)<|m.e (c.inner tg sc) af af elt)<|fe i) else bZ
   |e=>if n9 e then bZ else fJ (if c.kd x 3&&aam e then yD else m.e c (c.bx.contains x) af e) (fe i)) else bZ
 |none=>bZ
def aeZ (c:Cf) (x y:Str) (px py:aK) (a b:au):Bool:=cu a&&cu b&&decide (x≠y)&&c.xi x&&c.xi y&&(if c.nm.lookup x==ae .local&&c.nm.lookup y==ae .local then px.line==py.line&&!([a,b].all<|foldedForSure 8)&&!([a,b].all<|constantsAlone 8) else ag)
def aao (x y:Str) (px py:aK) (a b:au):az:=match c.ix x,c.ix y with
 |some i,ae j=>if aeZ c x y px py a b then kO i j (fc (m.e c (c.bx.contains x) af a)<|fc (m.e c (c.bx.contains y) af b) ff) else bZ
 |_,_=>bZ
def Qv (tg e:au):az:=match tg,e with
 |.Name x tp,e=>aan m c x tp e
 |.Tuple [.Name x px,.Name y py] _ _,.Tuple [a,b] _ _=>aao m c x y px py a b
 |.Subscript o i p,e=>if n9 e then bZ else if aeV c 3 o then yH (m.e c af af o) (m.e c af af i) (m.e c af af e) else if xh c o then rR (m.e c af af o) (m.e c af af i) (m.e c af af e) else fJ (m.e c af af e) (m.g c<|.Subscript o i p)
 |.Attribute o n _,e=>if n9 e=af /\ n∈c.fl then qj c.C (m.e c af af o) n (m.e c af af e) else bZ
 |tg,e=>if !n9 e&&cu tg&&aak tg e then fJ (m.e c af af e) (m.g c tg) else bZ
def aap (e:Option au):az:=match e with
 | some (.Call (.Name x _) [a] [] _)=>(match Hy.findIdx? λy=>decide (y=x) with
   |some i=>if c.rx&&decide (i<17)&&cu a&&c.uQ x then yu i zR else bZ
   |none=>bZ)
 |_=>bZ
def Qw (e:au) (k:Str->az):az:=match e with
 |.Name x _=>k x
 |_=>bZ
def aaq (body:List bp) (hs:List ExceptHandler):az:=match hs with
 | [.ExceptHandler (ae r) (ae n) [.Return (ae e) _] _]=>Qw r λr=>(match e with
   | .Call f as [] _=>Qw f λw=>(match as with
     | [a]=>Qw a λn'=>(match c.ix n with
       |some i=>if c.tr&&decide (r="RimeError")&&decide (w="_law_word")&&decide (n=n')&&c.uQ "RimeError"&&c.uQ "_law_word"&&c.HU n&&decide (c.nm.lookup n=ae .local) then vD (xj (m.s c.rF) body) else bZ
       |none=>bZ)
     |_=>bZ)
   |_=>bZ)
 |_=>bZ
def aar (t:au) (op:Operator) (e:au):az:=match t with
 | .Name x _=>(match c.ix x with
   | some i=>if c.xi x then (match op with
     |.Add=>rW af i<|m.e c af af e
     |.Sub=>rW ag i<|m.e c af af e
     |_=>bZ) else bZ
   |none=>bZ)
 |_=>bZ
def sS (st:bp):az:=match st with
 |.Assign [tg] e _=>Qv m c tg e
 |.Return (ae e) _=>fF<|m.e c c.rb (!c.rb) e
 |.Expr e _=>if n9 e then bZ else fX (m.e c af af e)
 |.If t a b _=>aR (m.t c t) (xj (m.s c) a)<|xj (m.s c) b
 |.For tg it body [] _=>if Qr it&&!c.rx then gT (cI m c tg it) (m.g c tg) (xj (m.s c) body) else bZ
 |.Raise e ah _=>aap m c e
 |.Try body hs [] [] _=>aaq m c body hs
 |.AugAssign t op e _=>aar m c t op e
 |.Delete [.Subscript o i _] _=>if xh c o then uN (m.e c af af o) (m.e c af af i) else bZ
 |.Break _=>KC
 |.Continue _=>KD
 |_=>bZ
end
section
variable {m:Cm} {k:Nat} (G:Good m) (O:bT c k X Z)
include G O
theorem SR (x:Str) (e:au) (tp pos:aK):cx X T Z (.Assign [.Name x tp] e pos) (aan m c x tp e):=by
 unfold aan;split
 .ext i hi;split
  .ext hl;let#[l1,l2]:=O.lo hl;split
   .ext elt tg it ifs sc cp;split
    .ext q;rw[aL,aL]at q;let#[S,OO]:=O.inner q.1.1;have sw:=SQ O (elt:=elt) (gs:=[#[tg,it,ifs,0]]) (sc:=sc) (cp:=cp) (tp:=tp) (x:=x) (l:=pos.line);rw[q.2]at sw;split
     .show La i _ O.calm S (SJ O (by assumption)) (λ_ _ _ _ _ _=>G.g (OO _ _ _ _ _) tg) (λ_ _ _ _ _ _=>OF G (OO _ _ _ _ _) ifs) (λ_ _ _ _ _ _=>G.e (OO _ _ _ _ _) _ _ elt) O.pb (O.at hi) l1 sw l2 λx=>oJ q.1.2 x
     .show MU i _ O.calm S (OE G O tg it) (λ_ _ _ _ _ _=>G.g (OO _ _ _ _ _) tg) (λ_ _ _ _ _ _=>OF G (OO _ _ _ _ _) ifs) (λ_ _ _ _ _ _=>G.e (OO _ _ _ _ _) _ _ elt) O.pb (O.at hi) l1 sw l2 λx=>oJ q.1.2 x
    .show fK
   .split
    .show fK
    .ext h;refine Pp i ?_ O.pb (O.at hi) l1 (jM (by simpa using h)) l2;split
     .ext q;rw[aL]at q;revert q;cases e with
      |Dict ks vs p=>cases ks<;>cases vs<;>first|(intro _;show Rt)|(intro q;show absurd q.2 (by simp[aam]))
      |_=>intro q;show absurd q.2 (by simp[aam])
     .show G.e O _ _ _
  .show fK
 .show fK
theorem SS (x y:Str) (a b:au) (px py pt nH pos:aK) (kt k2:Nat):cx X T Z zal (aao m c x y px py a b):=by
 unfold aao;split
 .ext i j hi hj;split
  .ext q;unfold aeZ at q;rw[aL,aL,aL,aL,aL,decide_eq_true_eq]at q;let#[#[#[#[#[na,nb],nv],hx],hy],q]:=q;have ps:dJ X T Z _ (fc (m.e c (c.bx.contains x) af a)<|fc (m.e c (c.bx.contains y) af b) ff):=ou (G.e O _ _ a) (ou (G.e O _ _ b) lV nb) na;have kx:X.env.kindOf x=c.nm.lookup x:=by unfold Env.kindOf;rw[O.nm]
   have ky:X.env.kindOf y=c.nm.lookup y:=by unfold Env.kindOf;rw[O.nm]
   by_cases h:(c.nm.lookup x==ae NameKind.local&&c.nm.lookup y==ae NameKind.local)=ag
   .rw[if_pos h]at q;erw[aL,pz]at q;rw[aL]at h;have h1:c.nm.lookup x=ae .local:=by simpa using h.1
    have h2:c.nm.lookup y=ae .local:=by simpa using h.2
    refine P5 i j O.calm O.pb ps (O.at hi) (O.at hj) (λz=>?_) (by rw[O.nm];show h1) (by rw[O.nm];show h2) (SN O.block (kx.trans h1) (ky.trans h2) q.1.1 nv na nb q.1.2 q.2)<|lA zj;subst z;have:=(c.ZU hi).symm.trans<|c.ZU hj;show nv<|Option.some.inj this
   .let#[l1,l2]:=O.lo hx;let#[l3,l4]:=O.lo hy;refine MZ i j O.calm O.pb ps (O.at hi) (O.at hj) l1 l3 l2 l4 (lA zj) (SO O.block na nb ?_) zj zj zj zj zj;rw[kx,ky];simpa using h
  .show fK
 .show fK
theorem SU (tg e:au) (pos:aK):cx X T Z (.Assign [tg] e pos) (Qv m c tg e):=by
 have dflt:∀ tg e,cx X T Z (.Assign [tg] e pos) (if !n9 e&&cu tg&&aak tg e then fJ (m.e c af af e) (m.g c tg) else bZ):=λtg e=>by
  split
  .ext q;erw[aL,pz]at q;show GI zG (G.g O _) (lA q.1.1) (Tz q.2) (by rw[lK q.1.2];rfl)
  .show fK
 cases tg<;>try show dflt _ _
 .unfold Qv;try dsimp only
  split
  .ext q;show Rb (O.ob.cls λz=>by rw[z]at q;cases q.2) (O.ob.na _ q.2) zG zG<|jM q.1
  .show fK
 .unfold Qv;try dsimp only
  split
  .show fK
  .ext h;split
   .show Lc O.u1 zG zG zG<|jM (by simpa using h)
   split
   .show MY O.u1 zG zG zG<|jM (by simpa using h)
   .show GI zG (G.g O _) (lA (by simpa using h)) (Tz zj) zj
 .show SR G O _ _ _ _
 .rename_i es _ _;rcases es with _|⟨x,_|⟨y,es⟩⟩<;>try show dflt _ _
  all_goals (cases x<;>try show dflt _ _)
  all_goals (cases y<;>try show dflt _ _)
  cases es<;>try show dflt _ _
  cases e<;>try show dflt _ _
  rename_i vs _ _;rcases vs with _|⟨a,_|⟨b,vs⟩⟩<;>try show dflt _ _
  cases vs<;>try show dflt _ _
  show SS G O _ _ _ _ _ _ _ _ _ _ _
theorem SV (t:au) (op:Operator) (e:au) (pos:aK):cx X T Z (.AugAssign t op e pos) (aar m c t op e):=by
 unfold aar;split
 .split
  .ext i hi;split
   .ext hl;let#[l1,l2]:=O.lo hl;split
    .show RI i zG O.pb (O.at hi) l1 l2
    .show RJ i zG O.pb (O.at hi) l1 l2
    .show fK
   .show fK
  .show fK
 .show fK
theorem Yn (st:bp):cx X T Z st (sS m c st):=by
 cases st<;>try show fK
 .rename_i v _;cases v<;>try show fK
  show Pn zG
 .rename_i ts _;rcases ts with _|⟨t,ts⟩<;>try show fK
  cases t<;>try show fK
  cases ts<;>try show fK
  unfold sS;dsimp only;split
  .show Rv zG zG
  .show fK
 .rename_i ts _ _;rcases ts with _|⟨_,_|_⟩<;>try show fK
  show SU G O _ _ _
 .show SV G O _ _ _ _
 .rename_i tg it bd oe _;cases oe<;>try show fK
  unfold sS;dsimp only;split
  .ext h;rw[aL,pz]at h;show Pq (O.own h.2) O.calm (OE G O _ _) (G.g O _) (mV (G.s O) _) λx=>oJ h.1 x
  .show fK
 .show Uw (G.t O _) (mV (G.s O) _)<|mV (G.s O) _
 .rename_i e ca _;cases ca<;>try show fK
  change cx X T Z _ (aap m c e);unfold aap;split
  .split
   .ext i hi;split
    .ext q;erw[aL,decide_eq_true_eq]at q;let#[#[#[q1,q2],q3],q4]:=q;let#[l,R,E]:=O.ai8 q1;let#[g1,g2,_]:=O.gb q4;let#[h1,h2,_]:=List.findIdx?_eq_some_iff_getElem.mp hi;refine J3 i E O.calm l g1 (by rw[cX h1,of_decide_eq_true h2]) zG q2 ?_ g2;simp[eQ,q3]
    .show fK
   .show fK
  .show fK
 .rename_i bd hs oe fi _;cases oe<;>cases fi<;>try show fK
  change cx X T Z _ (aaq m c bd hs);unfold aaq;split
  .rename_i r n e _ _;cases r<;>try show fK
   cases e<;>try show fK
   rename_i f as kw _;cases kw<;>try show fK
   cases f<;>try show fK
   rcases as with _|⟨a,_|_⟩<;>try show fK
   cases a<;>try show fK
   dsimp only[Qw];split
   .ext i hi;split
    .ext q;erw[aL,decide_eq_true_eq]at q;let#[#[#[#[#[#[#[q1,rfl],rfl],rfl],q5],q6],q7],q8]:=q;let#[#[R,E],W,hk,pD,nI]:=O.aeT q1;let#[v1,v2,v3]:=O.ZV q7;show P4 i E W O.room hk pD nI zj (O.gb q5).1 (O.gb q6).1 O.pb (O.at hi) (by unfold Env.kindOf;rw[O.nm];show q8) (λpn E=>mV (G.s<|O.rF q1 pn E) _) v1 v2 v3
    .show fK
   .show fK
  .show fK
 .unfold sS;dsimp only;split
  .show fK
  .ext h;show Mt zG<|jM (by simpa using h)
 .show JL
 .show Ms
end
def ajb (m:Cm):Cm:=#[λc bo fz e=>sE m c bo fz e,λc e=>sT m c e,λc e=>sG m c e,λc st=>sS m c st]
def cm:Nat->Cm
 |0=>#[λ_ _ _ _=>aX,λ_ _=>aX,λ_ _=>xg,λ_ _=>bZ]
 |n+1=>ajb<|cm n
theorem lB:∀ n,Good (cm n)
 |0=>#[λ_ _ _ _ _=>fG,λ_ _ _=>iD,λ_ _ _=>mB,λ_ _ _=>fK]
 |n+1=>#[λO _ bo fz e=>Yj (lB n) O bo fz e,λO _ e=>Yk (lB n) O e,λO _ e=>Ym (lB n) O e,λO _ st=>Yn (lB n) O st]
structure FI where
 x:Str
 ps:List Str
 N:List Str
 bx:List Str
 dc:List Str
 wk:List (Str×Nat)
 fl:Nat   -- 1: its list is a box as it is returned,2: may raise,4: has a try,16: a method,32: __init__,64: ala name (its bx) of the def ahead of it
 st:bp
 fn:List W->List Bx->O W
structure Tx where
 Qn:Str
 gl:List (Str×Int)
 bl:List Str
 C:ai
 fl:List Str
 cn:Str
 cf:Str
noncomputable abbrev Fs:=List<|Str×(Nat×(List W->List Bx->O W))
abbrev Mc:=Option<|Str×(Str×az)
noncomputable def FI.b (f:FI) (i:Nat):Bool:=f.fl / i % 2==1
def Qx (r:List FI):Fs:=(r.filter λg=>!(g.b 16||g.b 32)).map λg=>(g.x,(g.ps.length,g.fn))
def Qy (r:List FI):Fs:=(r.filter λg=>g.b 16&&!g.b 32).map λg=>(g.x,(g.ps.length,g.fn))
def FI.cf (t:Tx) (fs ms:Fs) (mc:Mc) (f:FI):Cf:=
 { N:=f.N,nm:=(fE f.st).names,f:=ag,bx:=f.bx,dc:=f.dc,wk:=f.wk,Qn:=t.Qn,fs:=fs,gl:=t.gl,bl:=t.bl,rb:=f.b 1,rx:=f.b 2,tr:=f.b 4,ow:=[],C:=t.C,fl:=t.fl,ms:=ms,mc:=mc }
def FI.body (t:Tx) (fs ms:Fs) (mc:Mc) (f:FI):List W->List Bx->O W:=
 let m:=xj ((cm 40).s<|f.cf t fs ms mc)<|f8 f.st
 aM f.N.length (if f.b 2 then m else aO m)
def ae0 (t:Tx) (r:List FI) (f:FI):az:=K8 ((cm 40).s<|f.cf t (Qx r) (Qy r) ah) (f8 f.st).dropLast
def Qz (t:Tx):List FI->Mc
 |[]=>ah
 |f::r=>if f.b 32 then ae (t.cn,(t.cf,ae0 t r f)) else Qz t r
def FI.ok (f:FI):Bool:=decide ((fE f.st).kind=.function)&&!(fE f.st).isCoroutine&&!(fE f.st).isGenerator&&decide f.N.Nodup&&decide (f.N.take f.ps.length=f.ps) &&
 f.ps.all (λx=>decide ((fE f.st).names.lookup x=ae .local)||decide ((fE f.st).names.lookup x=ae .cell))&&(fE f.st).names.all λy=>decide (y.2≠.free)
theorem FI.scope {f:FI}(h:f.ok=ag):rn f.N f.ps (fE f.st):=by
 erw[FI.ok,aL,decide_eq_true_eq,bR,vW,pz]at h;let#[#[#[#[#[#[h1,h2],h3],h4],h5],h6],h7]:=h;show#[h1,h2,h3,h4,h5,h6,λy m=>h7 y m]
def FI.Is (t:Tx) (r:List FI) (f:FI):zk:=
 (f.b 64=af /\ f.fn=f.body t (Qx r) (Qy r) (Qz t r)) \/
 (f.b 64=ag /\ ∃ g r',r=g::r' /\ f.bx=[g.x] /\ f.fn=g.fn /\ f.ps=g.ps /\ (g.b 16||g.b 32)=af /\ (f.b 16||f.b 32)=af) \/ f.b 32=ag
noncomputable def aas (t:Tx):List FI->zk
 |[]=>True
 |f::r=>f.Is t r /\ aas t r
noncomputable def pd:List FI->Nat
 |[]=>0
 |_::r=>pd r+2
def QA (t:Tx) (f:FI):Bool:=match (f8 f.st).getLast? with
 |some (.Assign [.Attribute (.Name s _) n _] (.List [] _) _)=>decide (n=t.cf)&&decide (n∈t.fl)&&decide (f.N[0]?=ae s)&&(decide ((fE f.st).names.lookup s=ae .local))&&!(s==("__debug__":Str))&&!(s==("__classdict__":Str))&&decide (f.ps.length=2)&&decide (f.N.length=2)&&decide (f.x="__init__")
 |_=>af
structure QB (P:cG) (w:bH) (K:PySem.W.Frag) (mg:Str->Option aj) (base:aE) (cl:Nat->ai) (t:Tx) (ex tr:Bool):zk where
 gl:∀ x v,t.gl.lookup x=ae v->∃ u,mg x=ae (.int v u)
 bl:∀ x,x∈t.bl->mg x=ah
 ti:qg K "int"
 tb:qg K "bool"
 tt:qg K "tuple"
 tl:qg K "list"
 ext:ex=ag->∃ R,nD K mg R cl
 hw:tr=ag->Hz P w K mg base cl
 na:∀ f,f∈t.fl->rm K t.C f
 cls:t.fl≠[]->kL K t.C /\ mg t.cn=ae (.ref t.C) /\ makesIn K t.C=ag /\ keepIn K (.ref t.C)=ag
def ajc (K:PySem.W.Frag) (C:ai) (x:Str) (st:bp) (ps:List Str):zk:=∃ (f:ai) (fd:FuncData) (q:Str),eD K x q st f fd /\ Meth K C x f /\ Binds K fd ps []
def vP (K:PySem.W.Frag) (mg:Str->Option aj) (C:ai) (f:FI):zk:=if (f.b 16||f.b 32)=ag then ajc K C f.x f.st f.ps else if f.b 64=ag then mg f.x=mg (f.bx.headD "") else Def K mg f.x f.st f.ps
theorem Jr {t:Tx}{ex tr:Bool}(B:QB P w K mg base cl t ex tr) {f:FI}{q:Str}{fa:ai}(d:eD K f.x q f.st fa fd) (ho:f.ok=ag) (hex:f.b 2=ag \/ f.b 4=ag->ex=ag) (QC:f.b 4=ag->tr=ag) (vj:f.b 2=ag->f.b 4=af) {k:Nat}(hk:f.b 4=ag->1<=k)
 {fs ms:Fs}{mc:Mc}(F:∀ x n fn,fs.lookup x=ae (n,fn)->∃ kk ps,rL P w K mg base cl kk x ps fn /\ ps.length=n /\ kk<=k) (B2:Qo P w K mg base cl t.C t.fl ms mc k):cZ P w K mg base (dz P w) (k+1) fa fd f.ps (qd cl f.ps.length<|f.body t fs ms mc):=by
 have S:=FI.scope ho;unfold FI.body;cases h2:f.b 2 with
 |false=>
   refine Wu d S λcdv A outer s H E n F0 hr=>mV ((lB 40).s (k:=k) ?_) _;show#[rfl,rfl,S.kind,rfl,λ_ _=>rfl,(λx m=>nomatch m),S.nd,hr,F,B.gl,B.bl,CN,B.ti,B.tb,B.tt,B.tl,λ_=>PassesOwn.never,λz=>absurd (h2.symm.trans z) zc,λz=>#[B.ext (hex<|.inr z),B.hw<|QC z,hk z,rfl,rfl],B2]
 |true=>
   refine Yv d S λcdv A outer s H E n F0 hr=>mV ((lB 40).s (k:=k) ?_) _;show#[rfl,rfl,S.kind,rfl,λ_ _=>rfl,(λx m=>nomatch m),S.nd,hr,F,B.gl,B.bl,Dv.passes,B.ti,B.tb,B.tt,B.tl,λz=>absurd (h2.symm.trans z) zc,λ_=>#[Dv,B.ext (hex<|.inl h2)],λz=>absurd ((vj h2).symm.trans z) zc,B2]
theorem OJ {t:Tx}{ex tr:Bool}(B:QB P w K mg base cl t ex tr) {f:FI}{q:Str}{fa:ai}(d:eD K f.x q f.st fa fd) (ho:f.ok=ag) (hi:QA t f=ag) (h2:f.b 2=af) (h4:f.b 4=af) {k:Nat}{r:List FI}
 (F:∀ x n fn,(Qx r).lookup x=ae (n,fn)->∃ kk ps,rL P w K mg base cl kk x ps fn /\ ps.length=n /\ kk<=k) (B2:Qo P w K mg base cl t.C t.fl (Qy r) ah k):cZ P w K mg base (dz P w) (k+1) fa fd f.ps (K9 t.C t.cf<|ae0 t r f):=by
 have S:=FI.scope ho;unfold QA at hi;split at hi
 case h_2=>cases hi
 ext s p1 n p2 p3 p4 el;erw[aL,decide_eq_true_eq,pz]at hi;let#[#[#[#[#[#[#[#[rfl,i1],i2],i3],i4],i5],i6],i7],_]:=hi;have wW:f8 f.st=(f8 f.st).dropLast++[.Assign [.Attribute (.Name s p1) t.cf p2] (.List [] p3) p4]:=by
  let#[b,e]:=List.getLast?_eq_some_iff.mp el;rw[e];simp
 refine Rf (cl:=cl) d S i6 i7 (B2.cls λz=>by rw[z]at i1;cases i1) (B2.na _ i1) wW i2 (Or.inl i3) i4 i5 λcdv A outer s H E T hr=>(lB 40).s (k:=k) ?_;show#[rfl,rfl,S.kind,rfl,λ_ _=>rfl,(λx m=>nomatch m),S.nd,hr,F,B.gl,B.bl,CN,B.ti,B.tb,B.tt,B.tl,λ_=>PassesOwn.never,λz=>absurd (h2.symm.trans z) zc,λz=>absurd (h4.symm.trans z) zc,B2]
def aat (t:Tx) (ex tr:Bool) (r:List FI) (f:FI):Bool:=f.ok&&(!(f.b 2||f.b 4)||ex)&&(!f.b 4||tr)&&!(f.b 2&&f.b 4)&&(!f.b 4||decide (1<=pd r))&&(!f.b 32||(QA t f&&!f.b 2&&!f.b 4))
def QD (t:Tx) (ex tr:Bool):List FI->Bool
 |[]=>ag
 |f::r=>aat t ex tr r f&&QD t ex tr r
def uS (P:cG) (w:bH) (K:PySem.W.Frag) (mg:Str->Option aj) (base:aE) (cl:Nat->ai) (C:ai) (k:Nat) (f:FI):zk:=
 if f.b 32=ag then True else if f.b 16=ag then HE P w K mg base cl C k f.x f.ps f.fn else rL P w K mg base cl k f.x f.ps f.fn
theorem SW {t:Tx}{ex tr:Bool}(B:QB P w K mg base cl t ex tr):∀ (l:List FI),aas t l->QD t ex tr l=ag->(∀ f∈l,vP K mg t.C f)->(∀ f∈l,∃ kk,uS P w K mg base cl t.C kk f /\ kk<=pd l) /\ Qo P w K mg base cl t.C t.fl (Qy l) (Qz t l) (pd l):=by
 intro l_;induction l_ with
 |nil=>show λ_ _ _=>#[(λf m=>nomatch m),λz=>(B.cls z).1,B.na,(λx n fn e=>nomatch e),(λx f m e=>nomatch e)]
 |cons f r aD=>
   intro A C D;let#[A1,A2]:=A;have C':(aat t ex tr r f&&QD t ex tr r)=ag:=C;rw[aL]at C';let#[ih,B2]:=aD A2 C'.2 λg m=>D g<|bG _ m;have F:∀ x n fn,(Qx r).lookup x=ae (n,fn)->∃ kk ps,rL P w K mg base cl kk x ps fn /\ ps.length=n /\ kk<=pd r:=λx n fn e=>by
    refine iP (P:=λx (p)=>∃ kk ps,rL P w K mg base cl kk x ps p.2 /\ ps.length=p.1 /\ kk<=pd r) (λp m=>?_) e;let#[g,xk,rfl]:=bE.mp m;let#[xk,nb]:=List.mem_filter.mp xk;let#[kk,h1,h2]:=ih g xk;erw[pz,Eu]at nb;unfold uS at h1;rw[if_neg (by rw[nb.2];decide),if_neg (by rw[nb.1];decide)]at h1;show#[kk,g.ps,h1,rfl,h2]
   have c1:=C'.1;erw[aat,aL,vW,pz,Eu,abi,decide_eq_true_eq]at c1;let#[#[#[#[#[o1,o2],o3],o4],o5],o6]:=c1;have hex:f.b 2=ag \/ f.b 4=ag->ex=ag:=λz=>by
    rcases o2 with⟨a,b⟩|a
    .rcases z with z|z
     .rw[a]at z;cases z
     .rw[b]at z;cases z
    .show a
   have QC:f.b 4=ag->tr=ag:=λz=>by
    rcases o3 with a|a
    .rw[a]at z;cases z
    .show a
   have vj:f.b 2=ag->f.b 4=af:=λz=>by
    rcases o4 with a|a
    .rw[a]at z;cases z
    .show a
   have hk:f.b 4=ag->1<=pd r:=λz=>by
    rcases o5 with a|a
    .rw[a]at z;cases z
    .show a
   have df:=D f<|bN ..;have alb:pd r+2<=pd (f::r):=aH _;have main:∃ kk,uS P w K mg base cl t.C kk f /\ kk<=pd (f::r):=by
    unfold uS;by_cases tY:f.b 32=ag
    .show#[0,by rw[if_pos tY];trivial,dR _]
    erw[if_neg tY];rw[abh]at tY;rcases A1 with⟨a1,a2⟩|⟨a1,g,r1,rfl,a2,a3,a4,a5,a6⟩|a1
    .refine#[pd r+1,?_,by lia];unfold vP at df;rw[tY,abd]at df;by_cases aau:f.b 16=ag
     .rw[if_pos aau]at df ⊢;let#[fa,fd,q,Fu,hm,hb]:=df;show#[fa,fd,a2▸Jr B Fu o1 hex QC vj hk F B2,hm,hb]
     .rw[if_neg aau,if_neg (by rw[a1];decide)]at df;rw[if_neg aau];let#[fa,fd,Fu,hm,hb]:=df;show#[fa,fd,a2▸Jr B Fu o1 hex QC vj hk F B2,hm,Fu.kp,hb,Fu.obj]
    .let#[kk,h1,h2]:=ih g<|bN ..;rw[Eu]at a5;unfold uS at h1;rw[if_neg (by rw[a5.2];decide),if_neg (by rw[a5.1];decide)]at h1;unfold vP at df;rw[a6,if_neg zc,if_pos a1,a2]at df;rw[Eu]at a6;let#[fa,fd,q1,q2,q3]:=h1;refine#[kk,?_,by lia];rw[if_neg (show ¬ f.b 16=ag by rw[a6.1];decide),a3,a4];show#[fa,fd,q1,df.trans q2,q3]
    .rw[a1]at tY;cases tY
   refine#[λg m=>?_,B2.cls,B2.na,λx n fn e=>?_,λx fl m e=>?_]
   .rcases bz.mp m with rfl|m
    .show main
    .let#[kk,h1,h2]:=ih g m;show#[kk,h1,by lia]
   .refine iP (P:=λx (p)=>∃ kk ps,HE P w K mg base cl t.C kk x ps p.2 /\ ps.length=p.1 /\ kk<=pd (f::r)) (λp m=>?_) e;let#[g,xk,rfl]:=bE.mp m;let#[xk,nb]:=List.mem_filter.mp xk;rw[aL,pz]at nb;have key:∃ kk,uS P w K mg base cl t.C kk g /\ kk<=pd (f::r):=by
     rcases bz.mp xk with rfl|mm
     .show main
     .let#[kk,h1,h2]:=ih g mm;show#[kk,h1,by lia]
    let#[kk,h1,h2]:=key;unfold uS at h1;rw[nb.2,if_neg zc,if_pos nb.1]at h1;show#[kk,g.ps,h1,rfl,h2]
   .unfold Qz at e;split at e
    .ext tY;cases e;rcases o6 with a|⟨⟨i1,i2⟩,i3⟩
     .rw[a]at tY;cases tY
     have yZ:=i1;unfold QA at yZ;split at yZ
     case h_2=>cases yZ
     ext s p1 n p2 p3 p4 el;erw[aL,decide_eq_true_eq]at yZ;let#[cc,mm,ajd,aje]:=B.cls (λz=>by have:=yZ.1.1.1.1.1.1.1.2;rw[z]at this;cases this);unfold vP at df;rw[tY,abe,if_pos rfl]at df;let#[fa,fd,q,Fu,hm,hb]:=df;refine#[mm,fa,fd,f.ps,pd r+1,#[ajd,yZ.2▸hm.at_,hm.fn,aje],OJ B Fu o1 i1 i2 i3 F #[B2.cls,B2.na,B2.ms,λx f m e=>nomatch e],hb,by lia]
    .let#[y,g,fd,ps,kk,M,G,b,h3]:=B2.mc x fl m e;show#[y,g,fd,ps,kk,M,G,b,by lia]
noncomputable def ae1 (o:aV):Bool:=match o.cls with|.type n=>n == "list"|_=>af
def QE (K:PySem.W.Frag):Bool:=K.all λp=>!ae1 p.2
theorem Lv (h:QE K=ag) (e:K.lookup a=ae o):o.cls≠.type "list":=by
 intro c;unfold QE at h;rw[bR]at h;have m:(a,o)∈K:=by
  clear h;induction K with
  |nil=>cases e
  |cons p K ih=>
    rw[kH]at e;cases q:a==p.1 with
    |true=>
      rw[q]at e;cases e;have:a=p.1:=by simpa using q
      subst this;show bN ..
    |false=>
      rw[q]at e;show bG _<|ih e
 have:=h _ m;simp[ae1,c]at this
theorem V5 (nl:QE K=ag) (hO:Y3 H) (hS:bI K H a<|ns.map V.int) (hf:∃ bx',fn [.s ns] []=.val (.d<|.bl ag) bx') :
 qd cl 1 fn [.ref a] H (λv _=>v=.bl ag) λ_ _ _=>False:=by
 rcases hS with hS|⟨o,its,n,e1,e2,_⟩
 .rcases hS with hS|⟨o,hS⟩
  .rcases hO a with z|⟨o,xs,z⟩
   .rw[hS]at z;cases z
   .rw[hS]at z;cases z
  .let#[bx',hf]:=hf;refine#[H,[],[.s ns],[],#[Sub.refl H,λi w e=>by simp at e,rfl,.nil,λn c a e=>by simp,λa u e _=>e,λn a _ e=>by simp at e,aH _,aH _,λa u e=>.inr<|.inl e],#[.ref a,[],rfl,#[a,o,rfl,hS],rfl],rfl,?_];rw[hf];intro F' r' v H' _ _ d;show d
 .show absurd e2<|Lv nl e1
noncomputable def tys:List String:=["NoneType","bool","int","str","tuple","list","dict"]
def QF (K:PySem.W.Frag):Bool:=tys.all λS=>["int","bool","tuple","list"].all λT=>PySem.W.kitOne K (.type S) (.type T)==ae (vq S T)
theorem Dj (h:QF K=ag) {T:String}(m:T∈["int","bool","tuple","list"]):qg K T:=by
 intro d;unfold QF at h;rw[bR]at h;have m1:rH d∈tys:=by cases d<;>simp[rH,tys]
 have z:=h _ m1;rw[bR]at z;show beq_iff_eq.mp<|z _ m
theorem V6 {h:aE}{ps:List Str}{oc:aj}{od an:Option ai}{kV doc pm cdv ct:aj}(X:K.In h) (G:h.Ns mainGlobals mg)
 (a:PySem.W.nsIn K mainGlobals x=ae (ae<|.ref f)) (l:K.lookup f=ae #[oc,od,.func<|PySem.W.fnOf x x (ia st) (f8 st) (fE st) .none kV doc pm an cdv ct,pf])
 (c:PySem.W.codeIn K cdv x=ag) (k:PySem.W.keepIn K (.ref f)=ag) (hb:∀ fd,eD K x x st f fd->Binds K fd ps []):Def K mg x st ps:=
 #[f,_,CK l c k,PySem.W.mg_of X G a,hb _<|CK l c k]
theorem V7 {l:PySem.W.OpenLaw}{fa:ai}{k:Nat}(cl:Nat->ai) (Ea:mg "law"=ae (.ref fa)) (D:Def K mg "law" st ["_law_script"])
 (hB:∀ (fd:FuncData) (f:ai),eD K "law" "law" st f fd->∀ (s:aq) (u:aj),BindsTo s fd #[[u],[]] [("_law_script",u)])
 (H:∀ base:aE,K.In base->base.Ns mainGlobals mg->rL l.prog w K mg base cl k "law" ["_law_script"] fn) :
 ∃ (cl:Nat->ai) (fd:FuncData),(∀ (s:aq) (u:aj),BindsTo s fd #[[u],[]] [("_law_script",u)]) /\ ∀ base:aE,K.In base->base.Ns mainGlobals mg->cZ l.prog w K mg base (dz l.prog w) k fa fd ["_law_script"] (qd cl 1 fn):=by
 let#[f,fd,F,hm,_]:=D;rw[Ea]at hm;cases hm;refine#[cl,fd,hB fd fa F,λbase hK hN=>?_];let#[f',alc,ok,ae2,_,_,o,hl,hd]:=H base hK hN;rw[Ea]at ae2;cases ae2;let#[o2,rq,hd2]:=F.obj;rw[hl]at rq;cases rq;rw[hd]at hd2;cases hd2;show ok
open PySem.W in
def QG (K:Frag) (R C:ai):Bool:=excIn K C Ze "ValueError.__new__"&&(findIn K zaa "__getattribute__"==ae (ae<|.builtin "BaseException.__getattribute__"))&&(findIn K zaa "__getattr__"==ae ah) &&
 (findIn K zaa "__class__"==ae (ae zao))&&(mroIn K C (.type "object")==ae ag)&&(mroIn K C (.type "BaseException")==ae ag)&&(clsIn K C).isSome&&(kitOne K zaa (.type "ValueError")==ae ag)&&(kitCls K zaa (.ref R)==ae ag)
open PySem.W in
noncomputable def aav (K:Frag) (cs:List ai):Bool:=(List.range 17).all λi=>(List.range 17).all λj=>kitOne K (.ref<|cs.getD i 0) (.ref<|cs.getD j 0)==ae (decide (i=j))
open PySem.W in
noncomputable def aaw (K:Frag) (R:ai):Bool:=(mroIn K R (.type "BaseException")==ae ag)&&(specialIn K zao "__get__"==ae (ae<|.builtin "getset_descriptor.__get__"))&&(takesIn K zao==ae ag)
theorem OK {l:List ai}{i:Nat}(h:i<l.length):l.getD i 0∈l:=by
 rw[List.getD,cX h];show sF h
open PySem.W in
theorem V8 {h:aE}{R:ai}{cs:List ai}(X:K.In h) (G:h.Ns mainGlobals mg) (hl:cs.length=17) (eR:nsIn K mainGlobals "RimeError"=ae (ae<|.ref R))
 (e:∀ i x,Hy[i]?=ae x->nsIn K mainGlobals x=ae (ae<|.ref<|cs.getD i 0)) (zi:nsIn K mainGlobals "isinstance"=ae ah) (zv:nsIn K mainGlobals "ValueError"=ae ah)
 (h1:cs.all (QG K R)=ag) (h2:aav K cs=ag) (h3:aaw K R=ag):nD K mg R (λi=>cs.getD i 0):=by
 unfold aaw at h3;simp[aL,beq_iff_eq]at h3;let#[#[q1,q3],q4]:=h3;have hc:∀ i,i<17->QG K R _=ag:=λi hi=>by
  rw[bR]at h1;show h1 _<|OK (by rw[hl];show hi)
 erw[QG,aL,beq_iff_eq]at hc;refine#[λi x hx=>mg_of X G<|e i x hx,mg_of X G eR,Xy X G zi,Xy X G zv,λi hi=>(hc i hi).1.1.1.1.1.1.1.1,λi hi=>?_,λi j hi hj=>?_,λi hi=>(hc i hi).1.2,λi hi=>(hc i hi).2,q1]
 .let#[#[#[#[#[#[#[#[_,y2],y3],y4],y5],y6],y7],_],_]:=hc i hi;show#[y2,y3,y4,q3,q4,y5,y6,y7]
 .unfold aav at h2;rw[bR]at h2;have z:=h2 i<|List.mem_range.mpr hi;rw[bR]at z;show beq_iff_eq.mp<|z j<|List.mem_range.mpr hj
noncomputable def QH (K:Frag) (bl:List Str):Bool:=bl.all λx=>match nsIn K mainGlobals x with|some ah=>ag|_=>af
noncomputable def QI (K:Frag) (gl:List<|Str×Int):Bool:=gl.all λp=>match nsIn K mainGlobals p.1 with|some (ae<|.int v _)=>v==p.2|_=>af
theorem Gq {h:aE}{bl:List Str}(X:K.In h) (G:h.Ns mainGlobals mg) (c:QH K bl=ag):∀ x,x∈bl->mg x=ah:=λx m=>by
 unfold QH at c;rw[bR]at c;have z:=c x m;split at z
 .next e=>show Xy X G e
 .cases z
theorem OL {h:aE}{gl:List (Str×Int)}(X:K.In h) (G:h.Ns mainGlobals mg) (c:QI K gl=ag):∀ x v,gl.lookup x=ae v->∃ u,mg x=ae (.int v u):=λx v e=>by
 unfold QI at c;rw[bR]at c;refine iP (P:=λx (v)=>∃ u,mg x=ae (.int v u)) (λp m=>?_) e;have z:=c p m;split at z
 .next v u e=>
  have:v=p.2:=by simpa using z
  subst this;show#[u,mg_of X G e]
 .cases z
theorem Yo {h:aE}{t:Tx}{ex tr:Bool}(X:K.In h) (G:h.Ns mainGlobals mg) (z:QH K t.bl=ag) (g:QI K t.gl=ag) (y:QF K=ag)
 (e:ex=ag->∃ R,nD K mg R cl) (hw:tr=ag->Hz P w K mg base cl) (na:(t.fl.all λf=>findIn K (.ref t.C) f==ae ah)=ag) (c:t.fl≠[]->kL K t.C /\ nsIn K mainGlobals t.cn=ae (ae<|.ref t.C) /\ makesIn K t.C=ag /\ keepIn K (.ref t.C)=ag):QB P w K mg base cl t ex tr:=
 #[OL X G g,Gq X G z,Dj y zg,Dj y zg,Dj y zg,Dj y zg,e,hw,λf m=>beq_iff_eq.mp<|bR.mp na f m,λz=>#[(c z).1,mg_of X G (c z).2.1,(c z).2.2]]
theorem SX {l:PySem.W.OpenLaw}{fa:ai}{k:Nat}(cl:Nat->ai) (Ea:mg "law"=ae (.ref fa)) (D:Def K mg "law" st ["_law_script"])
 (hB:∀ (fd:FuncData) (f:ai),eD K "law" "law" st f fd->∀ (s:aq) (u:aj),BindsTo s fd #[[u],[]] [("_law_script",u)])
 (H:∀ base:aE,K.In base->base.Ns mainGlobals mg->∃ kk,rL l.prog w K mg base cl kk "law" ["_law_script"] fn /\ kk<=k) :
 ∃ (cl:Nat->ai) (fd:FuncData),(∀ (s:aq) (u:aj),BindsTo s fd #[[u],[]] [("_law_script",u)]) /\ ∀ base:aE,K.In base->base.Ns mainGlobals mg->cZ l.prog w K mg base (dz l.prog w) k fa fd ["_law_script"] (qd cl 1 fn):=
 V7 cl Ea D hB λbase a b=>by
  let#[kk,#[f,fd,ok,r],le]:=H base a b;show#[f,fd,ok.mono le,r]
def HX (K:Frag) (x:Str) (st:bp):zk:=∃ (f:ai) (oc:aj) (od:Option ai) (kV dc pm:aj) (an:Option ai) (cd ct:aj) (sl:Array<|Option aj),nsIn K mainGlobals x=ae (ae<|.ref f) /\
 K.lookup f=ae #[oc,od,.func<|fnOf x x (ia st) (f8 st) (fE st) .none kV dc pm an cd ct,sl] /\ codeIn K cd x=ag /\ keepIn K (.ref f)=ag
theorem dIn_mk {oc:aj}{od:Option ai}{kV dc pm:aj}{an:Option ai}{cd ct:aj}{sl:Array (Option aj)}(a:nsIn K mainGlobals x=ae (ae<|.ref f))
 (l:K.lookup f=ae #[oc,od,.func<|fnOf x x (ia st) (f8 st) (fE st) .none kV dc pm an cd ct,sl]) (c:codeIn K cd x=ag) (k:keepIn K (.ref f)=ag):HX K x st:=#[f,oc,od,kV,dc,pm,an,cd,ct,sl,a,l,c,k]
noncomputable def aax (a:Arguments) (ps:List Str):Bool:=a.posonlyargs.isEmpty&&a.vararg.isNone&&a.kwonlyargs.isEmpty&&a.kwarg.isNone&&decide (a.args.map (·.arg)=ps)&&decide ps.Nodup
theorem AY {β:Type}{f g:Str->Option β}:∀ {l:List Str},(∀ n∈l,f n=g n)->l.filterMap f=l.filterMap g:=by
 intro l_;induction l_ with
 |nil=>show λ_=>rfl
 |cons n l aD=>(intro h;rw[qU,qU,h n<|bN ..,aD λm q=>h m<|bG _ q])
theorem Fn:∀ {ps:List Str}{us:List aj},us.length=ps.length->ps.Nodup->(∀ n∈ps,((ps.zip us).lookup n).isNone=af) /\ ps.filterMap (λn=>((ps.zip us).lookup n).map (n,·))=ps.zip us
 |[],_,_,_=>#[(λ_ h=>nomatch h),rfl]
 |p::ps,[],h,_=>by cases h
 | p::ps,u::us,h,nd=>by
   let#[n1,n2]:=uc.mp nd;let#[a,b]:=Fn (by simpa using h) n2;have ne:∀ n∈ps,(n==p)=af:=λn m=>beq_eq_false_iff_ne.mpr λz=>n1<|z▸m;refine#[λn m=>?_,?_]
   .rw[vY,kH];cases q:n==p with
    |true=>rfl
    |false=>
      rcases bz.mp m with z|z
      .rw[z]at q;simp at q
      .show a n z
   .rw[vY,List.filterMap_cons_some (b:=(p,u)) zg];congr 1;show Eq.trans (AY λn m=>by rw[kH,ne n m]) b
theorem BF {y:Str}{a:Arguments}{b:List bp}{sc:bK}{ps:List Str}(h:aax a ps=ag) (kV doc pm:aj) (an:Option ai) (cdv ct:aj) (us:List aj) (hl:us.length=ps.length) :
 bindArgs (fnOf x y a b sc .none kV doc pm an cdv ct) #[us,[]]=pure (ps.zip us):=by
 let#[po,ar,va,ko,kd,kw,df]:=a;erw[aax,aL,decide_eq_true_eq,List.isEmpty_iff,Option.isNone_iff_eq_none]at h;let#[#[#[#[#[rfl,rfl],rfl],rfl],rfl],nd]:=h;let#[z1,z2]:=Fn hl nd;erw[bindArgs];have m0:∀ l:List Str,(∀ n∈l,n∈ar.map (·.arg))->l.filter (λn=>(((ar.map (·.arg)).zip us).lookup n).isNone)=[]:=λl h=>List.filter_eq_nil_iff.mpr λn m=>by rw[z1 n<|h n m];decide
 have n0:(do notAStandIn Value.none;pure (ah:Option<|Array aj))=pure ah:=rfl;erw[abB,u9,qv,Ex,pure_bind,seqItems?,n0,hl,kq,decide_false,Io,Q5,if_false,Xh,List.drop_nil,qw,QZ,vX,List.drop_length,abA,m0 _ λ_ h=>h,List.isEmpty_nil,Bool.not_true,z2]
def HY (K:Frag) (C:ai) (x:Str) (st:bp):zk:=∃ (q:Str) (f:ai) (oc:aj) (od:Option ai) (kV dc pm:aj) (an:Option ai) (cd ct:aj) (sl:Array<|Option aj),findIn K zaa x=ae (ae<|.ref f) /\ isFn K (.ref f)=ag /\
 K.lookup f=ae #[oc,od,.func<|fnOf x q (ia st) (f8 st) (fE st) .none kV dc pm an cd ct,sl] /\ codeIn K cd q=ag /\ keepIn K (.ref f)=ag
theorem dInM_mk {q:Str}{oc:aj}{od:Option ai}{kV dc pm:aj}{an:Option ai}{cd ct:aj}{sl:Array (Option aj)}(a:findIn K zaa x=ae (ae<|.ref f)) (i:isFn K (.ref f)=ag)
 (l:K.lookup f=ae #[oc,od,.func<|fnOf x q (ia st) (f8 st) (fE st) .none kV dc pm an cd ct,sl]) (c:codeIn K cd q=ag) (k:keepIn K (.ref f)=ag):HY K C x st:=#[q,f,oc,od,kV,dc,pm,an,cd,ct,sl,a,i,l,c,k]
def HZ (K:Frag) (x y:Str):zk:=∃ a,nsIn K mainGlobals x=ae (ae zaf) /\ nsIn K mainGlobals y=ae (ae zaf)
theorem dInA_mk {y:Str}(h:nsIn K mainGlobals x=ae (ae zaf)) (g:nsIn K mainGlobals y=ae (ae zaf)):HZ K x y:=#[a,h,g]
def AllIn (K:Frag) (C:ai):List FI->zk
 |[]=>True
 |f::r=>(if (f.b 16||f.b 32)=ag then HY K C f.x f.st else if f.b 64=ag then HZ K f.x (f.bx.headD "") else HX K f.x f.st) /\ AllIn K C r
theorem ae3 {K:Frag}{h:aE}{mg:Str->Option aj}{C:ai}(X:K.In h) (G:h.Ns mainGlobals mg):∀ {l:List FI},AllIn K C l->(l.all λf=>aax (ia f.st) f.ps)=ag->∀ f∈l,vP K mg C f
 |[],_,_=>λ_ m=>nomatch m
 | g::r,d,q=>λf m=>by
   rw[pW,aL]at q;rcases bz.mp m with rfl|m
   .have d1:=d.1;unfold vP;split at d1
    .ext b;rw[if_pos b];let#[qn,fa,oc,od,kV,dc,pm,an,cd,ct,sl,a,i,l,c,k]:=d1;have F:=CK l c k;show#[fa,_,qn,F,#[a,i,k],F.binds<|BF q.1]
    .ext b;rw[if_neg b];split at d1
     .ext b2;rw[if_pos b2];let#[a,h1,h2]:=d1;show(mg_of X G h1).trans (mg_of X G h2).symm
     ext b2;rw[if_neg b2];let#[f,oc,od,kV,dc,pm,an,cd,ct,sl,a,l,c,k]:=d1;show V6 X G a l c k λfd F=>F.binds<|BF q.1
   .show ae3 X G d.2 q.2 f m
section
variable {f:FI}
abbrev DX (K:Frag) (C:ai) (f:FI):zk:=if (f.b 16||f.b 32)=ag then HY K C f.x f.st else if f.b 64=ag then HZ K f.x (f.bx.headD "") else HX K f.x f.st
theorem YL (h:(f.b 16||f.b 32)=af) (h2:f.b 64=af) (d:HX K f.x f.st):DX K C f:=by unfold DX;rw[if_neg (by rw[h];decide),if_neg (by rw[h2];decide)];show d
theorem YM (h:(f.b 16||f.b 32)=ag) (d:HY K C f.x f.st):DX K C f:=by unfold DX;rw[if_pos h];show d
theorem YN (h:(f.b 16||f.b 32)=af) (h2:f.b 64=ag) (d:HZ K f.x<|f.bx.headD ""):DX K C f:=by unfold DX;rw[if_neg (by rw[h];decide),if_pos h2];show d
theorem V9 (h:(f.b 16||f.b 32)=af) (h2:f.b 64=af) (d:vP K mg C f):Def K mg f.x f.st f.ps:=by
 unfold vP at d;rw[if_neg (by rw[h];decide),if_neg (by rw[h2];decide)]at d;show d
theorem OM {k:Nat}(h:(f.b 16||f.b 32)=af) (d:uS P w K mg base cl C k f):rL P w K mg base cl k f.x f.ps f.fn:=by
 rw[Eu]at h;unfold uS at d;rw[if_neg (by rw[h.2];decide),if_neg (by rw[h.1];decide)]at d;show d
end
noncomputable def Eb (K:Frag) (C:ai):List (Nat×Str×Str×bp)->zk
 |[]=>True
 |(0,x,_,st)::r=>HX K x st /\ Eb K C r
 |(1,x,_,st)::r=>HY K C x st /\ Eb K C r
 |(_,x,y,_)::r=>HZ K x y /\ Eb K C r
def FI.key (f:FI):Nat×Str×Str×bp:=(if (f.b 16||f.b 32)=ag then 1 else if f.b 64=ag then 2 else 0,f.x,if f.b 64=ag then f.bx.headD "" else "",f.st)
theorem SY:∀ {r:List FI},Eb K C (r.map FI.key)->AllIn K C r:=by
 intro l_;induction l_ with
 |nil=>show λ_=>trivial
 |cons f r aD=>
   intro h;have h:Eb K C (f.key::r.map FI.key):=h;unfold FI.key at h;by_cases a:(f.b 16||f.b 32)=ag
   .rw[if_pos a]at h;show#[YM a h.1,aD h.2]
   .rw[if_neg a]at h;by_cases b:f.b 64=ag
    .rw[if_pos b,if_pos b]at h;show#[YN (by simpa using a) b h.1,aD h.2]
    .rw[if_neg b]at h;show#[YL (by simpa using a) (by simpa using b) h.1,aD h.2]
theorem walk_o {l:PySem.W.OpenLaw}{q:cG}{loose:List Str}{YP:bH->aE->zk}{d:DefRec}{K:Params->PySem.W.Frag}{k:Nat}{fn:ai->List W->List Bx->O W}(hk:cg k callerA) (hn:l.most=ae 63) (Y1:d.params.defaults=[])
 (hY:∀ (w:bH) (h:aE),YP w h->(K w.params).In h) (nl:∀ w:bH,QE (K w.params)=ag) (hf:∀ (C:ai) (ns:List Int),ns.length<=63->∃ bx',fn C [.s ns] []=.val (.d<|.bl ag) bx')
 (F:∀ (w:bH) (mg:Str->Option aj) (fa:ai) (h:aE),(K w.params).In h->h.Ns mainGlobals mg->mg d.name=ae (.ref fa) ->
  ∃ (C:ai) (cl:Nat->ai) (fd:FuncData),(∀ (s:aq) (u:aj),BindsTo s fd #[[u],[]] [("_law_script",u)]) /\ ∀ base:aE,(K w.params).In base->base.Ns mainGlobals mg->cZ l.prog w (K w.params) mg base (dz l.prog w) k fa fd ["_law_script"] (qd cl 1<|fn C)) :
 PySem.W.WalkO q loose XP YP l.row.toRowW d [] (λf vs=>PySem.call f vs):=by
 refine adf.agC hn Y1 λw s0 s1 mg mb fa o pm cd doc a vs ns G Y ho hd dI hmg Y2 hints hlen hg=>?_;have KX:=hY w _ Y;let#[C,cl,fd,hb,hF]:=F w mg fa _ KX G.T.g hmg;show L8 KX G.T.g G.T.b G.T.builtins G.T.nolimit hg Y2 hints (dF hlen zc) hk hF hb (λH hO hS=>V5 (nl w) hO hS<|hf C ns hlen) λH e s' z=>by
  let#[_,_,_,_,_,_,_,_,_,_,_,_,_,z]:=z;show z
end L2.DL
namespace K24
open L2 L2.DL
noncomputable section
def top (i:Nat):bp:=PySem.Challenge.pw_rimehold_k24_lots_and_hours_refused.main.body.getD i<|.Pass #[0,0,0,0]
noncomputable def tx (C:ai):Tx:=#["_law_script",[("COLDEST",3),("MOST_OUTS",4),("MOST_PAGES",16),("LAST_LOT",9)],["all","any","bool","int","isinstance","len","list","max","min","range","set","sorted","tuple","zip"],C,["dark_hours","earlier","home","kept"], "Ledger","earlier"]
noncomputable def r0 (C:ai):List FI:=[]
def r1 (C:ai):List FI:=#["_law_pot",["_law_cell"],["_law_cell","_law_number","_law_j","_law_more"],[],[],[],1,top 78,K1.j0]::r0 C
def r2 (C:ai):List FI:=#["_law_take",["_law_pot_here","_law_far"],["_law_pot_here","_law_far","_law_found"],[],[],[],0,top 79,K1.fk]::r1 C
def r3 (C:ai):List FI:=#["_law_kind_of",["_law_pot_here"],["_law_pot_here","_law_top","_law_rates"],[],[],[],0,top 84,K1.ij]::r2 C
def r4 (C:ai):List FI:=#["_law_house",["_law_pot_here"],["_law_pot_here","_law_rooms","_law_kinds","_law_pairs","_law_other"],[],[],[],0,top 85,aN.jd]::r3 C
def r5 (C:ai):List FI:=#["is_tuple",["thing","fewest","most"],["thing","fewest","most"],[],[],[],0,top 24,K1.fY]::r4 C
def r6 (C:ai):List FI:=#["is_whole",["thing"],["thing"],[],[],[],0,top 21,K1.jx]::r5 C
def r7 (C:ai):List FI:=#["is_within",["thing","least","greatest"],["thing","least","greatest"],[],[],[],0,top 22,K1.f9]::r6 C
def r8 (C:ai):List FI:=#["are_rooms",["thing"],["thing"],[],[],[],0,top 31,K1.jW]::r7 C
def r9 (C:ai):List FI:=#["are_rates",["thing"],["thing"],[],[],[],0,top 34,K1.jX]::r8 C
def Zu (C:ai):List FI:=#["is_kind",["thing"],["thing"],[],[],[],0,top 33,K1.mL]::r9 C
def ajf (C:ai):List FI:=#["are_kinds",["thing"],["thing"],[],[],[],0,top 32,K1.jY]::Zu C
def ajg (C:ai):List FI:=#["is_rising",["things"],["things"],[],[],[],0,top 25,K1.ie]::ajf C
def ajh (C:ai):List FI:=#["is_pair_apart",["thing","many"],["thing","many"],[],[],[],0,top 36,K1.iJ]::ajg C
def aji (C:ai):List FI:=#["are_apart",["thing","many"],["thing","many"],[],[],[],0,top 35,K1.jZ]::ajh C
def ajj (C:ai):List FI:=#["is_house",["thing"],["thing","rooms","kinds","apart","hold"],[],[],[],0,top 30,K1.lL]::aji C
def ajk (C:ai):List FI:=#["need_house",["thing"],["thing"],[],[],[],0,top 37,bu.gP]::ajj C
def ajl (C:ai):List FI:=#["__init__",["self","house"],["self","house"],[],[],[],32,inClass (top 75) 0,K24.Lj C]::ajk C
def ajm (C:ai):List FI:=#["_law_cell_at",["_law_script","_law_k"],["_law_script","_law_k"],[],[],[],0,top 77,K1.ig]::ajl C
def ajn (C:ai):List FI:=#["_law_outs",["_law_pot_here","_law_near"],["_law_pot_here","_law_near","_law_found","_law_begin","_law_turn"],["_law_found"],[],[],0,top 86,K2.jy]::ajm C
def ajo (C:ai):List FI:=#["_law_mixed",["_law_pot_here","_law_some"],["_law_pot_here","_law_some","_law_left"],["_law_left"],[],[],0,top 82,aN.j6]::ajn C
def ajp (C:ai):List FI:=#["_law_page",["_law_pot_here","_law_house_here","_law_near"],["_law_pot_here","_law_house_here","_law_near","_law_hour","_law_lot","_law_room","_law_way","_law_ripe"],[],[],[],0,top 87,aN.g6]::ajo C
def ajq (C:ai):List FI:=#["_law_pages",["_law_pot_here","_law_house_here","_law_most","_law_near"],["_law_pot_here","_law_house_here","_law_most","_law_near","_law_found","_law_turn","_law_page_here"],["_law_found"],[],[("_law_found",3)],0,top 88,aN.jf]::ajp C
def ajr (C:ai):List FI:=#["greatest_parts",["house","word"],["house","word","last_kind","last_room"],[],[],[],0,top 48,aN.iq]::ajq C
def ajs (C:ai):List FI:=#["is_hour",["thing"],["thing"],[],[],[],0,top 23,K2.gM]::ajr C
def ajt (C:ai):List FI:=#["is_page",["house","thing"],["house","thing","greatest"],[],[],[],0,top 49,aN.jq]::ajs C
def aju (C:ai):List FI:=#["need_page",["self","page"],["self","page"],[],[],[],16,inClass (top 75) 15,K24.lQ C]::ajt C
def ajv (C:ai):List FI:=#["keep",["self","pages","outs"],["self","pages","outs"],[],[],[],16,inClass (top 75) 16,K24.l7 C]::aju C
def ajw (C:ai):List FI:=#["tell",["self","page"],["self","page"],[],[],[],16,inClass (top 75) 1,K24.l8 C]::ajv C
def ajx (C:ai):List FI:=#["is_out",["thing"],["thing"],[],[],[],0,top 39,K2.jK]::ajw C
def ajy (C:ai):List FI:=#["lie_apart",["outs"],["outs"],[],[],[],0,top 40,K2.im]::ajx C
def ajz (C:ai):List FI:=#["dark",["self","begin","end"],["self","begin","end","out"],[],[],[],16,inClass (top 75) 3,K24.mf C]::ajy C
def ajA (C:ai):List FI:=#["_law_odd",["_law_pot_here"],["_law_pot_here","_law_some"],[],[],[],0,top 83,K1.jo]::ajz C
def ajB (C:ai):List FI:=#["are_outs",["house","thing"],["house","thing"],[],[],[],0,top 38,bj.lP]::ajA C
def ajC (C:ai):List FI:=#["need_outs",["house","thing"],["house","thing"],[],[],[],0,top 41,bj.j9]::ajB C
def ajD (C:ai):List FI:=#["are_pages",["house","thing"],["house","thing"],[],[],[],0,top 50,aN.j7]::ajC C
def ajE (C:ai):List FI:=#["need_pages",["house","thing"],["house","thing"],[],[],[],0,top 51,aN.iT]::ajD C
def ajF (C:ai):List FI:=#["need_lot_of",["house","outs","pages","lot"],["house","outs","pages","lot"],[],[],[],2,top 67,K24.iz]::ajE C
def ajG (C:ai):List FI:=#["need_hour",["thing"],["thing"],[],[],[],2,top 26,K2.jc]::ajF C
def ajH (C:ai):List FI:=#["room_entered",["page"],["page"],[],[],[],0,top 55,aN.fN]::ajG C
def ajI (C:ai):List FI:=#["may_share",["house","kind","other"],["house","kind","other"],[],[],[],0,top 44,aN.jg]::ajH C
def ajJ (C:ai):List FI:=#["word_for",["house","kinds","rooms","page"],["house","kinds","rooms","page","deed","lot","room","kind","neighbours"],[],["kinds","rooms"],[],0,top 56,aN.iY]::ajI C
def ajK (C:ai):List FI:=#["read",["house","pages"],["house","pages","told","kinds","rooms","page","lot","word"],["kinds","rooms","told"],["kinds","rooms"],[],0,top 54,aN.CU]::ajJ C
def ajL (C:ai):List FI:=#["steps_taken",["house","pages"],["house","pages"],[],[],[],0,top 57,cw.gC]::ajK C
def ajM (C:ai):List FI:=#["coming_of",["steps","lot"],["steps","lot","page","left","entered"],[],[],[],0,top 68,bj.ir]::ajL C
def ajN (C:ai):List FI:=#["hours_of_change",["house","outs"],["house","outs","hours","begin","end"],["hours"],[],[],1,top 43,bj.gX]::ajM C
def ajO (C:ai):List FI:=#["rooms_behind",["steps","hour"],["steps","hour","rooms","page","left","entered"],["rooms"],["rooms"],[],0,top 58,cw.gR]::ajN C
def ajP (C:ai):List FI:=#["cold_by_outs",["house","outs","room","hour"],["house","outs","room","hour","cold","begin","end"],[],[],[],0,top 42,K2.i8]::ajO C
def ajQ (C:ai):List FI:=#["is_opened",["steps","room","hour"],["steps","room","hour"],[],[],[],0,top 59,bj.jh]::ajP C
def ajR (C:ai):List FI:=#["points_in",["house","outs","steps","coming","hour"],["house","outs","steps","coming","hour","rooms","room","cold"],[],["rooms"],[],0,top 70,bj.ji]::ajQ C
def ajS (C:ai):List FI:=#["stretches",["house","outs","steps","coming"],["house","outs","steps","coming","hours","page","left","entered","begins","ends"],["hours"],[],[],0,top 71,bj.jj]::ajR C
def ajT (C:ai):List FI:=#["ripe_at",["house","outs","steps","coming","hour"],["house","outs","steps","coming","hour","ripe","begin","end","points","until"],[],[],[],0,top 72,bj.mO]::ajS C
def ajU (C:ai):List FI:=#["ripeness",["house","outs","pages","lot","hour"],["house","outs","pages","lot","hour","steps","coming"],[],[],[],2,top 61,K24.iZ]::ajT C
def ajV (C:ai):List FI:=#["ripeness_ripening",["house","outs","pages","lot","hour"],["house","outs","pages","lot","hour","steps","coming"],["ripeness"],[],[],64,top 61,K24.iZ]::ajU C
def ajW (C:ai):List FI:=#["limit_of",["house","coming"],["house","coming"],[],[],[],0,top 69,bj.jz]::ajV C
def ajX (C:ai):List FI:=#["hour_spoilt",["house","outs","steps","coming"],["house","outs","steps","coming","lacking","begin","end","points","reached"],[],[],[],0,top 73,bj.jr]::ajW C
def ajY (C:ai):List FI:=#["spoilt_at",["house","outs","pages","lot"],["house","outs","pages","lot","steps","coming"],[],[],[],2,top 63,K24.iA]::ajX C
def ajZ (C:ai):List FI:=#["spoilt_at_ripening",["house","outs","pages","lot"],["house","outs","pages","lot","steps","coming"],["spoilt_at"],[],[],64,top 63,K24.iA]::ajY C
def aj0 (C:ai):List FI:=#["pages",["self"],["self"],[],[],[],16,inClass (top 75) 8,K24.jt C]::ajZ C
def aj1 (C:ai):List FI:=#["ripeness",["self","lot","hour"],["self","lot","hour"],[],[],[],18,inClass (top 75) 11,K24.mF C]::aj0 C
def aj2 (C:ai):List FI:=#["spoilt_at",["self","lot"],["self","lot"],[],[],[],18,inClass (top 75) 12,K24.lR C]::aj1 C
def aj3 (C:ai):List FI:=#["places",["house","pages","hour"],["house","pages","hour","rooms"],[],[],[],2,top 52,K24.mh]::aj2 C
def aj4 (C:ai):List FI:=#["places_pages",["house","pages","hour"],["house","pages","hour","rooms"],["places"],[],[],64,top 52,K24.mh]::aj3 C
def aj5 (C:ai):List FI:=#["places",["self","hour"],["self","hour"],[],[],[],18,inClass (top 75) 10,K24.Ai C]::aj4 C
def aj6 (C:ai):List FI:=#["_law_told",["_law_way","_law_house_here","_law_outs_here","_law_pages_here","_law_book","_law_lot","_law_hour"],["_law_way","_law_house_here","_law_outs_here","_law_pages_here","_law_book","_law_lot","_law_hour","_law_e"],[],[],[],4,top 91,K24.jA C]::aj5 C
def aj7 (C:ai):List FI:=#["_law_whole",["_law_thing"],["_law_thing"],[],[],[],0,top 80,K1.jb]::aj6 C
def aj8 (C:ai):List FI:=#["_law_within",["_law_thing","_law_low","_law_high"],["_law_thing","_law_low","_law_high"],[],[],[],0,top 81,K1.iS]::aj7 C
def aj9 (C:ai):List FI:=#["_law_is_hour",["_law_thing"],["_law_thing"],[],[],[],0,top 89,K2.ip]::aj8 C
def aka (C:ai):List FI:=#["_law_due",["_law_way","_law_lot","_law_hour"],["_law_way","_law_lot","_law_hour"],[],[],[],0,top 92,K24.lb]::aj9 C
def iL (C:ai):FI:=#["law",["_law_script"],["_law_script","_law_k","_law_pot_here","_law_house_here","_law_outs_here","_law_pages_here","_law_book","_law_page_here","_law_begin","_law_end","_law_odd_here","_law_lot","_law_hour","_law_way"],[],[],[],0,top 93,K24.CW C]
def Ia (C:ai):List FI:=iL C::aka C
theorem Wa (C:ai):aas (tx C) (Ia C):=by
 iterate 69 refine And.intro (by first|(refine .inr<|.inr ?_;simp[FI.b,iL];done)|(refine .inl ⟨?_,by kernel_rfl⟩;simp[FI.b,iL];done)|(refine .inr (.inl ⟨?_,_,_,rfl,rfl,rfl,rfl,?_,?_⟩)<;>simp[FI.b]<;>done)) ?_
 trivial
theorem Wb (C:ai):QD (tx C) ag ag (Ia C)=ag:=by kernel_rfl
end
end K24
namespace K24.Wd
open L2 L2.DL PySem.W
abbrev uT:bp:=PySem.Challenge.pw_rimehold_k24_lots_and_hours_refused.main.body.getD 90<|.Pass #[0,0,0,0]
theorem ON {l:ai}{o:HO}(h:H l=ah):hM H (upd H l o):=λb u e=>by rw[fu<|fL e h];show e
noncomputable def uU (i n:Nat):List V:=(List.range n).map λj=>V.bl<|decide (i=j)
theorem Fo (i n:Nat):(uU i n).all hG=ag:=by
 rw[bR];intro x hx;let#[j,_,rfl]:=bE.mp hx;rfl
theorem Lw:∀ i,i<17->(uU i 17).countP (λz=>eB z<|.bl ag)=1:=by decide
theorem Wc:∀ i,i<17->(uU i 17)[i]?=ae (.bl ag):=by decide
theorem We:∀ i,i<17->∀ m,m<i->(uU i 17)[m]?=ae (.bl af):=by decide
theorem Ec:rn ["_law_e","_law_some","_law_words"] ["_law_e"] (fE uT):=#[rfl,rfl,rfl,by decide +kernel,rfl,by decide +kernel,by decide +kernel]
theorem Lx:bootBuiltins "ValueError"=ae (.type "ValueError"):=by decide +kernel
def dQ (i:Nat):bp:=(f8 uT).getD i<|.Pass #[0,0,0,0]
theorem Gr {env:Env}(es:List au) (p pos':aK) (line:Nat):swapsWith (.List es p) (ae<|.Name x pos') line env=pure af:=by rfl
section
variable {R:ai} {c:Nat -> ai} {cdv:aj} {s:aq} {Hx:Hp} {E:XK}
abbrev XW (P:cG) (w:bH) (K:Frag) (mg:Str->Option aj) (base:aE) (f:ai) (cdv:aj) (A:cE) (outer:List Env) (s:aq) (H:Hp) (E:XK):Cx:=(KA rC P w K mg base ["_law_e","_law_some","_law_words"] "_law_word" (fE uT) f cdv A outer s H E).ui
theorem iW {l:ai}{o:HO}(s:hM H0 H) (h:H0 l=ah):hM H0 (upd H l o):=λb u e=>by rw[fu<|fL e h];show s b u e
theorem w0 (T:nD K mg R c) {i:Nat}(hi:i<17) (ha:H0 a=ae (.ext (kD a<|c i))):∃ t,PS z9 (dQ 0) t /\ ∀ D,
 (∀ l H',H0 l=ah->hM H0 H'->H' l=ae (.lst [.bl<|decide (i=0),.bl<|decide (i=1),.bl<|decide (i=2),.bl<|decide (i=3)])->D.nx [ae zaf,ae<|.ref l,ah] H')->t D [ae zaf,ah,ah] H0:=by
 show#[_,oK (i:=1) Ec.nd zj (Or.inl zj)<|lC<|fw (fV fT (by rfl) T.inst kI<|fw (pv 0)<|fw (gp (v:=.ref<|c 0) zj (T.m 0 _ zj) zj) fR)<|fw (fV fT (by rfl) T.inst kI<|fw (pv 0)<|fw (gp (v:=.ref<|c 1) zj (T.m 1 _ zj) zj) fR)<|fw (fV fT (by rfl) T.inst kI<|fw (pv 0)<|fw (gp (v:=.ref<|c 2) zj (T.m 2 _ zj) zj) fR)<|fw (fV fT (by rfl) T.inst kI<|fw (pv 0)<|fw (gp (v:=.ref<|c 3) zj (T.m 3 _ zj) zj) fR) fR,λD k=>(#[_,rfl,_,_,_,_,_,rfl,.exc ha<|T.ek i hi,rfl,T.kt i 0 hi zc,_,rfl,_,_,_,_,_,rfl,.exc ha<|T.ek i hi,rfl,T.kt i 1 hi zc,_,rfl,_,_,_,_,_,rfl,.exc ha<|T.ek i hi,rfl,T.kt i 2 hi zc,_,rfl,_,_,_,_,_,rfl,.exc ha<|T.ek i hi,rfl,T.kt i 3 hi zc,by change 4<=sizeLine;decide,λl n=>k l _ n (ON n) fv])]
theorem w1 (T:nD K mg R c) {i:Nat}(hi:i<17) (ha:H0 a=ae (.ext (kD a<|c i))):∃ t,PS z9 (dQ 1) t /\ ∀ D H l xs,hM H0 H->H0 l=ah->H l=ae (.lst xs)->xs.length<=100 ->
 (∀ p H',H0 p=ah->hM H0 H'->H' p=ae (.lst<|xs++[.bl<|decide (i=4),.bl<|decide (i=5),.bl<|decide (i=6),.bl<|decide (i=7)])->D.nx [ae zaf,ae<|.ref p,ah] H')->t D [ae zaf,ae<|.ref l,ah] H:=by
 refine#[_,oK (i:=1) Ec.nd zj (Or.inl zj)<|Dp AT (pv 1)<|lC<|fw (fV fT (by rfl) T.inst kI<|fw (pv 0)<|fw (gp (v:=.ref<|c 4) zj (T.m 4 _ zj) zj) fR)<|fw (fV fT (by rfl) T.inst kI<|fw (pv 0)<|fw (gp (v:=.ref<|c 5) zj (T.m 5 _ zj) zj) fR)<|fw (fV fT (by rfl) T.inst kI<|fw (pv 0)<|fw (gp (v:=.ref<|c 6) zj (T.m 6 _ zj) zj) fR)<|fw (fV fT (by rfl) T.inst kI<|fw (pv 0)<|fw (gp (v:=.ref<|c 7) zj (T.m 7 _ zj) zj) fR) fR,λD H l xs sm hn hl hx k=>?_];have pR:=sm _ _ ha;refine#[_,rfl,_,rfl,_,_,_,_,_,rfl,.exc pR<|T.ek i hi,rfl,T.kt i 4 hi zc,_,rfl,_,_,_,_,_,rfl,.exc pR<|T.ek i hi,rfl,T.kt i 5 hi zc,_,rfl,_,_,_,_,_,rfl,.exc pR<|T.ek i hi,rfl,T.kt i 6 hi zc,_,rfl,_,_,_,_,_,rfl,.exc pR<|T.ek i hi,rfl,T.kt i 7 hi zc,by change 4<=sizeLine;decide,λl2 n2=>?_];refine#[l,l2,xs,_,rfl,rfl,by rw[fu<|fL hl n2];show hl,fv,Kv zo |> eX,λp np=>?_];have s2:=iW (o:=.lst [.bl<|decide (i=4),.bl<|decide (i=5),.bl<|decide (i=6),.bl<|decide (i=7)]) sm<|sm.free n2;have mp:H0 p=ah:=s2.free np;show k p _ mp (iW s2 mp) fv
theorem w2 (T:nD K mg R c) {i:Nat}(hi:i<17) (ha:H0 a=ae (.ext (kD a<|c i))):∃ t,PS z9 (dQ 2) t /\ ∀ D H l xs,hM H0 H->H0 l=ah->H l=ae (.lst xs)->xs.length<=100 ->
 (∀ p H',H0 p=ah->hM H0 H'->H' p=ae (.lst<|xs++[.bl<|decide (i=8),.bl<|decide (i=9),.bl<|decide (i=10),.bl<|decide (i=11)])->D.nx [ae zaf,ae<|.ref p,ah] H')->t D [ae zaf,ae<|.ref l,ah] H:=by
 refine#[_,oK (i:=1) Ec.nd zj (Or.inl zj)<|Dp AT (pv 1)<|lC<|fw (fV fT (by rfl) T.inst kI<|fw (pv 0)<|fw (gp (v:=.ref<|c 8) zj (T.m 8 _ zj) zj) fR)<|fw (fV fT (by rfl) T.inst kI<|fw (pv 0)<|fw (gp (v:=.ref<|c 9) zj (T.m 9 _ zj) zj) fR)<|fw (fV fT (by rfl) T.inst kI<|fw (pv 0)<|fw (gp (v:=.ref<|c 10) zj (T.m 10 _ zj) zj) fR)<|fw (fV fT (by rfl) T.inst kI<|fw (pv 0)<|fw (gp (v:=.ref<|c 11) zj (T.m 11 _ zj) zj) fR) fR,λD H l xs sm hn hl hx k=>?_];have pR:=sm _ _ ha;refine#[_,rfl,_,rfl,_,_,_,_,_,rfl,.exc pR<|T.ek i hi,rfl,T.kt i 8 hi zc,_,rfl,_,_,_,_,_,rfl,.exc pR<|T.ek i hi,rfl,T.kt i 9 hi zc,_,rfl,_,_,_,_,_,rfl,.exc pR<|T.ek i hi,rfl,T.kt i 10 hi zc,_,rfl,_,_,_,_,_,rfl,.exc pR<|T.ek i hi,rfl,T.kt i 11 hi zc,by change 4<=sizeLine;decide,λl2 n2=>?_];refine#[l,l2,xs,_,rfl,rfl,by rw[fu<|fL hl n2];show hl,fv,Kv zo |> eX,λp np=>?_];have s2:=iW (o:=.lst [.bl<|decide (i=8),.bl<|decide (i=9),.bl<|decide (i=10),.bl<|decide (i=11)]) sm<|sm.free n2;have mp:H0 p=ah:=s2.free np;show k p _ mp (iW s2 mp) fv
theorem w3 (T:nD K mg R c) {i:Nat}(hi:i<17) (ha:H0 a=ae (.ext (kD a<|c i))):∃ t,PS z9 (dQ 3) t /\ ∀ D H l xs,hM H0 H->H0 l=ah->H l=ae (.lst xs)->xs.length<=100 ->
 (∀ p H',H0 p=ah->hM H0 H'->H' p=ae (.lst<|xs++[.bl<|decide (i=12),.bl<|decide (i=13),.bl<|decide (i=14),.bl<|decide (i=15)])->D.nx [ae zaf,ae<|.ref p,ah] H')->t D [ae zaf,ae<|.ref l,ah] H:=by
 refine#[_,oK (i:=1) Ec.nd zj (Or.inl zj)<|Dp AT (pv 1)<|lC<|fw (fV fT (by rfl) T.inst kI<|fw (pv 0)<|fw (gp (v:=.ref<|c 12) zj (T.m 12 _ zj) zj) fR)<|fw (fV fT (by rfl) T.inst kI<|fw (pv 0)<|fw (gp (v:=.ref<|c 13) zj (T.m 13 _ zj) zj) fR)<|fw (fV fT (by rfl) T.inst kI<|fw (pv 0)<|fw (gp (v:=.ref<|c 14) zj (T.m 14 _ zj) zj) fR)<|fw (fV fT (by rfl) T.inst kI<|fw (pv 0)<|fw (gp (v:=.ref<|c 15) zj (T.m 15 _ zj) zj) fR) fR,λD H l xs sm hn hl hx k=>?_];have pR:=sm _ _ ha;refine#[_,rfl,_,rfl,_,_,_,_,_,rfl,.exc pR<|T.ek i hi,rfl,T.kt i 12 hi zc,_,rfl,_,_,_,_,_,rfl,.exc pR<|T.ek i hi,rfl,T.kt i 13 hi zc,_,rfl,_,_,_,_,_,rfl,.exc pR<|T.ek i hi,rfl,T.kt i 14 hi zc,_,rfl,_,_,_,_,_,rfl,.exc pR<|T.ek i hi,rfl,T.kt i 15 hi zc,by change 4<=sizeLine;decide,λl2 n2=>?_];refine#[l,l2,xs,_,rfl,rfl,by rw[fu<|fL hl n2];show hl,fv,Kv zo |> eX,λp np=>?_];have s2:=iW (o:=.lst [.bl<|decide (i=12),.bl<|decide (i=13),.bl<|decide (i=14),.bl<|decide (i=15)]) sm<|sm.free n2;have mp:H0 p=ah:=s2.free np;show k p _ mp (iW s2 mp) fv
theorem w4 (T:nD K mg R c) {i:Nat}(hi:i<17) (ha:H0 a=ae (.ext (kD a<|c i))):∃ t,PS z9 (dQ 4) t /\ ∀ D H l xs,hM H0 H->H0 l=ah->H l=ae (.lst xs)->xs.length<=100 ->
 (∀ H',hM H0 H'->H' l=ae (.lst<|xs++[.bl<|decide (i=16)])->D.nx [ae zaf,ae<|.ref l,ah] H')->t D [ae zaf,ae<|.ref l,ah] H:=by
 show#[_,Gx<|BZ xK acd ace lU (pv 1)<|fw (fV fT (by rfl) T.inst kI<|fw (pv 0)<|fw (gp (v:=.ref<|c 16) zj (T.m 16 _ zj) zj) fR) fR,λD H l xs sm hn hl hx k=>(#[_,rfl,.inl #[rfl,_,bI.of hl],_,rfl,_,_,_,_,_,rfl,.exc (sm _ _ ha)<|T.ek i hi,rfl,T.kt i 16 hi zc,l,xs,_,rfl,rfl,hl,Kv zb,k _ (iW sm hn) fv])]
theorem w5 (T:nD K mg R c) {i:Nat}(hi:i<17) (ha:H0 a=ae (.ext (kD a<|c i))):∃ t,PS z9 (dQ 5) t /\ ∀ D H l,hM H0 H->H l=ae (.lst<|uU i 17) ->
 D.nx [ae zaf,ae<|.ref l,ah] H->t D [ae zaf,ae<|.ref l,ah] H:=by
 refine#[_,(S3 (PW.pt<|S0 (GC S6 (BZ xK PySem.F.slot_list_count PySem.F.type_list_count Mh (pv 1)<|fw Lz fR) AL<|agh _)<|LC<|LD<|LB<|fV fT (by rfl) T.inst kI<|fw (pv 0)<|fw (Gu (v:=.ty "ValueError") zj T.ah3 Lx zj) fR) (mY<|CB Fp) Gw),λD H l sm hl k=>?_];refine#[_,rfl,.inl #[rfl,_,bI.of hl],l,_,_,rfl,rfl,hl,Fo i 17,rfl,rfl,_,rfl,?_];rw[Lw i hi];show adh<|#[_,rfl,_,_,_,_,_,rfl,.exc (sm _ _ ha)<|T.ek i hi,rfl,T.kv i hi,_,rfl,adh k]
theorem w6 (T:nD K mg R c):∃ t,PS z9 (dQ 6) t /\ ∀ D H l,hM H0 H ->
 (∀ l2 H',H l2=ah->H'=upd H l2 (.lst<|(rO.take 12).map V.str)->D.nx [ae zaf,ae<|.ref l,ae<|.ref l2] H')->t D [ae zaf,ae<|.ref l,ah] H:=by
 have e:∃ p es q r,dQ 6=.Assign [.Name "_law_words" p] (.List es q) r /\ es.map adv=(rO.take 12).map ae:=#[_,_,_,_,rfl,rfl];let#[p,es,q,r,h,he]:=e;rw[h];show#[_,oK (i:=2) Ec.nd zj (Or.inl zj) (lC<|CM he)<|Gr _ _ _ _,λD H l sm k=>(#[by decide,λl2 n2=>k l2 _ n2 zj])]
theorem w7 (T:nD K mg R c) {i:Nat}(hi:i<17):∃ t,PS z9 (dQ 7) t /\ ∀ D H l l2,hM H0 H->H l=ae (.lst<|uU i 17)->H l2=ae (.lst<|(rO.take 12).map V.str) ->
 (∀ H',hM H0 H'->D.rt (.str<|wordOf i) H')->t D [ae zaf,ae<|.ref l,ae<|.ref l2] H:=by
 refine#[_,(CB<|L3 CG (Dp AT (pv 2)<|lC<|CM (xs:=rO.drop 12) zj) (BZ xK PySem.F.slot_list_index PySem.F.type_list_index Mi (pv 1)<|fw Lz fR) λ_ _=>rfl),λD H l l2 sm hl h2 k=>?_];refine#[_,rfl,by decide,λl3 n3=>?_];refine#[l2,l3,_,_,rfl,rfl,by rw[fu<|fL h2 n3];show h2,fv,by decide,λp np=>?_];have s3:=iW (o:=.lst<|(rO.drop 12).map V.str) sm<|sm.free n3;have lp:l≠p:=by
  intro z;rw[<-z,fu<|fL hl n3,hl]at np;cases np
 have nJ:(upd (upd H l3<|.lst<|(rO.drop 12).map V.str) p<|.lst<|(rO.take 12).map V.str++(rO.drop 12).map V.str) l=ae (.lst<|uU i 17):=by rw[fu lp,fu<|fL hl n3];show hl
 refine#[_,rfl,.inl #[rfl,_,bI.of nJ],l,_,_,i,rfl,rfl,nJ,Fo i 17,rfl,(hi),?_,?_,p,_,_,_,rfl,rfl,bI.of fv,Au ?_,k _<|iW s3<|s3.free np]
 .intro z e;rw[Wc i hi]at e;cases e;rfl
 .intro m z hm e;rw[We i hi m hm]at e;cases e;rfl
 .have:∀ i,i<17->((rO.take 12).map V.str++(rO.drop 12).map V.str)[i]?=ae (.str<|wordOf i):=by decide
  show this i hi
theorem akb:f8 uT=[dQ 0,dQ 1,dQ 2,dQ 3,dQ 4,dQ 5,dQ 6,dQ 7]:=rfl
end
section
variable {R:ai} {c:Nat -> ai} 
theorem akc (i:Nat):(([.bl<|decide (i=0),.bl<|decide (i=1),.bl<|decide (i=2),.bl<|decide (i=3)]++[.bl<|decide (i=4),.bl<|decide (i=5),.bl<|decide (i=6),.bl<|decide (i=7)]++[.bl<|decide (i=8),.bl<|decide (i=9),.bl<|decide (i=10),.bl<|decide (i=11)]++[.bl<|decide (i=12),.bl<|decide (i=13),.bl<|decide (i=14),.bl<|decide (i=15)]++[.bl<|decide (i=16)]:List V))=uU i 17:=rfl
theorem SZ (F:eD K "_law_word" "_law_word" uT f fd) (T:nD K mg R c):EY P w K mg base rC 1 f fd ["_law_e"] (aeb c):=by
 refine F.ag3 Ec (λvs H Q E h=>?_) λcdv A outer s H vs Q E hr h=>?_
 .let#[a,i,rfl,_]:=h;rfl
 .let#[a,i,rfl,hi,ha,q]:=h;rw[akb];let#[t0,p0,r0]:=w0 T hi ha;let#[t1,p1,r1]:=w1 (P:=P) (w:=w) (base:=base) (f:=f) (cdv:=cdv) (A:=A) (outer:=outer) (s:=s) (Hx:=H) (E:=E) T hi ha;let#[t2,p2,r2]:=w2 (P:=P) (w:=w) (K:=K) (mg:=mg) (base:=base) (f:=f) (cdv:=cdv) (A:=A) (outer:=outer) (s:=s) (Hx:=H) (E:=E) T hi ha;let#[t3,p3,r3]:=w3 (P:=P) (w:=w) (K:=K) (mg:=mg) (base:=base) (f:=f) (cdv:=cdv) (A:=A) (outer:=outer) (s:=s) (Hx:=H) (E:=E) T hi ha;let#[t4,p4,r4]:=w4 (P:=P) (w:=w) (K:=K) (mg:=mg) (base:=base) (f:=f) (cdv:=cdv) (A:=A) (outer:=outer) (s:=s) (Hx:=H) (E:=E) T hi ha;let#[t5,p5,r5]:=w5 (P:=P) (w:=w) (K:=K) (mg:=mg) (base:=base) (f:=f) (cdv:=cdv) (A:=A) (outer:=outer) (s:=s) (Hx:=H) (E:=E) T hi ha;let#[t6,p6,r6]:=w6 (P:=P) (w:=w) (K:=K) (mg:=mg) (base:=base) (f:=f) (cdv:=cdv) (A:=A) (outer:=outer) (s:=s) (Hx:=H) (E:=E) (a:=a) (H0:=H) T;let#[t7,p7,r7]:=w7 (P:=P) (w:=w) (K:=K) (mg:=mg) (base:=base) (f:=f) (cdv:=cdv) (A:=A) (outer:=outer) (s:=s) (Hx:=H) (E:=E) (a:=a) (H0:=H) T hi;generalize dQ 0=x0 at p0 ⊢;generalize dQ 1=x1 at p1 ⊢;generalize dQ 2=x2 at p2 ⊢;generalize dQ 3=x3 at p3 ⊢;generalize dQ 4=x4 at p4 ⊢;generalize dQ 5=x5 at p5 ⊢;generalize dQ 6=x6 at p6 ⊢;generalize dQ 7=x7 at p7 ⊢;refine#[_,g9 p0<|g9 p1<|g9 p2<|g9 p3<|g9 p4<|g9 p5<|g9 p6<|mY p7,?_];refine r0 _ λl1 H1 n1 s1 e1=>?_;refine r1 _ _ _ _ s1 n1 e1 zg λl2 H2 n2 s2 e2=>?_;refine r2 _ _ _ _ s2 n2 e2 zg λl3 H3 n3 s3 e3=>?_;refine r3 _ _ _ _ s3 n3 e3 zg λl4 H4 n4 s4 e4=>?_;refine r4 _ _ _ _ s4 n4 e4 zg λH5 s5 e5=>?_;have aay:H5 l4=ae (.lst<|uU i 17):=by rw[<-akc i];show e5
  refine r5 _ _ _ s5 aay ?_;refine r6 _ _ _ s5 λl6 H6 n6 e6=>?_;subst e6;refine r7 _ _ _ _ (iW s5<|s5.free n6) (by rw[fu<|fL aay n6];show aay) fv λH7 s7=>q H7 s7
end
end K24.Wd
namespace K24
open L2 L2.DL PySem.W
abbrev nl:List (Nat×Str×Str×bp):=(0, "law", "",top 93)::(0, "_law_due", "",top 92)::(0, "_law_is_hour", "",top 89)::(0, "_law_within", "",top 81)::(0, "_law_whole", "",top 80)::(0, "_law_told", "",top 91)::(1, "places", "",inClass (top 75) 10)::(2, "places_pages","places",top 52)::(0, "places", "",top 52)::(1, "spoilt_at", "",inClass (top 75) 12)::(1, "ripeness", "",inClass (top 75) 11)::(1, "pages", "",inClass (top 75) 8)::(2, "spoilt_at_ripening","spoilt_at",top 63)::(0, "spoilt_at", "",top 63)::(0, "hour_spoilt", "",top 73)::(0, "limit_of", "",top 69)::(2, "ripeness_ripening","ripeness",top 61)::(0, "ripeness", "",top 61)::(0, "ripe_at", "",top 72)::(0, "stretches", "",top 71)::(0, "points_in", "",top 70)::(0, "is_opened", "",top 59)::(0, "cold_by_outs", "",top 42)::(0, "rooms_behind", "",top 58)::(0, "hours_of_change", "",top 43)::(0, "coming_of", "",top 68)::(0, "steps_taken", "",top 57)::(0, "read", "",top 54)::(0, "word_for", "",top 56)::(0, "may_share", "",top 44)::(0, "room_entered", "",top 55)::(0, "need_hour", "",top 26)::(0, "need_lot_of", "",top 67)::(0, "need_pages", "",top 51)::(0, "are_pages", "",top 50)::(0, "need_outs", "",top 41)::(0, "are_outs", "",top 38)::(0, "_law_odd", "",top 83)::(1, "dark", "",inClass (top 75) 3)::(0, "lie_apart", "",top 40)::(0, "is_out", "",top 39)::(1, "tell", "",inClass (top 75) 1)::(1, "keep", "",inClass (top 75) 16)::(1, "need_page", "",inClass (top 75) 15)::(0, "is_page", "",top 49)::(0, "is_hour", "",top 23)::(0, "greatest_parts", "",top 48)::(0, "_law_pages", "",top 88)::(0, "_law_page", "",top 87)::(0, "_law_mixed", "",top 82)::(0, "_law_outs", "",top 86)::(0, "_law_cell_at", "",top 77)::(1, "__init__", "",inClass (top 75) 0)::(0, "need_house", "",top 37)::(0, "is_house", "",top 30)::(0, "are_apart", "",top 35)::(0, "is_pair_apart", "",top 36)::(0, "is_rising", "",top 25)::(0, "are_kinds", "",top 32)::(0, "is_kind", "",top 33)::(0, "are_rates", "",top 34)::(0, "are_rooms", "",top 31)::(0, "is_within", "",top 22)::(0, "is_whole", "",top 21)::(0, "is_tuple", "",top 24)::(0, "_law_house", "",top 85)::(0, "_law_kind_of", "",top 84)::(0, "_law_take", "",top 79)::(0, "_law_pot", "",top 78)::[]
theorem Wf {l:PySem.W.OpenLaw}{h:aE}{fa:ai}(X:K.In h) (G:h.Ns mainGlobals mg) (Ea:mg "law"=ae (.ref fa))
 (aC:nsIn K mainGlobals "Ledger"=ae (ae zaa)) (z0:QH K (tx C).bl=ag) (g0:QI K (tx C).gl=ag) (y1:QF K=ag) (cp:plainGet K C Str.empty=ag) (cd:hasDictIn K C=ag) (co:plainOver K C=ag) (cs:findIn K zaa "__setattr__"=ae (ae<|.builtin "object.__setattr__")) (cm:makesIn K C=ag) (ck:keepIn K zaa=ag) (cn:((tx C).fl.all λf=>findIn K zaa f==ae ah)=ag)
   (D:Eb K C nl)
   {R c0 c1 c2 c3 c4 c5 c6 c7 c8 c9 Ed Ee Ef Eg Eh Ei Ej:ai}
   (eR:nsIn K mainGlobals "RimeError"=ae (ae<|.ref R))
   (e0:nsIn K mainGlobals "NoHouse"=ae (ae<|.ref c0))
   (e1:nsIn K mainGlobals "NoOuts"=ae (ae<|.ref c1))
   (e2:nsIn K mainGlobals "NoRoom"=ae (ae<|.ref c2))
   (e3:nsIn K mainGlobals "NoHour"=ae (ae<|.ref c3))
   (e4:nsIn K mainGlobals "NoPages"=ae (ae<|.ref c4))
   (e5:nsIn K mainGlobals "NoLot"=ae (ae<|.ref c5))
   (e6:nsIn K mainGlobals "NoAsks"=ae (ae<|.ref c6))
   (e7:nsIn K mainGlobals "NoNumber"=ae (ae<|.ref c7))
   (e8:nsIn K mainGlobals "NoMoves"=ae (ae<|.ref c8))
   (e9:nsIn K mainGlobals "NoEach"=ae (ae<|.ref c9))
   (akd:nsIn K mainGlobals "NoOrder"=ae (ae<|.ref Ed))
   (ake:nsIn K mainGlobals "NoPage"=ae (ae<|.ref Ee))
   (akf:nsIn K mainGlobals "NoOut"=ae (ae<|.ref Ef))
   (akg:nsIn K mainGlobals "Twice"=ae (ae<|.ref Eg))
   (akh:nsIn K mainGlobals "Missing"=ae (ae<|.ref Eh))
   (aki:nsIn K mainGlobals "TooMany"=ae (ae<|.ref Ei))
   (akj:nsIn K mainGlobals "NoDeed"=ae (ae<|.ref Ej))
   (zi:nsIn K mainGlobals "isinstance"=ae ah) (zv:nsIn K mainGlobals "ValueError"=ae ah)
   (h1:([c0,c1,c2,c3,c4,c5,c6,c7,c8,c9,Ed,Ee,Ef,Eg,Eh,Ei,Ej]:List ai).all (QG K R)=ag) (h2:aav K ([c0,c1,c2,c3,c4,c5,c6,c7,c8,c9,Ed,Ee,Ef,Eg,Eh,Ei,Ej]:List ai)=ag) (h3:aaw K R=ag)
   {fW:ai}{akk akl:Option ai}{akm:Array (Option aj)}{akn ako akp akq ae4 akr:aj}(aW:nsIn K mainGlobals "_law_word"=ae (ae<|.ref fW)) (lW:K.lookup fW=ae #[akn,akk,.func<|fnOf "_law_word" "_law_word" (ia Wd.uT) (f8 Wd.uT) (fE Wd.uT) .none ako akp akq akl ae4 akr,akm]) (gW:codeIn K ae4 "_law_word"=ag) (kW:keepIn K (.ref fW)=ag) :
   ∃ (C:ai) (cl:Nat->ai) (fd:FuncData),(∀ (s:aq) (u:aj),BindsTo s fd #[[u],[]] [("_law_script",u)]) /\ ∀ base:aE,K.In base->base.Ns mainGlobals mg->cZ l.prog w K mg base (dz l.prog w) 138 fa fd ["_law_script"] (qd cl 1<|K24.CW C):=by
  have DF:=ae3 X G (SY<|(show (Ia C).map FI.key=nl by kernel_rfl)▸D) (by kernel_rfl);have nm:((iL C).b 16||(iL C).b 32)=af:=by kernel_rfl
  refine#[C,SX (λi=>([c0,c1,c2,c3,c4,c5,c6,c7,c8,c9,Ed,Ee,Ef,Eg,Eh,Ei,Ej]:List ai).getD i 0) Ea (V9 nm (by kernel_rfl)<|DF (iL C)<|bN ..) (λfd f F s u=>?_) λbase _ _=>?_]
  .let#[#[oc,od,kV,doc,pm,an,cdv,ct,pf,rfl,_,_],_]:=F;show .of_eq zj
  .have ext:nD K mg R (λi=>([c0,c1,c2,c3,c4,c5,c6,c7,c8,c9,Ed,Ee,Ef,Eg,Eh,Ei,Ej]:List ai).getD i 0):=V8 X G zj eR (λi x hx=>by
    match i,hx with
    |0,hx=>cases hx;show e0
    |1,hx=>cases hx;show e1
    |2,hx=>cases hx;show e2
    |3,hx=>cases hx;show e3
    |4,hx=>cases hx;show e4
    |5,hx=>cases hx;show e5
    |6,hx=>cases hx;show e6
    |7,hx=>cases hx;show e7
    |8,hx=>cases hx;show e8
    |9,hx=>cases hx;show e9
    |10,hx=>cases hx;show akd
    |11,hx=>cases hx;show ake
    |12,hx=>cases hx;show akf
    |13,hx=>cases hx;show akg
    |14,hx=>cases hx;show akh
    |15,hx=>cases hx;show aki
    |16,hx=>cases hx;show akj
    |n+17,hx=>simp[Hy]at hx) zi zv h1 h2 h3
   have hw:Hz l.prog w K mg base (λi=>([c0,c1,c2,c3,c4,c5,c6,c7,c8,c9,Ed,Ee,Ef,Eg,Eh,Ei,Ej]:List ai).getD i 0):=by
    have F:=CK (st:=Wd.uT) lW gW kW;show#[fW,_,Wd.SZ F ext,mg_of X G aW,kW,F.binds (ps:=["_law_e"]) λ_ _ _ _ _ _ us hl=>match us,hl with|[_],_=>rfl]
   let#[kk,h1,h2]:=(SW (Yo X G z0 g0 y1 (λ_=>#[R,ext]) (λ_=>hw) cn λ_=>#[#[cp,cd,co,cs],aC,cm,ck]) (Ia C) (Wa C) (Wb C) DF).1 (iL C)<|bN ..;have lv:pd (Ia C)=138:=by kernel_rfl
   show#[kk,OM nm h1,lv▸h2]
end K24
end
structure PySem.W.Fast:Prop where(tw17382721268978996599 tw6994053309045930416 tw13257972902147004011 tw15928557145204164844 tw17167349390225820815 tw16764996187449377347 tw11960593353980343625 tw11235477179900343208 tw4674913196104887782 tw9248165783238184916 tw6218245385871960193 tw13837551812379980584 tw16193832684636481540 tw18269886810534138159 tw3774052892922670590 tw4510715138383206536 tw14508328697637138624 tw5336892751432051648 tw15256611639368801221 tw9840331509382289874 tw9598680322418654265 tw746647053675296830 tw2169899840411312056 tw1947731908736928519 tw9123027729915229355 tw15308733412752881543 tw1402099083544340359 tw9155994746017122113 tw15891518739365560893 tw3722199293634488157 tw3899038560927240221 tw10863144966361525918 tw9243153941281298207 tw1207168092826126309 tw15800993865587065609 tw7025100514120770866 tw16753952425993565036 tw11481728301708827940 tw1157738690422064534 tw4486963224953098072 tw18126168907964767341 tw11553032968582535598 tw2690624405061056731 tw5852558603897317095 tw10282297238767920235 tw3701932454918103068 tw16816378456396353564 tw9275589631729595461 tw9475890901606086346 tw3760383425135840468 tw2131367498257992232 tw12962931781087214358 tw4747052404352873806 tw6908653454423559574 tw6796483843432419995 tw4837440850822502997 tw17637330864127297428 tw11082599519672299088 tw13782006260578703771 tw16649341628680447709 tw5864779523338312512 tw17001186384252347705 tw17225784177504844440 tw2768348738345254555 tw14399789009284327089 tw13618161531040085787 tw12843173189178699269 tw3379721207054666853 tw8320174776727697370 tw16438228616589977580 tw10120322405953356031 tw4445553385183002160 tw10241361916018518765 tw3814221437381341452 tw2033806919317494225 tw16974250991776834774 tw13445086964096289077 tw9056356312978256240 tw1325794380935046068 tw8919046476426217824 tw5022934916705598675 tw17670064112987237765 tw18082743538970885247 tw4219846467935702487 tw8823319740707097825 tw10047482128635369474 tw620716720728259216 tw18038914025859977618 tw14326952867501373101 tw13237843373678070180 tw5228078416256618935 tw12720215902330065593 tw12226795159399789547 tw5701021501363371788 tw11962719618433895848 tw4626666565297035155 tw18156829799375290610 tw5756134563186658743 tw11133758898120254218 tw10461230332683493783 tw13062790418296188312 tw5707900336651515705 tw10444004377681410049 tw10262382246854946338 tw17100098297722700463 tw13409219811487962690 tw8811146024918265048 tw14867320975176743160 tw2584958403491288715 tw3976250057234694655 tw10608073537981250339 tw18408069150220089514 tw13892736327278096455 tw14558325772158384265 tw514112972325509493 tw16110784293946053611 tw6571130913429317368 tw8904717795384020934 tw7845557258784939556 tw11587257107843399086 tw8274798428921733333 tw8197234087959435286 tw10841323602984446626 tw5231434299118682956 tw13764569772022318855 tw15640047168651666023 tw15086330968012306004 tw17905558672428226386 tw7718145263320260957 tw16576857165690004213 tw9769746425225261216 tw6053882584002209885 tw211148935509489142 tw7486106524724347147 tw5006234723047416899 tw9237485626227461214 tw1771885022017925381 tw12430385978010435999 tw18140649847537486977 tw17137355184588282455 tw10415721595206787591 tw11292421893784481646 tw11943554799904209334 tw3153445928793939179 tw11571893261849519137 tw12494832207154314422 tw17307595309105742932 tw1020481891029484502 tw15006221625010986104 tw6761719801541373075 tw15535145876382192979 tw8138719692223136584 tw16216101782568639540 tw11373677339669545300 tw14914524147453309347 tw11345203863093788646 tw9288487160652263582 tw8317876599165817671 tw8605870609656344734 tw7224012176985206769 tw14657615424645675836 tw8146445706300298272 tw10023463963055429717 tw1205584528248049835 tw13869192361718428699 tw10285894554680960710 tw14743265008786398327 tw5873043407641746738 tw10383439586350966225 tw1045099732233856635 tw15413280904562465991 tw7188083104620310650 tw791808469661294628 tw2067831180088628819 tw15675125725249145928 tw7543123622096903128 tw5142018011136918050 tw10998235551603988907 tw7616609660497078816 tw13073940907214643049 tw10167556400311045963 tw13203798733311550984 tw8344131396806938409 tw14904855194216657355 tw2717641947585198059 tw9381187618559278178 tw10362683209052303545 tw16546454483652579332 tw9989244609829703075 tw7677227270602867093 tw15358760990342668653 tw5737901833821415996 tw4937238157436898237 tw5681507702572305075 tw8668629343150116771 tw8585101390303629471 tw10322161381420929484 tw13448979546119168398 tw10244764807635200696 tw1809621013450307181 tw17189144672550521066 tw6207958980976507941 tw7119357237335062711 tw14317249882436149979 tw1068195491980243275 tw12647751154487553613 tw1029889545406860823 tw10820772777902836998 tw8317934839946400177 tw11329346960819563167 tw1045302864481448995 tw14811578921352944682 tw4141009443103813771 tw2569497836367783242 tw4547814717660484964 tw10412504627947784861 tw16510896709721888135 tw1140160796304948529 tw8235684048295397557 tw3669582029875272550 tw6511944044172596203 tw3746590609706489247 tw10057259487537351623 tw5484283840454157629 tw17814926113244993110 tw15967753005626367435 tw7432225277910996848 tw10916872274163307097 tw15808140551089599874 tw8732591763794215814 tw11646412614998576252 tw12518392082813926168 tw1918177779491462646 tw13680128064377570559 tw18476546355702456 tw17709643803898967803 tw12993001522073817919 tw9351139560467425842 tw18242762071355984900 tw17224195425667958338 tw7164644201556908326 tw7922104045452984267 tw4623084048361105819 tw12848371044623834629 tw11695350904545582544 tw13956125635485241398 tw8661766079604511051 tw4504008941649043887 tw10545815786804580776 tw6532679121458377190 tw10220369164088054261 tw9781548130057411687 tw4751706789978326842 tw10302163475343549397 tw5878030564823681715 tw5464679516861673225 tw4011185484722921237 tw11699908867641626848 tw8768211903110187009 tw2408411051307150088 tw14554689865474356593 tw13303600544348880685 tw16352382000325228118 tw12189793806772501489 tw9618900680511128912 tw459960854008108966 tw9347278172882953072 tw2871120382785308632 tw7692210691242243618 tw12758562127148647751 tw7238734860712770030 tw4188183207375450096 tw16085008946469980927 tw17770186263487173653 tw4370263507385223070 tw5627118236494623432 tw16076505202920198966 tw3417864758382955203 tw10936051807312898488 tw12933736985104548585 tw14078574283258471600 tw9660660244078269152 tw9055643073032223298 tw9187302212696956741 tw8095206155277757658 tw18255127316587192058 tw7910032160678693440 tw4870319448440060940 tw1081221212021189853 tw4626802462424432671 tw5867536771510705416 tw5734942838834595141 tw16381545992434726275 tw8082741133993579360 tw4577476300657129533 tw294847456009816892 tw13834292084748023958 tw10988207193106981958 tw4015962478842426097 tw2389875931184327375 tw8081738627456922713 tw6931548496818902524 tw10282492399326077132 tw761350743835864988 tw15918203543026394094 tw2126795062782317117 tw2394673455013538774 tw9682925709058158630 tw654892093035230519 tw4030766737432856759 tw469035481099160955 tw5119419447959149935 tw3764787396843561696 tw4843600601620567928 tw14277953158280254905 tw2968730356394863015 tw9336390396668447948 tw13885553181835200801 tw16460734781076722016 tw2292329786209552919 tw2013732421179882013 tw4471355204909863896 tw10588183446136101615 tw5361579431660617176 tw4632696798002953716 tw11682268221778928965 tw908297091471204126 tw3813670273790079242 tw11608170303663325047 tw5368764918668064726 tw1177148931126384682 tw7977690761109494780 tw4185672153625202775 tw10198514936479813622 tw13135303289499752298 tw5607270134711909440 tw13991150107233564823 tw3027986564787213737 tw9934688885856539249 tw17363389502415231655 tw16244517393165939360 tw13387933889155877675 tw13333809654855419306 tw10583184394193387589 tw3710320026171648726 tw4705910248033336985 tw2794747878697113077 tw161911882052157249 tw13987118320451295208 tw18429644267118025375 tw6970851151905748373 tw8942780326377276972 tw7137514805414143734 tw7451846481784297575 tw6942612694458402734 tw14554954558919004324 tw5353823925145220701 tw11281867803896886051 tw17484657651851592902 tw4958871291185695386 tw1943384788968983484 tw3899176925194758799 tw9140945535025928204 tw16201427511707246221 tw394599665482098336 tw7193726075491120747 tw14391316263900310115 tw817567613943112848 tw14474607635630636629 tw15109536365539028694 tw1788416875785880304 tw9619929795067717009 tw1697205242022939381 tw1178109204775648834 tw11083525417880364487 tw12298985612011820209 tw15633966501247466097 tw8348143991448868940 tw13532874944155531086 tw10250589348115054316 tw6873864074803532035 tw5345076445184133822 tw18353323862790253648 tw1763362138715627245 tw15085220594589543367 tw3491864864078968392 tw14779227250661721199 tw12494704831332884342 tw467475235216442190 tw14069185431035906571 tw1082593336237210937 tw17980233506575551019 tw15029716188372600317 tw6239640366060008697 tw17804049683201922651 tw6151218104077864030 tw17864866513901921886 tw3061645650690311746 tw7395879131320690505 tw16640480051950905809 tw10388305906765499672 tw6096906446638283654 tw9058437675629853999 tw9867528405886941926 tw15371049748903134882 tw8131332844503680350 tw8574193523978936262 tw14089609267494894090 tw5060813212978369201 tw1577560726568233368 tw9806709145509124034 tw16696653488624173861 tw5127586521850929193 tw12997876140982122283 tw13135146777197786564 tw14207697316274883995 tw16970065834766168370 tw15843120398806539359 tw10158237964697220756 tw8341378137732452066 tw7336593374968567443 tw16266363131219165356 tw3104689315695648441 tw16187380069099695153 tw7173176717663637979 tw8143870667286189795 tw9642756853668547382 tw10566174911880550914 tw15738213198543370900 tw15241094445544158967 tw15725047712465232584 tw16963164615059577516 tw1673002196298645533 tw1578142354938342135 tw9141890418068141695 tw5260279087130397492 tw13657328942522230795 tw15080763419489698990 tw12471307720686816632 tw774006696321694686 tw8091678759119255333 tw9953126208198213812 tw6659247300770970425 tw10144293911897135348 tw18158991499561197232 tw4225056450804305497 tw16482729992515258988 tw1721188373099393952 tw17333448041843812888 tw8733162963173300123 tw11171892672861144963:True)
open_top hdk24 for PySem.Challenge.rw_rimehold_k24_lots_and_hours_refused

set_option maxRecDepth 100000 in
set_option maxHeartbeats 0 in
theorem PySem.Challenge.cw_rimehold_k24_lots_and_hours_refused_holds : PySem.Challenge.rw_rimehold_k24_lots_and_hours_refused.Holds :=
 hdk24 (by
 k_fill
 refine L2.DL.walk_o (l:=PySem.Challenge.rw_rimehold_k24_lots_and_hours_refused) (k:=138) (fn:=K24.CW) ⟨rfl,by decide,by decide,rfl⟩ rfl rfl (λw h Y=>PySem.W.kIn_of Y) ?kq_nl (λC ns h=>K24.law_true C ns (by lia)) ?kq_F
 case kq_nl =>
  intro w;kernel_rfl
 case kq_F =>
  intro w mg fa h KX G hmg
  refine' K24.Wf KX G hmg ?kq_aC ?kq_z0 ?kq_g0 ?kq_y1 ?kq_cp ?kq_cd ?kq_co ?kq_cs ?kq_cm ?kq_ck ?kq_cn ?kq_D ?kq_eR ?kq_e0 ?kq_e1 ?kq_e2 ?kq_e3 ?kq_e4 ?kq_e5 ?kq_e6 ?kq_e7 ?kq_e8 ?kq_e9 ?kq_e10 ?kq_e11 ?kq_e12 ?kq_e13 ?kq_e14 ?kq_e15 ?kq_e16 ?kq_zi ?kq_zv ?kq_h1 ?kq_h2 ?kq_h3 ?kq_aW ?kq_lW ?kq_gW ?kq_kW
  (case kq_aC=>k_is)
  (case kq_z0=>kernel_rfl)
  (case kq_g0=>kernel_rfl)
  (case kq_y1=>kernel_rfl)
  (case kq_cp=>k_is)
  (case kq_cd=>k_is)
  (case kq_co=>k_is)
  (case kq_cs=>k_is)
  (case kq_cm=>k_is)
  (case kq_ck=>k_is)
  (case kq_cn=>kernel_rfl)
  (case kq_D=>(iterate 69 refine And.intro (by first|exact L2.DL.dIn_mk (by k_is) (by k_is) (by k_is) (by k_is)|exact L2.DL.dInM_mk (by k_is) (by k_is) (by k_is) (by k_is) (by k_is)|exact L2.DL.dInA_mk (by k_is) (by k_is)) ?_);exact trivial)
  (case kq_eR=>k_is)
  (case kq_e0=>k_is)
  (case kq_e1=>k_is)
  (case kq_e2=>k_is)
  (case kq_e3=>k_is)
  (case kq_e4=>k_is)
  (case kq_e5=>k_is)
  (case kq_e6=>k_is)
  (case kq_e7=>k_is)
  (case kq_e8=>k_is)
  (case kq_e9=>k_is)
  (case kq_e10=>k_is)
  (case kq_e11=>k_is)
  (case kq_e12=>k_is)
  (case kq_e13=>k_is)
  (case kq_e14=>k_is)
  (case kq_e15=>k_is)
  (case kq_e16=>k_is)
  (case kq_zi=>k_is)
  (case kq_zv=>k_is)
  (case kq_h1=>kernel_rfl)
  (case kq_h2=>kernel_rfl)
  (case kq_h3=>kernel_rfl)
  (case kq_aW=>k_is)
  (case kq_lW=>k_is)
  (case kq_gW=>k_is)
  (case kq_kW=>k_is)
 )
