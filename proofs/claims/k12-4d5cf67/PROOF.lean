import PyProof.Rows.All
import Wide.All
import OpenK.AllK
import Wide.FinOn
import Lean
import PyProof.EqAt
import PyProof.EqKinds
import PyProof.TupleCall
import PyProof.Walks
import PyProof.ListMulRoad
import PyProof.ReprRoads
import PyProof.NeData
import PyProof.P3In
import PyProof.ZipIter
import PyProof.Draws
import PyProof.TupleIter
import PyProof.Rows.StrRules
import PyProof.CompUse
import PyProof.ListRange
import KE.KDictLaws
import PyProof.EnumFor
import PyProof.EnumMake
import PyProof.EnumStmt
import PyProof.ConsumeWalk
import KE.KMinKey
import PyProof.ListNew
import PyProof.Rows.SetFrom
import PyProof.WalksMore
import KE.KDictList
import PyProof.DictWalks
import KE.KDictOf
import KE.KDictSum
import KE.KItemsList
import PySem.Challenge.RW_rimehold_k12_who_is_where
set_option Elab.async false
set_option linter.all false
set_option maxRecDepth 100000
set_option maxHeartbeats 4000000
set_option exponentiation.threshold 3000
set_option hygiene false
set_option compiler.extract_closed false
local macro_rules|`(zaB)=>`((false,eval e X.env))
local macro_rules|`(zaA)=>`((s.heap.push { cls:=.type "dict",data:=.dict #[] }))
local macro_rules|`(zay)=>`([xB n,some (.d za),xN near,xN a,xN l,xN r,xN w,none])
local macro_rules|`(zax)=>`((aA dP (aq K R)))
local macro_rules|`(zaw)=>`([some (.ref a),some (.ref l),none])
local macro_rules|`(zav)=>`((XW P w K mg base f cdv A outer s Hx E))
local macro_rules|`(zau)=>`((fB (fH (fP (fc (d2 false ag (bQ (bN (dV 1) "came") (dV 3)) zE) (fc (d2 false ag (bQ (bN (dV 1) "came") (dV 5)) zE) fg))) (fe 7)) (aF (kN (dB (d2 false aJ (dV 4) (dV 6))) (dB (d2 false (inD false) (dV 7) (d2 false ag (dV 0) zO)))) (fN (dC (.bl false))) aS)))
local macro_rules|`(zat)=>`((.refl F1 r1))
local macro_rules|`(zas)=>`((.d (.str (word ps K R g))))
local macro_rules|`(zar)=>`((fB (fH (d2 false ag (dV 5) zO) (fe 6)) (fB (fH (fu aB.iF 4 (fc (dV 0) (fc (dV 3) (fc (dV 4) (fc (dV 5) fg))))) (fe 7)) (fB (aF (dB (d2 false cP (dV 7) (dC (.str "takes")))) (fB (gT (nK (dV 2) (fP (fc (dV 5) (fc (dV 7) (fc (dC .non) (fc (dC .non) fg))))))) Ik) aS) zS))))
local macro_rules|`(zaq)=>`((bx++[.dT (gs.map ke)]))
local macro_rules|`(zap)=>`([some (.d za),some (.d P),some (.m (ml bx.length)),some zG])
local macro_rules|`(zao)=>`((fB (fH (d2 false ag (bQ (dV 1) (dV 4)) zm) (fe 5)) (aF (kO (dB (d2 false (inD false) (fP (fc (dV 2) (fc (dV 5) fg))) (d2 false ag (dV 0) zO))) (dB (d2 false (inD false) (fP (fc (dV 5) zai)) (d2 false ag (dV 0) zO)))) (gT (nK (dV 3) (fP (fc (dV 4) (fc (d2 false ag (bQ (dV 1) (dV 4)) zj) fg))))) aS)))
local macro_rules|`(zan)=>`((X.comp N scope cl s3 H3 C fp))
local macro_rules|`(zam)=>`((fc (dV 1) fg))
local macro_rules|`(zal)=>`((.dK kvs))
local macro_rules|`(zak)=>`((G.e O _ _ _))
local macro_rules|`(zai)=>`((fc (dV 2) fg))
local macro_rules|`(zah)=>`((.Call (.Name x p) (e::es) [] pos))
local macro_rules|`(zag)=>`((dB (d2 false aJ (dV 4) (dC (.str "in")))))
local macro_rules|`(zaf)=>`((.to h' l r))
local macro_rules|`(zae)=>`((((aE items.size 0 lo:Nat):Int)==0&&(1:Int)==1&&(aE items.size items.size hi-aE items.size 0 lo)==items.size))
local macro_rules|`(zad)=>`((aq (cn ps K R g) (cz ps K R g)))
local macro_rules|`(zac)=>`((xB bx.length))
local macro_rules|`(zab)=>`([x0,x1,xB n,some (.d za),x4,x5,x6,x7,x8,x9,aG,bc,aO,a6,a5,aL,aX,aM])
local macro_rules|`(zaa)=>`([some (.d za),xB b,xN k,xB B.length,xN q.1,xN (kk K q.1)])
local macro_rules|`(zZ)=>`((lE x0 x1 x2 x4 x5 x7 za ze N x9 aG (xN h) aO (some (.d (kT ze))) (some (.d (.lst (bR R)))) aL (xB B.length) aM))
local macro_rules|`(zY)=>`((fB (fH (fu K12.gu 3 (fc (dV 3) (fc (dV 6) (fc (dV 11) fg)))) (fe 16)) (fB (aF (kO (dB (d2 false cP (kC (dV 16)) (kC (dV 14)))) (kO (dB (d2 false cP (kC (dV 6)) (dV 13))) (eN (dB (fu K12.gj 3 (fc (dV 3) (fc (dV 8) (fc (dV 16) fg)))))))) (fN (dC (.bl false))) aS) (gT (vX (dV 16) zm (fP (fc (dC (.int 9)) (fc (dC (.int 9)) fg))))))))
local macro_rules|`(zX)=>`([x0,x1,xB n,some (.d za),x4,some (.d (.tup [])),some (.d (.lst (g1.map enc))),xN c,x8,x9,aG,bc,aO,a6,a5,aL,aX,aM])
local macro_rules|`(zW)=>`((fc (dC (.int 4)) fg))
local macro_rules|`(zV)=>`((m.e c false false a))
local macro_rules|`(zU)=>`((fB (fH (fu aB.g6 3 (fc (dV 0) (fc (dV 1) (fc (dV 3) fg)))) (fe 6)) (fB (aF (kN (dB (d2 false aJ (d2 false ag (dV 6) zj) (dC (.str "in")))) (dB (d2 false nJ (fu K1.fj 2 (fc (dV 0) (fc zE fg))) zm))) (fH (d2 false fQ (fP (fc (d2 false uF (d2 false ag (dV 6) zm) zE) fg)) (pY false (dV 6) (pX zj) pW)) (fe 6)) aS) (rq (dV 4) (dV 6) (dC (.bl true))))))
local macro_rules|`(zT)=>`((X.comp N scope cl s H C fp))
local macro_rules|`(zS)=>`((fB (gT (nK (dV 2) (fP (fc (dV 5) (fc (dV 7) (fc (uP (dV 4) (dV 6)) (fc (fu aB.fL 1 (fc (dV 5) fg)) fg))))))) (fB (aF (dB (d2 false aJ (d2 false ag (dV 5) zj) (dC (.str "in")))) (kS (dV 3) (dV 6) (d2 false ag (dV 5) zE)) aS) (aF (dB (d2 false aJ (d2 false ag (dV 5) zj) (dC (.str "out")))) (tX (dV 4) (dV 6)) (kS (dV 4) (dV 6) (fu aB.fL 1 (fc (dV 5) fg)))))))
local macro_rules|`(zR)=>`((fc (dV 0) (fc (dC (.int 4)) fg)))
local macro_rules|`(zQ)=>`((pt bx n p))
local macro_rules|`(zO)=>`((dC (.int 2)))
local macro_rules|`(zM)=>`((.aH h' l k r p w))
local macro_rules|`(zL)=>`((m env bx))
local macro_rules|`(zK)=>`((s.heap.objs.size+1))
local macro_rules|`(zJ)=>`((fB (fH (d2 false pj (d2 false km (d2 false fQ (d2 false fQ (d2 false pj (dV 0) (dC (.int 2147483629))) (d2 false km (dC (.int 7919)) (dV 2))) zj) (dC (.int 48271))) (dC (.int 2147483647))) (fe 3)) (fB (fH (d2 false pj (d2 false fQ (d2 false fQ (d2 false km (dV 3) (dV 3)) (d2 false km (dC (.int 69621)) (dV 2))) (dC (.int 7))) (dC (.int 2147483587))) (fe 3)) (fH (d2 false fQ (d2 false km (dV 1) (dC (.int 2147483587))) (dV 3)) (fe 1)))))
local macro_rules|`(zH)=>`((fc (d2 false ag (dV 10) zm) (fc (dN false maxD (fc zm (fc (d2 false cD (d2 false ag (dV 10) zm) zj) fg))) (fc (d2 false fQ (d2 false ag (dV 10) zm) zj) fg))))
local macro_rules|`(zG)=>`((.d (enc g)))
local macro_rules|`(zF)=>`((.ListComp elt [⟨tg,iter,ifs,0⟩] scope pos))
local macro_rules|`(zE)=>`((dC (.int 3)))
local macro_rules|`(zD)=>`((k==NameKind.free&&env.scope.kind==.function&&env.kindOf n==some .cell))
local macro_rules|`(zB)=>`((by simp;lia))
local macro_rules|`(zt)=>`((fc zm (fc (dV 7) (fc (d2 false fQ (dV 7) (fu K1.fj 2 (fc (dV 2) (fc (dC (.int 50)) fg)))) (fc (d2 false cD (d2 false dg (dC (.int 10)) (dC (.int 40))) zj) fg)))))
local macro_rules|`(zr)=>`((fc (dV 2) (fc (dV 3) (fc (dC (.int 16)) (fc (d2 false ag (gx false (fc (dC (.int 6)) (fc (dC (.int 40)) fg))) (fu K1.fj 2 (fc (dV 2) (fc (dC (.int 2)) fg)))) fg)))))
local macro_rules|`(zq)=>`((by simp))
local macro_rules|`(zo)=>`((Bl bx (aq K R) ca go dr av wd))
local macro_rules|`(zm)=>`((dC (.int 0)))
local macro_rules|`(zk)=>`((model prog w))
local macro_rules|`(zj)=>`((dC (.int 1)))
local macro_rules|`(zh)=>`((model X.prog X.w))
local macro_rules|`(zg)=>`((gs.map enc))
local macro_rules|`(zf)=>`((by decide))
local macro_rules|`(ze)=>`((.lst (gs.map enc)))
local macro_rules|`(zd)=>`((by lia))
local macro_rules|`(za)=>`((hs rs ks ps hd))
local macro_rules|`(zc)=>`(false)
local macro_rules|`(zp)=>`(none)
local macro_rules|`(zu)=>`(true)
local macro_rules|`(zw)=>`(rfl)
local macro_rules|`(zx)=>`(Value)
local macro_rules|`(zy)=>`(Prop)
open Lean Parser.Tactic in
def zP:Nat->Syntax->MacroM (TSyntax `rcasesPat)
|0,_=>Macro.throwUnsupported
|n+1,s=>match s with
|`(#[$xs,*])=>do
  let ys<-xs.getElems.mapM fun x=>do`(rcasesPatLo|$(<-zP n x):rcasesPat)
  `(rcasesPat|⟨$ys,*⟩)
|`(_)=>`(rcasesPat|_)
|`($i:ident)=>if i.getId==`rfl then`(rcasesPat|rfl)else`(rcasesPat|$i:ident)
|_=>Macro.throwUnsupported
local macro_rules|`(tactic|let#[$xs,*]:=$e)=>do let p<-zP 9 (<-`(#[$xs,*]));`(tactic|obtain $p:rcasesPat:=$e)
local macro_rules|`(#[$x,$xs,*])=>`(⟨$x,$xs,*⟩)
local macro_rules|`(tactic|erw[$[$r:term],*]$[$l:location]?)=>`(tactic|simp only[$[$r:term],*]$[$l]?)
local macro_rules|`(tactic|ext $[$r:ident]*)=>`(tactic|rename_i $[$r:ident]*)
set_option hygiene true
noncomputable section
variable {a p:PySem.Addr}{u:PySem.Value}{P prog:PySem.Program}{w:PySem.World}{h' base:PySem.Heap}{x qual:PySem.Str}{e tg iter:PySem.Expr}{pins:List (PySem.Addr × PySem.Obj)}{s:PySem.Shared}{t' i j n:Nat}{ch fp r:List PySem.Addr}{N:List PySem.Str}{M:PySem.Model}{A:PySem.Around}{E Q:PySem.Value -> PySem.Shared -> zy}{α:Type}{R:PySem.Result -> PySem.Shared -> zy}{pos pos' apos:PySem.Pos}{op:PySem.CmpOp}{K:PySem.W.Frag}{st:PySem.Stmt}{es ifs:List PySem.Expr}{vs us:List PySem.Value}{f:PySem.Value -> PySem.Value -> PySem.Sem PySem.Value}{mA mg:PySem.Str -> Option PySem.Value}{fd:PySem.FuncData}{ps:List (Int × Int)}{outer:List PySem.Env}{pH:Array (Option PySem.Value)}{items:Array PySem.Value}{ns:List Int}{cl:Nat -> PySem.Addr}{bo:Bool}
open PySem renaming wpAny_bind->ae,wpAny_pure->ak,sizeLine_eq->bj,wpAny_mono->eT,wpAny_field->kH,wpAny_holding->kX,mem_of_lookup->nS,wpAny_call_entry->pI,strLen_append->pJ,wpAny_newObj_type->qi,wpAny_rule->rF,wpAny_truthy_bool->su,wpAny_Call_Name_kw->sv,wpAny_seqItems->ue,wpAny_setField_rec->uf,wpAny_callSpecial?_slot->uZ,wpAny_typeOf->wy,wpAny_newList->wz,not_mem_of_deeper->wB,wpAny_passesOwn->xX,codeAny_mono->xY,call_meets->xZ,wpAny_attempt->ya,tupleKind_room_in1->yb,call_meetsIn->yc,wpAny_onRaise->yd,wpAny_execs_nil->EJ,wpAny_standAt->EK,pushCells_keeps->EL,wpAny_setField->EM,wpAny_eqBool_int->KD,wpAny_Name->KG,wpAny_load->KH,wpAny_pyIter_list->KI,concat_meets->KJ,noFill_tuple_add->KL,seq_tuple_add->KN,evalPart_none->KO,seqIndex_of->KR,codeAny_builtin->KS,wpAny_Call_method->KU,call_repr_slot->KW,wpAny_updateSeq_pair->KY,wpAny_letGo->KZ,wpAny_newTuple->K0,wpAny_pyIter_tuple->K3,wpAny_typeNameOfWhole_keyiter->K4,wpAny_typeNameOf_keyiter->K5,wpAny_isOneOf_keyiter->K6,piled_cons->K7,wpAny_Compare1->Xo,wpAny_isTrue_Compare1->Xp,wpAny_execs_cons->Xq,wpAny_assign_Name->Xr,wpAny_bindName->Xt,intBits_le_64->Xu,name_of_addr->Xv,codeAny_call_function->Xw,wpAny_newFunctionEnv_cells->Xx,codeAny_func->Xy,wpAny_forIn_list->Xz,richCompare_meets_room->XA,wpAny_sequenceKey->XB,evalPart_some->XC,wpAny_Slice->XD,wpAny_getItem_list_slice->XF,call_list_seq->XG,fitsIndex_both->XH,wpAny_comprehension_free->XI,codeAny_compStart_list->XJ,codeAny_call_builtin->XM,wpAny_Dict_empty->XO,tupleText_mem_le->XQ,listText_mem_le->XR,listText_nil->XS,dictText_mem_le->XT,wpAny_of_eq->XU,wpAny_handled->XX,wpAny_throw->XY,wpAny_pyIter_slot->XZ,wpAny_isInstance->X0,isSubtype_stop->X1,wpAny_pyIter_keyiter->X2,wpAny_dictEntries->X3,wpAny_dictEpoch->X4,wpAny_fieldsOf->X5
open Nat renaming le_refl->au,le_trans->bU,ne_of_lt->cH,lt_of_lt_of_le->dU,lt_irrefl->eU,le_of_lt->eV,zero_le->kI,le_succ->rG,sub_self->sx,lt_succ_self->sy,le_of_not_lt->u9,le_add_right->vb,le_of_eq->wC,lt_or_ge->wD,ne_of_gt->ye,lt_of_le_of_lt->yf,lt_succ_of_lt->yh,lt_trans->EN,sub_zero->K8,zero_add->K9,max_eq_right->X6,min_eq_left->X7,add_sub_cancel->X8,le_succ_of_le->X9
open List renaming map_cons->az,length_map->aY,length_cons->bg,map_map->bw,mem_cons_of_mem->bD,size_toArray->bE,mem_cons_self->bF,length_append->dj,getElem?_append_right->dI,getElem?_append_left->dJ,lookup_cons->eW,length_nil->kJ,mem_append_right->kY,find?_cons->kZ,mem_cons->bA,all_eq_true->cS,nil_append->nz,getElem?_set_self->nT,getElem?_map->nU,length_set->nV,zip_cons_cons->pK,prefix_refl->pL,getElem?_eq_getElem->pM,filterMap_cons->qj,all_cons->qk,map_congr_left->qm,mem_append_left->qH,any_cons->qI,not_mem_nil->qJ,getElem?_set_ne->rH,append_assoc->rJ,exists_cons_of_length_pos->rK,append_nil->sC,getElem?_eq_none->sD,forIn_nil->sF,pairwise_map->nW,map_nil->ug,mem_map_of_mem->uh,mem_of_getElem?->vc,forIn_cons->vd,filter_cons_of_neg->ve,filter_cons_of_pos->vf,all_map->vg,set_append->vh,prefix_append->wF,take_length->wG,zipIdx_nil->wH,length_take->yi,zip_nil_left->yj,filterMap_map->yk,nodup_append->wI,length_filter_le->ym,map_id->yn,of_mem_zip->EO,zip_nil_right->ER,reverse_cons->ES,replicate_succ->ET,flatten_cons->EU,nodup_cons->rL,cons_append->EV,mem_singleton->qo,getElem_mem->EW,mergeSort_perm->EX,filter_cons->EY,zipIdx_cons->EZ,mapM_toArray->E2,eq_nil_of_length_eq_zero->E3,any_map->E4,any_eq_true->rM,any_eq_false->Qa,length_replicate->Qb,length_drop->Qc,length_range->Qd,ext_getElem?->Qe,pairwise_mergeSort->Qf,map_snd_zip->Qg,map_append->Qh,mem_map->bJ,set_append_left->Qi,mem_filter->qK,find?_isSome->Qj,filterMap_nil->Qk,getElem?_replicate->Ya,getElem?_take_of_lt->Yb,countP_cons->Yc,take_zero->Yd,filterMap_eq_map->Ye,forIn_toArray->Yf,mapM_nil->Yg,mapM_cons->Yh,getElem?_cons_zero->Yi,set_set->Yj,filter_map->Yk,mem_of_find?_eq_some->Yl,find?_some->Ym,take_append->Yn,foldl_cons->Yo,any_nil->Yp,head?_cons->Yq
open Bool renaming and_eq_true->aD,false_ne_true->cT,eq_iff_iff->pN,not_eq_true'->pO,or_eq_true->vi,and_self->yo,false_and->E5,false_eq_true->E6,false_or->Ql,true_and->Qm,true_or->Yr,or_eq_false_iff->Ys,and_eq_false_iff->Yt
open PySem.Heap renaming get?_push_of_some->aT,lt_size->a8,get?_push_size->cg,size_push->sH,get?_none_of_le->Qn,get?_update_self->Qo,get?_update_other->Yu,size_update->Yv,get?_update_ne->Yw
open Option renaming bind_some->cj,map_some->nX,isSome_map->sI,getD_none->Qp,getD_some->Qq
open PyProof.Rows renaming wpS_bind->cq,wpS_pure->dM,boot_isinstance->kq,listItems_at->sJ,wpS_get->wJ,wpS_forRange->wK,mem_zip_self->yq,callWith_type1->E7,slot_tuple_getitem->wL,listUpdate_at->E8,kind_sorted->E9,plain_sorted->Ha,entry_sorted->Hb,args_sorted1->Hc,size_push'->Hd,slot_list_sort->He,entry_list_sort->Hf,args_list_sort->Hg,mirror_perm->Hh,wpS_reverse->Hi,wpS_mono->Hj,assignInOrder_cons->Qr,lt_int->Qs,tail_any->Qt,sortedAll_at->Qu,sortedAll_old->Qv,wpS_lift->Qw,wpS_modify->Qx,pairsOf_toList->Qy,seqEpoch_at->Qz,pairsOf_size->QA,sortedHeap_old->QB,assignInOrder_nil->Yx,slicePart_none->Yy,entry_tuple_getitem->Yz,args_tuple_getitem->YA,tupleItemsOf_->YB,subscriptTail_builtinR->YC,get?_update_seq->YD,list_sort_tree->YE,keyKind'_eq->YF,oneTypeOnly'_eq->YG,mapM_typeOf_ints->YH,sortedHeap_at->YI,boot_sorted->YJ,callWith_builtin1->acA,evalArgs_empty->acB
open PySem.W renaming kia_one->qp,cellsFrom_some->QC,looks_findIn->QD,looks_mroIn->QE,mg_none_of->QF,kitx_list->YK,kitx_dict->YL,callWith_K->YM,codeRec_of->YN,mg_of->YO
open Int renaming toNat_natCast->ui,eq_ofNat_of_zero_le->Hk,ediv_one->YQ,zero_add->YR,le_refl->YS
open PySem.Calls renaming spliced_nil->vj,spliced_cons->vk,callWith_builtin->Hl,evalArgs_plain->Hm,call_function_entry->Hn
open PySem.F renaming plainAttrs_list->wM,slot_tuple_iterator_next->Ho,slot_zip_next->yr,slot_tuple_add->QG,entry_tuple_add->QH,args_tuple_add_2->QI,slot_dict_get->QJ,plainAttrs_dict->QK,slot_tuple_lt->YT,entry_tuple_lt->YU,args_tuple_lt_2->YV,slot_dict_delitem->YW,slot_dict_pop->YX,entry_dict_get->YY,args_dict_get_2->YZ,slot_list_append->Y0,type_list_append->Y1,entry_tuple_iterator_next->Y2,args_tuple_iterator_next_1->Y3,slot_zip_iter->Y4,entry_zip_next->Y5,args_zip_next_1->Y6,slot_list_insert->Y7,slot_dict_iter->Y8,slot_dict_keyiterator_next->QL,slot_dict_items->Y9
open PyProof.Rows.KeyOrd renaming kle_refl->wN,kle_trans->Hq,kle_of_klt->Hr,kle_antisymm->Za
open Array renaming length_toList->Ht,getElem?_toList->Hu,getElem_toList->Zb,getElem?_eq_none->Zc
open PySem.Obj renaming data_mapFields->Hv,isFreed_of_fields->Zd,cls_mapFields->Ze
open PySem.SeqAt.EqAt renaming int_int->QM,str_str->QN,int_str->Zf,str_int->Zg,none_bool->acC,none_int->acD,none_str->acE,bool_none->acF,bool_bool->acG,bool_int->acH,bool_str->acI,int_none->acJ,int_bool->acK,str_none->acL,str_bool->acM
open PySem.PyData renaming shownKv_eq->QO
open List.Pairwise renaming imp_of_mem->QP
open PySem.Around renaming frames_deeper->Zh
open PySem.AutoSeq1 renaming sub_tuple_tuple->Zi,list_insert_list_int_val_1->acN
open PySem.Code renaming quiet_builtin->Zj
open PySem.ReprEntriesK renaming of_two->Zk
open PySem.EqNone renaming eq_none_none->acO,eq_none_bool->acP,eq_none_int->acQ,eq_none_str->acR,eq_bool_none->acS,eq_int_none->acT,eq_str_none->acU,ne_none_none->acV,ne_none_bool->acW,ne_none_int->acX,ne_none_str->acY,ne_bool_none->acZ,ne_int_none->ac0,ne_str_none->ac1
open PySem.EqMixed renaming eq_bool_str->ac2,eq_int_str->ac3,eq_str_bool->ac4,eq_str_int->ac5,ne_bool_str->ac6,ne_int_str->ac7,ne_str_bool->ac8,ne_str_int->ac9
open PySem.MeetsSeq renaming list_pop_at->ada
open Function renaming comp_def->adb
open PySem PySem.Spec PyProof.Rows
namespace L2
noncomputable abbrev Key:=Sum Int Str
noncomputable def sL:Key->zx->Bool
 |.inl k,v=>Value.isInt k v
 |.inr x,v=>Value.isStrOf x v
noncomputable def ade (w:World):Key->Int
 |.inl k=>hashInt k
 |.inr x=>hashStr w x
theorem fX:∀ {k:Key}{v:zx},sL k v=zu->(∃ i t,k=Sum.inl i /\ v=Value.int i t) \/ (∃ x t,k=Sum.inr x /\ v=Value.str x t)
 | .inl i,v,h=>by
   let#[t,e]:=Value.isInt_shape (k:=i) (v:=v) h;exact .inl #[i,t,rfl,e]
 | .inr x,v,h=>by
   let#[t,e]:=Value.isStrOf_shape (x:=x) (v:=v) h;exact .inr #[x,t,rfl,e]
theorem Gp (i:Int) (t:Tok):sL (.inl i) (.int i t)=zu:=by simp[sL,Value.isInt]
theorem Gq (x:Str) (t:Tok):sL (.inr x) (.str x t)=zu:=by simp[sL,Value.isStrOf]
theorem Rf (a b:Int):decide ((Sum.inl a:Key)=Sum.inl b)=(a==b):=by
 by_cases e:a=b
 .subst e;simp
 .have h:¬ (Sum.inl a:Key)=Sum.inl b:=λq=>e (Sum.inl.inj q);rw[decide_eq_false h];exact(beq_eq_false_iff_ne.mpr e).symm
theorem Rg (a b:Str):decide ((Sum.inr a:Key)=Sum.inr b)=decide (a=b):=by
 by_cases e:a=b
 .subst e;simp
 .have h:¬ (Sum.inr a:Key)=Sum.inr b:=λq=>e (Sum.inr.inj q);rw[decide_eq_false h,decide_eq_false e]
theorem Rh (a:Int) (b:Str):decide ((Sum.inl a:Key)=Sum.inr b)=zc:=decide_eq_false (λq=>nomatch q)
theorem Ri (a:Str) (b:Int):decide ((Sum.inr a:Key)=Sum.inl b)=zc:=decide_eq_false (λq=>nomatch q)
def cw (prog:Program) (w:World):PySem.KeyKind prog w Key where
 is:=sL
 hash:=ade w
 inj:=λv a b ha hb=>by
  rcases fX ha with⟨i,t,rfl,rfl⟩|⟨x,t,rfl,rfl⟩
  .rcases fX hb with⟨j,u,rfl,e⟩|⟨y,u,rfl,e⟩
   .injection e with e1 _;rw[e1]
   .exact nomatch e
  .rcases fX hb with⟨j,u,rfl,e⟩|⟨y,u,rfl,e⟩
   .exact nomatch e
   .injection e with e1 _;rw[e1]
 byValue:=λk v h=>by
  rcases fX h with⟨i,t,rfl,rfl⟩|⟨x,t,rfl,rfl⟩<;>rfl
 pyHash:=λhv h=>by
  rcases fX hv with⟨i,t,rfl,rfl⟩|⟨x,t,rfl,rfl⟩
  .exact wpAny_pyHash_int h
  .exact wpAny_pyHash_str h
 eqBool:=λhu hv h=>by
  rcases fX hu with⟨i,t,rfl,rfl⟩|⟨x,t,rfl,rfl⟩
  .rcases fX hv with⟨j,u,rfl,rfl⟩|⟨y,u,rfl,rfl⟩
   .rw[Rf]at h;exact KD h
   .rw[Rh]at h;exact Zf i t y u _ _ _ _ h
  .rcases fX hv with⟨j,u,rfl,rfl⟩|⟨y,u,rfl,rfl⟩
   .rw[Ri]at h;exact Zg x t j u _ _ _ _ h
   .rw[Rg]at h;exact wpAny_eqBool_str h
 «strs»:=λk x t v h=>by
  rcases fX h with⟨i,u,rfl,e⟩|⟨y,u,rfl,e⟩
  .exact nomatch e
  .injection e with e1 _;subst e1;cases v<;>rfl
theorem Ch (prog:Program) (w:World) (i:Int) (t:Tok):(cw prog w).is (.inl i) (.int i t)=zu:=Gp i t
theorem Ci (prog:Program) (w:World) (x:Str) (t:Tok):(cw prog w).is (.inr x) (.str x t)=zu:=Gq x t
end L2
variable {xs:List (List L2.Key × PySem.Addr × PySem.Value)}
namespace L2
inductive V where
 |non|bl (b:Bool)|int (i:Int)|str (x:Str)|nY (b:Array UInt8)|sM (b:UInt64)|ref (a:Addr)|ty (n:String)
 deriving DecidableEq
noncomputable def RelV:V->zx->zy
 |.non,u=>u=Value.none
 |.bl b,u=>u=Value.bool b
 |.int i,u=>∃ t,u=Value.int i t
 |.str x,u=>∃ t,u=Value.str x t
 |.nY b,u=>∃ t,u=Value.bytes b t
 |.sM b,u=>∃ t,u=Value.float b t
 |.ref a,u=>u=Value.ref a
 |.ty n,u=>u=Value.type n
abbrev Vals:List V->List zx->zy:=Paired RelV
theorem Vals.length {xs:List V}{us:List zx}(r:Vals xs us):xs.length=us.length:=Paired.length r
theorem Vals.get:∀ {xs:List V}{us:List zx}{i:Nat}{x:V},Vals xs us->xs[i]?=some x->∃ u,us[i]?=some u /\ RelV x u
 |_,_,_,_,.nil,e=>by simp at e
 |_,_,0,_,.cons r _,e=>by simp at e;subst e;exact#[_,rfl,r]
 | _,_,i+1,x,.cons _ t,e=>by
   let#[u,h1,h2]:=Vals.get (i:=i) (x:=x) t (by simpa using e);exact#[u,by simpa using h1,h2]
theorem Vals.set {x:V}{u:zx}(r:RelV x u):∀ {xs:List V}{us:List zx}(i:Nat),Vals xs us->Vals (xs.set i x) (us.set i u)
 |_,_,_,.nil=>.nil
 |_,_,0,.cons _ t=>.cons r t
 |_,_,i+1,.cons q t=>.cons q (Vals.set r i t)
theorem Vals.append:∀ {xs ys:List V}{us ws:List zx},Vals xs us->Vals ys ws->Vals (xs++ys) (us++ws)
 |_,_,_,_,.nil,s=>s
 |_,_,_,_,.cons r t,s=>.cons r (Vals.append t s)
theorem Vals.take:∀ {xs:List V}{us:List zx}(n:Nat),Vals xs us->Vals (xs.take n) (us.take n)
 |_,_,0,_=>.nil
 |_,_,_+1,.nil=>.nil
 |_,_,n+1,.cons r t=>.cons r (Vals.take n t)
theorem Vals.drop:∀ {xs:List V}{us:List zx}(n:Nat),Vals xs us->Vals (xs.drop n) (us.drop n)
 |_,_,0,r=>r
 |_,_,_+1,.nil=>.nil
 |_,_,n+1,.cons _ t=>Vals.drop n t
def nZ:Option V->Option zx->zy
 |some v,some u=>RelV v u
 |none,none=>True
 |_,_=>False
def KV {κ:Type}:List (κ×V)->List (κ×zx)->zy:=Paired λ(p:κ×V) (q:κ×Value)=>p.1=q.1 /\ RelV p.2 q.2
noncomputable def kV:Key->V
 |.inl i=>.int i
 |.inr x=>.str x
inductive HO where
 /-- a list -/
 |lst (xs:List V)
 /-- a tuple (never changes) -/
 |tup (xs:List V)
 /-- a dict whose keys are ints and texts;one whose keys are tuples of ints and texts (the empty one is both) -/
 |dK (kvs:List (Key×V))|dT (kvs:List (List Key×V))
 /-- a set of ints: its members,its size -/
 |set (S:Int->Bool) (n:Nat)
 /-- an instance of the class at C,its dict at dx,its attributes -/
 |ins (C dx:Addr) (fs:List (Str×V))
 /-- the dict of the instance at x -/
 |own (x:Addr)
 /-- the dict of an exception -/
 |xd (fs:List (Str×V))
 /-- a bound method,f of x -/
 |met (f x:Addr)
 /-- a range object lo,lo+1,.. below hi -/
 |wO (lo hi:Int)
 /-- a thing that is known to the object (the ah1;a dict while a loop walks it): read,never written while it is so -/
 |bh (o:Obj) (u:HO)
 /-- a code ah2 table -/
 |qL (ps:Array zx)
 /-- any other thing,by what is zu of its one object (a def of ah3 own: ah4 a S n:=HO.ext λh=>..) -/
 |ext (φ:Heap->zy)
noncomputable abbrev Hp:=Addr->Option HO
noncomputable def upd (H:Hp) (a:Addr) (o:HO):Hp:=λb=>if b=a then some o else H b
theorem fv {H:Hp}{o:HO}:upd H a o a=some o:=by unfold upd;rw[if_pos rfl]
theorem fw {H:Hp}{b:Addr}{o:HO}(h:b≠a):upd H a o b=H b:=by unfold upd;rw[if_neg h]
theorem TL {H:Hp}{b:Addr}{o u:HO}(h:H a=some o) (h':H b=some u) (d:o≠u):a≠b:=by
 intro e;subst e;rw[h]at h';exact d (Option.some.inj h')
theorem fJ {H:Hp}{b:Addr}{o:HO}(h:H a=some o) (h':H b=zp):a≠b:=by
 intro e;subst e;rw[h]at h';cases h'
section
variable (P:Program) (w:World)
noncomputable def a9 (H:Hp) (h:Heap) (a:Addr):HO->zy
 |.lst xs=>xs.length<=sizeLine /\ ∃ (its:List zx) (n:Nat),Vals xs its /\ h.get? a=some { cls:=.type "list",data:=.seq its.toArray n }
 |.tup xs=>xs.length<=sizeLine /\ ∃ its:List zx,Vals xs its /\ IsTup h a its.toArray
 |.dK kvs=>kvs.length<=sizeLine /\ (a==sysModules)=zc /\ ∃ vs,KV kvs vs /\ h.DictOf (cw P w) a vs
 |.dT kvs=>kvs.length<=sizeLine /\ (a==sysModules)=zc /\ ∃ xs:List (List Key×Addr×zx),
  Paired (λ(p:List Key×V) (q:List Key×Addr×Value)=>p.1=q.1 /\ H q.2.1=some (.tup (p.1.map kV)) /\ RelV p.2 q.2.2) kvs xs /\
  ∃ o es ep,h.get? a=some o /\ o.ExactDict /\ o.data=.dict es ep /\ es.toList=xs.map (entryOfKey (tupleKind (cw P w))) /\ (xs.map (·.1)).Nodup
 |.set S n=>h.SetOf (intKind P w) a S n
 |.ins C dx fs=>H dx=some (.own a) /\ fs.length<=1000 /\ dx≠a /\ h.get? a=some (PySem.W.instObj C dx) /\
  ∃ mA,h.Ns1 dx mA /\ (∀ f,nZ (fs.lookup f) (mA f)) /\ PySem.Within mA (fs.map (·.1))
 |.own _=>∃ o,h.get? a=some o
 |.xd fs=>∃ mA,h.Ns1 a mA /\ ∀ f,nZ (fs.lookup f) (mA f)
 |.wO lo hi=>∃ t u v,h.get? a=some { cls:=.type "range",data:=.fields (List.toArray [.int lo t,.int hi u,.int 1 v]) }
 |.bh o u=>h.get? a=some o /\ a9 H h a u
 |.qL ps=>h.get? a=some { cls:=.none,data:=.fields ps }
 |.met f x=>h.get? a=some (PySem.W.methodObj (.ref f) (.ref x))
 |.ext φ=>φ h /\ (∃ o,h.get? a=some o) /\ ∀ h1 h2:Heap,φ h1->(∀ o,h1.get? a=some o->h2.get? a=some o)->φ h2
def ck (H:Hp) (h:Heap):zy:=∀ a o,H a=some o->a9 P w H h a o
end
section
variable {H H':Hp} {h:Heap} {o:HO}
theorem a9.lt (x:a9 P w H h a o):a<h.objs.size:=by
 cases o with
 |lst xs=>let#[_,_,_,_,e]:=x;exact a8 e
 |tup xs=>let#[_,_,_,p]:=x;exact p.lt
 |dK kvs=>let#[_,_,_,_,o,_,_,e,_]:=x;exact a8 e
 |dT kvs=>let#[_,_,_,_,o,_,_,e,_]:=x;exact a8 e
 |set S n=>let#[o,_,_,_,e,_]:=x;exact a8 e
 |ins C dx fs=>let#[_,_,_,e,_]:=x;exact a8 e
 |own y=>let#[_,e]:=x;exact a8 e
 |xd fs=>let#[_,#[_,_,_,e,_],_]:=x;exact a8 e
 |wO lo hi=>let#[_,_,_,e]:=x;exact a8 e
 |bh ob u=>let#[e,_]:=x;exact a8 e
 |qL ps=>exact a8 (show h.get? a=some _ from x)
 |met f y=>exact a8 (show h.get? a=some _ from x)
 |ext φ=>let#[_,#[_,e],_]:=x;exact a8 e
theorem Paired.QR {α β:Type}{F G:α->β->zy}:∀ {l₁:List α}{l₂:List β},Paired F l₁ l₂->(∀ a b,F a b->G a b)->Paired G l₁ l₂
 |_,_,.nil,_=>.nil
 |_,_,.cons r t,f=>.cons (f _ _ r) (Paired.QR t f)
theorem a9.eG (x:a9 P w H h a o) (k:∀ b u,(b=a \/ H b=some (.own a))->h.get? b=some u->h'.get? b=some u)
 (ho:∀ b,H b=some (.own a)->H' b=some (.own a)) (ht:∀ b xs,H b=some (.tup xs)->H' b=some (.tup xs)):a9 P w H' h' a o:=by
 induction o with
 |lst xs=>let#[z,its,n,r,e]:=x;exact#[z,its,n,r,k _ _ (.inl zw) e]
 |tup xs=>let#[z,its,r,ob,e,c]:=x;exact#[z,its,r,ob,k _ _ (.inl zw) e,c]
 |dK kvs=>let#[z,y,vs,r,ob,es,ep,e,c]:=x;exact#[z,y,vs,r,ob,es,ep,k _ _ (.inl zw) e,c]
 |dT kvs=>
   let#[z,y,xs,r,ob,es,ep,e,c]:=x;exact#[z,y,xs,Paired.QR r λp q z=>#[z.1,ht _ _ z.2.1,z.2.2],ob,es,ep,k _ _ (.inl zw) e,c]
 |set S n=>let#[ob,es,ep,t,e,c]:=x;exact#[ob,es,ep,t,k _ _ (.inl zw) e,c]
 |ins C dx fs=>
   let#[d,z,ne,e,mA,#[od,es,ep,e2,c],r]:=x;exact#[ho _ d,z,ne,k _ _ (.inl zw) e,mA,#[od,es,ep,k _ _ (.inr d) e2,c],r]
 |own y=>let#[ob,e]:=x;exact#[ob,k _ _ (.inl zw) e]
 |xd fs=>let#[mA,#[od,es,ep,e,c],r]:=x;exact#[mA,#[od,es,ep,k _ _ (.inl zw) e,c],r]
 |wO lo hi=>let#[t,u,v,e]:=x;exact#[t,u,v,k _ _ (.inl zw) e]
 |bh ob u ih=>let#[e,q]:=x;exact#[k _ _ (.inl zw) e,ih q]
 |qL ps=>
   have e:h.get? a=some { cls:=.none,data:=.fields ps }:=x;show h'.get? a=some { cls:=.none,data:=.fields ps };exact k a _ (.inl zw) e
 |met f y=>
   have e:h.get? a=some (PySem.W.methodObj (.ref f) (.ref y)):=x;show h'.get? a=some (PySem.W.methodObj (.ref f) (.ref y));exact k a _ (.inl zw) e
 |ext φ=>let#[p,#[o,e],st]:=x;exact#[st _ _ p λo q=>k _ _ (.inl zw) q,#[o,k _ _ (.inl zw) e],st]
theorem ck.lt (x:ck P w H h) (e:H a=some o):a<h.objs.size:=(x a o e).lt
theorem ck.fresh (x:ck P w H h) (e:h.objs.size<=a):H a=zp:=by
 cases q:H a with
 |none=>rfl
 |some u=>exact absurd (dU (x.lt q) e) (eU _)
theorem ck.kept (x:ck P w H h) (k:∀ b u,h.get? b=some u->h'.get? b=some u):ck P w H h':=λa o e=>
 (x a o e).eG (λb u _ q=>k b u q) (λ_ q=>q) λ_ _ q=>q
theorem ck.laid (x:ck P w H h) (k:∀ b u,h.get? b=some u->h'.get? b=some u) (hp:h.objs.size<=a) (new:a9 P w (upd H a o) h' a o):ck P w (upd H a o) h':=λb u e=>by
 have hn:=x.fresh hp;by_cases hb:b=a
 .subst hb;rw[fv]at e;cases e;exact new
 .rw[fw hb]at e;exact(x b u e).eG (λc v _ q=>k c v q) (λc q=>by rw[fw (fJ q hn)];exact q) λc xs q=>by rw[fw (fJ q hn)];exact q
end
def Rd (H:Hp) (a:Addr) (u:HO):zy:=H a=some u \/ ∃ o,H a=some (.bh o u)
theorem Rd.ok {H:Hp}{h:Heap}{u:HO}(r:Rd H a u) (x:ck P w H h):a9 P w H h a u:=by
 rcases r with r|⟨o,r⟩
 .exact x a u r
 .let#[_,q]:=x a _ r;exact q
noncomputable def yt:Option HO->zy
 |some (.lst _)=>True
 |some (.dK _)=>True
 |some (.dT _)=>True
 |some (.set _ _)=>True
 |some (.ins _ _ _)=>True
 |some (.ext _)=>True
 |_=>False
section
variable {H:Hp} {h:Heap} {x e:Addr} {o':HO}
theorem ck.write (ok:ck P w H h) (mu:yt (H x)) (he:e=x \/ H e=some (.own x)) (k:∀ b u,b≠e->h.get? b=some u->h'.get? b=some u) (wQ:∃ u,h'.get? e=some u)
 (new:a9 P w (upd H x o') h' x o'):ck P w (upd H x o') h':=λb u q=>by
 have Zl:∀ c y,H c=some (.own y)->c≠x:=λc y r z=>by subst z;rw[r]at mu;exact mu
 have adf:∀ c xs,H c=some (.tup xs)->c≠x:=λc xs r z=>by subst z;rw[r]at mu;exact mu
 by_cases hb:b=x
 .subst hb;rw[fv]at q;cases q;exact new
 .rw[fw hb]at q;by_cases vm:b=e
  .have q':H b=some (.own x):=by
    rcases he with z|z
    .exact absurd (vm.trans z) hb
    .rw[vm];exact z
   rw[q]at q';cases q';let#[v,hv]:=wQ;exact#[v,by rw[vm];exact hv]
  .refine(ok b u q).eG (λc v hc r=>k c v ?_ r) (λc r=>by rw[fw (Zl c b r)];exact r) λc xs r=>by rw[fw (adf c xs r)];exact r
   rcases hc with rfl|hc
   .exact vm
   .rintro rfl;rcases he with z|z
    .exact Zl c b hc z
    .rw[hc]at z;cases z;exact hb zw
end
structure Un (fs ex:List Addr) (H H':Hp) (h h':Heap):zy where
 keep:∀ b o,h.get? b=some o->H b=zp->b∉fs->b∉ex->h'.get? b=some o
 slot:∀ b o,h.get? b=some o->H b=zp->b∈fs->b∉ex->∃ sl,h'.get? b=some { o with slots:=sl }
 free:∀ b o,h.get? b=some o->H b=zp->b∉ex->H' b=zp
 there:∀ b o,h.get? b=some o->b∉ex->∃ o',h'.get? b=some o'
 ku:∀ b xs,H b=some (.tup xs)->H' b=some (.tup xs)
 kK:∀ b o u,H b=some (.bh o u)->H' b=some (.bh o u)
 nC:∀ b ps,H b=some (.qL ps)->∃ more,H' b=some (.qL (ps++more))
section
variable {fs adg ex Zm:List Addr} {H H1 H2:Hp} {h h1 h2:Heap} {x e:Addr} {o:HO}
theorem Un.any (u:Un fs ex H H1 h h1) {b:Addr}{ob:Obj}(q:h.get? b=some ob) (n:H b=zp) (hx:b∉ex):∃ sl,h1.get? b=some { ob with slots:=sl }:=by
 by_cases hb:b∈fs
 .exact u.slot b ob q n hb hx
 .exact#[ob.slots,u.keep b ob q n hb hx]
theorem Un.kept (k:∀ b u,h.get? b=some u->h'.get? b=some u):Un fs ex H H h h' :=
 #[λb ob q _ _ _=>k b ob q,λb ob q _ _ _=>#[ob.slots,k b ob q],λ_ _ _ n _=>n,λb ob q _=>#[ob,k b ob q],λ_ _ q=>q,λ_ _ _ q=>q,λ_ ps q=>#[#[],by rw[q];simp]]
theorem Un.refl:Un fs ex H H h h:=Un.kept λ_ _ q=>q
theorem Un.laid (k:∀ b u,h.get? b=some u->h'.get? b=some u) (hp:h.objs.size<=a) (hn:H a=zp):Un fs ex H (upd H a o) h h' where
 keep:=λb u q _ _ _=>k b u q
 slot:=λb u q _ _ _=>#[u.slots,k b u q]
 free:=λb u q n _=>by rw[fw (cH (dU (a8 q) hp))];exact n
 there:=λb u q _=>#[u,k b u q]
 ku:=λb xs q=>by rw[fw (fJ q hn)];exact q
 kK:=λb u xs q=>by rw[fw (fJ q hn)];exact q
 nC:=λb ps q=>#[#[],by rw[fw (fJ q hn),q];simp]
theorem Un.write (mu:yt (H x)) (he:e=x \/ H e=some (.own x)) (k:∀ b u,b≠e->h.get? b=some u->h'.get? b=some u) (wQ:∃ u,h'.get? e=some u):Un fs ex H (upd H x o) h h':=by
 have hx:∀ b,H b=zp->b≠x:=λb n z=>by subst z;rw[n]at mu;exact mu
 have hb:∀ b,H b=zp->b≠e:=λb n z=>by
  subst z;rcases he with r|r
  .exact hx b n r
  .rw[n]at r;cases r
 have hm:∀ b u,H b=some u->¬ yt (some u)->b≠x:=λb u q nm z=>by subst z;rw[q]at mu;exact nm mu
 refine#[λb u q n _ _=>k b u (hb b n) q,λb u q n _ _=>#[u.slots,k b u (hb b n) q],λb u q n _=>by rw[fw (hx b n)];exact n,λb u q _=>?_,
  λb xs q=>by rw[fw (hm b _ q λz=>z)];exact q,λb u xs q=>by rw[fw (hm b _ q λz=>z)];exact q,λb ps q=>#[#[],by rw[fw (hm b _ q λz=>z),q];simp]]
 by_cases vm:b=e
 .subst vm;exact wQ
 .exact#[u,k b u vm q]
end
noncomputable def Hw (h:Heap) (H:Hp):List Addr:=(List.range h.objs.size).filter λa=>(H a).isSome
def sN (h:Heap) (H:Hp):Heap:=PySem.W.hideAll h (Hw h H)
theorem Gr (h:Heap) (H:Hp):(sN h H).objs.size=h.objs.size:=PySem.W.hideAll_size _ _
theorem Ju {h:Heap}{H:Hp}{b:Addr}{o:Obj}(e:h.get? b=some o) (n:H b=zp):(sN h H).get? b=some o:=
 PySem.W.hideAll_get _ e λhm=>by
  have q:(H b).isSome=zu:=(qK.mp hm).2;rw[n]at q;simp at q
theorem M7 {h:Heap}{H:Hp}{b:Addr}{o:Obj}(e:(sN h H).get? b=some o):h.get? b=some o /\ H b=zp:=by
 have e':h.get? b=some o:=PySem.W.of_hideAll (Hw h H) e;refine#[e',?_];cases q:H b with
 |none=>rfl
 |some x=>
   have hm:b∈Hw h H:=qK.mpr #[List.mem_range.mpr (a8 e'),by simp[q]];have z:(sN h H).get? b=zp:=PySem.W.hideAll_none (Hw h H) hm;rw[z]at e;cases e
end L2
variable {H H' F F' H0:L2.Hp}{o:L2.HO}{v:L2.V}{kvs:List (List L2.Key × L2.V)}
namespace L2
structure Mod (K:PySem.W.Frag) (mg:Str->Option zx) (base:Heap):zy where
 wR:K.In base
 glob:base.Ns mainGlobals mg
 blt:∃ mb,base.Ns builtinsNs mb /\ ∀ x:Str,x ≠ "__name__"->mb x=bootBuiltins x
 nolimit:base.NoLimit
structure Cx where
 prog:Program
 w:World
 K:PySem.W.Frag
 mg:Str->Option zx
 base:Heap
 A:Around
 N:List Str
 s₀:Shared
 H₀:Hp
 env:Env
 outer:List Env
 stack:List Env
 ex:List Addr
 fn:Str->Bool
 calm:Bool
 pn:List (Addr×Obj)
 xe:zx->Shared->zy
noncomputable def dW (l:List Env):List Addr:=l.filterMap (·.frame)
abbrev Cx.fs (X:Cx):List Addr:=dW X.outer
def sO (sc:Scope) (x:Str):zy:=sc.names.lookup x=some .local \/ sc.names.lookup x=some .cell \/ sc.names.lookup x=some .free
def Loc (sc:Scope) (x:Str):zy:=sc.names.lookup x=some .local \/ sc.names.lookup x=some .cell
def Look (env:Env) (h:Heap) (m:Str->Option zx) (x:Str) (u:zx):zy:=
 (env.kindOf x=some .local /\ m x=some u) \/ ((env.kindOf x=some .cell \/ env.kindOf x=some .free) /\ ∃ c,env.cells.lookup x=some c /\ h.IsCell c (some u))
structure Cx.Ok (X:Cx):zy where
 mod:Mod X.K X.mg X.base
 kind:X.env.scope.kind=.function
 glob:X.env.globals=mainGlobals
 blt:X.env.builtins=builtinsNs
 above:X.s₀.heap.objs.size<=X.env.locals
 inj:∀ x y c,X.env.cells.lookup x=some c->X.env.cells.lookup y=some c->x=y
 has:∀ x,(X.env.kindOf x=some .cell \/ X.env.kindOf x=some .free)->∃ c,X.env.cells.lookup x=some c
 wU:∀ x c,X.fn x=zu->X.env.cells.lookup x=some c->X.s₀.heap.objs.size<=c
 hd:X.calm=zu->X.A.handled=zp
 frames:X.A.frames=some X.stack
 yu:X.stack=X.outer \/ (X.stack=X.env::X.outer /\ X.env.frame=some X.env.locals)
 vn:∀ b∈X.ex,b≠X.env.locals /\ ∀ x c,X.env.cells.lookup x=some c->c≠b
 bs:∀ b o,X.base.get? b=some o->X.s₀.heap.get? b=some o /\ X.H₀ b=zp
 sP:X.base.objs.size<=X.s₀.heap.objs.size
 wV:∀ b o,X.base.get? b=some o->b∉X.ex
 vo:∀ b∈X.ex,b∉X.fs
 k6:X.s₀.heap.FunFrames X.base X.outer
 rN:∀ b∈X.fs,X.H₀ b=zp
structure Inv (X:Cx) (pins:List (Addr×Obj)) (σ:List (Option V)) (H:Hp) (s:Shared):zy where
 ok:X.Ok
 os:s.os=X.s₀.os
 bare:AllBare s.gens
 base:Un X.fs X.ex X.H₀ H X.s₀.heap s.heap
 loc:∃ m,s.heap.Ns X.env.locals m /\ ∀ (i:Nat) (x:Str) (v:V),X.N[i]?=some x->σ[i]?=some (some v)->sO X.env.scope x->∃ u,RelV v u /\ Look X.env s.heap m x u
 cell:∀ x c,X.env.cells.lookup x=some c->∃ v,s.heap.IsCell c v
 free:H X.env.locals=zp
 nD:∀ x c,X.env.cells.lookup x=some c->H c=zp
 pin:∀ p∈X.pn++pins,s.heap.get? p.1=some p.2 /\ H p.1=zp /\ p.1≠X.env.locals /\ p.1∉X.fs /\ ∀ v,p.2.data≠.cell v
 ai:ck X.prog X.w H s.heap
 len:σ.length=X.N.length
section
variable {X:Cx} {σ:List (Option V)} 
theorem Cx.Ok.adh (ok:X.Ok) {b:Addr}{o:Obj}(e:X.base.get? b=some o):b∉X.fs:=λhb=>by
 have:=(ok.k6.mem hb).1;rw[e]at this;cases this
theorem Inv.bs (I:Inv X pins σ H s):∀ b o,X.base.get? b=some o->s.heap.get? b=some o /\ H b=zp:=λb o e=>
 #[I.base.keep b o (I.ok.bs b o e).1 (I.ok.bs b o e).2 (I.ok.adh e) (I.ok.wV b o e),I.base.free b o (I.ok.bs b o e).1 (I.ok.bs b o e).2 (I.ok.wV b o e)]
theorem Inv.bk (I:Inv X pins σ H s):∀ b o,X.base.get? b=some o->s.heap.get? b=some o:=λb o e=>(I.bs b o e).1
theorem Inv.mod (I:Inv X pins σ H s):Mod X.K X.mg X.base:=I.ok.mod
theorem Inv.dX (I:Inv X pins σ H s):X.K.In s.heap:=I.ok.mod.wR.keeps I.bk
theorem Inv.lt (I:Inv X pins σ H s):X.env.locals<s.heap.objs.size:=let ⟨_,hn,_⟩:=I.loc;hn.lt
theorem Inv.sz (I:Inv X pins σ H s):X.s₀.heap.objs.size<=s.heap.objs.size:=bU I.ok.above (eV I.lt)
theorem Inv.adi (I:Inv X pins σ H s) (h:s.heap.objs.size<=a):a∉X.fs:=λhb=>by
 let#[_,o,ho,_]:=I.ok.k6.mem hb;exact absurd (dU (a8 ho) (bU I.sz h)) (eU _)
theorem Inv.sQ (I:Inv X pins σ H s):∀ x c,X.env.cells.lookup x=some c->c≠X.env.locals:=λx c e z=>by
 let#[v,o,ho,hd]:=I.cell x c e;let#[m,#[o',es,ep,qM,adj,_],_]:=I.loc;rw[z,qM]at ho;cases ho;rw[adj]at hd;cases hd
theorem Inv.k6 (I:Inv X pins σ H s):s.heap.FunFrames X.base X.outer:=by
 have all:∀ (l:List Env),(∀ b∈dW l,b∈X.fs)->X.s₀.heap.FunFrames X.base l->s.heap.FunFrames X.base l:=by
  intro l;induction l with
  |nil=>intro _ _;trivial
  |cons env r ih=>
    intro hs hl;let#[hk,#[L,o,hf,hn,ho,hd],hr]:=hl;have hL:L∈X.fs:=hs L (by unfold dW;rw[qj,hf];exact bF);let#[sl,e]:=I.base.slot L o ho (I.ok.rN L hL) hL λz=>I.ok.vo L z hL;exact#[hk,#[L,_,hf,hn,e,hd],ih (λb hb=>hs b (by unfold dW;rw[qj,hf];exact bD _ hb)) hr]
 exact all X.outer (λ_ hb=>hb) I.ok.k6
theorem Inv.stack (I:Inv X pins σ H s):s.heap.FunFrames X.base X.stack:=by
 rcases I.ok.yu with e|⟨e,hf⟩
 .rw[e];exact I.k6
 .rw[e];let#[m,hn,_]:=I.loc;refine .cons (by rw[I.ok.kind];decide) hf hn ?_ I.k6;exact Qn (bU I.ok.sP I.ok.above)
theorem Inv.wW (I:Inv X pins σ H s):∀ b∈dW X.stack,b∈X.env.locals::X.fs:=λb hb=>by
 rcases I.ok.yu with e|⟨e,hf⟩
 .rw[e]at hb;exact bD _ hb
 .rw[e]at hb;unfold dW at hb;rw[qj,hf]at hb;exact hb
theorem Inv.QS (I:Inv X pins σ H s):∀ b∈dW X.stack,H b=zp:=λb hb=>by
 rcases bA.mp (I.wW b hb) with e|hb
 .rw[e];exact I.free
 .let#[_,o,ho,_]:=I.ok.k6.mem hb;exact I.base.free b o ho (I.ok.rN b hb) λz=>I.ok.vo b z hb
theorem Inv.step {g':Array GenState}{d':Drawn}(I:Inv X pins σ H s)
 (rO:∀ b∈ch,(b∈X.ex \/ X.s₀.heap.objs.size<=b) /\ b≠X.env.locals /\ (∀ x c,X.env.cells.lookup x=some c->c≠b) /\ ∀ p∈X.pn++pins,p.1≠b)
 (keep:∀ b o,b≠X.env.locals->b∉X.fs->b∉ch->s.heap.get? b=some o->H b=zp->h'.get? b=some o)
 (slot:∀ b o,b≠X.env.locals->b∈X.fs->b∉ch->s.heap.get? b=some o->H b=zp->∃ sl,h'.get? b=some { o with slots:=sl }) (free:∀ b o,b∉ch->s.heap.get? b=some o->H b=zp->H' b=zp)
 (there:∀ b o,b∉ch->s.heap.get? b=some o->∃ o',h'.get? b=some o')
 (ku:∀ b xs,H b=some (.tup xs)->H' b=some (.tup xs)) (kK:∀ b o u,H b=some (.bh o u)->H' b=some (.bh o u)) (nC:∀ b ps,H b=some (.qL ps)->∃ more,H' b=some (.qL (ps++more)))
 (ns:∀ m,s.heap.Ns X.env.locals m->h'.Ns X.env.locals m) (ai:ck X.prog X.w H' h') (hg:AllBare g') :
 Inv X pins σ H' { s with heap:=h',gens:=g',drawn:=d',toks:=t' }:=by
 have Zn:∀ b o,X.s₀.heap.get? b=some o->b≠X.env.locals:=λb o e=>cH (dU (a8 e) I.ok.above);have qr:∀ b o,X.s₀.heap.get? b=some o->b∉X.ex->b∉ch:=λb o e hx hb=>by
  rcases(rO b hb).1 with z|z
  .exact hx z
  .exact absurd (dU (a8 e) z) (eU _)
 have cellK:∀ x c,X.env.cells.lookup x=some c->∀ v,s.heap.IsCell c v->h'.IsCell c v:=λx c e v ⟨o,ho,hd⟩=>by
  have qN:c∉ch:=λz=>(rO c z).2.2.1 x c e zw;by_cases hc:c∈X.fs
  .let#[sl,q]:=slot c o (I.sQ x c e) hc qN ho (I.nD x c e);exact#[_,q,hd]
  .exact#[o,keep c o (I.sQ x c e) hc qN ho (I.nD x c e),hd]
 refine#[I.ok,I.os,hg,#[λb o e n hb hx=>?_,λb o e n hb hx=>?_,λb o e n hx=>?_,λb o e hx=>?_,λb xs e=>ku b xs (I.base.ku b xs e),λb o xs e=>kK b o xs (I.base.kK b o xs e),λb ps e=>?_],?_,λx c e=>?_,?_,λx c e=>?_,λp hp=>?_,ai,I.len]
 .exact keep b o (Zn b o e) hb (qr b o e hx) (I.base.keep b o e n hb hx) (I.base.free b o e n hx)
 .let#[sl,e1]:=I.base.slot b o e n hb hx;let#[wX,e2]:=slot b _ (Zn b o e) hb (qr b o e hx) e1 (I.base.free b o e n hx);exact#[wX,e2]
 .let#[o',e1]:=I.base.there b o e hx;exact free b o' (qr b o e hx) e1 (I.base.free b o e n hx)
 .let#[o',e1]:=I.base.there b o e hx;exact there b o' (qr b o e hx) e1
 .let#[m1,e1]:=I.base.nC b ps e;let#[m2,e2]:=nC b _ e1;exact#[m1++m2,by rw[e2,Array.append_assoc]]
 .let#[m,hn,hl]:=I.loc;refine#[m,ns m hn,λi x v e1 e2 e3=>?_];let#[u,r,l]:=hl i x v e1 e2 e3;refine#[u,r,?_];rcases l with l|⟨k,c,e,z⟩
  .exact .inl l
  .exact .inr #[k,c,e,cellK x c e _ z]
 .let#[v,z]:=I.cell x c e;exact#[v,cellK x c e v z]
 .let#[m,#[o,_,_,ho,_],_]:=I.loc;exact free _ o (λz=>(rO _ z).2.1 zw) ho I.free
 .let#[v,o,ho,hd]:=I.cell x c e;exact free c o (λz=>(rO c z).2.2.1 x c e zw) ho (I.nD x c e)
 .let#[e,n,ne,nf,d]:=I.pin p hp;have qN:p.1∉ch:=λz=>(rO p.1 z).2.2.2 p hp zw;exact#[keep p.1 p.2 ne nf qN e n,free p.1 p.2 qN e n,ne,nf,d]
theorem Inv.un (I:Inv X pins σ H s) (u:Un X.fs [] H H' s.heap h') (ai:ck X.prog X.w H' h'):Inv X pins σ H' { s with heap:=h',toks:=t' }:=by
 let#[m,#[o,es,ep,ho,r],_]:=id I.loc;let#[sl,hL]:=u.any ho I.free zq;exact I.step (g':=s.gens) (d':=s.drawn) (ch:=[]) (λ_ z=>nomatch z) (λb o _ hb _ e n=>u.keep b o e n hb zq) (λb o _ hb _ e n=>u.slot b o e n hb zq) (λb o _ e n=>u.free b o e n zq) (λb o _ e=>u.there b o e zq) u.ku u.kK u.nC (λm' hm=>by
  let#[o',Hy,Hz,qM,r']:=hm;rw[ho]at qM;cases qM;exact#[_,Hy,Hz,hL,r']) ai I.bare
theorem Inv.call {g':Array GenState}{d':Drawn}(I:Inv X pins σ H s) (u:Un (dW X.stack) ch H H' s.heap h') (ai:ck X.prog X.w H' h') (hg:AllBare g')
 (rO:∀ b∈ch,(b∈X.ex \/ X.s₀.heap.objs.size<=b) /\ b≠X.env.locals /\ (∀ x c,X.env.cells.lookup x=some c->c≠b) /\ ∀ p∈X.pn++pins,p.1≠b) :
 Inv X pins σ H' { s with heap:=h',gens:=g',drawn:=d',toks:=t' }:=by
 let#[m,#[o,es,ep,ho,r],_]:=id I.loc;let#[sl,hL]:=u.any ho I.free λz=>(rO _ z).2.1 zw;exact I.step (ch:=ch) rO (λb o hL hb hc e n=>u.keep b o e n (λz=>(bA.mp (I.wW b z)).elim hL hb) hc) (λb o _ _ hc e n=>u.any e n hc) (λb o hc e n=>u.free b o e n hc) (λb o hc e=>u.there b o e hc) u.ku u.kK u.nC (λm' hm=>by
  let#[o',Hy,Hz,qM,r']:=hm;rw[ho]at qM;cases qM;exact#[_,Hy,Hz,hL,r']) ai hg
theorem Inv.turned {it:Addr}(I:Inv X pins σ H s) (k:∀ b o,b≠it->s.heap.get? b=some o->h'.get? b=some o) (hn:H it=zp) (hL:it≠X.env.locals)
 (h1:it∈X.ex \/ X.s₀.heap.objs.size<=it) (h2:∀ x c,X.env.cells.lookup x=some c->c≠it) (h3:∀ p∈X.pn++pins,p.1≠it):Inv X pins σ H { s with heap:=h',toks:=t' }:=by
 have Zo:∀ b u,H b=some u->b≠it:=λb u e z=>by rw[z,hn]at e;cases e
 refine I.step (g':=s.gens) (d':=s.drawn) (ch:=[it]) (λb hb=>?_) (λb o _ _ hc e _=>k b o (λz=>hc (by simp[z])) e) (λb o _ _ hc e _=>#[o.slots,k b o (λz=>hc (by simp[z])) e]) (λ_ _ _ _ n=>n)
  (λb o hc e=>#[o,k b o (λz=>hc (by simp[z])) e]) (λ_ _ e=>e) (λ_ _ _ e=>e) (λb ps e=>#[#[],by rw[e];simp]) (λm hm=>?_) (λb u e=>?_) I.bare
 .have e:b=it:=by simpa using hb
  subst e;exact#[h1,hL,h2,h3]
 .let#[o,es,ep,ho,r]:=hm;exact#[o,es,ep,k _ o (Ne.symm hL) ho,r]
 .refine(I.ai b u e).eG (λc v hc q=>k c v ?_ q) (λ_ q=>q) λ_ _ q=>q;rcases hc with z|z
  .rw[z];exact Zo b u e
  .exact Zo c _ z
theorem Inv.tok (I:Inv X pins σ H s) (t:Nat):Inv X pins σ H { s with toks:=t }:=I.un (h':=s.heap) (t':=t) Un.refl I.ai
theorem Inv.kept {t':Nat}(I:Inv X pins σ H s) (k:∀ b u,s.heap.get? b=some u->h'.get? b=some u):Inv X pins σ H { s with heap:=h',toks:=t' }:=I.un (Un.kept k) (I.ai.kept k)
theorem Inv.laid {a:Addr}{o:HO}{t':Nat}(I:Inv X pins σ H s) (k:∀ b u,s.heap.get? b=some u->h'.get? b=some u) (hp:s.heap.objs.size<=a) (new:a9 X.prog X.w (upd H a o) h' a o) :
 Inv X pins σ (upd H a o) { s with heap:=h',toks:=t' }:=I.un (Un.laid k hp (I.ai.fresh hp)) (I.ai.laid k hp new)
theorem Inv.write {x e:Addr}{o:HO}{t':Nat}(I:Inv X pins σ H s) (mu:yt (H x)) (he:e=x \/ H e=some (.own x)) (k:∀ b u,b≠e->s.heap.get? b=some u->h'.get? b=some u) (wQ:∃ u,h'.get? e=some u)
 (new:a9 X.prog X.w (upd H x o) h' x o):Inv X pins σ (upd H x o) { s with heap:=h',toks:=t' }:=I.un (Un.write mu he k wQ) (I.ai.write mu he k wQ new)
theorem Inv.QT {uj:List (Addr×Obj)}(I:Inv X pins σ H s) (h:∀ p∈uj,s.heap.get? p.1=some p.2 /\ H p.1=zp /\ p.1≠X.env.locals /\ p.1∉X.fs /\ ∀ v,p.2.data≠.cell v):Inv X uj σ H s:=
 #[I.ok,I.os,I.bare,I.base,I.loc,I.cell,I.free,I.nD,λp hp=>(List.mem_append.mp hp).elim (λz=>I.pin p (qH _ z)) (h p),I.ai,I.len]
theorem o8 (hN:N.Nodup) (a:N[i]?=some x) (b:N[j]?=some x):i=j:=by
 let#[h1,e1]:=List.getElem?_eq_some_iff.mp a;let#[h2,e2]:=List.getElem?_eq_some_iff.mp b;exact(List.getElem_inj hN).mp (e1.trans e2.symm)
theorem A3 {Q:Unit->Shared->zy}(I:Inv X pins σ H s) (hN:X.N.Nodup) (hi:X.N[i]?=some x) (hx:Loc X.env.scope x) (r:RelV v u)
 (h:∀ s',Inv X pins (σ.set i (some v)) H s'->(∃ a,Heap.SameBut a s.heap s'.heap /\ (a=X.env.locals \/ X.env.cells.lookup x=some a))->Q () s') (hf:X.fn x=zu \/ X.env.scope.names.lookup x=some .local:=by first|exact .inl zw|exact .inr zw|assumption):wpAny M A (storeName X.env x u) Q E s:=by
 let#[m,hn,hl]:=id I.loc;have adk:(X.env.scope.kind==.class||(X.env.scope.kind==.module&&X.env.locals != X.env.globals))=zc:=by rw[I.ok.kind];rfl
 have Zp:i<σ.length:=by rw[I.len];exact(List.getElem?_eq_some_iff.mp hi).1
 have sQ:=I.sQ;have tracked:∀ {a:Addr}{h':Heap},(∃ o,s.heap.get? a=some o /\ H a=zp)->Heap.SameBut a s.heap h'->ck X.prog X.w H h':=λ{a h'} ha hs b ob e=>by
  let#[_,_,Zq]:=ha;refine(I.ai b ob e).eG (λc w' hc q=>(hs.2 c ?_).trans q) (λ_ q=>q) λ_ _ q=>q;rintro rfl;rcases hc with rfl|hc
  .rw[Zq]at e;cases e
  .rw[Zq]at hc;cases hc
 rcases hx with hk|hk
 .refine wpAny_storeName_local hk hn (λh' QU hs=>?_) adk;let#[oL,_,_,qt,_]:=id hn;refine h _ #[I.ok,I.os,I.bare,#[λb o e n hb hx=>?_,λb o e n hb hx=>?_,I.base.free,λb o e hx=>?_,I.base.ku,I.base.kK,I.base.nC],#[_,QU,λj y v' e1 e2 e3=>?_],λy c e=>?_,I.free,I.nD,λp hp=>?_,tracked #[oL,qt,I.free] hs,by simpa using I.len] #[_,hs,.inl zw]
  .exact(hs.2 b (cH (dU (a8 e) I.ok.above))).trans (I.base.keep b o e n hb hx)
  .let#[sl,e1]:=I.base.slot b o e n hb hx;exact#[sl,(hs.2 b (cH (dU (a8 e) I.ok.above))).trans e1]
  .let#[o',e1]:=I.base.there b o e hx;exact#[o',(hs.2 b (cH (dU (a8 e) I.ok.above))).trans e1]
  .by_cases hj:j=i
   .subst hj;rw[hi]at e1;cases e1;rw[nT Zp]at e2;cases e2;exact#[u,r,.inl #[hk,by simp]]
   .rw[rH (Ne.symm hj)]at e2;let#[u',r',q]:=hl j y v' e1 e2 e3;refine#[u',r',?_];rcases q with⟨k,e⟩|⟨k,c,e,z⟩
    .refine .inl #[k,?_];have:y≠x:=λe=>hj (o8 hN e1 (e▸hi));simp[this,e]
    .exact .inr #[k,c,e,z.sameBut hs (sQ y c e)]
  .let#[w',z]:=I.cell y c e;exact#[w',z.sameBut hs (sQ y c e)]
  .let#[e,n,ne,nf,d]:=I.pin p hp;exact#[(hs.2 p.1 ne).trans e,n,ne,nf,d]
 .have QV:X.fn x=zu:=by
   rcases hf with z|z
   .exact z
   .rw[z]at hk;cases hk
  let#[c,hc]:=I.ok.has x (.inl hk);let#[w',z]:=I.cell x c hc;refine wpAny_storeName_cell I.ok.kind hk hc z (λh' Zr hs=>?_);let#[oc,HC,adl]:=id z;refine h { s with heap:=h' } #[I.ok,I.os,I.bare,#[λb o e n hb hx=>?_,λb o e n hb hx=>?_,I.base.free,λb o e hx=>?_,I.base.ku,I.base.kK,I.base.nC],#[m,hn.sameBut hs (Ne.symm (sQ x c hc)),λj y v' e1 e2 e3=>?_],λy c' e=>?_,I.free,I.nD,λp hp=>?_,tracked #[oc,HC,I.nD x c hc] hs,by simpa using I.len] #[c,hs,.inr hc]
  .exact(hs.2 b (cH (dU (a8 e) (I.ok.wU x c QV hc)))).trans (I.base.keep b o e n hb hx)
  .let#[sl,e1]:=I.base.slot b o e n hb hx;exact#[sl,(hs.2 b (cH (dU (a8 e) (I.ok.wU x c QV hc)))).trans e1]
  .let#[o',e1]:=I.base.there b o e hx;exact#[o',(hs.2 b (cH (dU (a8 e) (I.ok.wU x c QV hc)))).trans e1]
  .by_cases hj:j=i
   .subst hj;rw[hi]at e1;cases e1;rw[nT Zp]at e2;cases e2;exact#[u,r,.inr #[.inl hk,c,hc,Zr]]
   .rw[rH (Ne.symm hj)]at e2;let#[u',r',q]:=hl j y v' e1 e2 e3;refine#[u',r',?_];rcases q with q|⟨k,c',e,z'⟩
    .exact .inl q
    .refine .inr #[k,c',e,z'.sameBut hs ?_];rintro rfl;exact hj (o8 hN e1 (I.ok.inj _ _ _ e hc▸hi))
  .by_cases dq:c'=c
   .subst dq;exact#[_,Zr]
   .let#[w2,z2]:=I.cell y c' e;exact#[w2,z2.sameBut hs dq]
  .let#[e,n,ne,nf,d]:=I.pin p hp;refine#[(hs.2 p.1 ?_).trans e,n,ne,nf,d];intro q;rw[q,HC]at e;have q':oc=p.2:=Option.some.inj e;exact d w' (by rw[<-q'];exact adl)
theorem jQ {Q:Unit->Shared->zy}(I:Inv X pins σ H s) (hN:X.N.Nodup) (hi:X.N[i]?=some x) (hx:Loc X.env.scope x) (r:RelV v u)
 (h:∀ s',Inv X pins (σ.set i (some v)) H s'->Q () s') (hf:X.fn x=zu \/ X.env.scope.names.lookup x=some .local:=by first|exact .inl zw|exact .inr zw|assumption):wpAny M A (storeName X.env x u) Q E s:=
 A3 I hN hi hx r (λs' I' _=>h s' I') hf
theorem Inv.QW {s':Shared}(I:Inv X pins σ H s) (ho:s'.os=s.os) (u:Un (dW X.stack) ch H H' s.heap s'.heap) (ai:ck X.prog X.w H' s'.heap) (hg:AllBare s'.gens)
 (rO:∀ b∈ch,(b∈X.ex \/ X.s₀.heap.objs.size<=b) /\ b≠X.env.locals /\ (∀ x c,X.env.cells.lookup x=some c->c≠b) /\ ∀ p∈X.pn++pins,p.1≠b):Inv X pins σ H' s':=by
 let#[h',g',d',t',o']:=s';have e:o'=s.os:=ho;subst e;exact I.call (g':=g') (t':=t') (d':=d') u ai hg rO
end
abbrev XK:=zx->Option Addr->Hp->zy
noncomputable abbrev St:=List (Option V)
abbrev VK:=V->Hp->zy
abbrev TE:=St->Hp->VK->zy
abbrev TT:=St->Hp->(Bool->Hp->zy)->zy
abbrev TA:=St->Hp->(List V->Hp->zy)->zy
structure Ends where
 nx:St->Hp->zy
 rt:VK
 bk:St->Hp->zy:=λ_ _=>False
 ct:St->Hp->zy:=λ_ _=>False
abbrev TS:=Ends->St->Hp->zy
def EP (X:Cx) (pins:List (Addr×Obj)) (σ:St) (Q:VK) (u:zx) (s':Shared):zy:=∃ v H',Inv X pins σ H' s' /\ RelV v u /\ Q v H'
def TP (X:Cx) (pins:List (Addr×Obj)) (σ:St) (Q:Bool->Hp->zy) (b:Bool) (s':Shared):zy:=∃ H',Inv X pins σ H' s' /\ Q b H'
def AP (X:Cx) (pins:List (Addr×Obj)) (σ:St) (Q:List V->Hp->zy) (us:List zx) (s':Shared):zy:=∃ vs H',Inv X pins σ H' s' /\ Vals vs us /\ Q vs H'
def SP (X:Cx) (pins:List (Addr×Obj)) (D:Ends) (f:Flow) (s':Shared):zy:=
 match f with
 |.next=>∃ σ' H',Inv X pins σ' H' s' /\ D.nx σ' H'
 |.brk=>∃ σ' H',Inv X pins σ' H' s' /\ D.bk σ' H'
 |.cont=>∃ σ' H',Inv X pins σ' H' s' /\ D.ct σ' H'
 |.ret u=>∃ v σ' H',Inv X pins σ' H' s' /\ RelV v u /\ D.rt v H'
def PE (X:Cx) (e:Expr) (t:TE):zy:=
 ∀ (pins:List (Addr×Obj)) (s:Shared) (σ:St) (H:Hp) (Q:VK),Inv X pins σ H s->t σ H Q->wpAny zh X.A (eval e X.env) (EP X pins σ Q) X.xe s
def PT (X:Cx) (e:Expr) (t:TT):zy:=
 ∀ (pins:List (Addr×Obj)) (s:Shared) (σ:St) (H:Hp) (Q:Bool->Hp->zy),Inv X pins σ H s->t σ H Q->wpAny zh X.A (isTrue e X.env (eval e X.env)) (TP X pins σ Q) X.xe s
def PW (X:Cx) (e:Expr) (t:TT):zy:=
 ∀ (whole:Sem zx) (pins:List (Addr×Obj)) (s:Shared) (σ:St) (H:Hp) (Q:Bool->Hp->zy),Inv X pins σ H s->t σ H Q->wpAny zh X.A (isTrue e X.env whole) (TP X pins σ Q) X.xe s
theorem PW.pt {X:Cx}{t:TT}(h:PW X e t):PT X e t:=h _
def PA (X:Cx) (es:List Expr) (t:TA):zy:=
 ∀ (pos:Pos) (pins:List (Addr×Obj)) (s:Shared) (σ:St) (H:Hp) (Q:List V->Hp->zy),Inv X pins σ H s->t σ H Q->wpAny zh X.A (spliced (backTo pos (starEach es X.env))) (AP X pins σ Q) X.xe s
def PS (X:Cx) (st:Stmt) (t:TS):zy:=
 ∀ (pins:List (Addr×Obj)) (s:Shared) (σ:St) (H:Hp) (D:Ends),Inv X pins σ H s->t D σ H->wpAny zh X.A (exec st X.env) (SP X pins D) X.xe s
def dt (X:Cx) (st:List Stmt) (t:TS):zy:=
 ∀ (pins:List (Addr×Obj)) (s:Shared) (σ:St) (H:Hp) (D:Ends),Inv X pins σ H s->t D σ H->wpAny zh X.A (execs st X.env) (SP X pins D) X.xe s
theorem bV {t:Sem α}{Q Q':α->Shared->zy}(h:wpAny M A t Q E s) (hQ:∀ a s,Q a s->Q' a s):wpAny M A t Q' E s:=eT h hQ λ_ _ x=>x
theorem tE {X:Cx}{σ:St}{Q:VK}{t:Sem zx}{Q':zx->Shared->zy}(h:wpAny M A t (EP X pins σ Q) E s) (k:∀ v s x H,Inv X pins σ H s->RelV x v->Q x H->Q' v s):wpAny M A t Q' E s:=bV h λv s ⟨x,H,I,r,q⟩=>k v s x H I r q
theorem tA {X:Cx}{σ:St}{Q:List V->Hp->zy}{t:Sem (List zx)}{Q':List zx->Shared->zy}(h:wpAny M A t (AP X pins σ Q) E s) (k:∀ v s x H,Inv X pins σ H s->Vals x v->Q x H->Q' v s):wpAny M A t Q' E s:=bV h λv s ⟨x,H,I,r,q⟩=>k v s x H I r q
theorem tP {β:Type}{X:Cx}{σ:St}{Q:β->Hp->zy}{R:β->α->zy}{t:Sem α}{Q':α->Shared->zy}(h:wpAny M A t (λv s=>∃ x H,Inv X pins σ H s /\ R x v /\ Q x H) E s) (k:∀ v s x H,Inv X pins σ H s->R x v->Q x H->Q' v s):wpAny M A t Q' E s:=bV h λv s ⟨x,H,I,r,q⟩=>k v s x H I r q
theorem tT {X:Cx}{σ:St}{Q:Bool->Hp->zy}{t:Sem Bool}{Q':Bool->Shared->zy}(h:wpAny M A t (TP X pins σ Q) E s) (k:∀ v s H,Inv X pins σ H s->Q v H->Q' v s):wpAny M A t Q' E s:=bV h λv s ⟨H,I,q⟩=>k v s H I q
end L2
variable {X:L2.Cx}{σ:L2.St}{q:List L2.V -> L2.Hp -> L2.VK -> zy}
namespace L2
section
def Zs (i:Nat):TE:=λσ H Q=>∃ v,σ[i]?=some (some v) /\ Q v H
def tC (v:V):TE:=λ_ H Q=>Q v H
theorem By (hN:X.N[i]?=some x) (hv:sO X.env.scope x) (hd:(x==("__debug__":Str))=zc:=by decide) (dA:(x==("__classdict__":Str))=zc:=by decide):PE X (.Name x pos) (Zs i):=by
 intro pins s σ H Q I h;let#[v,e,h]:=h;let#[m,hn,hl]:=I.loc;let#[u,r,l]:=hl i x v hN e hv;have fin:EP X pins σ Q u s:=#[v,H,I,r,h];rcases l with⟨hk,hm⟩|⟨hk,c,hc,HD⟩
 .exact KG (wpAny_loadName_local I.ok.kind hk hn hm fin) hd
 .rcases hk with hk|hk
  .exact KG (wpAny_loadName_cell I.ok.kind hk hc HD fin) hd
  .exact KG (wpAny_loadName_free I.ok.kind hk hc HD fin dA) hd
theorem Do {i j pos}:PE X (.Constant (.int i) j pos) (tC (.int i)):=λ_ _ _ H _ I h=>wpAny_Constant_int #[.int i,H,I.tok _,#[_,rfl],h]
theorem Jv {b j pos}:PE X (.Constant (.bool b) j pos) (tC (.bl b)):=λ_ _ _ H _ I h=>Constant_bool #[.bl b,H,I,rfl,h]
theorem Rj {j pos}:PE X (.Constant .none j pos) (tC .non):=λ_ _ _ H _ I h=>Constant_none #[.non,H,I,rfl,h]
theorem lV {x j pos}:PE X (.Constant (.str x) j pos) (tC (.str x)):=λ_ _ _ H _ I h=>Calls.Constant_str #[.str x,H,I.tok _,#[_,rfl],h]
def Gl (X:Cx) (x:Str):zy:=X.env.kindOf x=some .globalImplicit
theorem oR (I:Inv X pins σ H s) (hg:Gl X x) (hm:X.mg x=some u) (h:Q u s)
 (hd:(x==("__debug__":Str))=zc:=by decide):wpAny zh X.A (eval (.Name x pos) X.env) Q E s:=
 Calls.Name_function_global I.ok.kind hg (Calls.loadGlobal_global (by rw[I.ok.glob];exact I.mod.glob.keeps I.bk) hm h) hd
theorem jj (I:Inv X pins σ H s) (hg:Gl X x) (hm:X.mg x=zp) (hv:bootBuiltins x=some u) (h:Q u s)
 (hn:x ≠ "__name__":=by decide) (hd:(x==("__debug__":Str))=zc:=by decide):wpAny zh X.A (eval (.Name x pos) X.env) Q E s:=by
 let#[mb,h1,h2]:=I.mod.blt;exact Calls.Name_function_global I.ok.kind hg (Calls.loadGlobal_builtin (by rw[I.ok.glob];exact I.mod.glob.keeps I.bk) hm (by rw[I.ok.blt];exact h1.keeps I.bk) ((h2 x hn).trans hv) h) hd
theorem gf (hg:Gl X x) (hm:X.mg x=some u) (r:RelV v u) (hd:(x==("__debug__":Str))=zc:=by decide):PE X (.Name x pos) (tC v):=
 λ_ _ _ H _ I h=>oR I hg hm #[v,H,I,r,h] hd
theorem Fh (hg:Gl X x) (hm:X.mg x=zp) (hv:bootBuiltins x=some u) (r:RelV v u) (hn:x ≠ "__name__":=by decide) (hd:(x==("__debug__":Str))=zc:=by decide):PE X (.Name x pos) (tC v):=
 λ_ _ _ H _ I h=>jj I hg hm hv #[v,H,I,r,h] hn hd
variable {a b:Expr} {ta tb:TE} 
def PC (X:Cx) (op:CmpOp) (a b:Expr) (t:TE):zy:=
 ∀ (pins:List (Addr×Obj)) (s:Shared) (σ:St) (H:Hp) (Q:VK),Inv X pins σ H s->t σ H Q ->
  wpAny zh X.A (eval a X.env) (λv s₁=>wpAny zh X.A (eval b X.env) (λu s₂=>wpAny zh X.A (compareOp op v u) (EP X pins σ Q) X.xe s₂) X.xe s₁) X.xe s
def Zt (ta:TE):TE:=λσ H Q=>ta σ H λx H1=>Q (.bl (decide (x=.non))) H1
theorem RelV.adm {x:V}{v:zx}(r:RelV x v):(v==Value.none)=decide (x=.non):=by
 cases x with
 |non=>cases r;rfl
 |bl _=>cases r;rfl
 |int _=>let#[t,rfl]:=r;rfl
 |str _=>let#[t,rfl]:=r;rfl
 |nY _=>let#[t,rfl]:=r;rfl
 |sM _=>let#[t,rfl]:=r;rfl
 |ref _=>cases r;rfl
 |ty _=>cases r;rfl
theorem Rk {j pos'}(ha:PE X a ta):PC X .Is a (.Constant .none j pos') (Zt ta):=by
 intro pins s σ H Q I h;refine tE (ha pins s σ H _ I h) λv s1 x H1 I1 r1 q1=>?_;exact Constant_none (is_none_gen #[.bl _,H1,I1,by rw[r1.adm];rfl,q1])
noncomputable def tB (t:TE):TT:=λσ H Q=>t σ H λx H1=>∃ c,x=.bl c /\ Q c H1
theorem Jw {t:TE}(h:PC X op a b t) (h1:behindInMarks op b=zc:=by first|exact adn _ (by decide) (by decide)|rfl):PE X (.Compare a [op] [b] pos) t:=λpins s σ H Q I hw=>Xo (h pins s σ H Q I hw) h1
theorem Dp {t:TE}(h:PC X op a b t) (h1:behindInMarks op b=zc:=by first|exact adn _ zf zf|rfl):PT X (.Compare a [op] [b] pos) (tB t):=by
 intro pins s σ H Q I hw;refine Xp (bV (h pins s σ H _ I hw) λv s1 h1=>bV h1 λu s2 h2=>tE h2 λc s3 x H1 I1 r1 q1=>?_) h1;let#[d,rfl,q]:=q1;cases r1;exact su #[H1,I1,q]
theorem Jx {t:TE}(h:PE X e t) (he:∀ whole,isTrue e X.env whole=(do let v <-whole;standAt e.pos;holding [v] (truthy v)):=by intro _;rfl):PT X e (tB t):=by
 intro pins s σ H Q I hw;refine isTrue_plain (tE (h pins s σ H _ I hw) λv s1 x H1 I1 r1 q1=>?_) (he _);let#[d,rfl,q]:=q1;cases r1;exact su #[H1,I1,q]
variable {tA HE:TT} {rest:List Expr}
noncomputable def ado (t u:TT):TT:=λσ H Q=>t σ H λc H1=>if c=zu then u σ H1 Q else Q zc H1
noncomputable def adp (t u:TT):TT:=λσ H Q=>t σ H λc H1=>if c=zu then Q zu H1 else u σ H1 Q
noncomputable def adq (t:TT):TT:=λσ H Q=>t σ H λc H1=>Q (!c) H1
theorem M8 (ha:PT X a tA):PW X (.BoolOp .And [a] pos) tA:=by
 intro wh pins s σ H Q I h;refine isTrue_and (bV (ha pins s σ H Q I h) λc s1 e=>?_);cases c with
 |true=>exact isTrue_and_nil e
 |false=>exact e
theorem Jy (ha:PT X a tA):PW X (.BoolOp .Or [a] pos) tA:=by
 intro wh pins s σ H Q I h;refine isTrue_or (bV (ha pins s σ H Q I h) λc s1 e=>?_);cases c with
 |false=>exact isTrue_or_nil e
 |true=>exact e
theorem Rm (ha:PT X a tA) (hb:PW X (.BoolOp .And (b::rest) pos) HE):PW X (.BoolOp .And (a::b::rest) pos) (ado tA HE):=by
 intro wh pins s σ H Q I h;refine isTrue_and (tT (ha pins s σ H _ I h) λc s1 H1 I1 q1=>?_);cases c with
 |true=>exact hb wh pins s1 σ H1 Q I1 q1
 |false=>exact#[H1,I1,q1]
theorem PK (ha:PT X a tA) (hb:PW X (.BoolOp .Or (b::rest) pos) HE):PW X (.BoolOp .Or (a::b::rest) pos) (adp tA HE):=by
 intro wh pins s σ H Q I h;refine isTrue_or (tT (ha pins s σ H _ I h) λc s1 H1 I1 q1=>?_);cases c with
 |true=>exact#[H1,I1,q1]
 |false=>exact hb wh pins s1 σ H1 Q I1 q1
theorem Jz (ha:PT X a tA):PT X (.UnaryOp .Not a pos) (adq tA):=by
 intro pins s σ H Q I h;exact isTrue_not (ha pins s σ H (λc H1=>Q (!c) H1) I h)
def ads (ta tb:TE):TE:=λσ H Q=>ta σ H λx H1=>∃ c,x=.bl c /\ if c=zu then tb σ H1 Q else Q (.bl zc) H1
def adt (ta:TE):TE:=λσ H Q=>ta σ H λx H1=>∃ c,x=.bl c /\ Q (.bl (!c)) H1
theorem Rn {op}{t:TE}(h:PE X a t):PE X (.BoolOp op [a] pos) t:=λpins s σ H Q I hw=>BoolOp_one (h pins s σ H Q I hw)
theorem Ro (ha:PE X a ta) (hb:PE X (.BoolOp .And (b::rest) pos) tb):PE X (.BoolOp .And (a::b::rest) pos) (ads ta tb):=by
 intro pins s σ H Q I h;refine BoolOp_and (tE (ha pins s σ H _ I h) λv s1 x H1 I1 r1 q1=>?_);let#[c,rfl,q1]:=q1;cases r1;refine su ?_;cases c with
 |true=>exact hb pins s1 σ H1 Q I1 q1
 |false=>exact#[.bl zc,H1,I1,rfl,q1]
theorem Rp (ha:PE X a ta):PE X (.UnaryOp .Not a pos) (adt ta):=by
 intro pins s σ H Q I h;refine UnaryOp_ (tE (ha pins s σ H _ I h) λv s1 x H1 I1 r1 q1=>?_);let#[c,rfl,q1]:=q1;cases r1;exact not_of (su #[.bl (!c),H1,I1,rfl,q1])
def adu (t:TT) (ta tb:TE):TE:=λσ H Q=>t σ H λc H1=>if c=zu then ta σ H1 Q else tb σ H1 Q
theorem JA {c:Expr}(hc:PT X c tA) (ha:PE X a ta) (hb:PE X b tb):PE X (.IfExp c a b pos) (adu tA ta tb):=by
 intro pins s σ H Q I h;refine wpAny_IfExp (tT (hc pins s σ H _ I h) λd s1 H1 I1 q1=>?_);cases d with
 |true=>exact ha pins s1 σ H1 Q I1 q1
 |false=>exact hb pins s1 σ H1 Q I1 q1
end
def bO (K:PySem.W.Frag) (H:Hp) (a:Addr) (xs:List V):zy:=
 Rd H a (.lst xs) \/
  ∃ (o:Obj) (its:Array zx) (n:Nat),K.lookup a=some o /\ o.cls=.type "list" /\ o.dict=zp /\ o.data=.seq its n /\ its.size<=sizeLine /\ Vals xs its.toList
def bK (K:PySem.W.Frag) (H:Hp) (a:Addr) (xs:List V):zy:=
 Rd H a (.tup xs) \/
  ∃ (o:Obj) (its:Array zx) (n:Nat),K.lookup a=some o /\ o.cls=.type "tuple" /\ o.data=.seq its n /\ its.size<=sizeLine /\ Vals xs its.toList
noncomputable def adv:zx->Option V
 |.none=>some .non
 |.bool b=>some (.bl b)
 |.int i _=>some (.int i)
 |.str x _=>some (.str x)
 |.bytes b _=>some (.nY b)
 |.float b _=>some (.sM b)
 |.ref a=>some (.ref a)
 |.type n=>some (.ty n)
 |_=>zp
theorem RelV.abs {x:V}(r:RelV x u):adv u=some x:=by
 cases x with
 |non=>cases r;rfl
 |bl _=>cases r;rfl
 |int _=>let#[t,rfl]:=r;rfl
 |str _=>let#[t,rfl]:=r;rfl
 |nY _=>let#[t,rfl]:=r;rfl
 |sM _=>let#[t,rfl]:=r;rfl
 |ref _=>cases r;rfl
 |ty _=>cases r;rfl
theorem RelV.inj {x y:V}{u:zx}(r:RelV x u) (q:RelV y u):x=y:=Option.some.inj (r.abs.symm.trans q.abs)
theorem Vals.inj:∀ {xs ys:List V}{us:List zx},Vals xs us->Vals ys us->xs=ys
 |_,_,_,.nil,.nil=>rfl
 |_,_,_,.cons r t,.cons r' t'=>by rw[r.inj r',Vals.inj t t']
section
variable {xs ys:List V}
theorem bO.of (h:H a=some (.lst xs)):bO K H a xs:=.inl (.inl h)
theorem bK.of (h:H a=some (.tup xs)):bK K H a xs:=.inl (.inl h)
theorem Inv.list (I:Inv X pins σ H s) (h:bO X.K H a xs):∃ its:List zx,Vals xs its /\ PlainL s.heap a its.toArray /\ xs.length<=sizeLine:=by
 rcases h with h|⟨o,its,n,hk,hc,hd,hs,hz,r⟩
 .let#[z,its,n,r,e]:=h.ok I.ai;exact#[its,r,#[_,n,e,rfl,rfl,rfl],z]
 .refine#[its.toList,r,#[o,n,I.dX a o hk,hc,hd,by simpa using hs],?_];have e:=r.length;erw[Ht]at e;lia
theorem Inv.tuple (I:Inv X pins σ H s) (h:bK X.K H a xs):∃ its:List zx,Vals xs its /\ IsTup s.heap a its.toArray /\ xs.length<=sizeLine:=by
 rcases h with h|⟨o,its,n,hk,hc,hs,hz,r⟩
 .let#[z,its,r,p]:=h.ok I.ai;exact#[its,r,p,z]
 .refine#[its.toList,r,#[o,I.dX a o hk,hc,n,by simpa using hs],?_];have e:=r.length;erw[Ht]at e;lia
theorem Inv.adw (I:Inv X pins σ H s) (h:bO X.K H a xs) (h':bO X.K H a ys):xs=ys:=by
 let#[its,r,#[o,n,e,_,_,d],_]:=I.list h;let#[its',r',#[o',n',e',_,_,d'],_]:=I.list h';rw[e]at e';cases e';rw[d]at d';injection d' with d1 _;have:its=its':=by simpa using congrArg Array.toList d1
 subst this;exact r.inj r'
theorem Inv.QX (I:Inv X pins σ H s) (h:bK X.K H a xs) (h':bK X.K H a ys):xs=ys:=by
 let#[its,r,#[o,e,_,n,d],_]:=I.tuple h;let#[its',r',#[o',e',_,n',d'],_]:=I.tuple h';rw[e]at e';cases e';rw[d]at d';injection d' with d1 _;have:its=its':=by simpa using congrArg Array.toList d1
 subst this;exact r.inj r'
end
noncomputable abbrev Cx.rP (X:Cx) (E:zx->Shared->zy):Cx:={ X with xe:=E }
abbrev Cx.sR (X:Cx):Cx:=X.rP λ_ _=>False
theorem Cx.Ok.rP {X:Cx}(ok:X.Ok) (E:zx->Shared->zy):(X.rP E).Ok:=
 #[ok.mod,ok.kind,ok.glob,ok.blt,ok.above,ok.inj,ok.has,ok.wU,ok.hd,ok.frames,ok.yu,ok.vn,ok.bs,ok.sP,ok.wV,ok.vo,ok.k6,ok.rN]
theorem Cx.Ok.uk (ok:(X.rP E).Ok):X.Ok:=
 #[ok.mod,ok.kind,ok.glob,ok.blt,ok.above,ok.inj,ok.has,ok.wU,ok.hd,ok.frames,ok.yu,ok.vn,ok.bs,ok.sP,ok.wV,ok.vo,ok.k6,ok.rN]
theorem Inv.rP (I:Inv X pins σ H s) (E:zx->Shared->zy):Inv (X.rP E) pins σ H s:=#[I.ok.rP E,I.os,I.bare,I.base,I.loc,I.cell,I.free,I.nD,I.pin,I.ai,I.len]
theorem Inv.uk (I:Inv (X.rP E) pins σ H s):Inv X pins σ H s:=#[I.ok.uk,I.os,I.bare,I.base,I.loc,I.cell,I.free,I.nD,I.pin,I.ai,I.len]
theorem SP.uk {D:Ends}{f:Flow}{s':Shared}(h:SP (X.rP E) pins D f s'):SP X pins D f s':=by
 cases f with
 |next=>let#[σ',H',I,q]:=h;exact#[σ',H',I.uk,q]
 |brk=>let#[σ',H',I,q]:=h;exact#[σ',H',I.uk,q]
 |cont=>let#[σ',H',I,q]:=h;exact#[σ',H',I.uk,q]
 |ret u=>let#[v,σ',H',I,r,q]:=h;exact#[v,σ',H',I.uk,r,q]
theorem dt.sR {st:List Stmt}{t:TS}(h:dt X.sR st t):dt X st t:=λpins s σ H D I hw=>
 eT (h pins s σ H D (I.rP _) hw) (λ_ _ q=>q.uk) λ_ _ z=>False.elim z
section
variable {rest:List Stmt} {t u:TS} {te:TE} 
def adx:TS:=λD σ H=>D.nx σ H
def ady (t u:TS):TS:=λD σ H=>t { D with nx:=u D } σ H
theorem Fi:dt X [] adx:=λ_ _ σ H _ I h=>EJ #[σ,H,I,h]
theorem iE (h1:PS X st t) (h2:dt X rest u):dt X (st::rest) (ady t u):=by
 intro pins s σ H D I h;refine Xq (bV (h1 pins s σ H { D with nx:=u D } I h) λf s1 q=>?_);cases f with
 |next=>
   let#[σ',H',I',q]:=q;exact h2 pins s1 σ' H' D I' q
 |ret v=>exact q
 |brk=>exact q
 |cont=>exact q
theorem oS (h1:PS X st t):dt X [st] t:=by
 intro pins s σ H D I h;refine Xq (bV (h1 pins s σ H D I h) λf s1 q=>?_);cases f with
 |next=>exact EJ q
 |ret v=>exact q
 |brk=>exact q
 |cont=>exact q
def adz:TS:=λD σ H=>D.bk σ H
def adA:TS:=λD σ H=>D.ct σ H
theorem JB:PS X (.Break pos) adz:=λ_ _ σ H _ I h=>wpAny_Break #[σ,H,I,h]
theorem Cj:PS X (.Continue pos) adA:=λ_ _ σ H _ I h=>wpAny_Continue #[σ,H,I,h]
theorem Inv.quiet (I:Inv X pins σ H s):interactive X.env=zc:=by simp[interactive,I.ok.kind]
def adB (te:TE):TS:=λD σ H=>te σ H λ_ H1=>D.nx σ H1
theorem Fj (he:PE X e te) (hs:swapsWith e zp pos.line X.env=pure zc:=by rfl):PS X (.Expr e pos) (adB te):=by
 intro pins s σ H D I h;exact wpAny_Expr_any (tE (he pins s σ H _ I h) λv s1 x H1 I1 r1 q1=>#[σ,H1,I1,q1]) I.quiet hs
def adC (te:TE):TS:=λD σ H=>te σ H D.rt
theorem Bz (he:PE X e te):PS X (.Return (some e) pos) (adC te):=by
 intro pins s σ H D I h;exact wpAny_Return_some (tE (he pins s σ H _ I h) λv s1 x H1 I1 r1 q1=>#[x,σ,H1,I1,r1,q1])
def adD (c:TT) (t u:TS):TS:=λD σ H=>c σ H λb H1=>if b=zu then t D σ H1 else u D σ H1
theorem PL {c:Expr}{a b:List Stmt}{tc:TT}(hc:PT X c tc) (ha:dt X a t) (hb:dt X b u):PS X (.If c a b pos) (adD tc t u):=by
 intro pins s σ H D I h;refine wpAny_If (tT (hc pins s σ H _ I h) λd s1 H1 I1 q1=>?_);cases d with
 |true=>exact ha pins s1 σ H1 D I1 q1
 |false=>exact hb pins s1 σ H1 D I1 q1
end
abbrev TG:=V->St->Hp->(St->Hp->zy)->zy
abbrev sU:=List V->St->Hp->(St->Hp->zy)->zy
def PG (X:Cx) (target:Expr) (t:TG):zy:=
 ∀ (pins:List (Addr×Obj)) (s:Shared) (σ:St) (H:Hp) (v:V) (u:zx) (Q:St->Hp->zy),Inv X pins σ H s->RelV v u->t v σ H Q ->
  wpAny zh X.A (assign target X.env u) (λ_ s'=>∃ σ' H',Inv X pins σ' H' s' /\ Q σ' H') X.xe s
def rQ (X:Cx) (ts:List Expr) (t:sU):zy:=
 ∀ (pins:List (Addr×Obj)) (s:Shared) (σ:St) (H:Hp) (vs:List V) (us:List zx) (Q:St->Hp->zy),Inv X pins σ H s->Vals vs us->t vs σ H Q ->
  wpAny zh X.A (assignInOrder ((assignEach ts X.env).map (·.2)) us) (λ_ s'=>∃ σ' H',Inv X pins σ' H' s' /\ Q σ' H') X.xe s
abbrev QY:=V->V->V->Hp->(Hp->zy)->zy
def Zu (X:Cx) (t:QY):zy:=
 ∀ (pins:List (Addr×Obj)) (s:Shared) (σ:St) (H:Hp) (o i v:V) (ov iv u:zx) (Q:Hp->zy),Inv X pins σ H s->RelV o ov->RelV i iv->RelV v u->t o i v H Q ->
  wpAny zh X.A (setItem ov iv u) (λ_ s'=>∃ H',Inv X pins σ H' s' /\ Q H') X.xe s
def QZ (i:Nat):TG:=λv σ H Q=>Q (σ.set i (some v)) H
theorem BA (hN:X.N.Nodup) (hi:X.N[i]?=some x) (hx:Loc X.env.scope x) (hf:X.fn x=zu \/ X.env.scope.names.lookup x=some .local:=by first|exact .inl zw|exact .inr zw|assumption):PG X (.Name x pos) (QZ i):=by
 intro pins s σ H v u Q I r h;exact Xr (jQ I hN hi hx r (λs' I'=>#[_,H,I',h]) hf)
noncomputable def adE:sU:=λvs σ H Q=>vs=[] /\ Q σ H
noncomputable def adF (t:TG) (u:sU):sU:=λvs σ H Q=>∃ v r,vs=v::r /\ t v σ H λσ' H'=>u r σ' H' Q
theorem Fk:rQ X [] adE:=by
 intro pins s σ H vs us Q I r h;let#[e,h]:=h;subst e;cases r;exact Yx #[σ,H,I,h]
theorem o9 {t:TG}{u:sU}(h1:PG X e t) (h2:rQ X es u)
 (hs:(assignEach (e::es) X.env).map (·.2)=assign e X.env::(assignEach es X.env).map (·.2):=by rfl):rQ X (e::es) (adF t u):=by
 intro pins s σ H vs us Q I r h;let#[v,vr,e1,h]:=h;subst e1;cases r with
 |cons r rr=>
   rw[hs];refine Qr (bV (h1 pins s σ H _ _ _ I r h) ?_);rintro _ s1 ⟨σ1,H1,I1,q1⟩;exact h2 pins s1 σ1 H1 _ _ Q I1 rr q1
def adG (K:PySem.W.Frag) (n:Nat) (t:sU):TG:=λv σ H Q=>∃ a xs,v=.ref a /\ bK K H a xs /\ xs.length=n /\ t xs σ H Q
theorem JC {k:Nat}{t:sU}(hc:X.calm=zu) (h:rQ X es t)
 (hn:(assignEach es X.env).length=n:=by rfl) (qu:(assignEach es X.env).findIdx? (·.1)=zp:=by rfl):PG X (.Tuple es k pos) (adG X.K n t):=by
 intro pins s σ H v u Q I r hw;let#[a,xs,e1,hq,hl,hw]:=hw;subst e1;cases r;let#[its,rv,ht,hz]:=I.tuple hq;refine assign_Tuple_tuple (I.ok.hd hc) ht (by simp[hn,<-hl,rv.length]) qu λh' hx=>?_;have I1:Inv X pins σ H { s with heap:=h' }:=I.kept (t':=s.toks) λb o e=>hx b o (cH (a8 e)) e;exact h pins _ σ H xs _ Q I1 (by simpa using rv) hw
def adH (to ti:TE) (t:QY):TG:=λv σ H Q=>to σ H λo H1=>ti σ H1 λi H2=>t o i v H2 λH3=>Q σ H3
theorem Rq {o i:Expr}{to ti:TE}{t:QY}(ho:PE X o to) (hi:PE X i ti) (hs:Zu X t)
 (ha:∀ v,assign (.Subscript o i pos) X.env v=(do
  let ov <-holding [v] (eval o X.env)
  let iv <-holding [v,ov] (eval i X.env)
  standAt pos
  holding [v,ov,iv] (setItem ov iv v)
  release [v,ov,iv] []):=by intro _;rfl):PG X (.Subscript o i pos) (adH to ti t):=by
 intro pins s σ H v u Q I r h;rw[ha];refine ae (kX (tE (ho pins s σ H _ I h) λov s1 x H1 I1 r1 q1=>?_));refine ae (kX (tE (hi pins s1 σ H1 _ I1 q1) λiv s2 y H2 I2 r2 q2=>?_));refine ae (EK (ae (kX (bV (hs pins s2 σ H2 x y v ov iv u _ I2 r1 r2 r q2) ?_))));rintro _ s3 ⟨H3,I3,q3⟩;exact wpAny_release #[σ,H3,I3,q3]
def HF (te:TE) (g:TG):TS:=λD σ H=>te σ H λx H1=>g x σ H1 D.nx
theorem JD {te:TE}{g:TG}(he:PE X e te) (hg:PG X tg g) (hs:swapsWithSole [tg] e pos.line X.env=pure zc:=by rfl) (hw:swappedStores [tg] e X.env=pure zp:=by rfl)
 (h1:(assignEach [tg] X.env).map (·.2)=[assign tg X.env]:=by rfl):PS X (.Assign [tg] e pos) (HF te g):=by
 intro pins s σ H D I h;refine wpAny_Assign_stores (tE (he pins s σ H _ I h) λv s1 x H1 I1 r1 q1=>?_) hs hw;rw[h1];exact bV (hg pins s1 σ H1 x v _ I1 r1 q1) λ_ s2 q=>q
theorem mV {te:TE}(hN:X.N.Nodup) (hi:X.N[i]?=some x) (hx:Loc X.env.scope x) (he:PE X e te) (hs:swapsWith e (some (.Name x pos')) pos.line X.env=pure zc:=by rfl) (hf:X.fn x=zu \/ X.env.scope.names.lookup x=some .local:=by first|exact .inl zw|exact .inr zw|assumption) :
 PS X (.Assign [.Name x pos'] e pos) (HF te (QZ i)):=by
 intro pins s σ H D I h;refine wpAny_Assign_Name (tE (he pins s σ H _ I h) λv s1 y H1 I1 r1 q1=>?_) hs;exact jQ I1 hN hi hx r1 (λs2 I2=>#[_,H1,I2,q1]) hf
def Zv (i j:Nat) (ta:TA):TS:=λD σ H=>ta σ H λvs H1=>∃ v w,vs=[v,w] /\ D.nx ((σ.set i (some v)).set j (some w)) H1
theorem Rs {y:Str}{a b:Expr}{ta:TA}{px py pt:Pos}{kt k2 k7}(hc:X.calm=zu) (hN:X.N.Nodup) (hi:X.N[i]?=some x) (hj:X.N[j]?=some y) (yx:i≠j)
 (hx:X.env.scope.names.lookup x=some .local) (hy:X.env.scope.names.lookup y=some .local) (ha:PA X [a,b] ta)
 (hw:swappedStores [.Tuple [.Name x px,.Name y py] kt pt] (.Tuple [a,b] k2 k7) X.env=pure (some [x,y]))
 (hs:swapsWithSole [.Tuple [.Name x px,.Name y py] kt pt] (.Tuple [a,b] k2 k7) pos.line X.env=pure zc:=by rfl) :
 PS X (.Assign [.Tuple [.Name x px,.Name y py] kt pt] (.Tuple [a,b] k2 k7) pos) (Zv i j ta):=by
 intro pins s σ H D I h;rw[exec_Assign_arm];refine ae (EK ?_);rw[hs];refine ae (ak ?_);rw[if_neg zf];refine ae (Tuple_ (tA (ha _ pins s σ H _ I h) λus s1 vs H1 I1 r1 q1=>?_));let#[v,w,e1,q1]:=q1;subst e1;obtain⟨u1,u2,rfl,rv,eX⟩:∃ u1 u2,us=[u1,u2] /\ RelV v u1 /\ RelV w u2:=by
  cases r1 with
  |cons p q=>
    cases q with
    |cons p' q'=>
      cases q';exact#[_,_,rfl,p,p']
 refine qi ?_ (by show 2<=sizeLine;decide);have I2:Inv X pins σ H1 { s1 with heap:=s1.heap.push { cls:=.type "tuple",data:=.seq [u1,u2].toArray } }:=I1.kept (t':=s1.toks) λb o e=>aT _ e;rw[hw];refine ae (ak ?_);show wpAny zh X.A (do rule "assign.swapped-stores";let items <-unpackItems (.ref s1.heap.objs.size) 2 zp;assignInOrder [λv=>bindName X.env y v,λv=>bindName X.env x v] items.reverse;pure Flow.next) _ _ _;refine ae (rF (ae (unpackItems_tuple (items:=(List.toArray [u1,u2])) (I.ok.hd hc) (IsTup.new s1.heap _) λh' adI=>?_)));have I3:=I2.kept (h':=h') (t':=s1.toks) λb o e=>adI b o (cH (a8 e)) e;show wpAny _ _ (assignInOrder [λv=>bindName X.env y v,λv=>bindName X.env x v] [u2,u1] >>= λ_=>pure Flow.next) _ _ _;refine ae (Qr (Xt (jQ I3 hN hj (.inl hy) eX (λs2 I4=>?_) (.inr hy))));refine Qr (Xt (jQ I4 hN hi (.inl hx) rv (λs3 I5=>Yx (ak ?_)) (.inr hx)));rw[List.set_comm _ _ (Ne.symm yx)]at I5;exact#[_,H1,I5,q1]
structure It where
 go:Nat->Hp->zy
 yy:Nat->Hp->V->Hp->zy
 stop:Nat->Hp->zy
def pP (X:Cx) (pins:List (Addr×Obj)) (H:Hp) (b:Addr):zy:=
 H b=zp /\ b≠X.env.locals /\ b∉X.fs /\ (b∈X.ex \/ X.s₀.heap.objs.size<=b) /\ (∀ x c,X.env.cells.lookup x=some c->c≠b) /\ ∀ p∈X.pn++pins,p.1≠b
theorem Inv.wY {b:Addr}(I:Inv X pins σ H s) (hb:s.heap.objs.size<=b) (hn:H' b=zp):pP X pins H' b:=by
 refine#[hn,ye (dU I.lt hb),I.adi hb,.inr (bU I.sz hb),λx c e z=>?_,λp hp z=>?_]
 .let#[v,q]:=I.cell x c e;exact absurd (dU q.lt (by rw[z];exact hb)) (eU _)
 .exact absurd (dU (a8 (I.pin p hp).1) (by rw[z];exact hb)) (eU _)
structure Turn (P:Program) (w:World) (K:PySem.W.Frag) (tg:Expr) (J:It) (fp:List Addr) (it:Addr) (tn:Nat->Heap->zy):zy where
 mem:it∈fp
 obj:∀ i h,tn i h->∀ b∈fp,∃ o,h.get? b=some o /\ ∀ v,o.data≠.cell v
 keep:∀ i h h',tn i h->(∀ b∈fp,∀ o,h.get? b=some o->h'.get? b=some o)->tn i h'
 item:∀ (X:Cx),X.prog=P->X.w=w->X.K=K->X.calm=zu->∀ (i:Nat) (pins:List (Addr×Obj)) (s:Shared) (σ:St) (H:Hp) (E:zx->Shared->zy),Inv X pins σ H s->(∀ b∈fp,pP X pins H b)->tn i s.heap->J.go i H ->
  wpAny (model P w) X.A (pyNext (.ref it)) (λr s1=>∃ u,r=some u /\
   wpAny (model P w) X.A (letOwnedTupleGo tg (.ref it) u) (λ_ s2=>∃ x H',Inv X pins σ H' s2 /\ RelV x u /\ J.yy i H x H' /\ tn (i+1) s2.heap /\ ∀ b∈fp,H' b=zp) E s1) E s
 done:∀ (X:Cx),X.prog=P->X.w=w->X.K=K->X.calm=zu->∀ (i:Nat) (pins:List (Addr×Obj)) (s:Shared) (σ:St) (H:Hp) (E:zx->Shared->zy),Inv X pins σ H s->(∀ b∈fp,pP X pins H b)->tn i s.heap->J.stop i H ->
  wpAny (model P w) X.A (pyNext (.ref it)) (λr s1=>r=zp /\ Inv X pins σ H s1) E s
 self:∀ (A:Around) (i:Nat) (s:Shared) (Q:zx->Shared->zy) (E:zx->Shared->zy),tn i s.heap->Q (.ref it) s->wpAny (model P w) A (pyIter (.ref it)) Q E s
abbrev TI:=St->Hp->(It->Hp->zy)->zy
def Zw (X:Cx) (pins:List (Addr×Obj)) (σ:St) (tg:Expr) (R:It->Hp->zy) (HG:zx) (s2:Shared):zy:=
 ∃ (it:Addr) (fp:List Addr) (tn:Nat->Heap->zy) (J:It) (H':Hp),HG=.ref it /\ Inv X pins σ H' s2 /\ Turn X.prog X.w X.K tg J fp it tn /\ tn 0 s2.heap /\ (∀ b∈fp,pP X pins H' b) /\ R J H'
def PI (X:Cx) (tg iter:Expr) (wi:TI):zy:=
 ∀ (pins:List (Addr×Obj)) (s:Shared) (σ:St) (H:Hp) (R:It->Hp->zy),Inv X pins σ H s->wi σ H R ->
  wpAny zh X.A (eval iter X.env) (λv s1=>wpAny zh X.A (pyIter v) (Zw X pins σ tg R) X.xe s1) X.xe s
theorem Fl {it:Addr}{o:Obj}{n:String}{vs:Array zx}{Q:Unit->Shared->zy}(ho:s.heap.get? it=some o) (hc:o.cls=.type n) (hd:o.data=.fields vs)
 (hn:["enumerate","zip","dict_itemiterator","dict_reverseitemiterator","odict_iterator","itertools.zip_longest","itertools.pairwise"].contains n=zc) (hQ:Q () s):wpAny M A (letOwnedTupleGo tg (.ref it) u) Q E s:=by
 unfold letOwnedTupleGo;cases tg<;>first
  |exact ak hQ
  |(cases u<;>first
   |exact ak hQ
   | (refine ae (KH ho ?_)
      rw[hc,hd];show wpAny M A (if (["enumerate","zip","dict_itemiterator","dict_reverseitemiterator","odict_iterator","itertools.zip_longest","itertools.pairwise"].contains n&&vs[0]?==some (rawInt _))=zu then _ else _) Q E s;rw[if_neg (by intro h;rw[hn,E5]at h;cases h)];exact ak hQ))
noncomputable def HI (K:PySem.W.Frag) (a:Addr):It:=
 #[λi H=>∃ xs x,bO K H a xs /\ xs[i]?=some x,λi H x H'=>H'=H /\ ∀ xs,bO K H a xs->xs[i]?=some x,λi H=>∃ xs,bO K H a xs /\ xs.length<=i]
noncomputable def Q0 (K:PySem.W.Frag) (a:Addr):It:=
 #[λi H=>∃ xs x,bK K H a xs /\ xs[i]?=some x,λi H x H'=>H'=H /\ ∀ xs,bK K H a xs->xs[i]?=some x,λi H=>∃ xs,bK K H a xs /\ xs.length<=i]
noncomputable def yz (lo:Int) (n:Nat):It:=#[λi _=>i<n,λi H x H'=>H'=H /\ x=.int (lo+i),λi _=>n<=i]
theorem A4 (a it:Addr):Turn P w K tg (HI K a) [it] it (λi h=>h.IsListIter it a i) where
 mem:=by simp
 obj:=λi h st b hb=>by
  have e:b=it:=by simpa using hb
  subst e;let#[o,e,c,d]:=st;exact#[o,e,λv z=>by rw[d]at z;cases z]
 keep:=λi h h' st k=>st.at λo e=>k it zq o e
 item:=by
  intro X hP hw hK hc i pins s σ H E I hf st hg;subst hP hw hK;let#[xs,x,hq,hx]:=hg;let#[its,rv,p,hz]:=I.list hq;let#[u,hu,ru]:=rv.get hx;let#[f0,f1,f2,f3,f4,f5]:=hf it zq;refine wpAny_pyNext_list_item st p.isList (x:=u) (by simpa using hu) λh' qO sb=>?_;have I1:Inv X pins σ H { s with heap:=h' }:=I.turned (t':=s.toks) (λb o hb e=>(sb.2 b hb).trans e) f0 f1 f3 f4 f5;let#[o,e,c,d]:=id qO;exact#[u,rfl,Fl (s:={ s with heap:=h' }) e c d zf #[x,H,I1,ru,#[rfl,λys hy=>by rw[I.adw hy hq];exact hx],qO,λb hb=>(hf b hb).1]]
 done:=by
  intro X hP hw hK hc i pins s σ H E I hf st hg;subst hP hw hK;let#[xs,hq,hx]:=hg;let#[its,rv,p,hz]:=I.list hq;let#[f0,f1,f2,f3,f4,f5]:=hf it zq;have hl:=rv.length;exact wpAny_pyNext_list_end (I.ok.hd hc) st p.isList zB λh' eb=>#[rfl,I.turned (t':=s.toks) (λb o hb e=>eb b o hb e) f0 f1 f3 f4 f5]
 self:=λ_ _ _ _ _ st h=>wpAny_pyIter_listiter st h
theorem Dq (a it:Addr):Turn P w K tg (Q0 K a) [it] it (λi h=>h.IsTupleIter it a i) where
 mem:=by simp
 obj:=λi h st b hb=>by
  have e:b=it:=by simpa using hb
  subst e;let#[o,e,c,d]:=st;exact#[o,e,λv z=>by rw[d]at z;cases z]
 keep:=λi h h' st k=>st.at λo e=>k it zq o e
 item:=by
  intro X hP hw hK hc i pins s σ H E I hf st hg;subst hP hw hK;let#[xs,x,hq,hx]:=hg;let#[its,rv,p,hz]:=I.tuple hq;let#[u,hu,ru]:=rv.get hx;let#[f0,f1,f2,f3,f4,f5]:=hf it zq;refine wpAny_pyNext_tuple_item st (show s.heap.IsTuple a its.toArray from p) (x:=u) (by simpa using hu) λh' qO sb=>?_;have I1:Inv X pins σ H { s with heap:=h' }:=I.turned (t':=s.toks) (λb o hb e=>(sb.2 b hb).trans e) f0 f1 f3 f4 f5;let#[o,e,c,d]:=id qO;exact#[u,rfl,Fl (s:={ s with heap:=h' }) e c d zf #[x,H,I1,ru,#[rfl,λys hy=>by rw[I.QX hy hq];exact hx],qO,λb hb=>(hf b hb).1]]
 done:=by
  intro X hP hw hK hc i pins s σ H E I hf st hg;subst hP hw hK;let#[xs,hq,hx]:=hg;let#[its,rv,p,hz]:=I.tuple hq;let#[f0,f1,f2,f3,f4,f5]:=hf it zq;have hl:=rv.length;exact wpAny_pyNext_tuple_end (I.ok.hd hc) st (show s.heap.IsTuple a its.toArray from p) zB λh' eb=>#[rfl,I.turned (t':=s.toks) (λb o hb e=>eb b o hb e) f0 f1 f3 f4 f5]
 self:=λ_ _ _ _ _ st h=>wpAny_pyIter_tupleiter st h
theorem Ds (it:Addr) (lo:Int) (n:Nat):Turn P w K tg (yz lo n) [it] it (λi h=>IsRangeIter h it (lo+(i:Nat)*1) ((n:Int)-(i:Nat)) 1) where
 mem:=by simp
 obj:=λi h st b hb=>by
  have e:b=it:=by simpa using hb
  subst e;exact#[_,st,λv z=>by
   have z':Data.fields _=Data.cell v:=z;cases z']
 keep:=λi h h' st k=>k it zq _ st
 item:=by
  intro X hP hw hK hc i pins s σ H E I hf st hg;subst hP hw hK;let#[f0,f1,f2,f3,f4,f5]:=hf it zq;have W:=Walks.range (prog:=X.prog) (w:=X.w) (I.ok.hd hc) it lo 1 n;refine W.item i s _ _ hg st λv h' tk hv qO kk=>?_;let#[t,rfl]:=hv;have I1:Inv X pins σ H { s with heap:=h',toks:=tk }:=I.turned (λb o hb e=>kk b o (by simpa using hb) e) f0 f1 f3 f4 f5;refine#[_,rfl,Fl (s:={ s with heap:=h',toks:=tk }) (n:="range_iterator") qO zw zw (by decide) #[.int (lo+i),H,I1,#[t,?_],#[rfl,rfl],qO,λb hb=>(hf b hb).1]];rw[Int.mul_one]
 done:=by
  intro X hP hw hK hc i pins s σ H E I hf st hg;subst hP hw hK;let#[f0,f1,f2,f3,f4,f5]:=hf it zq;exact wpAny_pyNext_range_end (I.ok.hd hc) st (by have:n<=i:=hg;lia) λh' eb=>#[rfl,I.turned (t':=s.toks) (λb o hb e=>eb b o hb e) f0 f1 f3 f4 f5]
 self:=λ_ _ _ _ _ st h=>wpAny_pyIter_rangeiter st h
def Zx (K:PySem.W.Frag) (tl:TE):TI:=λσ H R=>tl σ H λx H1=>∃ a,x=.ref a /\ (∃ xs,bO K H1 a xs) /\ R (HI K a) H1
theorem M9 {l:Expr}{tl:TE}(hl:PE X l tl):PI X tg l (Zx X.K tl):=by
 intro pins s σ H R I h;refine tE (hl pins s σ H _ I h) λv s1 x H1 I1 r1 q1=>?_;let#[a,e,#[xs,hq],q]:=q1;subst e;cases r1;let#[its,rv,p,hz]:=I1.list hq;refine KI p.isList ?_;refine#[s1.heap.objs.size,[s1.heap.objs.size],_,_,H1,rfl,I1.kept (t':=s1.toks) λb o e=>aT _ e,A4 a _,#[_,cg _ zw,rfl,rfl],λb hb=>?_,q];have e:b=s1.heap.objs.size:=by simpa using hb
 subst e;exact I1.wY (au _) (I1.ai.fresh (au _))
theorem Ck {R:It->Hp->zy}{lo hi:Int}{t u v:Tok}{tk:Nat}(I:Inv X pins σ H s) (h1:-(2 ^ 62)<=lo) (h2:lo<2 ^ 62) (h3:-(2 ^ 62)<=hi) (h4:hi<2 ^ 62)
 (q:R (yz lo (hi-lo).toNat) H):wpAny zh X.A (pyIter (.ref s.heap.objs.size)) (Zw X pins σ tg R) E { s with heap:=s.heap.push { cls:=.type "range",data:=.fields (List.toArray [.int lo t,.int hi u,.int 1 v]) },toks:=tk }:=by
 refine wpAny_pyIter_range (IsRange.new ..) (small_one h1 h2 h3 h4) ?_;have I1:Inv X pins σ H { s with heap:=s.heap.push { cls:=.type "range",data:=.fields (List.toArray [.int lo t,.int hi u,.int 1 v]) },toks:=tk }:=I.kept λb o e=>aT _ e;refine#[(s.heap.push { cls:=.type "range",data:=.fields (List.toArray [.int lo t,.int hi u,.int 1 v]) }).objs.size,[(s.heap.push { cls:=.type "range",data:=.fields (List.toArray [.int lo t,.int hi u,.int 1 v]) }).objs.size],_,_,H,rfl,
  I1.kept (t':=tk) λb o e=>aT _ e,Ds _ lo (hi-lo).toNat,?_,λb hb=>?_,q]
 .have e1:lo+((0:Nat):Int)*1=lo:=by simp
  have e2:(((hi-lo).toNat:Nat):Int)-((0:Nat):Int)=Builtin.Range.rangeSize lo hi 1:=by rw[rangeSize_one];split<;>lia
  show IsRangeIter _ _ (lo+((0:Nat):Int)*1) ((((hi-lo).toNat:Nat):Int)-((0:Nat):Int)) 1;rw[e1,e2];exact cg _ zw
 .have e:b=(s.heap.push { cls:=.type "range",data:=.fields (List.toArray [.int lo t,.int hi u,.int 1 v]) }).objs.size:=by simpa using hb
  subst e;exact I1.wY (au _) (I1.ai.fresh (au _))
def adJ (ta:TA):TI:=λσ H R=>ta σ H λvs H1=>∃ j:Int,vs=[.int j] /\ -(2 ^ 62)<=j /\ j<2 ^ 62 /\ R (yz 0 j.toNat) H1
def adK (ta:TA):TI:=λσ H R=>ta σ H λvs H1=>∃ i j:Int,vs=[.int i,.int j] /\ (-(2 ^ 62)<=i /\ i<2 ^ 62 /\ -(2 ^ 62)<=j /\ j<2 ^ 62) /\ R (yz i (j-i).toNat) H1
theorem Gu {a:Expr}{ta:TA}{p:Pos}(hg:Gl X "range") (hm:X.mg "range"=zp) (ha:PA X [a] ta) (hs:starEach [a] X.env=[(zc,eval a X.env)]:=by rfl):PI X tg (.Call (.Name "range" p) [a] [] pos) (adJ ta):=by
 intro pins s σ H R I h;refine Call_ (jj I hg hm boot_range (E7 (tA (ha pos pins s σ H _ I h) λus s1 vs H1 I1 r1 q1=>?_) hs zw));let#[j,e,q1,q2,q]:=q1;subst e;cases r1 with
 |cons r rr=>
   cases rr;let#[t,rfl]:=r;exact call_range_1 (Ck I1 zd zd q1 q2 (by simpa using q))
theorem Gv {a b:Expr}{ta:TA}{p:Pos}(hg:Gl X "range") (hm:X.mg "range"=zp) (ha:PA X [a,b] ta) (hs:starEach [a,b] X.env=[(zc,eval a X.env),(zc,eval b X.env)]:=by rfl) (k8:starEach [b] X.env=[(zc,eval b X.env)]:=by rfl) :
 PI X tg (.Call (.Name "range" p) [a,b] [] pos) (adK ta):=by
 intro pins s σ H R I h;refine Call_ (jj I hg hm boot_range (E7 (tA (ha pos pins s σ H _ I h) λus s1 vs H1 I1 r1 q1=>?_) (by rw[hs,k8]) (by rw[k8];rfl)));let#[i,j,e,#[q1,q2,q3,q4],q]:=q1;subst e;cases r1 with
 |cons r rr=>
   cases rr with
   |cons r' rr=>
     cases rr;let#[t,rfl]:=r;let#[t',rfl]:=r';exact call_range_2 (Ck I1 q1 q2 q3 q4 q)
def HJ (wi:TI) (g:TG) (tb:TS):TS:=λD σ H=>wi σ H λJ H1=>∃ W:Nat->Nat->St->Hp->zy,(∃ m,W 0 m σ H1) /\ ∀ i m σ H,W i m σ H ->
 (J.stop i H /\ D.nx σ H) \/ (J.go i H /\ ∃ N:St->Hp->zy,(∀ σ' H',N σ' H'->∃ m',m'<m /\ W (i+1) m' σ' H') /\ ∀ x H',J.yy i H x H'->g x σ H' λσ2 H2=>tb { D with nx:=N,ct:=N,bk:=D.nx } σ2 H2)
noncomputable def wZ (fp:List Addr) (h:Heap):List (Addr×Obj):=fp.filterMap λb=>(h.get? b).map λo=>(b,o)
theorem ip {h:Heap}{b:Addr}{o:Obj}(hb:b∈fp) (e:h.get? b=some o):(b,o)∈wZ fp h:=List.mem_filterMap.mpr #[b,hb,by rw[e];rfl]
theorem Gw {h:Heap}{p:Addr×Obj}(hp:p∈wZ fp h):p.1∈fp /\ h.get? p.1=some p.2:=by
 let#[b,hb,e]:=List.mem_filterMap.mp hp;cases q:h.get? b with
 |none=>rw[q]at e;cases e
 |some o=>
   rw[q]at e;have e':(b,o)=p:=Option.some.inj e;subst e';exact#[hb,q]
theorem Inv.pinned (I:Inv X pins σ H s) (hf:∀ b∈fp,pP X pins H b) (ho:∀ b∈fp,∃ o,s.heap.get? b=some o /\ ∀ v,o.data≠.cell v):Inv X (pins++wZ fp s.heap) σ H s:=
 I.QT λp hp=>(List.mem_append.mp hp).elim (λz=>I.pin p (kY _ z)) λz=>by
  let#[hb,e]:=Gw z;let#[f0,f1,f2,_]:=hf p.1 hb;let#[o,e',d]:=ho p.1 hb;rw[e]at e';cases e';exact#[e,f0,f1,f2,d]
theorem Inv.yB {pl:List (Addr×Obj)}(I:Inv X (pins++pl) σ H s):Inv X pins σ H s:=I.QT λp hp=>I.pin p (kY _ (qH _ hp))
theorem Dt {body:List Stmt}{wi:TI}{g:TG}{tb:TS}(hp:PassesOwn zh X.A X.env X.xe) (hc:X.calm=zu) (hi:PI X tg iter wi) (hg:PG X tg g) (hb:dt X body tb)
 (hs:∀ x,foldedSetIterable iter X.env x=pure x:=by intro _;rfl):PS X (.For tg iter body [] pos) (HJ wi g tb):=by
 intro pins s σ H D I h;refine wpAny_For (bV (hi pins s σ H _ I h) λv s1 h1=>bV h1 λHG s2 h2=>?_) hs;let#[it,fp,tn,J,H2,e,I2,T,vp,f2,W,#[m0,w0],turn]:=h2;subst e;have stat:∀ {H':Hp},(∀ b∈fp,H' b=zp)->∀ b∈fp,pP X pins H' b:=λhn b hb=>#[hn b hb,(f2 b hb).2];refine codeAny_forLoop_any (λn s'=>∃ i σ' H',Inv X pins σ' H' s' /\ tn i s'.heap /\ (∀ b∈fp,H' b=zp) /\ W i n σ' H') ?_ m0 #[0,σ,H2,I2,vp,λb hb=>(f2 b hb).1,w0];rintro n s3 ⟨i,σ3,H3,I3,uo,Zy,w3⟩;rcases turn i n σ3 H3 w3 with⟨stop,qn⟩|⟨go,N,hN,step⟩
 .refine xX hp (bV (T.done X zw zw zw hc i pins s3 σ3 H3 X.xe I3 (stat Zy) uo stop) ?_);rintro r s4 ⟨hr,I4⟩;subst hr;exact EJ #[σ3,H3,I4,qn]
 .refine xX hp (bV (T.item X zw zw zw hc i pins s3 σ3 H3 X.xe I3 (stat Zy) uo go) ?_);rintro r s4 ⟨u,hr,h4⟩;subst hr;refine xX hp (bV h4 ?_);rintro _ s5 ⟨x,H5,I5,r5,y5,sV,vq⟩;have adL:=I5.pinned (stat vq) (T.obj _ _ sV);refine xX hp (bV (hg _ s5 σ3 H5 x u _ adL r5 (step x H5 y5)) ?_);rintro _ s6 ⟨σ6,H6,I6,q6⟩;refine xX hp (bV (hb _ s6 σ6 H6 _ I6 q6) λf s7 q7=>?_);have again:∀ {σ7:St}{H7:Hp},Inv X (pins++wZ fp s5.heap) σ7 H7 s7->N σ7 H7->∃ m,m<n /\ ∃ i σ' H',Inv X pins σ' H' s7 /\ tn i s7.heap /\ (∀ b∈fp,H' b=zp) /\ W i m σ' H':=λ{σ7 H7} I7 n7=>by
   let#[m',hm,w7]:=hN σ7 H7 n7;refine#[m',hm,i+1,σ7,H7,I7.yB,T.keep _ _ _ sV λb hb o e=>(I7.pin (b,o) (kY _ (kY _ (ip hb e)))).1,λb hb=>?_,w7];let#[o,e,d]:=T.obj _ _ sV b hb;exact(I7.pin (b,o) (kY _ (kY _ (ip hb e)))).2.1
  cases f with
  |next=>let#[σ7,H7,I7,n7]:=q7;exact again I7 n7
  |cont=>let#[σ7,H7,I7,n7]:=q7;exact again I7 n7
  |brk=>let#[σ7,H7,I7,q7]:=q7;exact#[σ7,H7,I7.yB,q7]
  |ret v=>let#[x7,σ7,H7,I7,r7,q7]:=q7;exact#[x7,σ7,H7,I7.yB,r7,q7]
abbrev R2:=V->V->Hp->VK->zy
def ba (X:Cx) (f:zx->zx->Sem zx) (r:R2):zy:=
 ∀ (pins:List (Addr×Obj)) (s:Shared) (σ:St) (H:Hp) (x y:V) (v u:zx) (Q:VK),Inv X pins σ H s->RelV x v->RelV y u->r x y H Q ->
  wpAny zh X.A (f v u) (EP X pins σ Q) X.xe s
def Q3 (X:Cx) (f:zx->Sem zx) (r:V->Hp->VK->zy):zy:=
 ∀ (pins:List (Addr×Obj)) (s:Shared) (σ:St) (H:Hp) (x:V) (v:zx) (Q:VK),Inv X pins σ H s->RelV x v->r x H Q ->
  wpAny zh X.A (f v) (EP X pins σ Q) X.xe s
def dY (X:Cx) (f:zx) (r:List V->Hp->VK->zy):zy:=
 ∀ (pins:List (Addr×Obj)) (s:Shared) (σ:St) (H:Hp) (xs:List V) (us:List zx) (Q:VK),Inv X pins σ H s->Vals xs us->r xs H Q ->
  wpAny zh X.A (call f us) (EP X pins σ Q) X.xe s
def yC (r:R2) (ta tb:TE):TE:=λσ H Q=>ta σ H λx H1=>tb σ H1 λy H2=>r x y H2 Q
def adM (r:V->Hp->VK->zy) (ta:TE):TE:=λσ H Q=>ta σ H λx H1=>r x H1 Q
def rI (C:Int->Int->zy) (g:Int->Int->V):R2:=λx y H Q=>∃ i j,x=.int i /\ y=.int j /\ C i j /\ Q (g i j) H
def eY (g:Int->Int->V):R2:=λx y H Q=>∃ i j,x=.int i /\ y=.int j /\ Q (g i j) H
def rU (g:Int->V):V->Hp->VK->zy:=λx H Q=>∃ i,x=.int i /\ Q (g i) H
section
variable {a b c:Expr} {ta tb tc:TE} 
theorem Q4 (ha:PE X a ta) (hb:PE X b tb) {R:V->V->Hp->zy}(I:Inv X pins σ H s)
 (h:ta σ H λx H1=>tb σ H1 λy H2=>R x y H2) 
 (hf:∀ v u s2 x y H2,Inv X pins σ H2 s2->RelV x v->RelV y u->R x y H2->wpAny zh X.A (f v u) Q X.xe s2) :
 wpAny zh X.A (eval a X.env) (λv s₁=>wpAny zh X.A (eval b X.env) (λu s₂=>wpAny zh X.A (f v u) Q X.xe s₂) X.xe s₁) X.xe s:=by
 refine tE (ha pins s σ H _ I h) λv s1 x H1 I1 r1 q1=>?_;refine tE (hb pins s1 σ H1 _ I1 q1) λu s2 y H2 I2 r2 q2=>?_;exact hf v u s2 x y H2 I2 r1 r2 q2
theorem Cl {op:Operator}{r:R2}(ho:ba X (binaryOp op) r) (ha:PE X a ta) (hb:PE X b tb):PE X (.BinOp a op b pos) (yC r ta tb):=by
 intro pins s σ H Q I h;exact wpAny_BinOp (Q4 ha hb I h λv u s2 x y H2 I2 rx ry q=>ho pins s2 σ H2 x y v u Q I2 rx ry q)
theorem PM {op:UnaryOp}{r:V->Hp->VK->zy}(ho:Q3 X (unaryOp op) r) (ha:PE X a ta):PE X (.UnaryOp op a pos) (adM r ta):=by
 intro pins s σ H Q I h;exact UnaryOp_ (tE (ha pins s σ H _ I h) λv s1 x H1 I1 r1 q1=>ho pins s1 σ H1 x v Q I1 r1 q1)
theorem HK {C:Int->Int->zy}{g:Int->Int->Int}
 (rule:∀ (i j:Int) (t u:Tok) (s:Shared) (Q:zx->Shared->zy) (E:zx->Shared->zy),C i j->Q (.int (g i j) s.toks) { s with toks:=s.toks+1 }->wpAny zh X.A (f (.int i t) (.int j u)) Q E s) :
 ba X f (rI C λi j=>.int (g i j)):=by
 intro pins s σ H x y v u Q I rx ry h;let#[i,j,rfl,rfl,hc,q]:=h;let#[t,rfl]:=rx;let#[t',rfl]:=ry;exact rule i j t t' s _ _ hc #[.int (g i j),H,I.tok _,#[_,rfl],q]
theorem Zz {g:Int->Int->Int}
 (rule:∀ (i j:Int) (t u:Tok) (s:Shared) (Q:zx->Shared->zy) (E:zx->Shared->zy),Q (.int (g i j) s.toks) { s with toks:=s.toks+1 }->wpAny zh X.A (f (.int i t) (.int j u)) Q E s) :
 ba X f (eY λi j=>.int (g i j)):=by
 intro pins s σ H x y v u Q I rx ry h;let#[i,j,rfl,rfl,q]:=h;let#[t,rfl]:=rx;let#[t',rfl]:=ry;exact rule i j t t' s _ _ #[.int (g i j),H,I.tok _,#[_,rfl],q]
theorem HL {g:Int->Int->Bool}
 (rule:∀ (i j:Int) (t u:Tok) (s:Shared) (Q:zx->Shared->zy) (E:zx->Shared->zy),Q (.bool (g i j)) s->wpAny zh X.A (f (.int i t) (.int j u)) Q E s) :
 ba X f (eY λi j=>.bl (g i j)):=by
 intro pins s σ H x y v u Q I rx ry h;let#[i,j,rfl,rfl,q]:=h;let#[t,rfl]:=rx;let#[t',rfl]:=ry;exact rule i j t t' s _ _ #[.bl (g i j),H,I,rfl,q]
def uq (i j:Int):zy:=0<j /\ j<1073741824
def w8 (i j:Int):zy:=0<=j /\ j<=1000000 /\ i.natAbs<2 ^ 64
def ur (i j:Int):zy:=(-(2 ^ 64)<i /\ i<2 ^ 64) \/ (-(2 ^ 64)<j /\ j<2 ^ 64)
theorem ur.ok {i j:Int}(h:ur i j):IntMulOk i j:=by
 rcases h with⟨h1,h2⟩|⟨h1,h2⟩
 .exact .of_left (Xu h1 h2)
 .exact .of_right (Xu h1 h2)
theorem Rt:ba X (binaryOp .Add) (eY λi j=>.int (i+j)):=Zz λ_ _ _ _ _ _ _ q=>add_int q
theorem Ru:ba X (binaryOp .Sub) (eY λi j=>.int (i-j)):=Zz λ_ _ _ _ _ _ _ q=>sub_int q
theorem Rv:ba X (binaryOp .Mult) (rI ur λi j=>.int (i*j)):=HK λ_ _ _ _ _ _ _ hc q=>mul_int q hc.ok
theorem Na:ba X (binaryOp .FloorDiv) (rI uq λi j=>.int (i / j)):=HK λi j _ _ _ _ _ hc q=>by
 have h1:(0:Int)<j:=hc.1;have h2:j<1073741824:=hc.2;exact floordiv_int zd (by rw[Int.fdiv_eq_ediv_of_nonneg i zd];exact q) (.inl (PyProof.noPylong_small zd))
theorem Rw:ba X (binaryOp .Mod) (rI (λ_ j=>0<j) λi j=>.int (i % j)):=HK λi j _ _ _ _ _ hc q=>by
 have h1:(0:Int)<j:=hc;exact mod_int' zd (by rw[Int.fmod_eq_emod_of_nonneg i zd];exact q)
theorem Rx:ba X (binaryOp .Pow) (rI w8 λi j=>.int (i ^ j.toNat)):=HK λ_ _ _ _ _ _ _ hc q=>pow_int_small hc.1 hc.2.1 hc.2.2 q
theorem adN {f:zx->Sem zx}{g:Int->Int}
 (rule:∀ (i:Int) (t:Tok) (s:Shared) (Q:zx->Shared->zy) (E:zx->Shared->zy),Q (.int (g i) s.toks) { s with toks:=s.toks+1 }->wpAny zh X.A (f (.int i t)) Q E s) :
 Q3 X f (rU λi=>.int (g i)):=by
 intro pins s σ H x v Q I rx h;let#[i,rfl,q]:=h;let#[t,rfl]:=rx;exact rule i t s _ _ #[.int (g i),H,I.tok _,#[_,rfl],q]
theorem JE:Q3 X (unaryOp .USub) (rU λi=>.int (-i)):=adN λ_ _ _ _ _ q=>neg_int q
end
noncomputable def ZA:V->V->Bool
 |.non,.non=>zu|.non,.int _=>zu|.int _,.non=>zu|.non,.bl _=>zu|.bl _,.non=>zu|.non,.str _=>zu|.str _,.non=>zu
 |.int _,.int _=>zu|.bl _,.bl _=>zu|.str _,.str _=>zu|.nY _,.nY _=>zu
 |.int _,.str _=>zu|.str _,.int _=>zu|.bl _,.str _=>zu|.str _,.bl _=>zu
 |_,_=>zc
def Q5:R2:=λx y H Q=>ZA x y=zu /\ Q (.bl (decide (x=y))) H
def Q6:R2:=λx y H Q=>ZA x y=zu /\ Q (.bl (!decide (x=y))) H
theorem Fm {i j:Int}:decide (V.int i=V.int j)=(i==j):=by
 rw[pN];simp
theorem JF {i j:Bool}:decide (V.bl i=V.bl j)=(i==j):=by
 rw[pN];simp
theorem Fn {i j:Str}:decide (V.str i=V.str j)=(i==j):=by
 rw[pN];simp
theorem Fo {i j:Array UInt8}:decide (V.nY i=V.nY j)=(i.toList==j.toList):=by
 rw[pN];cases i;cases j;simp
section
variable {a b c:Expr} {ta tb tc:TE} 
theorem fZ {Q:VK}{k k':Bool}(I:Inv X pins σ H s) (q:Q (.bl k) H) (e:k=k'):EP X pins σ Q (.bool k') s:=by
 subst e;exact#[.bl k,H,I,rfl,q]
theorem TM:ba X (compareOp .Eq) Q5:=by
 intro pins s σ H x y v u Q I rx ry h;let#[hs,q]:=h;cases x with
 |non=>
   cases rx;cases y with
   |non=>cases ry;exact acO (fZ I q zq)
   |bl j=>cases ry;exact acP (fZ I q zq)
   |int j=>let#[t',rfl]:=ry;exact acQ (fZ I q zq)
   |str j=>let#[t',rfl]:=ry;exact acR (fZ I q zq)
   |_=>exact absurd (show zc=zu from hs) cT
 |bl i=>
   cases rx;cases y with
   |non=>cases ry;exact acS (fZ I q zq)
   |bl j=>cases ry;exact eq_bool (fZ I q JF)
   |str j=>let#[t',rfl]:=ry;exact ac2 (fZ I q zq)
   |_=>exact absurd (show zc=zu from hs) cT
 |int i=>
   let#[t,rfl]:=rx;cases y with
   |non=>cases ry;exact acT (fZ I q zq)
   |int j=>let#[t',rfl]:=ry;exact eq_int (fZ I q Fm)
   |str j=>let#[t',rfl]:=ry;exact ac3 (fZ I q zq)
   |_=>exact absurd (show zc=zu from hs) cT
 |str i=>
   let#[t,rfl]:=rx;cases y with
   |non=>cases ry;exact acU (fZ I q zq)
   |bl j=>cases ry;exact ac4 (fZ I q zq)
   |int j=>let#[t',rfl]:=ry;exact ac5 (fZ I q zq)
   |str j=>let#[t',rfl]:=ry;exact eq_str (fZ I q Fn)
   |_=>exact absurd (show zc=zu from hs) cT
 |nY i=>
   let#[t,rfl]:=rx;cases y with
   |nY j=>let#[t',rfl]:=ry;exact PySem.W.eq_bytes (fZ I q Fo)
   |_=>exact absurd (show zc=zu from hs) cT
 |_=>cases y<;>exact absurd (show zc=zu from hs) cT
theorem PN:ba X (compareOp .NotEq) Q6:=by
 intro pins s σ H x y v u Q I rx ry h;let#[hs,q]:=h;cases x with
 |non=>
   cases rx;cases y with
   |non=>cases ry;exact acV (fZ I q zq)
   |bl j=>cases ry;exact acW (fZ I q zq)
   |int j=>let#[t',rfl]:=ry;exact acX (fZ I q zq)
   |str j=>let#[t',rfl]:=ry;exact acY (fZ I q zq)
   |_=>exact absurd (show zc=zu from hs) cT
 |bl i=>
   cases rx;cases y with
   |non=>cases ry;exact acZ (fZ I q zq)
   |bl j=>cases ry;exact ne_bool (fZ I q (congrArg not JF))
   |str j=>let#[t',rfl]:=ry;exact ac6 (fZ I q zq)
   |_=>exact absurd (show zc=zu from hs) cT
 |int i=>
   let#[t,rfl]:=rx;cases y with
   |non=>cases ry;exact ac0 (fZ I q zq)
   |int j=>let#[t',rfl]:=ry;exact ne_int (fZ I q (congrArg not Fm))
   |str j=>let#[t',rfl]:=ry;exact ac7 (fZ I q zq)
   |_=>exact absurd (show zc=zu from hs) cT
 |str i=>
   let#[t,rfl]:=rx;cases y with
   |non=>cases ry;exact ac1 (fZ I q zq)
   |bl j=>cases ry;exact ac8 (fZ I q zq)
   |int j=>let#[t',rfl]:=ry;exact ac9 (fZ I q zq)
   |str j=>let#[t',rfl]:=ry;exact ne_str (fZ I q (congrArg not Fn))
   |_=>exact absurd (show zc=zu from hs) cT
 |nY i=>
   let#[t,rfl]:=rx;cases y with
   |nY j=>let#[t',rfl]:=ry;exact PySem.W.ne_bytes (fZ I q (congrArg not Fo))
   |_=>exact absurd (show zc=zu from hs) cT
 |_=>cases y<;>exact absurd (show zc=zu from hs) cT
theorem TN:ba X (compareOp .Lt) (eY λi j=>.bl (decide (i<j))):=HL λ_ _ _ _ _ _ _ q=>lt_int q
theorem TQ:ba X (compareOp .LtE) (eY λi j=>.bl (decide (i<=j))):=HL λ_ _ _ _ _ _ _ q=>le_int q
theorem TR:ba X (compareOp .Gt) (eY λi j=>.bl (decide (j<i))):=HL λ_ _ _ _ _ _ _ q=>gt_int q
theorem TU:ba X (compareOp .GtE) (eY λi j=>.bl (decide (j<=i))):=HL λ_ _ _ _ _ _ _ q=>ge_int q
theorem ba.or {r r':R2}(h:ba X f r) (h':ba X f r'):ba X f (λx y H Q=>r x y H Q \/ r' x y H Q):=by
 intro pins s σ H x y v u Q I rx ry q;rcases q with q|q
 .exact h pins s σ H x y v u Q I rx ry q
 .exact h' pins s σ H x y v u Q I rx ry q
theorem adO (b:Expr) (h:op≠.In:=by decide) (h2:op≠.NotIn:=by decide):behindInMarks op b=zc:=by
 have e1:(op==CmpOp.In)=zc:=by cases op<;>first|rfl|exact absurd zw h
 have e2:(op==CmpOp.NotIn)=zc:=by cases op<;>first|rfl|exact absurd zw h2
 cases b<;>simp[behindInMarks,e1,e2]
theorem Nb {r:R2}(ho:ba X (compareOp op) r) (ha:PE X a ta) (hb:PE X b tb) (hm:behindInMarks op b=zc):PE X (.Compare a [op] [b] pos) (yC r ta tb):=by
 intro pins s σ H Q I h;exact Xo (Q4 ha hb I h λv u s2 x y H2 I2 rx ry q=>ho pins s2 σ H2 x y v u Q I2 rx ry q) hm
noncomputable def adP (t:TE):TT:=λσ H Q=>t σ H λx H'=>∃ k,x=.bl k /\ Q k H'
theorem Fp {r:R2}(ho:ba X (compareOp op) r) (ha:PE X a ta) (hb:PE X b tb) (hm:behindInMarks op b=zc):PT X (.Compare a [op] [b] pos) (adP (yC r ta tb)):=by
 intro pins s σ H Q I h;refine Xp (tE (ha pins s σ H _ I h) λv s1 x H1 I1 r1 q1=>tE (hb pins s1 σ H1 _ I1 q1) λu s2 y H2 I2 r2 q2=>tE (ho pins s2 σ H2 x y v u _ I2 r1 r2 q2) λc s3 z H3 I3 r3 hh=>?_) hm;let#[k,e,q3]:=hh;subst e;cases r3;exact su #[H3,I3,q3]
def ZC (r r':R2) (ta tb tc:TE):TE:=λσ H Q=>ta σ H λx H1=>tb σ H1 λy H2=>r x y H2 λz H3=>∃ k,z=.bl k /\
 (if k=zu then tc σ H3 λw' H4=>r' y w' H4 Q else Q (.bl zc) H3)
theorem JG {nE:CmpOp}{r r':R2}(ho:ba X (compareOp op) r) (qM:ba X (compareOp nE) r') (ha:PE X a ta) (hb:PE X b tb) (hc:PE X c tc)
 (hm:lastMarks [op,nE] [b,c]=zc:=by with_unfolding_all rfl):PE X (.Compare a [op,nE] [b,c] pos) (ZC r r' ta tb tc):=by
 intro pins s σ H Q I h;refine Compare_chain (tE (ha pins s σ H _ I h) λv s1 x H1 I1 r1 q1=>chain_link (tE (hb pins s1 σ H1 _ I1 q1) λu s2 y H2 I2 r2 q2=>tE (ho pins s2 σ H2 x y v u _ I2 r1 r2 q2) λd s3 z H3 I3 r3 hh=>?_)) hm;let#[k,e,q3]:=hh;subst e;cases r3;refine su ?_;cases k with
 |false=>exact ite_ff #[.bl zc,H3,I3,rfl,q3]
 |true=>exact ite_tt (chain_last (tE (hc pins s3 σ H3 _ I3 q3) λw' s4 z' H4 I4 r4 q4=>qM pins s4 σ H4 y z' u w' Q I4 r2 r4 q4))
theorem w9:(sizeLine:Nat)<2 ^ 63:=by rw[bj];decide
theorem Du:ba X (binaryOp .Add) (λx y H Q=>∃ i j,x=.str i /\ y=.str j /\ i.length+j.length<=sizeLine /\ Q (.str (i++j)) H):=by
 intro pins s σ H x y v u Q I rx ry h;let#[i,j,rfl,rfl,hz,q]:=h;let#[t,rfl]:=rx;let#[t',rfl]:=ry;exact add_str (λt' tk=>#[.str (i++j),H,I.tok _,#[_,rfl],q]) hz
theorem vals1 {x:V}(r:Vals [x] us):∃ u,us=[u] /\ RelV x u:=by
 cases r with
 |cons r1 r2=>cases r2;exact#[_,rfl,r1]
theorem vals2 {x y:V}(r:Vals [x,y] us):∃ u w',us=[u,w'] /\ RelV x u /\ RelV y w':=by
 cases r with
 |cons r1 r2=>
   cases r2 with
   |cons r3 r4=>cases r4;exact#[_,_,rfl,r1,r3]
theorem Gx (hc:X.calm=zu):dY X (.builtin "max") (λxs H Q=>∃ i j,xs=[.int i,.int j] /\ Q (.int (if j>i then j else i)) H):=by
 intro pins s σ H xs us Q I r h;let#[i,j,rfl,q]:=h;let#[u,w',rfl,#[t,rfl],#[t',rfl]]:=vals2 r;refine max_two_ints (I.ok.hd hc) λh' tk k=>#[_,H,I.kept k,?_,q];by_cases hj:j>i
 .rw[if_pos hj,if_pos hj];exact#[_,rfl]
 .rw[if_neg hj,if_neg hj];exact#[_,rfl]
theorem Gy (hc:X.calm=zu):dY X (.builtin "min") (λxs H Q=>∃ i j,xs=[.int i,.int j] /\ Q (.int (if j<i then j else i)) H):=by
 intro pins s σ H xs us Q I r h;let#[i,j,rfl,q]:=h;let#[u,w',rfl,#[t,rfl],#[t',rfl]]:=vals2 r;refine min_two_ints (I.ok.hd hc) λh' tk k=>#[_,H,I.kept k,?_,q];by_cases hj:j<i
 .rw[if_pos hj,if_pos hj];exact#[_,rfl]
 .rw[if_neg hj,if_neg hj];exact#[_,rfl]
end
structure Q7 (h:Heap) (x dx C:Addr) (mA:Str->Option zx):zy where
 obj:h.get? x=some (PySem.W.instObj C dx)
 ns:h.Ns1 dx mA
 ne:dx≠x
theorem Gz {h:Heap}{dx:Addr}(n:h.Ns1 dx mA):∃ od,h.get? dx=some od /\ ∀ name,PySem.W.lookIn name od=some (mA name):=by
 let#[o,es,ep,ho,hd,hk,_,hm]:=n;refine#[o,ho,λname=>?_];have e:=hm name;unfold nsFind findBy at e;rw[<-Array.find?_toList]at e;unfold PySem.W.lookIn;rw[hd];dsimp only;split
 .ext y q;rw[q]at e;exact congrArg some e
 .ext q;rw[q]at e;have a:es.toList.any (·.refKey)=zc:=by
   rw[Qa];intro y hy;let#[z,t,Q8]:=hk y (Array.mem_toList_iff.mp hy);simp[DictEntry.refKey,Q8]
  have a':¬ es.toList.any (·.refKey)=zu:=by rw[a];exact cT
  rw[if_neg a'];exact congrArg some e
theorem Q7.look {h:Heap}{x dx C:Addr}(I:Q7 h x dx C mA):∃ od,PySem.W.InstAt h x (PySem.W.instObj C dx) C (some od) /\ ∀ name,PySem.W.lookIn name od=some (mA name):=
 let ⟨od,ho,hl⟩:=Gz I.ns
 #[od,#[I.obj,rfl,rfl,ho],hl]
section
variable {x dx C f:Addr} {name:Str} {v:zx}
end
theorem nZ.some_of {o:Option zx}(r:nZ (some v) o):∃ u,o=some u /\ RelV v u:=by
 cases o with
 |none=>exact(show False from r).elim
 |some u=>exact#[u,rfl,r]
section
variable {h:Heap} {C dx:Addr} {fs adg:List (Str × V)}
theorem Nc (ai:ck P w H h) (e:H a=some (.ins C dx fs)):∃ mA,Q7 h a dx C mA /\ (∀ f,nZ (fs.lookup f) (mA f)) /\ PySem.Within mA (fs.map (·.1)) /\ fs.length<=1000 /\ H dx=some (.own a):=by
 let#[d,z,ne,ob,mA,n,r,q]:=(show a9 P w H h a (.ins C dx fs) from ai a _ e);exact#[mA,#[ob,n,ne],r,q,z,d]
end
structure Q9 (K:PySem.W.Frag) (C:Addr):zy where
 pg:PySem.W.plainGet K C Str.empty=zu
 hd:PySem.W.hasDictIn K C=zu
 po:PySem.W.plainOver K C=zu
 sa:PySem.W.findIn K (.ref C) "__setattr__"=some (some (.builtin "object.__setattr__"))
theorem Q9.get {C:Addr}(c:Q9 K C) (f:Str):PySem.W.plainGet K C f=zu:=c.pg
section
variable {C dx:Addr} {fs:List (Str × V)} {f:Str} 
end
section
variable {o value:Expr} {f:Str} {HM:Pos} {ta tv:TE}
end
section
variable {c:zx} {b:Bool}
inductive n8 (K:PySem.W.Frag) (H:Hp):V->zx->zy where
 |non:n8 K H .non (.type "NoneType")
 |bl (x:Bool):n8 K H (.bl x) (.type "bool")
 |int (i:Int):n8 K H (.int i) (.type "int")
 |str (x:Str):n8 K H (.str x) (.type "str")
 |sM (x:UInt64):n8 K H (.sM x) (.type "float")
 |lst {a:Addr}{xs:List V}(e:H a=some (.lst xs)):n8 K H (.ref a) (.type "list")
 |bh {a:Addr}{o:Obj}{xs:List V}(e:H a=some (.bh o (.lst xs))):n8 K H (.ref a) (.type "list")
 |tup {a:Addr}{xs:List V}(e:H a=some (.tup xs)):n8 K H (.ref a) (.type "tuple")
 |dK {a:Addr}{kvs:List (Key×V)}(e:H a=some zal):n8 K H (.ref a) (.type "dict")
 |dT {a:Addr}{kvs:List (List Key×V)}(e:H a=some (.dT kvs)):n8 K H (.ref a) (.type "dict")
 |ins {a C dx:Addr}{fs:List (Str×V)}(e:H a=some (.ins C dx fs)) (cl:Q9 K C) (ha:PySem.W.findIn K (.ref C) "__class__"=some (some (.builtin "object.__class__")))
  (hn:PySem.W.specialIn K (.builtin "object.__class__") "__get__"=some (some (.builtin "getset_descriptor.__get__"))) (ZD:PySem.W.takesIn K (.builtin "object.__class__")=some zu)
  (hm:PySem.W.mroIn K C (.type "object")=some zu):n8 K H (.ref a) (.ref C)
theorem GA {x:V}{t:zx}(I:Inv X pins σ H s) (rx:RelV x u) (ty:n8 X.K H x t) (e:PySem.W.kitOne X.K t c=some b) (h:∀ tk,Q (.bool b) { s with toks:=tk }) :
 wpAny zh A (call (.builtin "isinstance") [u,c]) Q E s:=by
 cases ty with
 |non=>cases (show u=Value.none from rx);exact qp PySem.W.kitx_none I.dX True.intro e (λz=>nomatch z) h
 |bl y=>cases (show u=Value.bool y from rx);exact qp PySem.W.kitx_bool I.dX True.intro e (λz=>nomatch z) h
 |int i=>let#[t,q]:=(show ∃ t,u=Value.int i t from rx);cases q;exact qp PySem.W.kitx_int I.dX True.intro e (λz=>nomatch z) h
 |str y=>let#[t,q]:=(show ∃ t,u=Value.str y t from rx);cases q;exact qp PySem.W.kitx_str I.dX True.intro e (λz=>nomatch z) h
 |sM y=>let#[t,q]:=(show ∃ t,u=Value.float y t from rx);cases q;exact qp PySem.W.kitx_float I.dX True.intro e (λz=>nomatch z) h
 |@lst a xs ea=>
   cases (show u=Value.ref a from rx);let#[_,_,n,_,h1]:=(show a9 X.prog X.w H s.heap a (.lst xs) from I.ai a _ ea);exact qp YK I.dX #[_,h1,rfl] e (λz=>nomatch z) h
 |@bh a ob xs ea=>
   cases (show u=Value.ref a from rx);let#[_,_,_,n,_,h1]:=(show a9 X.prog X.w H s.heap a (.bh ob (.lst xs)) from I.ai a _ ea);exact qp YK I.dX #[_,h1,rfl] e (λz=>nomatch z) h
 |@tup a xs ea=>
   cases (show u=Value.ref a from rx);let#[_,_,_,p]:=(show a9 X.prog X.w H s.heap a (.tup xs) from I.ai a _ ea);let#[o,h1,h2,_]:=p;exact qp PySem.W.kitx_tuple I.dX #[o,h1,h2] e (λz=>nomatch z) h
 |@dK a kvs ea=>
   cases (show u=Value.ref a from rx);let#[_,_,vs,_,p]:=(show a9 X.prog X.w H s.heap a zal from I.ai a _ ea);let#[o,es,ep,h1,h2,_]:=p;exact qp YL I.dX #[o,h1,h2.1] e (λz=>nomatch z) h
 |@dT a kvs ea=>
   cases (show u=Value.ref a from rx);let#[_,_,xs,_,o,es,ep,h1,h2,_]:=(show a9 X.prog X.w H s.heap a (.dT kvs) from I.ai a _ ea);exact qp YL I.dX #[o,h1,h2.1] e (λz=>nomatch z) h
 |@ins a C dx fs ea cl ha hn ZD hm=>
   cases (show u=Value.ref a from rx);let#[mA,O,_]:=Nc I.ai ea;let#[od,J,_]:=O.look;exact qp (PySem.W.kitx_own (cl.get _) cl.hd ha hn ZD hm) I.dX J e (λz=>nomatch z) h
end
structure cx (k:Nat) (A:Around):zy where
 hd:A.handled=zp
 dp:A.depth+3*k+5<recursionLimit
 un:A.units+16*k+200<cLine
 gd:A.guards=some []
theorem cx.mono {k:Nat}(r:cx k A) (h:j<=k):cx j A:=#[r.hd,by have:=r.dp;lia,by have:=r.un;lia,r.gd]
theorem cx.deeper {k:Nat}{A:Around}(r:cx (k+1) A) (env:Env):cx k (A.deeper env):=
 #[r.hd,by have:=r.dp;show A.depth+1+3*k+5<_;lia,by have:=r.un;show A.units+3+16*k+200<_;lia,by first|exact r.gd|(rw[<-r.gd];first|rfl|simp[Around.under,Code.isGuard,guardIds])]
theorem cx.depth {k:Nat}{A:Around}(r:cx k A):A.depth<recursionLimit:=by have:=r.dp;lia
theorem cx.units {k:Nat}{A:Around}(r:cx k A):A.units+64<cLine:=by have:=r.un;lia
def yD:TA:=λ_ H Q=>Q [] H
def xa (ta:TE) (tr:TA):TA:=λσ H Q=>ta σ H λx H1=>tr σ H1 λxs H2=>Q (x::xs) H2
section
variable {te:TE} {t:TA} 
theorem fS:PA X [] yD:=λ_ _ _ _ H Q I h=>vj #[[],H,I,.nil,h]
theorem fA (ha:PE X e te) (hr:PA X es t) (hs:starEach (e::es) X.env=zaB::starEach es X.env:=by rfl):PA X (e::es) (xa te t):=by
 intro pos pins s σ H Q I h;rw[hs];show wpAny _ _ (spliced (zaB::backTo pos (starEach es X.env))) _ _ s;refine vk (tE (ha pins s σ H _ I h) λu s1 x H1 I1 r1 q1=>?_);exact tA (hr pos pins s1 σ H1 _ I1 q1) λus s2 xs H2 I2 r2 q2=>#[x::xs,H2,I2,.cons r1 r2,q2]
def adQ (t:TA):TE:=λσ H Q=>t σ H λxs H1=>xs.length<=sizeLine /\ ∀ p,H1 p=zp->Q (.ref p) (upd H1 p (.tup xs))
def adR (t:TA):TE:=λσ H Q=>t σ H λxs H1=>xs.length<=sizeLine /\ ∀ p,H1 p=zp->Q (.ref p) (upd H1 p (.lst xs))
theorem JH {x1}(h:PA X es t):PE X (.Tuple es x1 pos) (adQ t):=by
 intro pins s σ H Q I hq;refine wpAny_Tuple_spliced (tA (h pos pins s σ H _ I hq) λus s1 xs H1 I1 r ⟨z,q⟩=>#[by rw[<-r.length];exact z,?_]);have hf:H1 s1.heap.objs.size=zp:=I1.ai.fresh (au _);refine#[.ref s1.heap.objs.size,upd H1 s1.heap.objs.size (.tup xs),I1.laid (t':=s1.toks) (λb u e=>aT _ e) (au _) ?_,rfl,q _ hf];exact#[z,us,r,#[_,cg _ zw,rfl,_,rfl]]
theorem jR (h:PA X es t):PE X (.List es pos) (adR t):=by
 intro pins s σ H Q I hq;refine wpAny_List_spliced (tA (h pos pins s σ H _ I hq) λus s1 xs H1 I1 r ⟨z,q⟩=>#[by rw[<-r.length];exact z,?_]);have hf:H1 s1.heap.objs.size=zp:=I1.ai.fresh (au _);refine#[.ref s1.heap.objs.size,upd H1 s1.heap.objs.size (.lst xs),I1.laid (t':=s1.toks) (λb u e=>aT _ e) (au _) ?_,rfl,q _ hf];exact#[z,us,0,r,cg _ zw]
end
abbrev Sp:=List V->Hp->VK->XK->zy
abbrev n9:=List Env->Hp->Shared->XK->zx->Shared->zy
structure xb (P:Program) (w:World) (K:PySem.W.Frag) (mg:Str->Option zx) (base:Heap) (A:Around) (outer:List Env) (s:Shared) (H:Hp):zy where
 frames:A.frames=some outer
 mod:Mod K mg base
 bs:∀ b o,base.get? b=some o->s.heap.get? b=some o /\ H b=zp
 sP:base.objs.size<=s.heap.objs.size
 k6:s.heap.FunFrames base outer
 rN:∀ b∈dW outer,H b=zp
 ai:ck P w H s.heap
 bare:AllBare s.gens
def CE (outer:List Env) (P:Program) (w:World) (H:Hp) (s:Shared) (Q:VK) (u:zx) (s':Shared):zy:=
 ∃ v H',s'.os=s.os /\ AllBare s'.gens /\ Un (dW outer) [] H H' s.heap s'.heap /\ ck P w H' s'.heap /\ RelV v u /\ Q v H'
def CR (CX:n9) (outer:List Env) (P:Program) (w:World) (H:Hp) (s:Shared) (Q:VK) (E:XK) (r:Result) (s':Shared):zy:=
 match r with
 |.ok (.ret u)=>CE outer P w H s Q u s'
 |.ok _=>False
 |.error e=>CX outer H s E e s'
structure eZ (P:Program) (w:World) (K:PySem.W.Frag) (mg:Str->Option zx) (base:Heap) (CX:n9) (k:Nat) (f:Addr) (fd:FuncData) (ps:List Str) (sp:Sp):zy where
 len:∀ vs H Q E,sp vs H Q E->vs.length=ps.length
 run:∀ (A:Around) (outer:List Env) (s:Shared) (H:Hp) (args:Args) (us:List zx) (vs:List V) (Q:VK) (E:XK),cx k A->xb P w K mg base A outer s H->BindsTo s fd args (ps.zip us)->Vals vs us->sp vs H Q E ->
  codeAny (model P w) A (.call (.ref f) args) (CR CX outer P w H s Q E) s
theorem eZ.mono {P:Program}{w:World}{K:PySem.W.Frag}{mg:Str->Option zx}{base:Heap}{CX:n9}{j k:Nat}{f:Addr}{fd:FuncData}{ps:List Str}{sp:Sp}(F:eZ P w K mg base CX j f fd ps sp) (h:j<=k) :
 eZ P w K mg base CX k f fd ps sp:=#[F.len,λA outer s H args us vs Q E hr=>F.run A outer s H args us vs Q E (hr.mono h)]
section
variable {s':Shared}
theorem Inv.ZE (I:Inv X pins σ H s):xb X.prog X.w X.K X.mg X.base X.A X.stack s H:=
 #[I.ok.frames,I.ok.mod,I.bs,bU I.ok.sP I.sz,I.stack,I.QS,I.ai,I.bare]
theorem Inv.after {Q:VK}(I:Inv X pins σ H s) (h:CE X.stack X.prog X.w H s Q u s'):EP X pins σ Q u s':=by
 let#[v,H',os,bare,un,ai,r,q]:=h;let#[hh,g,d,t,adS]:=s';obtain rfl:adS=s.os:=os;exact#[v,H',I.call (h':=hh) (g':=g) (d':=d) (t':=t) (ch:=[]) un ai bare (λb z=>absurd z zq),r,q]
end
def Vi (sp:Sp) (pQ:List V) (E:XK) (t:TA):TE:=λσ H Q=>t σ H λvs H1=>sp (vs++pQ) H1 Q E
def Binds (K:PySem.W.Frag) (fd:FuncData) (ps:List Str) (ds:List zx):zy:=
 ∀ (s:Shared) (us:List zx),K.In s.heap->(us++ds).length=ps.length->BindsTo s fd #[us,[]] (ps.zip (us++ds))
theorem Binds.all {ps:List Str}(h:∀ us:List zx,us.length=ps.length->bindArgs fd #[us,[]]=pure (ps.zip us)):Binds K fd ps []:=λs us _ hl=>by
 rw[sC]at hl ⊢;exact .of_eq (h us hl)
def Passes (CX:n9) (X:Cx) (E:XK):zy:=∀ (pins:List (Addr×Obj)) (σ:St) (H:Hp) (s:Shared) (e:zx) (s':Shared),Inv X pins σ H s->CX X.stack H s E e s'->X.xe e s'
section
variable {CX:n9} {k:Nat} {f C:Addr} {ps:List Str} {sp:Sp} {pQ:List V} {ds:List zx} {E:XK} {m:Str} {p:Pos} {o:Expr} {ta:TE} {t:TA}
theorem Ry {Q:VK}{vs:List V}(F:eZ X.prog X.w X.K X.mg X.base CX k f fd ps sp) (hr:cx k X.A) (hb:Binds X.K fd ps ds) (hd:Vals pQ ds) (hx:Passes CX X E)
 (I:Inv X pins σ H s) (r:Vals vs us) (h:sp (vs++pQ) H Q E):wpAny zh X.A (call (.ref f) us) (EP X pins σ Q) X.xe s:=by
 have r2:Vals (vs++pQ) (us++ds):=r.append hd;have hl:(us++ds).length=ps.length:=by rw[<-r2.length];exact F.len _ _ _ _ h
 refine wpAny_call (xY (F.run X.A X.stack s H #[us,[]] (us++ds) (vs++pQ) Q E hr I.ZE (hb s us I.dX hl) r2 h) λr s' hq=>?_);cases r with
 |error e=>exact hx pins σ H s e s' I hq
 |ok fl=>
   cases fl with
   |ret u=>exact I.after hq
   |next=>exact False.elim hq
   |brk=>exact False.elim hq
   |cont=>exact False.elim hq
theorem Nd (F:eZ X.prog X.w X.K X.mg X.base CX k f fd ps sp) (hr:cx k X.A) (hg:Gl X x) (hm:X.mg x=some (.ref f)) (hk:PySem.W.keepIn X.K (.ref f)=zu) (hb:Binds X.K fd ps ds) (hd:Vals pQ ds) (hx:Passes CX X E)
 (ha:PA X (e::es) t) (cY:(x==("__debug__":Str))=zc:=by decide) (he:starEach (e::es) X.env=zaB::starEach es X.env:=by rfl) (kA:(backTo pos (starEach es X.env)).any (·.1)=zc:=by rfl) :
 PE X zah (Vi sp pQ E t):=by
 intro pins s σ H Q I h;refine sv (oR I hg hm ?_ cY);refine YM (h₀:=X.base) I.ok.mod.wR hk (tA (ha pos pins s σ H _ I h) λus s1 vs H1 I1 r q=>#[I1.dX,?_]) he kA;exact Ry F hr hb hd hx I1 r q
end
section
variable {CX:n9} {k:Nat} {f C:Addr} {ps ks:List Str} {sp:Sp} {E:XK} {m:Str} {p ah5:Pos} {o:Expr} {ah6:List Keyword} {te ta:TE} {t tk:TA} {nm:Option Str}
variable {g:List zx -> List zx -> List zx} {gV:List V -> List V -> List V}
end
structure qv (N P:List Str) (sc:Scope):zy where
 kind:sc.kind=.function
 co:sc.isCoroutine=zc
 gen:sc.isGenerator=zc
 nd:N.Nodup
 pre:N.take P.length=P
 par:∀ x∈P,sc.names.lookup x=some .local \/ sc.names.lookup x=some .cell
 adT:∀ y∈sc.names,y.2≠.free
theorem A5 {kindOf:Str->Option NameKind}{x:Str}:∀ {binds:List (Str×zx)}{m:Str->Option zx},(∀ v,(x,v)∉binds)->bindL kindOf binds m x=m x
 |[],_,_=>rfl
 | (n,v)::r,m,h=>by
   unfold bindL;rw[A5 λw hw=>h w (bD _ hw)];split
   .have:x≠n:=by rintro rfl;exact h v bF
    simp[this]
   .rfl
theorem A6 {kindOf:Str->Option NameKind}{x:Str}:∀ {binds:List (Str×zx)}{m:Str->Option zx},(∀ v,(x,v)∉binds)->bindC kindOf binds m x=m x
 |[],_,_=>rfl
 | (n,v)::r,m,h=>by
   unfold bindC;rw[A6 λw hw=>h w (bD _ hw)];split
   .rfl
   .have:x≠n:=by rintro rfl;exact h v bF
    simp[this]
theorem A7 {kindOf:Str->Option NameKind}{x:Str}{v:zx}:∀ {P:List Str}{vs:List zx}{i:Nat}{m:Str->Option zx},P.Nodup->P[i]?=some x->vs[i]?=some v->kindOf x=some .local ->
 bindL kindOf (P.zip vs) m x=some v
 |[],_,_,_,_,h,_,_=>by simp at h
 |_::_,[],_,_,_,_,h,_=>by simp at h
 | p::P,w::vs,0,m,nd,h1,h2,hk=>by
   simp at h1 h2;subst h1;subst h2;show bindL kindOf ((p,w)::P.zip vs) m p=_;unfold bindL;rw[A5 λv hv=>(rL.mp nd).1 (EO hv).1,if_pos hk];simp
 | p::P,w::vs,i+1,m,nd,h1,h2,hk=>by
   show bindL kindOf ((p,w)::P.zip vs) m x=_;unfold bindL;exact A7 (i:=i) (rL.mp nd).2 (by simpa using h1) (by simpa using h2) hk
theorem A8 {kindOf:Str->Option NameKind}{x:Str}{v:zx}:∀ {P:List Str}{vs:List zx}{i:Nat}{m:Str->Option zx},P.Nodup->P[i]?=some x->vs[i]?=some v->kindOf x≠some .local ->
 bindC kindOf (P.zip vs) m x=some v
 |[],_,_,_,_,h,_,_=>by simp at h
 |_::_,[],_,_,_,_,h,_=>by simp at h
 | p::P,w::vs,0,m,nd,h1,h2,hk=>by
   simp at h1 h2;subst h1;subst h2;show bindC kindOf ((p,w)::P.zip vs) m p=_;unfold bindC;rw[A6 λv hv=>(rL.mp nd).1 (EO hv).1,if_neg hk];simp
 | p::P,w::vs,i+1,m,nd,h1,h2,hk=>by
   show bindC kindOf ((p,w)::P.zip vs) m x=_;unfold bindC;exact A8 (i:=i) (rL.mp nd).2 (by simpa using h1) (by simpa using h2) hk
noncomputable def start (N:List Str) (vs:List V):St:=vs.map some++List.replicate (N.length-vs.length) zp
noncomputable def pb (CX:n9) (P:Program) (w:World) (K:PySem.W.Frag) (mg:Str->Option zx) (base:Heap) (N:List Str) (qual:Str) (scope:Scope) (f:Addr) (cd:zx) (A:Around) (outer:List Env) (s:Shared) (H:Hp) (E:XK):Cx where
 prog:=P
 w:=w
 K:=K
 mg:=mg
 base:=base
 A:=A.deeper (envOfC qual scope s.heap.objs.size f cd)
 N:=N
 s₀:=s
 H₀:=H
 env:=envOfC qual scope s.heap.objs.size f cd
 outer:=outer
 stack:=envOfC qual scope s.heap.objs.size f cd::outer
 ex:=[]
 calm:=zu
 fn:=λ_=>zu
 pn:=[]
 xe:=λe s'=>wpAny (model P w) (A.deeper (envOfC qual scope s.heap.objs.size f cd)) (leaving (envOfC qual scope s.heap.objs.size f cd) e) (λ_ Vj=>CX outer H s E e Vj) (λe' Vj=>CX outer H s E e' Vj) s'
theorem Aa {sc:Scope}(h:sc.names.lookup x=some .cell):∃ c,(cellsFrom n sc.names []).lookup x=some c:=by
 have q:=QC sc.names n [] (.inl h);exact Option.isSome_iff_exists.mp q
theorem A9 {CX:n9}{ps:List Str}{scope:Scope}{f:Addr}{cd:zx}{s1:Shared}{E:XK}{vs:List V}
 (S:qv N ps scope) (hd:A.handled=zp) (e0:xb P w K mg base A outer s H) (hl:vs.length=ps.length) (r:Vals vs us)
 (x:InCallC s s.heap.objs.size (bindL (envOfC qual scope s.heap.objs.size f cd).kindOf (ps.zip us) λ_=>zp) (cellsFrom zK scope.names []) (bindC (envOfC qual scope s.heap.objs.size f cd).kindOf (ps.zip us) λ_=>zp) s1) :
 Inv (pb CX P w K mg base N qual scope f cd A outer s H E) [] (start N vs) H s1:=by
 have kA:ps.length<=N.length:=by have:=congrArg List.length S.pre;rw[yi]at this;lia
 let#[h1,tk,rfl,hk]:=x.done;have yE:∀ b:Addr,b∉(pb CX P w K mg base N qual scope f cd A outer s H E).ex:=λb z=>absurd (show b∈([]:List Addr) from z) zq;refine#[#[e0.mod,S.kind,rfl,rfl,au _,λy z c h1 h2=>?_,λy hy=>?_,λy c _ h=>?_,λ_=>hd,Zh e0.frames,.inr #[rfl,rfl],λb z=>absurd z (yE b),e0.bs,e0.sP,λb _ _=>yE b,λb z=>absurd z (yE b),e0.k6,e0.rN],
  rfl,e0.bare,Un.kept hk,#[_,x.toInCall.ns,λi y v h1 h2 h3=>?_],λy c h=>#[_,x.cell y c h],e0.ai.fresh (au _),λy c h=>?_,λp hp=>absurd (show p∈([]:List (Addr×Obj)) from hp) zq,e0.ai.kept hk,?_]
 .exact Xv x.apart (nS h1) (nS h2)
 .have hy:scope.names.lookup y=some .cell \/ scope.names.lookup y=some .free:=hy;rcases hy with hy|hy
  .exact Aa hy
  .exact absurd zw (S.adT _ (nS hy))
 .exact eV (x.above y c (nS h))
 .have hi:i<vs.length:=by
   unfold start at h2;by_cases hi:i<vs.length
   .exact hi
   .rw[dI (by simpa using hi)]at h2;rw[Ya]at h2;split at h2<;>cases h2
  have ha:vs[i]?=some v:=by
   unfold start at h2;rw[dJ (by simpa using hi),nU]at h2;cases e:vs[i]? with
   |none=>rw[e]at h2;cases h2
   |some a=>rw[e]at h2;cases h2;rfl
  let#[u,hu,rv]:=r.get ha;have hp:ps[i]?=some y:=by
   rw[<-S.pre,Yb zd];exact h1
  have ZF:ps.Nodup:=by rw[<-S.pre];exact S.nd.sublist (List.take_sublist _ _)
  refine#[u,rv,?_];rcases S.par y (vc hp) with k|k
  .exact .inl #[k,A7 ZF hp hu k]
  .let#[c,e]:=Aa (n:=s.heap.objs.size+1) k;refine .inr #[.inl k,c,e,?_];have q:=x.cell y c e;rw[A8 ZF hp hu (by show scope.names.lookup y≠_;rw[k];decide)]at q;exact q
 .exact e0.ai.fresh (eV (x.above y c (nS h)))
 .unfold start;show _=N.length;rw[dj,aY,Qb];lia
theorem PP {CX:n9}{k:Nat}{f:Addr}{name:Str}{params:Arguments}{body:List Stmt}{scope:Scope}{dV kV doc pm cdv ct oc:zx}{an od:Option Addr}
 {ps:List Str}{sp:Sp}(lk:K.lookup f=some #[oc,od,.func (PySem.W.fnOf name qual params body scope dV kV doc pm an cdv ct),pH]) (dA:PySem.W.codeIn K cdv qual=zu) (S:qv N ps scope)
  (len:∀ vs H Q E,sp vs H Q E->vs.length=ps.length)
  (kL:∀ (A:Around) (outer:List Env) (s:Shared) (H:Hp) (vs:List V) (Q:VK) (E:XK),cx k (A.deeper (envOfC qual scope s.heap.objs.size f cdv))->sp vs H Q E ->
   ∃ t,dt (pb CX P w K mg base N qual scope f cdv A outer s H E) body t /\ t { nx:=λ_ H'=>Q .non H',rt:=Q } (start N vs) H) :
  eZ P w K mg base CX (k+1) f (PySem.W.fnOf name qual params body scope dV kV doc pm an cdv ct) ps sp:=by
  refine#[len,λA outer s H args us vs Q E hr e0 hb r pR=>?_];have hl:=len _ _ _ _ pR;have KX:K.In s.heap:=e0.mod.wR.keeps λb o e=>(e0.bs b o e).1;have lim:s.heap.NoLimit:=e0.mod.nolimit.keeps λb o e=>(e0.bs b o e).1;have Vk:∀ y∈ps.zip us,scope.names.lookup y.1=some .local \/ (scope.names.lookup y.1=some .cell /\ ((cellsFrom zK scope.names []).lookup y.1).isSome=zu):=λ⟨n,v⟩ hy=>by
   rcases S.par n (EO hy).1 with q|q
   .exact .inl q
   .exact .inr #[q,QC _ _ _ (.inl q)]
  refine Xw hr.depth (KX _ _ lk) zw S.co S.gen zw (YN KX dA) (hb _ _ _ _ ?_);refine Xx S.kind Vk λenv he s1 x=>?_;subst he;refine#[lim.keeps x.toInCall.keep,Xy ?_];let#[t,ht,hq]:=kL A outer s H vs Q E (hr.deeper _) pR;have I:Inv (pb CX P w K mg base N qual scope f cdv A outer s H E) [] (start N vs) H s1:=A9 S hr.hd e0 hl r x;refine eT (ht [] s1 (start N vs) H _ I hq) (λfl s' hs=>?_) λe s' hs=>hs;have fin:∀ {σ':St}{H':Hp}{v:V}{u:zx},Inv (pb CX P w K mg base N qual scope f cdv A outer s H E) [] σ' H' s'->RelV v u->Q v H'->CE outer P w H s Q u s' :=
   λ{σ' H' v u} J rv q=>#[v,H',J.os,J.bare,J.base,J.ai,rv,q]
  cases fl with
  |ret u=>
    let#[v,σ',H',J,rv,q]:=hs;exact fin J rv q
  |next=>
    let#[σ',H',J,q]:=hs;exact fin (v:=V.non) (u:=Value.none) J zw q
  |brk=>
    let#[_,_,_,q]:=hs;exact False.elim q
  |cont=>
    let#[_,_,_,q]:=hs;exact False.elim q
end L2
variable {CX:L2.n9}{sp:L2.Sp}
namespace L2
section
variable {p:Pos} {t:TA} {id T:String} {r:List V -> Hp -> VK -> zy}
def Vl (r:List V->Hp->VK->zy) (t:TA):TE:=λσ H Q=>t σ H λvs H1=>r vs H1 Q
theorem fU (hc:dY X (.builtin id) r) (hg:Gl X x) (hm:X.mg x=zp) (hv:bootBuiltins x=some (.builtin id)) (ha:PA X (e::es) t) (hn:x ≠ "__name__":=by decide) (cY:(x==("__debug__":Str))=zc:=by decide)
 (he:starEach (e::es) X.env=zaB::starEach es X.env:=by rfl) (kA:(backTo pos (starEach es X.env)).any (·.1)=zc:=by rfl):PE X zah (Vl r t):=by
 intro pins s σ H Q I h;refine sv (jj I hg hm hv ?_ hn cY);exact acA (tA (ha pos pins s σ H _ I h) λus s1 vs H1 I1 r1 q1=>hc pins s1 σ H1 vs us Q I1 r1 q1) he kA
theorem GB (hc:dY X (.type T) r) (hg:Gl X x) (hm:X.mg x=zp) (hv:bootBuiltins x=some (.type T)) (ha:PA X (e::es) t) (hn:x ≠ "__name__":=by decide) (cY:(x==("__debug__":Str))=zc:=by decide)
 (he:starEach (e::es) X.env=zaB::starEach es X.env:=by rfl) (kA:(backTo pos (starEach es X.env)).any (·.1)=zc:=by rfl):PE X zah (Vl r t):=by
 intro pins s σ H Q I h;refine sv (jj I hg hm hv ?_ hn cY);exact E7 (tA (ha pos pins s σ H _ I h) λus s1 vs H1 I1 r1 q1=>hc pins s1 σ H1 vs us Q I1 r1 q1) he kA
end
end L2
namespace HT
noncomputable def lexLt:List Int->List Int->Bool
 |[],[]=>zc
 |[],_::_=>zu
 |_::_,[]=>zc
 |x::xs,y::ys=>if x=y then lexLt xs ys else decide (x<y)
theorem fM (x y:Int) (xs ys:List Int):lexLt (x::xs) (y::ys)=if x=y then lexLt xs ys else decide (x<y):=rfl
theorem AR:lexLt [] []=zc:=rfl
theorem jS (y:Int) (ys:List Int):lexLt [] (y::ys)=zu:=rfl
theorem jT (x:Int) (xs:List Int):lexLt (x::xs) []=zc:=rfl
theorem JI (A:Around) (s:Shared) (a:Int) (t:Tok) (c:Int) (u:Tok):∃ e,SeqAt.EqAt A s (.int a t) (.int c u) e /\ (e=zu ↔ a=c):=
 #[(a==c),QM a t c u,by simp]
theorem JJ (A:Around) (s:Shared) (a:Int) (t:Tok) (c:Int) (u:Tok) (prog:Program) (w:World) (E:zx->Shared->zy) (Q:zx->Shared->zy) (h:Q (.bool (decide (a<c))) s) :
 wpAny zk A (richCompare .Lt (.int a t) (.int c u)) Q E s:=
 (Qs h:wpAny zk A (compareOp .Lt (.int a t) (.int c u)) Q E s)
section
open PySem.SeqAt
open PySem.AutoSeq1 (wpAny_loadPart')
open PySem.MeetsSeq PySem.MeetsSeq2 PySem.MeetsSeq3
theorem AS (l b:Addr) (items dZ:Array zx) (n n2:Nat) (dd qw:Option Addr) (sl pd:Array (Option zx)) (ns ms:List Int) (hi:IntsAre items.toList ns) (hj:IntsAre dZ.toList ms) :
 Meets (Builtin.«tuple.__lt__» #[[.ref l,.ref b],[]])
  (λ_ R s=>s.heap.get? l=some { cls:=.type "tuple",dict:=dd,data:=.seq items n,slots:=sl } /\ s.heap.get? b=some { cls:=.type "tuple",dict:=qw,data:=.seq dZ n2,slots:=pd } /\
   R (.ok (.ret (.bool (lexLt ns ms)))) s):=
 .of_wp λprog w A R s h=>by
  let#[hp,g,d,tk,os]:=s;let#[hl,hb,h]:=h;have f2:=Zi;have z1:items.size=ns.length:=by rw[<-hi.length];simp
  have z2:dZ.size=ms.length:=by rw[<-hj.length];simp
  wp_walk using wpAny_loadPart' hl,wpAny_loadPart' hb,Xz _ (λrest b s'=>b.1=zp /\ s'=#[hp,g,d,tk,os] /\ ∃ (vs ws:List zx) (cA xc:List Int),rest=vs.zip ws /\
   IntsAre vs cA /\ IntsAre ws xc /\ cA.length+dZ.size=xc.length+items.size /\ R (.ok (.ret (.bool (lexLt cA xc)))) #[hp,g,d,tk,os]) _
  case turn=>
   rintro⟨y,x⟩ rest b s' ⟨sW,rfl,vs,ws,cA,xc,hz,Vm,HN,hlen,hR⟩;cases Vm with
   |nil=>rw[yj]at hz;cases hz
   |cons a t adU=>
     cases HN with
     |nil=>rw[ER]at hz;cases hz
     |cons c u adV=>
       rw[pK]at hz;injection hz with Vn Vo;injection Vn with hy hx;subst hy hx;rw[fM]at hR;erw[bg]at hlen;let#[e,he,yF]:=JI A.in1 #[hp,g,d,tk,os] a t c u;refine ae (he prog w _ _ ?_);cases e with
       |true=>
         rw[if_pos (yF.mp rfl)]at hR
         wp_walk
         exact#[rfl,rfl,_,_,_,_,Vo,adU,adV,by lia,hR]
       |false=>
         rw[if_neg (λq=>absurd (yF.mpr q) cT)]at hR;have Vp:=JJ A.in1 #[hp,g,d,tk,os] a t c u prog w
         wp_walk using Vp
         exact#[_,rfl,by simpa using hR]
  case fin=>
   rintro⟨b1,b2⟩ s' ⟨sW,rfl,vs,ws,cA,xc,hz,Vm,HN,hlen,hR⟩;simp only at sW;subst sW;have hv:lexLt cA xc=decide (items.size<dZ.size):=by
    cases Vm with
    |nil=>
      cases HN with
      |nil=>
        erw[kJ]at hlen;rw[AR];exact(decide_eq_false zd).symm
      |cons c u hw=>
        erw[kJ,bg]at hlen;rw[jS];exact(decide_eq_true zd).symm
    |cons a t hv=>
      cases HN with
      |nil=>
        erw[kJ,bg]at hlen;rw[jT];exact(decide_eq_false zd).symm
      |cons c u hw=>
        rw[pK]at hz;cases hz
   rw[hv]at hR
   wp_walk
   exact#[_,rfl,by simpa[Builtin.Tuple.tupleCompareSizes] using hR]
  case h=>
   exact#[rfl,rfl,items.toList,dZ.toList,ns,ms,rfl,hi,hj,by lia,h]
end
theorem Ab {l b:Addr}{dZ:Array zx}{ms:List Int}(hl:IsTup s.heap l items) (hb:IsTup s.heap b dZ) (hi:IntsAre items.toList ns) (hj:IntsAre dZ.toList ms)
 (hu:A.units<cLine) (h:Q (.bool (lexLt ns ms)) s):wpAny zk A (compareOp .Lt (.ref l) (.ref b)) Q E s:=by
 let#[#[cls,dd,data,sl],ho,hc,n,hd]:=id hl;let#[#[Vq,qw,data2,pd],pS,eu,n2,hd2]:=id hb;simp only at hc hd eu hd2;subst hc hd eu hd2;exact XA (op:=.Lt) #[_,ho,rfl] #[_,pS,rfl] YT YU (YV _ _) (AS l b items dZ n n2 dd qw sl pd ns ms hi hj)
  #[ho,pS,show Value.bool (lexLt ns ms)≠Value.notImplemented /\ Q (.bool (lexLt ns ms)) s from#[(λx=>nomatch x),h]] hu
theorem Nf {t b:Addr}{ws:List zx}(ht:IsTup s.heap t vs.toArray) (hb:IsTup s.heap b ws.toArray) (hv:vs≠[])
 (h1:ws=[]->Q (.ref t) s) (h2:ws≠[]->Q (.ref s.heap.objs.size) { s with heap:=s.heap.push { cls:=.type "tuple",data:=.seq (vs++ws).toArray } })
 (hsz:vs.length+ws.length<=sizeLine):wpAny zk A (binaryOp .Add (.ref t) (.ref b)) Q E s:=by
 let#[#[cls,dd,data,sl],ho,hc,n,hd]:=id ht;let#[#[Vq,qw,data2,pd],pS,eu,n2,hd2]:=id hb;simp only at hc hd eu hd2;subst hc hd eu hd2;have e:vs.toArray++ws.toArray=(vs++ws).toArray:=by simp
 by_cases hw:ws=[]
 .exact KJ #[_,ho,rfl] #[_,pS,rfl] KL KN QG QH (QI _ _)
   (tuple_addW1 t b vs.toArray ws.toArray n n2 dd qw sl pd (by simpa using hv) (by simp[hw])) #[ho,pS,h1 hw]
 .refine KJ #[_,ho,rfl] #[_,pS,rfl] KL KN QG QH (QI _ _)
   (tuple_addW2 t b vs.toArray ws.toArray n n2 dd qw sl pd (by simpa using hv) (by simpa using hw) (by rw[bE,bE];exact hsz)) #[ho,pS,?_]
  rw[e];exact h2 hw
noncomputable def aE (n d:Nat):Option Int->Nat
 |none=>d
 |some v=>if v<0 then (v+(n:Int)).toNat else min v.toNat n
theorem Rz (n d:Nat) (hd:d<=n) (o:Option Int):aE n d o<=n:=by
 cases o with
 |none=>exact hd
 |some v=>
   show (if v<0 then (v+(n:Int)).toNat else min v.toNat n)<=n;by_cases hv:v<0
   .rw[if_pos hv];lia
   .rw[if_neg hv];exact Nat.min_le_right _ _
theorem Fq (v:Int) (n d:Nat):(if v<0 then max (v+(n:Int)) 0 else min v (n:Int))=((aE n d (some v):Nat):Int):=by
 show (if v<0 then max (v+(n:Int)) 0 else min v (n:Int))=(((if v<0 then (v+(n:Int)).toNat else min v.toNat n):Nat):Int);by_cases hv:v<0
 .erw[if_pos hv];lia
 .erw[if_neg hv];lia
theorem Dv (lo hi:Option Int) (n:Nat):Builtin.Slice.sliceAdjust lo hi 1 (n:Int)=(((aE n 0 lo:Nat):Int),((aE n n hi:Nat):Int)):=by
 have h1:¬ ((1:Int)<0):=by lia
 unfold Builtin.Slice.sliceAdjust;erw[h1,if_false];refine Prod.ext ?_ ?_
 .cases lo with
  |none=>rfl
  |some v=>exact Fq v n 0
 .cases hi with
  |none=>rfl
  |some v=>exact Fq v n n
theorem Dw (i j:Nat):Builtin.Slice.slicePlaces (i:Int) (j:Int) 1=j-i:=by
 unfold Builtin.Slice.slicePlaces;have h1:(1:Int)>0:=by lia
 erw[h1,if_true,YQ];split<;>lia
theorem Ac {v:zx}{o:Option Int}{Q:Option Int->Shared->zy}(p:IsPart v o) (h:Q o s):wpAny zk A (Builtin.Slice.slicePartIndex v) Q E s:=by
 cases p with
 |none=>exact Yy h
 |int i t=>exact slicePart_int h
theorem jo {sl:Addr}{vl vu:zx}{lo hi:Option Int}{Q:Int×Int×Nat->Shared->zy}(hs:s.heap.IsSliceOf sl vl vu .none) (pl:IsPart vl lo) (pu:IsPart vu hi)
 (h:Q (((aE n 0 lo:Nat):Int),1,aE n n hi-aE n 0 lo) s):wpAny zk A (Builtin.Slice.sliceApplied (.ref sl) (pure (n:Int))) Q E s:=by
 let#[os,vt,HP,pT]:=id hs;unfold Builtin.Slice.sliceApplied Builtin.Slice.sliceFields;refine ae (ae (kH vt pT (x:=vl) zw (ae (kH vt pT (x:=vu) zw (ae (kH vt pT (x:=.none) zw (ak ?_)))))));refine ae (Yy ?_);show wpAny _ _ (if ((1:Int)==0)=zu then _ else _) _ _ s;rw[if_neg zf];refine ae (Ac pl (ae (Ac pu (ae (ak ?_)))));show wpAny _ _ (match Builtin.Slice.sliceAdjust lo hi 1 (n:Int) with|(lo,hi)=>pure (lo,(1:Int),Builtin.Slice.slicePlaces lo hi 1)) _ _ s;rw[Dv lo hi n];show wpAny _ _ (pure (((aE n 0 lo:Nat):Int),(1:Int),Builtin.Slice.slicePlaces ((aE n 0 lo:Nat):Int) ((aE n n hi:Nat):Int) 1)) _ _ s;rw[Dw];exact ak h
theorem JK (xs:Array zx) (i k:Nat):((List.range k).filterMap λ(m:Nat)=>xs[((i:Int)+(m:Int)*1).toNat]?).toArray=((xs.toList.drop i).take k).toArray:=by
 have e:(λ(m:Nat)=>xs[((i:Int)+(m:Int)*1).toNat]?)=λm=>xs[i+m]?:=by
  funext m;have:((i:Int)+(m:Int)*1).toNat=i+m:=by lia
  rw[this]
 rw[e];have:=pick_run xs i k;rw[yk]at this;have e2:((λx=>xs[x]?)∘λx=>i+x)=λm=>xs[i+m]?:=rfl;rw[e2]at this;rw[this]
theorem mD {t sl:Addr}{vl vu:zx}{lo hi:Option Int}(ht:IsTup s.heap t items) (hs:s.heap.IsSliceOf sl vl vu .none) (pl:IsPart vl lo) (pu:IsPart vu hi)
 (hw:¬ (aE items.size 0 lo=0 /\ aE items.size items.size hi=items.size))
 (h:Q (.ref s.heap.objs.size) { s with heap:=s.heap.push { cls:=.type "tuple",data:=.seq ((items.toList.drop (aE items.size 0 lo)).take (aE items.size items.size hi-aE items.size 0 lo)).toArray } })
 (hsz:items.size<=sizeLine):wpAny zk A (getItem (.ref t) (.ref sl)) Q E s:=by
 have HQ:sizeOk (.seq ((items.toList.drop (aE items.size 0 lo)).take (aE items.size items.size hi-aE items.size 0 lo)).toArray):=by
  show ((items.toList.drop (aE items.size 0 lo)).take (aE items.size items.size hi-aE items.size 0 lo)).toArray.size<=sizeLine;rw[bE,yi,Qc,Ht];lia
 have hj:aE items.size items.size hi<=items.size:=Rz _ _ (au _) hi;let#[os,vt,HP,pT]:=id hs;have Vr:s.TypeIs (.ref sl) "slice":=#[os,vt,HP];unfold getItem;try with_reducible refine kX ?_
 first|refine ae (ak ?_)|skip
 refine ae (XB ht.typeIs zf ?_);refine ae (uZ (name:=Str.ofString "__getitem__") ht.typeIs wL
  (pI wL ht.typeIs Yz ?_ (YA _ _)))
 show wpAny _ _ (Builtin.Tuple.tupleItemsOf (.ref t) >>= _) _ _ s;refine ae (YB ht ?_);refine ae (wy Vr ?_);rw[if_pos zf];refine ae (jo hs pl pu ?_);have uv:¬ (zae=zu):=by
  intro q;rw[aD,aD]at q;have q1:((aE items.size 0 lo:Nat):Int)=0:=eq_of_beq q.1.1;have q2:aE items.size items.size hi-aE items.size 0 lo=items.size:=eq_of_beq q.2;exact hw #[by lia,by lia]
 show wpAny _ _ (if zae=zu then _ else _) _ _ s;rw[if_neg uv,JK];first
  |exact ae (m:=Builtin.Tuple.tupleExact _) (qi (ak #[_,rfl,ak h]) HQ)
  |exact ae (m:=Builtin.Tuple.tupleExact _) (qi (ae (ak (ak #[_,rfl,ak h]))) HQ)
  |exact ae (ae (m:=Builtin.Tuple.tupleExact _) (qi (ak (ak #[_,rfl,ak h])) HQ))
  |exact ae (ae (m:=Builtin.Tuple.tupleExact _) (qi (ak #[_,rfl,ak h]) HQ))
end HT
namespace L2
abbrev TO:=St->Hp->(Option Int->Hp->zy)->zy
def PO (X:Cx) (e:Option Expr) (t:TO):zy:=
 ∀ (pins:List (Addr×Obj)) (s:Shared) (σ:St) (H:Hp) (Q:Option Int->Hp->zy),Inv X pins σ H s->t σ H Q ->
  wpAny zh X.A (evalPart e X.env) (λu s'=>∃ o H',Inv X pins σ H' s' /\ IsPart u o /\ Q o H') X.xe s
noncomputable def adW:TO:=λ_ H Q=>Q zp H
noncomputable def adX (t:TE):TO:=λσ H Q=>t σ H λx H1=>∃ i,x=.int i /\ Q (some i) H1
theorem iq:∀ {us:List zx},Vals (ns.map V.int) us->IntsAre us ns:=by
 induction ns with
 |nil=>intro us r;rw[ug]at r;cases r;exact .nil
 |cons n ns ih=>
   intro us r;rw[az]at r;cases r with
   |cons r1 r2=>
     let#[t,e]:=r1;subst e;exact .cons n t (ih r2)
section
variable {te:TE} {lo hi:Option Expr} {tl th:TO} {p2:Pos}
theorem Ng:PO X zp adW:=by
 intro pins s σ H Q I h;rw[KO];exact ak #[zp,H,I,.none,h]
theorem Nh (h:PE X e te):PO X (some e) (adX te):=by
 intro pins s σ H Q I hw;rw[XC];refine tE (h pins s σ H _ I hw) λu s1 x H1 I1 r1 q1=>?_;let#[i,rfl,q]:=q1;let#[t,rfl]:=r1;exact#[some i,H1,I1,.int i t,q]
def sX (X:Cx) (r:V->Option Int->Option Int->Hp->VK->zy):zy:=
 ∀ (pins:List (Addr×Obj)) (s:Shared) (σ:St) (H:Hp) (x:V) (v vl vu:zx) (lo hi:Option Int) (sl:Addr) (Q:VK),Inv X pins σ H s->RelV x v->s.heap.IsSliceOf sl vl vu .none->IsPart vl lo->IsPart vu hi->r x lo hi H Q ->
  ∃ T id,typeLookup (.type T) "__getitem__"=pure (some (.builtin id)) /\ s.TypeIs v T /\ wpAny zh X.A (getItem v (.ref sl)) (EP X pins σ Q) X.xe s
theorem sX.or {r r':V->Option Int->Option Int->Hp->VK->zy}(h:sX X r) (h':sX X r'):sX X (λx lo hi H Q=>r x lo hi H Q \/ r' x lo hi H Q):=by
 intro pins s σ H x v vl vu lo hi sl Q I rx hs pl pu q;rcases q with q|q
 .exact h pins s σ H x v vl vu lo hi sl Q I rx hs pl pu q
 .exact h' pins s σ H x v vl vu lo hi sl Q I rx hs pl pu q
def adY (r:V->Option Int->Option Int->Hp->VK->zy) (te:TE) (tl th:TO):TE:=λσ H Q=>te σ H λx H1=>tl σ H1 λl H2=>th σ H2 λu H3=>r x l u H3 Q
theorem JL {r:V->Option Int->Option Int->Hp->VK->zy}(hr:sX X r) (he:PE X e te) (hl:PO X lo tl) (hu:PO X hi th):PE X (.Subscript e (.Slice lo hi zp p2) pos) (adY r te tl th):=by
 intro pins s σ H Q I h;refine Subscript_ (tE (he pins s σ H _ I h) λv s1 x H1 I1 r1 q1=>?_);refine XD (tP (hl pins s1 σ H1 _ I1 q1) λvl s2 l H2 I2 pl q2=>tP (hu pins s2 σ H2 _ I2 q2) λvu s3 u H3 I3 pu q3=>?_);rw[KO];refine ak ?_;have I4:Inv X pins σ H3 { s3 with heap:=s3.heap.push { cls:=.type "slice",data:=.fields (List.toArray [vl,vu,.none]) } }:=I3.kept (t':=s3.toks) λb ob q=>aT _ q;let#[T,id,hT,ht,hg]:=hr pins { s3 with heap:=s3.heap.push { cls:=.type "slice",data:=.fields (List.toArray [vl,vu,.none]) } } σ H3 x v vl vu l u s3.heap.objs.size Q I4 r1 (Heap.IsSliceOf.new ..) pl pu q3;show wpAny zh X.A (subscriptTail e (.Slice lo hi zp p2) v (.ref s3.heap.objs.size)) (EP X pins σ Q) X.xe { s3 with heap:=s3.heap.push { cls:=.type "slice",data:=.fields (List.toArray [vl,vu,.none]) } };exact Qt (ops:=[.ref s3.heap.objs.size,v]) ht hT hg (by with_unfolding_all rfl)
def uw (xs:List V) (lo hi:Option Int):List V:=(xs.drop (HT.aE xs.length 0 lo)).take (HT.aE xs.length xs.length hi-HT.aE xs.length 0 lo)
theorem oC (xs:List V) (lo hi:Option Int):(uw xs lo hi).length<=xs.length:=by
 unfold uw;rw[yi,Qc];lia
def ZG (K:PySem.W.Frag):V->Option Int->Option Int->Hp->VK->zy:=λx lo hi H Q=>∃ a xs,x=.ref a /\ bK K H a xs /\
 ¬ (HT.aE xs.length 0 lo=0 /\ HT.aE xs.length xs.length hi=xs.length) /\ ∀ p,H p=zp->Q (.ref p) (upd H p (.tup (uw xs lo hi)))
theorem RC:sX X (ZG X.K):=by
 intro pins s σ H x v vl vu lo hi sl Q I rx hs pl pu h;let#[a,xs,rfl,hx,hw,q]:=h;cases rx;let#[its,r,ht,hz]:=I.tuple hx;have hlen:its.toArray.size=xs.length:=by rw[bE];exact r.length.symm
 refine#["tuple",_,wL.lookup,ht.typeIs,?_];refine HT.mD ht hs pl pu (by rw[hlen];exact hw) ?_ (by rw[hlen];exact hz);rw[hlen];refine#[.ref s.heap.objs.size,_,I.laid (t':=s.toks) (o:=.tup (uw xs lo hi)) (λb ob q=>aT _ q) (au _) ?_,rfl,q _ (I.ai.fresh (au _))];exact#[bU (oC xs lo hi) hz,_,(r.drop (HT.aE xs.length 0 lo)).take (HT.aE xs.length xs.length hi-HT.aE xs.length 0 lo),IsTup.new _ _]
def yG (K:PySem.W.Frag):R2:=λx y H Q=>∃ a b ns ms,x=.ref a /\ y=.ref b /\ bK K H a (ns.map V.int) /\ bK K H b (ms.map V.int) /\ Q (.bl (HT.lexLt ns ms)) H
theorem RD (hu:X.A.units<cLine):ba X (compareOp .Lt) (yG X.K):=by
 intro pins s σ H x y v u Q I rx ry h;let#[a,b,ns,ms,rfl,rfl,ha,hb,q]:=h;cases rx;cases ry;let#[its,r1,p1,_]:=I.tuple ha;let#[ux,r2,p2,_]:=I.tuple hb;have i1:IntsAre its.toArray.toList ns:=iq r1;have i2:IntsAre ux.toArray.toList ms:=iq r2;exact HT.Ab p1 p2 i1 i2 hu #[.bl (HT.lexLt ns ms),H,I,rfl,q]
def ZH (K:PySem.W.Frag):R2:=λx y H Q=>∃ a b xs ys,x=.ref a /\ y=.ref b /\ bK K H a xs /\ bK K H b ys /\ xs≠[] /\ xs.length+ys.length<=sizeLine /\
 (ys=[]->Q (.ref a) H) /\ (ys≠[]->∀ p,H p=zp->Q (.ref p) (upd H p (.tup (xs++ys))))
theorem Vals.Vs {xs:List V}(r:Vals xs us):us=[] ↔ xs=[]:=by
 cases r with
 |nil=>simp
 |cons _ _=>simp
theorem Ni:ba X (binaryOp .Add) (ZH X.K):=by
 intro pins s σ H x y v u Q I rx ry h;let#[a,b,xs,ys,rfl,rfl,ha,hb,hx,hz,q1,q2]:=h;cases rx;cases ry;let#[its,r1,p1,_]:=I.tuple ha;let#[ux,r2,p2,_]:=I.tuple hb;refine HT.Nf p1 p2 (λz=>hx (r1.Vs.mp z)) (λz=>#[.ref a,H,I,rfl,q1 (r2.Vs.mp z)]) (λz=>?_) (by rw[<-r1.length,<-r2.length];exact hz);refine#[.ref s.heap.objs.size,_,I.laid (t':=s.toks) (o:=.tup (xs++ys)) (λb ob q=>aT _ q) (au _) ?_,rfl,q2 (λw=>z (r2.Vs.mpr w)) _ (I.ai.fresh (au _))];exact#[by rw[dj];exact hz,_,r1.append r2,IsTup.new _ _]
end
noncomputable def bL (n:Nat) (i:Int):Option Nat:=if 0<=i then (if i<n then some i.toNat else zp) else if -(n:Int)<=i then some (i+n).toNat else zp
def bf (xs:List α) (i:Int):Option α:=(bL xs.length i).bind λj=>xs[j]?
theorem BB {i:Int}(h:bL n i=some j):seqIndex? i n=some j /\ j<n /\ -(n:Int)<=i /\ i<n:=by
 unfold bL at h;by_cases h0:0<=i
 .rw[if_pos h0]at h;by_cases h1:i<n
  .rw[if_pos h1]at h;have e:i.toNat=j:=Option.some.inj h;exact#[by rw[KR h0 h1,e],by lia,by lia,h1]
  .rw[if_neg h1]at h;cases h
 .rw[if_neg h0]at h;by_cases h1:-(n:Int)<=i
  .rw[if_pos h1]at h;have e:(i+n).toNat=j:=Option.some.inj h;exact#[by rw[seqIndex_neg zd h1,e],by lia,h1,by lia]
  .rw[if_neg h1]at h;cases h
theorem BC {xs:List α}{i:Int}{v:α}(h:bf xs i=some v):∃ j,seqIndex? i xs.length=some j /\ xs[j]?=some v /\ j<xs.length /\ -(xs.length:Int)<=i /\ i<xs.length:=by
 unfold bf at h;cases e:bL xs.length i with
 |none=>rw[e]at h;cases h
 |some j=>
   rw[e]at h;let#[h1,h2,h3,h4]:=BB e;exact#[j,h1,h,h2,h3,h4]
theorem Fs {xs:List α}{v:α}(h:xs[j]?=some v):bf xs (j:Int)=some v:=by
 have hj:j<xs.length:=(List.getElem?_eq_some_iff.mp h).1;have e:bL xs.length (j:Int)=some j:=by
  unfold bL;rw[if_pos zd,if_pos zd];simp
 unfold bf;rw[e];exact h
def HR (b:Expr):zy:=∀ o i,subscripted b zc o i=operate [o,i] (getItem o i)
def rR (X:Cx) (r:R2):zy:=
 ∀ (value slice:Expr) (pins:List (Addr×Obj)) (s:Shared) (σ:St) (H:Hp) (x y:V) (v u:zx) (Q:VK),Inv X pins σ H s->RelV x v->RelV y u->r x y H Q ->
  subscripted slice zc v u=operate [v,u] (getItem v u)->wpAny zh X.A (subscriptTail value slice v u) (EP X pins σ Q) X.xe s
def ZI (X:Cx) (id:String) (r:V->List V->Hp->VK->zy):zy:=
 ∀ (pins:List (Addr×Obj)) (s:Shared) (σ:St) (H:Hp) (x:V) (xs:List V) (v:zx) (us:List zx) (Q:VK),Inv X pins σ H s->RelV x v->Vals xs us->r x xs H Q ->
  wpAny zh X.A (call (.builtin id) (v::us)) (EP X pins σ Q) X.xe s
section
variable {a b:Expr} {ta tb:TE} 
theorem rR.or {r r':R2}(h:rR X r) (h':rR X r'):rR X (λx y H Q=>r x y H Q \/ r' x y H Q):=by
 intro value slice pins s σ H x y v u Q I rx ry q hs;rcases q with q|q
 .exact h value slice pins s σ H x y v u Q I rx ry q hs
 .exact h' value slice pins s σ H x y v u Q I rx ry q hs
theorem JM {r:R2}(hr:rR X r) (ha:PE X a ta) (hb:PE X b tb) (hs:HR b):PE X (.Subscript a b pos) (yC r ta tb):=by
 intro pins s σ H Q I h;exact Subscript_ (Q4 ha hb I h λv u s2 x y H2 I2 rx ry q=>hr a b pins s2 σ H2 x y v u Q I2 rx ry q (hs _ _))
def ZJ (K:PySem.W.Frag):R2:=λx y H Q=>∃ p xs i v,x=.ref p /\ y=.int i /\ bO K H p xs /\ bf xs i=some v /\ Q v H
def ZK (K:PySem.W.Frag):R2:=λx y H Q=>∃ p xs i v,x=.ref p /\ y=.int i /\ bK K H p xs /\ bf xs i=some v /\ Q v H
def ZL:R2:=λx y H Q=>∃ z i c,x=.str z /\ y=.int i /\ z.length<=sizeLine /\ bf z.cps.toList i=some c /\ Q (.str ⟨(List.toArray [c])⟩) H
theorem BD:rR X (ZJ X.K):=by
 intro value slice pins s σ H x y v u Q I rx ry h hs;let#[p,xs,i,z,rfl,rfl,hq,he,q]:=h;cases rx;let#[t,rfl]:=ry;let#[its,r,pl,hz]:=I.list hq;let#[j,h1,h2,h3,h4,h5]:=BC he;let#[w,ew,eX]:=r.get h2;have hl:=r.length;have hn:=w9;have fin:EP X pins σ Q w s:=#[z,H,I,eX,q];by_cases h0:0<=i
 .have hj:i.toNat=j:=by
   rw[KR h0 h5]at h1;exact Option.some.inj h1
  exact item_listR pl.isList h0 zd (by rw[hj];simpa using ew) fin hs
 .have hj:(i+(its.toArray.size:Int)).toNat=j:=by
   rw[seqIndex_neg zd h4]at h1;rw[bE,<-hl];exact Option.some.inj h1
  exact YC (x:=w) pl.isList.typeIs slot_list_getitem.lookup
   (wpAny_getItem_list_neg (Q:=λr s'=>r=w /\ EP X pins σ Q r s') pl.isList zd (by rw[bE]<;>lia) zd (by rw[hj];simpa using ew) #[rfl,fin]) hs
theorem RE:rR X (ZK X.K):=by
 intro value slice pins s σ H x y v u Q I rx ry h hs;let#[p,xs,i,z,rfl,rfl,hq,he,q]:=h;cases rx;let#[t,rfl]:=ry;let#[its,r,pl,hz]:=I.tuple hq;let#[j,h1,h2,h3,h4,h5]:=BC he;let#[w,ew,eX]:=r.get h2;have hl:=r.length;have hn:=w9;have fin:EP X pins σ Q w s:=#[z,H,I,eX,q];exact YC (x:=w) pl.typeIs slot_tuple_getitem.lookup
  (getItem_tuple (j:=j) (Q:=λr s'=>r=w /\ EP X pins σ Q r s') pl zd zd (by rw[bE,<-hl];exact h1) (by simpa using ew) #[rfl,fin]) hs
theorem RF:rR X ZL:=by
 intro value slice pins s σ H x y v u Q I rx ry h hs;let#[z,i,c,rfl,rfl,hz,he,q]:=h;let#[t,rfl]:=rx;let#[t',rfl]:=ry;let#[j,h1,h2,h3,h4,h5]:=BC he;have hl:z.cps.toList.length=z.length:=by simp[Str.length]
 rw[hl]at h1 h4 h5;have hn:=w9;exact Qt (typeIs_str s z t) slot_str_getitem.lookup (getItem_str (c:=c) (by
  have e1:decide (i < -(2 ^ 63:Int))=zc:=decide_eq_false zd;have e2:decide (i>=2 ^ 63)=zc:=decide_eq_false zd;rw[e1,e2,Bool.or_false]) (by rw[h1];simpa using h2) #[.str ⟨(List.toArray [c])⟩,H,I.tok _,#[_,rfl],q]) hs
def ZM (K:PySem.W.Frag):R2:=λx y H Q=>ZJ K x y H Q \/ ZK K x y H Q \/ ZL x y H Q
theorem RG:rR X (ZM X.K):=BD.or (RE.or RF)
theorem Dx (its:List zx) (n j:Nat) (u:zx):Obj.mapSeq (·.setIfInBounds j u) { cls:=.type "list",data:=.seq its.toArray n }={ cls:=.type "list",data:=.seq (its.set j u).toArray n }:=by
 simp[Obj.mapSeq]
theorem Inv.lst {pins:List (Addr×Obj)}{σ:St}{H:Hp}{s:Shared}{p:Addr}{xs:List V}(I:Inv X pins σ H s) (h:H p=some (.lst xs)) :
 ∃ (its:List zx) (n:Nat),Vals xs its /\ s.heap.get? p=some { cls:=.type "list",data:=.seq its.toArray n } /\ xs.length<=sizeLine:=by
 let#[z,its,n,r,e]:=I.ai p _ h;exact#[its,n,r,e,z]
theorem Inv.adZ {xs ys:List V}{its its':List zx}{n':Nat}{f:Obj->Obj}(I:Inv X pins σ H s) (h:H p=some (.lst xs))
 (ho:s.heap.get? p=some { cls:=.type "list",data:=.seq its.toArray n }) (hf:f { cls:=.type "list",data:=.seq its.toArray n }={ cls:=.type "list",data:=.seq its'.toArray n' }) (r:Vals ys its') (hz:ys.length<=sizeLine) (t:Nat) :
 Inv X pins σ (upd H p (.lst ys)) { s with heap:=s.heap.update p f,toks:=t }:=by
 have e:(s.heap.update p f).get? p=some { cls:=.type "list",data:=.seq its'.toArray n' }:=by
  rw[Qo f ho (by rw[hf]<;>rfl),hf]
 refine I.write (x:=p) (e:=p) (by rw[h];trivial) (.inl zw) (λb u hb q=>(Yu _ _ (Ne.symm hb)).trans q) #[_,e] ?_;exact#[hz,its',n',r,e]
def ad0:V->V->V->Hp->(Hp->zy)->zy:=λo i v H Q=>∃ p xs k j,o=.ref p /\ i=.int k /\ H p=some (.lst xs) /\ bL xs.length k=some j /\ Q (upd H p (.lst (xs.set j v)))
theorem JN:Zu X ad0:=by
 intro pins s σ H o i v ov iv u Q I ro ri rv h;let#[p,xs,k,j,rfl,rfl,hp,hj,q]:=h;cases ro;let#[t,rfl]:=ri;let#[its,n,r,ho,hz]:=I.lst hp;let#[h1,h2,h3,h4]:=BB hj;have hl:=r.length;have hn:=w9;have I':Inv X pins σ (upd H p (.lst (xs.set j v))) { s with heap:=s.heap.update p (Obj.mapSeq (·.setIfInBounds j u)) }:=
  I.adZ hp ho (Dx its n j u) (r.set rv j) (by rw[nV];exact hz) s.toks
 by_cases h0:0<=k
 .have hk:k.toNat=j:=by
   rw[KR h0 h4]at h1;exact Option.some.inj h1
  exact PySem.W.ki_setAt ho h0 zd (by rw[bE,<-hl];exact h4) (by rw[hk];exact#[_,I',q])
 .have hk:(k+(its.toArray.size:Int)).toNat=j:=by
   rw[seqIndex_neg zd h3]at h1;rw[bE,<-hl];exact Option.some.inj h1
  exact PySem.W.ki_setBack ho zd (by rw[bE,<-hl];exact h3) zd (by rw[hk];exact#[_,I',q])
theorem BE (lo hi:Option Int) (n:Nat):(sliceBounds lo hi zp n).1=((HT.aE n 0 lo:Nat):Int) /\ (sliceBounds lo hi zp n).2.1=((HT.aE n n hi:Nat):Int) /\ (sliceBounds lo hi zp n).2.2=1:=by
 refine#[?_,?_,rfl]
 .cases lo with
  |none=>simp[sliceBounds,HT.aE]
  |some i=>
    erw[sliceBounds,HT.aE,Qp,show (1:Int)>0 by decide,if_true];by_cases h:i<0
    .erw[h,if_true]<;>lia
    .erw[h,if_false]<;>lia
 .cases hi with
  |none=>simp[sliceBounds,HT.aE]
  |some i=>
    erw[sliceBounds,HT.aE,Qp,show (1:Int)>0 by decide,if_true];by_cases h:i<0
    .erw[h,if_true]<;>lia
    .erw[h,if_false]<;>lia
theorem AT (its:List zx) (lo hi:Option Int):slicePick its.toArray lo hi zp=((its.drop (HT.aE its.length 0 lo)).take (HT.aE its.length its.length hi-HT.aE its.length 0 lo)).toArray:=by
 let#[h1,h2,h3]:=BE lo hi its.toArray.size;unfold slicePick;rw[h1,h2,h3];erw[sliceRange_one,pick_run,bE]<;>rfl
def ZN (K:PySem.W.Frag):V->Option Int->Option Int->Hp->VK->zy:=λx lo hi H Q=>∃ a xs,x=.ref a /\ bO K H a xs /\ ∀ p,H p=zp->Q (.ref p) (upd H p (.lst (uw xs lo hi)))
theorem Nj:sX X (ZN X.K):=by
 intro pins s σ H x v vl vu lo hi sl Q I rx hs pl pu h;let#[a,xs,rfl,hx,q]:=h;cases rx;let#[its,r,ht,hz]:=I.list hx;have hlen:=r.length;refine#["list",_,slot_list_getitem.lookup,ht.isList.typeIs,?_];refine XF ht.isList hs pl pu .none zq ?_ (by rw[bE]<;>lia);rw[AT,<-hlen];refine#[.ref s.heap.objs.size,_,I.laid (t':=s.toks) (o:=.lst (uw xs lo hi)) (λb ob q=>aT _ q) (au _) ?_,rfl,q _ (I.ai.fresh (au _))];exact#[bU (oC xs lo hi) hz,_,0,(r.drop (HT.aE xs.length 0 lo)).take (HT.aE xs.length xs.length hi-HT.aE xs.length 0 lo),cg _ zw]
noncomputable def eI:V->Bool
 |.non=>zu
 |.bl _=>zu
 |.int _=>zu
 |.str _=>zu
 |_=>zc
noncomputable def ez:V->V->Bool
 |.non,.non=>zu
 |.bl a,.bl b=>a==b
 |.bl a,.int b=>(if a then 1 else 0)==b
 |.int a,.bl b=>a==(if b then 1 else 0)
 |.int a,.int b=>a==b
 |.str a,.str b=>a==b
 |_,_=>zc
theorem JO {y x:V}{v:zx}(ry:RelV y u) (rx:RelV x v) (fy:eI y=zu) (fx:eI x=zu):SeqAt.EqAt A s u v (ez y x):=by
 cases y with
 |non=>
   cases ry;cases x with
   |non=>cases rx;exact SeqAt.EqAt.same _
   |bl b=>cases rx;exact acC b
   |int b=>let#[t,rfl]:=rx;exact acD b t
   |str b=>let#[t,rfl]:=rx;exact acE b t
   |_=>exact absurd (show zc=zu from fx) cT
 |bl a=>
   cases ry;cases x with
   |non=>cases rx;exact acF a
   |bl b=>cases rx;exact acG a b
   |int b=>let#[t,rfl]:=rx;exact acH a b t
   |str b=>let#[t,rfl]:=rx;exact acI a b t
   |_=>exact absurd (show zc=zu from fx) cT
 |int a=>
   let#[t',rfl]:=ry;cases x with
   |non=>cases rx;exact acJ a t'
   |bl b=>cases rx;exact acK a t' b
   |int b=>let#[t,rfl]:=rx;exact QM a t' b t
   |str b=>let#[t,rfl]:=rx;exact Zf a t' b t
   |_=>exact absurd (show zc=zu from fx) cT
 |str a=>
   let#[t',rfl]:=ry;cases x with
   |non=>cases rx;exact acL a t'
   |bl b=>cases rx;exact acM a t' b
   |int b=>let#[t,rfl]:=rx;exact Zg a t' b t
   |str b=>let#[t,rfl]:=rx;exact QN a t' b t
   |_=>exact absurd (show zc=zu from fx) cT
 |_=>exact absurd (show zc=zu from fy) cT
def nF (x:V) (u:zx):Bool:=match u with
 |.none=>ez .non x
 |.bool b=>ez (.bl b) x
 |.int i _=>ez (.int i) x
 |.str z _=>ez (.str z) x
 |_=>zc
theorem JP {x y:V}(r:RelV y u) (f:eI y=zu):nF x u=ez y x:=by
 cases y with
 |non=>cases r;rfl
 |bl b=>cases r;rfl
 |int i=>let#[t,rfl]:=r;rfl
 |str z=>let#[t,rfl]:=r;rfl
 |_=>exact absurd (show zc=zu from f) cT
theorem mE {x:V}:∀ {xs:List V}{us:List zx},Vals xs us->xs.all eI=zu->us.any (nF x)=xs.any λy=>ez y x
 |_,_,.nil,_=>rfl
 | y::xs,u::us,.cons r t,f=>by
   rw[qk,aD]at f;rw[qI,qI,JP r f.1,mE t f.2]
theorem jU {A:Around}{s:Shared}{x:V}{v:zx}(rx:RelV x v) (fx:eI x=zu):∀ {xs:List V}{us:List zx},Vals xs us->xs.all eI=zu->∀ u∈us,SeqAt.EqAt A s u v (nF x u)
 |_,_,.nil,_=>λu hu=>by cases hu
 | y::xs,u::us,.cons r t,f=>λu' hu=>by
   rw[qk,aD]at f;rcases bA.mp hu with rfl|hu
   .rw[JP r f.1];exact JO r rx f.1 fx
   .exact jU rx fx t f.2 u' hu
def HS (x:V) (xs:List V):Bool:=xs.any λy=>ez y x
def HU (K:PySem.W.Frag) (neg:Bool):R2:=λx y H Q=>∃ p xs,y=.ref p /\ (bO K H p xs \/ bK K H p xs) /\ eI x=zu /\ xs.all eI=zu /\ Q (.bl (if neg then !HS x xs else HS x xs)) H
theorem GC:ba X (compareOp .In) (HU X.K zc):=by
 intro pins s σ H x y v u Q I rx ry h;let#[p,xs,rfl,hq,fx,fs,q]:=h;cases ry;rcases hq with hq|hq
 .let#[its,r,pl,hz]:=I.list hq;refine SeqAt.in_listAt (nF x) pl.isList (λw hw=>jU rx fx r fs w (by simpa using hw)) #[.bl _,H,I,rfl,?_];rw[show its.toArray.any (nF x)=its.any (nF x) by simp,mE r fs];exact q
 .let#[its,r,pl,hz]:=I.tuple hq;refine SeqAt.in_tupleAt (nF x) pl (λw hw=>jU rx fx r fs w (by simpa using hw)) #[.bl _,H,I,rfl,?_];rw[show its.toArray.any (nF x)=its.any (nF x) by simp,mE r fs];exact q
theorem BF:ba X (compareOp .NotIn) (HU X.K zu):=by
 intro pins s σ H x y v u Q I rx ry h;let#[p,xs,rfl,hq,fx,fs,q]:=h;cases ry;rcases hq with hq|hq
 .let#[its,r,pl,hz]:=I.list hq;refine SeqAt.notIn_listAt (nF x) pl.isList (λw hw=>jU rx fx r fs w (by simpa using hw)) #[.bl _,H,I,rfl,?_];rw[show its.toArray.any (nF x)=its.any (nF x) by simp,mE r fs];exact q
 .let#[its,r,pl,hz]:=I.tuple hq;refine SeqAt.notIn_tupleAt (nF x) pl (λw hw=>jU rx fx r fs w (by simpa using hw)) #[.bl _,H,I,rfl,?_];rw[show its.toArray.any (nF x)=its.any (nF x) by simp,mE r fs];exact q
theorem mF:dY X (.builtin "len") (λxs H Q=>∃ p ys,xs=[.ref p] /\ (bO X.K H p ys \/ bK X.K H p ys) /\ Q (.int ys.length) H):=by
 intro pins s σ H xs us Q I r h;let#[p,ys,rfl,hq,q]:=h;let#[u,rfl,rx]:=vals1 r;cases rx;have hn:=w9;rcases hq with hq|hq
 .let#[its,r',pl,hz]:=I.list hq;have hlen:=r'.length;exact Calls.call_len_list pl.isList (by erw[bE]<;>lia) #[.int ys.length,H,I.tok _,#[s.toks+1,by rw[bE,hlen]],q]
 .let#[its,r',pl,hz]:=I.tuple hq;have hlen:=r'.length;exact len_tuple pl (by erw[bE]<;>lia) #[.int ys.length,H,I.tok _,#[s.toks+1,by rw[bE,hlen]],q]
theorem BG:dY X (.type "list") (λxs H Q=>∃ p ys,xs=[.ref p] /\ (bO X.K H p ys \/ bK X.K H p ys) /\ ∀ l,H l=zp->Q (.ref l) (upd H l (.lst ys))):=by
 intro pins s σ H xs us Q I r h;let#[p,ys,rfl,hq,q]:=h;let#[u,rfl,rx]:=vals1 r;cases rx
 have fin:∀ (its:List zx),Vals ys its->ys.length<=sizeLine->∀ (h':Heap) (c':Nat),(∀ b o',s.heap.get? b=some o'->h'.get? b=some o') ->
  h'.get? s.heap.objs.size=some { cls:=.type "list",dict:=zp,data:=.seq its.toArray c',slots:=#[] }->EP X pins σ Q (.ref s.heap.objs.size) { s with heap:=h' }:=λits r' hz h' c' kp e=>
  #[.ref s.heap.objs.size,_,I.laid (t':=s.toks) kp (au _) (show a9 X.prog X.w _ h' _ (.lst ys) from#[hz,its,c',r',e]),rfl,q _ (I.ai.fresh (au _))]
 rcases hq with hq|hq
 .let#[its,r',pl,hz]:=I.list hq;have hlen:=r'.length;let#[o,ho,hc,n,hd]:=pl.isList;exact XG p (.inl zw) ho hc hd (λh' c' kp e=>fin its r' hz h' c' kp e) (by erw[bE]<;>lia)
 .let#[its,r',pl,hz]:=I.tuple hq;have hlen:=r'.length;let#[o,ho,hc,n,hd]:=pl;exact XG p (.inr zw) ho hc hd (λh' c' kp e=>fin its r' hz h' c' kp e) (by erw[bE]<;>lia)
theorem AU:dY X (.type "tuple") (λxs H Q=>∃ p ys,xs=[.ref p] /\ ((bO X.K H p ys /\ ∀ l,H l=zp->Q (.ref l) (upd H l (.tup ys))) \/ (bK X.K H p ys /\ Q (.ref p) H))):=by
 intro pins s σ H xs us Q I r h;let#[p,ys,rfl,h]:=h;let#[u,rfl,rx]:=vals1 r;cases rx;rcases h with⟨hq,q⟩|⟨hq,q⟩
 .let#[its,r',pl,hz]:=I.list hq;have hlen:=r'.length;refine call_tuple_list pl.isList (λh' kp=>?_) (by erw[bE]<;>lia);have I1:Inv X pins σ H { s with heap:=h' }:=I.kept (t':=s.toks) kp;have I2:Inv X pins σ (upd H h'.objs.size (.tup ys)) { s with heap:=h'.push { cls:=.type "tuple",data:=.seq its.toArray } }:=
   I1.laid (t':=s.toks) (λb o e=>aT _ e) (au _) (show a9 X.prog X.w _ _ _ (.tup ys) from#[hz,its,r',IsTup.new _ _])
  exact#[.ref h'.objs.size,_,I2,rfl,q _ (I1.ai.fresh (au _))]
 .let#[its,r',pl,hz]:=I.tuple hq;exact call_tuple_same pl #[.ref p,H,I,rfl,q]
def ZO (K:PySem.W.Frag) (T:String) (x:V) (H:Hp):zy:=match x with
 |.str _=>T="str"
 |.int _=>T="int"
 |.ref p=>(T="list" /\ ∃ xs,bO K H p xs) \/ (T="tuple" /\ ∃ o,K.lookup p=some o /\ o.cls=.type "tuple" /\ o.dict=zp) \/
  (T="dict" /\ ((∃ kvs,H p=some zal) \/ ∃ kvs,H p=some (.dT kvs))) \/ (T="set" /\ ∃ S n,H p=some (.set S n))
 |_=>False
theorem RH {T:String}{x:V}{v:zx}(I:Inv X pins σ H s) (r:RelV x v) (ty:ZO X.K T x H) :
 s.TypeIs v T /\ ∀ a,v=.ref a->∃ ob,s.heap.get? a=some ob /\ ob.dict=zp:=by
 cases x with
 |str z=>
   let#[t,rfl]:=r;cases (show T="str" from ty);exact#[typeIs_str s z t,λ_ e=>nomatch e]
 |int i=>
   let#[t,rfl]:=r;cases (show T="int" from ty);exact#[typeIs_int s i t,λ_ e=>nomatch e]
 |ref p=>
   cases r;rcases ty with⟨rfl,xs,hq⟩|⟨rfl,o,hk,hc,hd⟩|⟨rfl,hk⟩|⟨rfl,S,n,hk⟩
   .let#[its,_,pl,_]:=I.list hq;refine#[pl.isList.typeIs,λa e=>?_];cases e;let#[o,n,e,c,hd,_]:=pl;exact#[o,e,hd]
   .refine#[#[o,I.dX p o hk,hc],λa e=>?_];cases e;exact#[o,I.dX _ o hk,hd]
   .have z:∃ o,s.heap.get? p=some o /\ o.ExactDict:=by
     rcases hk with⟨kvs,hk⟩|⟨kvs,hk⟩
     .let#[_,_,_,_,o,_,_,e,ex,_]:=I.ai p _ hk;exact#[o,e,ex]
     .let#[_,_,_,_,o,_,_,e,ex,_]:=I.ai p _ hk;exact#[o,e,ex]
    let#[o,e,ex]:=z;refine#[#[o,e,ex.1],λa e2=>?_];cases e2;exact#[o,e,ex.2.1]
   .let#[o,_,_,_,e,ex,_]:=I.ai p _ hk;refine#[#[o,e,ex.1],λa e2=>?_];cases e2;exact#[o,e,ex.2.1]
 |_=>exact False.elim ty
def HV (K:PySem.W.Frag) (T:String) (r:V->List V->Hp->VK->zy) (to:TE) (t:TA):TE:=λσ H Q=>to σ H λx H1=>ZO K T x H1 /\ t σ H1 λxs H2=>r x xs H2 Q
variable {o:Expr} {to:TE} {t:TA} {name:Str} {b9:Pos} {T id:String} {r:V -> List V -> Hp -> VK -> zy}
theorem Ba (pa:PlainAttrs T) (slot:Slot T name id) (ad1:typeOf (.builtin id)=pure (.type "method_descriptor")) (hm:ZI X id r) (ho:PE X o to) (ha:PA X (e::es) t)
 (vv:attributeBase o name X.env (eval o X.env)=eval o X.env:=by rfl)
 (vw:((backTo b9 (starEach (e::es) X.env)).all (λx=>!x.1)&&(backToKw b9 (keywordEach [] X.env)).all (λx=>x.1.isSome)
  && decide ((e::es).length+([]:List Keyword).length+(if ([]:List Keyword).isEmpty then 0 else 1)<30))=zu:=by rfl)
 (hline:(apos.endLine==b9.line)=zu:=by rfl) (hs:starEach (e::es) X.env=zaB::starEach es X.env:=by rfl) (ad2:(backTo b9 (starEach es X.env)).any (·.1)=zc:=by rfl) :
 PE X (.Call (.Attribute o name apos) (e::es) [] b9) (HV X.K T r to t):=by
 intro pins s σ H Q I h;refine wpAny_Call_method_late vv vw hline zw (tE (ho pins s σ H _ I h) λv s1 x H1 I1 r1 hh=>?_);let#[ty,q1]:=hh;let#[h1,h2]:=RH I1 r1 ty;refine#[T,id,pa,slot,ad1,h1,h2,?_];have hA:=ha b9 pins s1 σ H1 _ I1 q1;rw[hs]at hA ⊢;refine Hl (by show (zc||(backTo b9 (starEach es X.env)).any (·.1))=false;rw[ad2]<;>rfl) (Hm ?_);exact tA hA λus s2 vs H2 I2 r2 q2=>hm pins s2 σ H2 x vs v us Q I2 r1 r2 q2
/- xs.append(e),list.index on a ah7 tuple .. are ZI facts of 06m -/
end
def yH (X:Cx) (id:String) (r:V->List V->Hp->VK->zy):zy:=
 ∀ (pins:List (Addr×Obj)) (s:Shared) (σ:St) (H:Hp) (x:V) (xs:List V) (v:zx) (us:List zx) (Q:VK),Inv X pins σ H s->RelV x v->Vals xs us->r x xs H Q ->
  wpAny zh X.A (call (.builtin id) (v::us)) (EP X pins σ Q) X.xe s
theorem Vals.one:∀ {x:V}{us:List zx},Vals [x] us->∃ u,us=[u] /\ RelV x u
 |_,_,.cons r .nil=>#[_,rfl,r]
theorem Vals.two:∀ {x y:V}{us:List zx},Vals [x,y] us->∃ u v,us=[u,v] /\ RelV x u /\ RelV y v
 |_,_,_,.cons r (.cons q .nil)=>#[_,_,rfl,r,q]
theorem Vals.eraseIdx:∀ {xs:List V}{us:List zx}(i:Nat),Vals xs us->Vals (xs.eraseIdx i) (us.eraseIdx i)
 |_,_,_,.nil=>.nil
 |_,_,0,.cons _ t=>t
 |_,_,i+1,.cons r t=>.cons r (Vals.eraseIdx i t)
theorem Vals.reverse {xs:List V}{us:List zx}(h:Vals xs us):Vals xs.reverse us.reverse:=by
 induction h with
 |nil=>exact .nil
 |cons r t ih=>rw[ES,ES];exact Vals.append ih (.cons r .nil)
theorem Vals.rep {xs:List V}(h:Vals xs us):∀ k:Nat,Vals (List.replicate k xs).flatten (List.replicate k us).flatten:=by
 intro l_;induction l_ with
 |zero=>exact .nil
 |succ k ao=>
   rw[ET,ET,EU,EU];exact Vals.append h (ao)
theorem Bb {α:Type}:∀ (l:List α) (i:Nat),(l.eraseIdx i).length<=l.length
 |[],_=>au _
 |_::_,0=>rG _
 |_::r,i+1=>Nat.succ_le_succ (Bb r i)
section
variable {l b:Addr} {xs ys zs:List V}
theorem Inv.Vt {its its':List zx}{f:Array zx->Array zx}(I:Inv X pins σ H s) (hH:H l=some (.lst xs))
 (e:s.heap.get? l=some { cls:=.type "list",data:=.seq its.toArray n }) (hf:f its.toArray=its'.toArray) (hv:Vals ys its') (hz:ys.length<=sizeLine) :
 Inv X pins σ (upd H l (.lst ys)) { s with heap:=s.heap.update l (Obj.mapSeq f),toks:=t' }:=by
 have q:=PySem.IsL.update e f;rw[hf]at q;refine I.write (x:=l) (e:=l) (by rw[hH];exact trivial) (.inl zw) (λb' u hb hu=>(Yu s.heap (Obj.mapSeq f) (Ne.symm hb)).trans hu) #[_,q] ?_;exact#[hz,its',_,hv,q]
theorem Inv.ad3 {its:List zx}(I:Inv X pins σ H s) (hv:Vals ys its) (hz:ys.length<=sizeLine) :
 Inv X pins σ (upd H s.heap.objs.size (.lst ys)) { s with heap:=s.heap.push { cls:=.type "list",data:=.seq its.toArray },toks:=t' }:=
 I.laid (λ_ _ q=>aT _ q) (au _) #[hz,its,0,hv,cg _ zw]
theorem Inv.fresh (I:Inv X pins σ H s):H s.heap.objs.size=zp:=I.ai.fresh (au _)
theorem Inv.vz (I:Inv X pins σ H s) (hH:H l=some (.lst xs)):xs.length<=sizeLine /\ ∃ (its:List zx) (n:Nat),Vals xs its /\ xs.length=its.length /\ s.heap.get? l=some { cls:=.type "list",data:=.seq its.toArray n }:=by
 let#[z,its,n,r,e]:=I.ai l _ hH;exact#[z,its,n,r,r.length,e]
end
def ZP:V->List V->Hp->VK->zy:=λx vs H Q=>∃ l xs y,x=.ref l /\ vs=[y] /\ H l=some (.lst xs) /\ xs.length<sizeLine /\ Q .non (upd H l (.lst (xs++[y])))
theorem lB:yH X "list.append" ZP:=by
 intro pins s σ H x vs v us Q I rx rv h;let#[l,xs,y,rfl,rfl,hH,hz,q]:=h;cases rx;let#[u,rfl,ru]:=rv.one;let#[z,its,n,r,hl,e]:=I.vz hH;refine xZ F.slot_list_append #[_,e,rfl] F.entry_list_append (F.args_list_append_2 _ _) (PySem.list_append l its.toArray n u (by rw[bE];lia)) #[e,?_];refine#[.non,_,I.Vt (its':=its++[u]) hH e zq (r.append (.cons ru .nil)) ?_,rfl,q];rw[dj,List.length_singleton];lia
def ZQ:V->List V->Hp->VK->zy:=λx vs H Q=>∃ l xs i k y,x=.ref l /\ vs=[.int i] /\ H l=some (.lst xs) /\ -(2 ^ 63)<=i /\ i<2 ^ 63 /\ seqIndex? i xs.length=some k /\ xs[k]?=some y /\ Q y (upd H l (.lst (xs.eraseIdx k)))
theorem JQ:yH X "list.pop" ZQ:=by
 intro pins s σ H x vs v us Q I rx rv h;let#[l,xs,i,k,y,rfl,rfl,hH,h1,h2,hk,hy,q]:=h;cases rx;let#[u,rfl,ru]:=rv.one;let#[t,rfl]:=ru;let#[z,its,n,r,hl,e]:=I.vz hH;let#[w,hw,eX]:=r.get hy;refine xZ F.slot_list_pop #[_,e,rfl] F.entry_list_pop (F.args_list_pop_2 _ _)
  (ada l its.toArray n i t k w (XH h1 h2) (by rw[bE,<-hl];exact hk) (by rw[<-Hu];exact hw) (by rw[bE];lia)) #[e,?_]
 refine#[y,_,I.Vt (its':=its.eraseIdx k) hH e ?_ (r.eraseIdx k) ?_,eX,q]
 .show its.toArray.eraseIdxIfInBounds k=(its.eraseIdx k).toArray;rw[List.eraseIdxIfInBounds_toArray]
 .have:=Bb xs k;lia
def ZR:R2:=λx y H Q=>∃ l b xs zs,x=.ref l /\ y=.ref b /\ H l=some (.lst xs) /\ H b=some (.lst zs) /\ xs.length+zs.length<=sizeLine /\ ∀ p,H p=zp->Q (.ref p) (upd H p (.lst (xs++zs)))
theorem Ad:ba X (binaryOp .Add) ZR:=by
 intro pins s σ H x y v u Q I rx ry h;let#[l,b,xs,zs,rfl,rfl,hH,hB,hz,q]:=h;cases rx;cases ry;let#[z,its,n,r,hl,e]:=I.vz hH;let#[z2,ux,n2,r2,vA,e2]:=I.vz hB;refine PySem.P.add_list e e2 ?_ (by rw[bE,bE];lia);have ea:its.toArray++ux.toArray=(its++ux).toArray:=by simp
 rw[ea];exact#[.ref _,_,I.ad3 (t':=s.toks) (r.append r2) (by rw[dj];lia),rfl,q _ I.fresh]
end L2
namespace ZS
open PySem.W PySem.Calls
theorem oO {P:Params}{h:Heap}:∀ (ns:List Int) (vs:List zx),WellAll P h vs (ns.map WData.int)->IntsAre vs ns:=by
 intro ns;induction ns with
 |nil=>
   intro vs w;rw[ug]at w;cases w;exact .nil
 |cons n ns ih=>
   intro vs w;rw[az]at w;cases w with
   |cons a b=>
     cases a;exact .cons _ _ (ih _ b)
theorem GD {l:OpenLaw}(hn:l.most=some n) {P:Params}{h:Heap}{args:List WData}{vals:List zx}
 (HW:l.row.toRowW.claim.pre args=zu) (Vu:WellAll P h vals args) :
 ∃ a vs ns,vals=[Value.ref a] /\ args=[WData.list (ns.map WData.int)] /\ h.get? a=some { cls:=.type "list",data:=.seq vs.toArray } /\ IntsAre vs ns /\ ns.length<=n:=by
 have ad4:WShape.hasAll [] args [.list .int]=zu:=(pre_splitW HW).1;have hc:l.pre.holds [] { args:=args }=zu:=(pre_splitW HW).2;let#[d,r,rfl,h1,h2]:=hasAllW_cons ad4;obtain rfl:=hasAllW_nil h2;let#[xs,rfl,h3]:=hasW_list h1;let#[ns,rfl]:=items_int h3;have hlen:ns.length<=n:=by
  unfold OpenLaw.pre at hc;have h4:(WTm.not (.lt (.lit (.int (n:Int))) (.len (.arg 0)))).holds [] { args:=[.list (ns.map .int)] }=zu:=by
   have h4:=(holds_andW hc).1;rw[hn]at h4;exact h4
  have h5:=condW_of h4 (w_not (w_lt w_lit (w_len_list (w_arg zw))));rw[aY]at h5;refine u9 λq=>?_;have q':(n:Int)<((ns.length:Nat):Int):=by lia
  first
   |(rw[decide_eq_true q']at h5;exact absurd h5 zf)
   |(simp at h5;lia)
 cases Vu with
 |cons w1 w2=>
   cases w2;cases w1 with
   |list ho yI=>exact#[_,_,ns,rfl,rfl,ho,oO ns _ yI,hlen]
theorem GE (l:OpenLaw) (args:List WData):l.row.toRowW.claim.post args (.bool zu) args=zu:=
 postW_of (r:=l.row.toRowW) (X:=(zu==zu))
  (show WShape.has [] (.bool zu) .bool=zu by first|rfl|decide|simp[WShape.has,WShape.arms,WShape.armsAll])
  (show (WTm.eq .res (.lit (.bool zu))).value [] { args:=args,res:=some (.bool zu),after:=args }=some (.bool (zu==zu)) from w_eq_bool (w_res zw) w_lit) zw
theorem ad5 {l:OpenLaw}{q:Program}{loose:List Str}{XP:(Str->Option zx)->Heap->zy}{YP:World->Heap->zy}{d:DefRec}
 (hn:l.most=some n) (Vv:d.params.defaults=[])
 (call:∀ (w:World) (s₀ s₁:Shared) (mg mb:Str->Option zx) (fa:Addr) (o:Obj) (pm cd doc:zx) (a:Addr) (vs:List zx) (ns:List Int),
  Ground q loose [] XP w s₀ mg mb s₁.heap->YP w s₁.heap ->
  s₁.heap.get? fa=some o->o.data=.func (docDef d.name d.params d.body d.scope pm cd doc)->s₁.heap.CodeRec cd d.name->mg d.name=some (.ref fa) ->
  s₁.heap.get? a=some { cls:=.type "list",data:=.seq vs.toArray }->IntsAre vs ns->ns.length<=n->s₁.gens=#[] ->
  codeAny (model l.prog w) callerA (.call (.ref fa) #[[.ref a],[]]) (λr s'=>r=.ok (.ret (.bool zu)) /\ OldK s₁.heap s'.heap /\ s'.os=s₁.os /\ AllBare s'.gens) s₁) :
 WalkO q loose XP YP l.row.toRowW d [] (λf vs=>PySem.call f vs):=by
 intro w s₀ s₁ mg mb G Y fa o pm cd doc dV kV ho hd dA hD hmg hg args vals as HW ah8 ah9 Vu aia;obtain rfl:dV=.none:=Dflts.none hD Vv;obtain rfl:kV=.none:=Dflts.noKw hD;let#[a,vs,ns,rfl,rfl,Vw,hints,hlen]:=GD hn HW Vu;refine enter_call (xY (call w s₀ s₁ mg mb fa o pm cd doc a vs ns G Y ho (fd_plain hd) dA hmg Vw hints hlen hg) λr s' hq=>?_);let#[rfl,h2,h3,h4]:=hq;exact#[.inl #[.bool zu,.bool zu,[],rfl,λ_=>rfl,.bool zu,GE l _,λ_=>#[List.Pairwise.nil,λ_ hm=>(nomatch hm)]],h2,h3,h4]
end ZS
namespace L2
theorem Bc:∀ {vs:List zx}{ns:List Int},IntsAre vs ns->Vals (ns.map V.int) vs
 |_,_,.nil=>.nil
 |_,_,.cons n t h=>.cons #[t,rfl] (Bc h)
def Vx (H:Hp):zy:=∀ b,H b=zp \/ ∃ o xs,H b=some (.bh o (.lst xs))
theorem JR {mb:Str->Option zx}{k:Nat}{fa:Addr}{s₁:Shared} 
 (KX:K.In s₁.heap) (dD:s₁.heap.Ns mainGlobals mg) (hb:s₁.heap.Ns builtinsNs mb) (ad6:∀ x:Str,x ≠ "__name__"->mb x=bootBuiltins x) (ad7:s₁.heap.NoLimit) (hg:s₁.gens=#[])
 (ha:s₁.heap.get? a=some { cls:=.type "list",data:=.seq vs.toArray }) (hi:IntsAre vs ns) (hl:ns.length<=sizeLine) (hr:cx k callerA)
 (F:∀ base:Heap,K.In base->base.Ns mainGlobals mg->eZ P w K mg base CX k fa fd [x] sp) (ad8:∀ (s:Shared) (u:zx),BindsTo s fd #[[u],[]] [(x,u)])
 (pR:∀ H:Hp,Vx H->bO K H a (ns.map V.int)->sp [.ref a] H (λv _=>v=.bl zu) λ_ _ _=>False)
 (ad9:∀ H e s',CX [] H s₁ (λ_ _ _=>False) e s'->False) :
 codeAny (model P w) callerA (.call (.ref fa) #[[.ref a],[]]) (λr s'=>r=.ok (.ret (.bool zu)) /\ OldK s₁.heap s'.heap /\ s'.os=s₁.os /\ AllBare s'.gens) s₁:=by
 have rv:=Bc hi;have aea:=hi.length
 have core:∀ H:Hp,Vx H->bO K H a (ns.map V.int)->ck P w H s₁.heap->(∀ b,H b≠zp->b=a)->(H a≠zp->K.lookup a=zp) ->
  codeAny (model P w) callerA (.call (.ref fa) #[[.ref a],[]]) (λr s'=>r=.ok (.ret (.bool zu)) /\ OldK s₁.heap s'.heap /\ s'.os=s₁.os /\ AllBare s'.gens) s₁:=by
  intro H hO hS ai hA hK;have iS:∀ {b:Addr}{o:Obj},s₁.heap.get? b=some o->H b=zp->(sN s₁.heap H).get? b=some o:=λe n=>Ju e n;have yE:∀ {b:Addr}{o:Obj}{es:Array DictEntry}{ep:Nat},s₁.heap.get? b=some o->o.data=.dict es ep->H b=zp:=λ{b o es ep} e d=>by
   cases q:H b with
   |none=>rfl
   |some u=>
     have e':b=a:=hA b (by rw[q];simp);subst e';rw[ha]at e;cases e;have d':Data.seq vs.toArray _=Data.dict es ep:=d;cases d'
  have HX:∀ {b:Addr}{m:Str->Option zx},s₁.heap.Ns b m->(sN s₁.heap H).Ns b m:=λ{b m} ⟨o,es,ep,e,d,r⟩=>#[o,es,ep,iS e (yE e d),d,r];have ZT:K.In (sN s₁.heap H):=λb o e=>iS (KX b o e) (by
   cases q:H b with
   |none=>rfl
   |some u=>
     have e':b=a:=hA b (by rw[q];simp);subst e';rw[hK (by rw[q];simp)]at e;cases e)
  have hM:Mod K mg (sN s₁.heap H):=#[ZT,HX dD,#[mb,HX hb,ad6],let ⟨mc,h1,h2⟩:=ad7;#[mc,HX h1,h2]];have e0:xb P w K mg (sN s₁.heap H) callerA [] s₁ H:=#[rfl,hM,λb o e=>M7 e,wC (Gr _ _),trivial,λb hb=>absurd (show b∈([]:List Addr) from hb) zq,ai,.of_eq hg];refine xY ((F _ ZT (HX dD)).run callerA [] s₁ H #[[.ref a],[]] [.ref a] [.ref a] _ _ hr e0 (ad8 s₁ (.ref a)) (.cons zw .nil) (pR H hO hS)) λr s' h=>?_;cases r with
  |error e=>exact(ad9 H e s' h).elim
  |ok fl=>
    cases fl with
    |next=>exact False.elim h
    |brk=>exact False.elim h
    |cont=>exact False.elim h
    |ret u=>
      let#[v,H',os,bare,un,aeb,r',q]:=h;have q':v=.bl zu:=q;subst q';obtain rfl:u=Value.bool true:=r';refine#[rfl,OldK.of_keep λb o e=>?_,os,bare];cases q:H b with
      |none=>exact un.keep b o e q (by intro z;exact absurd (show b∈([]:List Addr) from z) zq) zq
      |some u=>
        rcases hO b with z|⟨ob,xs,z⟩
        .rw[q]at z;cases z
        .have z2:=un.kK b ob _ z;let#[e1,_]:=ai b _ z;let#[e2,_]:=aeb b _ z2;rw[e]at e1;cases e1;exact e2
 cases hk:K.lookup a with
 |some o=>
   have e:=KX a o hk;rw[ha]at e;cases e;refine core (λ_=>zp) (λ_=>.inl zw) (.inr #[_,vs.toArray,_,hk,rfl,rfl,rfl,by rw[bE,aea];exact hl,by simpa using rv]) (λb u z=>by have z':(zp:Option HO)=some u:=z;cases z') (λb z=>absurd rfl z) λz=>absurd rfl z
 |none=>
   refine core (λb=>if b=a then some (.bh { cls:=.type "list",data:=.seq vs.toArray } (.lst (ns.map V.int))) else zp) (λb=>?_) (.inl (.inr #[{ cls:=.type "list",data:=.seq vs.toArray },if_pos zw])) (λb u z=>?_) (λb z=>?_) λ_=>hk
   .by_cases hb:b=a
    .exact .inr #[_,_,if_pos hb]
    .exact .inl (if_neg hb)
   .by_cases hb:b=a
    .have z':=(if_pos hb).symm.trans z;cases z';subst hb;exact#[ha,by rw[aY];exact hl,vs,_,rv,ha]
    .have z':=(if_neg hb).symm.trans z;cases z'
   .by_cases hb:b=a
    .exact hb
    .exact absurd (if_neg hb) z
noncomputable abbrev ZU {h:Heap}(_:K.In h):PySem.W.Frag:=K
end L2
/- THE LAST aib (shape;aic,My.* are aid):
 My.aie: a structure of the addresses that aif aih names (classes,aii);My.Txt K t: a structure (zy) of the equations over K;
 My.aec:{K}{implicit addresses ..}(e1:nsIn K mainGlobals "law"=some (some (.ref f))) (e2:K.lookup f=some #[oc,od,.func (fnOf "law" "law" params body scope dV kV doc pm an cdv ct),sl]) (e3:codeIn K cdv "law"=zu) ..:∃ t,My.Txt K t
set_option maxRecDepth 100000 in
set_option maxHeartbeats 0 in
theorem PySem.Challenge.cw_LID_holds : PySem.Challenge.aed.Holds := by
 w_on;o_law;k_head;(case hw=>w_witness2)
 k_fill
 refine L2.aij (l:=PySem.Challenge.aed) (n:=63) (k:=40) (x:="script") (CX:=λw=>..) (sp:=λ_=>My.ZV) zw (by decide) zw #[rfl,by decide,by decide] (λw h Y=>PySem.W.kIn_of Y) ?F ?S ?C
 case F=>
  intro w mg fa h KX G hmg;have T:∃ t,My.Txt (L2.ZU KX) t:=by
   dsimp only[L2.ZU]                          -- K must aik as «<heap const> w.params» for k_is
   refine' My.aec ?e1 ?e2 ?e3 ..
   (case e1=>PySem.W.k_is)                    -- in the order: a name->its address->its object->its parts
   (case e2=>PySem.W.k_is)
   ..
  let#[t,T]:=T;have e0:=hmg.symm.trans (YO KX G T.law)
  cases e0                                       -- fa is the ail own address
  exact#[_,λs u=>.of_eq zw,λbase kb nb=>My.aee T kb nb]     -- if «.of_eq zw» comes too early: refine' #[_,?b,λbase kb nb=>My.aee T kb nb];exact λs u=>.of_eq zw
 case S=>exact λw H a ns hl hO hS=>..
 case C=>exact ..
(the tactic k_is has no namespace: write k_is) -/
namespace L2
noncomputable def iJ (s:Stmt):Arguments:=match s with
 |.FunctionDef _ a _ _ _ _ _ _ _ _=>a
 |_=>{ posonlyargs:=[],args:=[],vararg:=zp,kwonlyargs:=[],kw_defaults:=[],kwarg:=zp,defaults:=[] }
noncomputable def gm (s:Stmt):List Stmt:=match s with
 |.FunctionDef _ _ b _ _ _ _ _ _ _=>b
 |_=>[]
noncomputable def fG (s:Stmt):Scope:=match s with
 |.FunctionDef _ _ _ _ _ _ sc _ _ _=>sc
 |_=>{ kind:=.function,names:=[],isGenerator:=zc,isCoroutine:=zc }
abbrev qP:n9:=λ_ _ _ _ _ _=>False
noncomputable abbrev E0:XK:=λ_ _ _=>False
theorem aef:Passes qP X E0:=λ_ _ _ _ _ _ _ h=>h.elim
structure kB (K:PySem.W.Frag) (x qual:Str) (st:Stmt) (f:Addr) (fd:FuncData):zy where
 ex:∃ (oc:zx) (od:Option Addr) (kV doc pm:zx) (an:Option Addr) (cdv ct:zx) (pH:Array (Option zx)),
  fd=PySem.W.fnOf x qual (iJ st) (gm st) (fG st) .none kV doc pm an cdv ct /\ K.lookup f=some #[oc,od,.func fd,pH] /\ PySem.W.codeIn K cdv qual=zu
 kp:PySem.W.keepIn K (.ref f)=zu
theorem kB.ok {f:Addr}{ps:List Str}{k:Nat}(F:kB K x qual st f fd) (S:qv N ps (fG st)) (len:∀ vs H Q E,sp vs H Q E->vs.length=ps.length)
 (kL:∀ (cdv:zx) (A:Around) (outer:List Env) (s:Shared) (H:Hp) (vs:List V) (Q:VK) (E:XK),cx k (A.deeper (envOfC qual (fG st) s.heap.objs.size f cdv))->sp vs H Q E ->
  ∃ t,dt (pb qP P w K mg base N qual (fG st) f cdv A outer s H E).sR (gm st) t /\ t { nx:=λ_ H'=>Q .non H',rt:=Q } (start N vs) H):eZ P w K mg base qP (k+1) f fd ps sp:=by
 let#[oc,od,kV,doc,pm,an,cdv,ct,pH,rfl,lk,dA]:=F.ex;refine PP lk dA S len λA outer s H vs Q E hr pR=>?_;let#[t,h,q]:=kL cdv A outer s H vs Q E hr pR;exact#[t,h.sR,q]
theorem kB.binds {f:Addr}{ps:List Str}(F:kB K x qual st f fd)
 (h:∀ (kV doc pm:zx) (an:Option Addr) (cdv ct:zx) (us:List zx),us.length=ps.length->bindArgs (PySem.W.fnOf x qual (iJ st) (gm st) (fG st) .none kV doc pm an cdv ct) #[us,[]]=pure (ps.zip us)):Binds K fd ps []:=by
 let#[oc,od,kV,doc,pm,an,cdv,ct,pH,rfl,lk,dA]:=F.ex;exact .all (h kV doc pm an cdv ct)
theorem Dy {f:Addr}{oc:zx}{od an:Option Addr}{kV doc pm cdv ct:zx}(l:K.lookup f=some #[oc,od,.func (PySem.W.fnOf x qual (iJ st) (gm st) (fG st) .none kV doc pm an cdv ct),pH])
 (c:PySem.W.codeIn K cdv qual=zu) (k:PySem.W.keepIn K (.ref f)=zu):kB K x qual st f (PySem.W.fnOf x qual (iJ st) (gm st) (fG st) .none kV doc pm an cdv ct):=#[#[oc,od,kV,doc,pm,an,cdv,ct,pH,rfl,l,c],k]
theorem HY (h:n<=1000):n<sizeLine:=yf h zf
theorem pv (i:Nat) (hN:X.N[i]?=some x:=by rfl) (hv:sO X.env.scope x:=by first|exact Or.inl zw|exact Or.inr (Or.inl zw)|exact Or.inr (Or.inr zw)) (hd:(x==("__debug__":Str))=zc:=by decide)
 (dA:(x==("__classdict__":Str))=zc:=by decide):PE X (.Name x pos) (Zs i):=By hN hv hd dA
theorem ZW {A B:zy}(h:B):if zc=zu then A else B:=by
 rw[if_neg cT];exact h
def eJ (H H':Hp):zy:=∀ b o,H b=some o->H' b=some o
theorem eJ.free (e:eJ H H') {l:Addr}(h:H' l=Option.none):H l=Option.none:=by
 cases q:H l with
 |none=>rfl
 |some o=>
   rw[e l o q]at h;cases h
noncomputable def eA (cells:List (Str×Addr)):List (Str×NameKind)->List (Str×Addr)->List (Str×Addr)
 |[],acc=>acc
 |(n,k)::r,acc=>eA cells r (if k==.free then (match cells.lookup n with|some c=>(n,c)::acc|none=>acc) else acc)
theorem jy {env:Env}:∀ (names:List (Str×NameKind)) (acc:List (Str×Addr)),(∀ y∈names,y.2=.free->∃ c,env.cells.lookup y.1=some c) ->
 (forIn names acc (λ(x:Str×NameKind) (r:List (Str×Addr))=>(match x with
  |(name,kind)=>if (kind==NameKind.free)=zu then (do let a <-cellOf env name;pure (ForInStep.yield ((name,a)::r))) else pure (ForInStep.yield r):Sem (ForInStep (List (Str×Addr))))))=(pure (eA env.cells names acc):Sem _)
 |[],acc,_=>rfl
 | (n,k)::r,acc,h=>by
   rw[vd];by_cases hk:k=.free
   .subst hk;let#[c,e]:=h (n,.free) bF zw;have e':env.cells.lookup n=some c:=e;have e1:cellOf env n=pure c:=by unfold cellOf;rw[e']
    dsimp only;rw[if_pos zf,e1];have q:=jy (env:=env) r ((n,c)::acc) λy hy=>h y (bD _ hy);have z:eA env.cells ((n,NameKind.free)::r) acc=eA env.cells r ((n,c)::acc):=by
     show eA env.cells r _=_;rw[if_pos zf,e']
    rw[z,<-q];rfl
   .dsimp only;have hb:(k==NameKind.free)=zc:=by simpa using hk
    rw[if_neg (by rw[hb];decide)];have q:=jy (env:=env) r acc λy hy=>h y (bD _ hy);have z:eA env.cells ((n,k)::r) acc=eA env.cells r acc:=by
     show eA env.cells r _=_;rw[if_neg (by rw[hb];decide)]
    rw[z,<-q];rfl
theorem Ae {scope:Scope}{env:Env}(h:∀ y∈scope.names,y.2=.free->∃ c,env.cells.lookup y.1=some c):closureFor scope env=pure (eA env.cells scope.names []):=by
 have q:=jy (env:=env) scope.names [] h;unfold closureFor;first
  |exact q
  |(dsimp only;rw[show (forIn scope.names ([]:List (Str×Addr)) _:Sem _)=_ from q];rfl)
  |(rw[<-q];rfl)
theorem Cn {cells:List (Str×Addr)}:∀ (names:List (Str×NameKind)) (acc:List (Str×Addr)),(∀ x c,acc.lookup x=some c->cells.lookup x=some c)->∀ x c,(eA cells names acc).lookup x=some c->cells.lookup x=some c
 |[],_,h=>h
 | (n,k)::r,acc,h=>by
   refine Cn r _ ?_;intro x c e;by_cases hk:(k==NameKind.free)=zu
   .rw[if_pos hk]at e;cases q:cells.lookup n with
    |none=>rw[q]at e;exact h x c e
    |some a=>
      rw[q]at e;have e':((n,a)::acc).lookup x=some c:=e;rw[eW]at e';cases hx:x==n with
      |true=>rw[hx]at e';rw[eq_of_beq hx,q];exact e'
      |false=>rw[hx]at e';exact h x c e'
   .rw[if_neg hk]at e;exact h x c e
theorem Co {cells:List (Str×Addr)}:∀ (names:List (Str×NameKind)) (acc:List (Str×Addr)) (x:Str),((∃ c,acc.lookup x=some c) \/ ((x,NameKind.free)∈names /\ ∃ c,cells.lookup x=some c))->∃ c,(eA cells names acc).lookup x=some c
 |[],_,x,h=>h.elim id λz=>nomatch z.1
 | (n,k)::r,acc,x,h=>by
   refine Co r _ x ?_;rcases h with⟨c,e⟩|⟨hm,c,e⟩
   .left;by_cases hk:(k==NameKind.free)=zu
    .rw[if_pos hk];cases q:cells.lookup n with
     |none=>exact#[c,e]
     |some a=>
       show ∃ c,((n,a)::acc).lookup x=some c;rw[eW];cases hx:x==n with
       |true=>exact#[a,rfl]
       |false=>exact#[c,e]
    .rw[if_neg hk];exact#[c,e]
   .rcases bA.mp hm with z|z
    .have z1:x=n:=congrArg Prod.fst z;have z2:NameKind.free=k:=congrArg Prod.snd z;subst z1;subst z2;left;rw[if_pos zf,e];exact#[c,by show ((x,c)::acc).lookup x=_;rw[eW,beq_self_eq_true]]
    .exact .inr #[z,c,e]
theorem lX {env:Env}:∀ (names:List (Str×NameKind)) (x:Str) (k':NameKind),
 (names.map λ(n,k)=>if zD then (n,NameKind.cell) else (n,k)).lookup x=some k' ->
 ∃ k,names.lookup x=some k /\ (k'=k \/ (k=.free /\ k'=.cell))
 |[],_,_,h=>by simp at h
 | (n,k)::r,x,k',h=>by
   have h':List.lookup x ((if zD=zu then (n,NameKind.cell) else (n,k))::(r.map λ(n,k)=>if zD then (n,NameKind.cell) else (n,k)))=some k':=h;by_cases hc:zD=zu
   .rw[if_pos hc,eW]at h';rw[eW];cases hx:x==n with
    |true=>
      rw[hx]at h';have hk:k=.free:=by
       cases hq:(k==NameKind.free) with
       |true=>exact eq_of_beq hq
       |false=>rw[hq]at hc;simp at hc
      exact#[k,rfl,.inr #[hk,(Option.some.inj h').symm]]
    |false=>rw[hx]at h';exact lX r x k' h'
   .rw[if_neg hc,eW]at h';rw[eW];cases hx:x==n with
    |true=>rw[hx]at h';exact#[k,rfl,.inl (Option.some.inj h').symm]
    |false=>rw[hx]at h';exact lX r x k' h'
theorem jz {env:Env}:∀ (names:List (Str×NameKind)) (x:Str),names.lookup x=some .free ->
 (names.map λ(n,k)=>if zD then (n,NameKind.cell) else (n,k)).lookup x=some .cell \/
 (names.map λ(n,k)=>if zD then (n,NameKind.cell) else (n,k)).lookup x=some .free
 |[],_,h=>by simp at h
 | (n,k)::r,x,h=>by
   show List.lookup x ((if zD=zu then (n,NameKind.cell) else (n,k))::_)=_ \/ List.lookup x ((if zD=zu then (n,NameKind.cell) else (n,k))::_)=_;rw[eW]at h;by_cases hc:zD=zu
   .rw[if_pos hc,eW];cases hx:x==n with
    |true=>exact .inl zw
    |false=>rw[hx]at h;exact jz r x h
   .rw[if_neg hc,eW];cases hx:x==n with
    |true=>rw[hx]at h;exact .inr h
    |false=>rw[hx]at h;exact jz r x h
theorem ir:∀ (names:List (Str×NameKind)) (n:Nat) (acc:List (Str×Addr)),cellsFrom n names acc=cellsFrom n names []++acc
 |[],_,_=>rfl
 | (x,k)::r,n,acc=>by
   unfold cellsFrom;split
   .rw[ir r (n+1) ((x,n)::acc),ir r (n+1) [(x,n)],rJ];rfl
   .exact ir r n acc
theorem mX:∀ (names:List (Str×NameKind)) (n:Nat) {x:Str}{c:Addr},(x,c)∈cellsFrom n names []->(x,NameKind.cell)∈names
 |[],_,_,_,h=>nomatch h
 | (y,k)::r,n,x,c,h=>by
   unfold cellsFrom at h;split at h
   .ext hk;rw[ir]at h;rcases List.mem_append.mp h with h|h
    .exact bD _ (mX r _ h)
    .cases qo.mp h;rw[<-eq_of_beq hk];exact bF
   .exact bD _ (mX r _ h)
theorem Af {α:Type}:∀ {l:List (Str×α)}{x:Str}{a b:α},(l.map (·.1)).Nodup->(x,a)∈l->(x,b)∈l->a=b
 | (y,c)::l,x,a,b,h,ha,hb=>by
   rw[az,rL]at h;rcases bA.mp ha with e|ha<;>rcases bA.mp hb with e'|hb
   .rw[<-e']at e;exact(Prod.mk.inj e).2
   .exact absurd (bJ.mpr #[_,hb,(Prod.mk.inj e).1]) h.1
   .exact absurd (bJ.mpr #[_,ha,(Prod.mk.inj e').1]) h.1
   .exact Af h.2 ha hb
theorem jA {α:Type}{x:Str}:∀ {l m:List (Str×α)},(l++m).lookup x=match l.lookup x with|some a=>some a|none=>m.lookup x
 |[],m=>rfl
 | (y,a)::l,m=>by
   rw[EV,eW,eW];cases x==y with
   |true=>rfl
   |false=>exact jA
theorem Ag {scope:Scope}{globals:Addr}{cl:List (Str×Addr)}{env:Env}{Q:Env->Shared->zy}
 (h:Q { scope:=scope,locals:=s.heap.objs.size,globals:=globals,cells:=cellsFrom zK scope.names cl,qual:=qual,func:=zp,code:=env.code,frame:=env.frame,builtins:=env.builtins }
  { s with heap:=pushCells zaA scope.names }) :
 wpAny M A (newFunctionEnv scope globals cl [] qual zp .none (some env)) Q E s:=by
 unfold newFunctionEnv;refine ae (wpAny_alloc (ae (wpAny_layCells _ (λname kind cells=>by cases hk:kind==NameKind.cell<;>simp[hk]) _ _ _ _ ?_)));rw[show ({ s with heap:=s.heap.push { cls:=.type (if (some env).isSome=true then "dict" else "frame"),data:=.dict #[] } }:Shared).heap.objs.size=s.heap.objs.size+1 from sH ..];exact ae (ak (ak h))
noncomputable abbrev Cx.comp (X:Cx) (N:List Str) (scope:Scope) (cl:List (Str×Addr)) (s:Shared) (H:Hp) (C:Addr) (fp:List Addr):Cx:=
 { X with N:=N,s₀:=s,H₀:=H,env:=compEnvC scope cl C X.env,outer:=X.stack,stack:=X.stack,ex:=fp,fn:=λx=>decide (scope.names.lookup x=some .cell),pn:=[],xe:=λ_ _=>False }
structure qQ (X:Cx) (N:List Str) (src:List (Option Nat)) (scope:Scope):zy where
 kind:scope.kind=.function
 nk:(scope.names.map (·.1)).Nodup
 names:∀ y∈scope.names,y.2=.local->scope.names.lookup y.1=some .local
 has:∀ y∈scope.names,y.2=.free->X.env.kindOf y.1=some .cell \/ X.env.kindOf y.1=some .free
 aeg:src.length=N.length
 aeh:∀ (j i:Nat) (x:Str),src[j]?=some (some i)->N[j]?=some x->X.N[i]?=some x /\ scope.names.lookup x=some .free
noncomputable def uz (src:List (Option Nat)) (σ:St):St:=src.map λo=>o.bind λi=>(σ[i]?).bind id
def PF (X:Cx) (ifs:List Expr) (t:TT):zy:=
 ∀ (pins:List (Addr×Obj)) (s:Shared) (σ:St) (H:Hp) (Q:Bool->Hp->zy),Inv X pins σ H s->t σ H Q ->
  wpAny zh X.A (forIn ifs zu λc r=>if r=zu then do let ok <-isTrue c X.env (eval c X.env);pure (ForInStep.yield ok) else pure (ForInStep.yield r)) (TP X pins σ Q) X.xe s
theorem RI:PF X [] (λ_ H Q=>Q zu H):=λ_ _ _ H _ I h=>wpAny_tests_nil #[H,I,h]
theorem RJ {c:Expr}{t:TT}(h:PT X c t):PF X [c] t:=λpins s σ H Q I hw=>wpAny_tests_one (h pins s σ H Q I hw)
def ZX (J:It) (g:TG) (tf:TT) (te:TE) (D:Addr) (Q:VK) (σ0:St) (H0:Hp):zy:=
 ∃ W:Nat->Nat->St->Hp->zy,(∃ m,W 0 m σ0 H0) /\ ∀ i m σ' H',W i m σ' H' ->
  (J.stop i H' /\ Q (.ref D) H') \/ (J.go i H' /\ ∃ N:St->Hp->zy,(∀ σ2 H2,N σ2 H2->∃ m',m'<m /\ W (i+1) m' σ2 H2) /\ ∀ x H2,J.yy i H' x H2->g x σ' H2 λσ2 H3=>tf σ2 H3 λb H4=>
   if b=zu then te σ2 H4 λy H5=>∃ ys,H5 D=some (.lst ys) /\ ys.length<sizeLine /\ N σ2 (upd H5 D (.lst (ys++[y]))) else N σ2 H4)
def HZ (src:List (Option Nat)) (wi:TI) (g:TG) (tf:TT) (te:TE):TE:=λσ H Q=>wi σ H λJ H1=>∀ D,H1 D=zp->ZX J g tf te D Q (uz src σ) (upd H1 D (.lst []))
noncomputable abbrev xf (P:Program) (w:World) (A:Around) (env:Env) (R:Result->Shared->zy):zx->Shared->zy:=
 notedBy (model P w) A env λx z=>R (.error x) z
noncomputable abbrev aei (ifs:List Expr) (env:Env):Sem Bool:=
 forIn ifs zu λc r=>if r=zu then do let ok <-isTrue c env (eval c env);pure (ForInStep.yield ok) else pure (ForInStep.yield r)
theorem mG {elt:Expr}{scope:Scope}{it acc:zx}{env:Env}
 (J:Nat->Shared->zy) (N:zx->Nat->Shared->zy)
 (hN:∀ v n z,N v n z->wpAny zk A (letOwnedTupleGo tg it v) (λ_ z1=>
  wpAny zk A (assign tg env v) (λ_ z2=>
  wpAny zk A (aei ifs env) (λb z3=>
   if b=zu then wpAny zk A (eval elt env) (λy z4=>
    wpAny zk A (call (.builtin "list.append") [acc,y])
     (λ_ z5=>∃ k,k<n /\ J k z5) (xf prog w A env R) z4) (xf prog w A env R) z3
   else ∃ k,k<n /\ J k z3)
   (xf prog w A env R) z2) (xf prog w A env R) z1) (xf prog w A env R) z)
 (go:∀ n z,J n z->wpAny zk A (pyNext it)
  (λr z1=>match r with|none=>R (.ok .next) z1|some v=>N v n z1) (xf prog w A env R) z)
 (n:Nat) (h:J n s) :
 codeAny zk A (.compLoop zF 0 it acc env) R s:=by
 refine codeAny_loop zw J (λk z hz=>?_) n h;show wpAny _ A (Sem.onRaise (compTurn _ 0 it acc env) _) _ _ z;refine wpAny_noted ?_;rw[compTurn_list];refine ae (EK (ae ?_));refine eT (go k z hz) (λr z1 h1=>?_) λ_ _ q=>q;cases r with
 |none=>exact ak h1
 |some v=>
   refine ae (eT (hN v k z1 h1) (λ_ z2 h2=>ae ?_) λ_ _ q=>q);refine eT h2 (λ_ z3 h3=>ae ?_) λ_ _ q=>q;refine eT h3 (λb z4 h4=>?_) λ_ _ q=>q;cases b with
   |false=>exact ak #[rfl,h4]
   |true=>
     refine ae (ae (eT h4 (λy z5 h5=>ae ?_) λ_ _ q=>q));exact eT h5 (λ_ z6 h6=>ak (ak #[rfl,h6])) λ_ _ q=>q
theorem qQ.cells {N:List Str}{src:List (Option Nat)}{scope:Scope}(S:qQ X N src scope) (ok:X.Ok):∀ y∈scope.names,y.2=.free->∃ c,X.env.cells.lookup y.1=some c:=
 λy hy hf=>ok.has y.1 (S.has y hy hf)
theorem Cp {cells:List (Str×Addr)}{x:Str}{c:Addr}:∀ (names:List (Str×NameKind)) (acc:List (Str×Addr)),(x,c)∉acc->(x,c)∈eA cells names acc->(x,NameKind.free)∈names
 |[],_,h,e=>absurd e h
 | (n,k)::r,acc,h,e=>by
   by_cases hx:x=n /\ k=.free
   .let#[rfl,rfl]:=hx;exact bF
   .refine bD _ (Cp r _ ?_ e);by_cases hk:(k==NameKind.free)=zu
    .rw[if_pos hk];cases q:cells.lookup n with
     |none=>exact h
     |some a=>
       intro z;rcases bA.mp z with z|z
       .exact hx #[(Prod.mk.inj z).1,eq_of_beq hk]
       .exact h z
    .rw[if_neg hk];exact h
theorem Cq {src:List (Option Nat)}{scope:Scope}{s':Shared} 
 (S:qQ X N src scope) (I:Inv X pins σ H s) (Vy:∀ b∈fp,pP X pins H b /\ b<s.heap.objs.size) (hh:s'={ s with heap:=pushCells zaA scope.names }) :
 Inv (X.comp N scope (cellsFrom zK scope.names (eA X.env.cells scope.names [])) s H s.heap.objs.size fp) [] (uz src σ) H s':=by
 subst hh;have hk:∀ b o,s.heap.get? b=some o->(pushCells zaA scope.names).get? b=some o:=λb o e=>EL _ _ b o (aT _ e);have dD:(pushCells zaA scope.names).Ns s.heap.objs.size (λ_=>zp):=(Heap.Ns.new s.heap (.type "dict")).keeps (EL _ _);have ok:=cellsFrom_ok scope.names zaA zK [] #[λ_ _ hm=>(nomatch hm),List.Pairwise.nil] (by rw[sH];exact au _);rw[sH]at ok;have split:∀ x c,(cellsFrom zK scope.names (eA X.env.cells scope.names [])).lookup x=some c->(cellsFrom zK scope.names []).lookup x=some c \/ (eA X.env.cells scope.names []).lookup x=some c:=λx c e=>by
  rw[ir,jA]at e;cases q:(cellsFrom zK scope.names []).lookup x with
  |some a=>rw[q]at e;exact .inl e
  |none=>rw[q]at e;exact .inr e
 have own:∀ x c,(cellsFrom zK scope.names []).lookup x=some c->s.heap.objs.size<c /\ (pushCells zaA scope.names).IsCell c zp:=λx c e=>by
  let#[a,b]:=ok.empty x c (nS e);exact#[b,a]
 have ZY:∀ x,scope.names.lookup x=some .free->(cellsFrom zK scope.names (eA X.env.cells scope.names [])).lookup x=(eA X.env.cells scope.names []).lookup x:=λx e=>by
  rw[ir,jA];cases q:(cellsFrom zK scope.names []).lookup x with
  |some a=>exact absurd (Af S.nk (nS e) (mX _ _ (nS q))) zf
  |none=>rfl
 have low:∀ x c,X.env.cells.lookup x=some c->c<s.heap.objs.size:=λx c e=>by
  let#[v,o,ho,_]:=I.cell x c e;exact a8 ho
 have sub:=Cn (cells:=X.env.cells) scope.names [] (λx c e=>by simp at e);have aej:∀ x,((relabel scope X.env).names.lookup x=some .cell \/ (relabel scope X.env).names.lookup x=some .free)->scope.names.lookup x=some .free \/ scope.names.lookup x=some .cell:=λx hx=>by
  have go:∀ k',(k'=NameKind.cell \/ k'=NameKind.free)->(relabel scope X.env).names.lookup x=some k'->scope.names.lookup x=some .free \/ scope.names.lookup x=some .cell:=λk' qx e=>by
   let#[k,e1,q]:=lX (env:=X.env) scope.names x k' e;rcases q with q|⟨q,_⟩
   .subst q;rcases qx with z|z
    .subst z;exact .inr e1
    .subst z;exact .inl e1
   .subst q;exact .inl e1
  exact hx.elim (go _ (.inl zw)) (go _ (.inr zw))
 have ZZ:∀ x,scope.names.lookup x=some .free->∃ c,(eA X.env.cells scope.names []).lookup x=some c /\ X.env.cells.lookup x=some c:=λx e=>by
  have hm:=nS e;let#[c,e1]:=Co (cells:=X.env.cells) scope.names [] x (.inr #[hm,S.cells I.ok (x,.free) hm zw]);exact#[c,e1,sub x c e1]
 refine#[#[I.ok.mod,?_,I.ok.glob,I.ok.blt,au _,λx y c e1 e2=>?_,λx hx=>?_,λx c e=>?_,I.ok.hd,I.ok.frames,.inl zw,λb hb=>?_,I.bs,bU I.ok.sP I.sz,λb o e hb=>?_,λb hb=>?_,I.stack,I.QS],
  rfl,I.bare,Un.kept hk,#[_,dD,λj x v e1 e2 e3=>?_],λx c e=>?_,I.ai.fresh (au _),λx c e=>?_,λp hp=>absurd (show p∈([]:List (Addr×Obj)) from hp) zq,I.ai.kept hk,?_]
 .exact S.kind
 .rcases split x c e1 with q1|q1<;>rcases split y c e2 with q2|q2
  .exact Xv ok.apart (nS q1) (nS q2)
  .exact absurd (EN (own x c q1).1 (low y c (sub y c q2))) (eU _)
  .exact absurd (EN (own y c q2).1 (low x c (sub x c q1))) (eU _)
  .exact I.ok.inj x y c (sub x c q1) (sub y c q2)
 .rcases aej x hx with k|k
  .let#[c,e1,_]:=ZZ x k;exact#[c,(ZY x k).trans e1]
  .let#[c,e1]:=Aa (n:=s.heap.objs.size+1) k;refine#[c,?_];show (cellsFrom zK scope.names (eA X.env.cells scope.names [])).lookup x=some c;rw[ir,jA,e1]
 .intro hl;rcases split x c hl with q|q
  .exact eV (own x c q).1
  .have k:scope.names.lookup x=some .cell:=of_decide_eq_true e;have m:(x,NameKind.free)∈scope.names:=Cp _ _ zq (nS q);exact absurd (Af S.nk (nS k) m) zf
 .let#[f,hl]:=Vy b hb;refine#[cH hl,λx c e=>?_];rcases split x c e with q|q
  .exact ye (EN hl (own x c q).1)
  .exact f.2.2.2.2.1 x c (sub x c q)
 .let#[f,_]:=Vy b hb;let#[_,_,_,f4,_]:=f;rcases f4 with z|z
  .exact I.ok.wV b o e z
  .have q:=(I.ok.bs b o e).1;exact absurd (dU (a8 q) z) (eU _)
 .let#[f,_]:=Vy b hb;intro hz;rcases bA.mp (I.wW b hz) with e|e
  .exact f.2.1 e
  .exact f.2.2.1 e
 .have hs:∃ i,src[j]?=some (some i) /\ σ[i]?=some (some v):=by
   have sY:(src.map λo=>o.bind λi=>(σ[i]?).bind id)[j]?=some (some v):=e2;rw[nU]at sY;cases q:src[j]? with
   |none=>rw[q]at sY;cases sY
   |some o=>
     rw[q]at sY;cases o with
     |none=>cases sY
     |some i=>
       refine#[i,rfl,?_];have Ia:(σ[i]?).bind id=some v:=Option.some.inj sY;cases z:σ[i]? with
       |none=>rw[z]at Ia;cases Ia
       |some o'=>
         rw[z]at Ia;have:o'=some v:=Ia;rw[this]
  let#[i,aek,hσ]:=hs;let#[hN,eK]:=S.aeh j i x aek e1;have Z0:=S.has (x,.free) (nS eK) zw;let#[m,_,hl]:=I.loc;let#[u,r,lk]:=hl i x v hN hσ (.inr Z0);refine#[u,r,?_];rcases lk with⟨k,_⟩|⟨_,c,ec,HD⟩
  .rcases Z0 with z|z
   .rw[z]at k;cases k
   .rw[z]at k;cases k
  .let#[c',nG,sY]:=ZZ x eK;have:c'=c:=by rw[ec]at sY;exact(Option.some.inj sY).symm
   subst this;refine .inr #[?_,c',(ZY x eK).trans nG,?_]
   .exact jz (env:=X.env) scope.names x eK
   .let#[o,ho,hd]:=HD;exact#[o,hk _ _ ho,hd]
 .rcases split x c e with q|q
  .exact#[zp,(own x c q).2]
  .let#[v,o,ho,hd]:=I.cell x c (sub x c q);exact#[v,o,hk _ _ ho,hd]
 .rcases split x c e with q|q
  .exact I.ai.fresh (eV (own x c q).1)
  .exact I.nD x c (sub x c q)
 .show (uz src σ).length=N.length;unfold uz;rw[aY];exact S.aeg
theorem Nk {src:List (Option Nat)}{elt:Expr}{scope:Scope}{wi:TI}{g:TG}{tf:TT}{te:TE}
 (hc:X.calm=zu) (S:qQ X N src scope) (hi:PI X tg iter wi)
 (hg:∀ cl s H C fp,PG zT tg g) (hf:∀ cl s H C fp,PF zT ifs tf) (he:∀ cl s H C fp,PE zT elt te)
 (hs:∀ x,foldedSetIterable iter X.env x=pure x:=by intro _;rfl):PE X zF (HZ src wi g tf te):=by
 intro pins s σ H Q I h;rw[eval_ListComp];refine XI (use:=zp) zw hs (Ae (S.cells I.ok)) S.kind S.names (bV (hi pins s σ H _ I h) λxv s1 h1=>bV h1 λHG s2 h2=>?_);let#[it,fp,tn,J,H2,e,I2,T,vp,f2,hW]:=h2;subst e;refine qi ?_;generalize hD:s2.heap.objs.size=D;have Vz:H2 D=zp:=I2.ai.fresh (wC hD);have I3:Inv X pins σ (upd H2 D (.lst [])) { s2 with heap:=s2.heap.push { cls:=.type "list",dict:=zp,data:=.seq ([]:List zx).toArray } }:=by
  subst hD;exact I2.laid (t':=s2.toks) (λb u e=>aT _ e) (au _) #[kI _,[],0,.nil,cg _ zw]
 let#[W,#[m0,w0],turn]:=hW D Vz;have up:∀ b o,s2.heap.get? b=some o->(s2.heap.push { cls:=.type "list",dict:=zp,data:=.seq ([]:List zx).toArray }).get? b=some o:=λb u e=>aT _ e;have VA:=T.obj _ _ vp;have uo:tn 0 (s2.heap.push { cls:=.type "list",dict:=zp,data:=.seq ([]:List zx).toArray }):=T.keep _ _ _ vp λb _ o e=>up b o e;have yJ:∀ b∈fp,b<s2.heap.objs.size:=λb hb=>by let#[o,e,_]:=VA b hb;exact a8 e
 have f3:∀ b∈fp,pP X pins (upd H2 D (.lst [])) b:=λb hb=>#[by rw[fw (by rw[<-hD];exact cH (yJ b hb))];exact(f2 b hb).1,(f2 b hb).2];generalize VB:({ s2 with heap:=s2.heap.push { cls:=.type "list",dict:=zp,data:=.seq ([]:List zx).toArray } }:Shared)=s3 at I3 ⊢;have yL:s3.heap=s2.heap.push { cls:=.type "list",dict:=zp,data:=.seq ([]:List zx).toArray }:=by rw[<-VB]
 rw[<-yL]at uo;have VC:∀ b∈fp,b<s3.heap.objs.size:=λb hb=>by rw[yL,sH];exact yh (yJ b hb)
 generalize ael:upd H2 D (.lst [])=H3 at I3 f3 w0;refine Ag ?_;generalize yM:pushCells (s3.heap.push { cls:=.type "dict",data:=.dict #[] }) scope.names=h₁;have k1:∀ b o,s3.heap.get? b=some o->h₁.get? b=some o:=λb o e=>by rw[<-yM];exact EL _ _ b o (aT _ e)
 have IY:=Cq S I3 (λb hb=>#[f3 b hb,VC b hb]) (s':={ s3 with heap:=h₁ }) (by rw[yM]);have yO:tn 0 h₁:=T.keep _ _ _ uo λb _ o e=>k1 b o e;generalize uA:cellsFrom (s3.heap.objs.size+1) scope.names (eA X.env.cells scope.names [])=cl at IY ⊢;generalize hC:s3.heap.objs.size=C at IY ⊢;have vB:∀ {H':Hp},(∀ b∈fp,H' b=zp)->∀ b∈fp,pP zan [] H' b:=λhn b hb=>by
  refine#[hn b hb,?_,?_,.inl hb,?_,λp hp=>absurd (show p∈([]:List (Addr×Obj)) from hp) zq]
  .exact(IY.ok.vn b hb).1
  .exact IY.ok.vo b hb
  .intro x c e z;exact(IY.ok.vn b hb).2 x c e z
 have fin:∀ (σ':St) (H':Hp) (s':Shared),Inv zan [] σ' H' s'->∀ h',Heap.SameBut C s'.heap h'->Inv X pins σ H' { s' with heap:=h' }:=λσ' H' s' I' h' vC=>by
  have vD:H' C=zp:=I'.free;have kp:∀ b o,b≠C->s'.heap.get? b=some o->h'.get? b=some o:=λb o hb e=>vC.extBut b o hb e;have VD:s3.heap.get? C=zp:=by rw[<-hC];exact Qn (au _)
  have qr:∀ b o,s3.heap.get? b=some o->b≠C:=λb o e z=>by rw[z,VD]at e;cases e
  have U:=I'.base;refine I3.QW (s':={ s' with heap:=h' }) (ch:=fp) I'.os #[λb o e n hb hx=>kp b o (qr b o e) (U.keep b o e n hb hx),λb o e n hb hx=>?_,U.free,λb o e hx=>?_,U.ku,U.kK,U.nC] ?_ I'.bare λb hb=>?_
  .let#[sl,e1]:=U.slot b o e n hb hx;exact#[sl,kp b _ (qr b o e) e1]
  .let#[o',e1]:=U.there b o e hx;exact#[o',kp b o' (qr b o e) e1]
  .intro b ob e;refine(I'.ai b ob e).eG (λc w' dq q=>kp c w' (λz=>?_) q) (λ_ q=>q) λ_ _ q=>q;rcases dq with z1|z1
   .rw[<-z1,z,vD]at e;cases e
   .rw[z,vD]at z1;cases z1
  .exact#[(f3 b hb).2.2.2.1,(f3 b hb).2.1,λx c e=>(f3 b hb).2.2.2.2.1 x c e,(f3 b hb).2.2.2.2.2]
 have loop:∀ s4:Shared,s4={ s3 with heap:=h₁ } ->
  codeAny zh X.A (.compLoop zF 0 (.ref it) (.ref D) (compEnvC scope cl C X.env)) (compPost zh X.A X.xe zp (EP X pins σ Q) (.ref D) C) s4:=by
  rintro s4 rfl;refine mG (λn s'=>∃ i σ' H',Inv zan [] σ' H' s' /\ tn i s'.heap /\ (∀ b∈fp,H' b=zp) /\ W i n σ' H') _ (λ_ _ _ q=>q) ?_ m0 #[0,_,H3,IY,yO,λb hb=>(f3 b hb).1,w0];rintro n s5 ⟨i,σ5,H5,I5,sV,vq,w5⟩;have hG:∀ {α:Type}{t:Sem α}{Q1:α->Shared->zy}{E1:zx->Shared->zy}{ss:Shared},wpAny zh X.A t Q1 (λ_ _=>False) ss->wpAny zh X.A t Q1 E1 ss:=λhw=>eT hw (λ_ _ q=>q) λ_ _ z=>False.elim z;rcases turn i n σ5 H5 w5 with⟨stop,q5⟩|⟨go,NN,hN,step⟩
  .refine hG (bV (T.done (X.comp N scope cl s3 H3 C fp) zw zw zw hc i [] s5 σ5 H5 (λ_ _=>False) I5 (vB vq) sV stop) ?_);rintro r s6 ⟨hr,I6⟩;subst hr;let#[m6,VE,_]:=I6.loc;exact#[m6,VE,λh' vC=>#[.ref D,H5,fin σ5 H5 s6 I6 h' vC,rfl,q5]]
  .refine hG (bV (T.item zan zw zw zw hc i [] s5 σ5 H5 (λ_ _=>False) I5 (vB vq) sV go) ?_);rintro r s6 ⟨u,hr,h6⟩;subst hr;refine hG (bV h6 ?_);rintro _ s7 ⟨x,H7,I7,r7,y7,vE,VF⟩;have VG:=I7.pinned (vB VF) (T.obj _ _ vE);refine hG (bV (hg cl s3 H3 C fp _ s7 σ5 H7 x u _ VG r7 (step x H7 y7)) ?_);rintro _ s8 ⟨σ8,H8,I8,q8⟩;refine hG (tT (hf cl s3 H3 C fp _ s8 σ8 H8 _ I8 q8) λb s9 H9 I9 q9=>?_);have again:∀ {σ9:St}{HA:Hp}{sA:Shared},Inv zan ([]++wZ fp s7.heap) σ9 HA sA->NN σ9 HA->∃ m,m<n /\ ∃ i σ' H',Inv zan [] σ' H' sA /\ tn i sA.heap /\ (∀ b∈fp,H' b=zp) /\ W i m σ' H':=λ{σ9 HA sA} IA nA=>by
    let#[m',hm,wA]:=hN σ9 HA nA;refine#[m',hm,i+1,σ9,HA,IA.yB,T.keep _ _ _ vE λb hb o e=>(IA.pin (b,o) (kY _ (kY _ (ip hb e)))).1,λb hb=>?_,wA];let#[o,e,d]:=T.obj _ _ vE b hb;exact(IA.pin (b,o) (kY _ (kY _ (ip hb e)))).2.1
   cases b with
   |false=>
     rw[if_neg zf]at q9;rw[if_neg zf];exact again I9 q9
   |true=>
     rw[if_pos rfl]at q9;rw[if_pos rfl];refine hG (tE (he cl s3 H3 C fp _ s9 σ8 H9 _ I9 q9) λyv sA y HA IA rA hh=>?_);let#[ys,VH,VI,nA]:=hh;refine hG (bV (lB _ sA σ8 HA (.ref D) [y] (.ref D) [yv] (λ_ HB=>NN σ8 HB) IA zw (.cons rA .nil) #[D,ys,y,rfl,rfl,VH,VI,nA]) λr sB hB=>?_);let#[_,HB,IB,_,nB]:=hB;exact again IB nB
 exact XJ (loop _ zw) (T.self _ 0 _ _ _ yO (loop _ zw))
open PySem.W PySem.Builtin PySem.Builtin.ObjectAttr PySem.Builtin.Getset_descriptor
section
variable {x C:Addr}
def eL (x C:Addr) (h:Heap):zy:=∃ ox,h.get? x=some ox /\ ox.cls=.ref C
theorem eL.type {h:Heap}(I:eL x C h):Looks M h (typeOf (.ref x)) (.ref C):=by
 let#[ox,e,hc]:=I;exact hc▸(Looks.ld e).andThen .now
theorem JS {h:Heap}(X:K.In h) {a g:zx}{name:Str}(ha:findIn K (.ref C) name=some (some a)) (hg:specialIn K a "__get__"=some (some g)) (ht:takesIn K a=some zu) :
 Looks M h (find (.ref x) (.ref C) name) (.bind g a):=by
 have l1:=QD (M:=M) X ha;have l2:Looks M h (getOf (some a)) (some g):=looks_specialIn X hg;have l3:=looks_takesIn (M:=M) X ht;have l4:Looks M h (dataDescriptor? (some a) (some g)) (some (g,a)):=l3.andThen .now;exact l1.andThen (l2.andThen (l4.andThen (Looks.tag .now)))
theorem Nl {tp:zx}(X:K.In s.heap) (I:eL x C s.heap) (hm:mroIn K C (.type "object")=some zu) (q:R (.ok (.ret (.ref C))) s) :
 codeAny zk A (.call (.builtin "getset_descriptor.__get__") #[[.builtin "object.__class__",.ref x,tp],[]]) R s:=by
 let#[hh,g,dr,t,os]:=s;have l0:=I.type (M:=model prog w);have l1:=QE (M:=model prog w) X hm;refine XM KF.slot_gs.plain KF.entry_gs
  (KF.slot_gs.check _ _ _ _ _ _ _ _ KF.type_class (KF.args_gs _ _ _) ?_)
 unfold Builtin.«getset_descriptor.__get__» descrGet;rw[dga_obj];refine ae (ak ?_);unfold descrGetter descrCheckInstance descrNameAndClass;unfold isInstance;erw[KF.owner_class]
 repeat (any_goals (first|assumption|with_reducible refine l0.at ?_|with_reducible refine l1.at ?_|wp_step))
 refine#[Zj _ (by decide +kernel),KS KF.entry_class ?_];unfold Builtin.«object.__class__»;unfold shownTypeOf
 repeat (any_goals (first|assumption|with_reducible refine l0.at ?_|wp_step))
structure vF (K:Frag) (C:Addr):zy where
 ga:findIn K (.ref C) "__getattribute__"=some (some (.builtin "BaseException.__getattribute__"))
 gt:findIn K (.ref C) "__getattr__"=some zp
 cl:findIn K (.ref C) "__class__"=some (some (.builtin "object.__class__"))
 gs:specialIn K (.builtin "object.__class__") "__get__"=some (some (.builtin "getset_descriptor.__get__"))
 tk:takesIn K (.builtin "object.__class__")=some zu
 mo:mroIn K C (.type "object")=some zu
 mb:mroIn K C (.type "BaseException")=some zu
 cd:(clsIn K C).isSome=zu
theorem JT {h:Heap}{g:Array GenState}{d:Drawn}{t:Nat}{os:OsState}{Z1:zx}{Q:Unit->Shared->zy}(T:vF K C) (X:K.In h) (I:eL x C h)
 (hq:Q () #[h,g,d,t,os]):wpAny M A (checkBuiltinCall "BaseException.__getattribute__" #[[.ref x,Z1],[]]) Q E #[h,g,d,t,os]:=by
 have hk:builtinKind "BaseException.__getattribute__"=some .slot:=by decide +kernel
 have aem:splitId "BaseException.__getattribute__"=some ("BaseException","__getattribute__"):=by decide +kernel
 have ha:=F.args_bexc_ga (.ref x) Z1;have L0:=I.type (M:=M);have L1:=QE (M:=M) X T.mb;have LI:Looks M h (isInstance (.ref x) (.type "BaseException")) zu:=L0.andThen L1;erw[checkBuiltinCall,hk,aem];refine ae (LI.at ?_)
 repeat (any_goals (first|assumption|wp_step))
theorem JU {tk:Tok}{Q:Fin->Shared->zy}{h:Heap}{g:Array GenState}{d:Drawn}{t:Nat}{os:OsState}(T:vF K C) (X:K.In h) (I:eL x C h) (hq:Q (.done (.ret (.ref C))) #[h,g,d,t,os]) :
 wpAny zk A (Builtin.«object.__getattribute__» #[[.ref x,.str "__class__" tk],[]]) Q E #[h,g,d,t,os]:=by
 have L0:=I.type (M:=model prog w);have L1:=JS (x:=x) (M:=model prog w) X T.cl T.gs T.tk;unfold Builtin.«object.__getattribute__»;refine ae (ak ?_)
 repeat (any_goals (first|assumption|with_reducible refine L0.at ?_|with_reducible refine L1.at ?_|wp_step))
 refine Nl X I T.mo ?_
 repeat (any_goals (first|assumption|wp_step))
theorem Nm {tk:Tok}{h:Heap}{g:Array GenState}{d:Drawn}{t:Nat}{os:OsState}(T:vF K C) (X:K.In h) (I:eL x C h) (hq:R (.ok (.ret (.ref C))) #[h,g,d,t,os]) :
 codeAny zk A (.call (.builtin "BaseException.__getattribute__") #[[.ref x,.str "__class__" tk],[]]) R #[h,g,d,t,os]:=
 XM F.excAttr_ValueError.ga.plain F.entry_bexc_ga (JT T X I (JU T X I hq))
theorem RK {Q:Option zx->Shared->zy}(T:vF K C) (X:K.In s.heap) (I:eL x C s.heap) (hq:Q (some (.ref C)) { s with toks:=s.toks+1 }) :
 wpAny zk A (getAttr? (.ref x) "__class__") Q E s:=by
 let#[h,g,d,t,os]:=s;have L0:=I.type (M:=model prog w);have L1:=QD (M:=model prog w) X T.ga;have L2:=QD (M:=model prog w) X T.gt;have f3:=F.excAttr_ValueError.ga.bind (.ref x);have aim:(zc&&onTheHeap (Value.builtin "BaseException.__getattribute__"))=zc:=rfl;have VJ:(Value.builtin "BaseException.__getattribute__"==Value.builtin "object.__getattribute__")=zc:=by decide +kernel
 have ain:(onTheHeap (Value.ref C)&&Value.builtin "BaseException.__getattribute__"==Value.builtin "object.__getattribute__")=zc:=by rw[VJ];rfl
 unfold getAttr? getAttrBy?;refine ae (wpAny_mkText (ae (ya ?_)))
 repeat (any_goals (first|assumption|with_reducible refine L0.at ?_|with_reducible refine L1.at ?_|with_reducible refine L2.at ?_|wp_step))
 refine Nm T X I ?_
 repeat (any_goals (first|assumption|wp_step))
theorem JV (T:vF K C):KitX K (.ref x) (.ref C) (eL x C) where
 ty:=λ_ _ _ I=>I.type
 it:=λ_ _ X _=>by
  let#[aen,vG]:=Option.isSome_iff_exists.mp T.cd;unfold clsIn at vG;split at vG
  .ext c' d' aeo wX ho;intro A' Q' E' s' k q;unfold isType loadHead;exact ae (wpAny_loadPart (k _ _ (X _ _ ho)) (ak q))
  .cases vG
 ne:=λh tp dd its n sl X aep=>by
  let#[aen,vG]:=Option.isSome_iff_exists.mp T.cd;refine Bool.eq_false_iff.mpr λq=>?_;have e:C=tp:=Value.ref.inj (beq_iff_eq.mp q);subst e;unfold clsIn at vG;split at vG
  .ext c' d' aeo wX ho;have z:=(X _ _ ho).symm.trans aep;cases z
  .cases vG
 ca:=λX I k=>RK T X I k
end
def rS (B:Heap) (l:List Env) (ea:Addr) (cls a0:zx) (h:Heap):zy:=
 Heap.FlyingW B l ea cls a0 h \/ (B.StaysIn h /\ B.get? ea=zp /\ h.FunFrames B l /\
  h.get? ea=some { cls:=cls,data:=.fields (List.toArray [a0,.none,.none,.none,.bool zc,.none]) })
theorem rS.stays {B:Heap}{l:List Env}{ea:Addr}{cls a0:zx}{h:Heap}(x:rS B l ea cls a0 h):B.StaysIn h:=x.elim (λz=>z.1) λz=>z.1
theorem rS.VL {B:Heap}{l:List Env}{ea:Addr}{cls a0:zx}{h:Heap}(x:rS B l ea cls a0 h):B.get? ea=zp:=x.elim (λz=>z.2.1) λz=>z.2.1
section
variable {B:Heap} {env:Env} {L ea:Addr} {cls a0:zx} {Q:Unit -> Shared -> zy}
theorem JW (eK:A.frames=some (env::outer)) (hf:env.frame=some L) (hx:rS B (env::outer) ea cls a0 s.heap)
 (q:∀ h',rS B outer ea cls a0 h'->s.heap.UpToSlots h'->Q () { s with heap:=h' }):wpAny M A (leaving env (.ref ea)) Q E s:=by
 rcases hx with hx|⟨x1,x2,x3,x4⟩
 .exact wpAny_leaves_onW eK hf hx λh' y1 y2=>q h' (.inl y1) y2
 .refine wpAny_leaving_firstW (a0:=a0) eK x3 hf x4 x1 x2 zw zw zw λh' y=>?_;let#[k1,#[_,_,k2],k3,k4]:=y;exact q h' (.inl #[k1,x2,k2,k3]) k4
theorem Nn (eK:A.frames=some (env::outer)) (hf:env.frame=some L) (hx:rS B (env::outer) ea cls a0 s.heap)
 (q:∀ h',Heap.HeldW B (env::outer) ea cls a0 L h'->s.heap.UpToSlots h'->Q () { s with heap:=h' }):wpAny M A (noteFrame (.ref ea) env) Q E s:=by
 rcases hx with hx|⟨x1,x2,x3,x4⟩
 .exact wpAny_looks_onW eK hf hx q
 .unfold noteFrame;erw[hf];have h1:((List.toArray [a0,.none,.none,.none,.bool zc,.none]):Array zx)[1]?=some Value.none:=rfl;refine ae (kH x4 zw h1 ?_);rw[if_neg (show ¬ ((Value.none != Value.none)=true) by decide)];refine wpAny_entryW eK x3 hf x4 x1 x2 zw (by show 1<6;decide) (by rfl) λh' y=>?_;let#[k1,k2,k3,k4]:=y;exact q h' #[k1,x2,k2,k3] k4
end
def hJ (P:Program) (w:World):n9:=λouter H s E e s'=>∃ (ea C:Addr) (a0:zx) (B:Heap) (H':Hp),
 e=.ref ea /\ s'.os=s.os /\ AllBare s'.gens /\ Un (dW outer) [] H H' s.heap s'.heap /\ ck P w H' s'.heap /\ rS B outer ea (.ref C) a0 s'.heap /\
 (∀ b u o,H' b=some u->s'.heap.get? b=some o->B.get? b=some o) /\ (∀ b o,s.heap.get? b=some o->b∉dW outer->∃ o',B.get? b=some o') /\ E (.ref C) zp H'
def XE (X:Cx) (E:XK) (e:zx) (s':Shared):zy:=∃ (σ':St) (H':Hp) (ea C:Addr) (a0:zx) (B:Heap),
 e=.ref ea /\ Inv X [] σ' H' s' /\ rS B X.stack ea (.ref C) a0 s'.heap /\ (∀ b u o,H' b=some u->s'.heap.get? b=some o->B.get? b=some o) /\
 (∀ p∈X.pn,B.get? p.1=some p.2) /\ (∀ b o,X.s₀.heap.get? b=some o->b∉X.fs->b∉X.ex->∃ o',B.get? b=some o') /\ E (.ref C) zp H'
def uB (X:Cx) (E:XK):zy:=∀ e s',XE X E e s'->X.xe e s'
theorem Dz {s':Shared}{B h:Heap}(I:Inv X pins σ H' s') (u:s'.heap.UpToSlots h) (st:B.StaysIn s'.heap) (sh:B.StaysIn h)
 (old:∀ b o,X.s₀.heap.get? b=some o->b∉X.fs->b∉X.ex->∃ o',B.get? b=some o'):Un X.fs X.ex X.H₀ H' X.s₀.heap h where
 keep:=λb o e n hb hx=>by
  let#[o',q]:=old b o e hb hx;have q1:=I.base.keep b o e n hb hx;have q2:=st b o' q;rw[q1]at q2;cases q2;exact sh b _ q
 slot:=λb o e n hb hx=>by
  let#[sl,q1]:=I.base.slot b o e n hb hx;let#[_,aeq,q2,d]:=I.ok.k6.mem hb;rw[e]at q2;cases q2;let#[wX,q3]:=u b _ q1 d;exact#[wX,q3]
 free:=I.base.free
 there:=λb o e hx=>by
  by_cases hb:b∈X.fs
  .let#[sl,q1]:=I.base.slot b o e (I.ok.rN b hb) hb hx;let#[_,aeq,q2,d]:=I.ok.k6.mem hb;rw[e]at q2;cases q2;let#[wX,q3]:=u b _ q1 d;exact#[_,q3]
  .let#[o',q]:=old b o e hb hx;exact#[o',sh b o' q]
 ku:=I.base.ku
 kK:=I.base.kK
 nC:=I.base.nC
theorem Ft {h B:Heap}(k:ck P w H' h) (sh:B.StaysIn h') (tr:∀ b u o,H' b=some u->h.get? b=some o->B.get? b=some o):ck P w H' h':=λa o e=>
 (k a o e).eG (λb u hb q=>sh b u (hb.elim (λz=>tr b o u (z▸e) q) λz=>tr b _ u z q)) (λ_ q=>q) λ_ _ q=>q
theorem Fu {s':Shared}{B h:Heap}(I:Inv X [] σ H' s') (u:s'.heap.UpToSlots h) (st:B.StaysIn s'.heap) (sh:B.StaysIn h)
 (tr:∀ b u o,H' b=some u->s'.heap.get? b=some o->B.get? b=some o) (pn:∀ p∈X.pn,B.get? p.1=some p.2)
 (old:∀ b o,X.s₀.heap.get? b=some o->b∉X.fs->b∉X.ex->∃ o',B.get? b=some o'):Inv X [] σ H' { s' with heap:=h }:=by
 have cellK:∀ c v,s'.heap.IsCell c v->h.IsCell c v:=λc v ⟨o,e,d⟩=>by
  let#[sl,q]:=u c o e (λvs z=>by rw[d]at z;cases z);exact#[_,q,d]
 refine#[I.ok,I.os,I.bare,Dz I u st sh old,?_,λx c e=>?_,I.free,I.nD,λp hp=>?_,Ft I.ai sh tr,I.len]
 .let#[m,hn,hl]:=I.loc;refine#[m,u.ns hn,λi x v e1 e2 e3=>?_];let#[w',r,l]:=hl i x v e1 e2 e3;refine#[w',r,?_];rcases l with l|⟨k,c,e,z⟩
  .exact .inl l
  .exact .inr #[k,c,e,cellK c _ z]
 .let#[v,z]:=I.cell x c e;exact#[v,cellK c v z]
 .let#[e,n,r]:=I.pin p hp;rw[sC]at hp;exact#[sh _ _ (pn p hp),n,r]
theorem Inv.Z2 (I:Inv X pins σ H s):Inv X [] σ H s:=I.QT λp hp=>absurd hp zq
theorem uB.passes {E:XK}(l:uB X E):Passes (hJ X.prog X.w) X E:=by
 intro pins σ H s e s' I h;let#[ea,C,a0,B,H',he,os,bare,un,ai,ex,tr,old,q]:=h;have I':Inv X pins σ H' s':=I.QW os un ai bare (λb z=>absurd z zq);have VM:∀ b,b≠X.env.locals->b∉X.fs->b∉dW X.stack:=λb h1 h2 z=>by
  rcases bA.mp (I.wW b z) with y|y
  .exact h1 y
  .exact h2 y
 refine l e s' #[σ,H',ea,C,a0,B,he,I'.Z2,ex,tr,λp hp=>?_,λb o e hb hx=>?_,q]
 .let#[e1,n1,n2,n3,_]:=I.pin p (qH _ hp);let#[o',q1]:=old p.1 p.2 e1 (VM _ n2 n3);have q2:=un.keep p.1 p.2 e1 n1 (VM _ n2 n3) zq;have q3:=ex.stays _ _ q1;rw[q2]at q3;cases q3;exact q1
 .let#[o1,e1]:=I.base.there b o e hx;exact old b o1 e1 (VM b (cH (dU (a8 e) I.ok.above)) hb)
theorem Cr {scope:Scope}{f:Addr}{cd:zx}{E:XK} :
 uB (pb (hJ P w) P w K mg base N qual scope f cd A outer s H E) E:=by
 intro e s' h;let#[σ',H',ea,C,a0,B,he,I,ex,tr,pn,old,q]:=h;subst he;refine JW I.ok.frames zw ex λh' y1 y2=>?_;refine#[ea,C,a0,B,H',rfl,I.os,I.bare,Dz I y2 ex.stays y1.stays old,Ft I.ai y1.stays tr,y1,λb u o e1 e2=>?_,λb o e1 e2=>old b o e1 e2 (by intro z;exact absurd (show b∈([]:List Addr) from z) zq),q];have hs:=(I.ai b u e1).lt;obtain⟨o1,q1⟩:∃ o1,s'.heap.get? b=some o1:=by
  rcases(I.ai b u e1) with _;cases z:s'.heap.get? b with
  |some o1=>exact#[o1,rfl]
  |none=>
    exfalso
    have k:=I.ai b u e1;cases u with
    |lst xs=>let#[_,_,_,_,e]:=k;rw[z]at e;cases e
    |tup xs=>let#[_,_,_,ob,e,_]:=k;rw[z]at e;cases e
    |dK kvs=>let#[_,_,_,_,o,_,_,e,_]:=k;rw[z]at e;cases e
    |dT kvs=>let#[_,_,_,_,o,_,_,e,_]:=k;rw[z]at e;cases e
    |set S n=>let#[o,_,_,_,e,_]:=k;rw[z]at e;cases e
    |ins C dx fs=>let#[_,_,_,e,_]:=k;rw[z]at e;cases e
    |own y=>let#[_,e]:=k;rw[z]at e;cases e
    |xd fs=>let#[_,#[_,_,_,e,_],_]:=k;rw[z]at e;cases e
    |wO lo hi=>let#[_,_,_,e]:=k;rw[z]at e;cases e
    |bh ob u=>let#[e,_]:=k;rw[z]at e;cases e
    |qL ps=>have e:s'.heap.get? b=some _:=k;rw[z]at e;cases e
    |met f y=>have e:s'.heap.get? b=some _:=k;rw[z]at e;cases e
    |ext φ=>let#[_,#[_,e],_]:=k;rw[z]at e;cases e
 have q2:=tr b u o1 e1 q1;have q3:=y1.stays b o1 q2;rw[e2]at q3;cases q3;exact q2
noncomputable abbrev VN:List zx:=[.type "ValueError",.type "Exception",.type "BaseException",.type "object"]
theorem No {h:Heap}{C:Addr}{Z3:List zx}{Z4:String}(X:K.In h) (q:excIn K C Z3 Z4=zu) :
 ∃ bm N nm qn bs hd sn sub ab col dd k0 k1 k2 k3 k5 mN,h.get? C=some (excClassObj nm qn C N bs bm hd sn sub ab col dd k0 k1 k2 k3 k5 Z4) /\ h.Ns N mN /\ mN "__init__"=zp /\ OwnTail h Z3 bm:=by
 unfold excIn at q;split at q
 .ext dd cd sl ho;split at q
  .ext C1 bm k0 k1 k2 k3 nw k5 mr hs;erw[aD,beq_iff_eq,pO]at q;let#[#[#[#[#[rfl,rfl],z1],z2],z3],z4]:=q;let#[nm,bs,mro,ns,qn,hd,sn,sub,ab,col,del]:=cd;dsimp only at mr z1 z3 z4;subst mr z1;have es:sl=(List.toArray [k0,k1,k2,k3,some (.builtin nw),k5]):=by
    cases sl;exact congrArg Array.mk hs
   subst es;exact#[bm,ns,nm,qn,bs,hd,sn,sub,ab,col,dd,k0,k1,k2,k3,k5,_,X _ _ ho,
    .of_isNs (isNs_of_in X z3),nsMap_none_of_in X z3 z4,tail_of_in X z2]
  .cases q
 .cases q
theorem Np {E:XK}{ea C:Addr}(l:uB X E) (I:Inv X pins σ H s) (m:Heap.MadeExcOf s.heap h' ea (.ref C) vs) (q:E (.ref C) zp H) :
 X.xe (.ref ea) { s with heap:=h' }:=by
 let#[t,e1,e2,e3]:=m.there;have I':Inv X pins σ H { s with heap:=h' }:=I.kept (t':=s.toks) m.keeps;have aer:∀ env∈X.stack,∀ b,env.frame=some b->b∈dW X.stack:=λenv he b hb=>List.mem_filterMap.mpr #[env,he,hb];have fr:h'.FunFrames (hideAll s.heap (dW X.stack)) X.stack:=by
  have f0:=funFrames_hide I.stack aer;exact f0.of_keeps λb o e _=>#[o,m.keeps b o e,rfl]
 have nh:∀ b o,s.heap.get? b=some o->b∉dW X.stack->(hideAll s.heap (dW X.stack)).get? b=some o:=λb o e hb=>hideAll_get _ e hb;refine l _ _ #[σ,H,ea,C,.ref t,hideAll s.heap (dW X.stack),rfl,I'.Z2,.inr #[λb o e=>m.keeps b o (of_hideAll _ e),?_,fr,e1],λb u o eb eo=>?_,λp hp=>?_,λb o e hb hx=>?_,q]
 .cases z:(hideAll s.heap (dW X.stack)).get? ea with
  |none=>rfl
  |some o=>have:=of_hideAll _ z;rw[m.new]at this;cases this
 .have hb:b∉dW X.stack:=λz=>by rw[I.QS b z]at eb;cases eb
  cases z:s.heap.get? b with
  |some o1=>
    have:=m.keeps b o1 z;rw[this]at eo;cases eo;exact nh b _ z hb
  |none=>exact absurd ((I.ai b u eb).lt) (by intro hl;exact absurd z (by
   intro z';have k:=I.ai b u eb;cases u with
   |lst xs=>let#[_,_,_,_,e]:=k;rw[z]at e;cases e
   |tup xs=>let#[_,_,_,ob,e,_]:=k;rw[z]at e;cases e
   |dK kvs=>let#[_,_,_,_,o,_,_,e,_]:=k;rw[z]at e;cases e
   |dT kvs=>let#[_,_,_,_,o,_,_,e,_]:=k;rw[z]at e;cases e
   |set S n=>let#[o,_,_,_,e,_]:=k;rw[z]at e;cases e
   |ins C dx fs=>let#[_,_,_,e,_]:=k;rw[z]at e;cases e
   |own y=>let#[_,e]:=k;rw[z]at e;cases e
   |xd fs=>let#[_,#[_,_,_,e,_],_]:=k;rw[z]at e;cases e
   |wO lo hi=>let#[_,_,_,e]:=k;rw[z]at e;cases e
   |bh ob u=>let#[e,_]:=k;rw[z]at e;cases e
   |qL ps=>have e:s.heap.get? b=some _:=k;rw[z]at e;cases e
   |met f y=>have e:s.heap.get? b=some _:=k;rw[z]at e;cases e
   |ext φ=>let#[_,#[_,e],_]:=k;rw[z]at e;cases e))
 .let#[e1,n1,n2,n3,_]:=I.pin p (qH _ hp);exact nh _ _ e1 λz=>(bA.mp (I.wW p.1 z)).elim n2 n3
 .let#[o1,q1]:=I.base.there b o e hx;exact#[o1,nh b o1 q1 λz=>(bA.mp (I.wW b z)).elim (cH (dU (a8 e) I.ok.above)) hb]
theorem JX {C:Addr}{te:TE}{E:XK}{np b9:Pos}(hc:X.calm=zu) (l:uB X E) (hg:Gl X x) (hm:X.mg x=some (.ref C)) (q:excIn X.K C VN "ValueError.__new__"=zu) (he:PE X e te)
 (hs:starEach [e] X.env=[zaB]:=by rfl) (hd:(x==("__debug__":Str))=zc:=by decide) :
 PS X (.Raise (some (.Call (.Name x np) [e] [] b9)) zp pos) (λ_ σ H=>te σ H λv H1=>[v].length=1 /\ E (.ref C) zp H1):=by
 intro pins s σ H D I h;let#[bm,N,nm,qn,bs,yP,sn,sub,ab,col,dd,k0,k1,k2,k3,k5,mN,hC,hN,aes,T]:=No I.mod.wR q;refine wpAny_Raise_call_subT (C:=C) (nm:=nm) (q:=qn) (N:=N) (bs:=bs) (bm:=bm) (hdct:=yP) (sn:=sn) (sub:=sub) (ab:=ab) (col:=col) (dd:=dd)
  (k0:=k0) (k1:=k1) (k2:=k2) (k3:=k3) (k5:=k5) PySem.F.excBase_ValueError (mN:=mN) (T.hasType PySem.F.excBase_ValueError.hasBase) (I.ok.hd hc) (by rw[hs];rfl) aes ?_
 refine tE (gf (v:=.ref C) (pos:=np) hg hm zw hd pins s σ H (λv H1=>v=.ref C /\ H1=H) I #[rfl,rfl]) λf s1 v H1 I1 r1 hh=>?_;let#[e1,e2]:=hh;subst e1;subst e2;refine#[r1,?_];rw[hs];refine Hm ?_;have ha:PA X [e] (xa te yD):=fA he fS (by rw[hs];rfl);have hA:=ha b9 pins s1 σ H1 (λvs H2=>vs.length=1 /\ E (.ref C) zp H2) I1 h;rw[hs]at hA;refine tA hA λus s2 vs H2 I2 r2 hh=>?_;let#[e3,q2]:=hh;refine#[rfl,?_,I2.bk _ _ hC,hN.keeps I2.bk,T.keeps I2.bk,λh' ea m=>Np l I2 m q2];rw[<-r2.length,e3];decide
theorem GF {ea C R:Addr}{Q:Bool->Shared->zy}(X:K.In s.heap) (I:eL ea C s.heap)
 (hk:kitCls K (.ref C) (.ref R)=some zu) (hb:mroIn K R (.type "BaseException")=some zu) (q:Q zu s):wpAny M A (excMatches (.ref ea) (.ref R)) Q E s:=by
 let#[h,g,d,t,os]:=s;let#[l1,l2,l3]:=kit_cls (M:=M) X hk;have l4:=QE (M:=M) X hb;have l5:=I.type (M:=M);have f:=tc_notTuple;unfold excMatches isInstance isExcClass
 repeat (any_goals (first|assumption|with_reducible refine l1.at ?_|with_reducible refine l2.at ?_|with_reducible refine l3.at ?_|with_reducible refine l4.at ?_|with_reducible refine l5.at ?_|wp_step))
noncomputable abbrev Cx.qR (X:Cx) (pn:List (Addr×Obj)) (E:XK):Cx:={ X with pn:=pn,xe:=XE { X with pn:=pn } E }
noncomputable abbrev Cx.hand (X:Cx) (pn:List (Addr×Obj)) (ea:Addr):Cx:={ X with pn:=pn,A:=X.A.mark (some (.ref ea)),calm:=zc,xe:=λ_ _=>False }
theorem Inv.turn {Y:Cx}{uj:List (Addr×Obj)}(I:Inv X pins σ H s) (hp:∀ p∈Y.pn++uj,p∈X.pn++pins) (hf:Y.A.frames=some Y.stack) (hd:Y.calm=zu->Y.A.handled=zp)
 (h1:Y.prog=X.prog:=by rfl) (h2:Y.w=X.w:=by rfl) (h3:Y.K=X.K:=by rfl) (h4:Y.mg=X.mg:=by rfl) (h5:Y.base=X.base:=by rfl) (h6:Y.N=X.N:=by rfl) (h7:Y.s₀=X.s₀:=by rfl) (h8:Y.H₀=X.H₀:=by rfl) (h9:Y.env=X.env:=by rfl)
 (ha:Y.outer=X.outer:=by rfl) (hb:Y.stack=X.stack:=by rfl) (hc:Y.ex=X.ex:=by rfl) (he:Y.fn=X.fn:=by rfl):Inv Y uj σ H s:=by
 let#[yp,yw,yK,aio,aip,yA,yN,aiq,air,ais,ait,aiu,aiv,aiw,aix,aiy,aiz]:=Y;dsimp only at h1 h2 h3 h4 h5 h6 h7 h8 h9 ha hb hc he hp hf hd;subst h1 h2 h3 h4 h5 h6 h7 h8 h9 ha hb hc he;exact#[#[I.ok.mod,I.ok.kind,I.ok.glob,I.ok.blt,I.ok.above,I.ok.inj,I.ok.has,I.ok.wU,hd,hf,I.ok.yu,I.ok.vn,I.ok.bs,I.ok.sP,I.ok.wV,I.ok.vo,I.ok.k6,I.ok.rN],
  I.os,I.bare,I.base,I.loc,I.cell,I.free,I.nD,λp q=>I.pin p (hp p q),I.ai,I.len]
theorem Bd {pn:List (Addr×Obj)}{E:XK}:uB (X.qR pn E) E:=by
 intro e s' h;let#[σ',H',ea,C,a0,B,he,I,ex,tr,hp,old,q]:=h;exact#[σ',H',ea,C,a0,B,he,I.turn (λp z=>z) I.ok.frames I.ok.hd,ex,tr,hp,old,q]
theorem SP.turn {Y:Cx}{uj:List (Addr×Obj)}{D:Ends}{f:Flow}{s':Shared}(k:∀ σ H,Inv X pins σ H s'->Inv Y uj σ H s') (h:SP X pins D f s'):SP Y uj D f s':=by
 cases f with
 |next=>let#[σ',H',I,q]:=h;exact#[σ',H',k _ _ I,q]
 |brk=>let#[σ',H',I,q]:=h;exact#[σ',H',k _ _ I,q]
 |cont=>let#[σ',H',I,q]:=h;exact#[σ',H',k _ _ I,q]
 |ret u=>let#[v,σ',H',I,r,q]:=h;exact#[v,σ',H',k _ _ I,r,q]
theorem Inv.watch {φ:Heap->zy}(I:Inv X pins σ H s) (hn:H a=zp) (hL:a≠X.env.locals) (hC:∀ x c,X.env.cells.lookup x=some c->c≠a)
 (hp:∀ p∈X.pn++pins,p.1≠a) (ho:∀ b o,X.s₀.heap.get? b=some o->b∉X.ex->b≠a) (new:a9 X.prog X.w (upd H a (.ext φ)) s.heap a (.ext φ)):Inv X pins σ (upd H a (.ext φ)) s:=by
 have ne:∀ b u,H b=some u->b≠a:=λb u e z=>by rw[z,hn]at e;cases e
 refine#[I.ok,I.os,I.bare,#[I.base.keep,I.base.slot,λb o e n hx=>?_,I.base.there,λb xs e=>?_,λb o u e=>?_,λb ps e=>?_],I.loc,I.cell,?_,λx c e=>?_,λp q=>?_,λb o e=>?_,I.len]
 .rw[fw (ho b o e hx)];exact I.base.free b o e n hx
 .have z:=I.base.ku b xs e;rw[fw (ne b _ z)];exact z
 .have z:=I.base.kK b o u e;rw[fw (ne b _ z)];exact z
 .let#[more,z]:=I.base.nC b ps e;exact#[more,by rw[fw (ne b _ z)];exact z]
 .rw[fw hL.symm];exact I.free
 .rw[fw (hC x c e)];exact I.nD x c e
 .let#[q1,q2,q3]:=I.pin p q;exact#[q1,by rw[fw (hp p q)];exact q2,q3]
 .by_cases hb:b=a
  .subst hb;rw[fv]at e;cases e;exact new
  .rw[fw hb]at e;exact(I.ai b o e).eG (λ_ _ _ z=>z) (λc z=>by rw[fw (ne c _ z)];exact z) λc xs z=>by rw[fw (ne c _ z)];exact z
theorem Inv.gone {n:Str}{m:Str->Option zx}{v:Option zx}(I:Inv X pins σ H s) (hN:X.N.Nodup) (hi:X.N[i]?=some n)
 (hm:∀ (j:Nat) (x:Str) (v:V),X.N[j]?=some x->σ[j]?=some (some v)->sO X.env.scope x->∃ u,RelV v u /\ Look X.env s.heap m x u)
 (hn:h'.Ns X.env.locals (λx=>if x=n then v else m x)) (sb:Heap.SameBut X.env.locals s.heap h'):Inv X pins (σ.set i zp) H { s with heap:=h',toks:=t' }:=by
 have kp:∀ b o,b≠X.env.locals->s.heap.get? b=some o->h'.get? b=some o:=λb o hb e=>sb.extBut b o hb e;have old:∀ b o,X.s₀.heap.get? b=some o->b≠X.env.locals:=λb o e=>cH (dU (a8 e) I.ok.above);refine#[I.ok,I.os,I.bare,#[λb o e n hb hx=>kp b o (old b o e) (I.base.keep b o e n hb hx),λb o e n hb hx=>?_,I.base.free,λb o e hx=>?_,I.base.ku,I.base.kK,I.base.nC],#[_,hn,λj x w e1 e2 e3=>?_],λx c e=>?_,I.free,I.nD,λp q=>?_,λb o e=>?_,by rw[nV];exact I.len]
 .let#[sl,q]:=I.base.slot b o e n hb hx;exact#[sl,kp b _ (old b o e) q]
 .let#[o',q]:=I.base.there b o e hx;exact#[o',kp b _ (old b o e) q]
 .by_cases hj:j=i
  .subst hj;by_cases hl:j<σ.length
   .rw[nT hl]at e2;cases e2
   .rw[sD (by rw[nV];lia)]at e2;cases e2
  .rw[rH (Ne.symm hj)]at e2;let#[u,r,l]:=hm j x w e1 e2 e3;refine#[u,r,?_];rcases l with⟨k,e⟩|⟨k,c,e,z⟩
   .refine .inl #[k,?_];have:x≠n:=λq=>hj (o8 hN e1 (q▸hi));show (if x=n then v else m x)=some u;rw[if_neg this];exact e
   .let#[o,eo,d]:=z;exact .inr #[k,c,e,o,kp c o (I.sQ x c e) eo,d]
 .let#[w,o,eo,d]:=I.cell x c e;exact#[w,o,kp c o (I.sQ x c e) eo,d]
 .let#[q1,q2,q3,q4]:=I.pin p q;exact#[kp _ _ q3 q1,q2,q3,q4]
 .refine(I.ai b o e).eG (λc w hc q=>kp c w (λz=>?_) q) (λ_ q=>q) λ_ _ q=>q;rcases hc with z1|z1
  .rw[<-z1,z,I.free]at e;cases e
  .rw[z,I.free]at z1;cases z1
noncomputable def Z5 (i:Nat) (D:Ends):Ends:={ nx:=λσ H=>D.nx (σ.set i zp) H,rt:=D.rt,bk:=λσ H=>D.bk (σ.set i zp) H,ct:=λσ H=>D.ct (σ.set i zp) H }
def aet (K:Frag) (len:Nat) (Ra:Addr) (i:Nat) (E:XK) (tb ts:TS):TS:=λD σ H=>tb D σ H /\ ∀ (σ':St) (ea C:Addr) (H':Hp),σ'.length=len->E (.ref C) zp H'->H' ea=zp ->
 kitCls K (.ref C) (.ref Ra)=some zu /\ ts (Z5 i D) (σ'.set i (some (.ref ea))) (upd H' ea (.ext (eL ea C)))
theorem RL {body Z6:List Stmt}{b₀:Stmt}{R n:Str}{Ra L:Addr}{E:XK}{tb ts:TS}{rp yQ:Pos}(qu:X.stack=X.env::X.outer) (eK:X.env.frame=some L) (Z7:L=X.env.locals)
 (hg:Gl X R) (hm:X.mg R=some (.ref Ra)) (aeu:mroIn X.K Ra (.type "BaseException")=some zu) (hN:X.N.Nodup) (hi:X.N[i]?=some n) (hn:X.env.kindOf n=some .local)
 (hb:∀ pn,dt (X.qR pn E) body tb) (aev:∀ pn ea,dt (X.hand pn ea) (b₀::Z6) ts) (hd:(R==("__debug__":Str))=zc:=by decide) :
 PS X (.Try body [.ExceptHandler (some (.Name R rp)) (some n) (b₀::Z6) yQ] [] [] pos) (aet X.K X.N.length Ra i E tb ts):=by
 intro pins s σ H D I ⟨h1,h2⟩;have I0:Inv (X.qR (X.pn++pins) E) [] σ H s:=I.turn (λp z=>by simpa using z) I.ok.frames I.ok.hd;have back:∀ {Y:Cx}(s':Shared) (σ':St) (H':Hp),Y=X.qR (X.pn++pins) E->Inv Y [] σ' H' s'->Inv X pins σ' H' s':=λ{Y} s' σ' H' e J=>by
  subst e;exact J.turn (λp z=>by simpa using z) I.ok.frames I.ok.hd
 refine wpAny_Try_except (eT (hb _ [] s σ H D I0 h1) (λf s1 q=>?_) λe s1 q=>?_)
 .have q':SP X pins D f s1:=q.turn λσ' H' J=>back s1 σ' H' zw J;cases f with
  |next=>exact EJ q'
  |brk=>exact q'
  |cont=>exact q'
  |ret u=>exact q'
 .let#[σ1,H1,ea,C,a0,B,he,I1,ex,tr,VO,old,hE]:=q;subst he;have Zm:rS B (X.env::X.outer) ea (.ref C) a0 s1.heap:=by rw[<-qu];exact ex
  have aew:X.A.frames=some (X.env::X.outer):=by rw[<-qu];exact I.ok.frames
  have hG:∀ {α:Type}{t:Sem α}{A1:Around}{Q1:α->Shared->zy}{E1:zx->Shared->zy}{ss:Shared},wpAny zh A1 t Q1 (λ_ _=>False) ss->wpAny zh A1 t Q1 E1 ss:=λhw=>eT hw (λ_ _ q=>q) λ_ _ z=>False.elim z;refine Nn aew eK Zm λh4 hh u4=>?_;refine wpAny_landsW hh λh5 VP u5=>?_;have I5:Inv { X with pn:=X.pn++pins } [] σ1 H1 { s1 with heap:=h5 }:=Fu I1 (u4.trans u5) ex.stays VP.1 tr VO old;have Z8:Inv (X.hand (X.pn++pins) ea) [] σ1 H1 { s1 with heap:=h5 }:=I5.turn (λp z=>z) I.ok.frames (λz=>nomatch z);have Ib:H1 ea=zp:=by
   cases z:H1 ea with
   |none=>rfl
   |some u=>
     let#[o,eo,_]:=ex.elim (λy=>y.there) (λy=>#[_,y.2.2.2,rfl]);have:=tr ea u o z eo;rw[ex.VL]at this;cases this
  let#[hk,aex]:=h2 σ1 ea C H1 I1.len hE Ib;refine wpAny_handleBy_cons (codeAny_handlers_test (hG ?_)) (by intro z;cases z);refine oR (X:=X.hand (X.pn++pins) ea) Z8 hg hm ?_ hd;let#[o5,aey,aez]:=VP.there;refine GF Z8.dX #[o5,aey,aez] hk aeu ?_;refine codeAny_handlers_suite_as (lands_againW VP λh6 VQ u6=>?_);have u:s1.heap.UpToSlots h6:=(u4.trans u5).trans u6;have I6:Inv { X with pn:=X.pn++pins } [] σ1 H1 { s1 with heap:=h6 }:=Fu I1 u ex.stays VQ.1 tr VO old;have VR:Inv (X.hand (X.pn++pins) ea) [] σ1 H1 { s1 with heap:=h6 }:=I6.turn (λp z=>z) I.ok.frames (λz=>nomatch z);let#[oe,vs,yR,HC,VS,_]:=VQ.first;have I7:Inv (X.hand (X.pn++pins) ea) [] σ1 (upd H1 ea (.ext (eL ea C))) { s1 with heap:=h6 }:=by
   refine VR.watch Ib (λz=>?_) (λx c e z=>?_) (λp q z=>?_) (λb o e hx z=>?_) #[#[oe,yR,HC],#[oe,yR],λg1 g2 ⟨o,e1,e2⟩ k=>#[o,k o e1,e2]]
   .let#[m,#[o,es,ep,e1,e2,_],_]:=VR.loc;have nG:h6.get? ea=some o:=by rw[z];exact e1
    rw[yR]at nG;cases nG;rw[VS]at e2;cases e2
   .let#[v,o,e1,e2]:=VR.cell x c e;have nG:h6.get? ea=some o:=by rw[<-z];exact e1
    rw[yR]at nG;cases nG;rw[VS]at e2;cases e2
   .have q':p∈X.pn++pins:=by simpa using q
    have:=VO p q';rw[z,ex.VL]at this;cases this
   .subst z;by_cases hf:b∈X.fs
    .let#[sl,q1]:=(Dz I1 u ex.stays VQ.1 old).slot b o e (I.ok.rN b hf) hf hx;let#[_,o2,q2,d]:=I.ok.k6.mem hf;rw[e]at q2;cases q2;rw[yR]at q1;have q3:oe.data=o.data:=by cases q1;rfl
     exact d vs (by rw[<-q3];exact VS)
    .let#[o',q1]:=old b o e hf hx;rw[ex.VL]at q1;cases q1
  refine hG (jQ (X:=X.hand (X.pn++pins) ea) I7 hN hi (.inl hn) (v:=.ref ea) (u:=.ref ea) zw (λs8 I8=>?_) (.inr hn));refine hG (bV (aev _ ea [] s8 _ _ (Z5 i D) I8 aex) λf s9 q9=>?_);have uA:(X.env.scope.kind==.class||(X.env.scope.kind==.module&&X.env.locals != X.env.globals))=zc:=by rw[I.ok.kind];rfl
  have fin:∀ (σ9:St) (H9:Hp) (Z:Flow->Shared->zy),Inv (X.hand (X.pn++pins) ea) [] σ9 H9 s9->(∀ sA,Inv X pins (σ9.set i zp) H9 sA->Z f sA) ->
   wpAny zh X.A (do bindName X.env n .none;unbindBehindTheSuite X.env n yQ) (λ_ sA=>Z f sA) X.xe s9:=λσ9 H9 Z I9 k=>by
   have Z9:Inv X pins σ9 H9 s9:=I9.turn (λp z=>by simpa using z) I.ok.frames I.ok.hd;let#[m,aeA,aeB]:=Z9.loc;exact wpAny_nameGoes_keeps hn aeA uA λh' v QU sb=>k _ (Z9.gone hN hi aeB QU sb)
  show wpAny zh X.A (do bindName X.env n .none;unbindBehindTheSuite X.env n yQ) (λ_ sA=>SP X pins D f sA) X.xe s9;cases f with
  |next=>let#[σ9,H9,I9,q]:=q9;exact fin σ9 H9 (SP X pins D) I9 λsA IA=>#[_,_,IA,q]
  |brk=>let#[σ9,H9,I9,q]:=q9;exact fin σ9 H9 (SP X pins D) I9 λsA IA=>#[_,_,IA,q]
  |cont=>let#[σ9,H9,I9,q]:=q9;exact fin σ9 H9 (SP X pins D) I9 λsA IA=>#[_,_,IA,q]
  |ret u=>let#[v,σ9,H9,I9,r,q]:=q9;exact fin σ9 H9 (SP X pins D) I9 λsA IA=>#[v,_,_,IA,r,q]
structure pU (k:Nat) (A:Around):zy where
 dp:A.depth+3*k+5<recursionLimit
 un:A.units+16*k+200<cLine
theorem cx.h {k:Nat}(r:cx k A):pU k A:=#[r.dp,r.un]
theorem pU.mark {k:Nat}{A:Around}{e:Option zx}(r:pU k A):pU k (A.mark e):=#[r.dp,r.un]
theorem pU.deeper {k:Nat}{A:Around}(r:pU (k+1) A) (env:Env):pU k (A.deeper env):=
 #[by have:=r.dp;show A.depth+1+3*k+5<_;lia,by have:=r.un;show A.units+3+16*k+200<_;lia]
theorem pU.depth {k:Nat}{A:Around}(r:pU k A):A.depth<recursionLimit:=by have:=r.dp;lia
structure yS (P:Program) (w:World) (K:PySem.W.Frag) (mg:Str->Option zx) (base:Heap) (CX:n9) (k:Nat) (f:Addr) (fd:FuncData) (ps:List Str) (sp:Sp):zy where
 len:∀ vs H Q E,sp vs H Q E->vs.length=ps.length
 run:∀ (A:Around) (outer:List Env) (s:Shared) (H:Hp) (args:Args) (us:List zx) (vs:List V) (Q:VK) (E:XK),pU k A->xb P w K mg base A outer s H->BindsTo s fd args (ps.zip us)->Vals vs us->sp vs H Q E ->
  codeAny (model P w) A (.call (.ref f) args) (CR CX outer P w H s Q E) s
abbrev yT (CX:n9) (P:Program) (w:World) (K:PySem.W.Frag) (mg:Str->Option zx) (base:Heap) (N:List Str) (qual:Str) (scope:Scope) (f:Addr) (cd:zx) (A:Around) (outer:List Env) (s:Shared) (H:Hp) (E:XK):Cx:=
 { pb CX P w K mg base N qual scope f cd A outer s H E with calm:=zc }
theorem RM {k:Nat}{f:Addr}{name:Str}{params:Arguments}{body:List Stmt}{scope:Scope}{dV kV doc pm cdv ct oc:zx}{an od:Option Addr}
 {ps:List Str}(lk:K.lookup f=some #[oc,od,.func (PySem.W.fnOf name qual params body scope dV kV doc pm an cdv ct),pH]) (dA:PySem.W.codeIn K cdv qual=zu) (S:qv N ps scope)
  (len:∀ vs H Q E,sp vs H Q E->vs.length=ps.length)
  (kL:∀ (A:Around) (outer:List Env) (s:Shared) (H:Hp) (vs:List V) (Q:VK) (E:XK),pU k (A.deeper (envOfC qual scope s.heap.objs.size f cdv))->sp vs H Q E ->
   ∃ t,dt (yT CX P w K mg base N qual scope f cdv A outer s H E) body t /\ t { nx:=λ_ H'=>Q .non H',rt:=Q } (start N vs) H) :
  yS P w K mg base CX (k+1) f (PySem.W.fnOf name qual params body scope dV kV doc pm an cdv ct) ps sp:=by
  refine#[len,λA outer s H args us vs Q E hr e0 hb r pR=>?_];have hl:=len _ _ _ _ pR;have KX:K.In s.heap:=e0.mod.wR.keeps λb o e=>(e0.bs b o e).1;have lim:s.heap.NoLimit:=e0.mod.nolimit.keeps λb o e=>(e0.bs b o e).1;have Vk:∀ y∈ps.zip us,scope.names.lookup y.1=some .local \/ (scope.names.lookup y.1=some .cell /\ ((cellsFrom zK scope.names []).lookup y.1).isSome=zu):=λ⟨n,v⟩ hy=>by
   rcases S.par n (EO hy).1 with q|q
   .exact .inl q
   .exact .inr #[q,QC _ _ _ (.inl q)]
  refine Xw hr.depth (KX _ _ lk) zw S.co S.gen zw (YN KX dA) (hb _ _ _ _ ?_);refine Xx S.kind Vk λenv he s1 x=>?_;subst he;refine#[lim.keeps x.toInCall.keep,Xy ?_];let#[t,ht,hq]:=kL A outer s H vs Q E (hr.deeper _) pR;have e1:xb P w K mg base { A with handled:=zp } outer s H:=#[e0.frames,e0.mod,e0.bs,e0.sP,e0.k6,e0.rN,e0.ai,e0.bare];have I0:Inv (pb CX P w K mg base N qual scope f cdv { A with handled:=zp } outer s H E) [] (start N vs) H s1:=A9 S zw e1 hl r x;have I:Inv (yT CX P w K mg base N qual scope f cdv A outer s H E) [] (start N vs) H s1:=I0.turn (λp z=>z) (Zh e0.frames) (λz=>nomatch z);refine eT (ht [] s1 (start N vs) H _ I hq) (λfl s' hs=>?_) λe s' hs=>hs;have fin:∀ {σ':St}{H':Hp}{v:V}{u:zx},Inv (yT CX P w K mg base N qual scope f cdv A outer s H E) [] σ' H' s'->RelV v u->Q v H'->CE outer P w H s Q u s' :=
   λ{σ' H' v u} J rv q=>#[v,H',J.os,J.bare,J.base,J.ai,rv,q]
  cases fl with
  |ret u=>
    let#[v,σ',H',J,rv,q]:=hs;exact fin J rv q
  |next=>
    let#[σ',H',J,q]:=hs;exact fin (v:=V.non) (u:=Value.none) J zw q
  |brk=>
    let#[_,_,_,q]:=hs;exact False.elim q
  |cont=>
    let#[_,_,_,q]:=hs;exact False.elim q
theorem kB.yU {f:Addr}{ps:List Str}{k:Nat}(F:kB K x qual st f fd) (S:qv N ps (fG st)) (len:∀ vs H Q E,sp vs H Q E->vs.length=ps.length)
 (kL:∀ (cdv:zx) (A:Around) (outer:List Env) (s:Shared) (H:Hp) (vs:List V) (Q:VK) (E:XK),pU k (A.deeper (envOfC qual (fG st) s.heap.objs.size f cdv))->sp vs H Q E ->
  ∃ t,dt (yT qP P w K mg base N qual (fG st) f cdv A outer s H E).sR (gm st) t /\ t { nx:=λ_ H'=>Q .non H',rt:=Q } (start N vs) H):yS P w K mg base qP (k+1) f fd ps sp:=by
 let#[oc,od,kV,doc,pm,an,cdv,ct,pH,rfl,lk,dA]:=F.ex;refine RM lk dA S len λA outer s H vs Q E hr pR=>?_;let#[t,h,q]:=kL cdv A outer s H vs Q E hr pR;exact#[t,h.sR,q]
theorem kB.aeC {f:Addr}{ps:List Str}{k:Nat}(F:kB K x qual st f fd) (S:qv N ps (fG st)) (len:∀ vs H Q E,sp vs H Q E->vs.length=ps.length)
 (kL:∀ (cdv:zx) (A:Around) (outer:List Env) (s:Shared) (H:Hp) (vs:List V) (Q:VK) (E:XK),cx k (A.deeper (envOfC qual (fG st) s.heap.objs.size f cdv))->sp vs H Q E ->
  ∃ t,dt (pb (hJ P w) P w K mg base N qual (fG st) f cdv A outer s H E) (gm st) t /\ t { nx:=λ_ H'=>Q .non H',rt:=Q } (start N vs) H):eZ P w K mg base (hJ P w) (k+1) f fd ps sp:=by
 let#[oc,od,kV,doc,pm,an,cdv,ct,pH,rfl,lk,dA]:=F.ex;exact PP lk dA S len λA outer s H vs Q E hr pR=>kL cdv A outer s H vs Q E hr pR
section
variable {k:Nat} {f C:Addr} {ps:List Str} {pQ:List V} {ds:List zx} {E:XK} {m:Str} {p:Pos} {o:Expr} {ta:TE} {t:TA}
theorem JY (F:yS X.prog X.w X.K X.mg X.base CX k f fd ps sp) (hr:pU k X.A) (hg:Gl X x) (hm:X.mg x=some (.ref f)) (hk:PySem.W.keepIn X.K (.ref f)=zu) (hb:Binds X.K fd ps ds) (hd:Vals pQ ds) (hx:Passes CX X E)
 (ha:PA X (e::es) t) (cY:(x==("__debug__":Str))=zc:=by decide) (he:starEach (e::es) X.env=zaB::starEach es X.env:=by rfl) (kA:(backTo pos (starEach es X.env)).any (·.1)=zc:=by rfl) :
 PE X zah (Vi sp pQ E t):=by
 intro pins s σ H Q I h;refine sv (oR I hg hm ?_ cY);refine YM (h₀:=X.base) I.ok.mod.wR hk (tA (ha pos pins s σ H _ I h) λus s1 vs H1 I1 r q=>#[I1.dX,?_]) he kA;have r2:Vals (vs++pQ) (us++ds):=r.append hd;have hl:(us++ds).length=ps.length:=by rw[<-r2.length];exact F.len _ _ _ _ q
 refine wpAny_call (xY (F.run X.A X.stack s1 H1 #[us,[]] (us++ds) (vs++pQ) Q E hr I1.ZE (hb s1 us I1.dX hl) r2 q) λr s' hq=>?_);cases r with
 |error e=>exact hx pins σ H1 s1 e s' I1 hq
 |ok fl=>
   cases fl with
   |ret u=>exact I1.after hq
   |next=>exact False.elim hq
   |brk=>exact False.elim hq
   |cont=>exact False.elim hq
inductive VT (K:Frag) (H:Hp):V->zx->zy where
 |of {x:V}{t:zx}(h:n8 K H x t):VT K H x t
 |exc {a C:Addr}(e:H a=some (.ext (eL a C))) (T:vF K C):VT K H (.ref a) (.ref C)
noncomputable def aeD:V->zx->zy
 |.ref a,c=>c=.ref a
 |.ty n,c=>c=.type n
 |_,_=>False
def aeE (K:Frag):List V->Hp->VK->zy:=λvs H Q=>∃ x c t cv b,vs=[x,c] /\ VT K H x t /\ aeD c cv /\ kitOne K t cv=some b /\ Q (.bl b) H
theorem fT:dY X (.builtin "isinstance") (aeE X.K):=by
 intro pins s σ H xs us Q I rv h;let#[x,c,t,cv,b,rfl,ty,hc,e,q]:=h;cases rv with
 |cons r1 r2=>
   cases r2 with
   |cons r3 r4=>
     cases r4;ext u1 u2;have ec:u2=cv:=by
      cases c with
      |ref a=>exact(show u2=.ref a from r3).trans (show cv=.ref a from hc).symm
      |ty n=>exact(show u2=.type n from r3).trans (show cv=.type n from hc).symm
      |non=>exact hc.elim
      |bl _=>exact hc.elim
      |int _=>exact hc.elim
      |str _=>exact hc.elim
      |nY _=>exact hc.elim
      |sM _=>exact hc.elim
     subst ec;cases ty with
     |of ty=>exact GA I r1 ty e λtk=>#[.bl b,H,I.tok tk,rfl,q]
     |@exc a C ea T=>
       cases (show u1=Value.ref a from r1);let#[p,_,_]:=(show a9 X.prog X.w H s.heap a (.ext (eL a C)) from I.ai a _ ea);exact qp (JV T) I.dX p e (λz=>nomatch z) λtk=>#[.bl b,H,I.tok tk,rfl,q]
end
def aeF:V->List V->Hp->VK->zy:=λx vs H Q=>∃ l xs y,x=.ref l /\ vs=[y] /\ H l=some (.lst xs) /\ xs.all eI=zu /\ eI y=zu /\ Q (.int (xs.countP λz=>ez z y:Nat)) H
theorem Ah {A:Around}{s:Shared}{y:V}{u:zx}(ry:RelV y u) (fy:eI y=zu) (f:zx->Bool):∀ {xs:List V}{us:List zx},Vals xs us->xs.all eI=zu ->
 (∀ z w,z∈xs->w∈us->RelV z w->f w=ez z y)->∀ w∈us,SeqAt.EqAt A s w u (f w)
 |_,_,.nil,_,_,_,h=>nomatch h
 | z::zs,w::ws,.cons r t,ha,hf,v,hv=>by
   rw[qk,aD]at ha;rcases bA.mp hv with e|e
   .subst e;rw[hf z v bF bF r];exact JO r ry ha.1 fy
   .exact Ah ry fy f t ha.2 (λa b h1 h2=>hf a b (bD _ h1) (bD _ h2)) v e
def vH (y:V) (w:zx):Bool:=match w with
 |.none=>ez .non y
 |.bool b=>ez (.bl b) y
 |.int i _=>ez (.int i) y
 |.str x _=>ez (.str x) y
 |_=>zc
theorem BH {z y:V}{w:zx}(r:RelV z w) (f:eI z=zu):vH y w=ez z y:=by
 cases z with
 |non=>cases (show w=Value.none from r);rfl
 |bl b=>cases (show w=Value.bool b from r);rfl
 |int i=>let#[t,rfl]:=(show ∃ t,w=Value.int i t from r);rfl
 |str x=>let#[t,rfl]:=(show ∃ t,w=Value.str x t from r);rfl
 |nY b=>exact nomatch f
 |sM b=>exact nomatch f
 |ref a=>exact nomatch f
 |ty n=>exact nomatch f
theorem Cs {y:V}:∀ {xs:List V}{us:List zx},Vals xs us->xs.all eI=zu->us.countP (vH y)=xs.countP λz=>ez z y
 |_,_,.nil,_=>rfl
 | z::zs,w::ws,.cons r t,ha=>by
   rw[qk,aD]at ha;rw[Yc,Yc,Cs t ha.2,BH r ha.1]
theorem RN {y:V}:∀ {xs:List V}{us:List zx}{j:Nat}(h:j<us.length),Vals xs us->xs.all eI=zu->∃ z,xs[j]?=some z /\ vH y us[j]=ez z y
 |_,_,_,h,.nil,_=>absurd h zq
 | z::zs,w::ws,0,_,.cons r t,ha=>by
   rw[qk,aD]at ha;exact#[z,rfl,BH r ha.1]
 | z::zs,w::ws,j+1,h,.cons r t,ha=>by
   rw[qk,aD]at ha;let#[v,e1,e2]:=RN (y:=y) (j:=j) (by simpa using h) t ha.2;exact#[v,by simpa using e1,by simpa using e2]
theorem JZ:yH X "list.count" aeF:=by
 intro pins s σ H x vs v us Q I rx rv h;let#[l,xs,y,rfl,rfl,hH,ha,hy,q]:=h;cases rx;let#[u,rfl,ru]:=rv.one;let#[z,its,n,r,hl,e]:=I.vz hH;refine xZ F.slot_list_count #[_,e,rfl] F.entry_list_count (F.args_list_count_2 _ _) (SeqAt.list_countAt l its.toArray n zp #[] u (vH y)) #[e,?_,?_]
 .intro w hw;refine Ah ru hy (vH y) r ha (λz w h1 h2 rz=>BH rz (cS.mp ha z h1)) w (by simpa using hw)
 .refine#[.int _,H,I.tok _,#[_,rfl],?_];rw[show its.toArray.toList=its from rfl,Cs r ha];exact q
def aeG:V->List V->Hp->VK->zy:=λx vs H Q=>∃ l xs y j,x=.ref l /\ vs=[y] /\ H l=some (.lst xs) /\ xs.all eI=zu /\ eI y=zu /\ j<xs.length /\
 (∀ z,xs[j]?=some z->ez z y=zu) /\ (∀ (m:Nat) z,m<j->xs[m]?=some z->ez z y=zc) /\ Q (.int (j:Nat)) H
theorem J0:yH X "list.index" aeG:=by
 intro pins s σ H x vs v us Q I rx rv h;let#[l,xs,y,j,rfl,rfl,hH,ha,hy,hj,hit,uv,q]:=h;cases rx;let#[u,rfl,ru]:=rv.one;let#[z,its,n,r,hl,e]:=I.vz hH;have xg:j<its.length:=by lia
 have small:(j:Int)<2 ^ 63-1:=by have:=w9;lia
 refine xZ F.slot_list_index #[_,e,rfl] F.entry_list_index (F.args_list_index_2 _ _) (SeqAt.list_indexAt l its.toArray n zp #[] u (vH y) j (by simpa using xg) small ?_ ?_) #[e,?_,?_]
 .let#[v,e1,e2]:=RN (y:=y) xg r ha;rw[show (its.toArray[j]'(by simpa using xg))=its[j] from rfl,e2];exact hit v e1
 .intro m hm aeH;have Ic:m<its.length:=by simpa using hm
  let#[v,e1,e2]:=RN (y:=y) Ic r ha;rw[show (its.toArray[m]'hm)=its[m] from rfl,e2];exact uv m v aeH e1
 .intro w hw;exact Ah ru hy (vH y) r ha (λz w h1 h2 rz=>BH rz (cS.mp ha z h1)) w (by simpa using hw)
 .exact#[.int (j:Nat),H,I.tok _,#[_,rfl],q]
noncomputable def aaa:Expr->Option Str
 |.Constant (.str x) _ _=>some x
 |_=>zp
def aeI (xs:List Str):TA:=λ_ H Q=>Q (xs.map V.str) H
theorem BI:∀ {es:List Expr}{xs:List Str},es.map aaa=xs.map some->PA X es (aeI xs)
 |[],[],_=>fS
 |[],_::_,h=>by simp at h
 |_::_,[],h=>by simp at h
 | e::es,x::xs,h=>by
   rw[az,az,List.cons.injEq]at h;have ih:=BI h.2;cases e with
   |Constant k j pos=>
     cases k with
     |str y=>
       have e1:y=x:=Option.some.inj h.1;subst e1;exact fA lV ih
     |_=>exact nomatch h.1
   |_=>exact nomatch h.1
end L2
namespace L2.DL
inductive D where
 |non|bl (b:Bool)|int (i:Int)|str (x:Str)|tup (l:List D)|lst (l:List D)|af (l:List (Key×D))
inductive W where
 |d (x:D)|b (n:Nat)|s (l:List Int)|x (i:Nat)|t (l:List Nat)|m (l:List (Str×Nat))
inductive Bx where
 |lst (l:List D)|af (l:List (Key×D))|dead|dT (l:List (List Key×D))|fD (l:List (Key×D))
mutual
noncomputable def Den (F:Hp):D->V->zy
 |.non,v=>v=.non
 |.bl b,v=>v=.bl b
 |.int i,v=>v=.int i
 |.str x,v=>v=.str x
 |.tup l,v=>∃ a vs,v=.ref a /\ F a=some (.tup vs) /\ aw F l vs
 |.lst l,v=>∃ a vs,v=.ref a /\ F a=some (.lst vs) /\ aw F l vs
 |.af l,v=>∃ a kvs,v=.ref a /\ F a=some zal /\ aC F l kvs
noncomputable def aw (F:Hp):List D->List V->zy
 |[],vs=>vs=[]
 |d::l,vs=>∃ v r,vs=v::r /\ Den F d v /\ aw F l r
noncomputable def aC (F:Hp):List (Key×D)->List (Key×V)->zy
 |[],r=>r=[]
 |(k,d)::l,r=>∃ v r',r=(k,v)::r' /\ Den F d v /\ aC F l r'
end
def Sub (F F':Hp):zy:=∀ a u,F a=some u->F' a=some u
theorem Sub.refl (F:Hp):Sub F F:=λ_ _ h=>h
theorem Sub.trans {G:Hp}(a:Sub F G) (b:Sub G H):Sub F H:=λx u h=>b x u (a x u h)
def xh (F F':Hp):zy:=∀ a u,(∀ o v,u≠.bh o v)->F a=some u->F' a=some u
theorem Sub.d (s:Sub F F'):xh F F':=λa u _ h=>s a u h
mutual
theorem Den.dO {F F':Hp}(s:xh F F'):∀ (d:D) {v:V},Den F d v->Den F' d v
 |.non,_,h=>h
 |.bl _,_,h=>h
 |.int _,_,h=>h
 |.str _,_,h=>h
 | .tup l,_,h=>by
   let#[a,vs,e,h1,h2]:=h;exact#[a,vs,e,s _ _ (λ_ _ z=>nomatch z) h1,aw.dO s l h2]
 | .lst l,_,h=>by
   let#[a,vs,e,h1,h2]:=h;exact#[a,vs,e,s _ _ (λ_ _ z=>nomatch z) h1,aw.dO s l h2]
 | .af l,_,h=>by
   let#[a,vs,e,h1,h2]:=h;exact#[a,vs,e,s _ _ (λ_ _ z=>nomatch z) h1,aC.dO s l h2]
theorem aw.dO {F F':Hp}(s:xh F F'):∀ (l:List D) {vs:List V},aw F l vs->aw F' l vs
 |[],_,h=>h
 | d::l,_,h=>by
   let#[v,r,e,h1,h2]:=h;exact#[v,r,e,Den.dO s d h1,aw.dO s l h2]
theorem aC.dO {F F':Hp}(s:xh F F'):∀ (l:List (Key×D)) {vs:List (Key×V)},aC F l vs->aC F' l vs
 |[],_,h=>h
 | (k,d)::l,_,h=>by
   let#[v,r,e,h1,h2]:=h;exact#[v,r,e,Den.dO s d h1,aC.dO s l h2]
end
theorem Den.mono (s:Sub F F') (d:D) (h:Den F d v):Den F' d v:=Den.dO s.d d h
theorem aw.mono (s:Sub F F') (l:List D) {vs:List V}(h:aw F l vs):aw F' l vs:=aw.dO s.d l h
theorem aC.mono (s:Sub F F') (l:List (Key×D)) {vs:List (Key×V)}(h:aC F l vs):aC F' l vs:=aC.dO s.d l h
theorem aw.length {F:Hp}:∀ {l:List D}{vs:List V},aw F l vs->l.length=vs.length
 | [],_,h=>by
   have e:_=[]:=h;rw[e];rfl
 | d::l,_,h=>by
   let#[v,r,e,_,h2]:=h;rw[e,bg,bg,h2.length]
theorem aw.get {F:Hp}:∀ {l:List D}{vs:List V}{i:Nat}{d:D},aw F l vs->l[i]?=some d->∃ v,vs[i]?=some v /\ Den F d v
 |[],_,_,_,_,e=>by simp at e
 | x::l,_,0,d,h,e=>by
   let#[v,r,q,h1,_]:=h;simp at e;subst e;subst q;exact#[v,rfl,h1]
 | x::l,_,i+1,d,h,e=>by
   let#[v,r,q,_,h2]:=h;subst q;let#[u,e1,e2]:=aw.get (i:=i) h2 (by simpa using e);exact#[u,by simpa using e1,e2]
theorem aw.nil:aw F [] []:=rfl
theorem aw.cons {F:Hp}{d:D}{v:V}{l:List D}{vs:List V}(h:Den F d v) (t:aw F l vs):aw F (d::l) (v::vs):=#[v,vs,rfl,h,t]
theorem aw.append {F:Hp}:∀ {l l':List D}{vs sZ:List V},aw F l vs->aw F l' sZ->aw F (l++l') (vs++sZ)
 | [],_,_,_,h,t=>by
   have e:_=[]:=h;rw[e];exact t
 | d::l,_,_,_,h,t=>by
   let#[v,r,q,h1,h2]:=h;subst q;exact .cons h1 (h2.append t)
theorem aw.take {F:Hp}:∀ {l:List D}{vs:List V}(n:Nat),aw F l vs->aw F (l.take n) (vs.take n)
 |l,_,0,_=>by rw[Yd,Yd];rfl
 | [],_,n+1,h=>by
   have e:_=[]:=h;rw[e];exact rfl
 | d::l,_,n+1,h=>by
   let#[v,r,q,h1,h2]:=h;subst q;exact .cons h1 (h2.take n)
theorem aw.drop {F:Hp}:∀ {l:List D}{vs:List V}(n:Nat),aw F l vs->aw F (l.drop n) (vs.drop n)
 |l,_,0,h=>h
 | [],_,n+1,h=>by
   have e:_=[]:=h;rw[e];exact rfl
 | d::l,_,n+1,h=>by
   let#[v,r,q,h1,h2]:=h;subst q;exact h2.drop n
theorem aw.reverse {F:Hp}:∀ {l:List D}{vs:List V},aw F l vs->aw F l.reverse vs.reverse
 | [],_,h=>by
   have e:_=[]:=h;rw[e];exact rfl
 | d::l,_,h=>by
   let#[v,r,q,h1,h2]:=h;subst q;rw[ES,ES];exact h2.reverse.append (.cons h1 .nil)
theorem aw.set {F:Hp}{d:D}{v:V}(hd:Den F d v):∀ {l:List D}{vs:List V}(i:Nat),aw F l vs->aw F (l.set i d) (vs.set i v)
 | [],_,_,h=>by
   have e:_=[]:=h;rw[e];exact rfl
 | _::l,_,0,h=>by
   let#[v',r,q,h1,h2]:=h;subst q;exact .cons hd h2
 | _::l,_,i+1,h=>by
   let#[v',r,q,h1,h2]:=h;subst q;exact .cons h1 (aw.set hd i h2)
theorem aw.eraseIdx {F:Hp}:∀ {l:List D}{vs:List V}(i:Nat),aw F l vs->aw F (l.eraseIdx i) (vs.eraseIdx i)
 | [],_,_,h=>by
   have e:_=[]:=h;rw[e];exact rfl
 | _::l,_,0,h=>by
   let#[v',r,q,h1,h2]:=h;subst q;exact h2
 | _::l,_,i+1,h=>by
   let#[v',r,q,h1,h2]:=h;subst q;exact .cons h1 (h2.eraseIdx i)
structure Fr where
 H₀:Hp
 n₀:Nat
 F₀:Hp
noncomputable def uC (r:List Addr):List Nat->List Addr->zy
 |[],as=>as=[]
 |n::l,as=>∃ a t,as=a::t /\ r[n]?=some a /\ uC r l t
theorem uC.mono {r r':List Addr}(p:r <+: r'):∀ {l:List Nat}{as:List Addr},uC r l as->uC r' l as
 |[],_,h=>h
 | n::l,_,h=>by
   let#[a,t,e,h1,h2]:=h;refine#[a,t,e,?_,h2.mono p];let#[u,rfl]:=p;rw[dJ (List.getElem?_eq_some_iff.mp h1).1];exact h1
def bS (F:Hp):List (List Key×D)->List (List Key×V)->zy
 |[],r=>r=[]
 |(k,d)::l,r=>∃ v r',r=(k,v)::r' /\ Den F d v /\ bS F l r'
theorem bS.dO {F F':Hp}(s:xh F F'):∀ (l:List (List Key×D)) {vs:List (List Key×V)},bS F l vs->bS F' l vs
 |[],_,h=>h
 | (k,d)::l,_,h=>by
   let#[v,r,e,h1,h2]:=h;exact#[v,r,e,Den.dO s d h1,bS.dO s l h2]
theorem bS.mono (s:Sub F F') (l:List (List Key×D)) {vs:List (List Key×V)}(h:bS F l vs):bS F' l vs:=bS.dO s.d l h
def bG (F:Hp) (VU:List Addr):W->V->zy
 |.d x,v=>Den F x v
 |.b n,v=>∃ a,v=.ref a /\ VU[n]?=some a
 |.s l,v=>∃ a o,v=.ref a /\ F a=some (.bh o (.lst (l.map V.int)))
 |.x _,_=>False
 |.t l,v=>∃ c as,v=.ref c /\ F c=some (.tup (as.map V.ref)) /\ uC VU l as
 |.m l,v=>∃ c as,v=.ref c /\ F c=some (.dK (List.zipWith (λk a=>(.inr k.1,V.ref a)) l as)) /\ uC VU (l.map (·.2)) as
theorem bG.mono {F F':Hp}{r r':List Addr}(s:Sub F F') (p:r <+: r'):∀ (w:W) {v:V},bG F r w v->bG F' r' w v
 |.d x,_,h=>Den.mono s x h
 | .b n,_,h=>by
   let#[a,e,h]:=h;refine#[a,e,?_];let#[t,rfl]:=p;rw[dJ (List.getElem?_eq_some_iff.mp h).1];exact h
 |.s l,_,h=>let ⟨a,o,e,h⟩:=h;#[a,o,e,s _ _ h]
 |.x _,_,h=>h
 |.t l,_,h=>let ⟨c,as,e,h1,h2⟩:=h;#[c,as,e,s _ _ h1,h2.mono p]
 |.m l,_,h=>let ⟨c,as,e,h1,h2⟩:=h;#[c,as,e,s _ _ h1,h2.mono p]
def rT (F H:Hp) (a:Addr):Bx->zy
 |.lst l=>F a=zp /\ ∃ vs,H a=some (.lst vs) /\ aw F l vs
 |.af l=>F a=zp /\ ∃ kvs,H a=some zal /\ aC F l kvs
 |.dead=>∃ u,H a=some u
 |.dT l=>F a=zp /\ ∃ kvs,H a=some (.dT kvs) /\ bS F l kvs
 |.fD l=>∃ o kvs,F a=some (.bh o zal) /\ H a=some (.bh o zal) /\ aC F l kvs
noncomputable abbrev aN:=List (Option W)
noncomputable abbrev xB (n:Nat):Option W:=some (.b n)
noncomputable abbrev xN (i:Int):Option W:=some (.d (.int i))
noncomputable abbrev xJ (l:List Int):Option W:=some (.d (.lst (l.map D.int)))
structure Rel (T:Fr) (F:Hp) (r:List Addr) (σ:St) (H:Hp) (env:aN) (bx:List Bx):zy where
 fh:Sub F H
 slot:∀ (i:Nat) (w:W),env[i]?=some (some w)->∃ v,σ[i]?=some (some v) /\ bG F r w v
 len:r.length=bx.length
 nd:r.Nodup
 box:∀ (n:Nat) (c:Bx) (a:Addr),bx[n]?=some c->r[n]?=some a->rT F H a c
 keep:∀ a u,T.H₀ a=some u->a∉r->H a=some u
 new:∀ (n:Nat) (a:Addr),T.n₀<=n->r[n]?=some a->T.H₀ a=zp
 n0:T.n₀<=r.length
 sl:env.length<=σ.length
 fs:∀ a u,F a=some u->(∃ vs,u=.tup vs) \/ T.F₀ a=some u \/ T.H₀ a=zp \/ a∈r
structure aU (F:Hp) (r:List Addr) (F':Hp) (r':List Addr):zy where
 s:Sub F F'
 p:r <+: r'
theorem aU.refl (F:Hp) (r:List Addr):aU F r F r:=#[Sub.refl F,pL r]
theorem aU.trans {F F' aab:Hp}{r r' aac:List Addr}(a:aU F r F' r') (b:aU F' r' aab aac):aU F r aab aac:=#[a.s.trans b.s,a.p.trans b.p]
theorem aU.den {r':List Addr}(g:aU F r F' r') {w:W}(h:bG F r w v):bG F' r' w v:=h.mono g.s g.p w
inductive O (α:Type) where
 |val (a:α) (bx:List Bx)|exc (c:Nat) (bx:List Bx)|bad
abbrev DE (α:Type):=aN->List Bx->O α
noncomputable def fC {β:Type}(m:O α) (k:α->List Bx->O β):O β:=
 match m with
 |.val a bx=>k a bx
 |.exc c bx=>.exc c bx
 |.bad=>.bad
structure Xs where
 E:XK
 cl:Nat->Addr
noncomputable def End {β:Type}(T:Fr) (Z:Xs) (Rl:Hp->List Addr->α->β->zy) (F:Hp) (r:List Addr) (σ:St) (env:aN) (Q:β->Hp->zy):O α->zy
 |.val d bx'=>∀ F' r' v H',aU F r F' r'->Rel T F' r' σ H' env bx'->Rl F' r' d v->Q v H'
 |.exc c bx'=>∀ F' r' H',aU F r F' r'->Rel T F' r' [] H' [] bx'->Z.E (.ref (Z.cl c)) zp H'
 |.bad=>False
theorem End.weak {β:Type}{T:Fr}{Z:Xs}{Rl:Hp->List Addr->α->β->zy}{r':List Addr}{env:aN}{Q:β->Hp->zy}(g:aU F r F' r'):∀ {o:O α},End T Z Rl F r σ env Q o->End T Z Rl F' r' σ env Q o
 |.val _ _,h=>λF2 r2 v H2 g2=>h F2 r2 v H2 (g.trans g2)
 |.exc _ _,h=>λF2 r2 H2 g2=>h F2 r2 H2 (g.trans g2)
 |.bad,h=>h
theorem End.bind {β α' β':Type}{T:Fr}{Z:Xs}{R1:Hp->List Addr->α->β->zy}{R2:Hp->List Addr->α'->β'->zy}{env:aN}{Q:β'->Hp->zy}{Q1:β->Hp->zy}
 {m:O α}{k:α->List Bx->O α'}(h:End T Z R2 F r σ env Q (fC m k))
 (c:∀ d bx1 F1 r1 v H1,aU F r F1 r1->Rel T F1 r1 σ H1 env bx1->R1 F1 r1 d v->End T Z R2 F1 r1 σ env Q (k d bx1)->Q1 v H1):End T Z R1 F r σ env Q1 m:=by
 cases m with
 |val d bx=>exact λF' r' v H' g R q=>c d bx F' r' v H' g R q (End.weak g h)
 |exc n bx=>exact h
 |bad=>exact h
theorem Rel.drop {T:Fr}{env:aN}{bx:List Bx}(R:Rel T F r σ H env bx):Rel T F r [] H [] bx:=
 #[R.fh,λi w e=>by simp at e,R.len,R.nd,R.box,R.keep,R.new,R.n0,au _,R.fs]
def tD (T:Fr) (Z:Xs) (m:DE W):TE:=λσ H Q=>∃ F r env bx,Rel T F r σ H env bx /\ End T Z bG F r σ env Q zL
def PD (X:Cx) (T:Fr) (Z:Xs) (e:Expr) (m:DE W):zy:=PE X e (tD T Z m)
abbrev aeJ:Hp->List Addr->Bool->Bool->zy:=λ_ _ a b=>a=b
def rV (T:Fr) (Z:Xs) (m:DE Bool):TT:=λσ H Q=>∃ F r env bx,Rel T F r σ H env bx /\ End T Z aeJ F r σ env Q zL
def hV (X:Cx) (T:Fr) (Z:Xs) (e:Expr) (m:DE Bool):zy:=PT X e (rV T Z m)
def kM (F:Hp) (r:List Addr):List W->List V->zy
 |[],vs=>vs=[]
 |w::l,vs=>∃ v t,vs=v::t /\ bG F r w v /\ kM F r l t
theorem kM.mono {F F':Hp}{r r':List Addr}(g:aU F r F' r'):∀ {l:List W}{vs:List V},kM F r l vs->kM F' r' l vs
 |[],_,h=>h
 | w::l,_,h=>by
   let#[v,t,e,h1,h2]:=h;exact#[v,t,e,g.den h1,h2.mono g]
def Ie (T:Fr) (Z:Xs) (m:DE (List W)):TA:=λσ H Q=>∃ F r env bx,Rel T F r σ H env bx /\ End T Z kM F r σ env Q zL
def dQ (X:Cx) (T:Fr) (Z:Xs) (es:List Expr) (m:DE (List W)):zy:=PA X es (Ie T Z m)
theorem x4 {T:Fr}{B:Hp->List Addr->aN->List Bx->zy}{G:zy}(k:∀ F r env bx,Rel T F r σ H env bx->B F r env bx->G):(∃ F r env bx,Rel T F r σ H env bx /\ B F r env bx)->G:=λ⟨F,r,env,bx,R,h⟩=>k F r env bx R h
theorem x5 {δ:Type}{T:Fr}{C:Hp->List Addr->δ->zy}{B:Hp->List Addr->aN->List Bx->δ->zy}{G:zy}(k:∀ F r env bx w,Rel T F r σ H env bx->C F r w->B F r env bx w->G):(∃ F r env bx w,Rel T F r σ H env bx /\ C F r w /\ B F r env bx w)->G:=λ⟨F,r,env,bx,w,R,d,h⟩=>k F r env bx w R d h
theorem PE.imp {t t':TE}(h:PE X e t) (f:∀ σ H Q,t' σ H Q->t σ H Q):PE X e t':=λpins s σ H Q I q=>h pins s σ H Q I (f σ H Q q)
theorem PT.imp {t t':TT}(h:PT X e t) (f:∀ σ H Q,t' σ H Q->t σ H Q):PT X e t':=λpins s σ H Q I q=>h pins s σ H Q I (f σ H Q q)
theorem PW.imp {t t':TT}(h:PW X e t) (f:∀ σ H Q,t' σ H Q->t σ H Q):PW X e t':=λwhole pins s σ H Q I q=>h whole pins s σ H Q I (f σ H Q q)
theorem PA.imp {e:List Expr}{t t':TA}(h:PA X e t) (f:∀ σ H Q,t' σ H Q->t σ H Q):PA X e t':=λpos pins s σ H Q I q=>h pos pins s σ H Q I (f σ H Q q)
theorem PS.imp {e:Stmt}{t t':TS}(h:PS X e t) (f:∀ Q σ H,t' Q σ H->t Q σ H):PS X e t':=λpins s σ H Q I q=>h pins s σ H Q I (f Q σ H q)
theorem dt.imp {e:List Stmt}{t t':TS}(h:dt X e t) (f:∀ Q σ H,t' Q σ H->t Q σ H):dt X e t':=λpins s σ H Q I q=>h pins s σ H Q I (f Q σ H q)
section
variable {T:Fr} {Z:Xs} {a b c:Expr} {ma mb mc:DE W} 
noncomputable def dV (i:Nat):DE W:=λenv bx=>match env[i]? with|some (some w)=>.val w bx|_=>.bad
theorem J1 (i:Nat) (hN:X.N[i]?=some x:=by rfl) (hv:sO X.env.scope x:=by first|exact Or.inl zw|exact Or.inr (Or.inl zw)|exact Or.inr (Or.inr zw)) (hd:(x==("__debug__":Str))=zc:=by decide)
 (dA:(x==("__classdict__":Str))=zc:=by decide):PD X T Z (.Name x pos) (dV i):=by
 refine PE.imp (By hN hv hd dA) λσ H Q=>x4 λF r env bx R h=>?_;unfold dV at h;split at h
 .ext w e;let#[v,e1,e2]:=R.slot i w e;exact#[v,e1,h F r v H (.refl F r) R e2]
 .exact h.elim
noncomputable def dC (d:D):DE W:=λ_ bx=>.val (.d d) bx
theorem Ct {d:D}(h:PE X e (tC v)) (hd:∀ F,Den F d v):PD X T Z e (dC d):=
 PE.imp h λσ H Q=>x4 λF r env bx R h=>h F r v H (.refl F r) R (hd F)
theorem RP {i:Int}{j}:PD X T Z (.Constant (.int i) j pos) (dC (.int i)):=Ct Do λ_=>rfl
theorem TV {i:Bool}{j}:PD X T Z (.Constant (.bool i) j pos) (dC (.bl i)):=Ct Jv λ_=>rfl
theorem RQ {j}:PD X T Z (.Constant .none j pos) (dC .non):=Ct Rj λ_=>rfl
theorem RR {j}:PD X T Z (.Constant (.str x) j pos) (dC (.str x)):=Ct lV λ_=>rfl
noncomputable def fg:DE (List W):=λ_ bx=>.val [] bx
def fc (m:DE W) (k:DE (List W)):DE (List W):=λenv bx=>fC zL λw bx1=>fC (k env bx1) λl ah=>.val (w::l) ah
theorem mH:dQ X T Z [] fg:=PA.imp fS λσ H Q=>x4 λF r env bx R h=>h F r [] H (.refl F r) R zw
theorem J2 {k:DE (List W)}(ha:PD X T Z e ma) (hr:dQ X T Z es k) (hs:starEach (e::es) X.env=zaB::starEach es X.env:=by rfl):dQ X T Z (e::es) (fc ma k):=by
 refine PA.imp (fA ha hr hs) λσ H Q=>x4 λF r env bx R h=>?_;refine#[F,r,env,bx,R,End.bind h λw bx1 F1 r1 v H1 g1 R1 d1 h1=>?_];refine#[F1,r1,env,bx1,R1,End.bind h1 λl ah F2 r2 vs H2 g2 R2 d2 h2=>?_];exact h2 F2 r2 _ H2 (.refl F2 r2) R2 #[v,vs,rfl,g2.den d1,d2]
end
end L2.DL
variable {t tf:L2.DL.DE Bool}{te m mb ma:L2.DL.DE L2.DL.W}{l:List L2.DL.D}{ks mi:L2.DL.DE (List L2.DL.W)}{T:L2.DL.Fr}{B bx bx1:List L2.DL.Bx}{env:L2.DL.aN}{Z:L2.DL.Xs}{fn:List L2.DL.W -> List L2.DL.Bx -> L2.DL.O L2.DL.W}{hd:L2.DL.D}
namespace L2.DL
theorem iC (h:F p=zp):Sub F (upd F p o):=λa u e=>by rw[fw (fJ e h)];exact e
theorem Rel.qS (R:Rel T F r σ H env bx) (h:H p=zp):F p=zp:=by
 cases e:F p with
 |none=>rfl
 |some u=>rw[R.fh p u e]at h;cases h
theorem rT.there:∀ {c:Bx},rT F H a c->∃ u,H a=some u
 |.lst _,h=>let ⟨_,vs,e,_⟩:=h;#[_,e]
 |.af _,h=>let ⟨_,vs,e,_⟩:=h;#[_,e]
 |.dead,h=>h
 |.dT _,h=>let ⟨_,vs,e,_⟩:=h;#[_,e]
 |.fD _,h=>let ⟨_,_,_,e,_⟩:=h;#[_,e]
theorem Rel.hZ (R:Rel T F r σ H env bx) (e:r[n]?=some a):∃ c,bx[n]?=some c /\ rT F H a c:=by
 have h:=(List.getElem?_eq_some_iff.mp e).1;rw[R.len]at h;exact#[_,pM h,R.box n _ a (pM h) e]
theorem Rel.xi (R:Rel T F r σ H env bx) (h:H p=zp):p∉r:=λhp=>by
 let#[n,e]:=List.mem_iff_getElem?.mp hp;let#[c,_,k]:=R.hZ e;let#[u,k]:=k.there;rw[h]at k;cases k
theorem rT.grow (s:Sub F F') (hf:F a=zp->F' a=zp) (hh:∀ u,H a=some u->H' a=some u):∀ {c:Bx},rT F H a c->rT F' H' a c
 |.lst _,h=>let ⟨h1,vs,h2,h3⟩:=h;#[hf h1,vs,hh _ h2,aw.mono s _ h3]
 |.af _,h=>let ⟨h1,vs,h2,h3⟩:=h;#[hf h1,vs,hh _ h2,aC.mono s _ h3]
 |.dead,h=>let ⟨u,h⟩:=h;#[u,hh u h]
 |.dT _,h=>let ⟨h1,vs,h2,h3⟩:=h;#[hf h1,vs,hh _ h2,bS.mono s _ h3]
 |.fD _,h=>let ⟨o,vs,h1,h2,h3⟩:=h;#[o,vs,s _ _ h1,hh _ h2,aC.mono s _ h3]
theorem Rel.xj (R:Rel T F r σ H env bx) (h:H p=zp):Rel T (upd F p o) r σ (upd H p o) env bx:=by
 have hf:=R.qS h;have s:=iC (o:=o) hf;refine#[λa u e=>?_,λi w e=>?_,R.len,R.nd,λn c a e1 e2=>?_,λa u e hn=>?_,R.new,R.n0,R.sl,λa u e=>?_]
 .by_cases ha:a=p
  .subst ha;rw[fv]at e ⊢;exact e
  .rw[fw ha]at e ⊢;exact R.fh a u e
 .let#[v,e1,e2]:=R.slot i w e;exact#[v,e1,e2.mono s (pL r)]
 .have k:=R.box n c a e1 e2;let#[u,hu]:=k.there;have ha:a≠p:=fJ hu h;exact k.grow s (λz=>by rw[fw ha];exact z) (λu z=>by rw[fw ha];exact z)
 .have k:=R.keep a u e hn;rw[fw (fJ k h)];exact k
 .by_cases ha:a=p
  .subst ha;refine .inr (.inr (.inl ?_));cases q:T.H₀ a with
   |none=>rfl
   |some u=>rw[R.keep a u q (R.xi h)]at h;cases h
  .rw[fw ha]at e;exact R.fs a u e
theorem Rel.tj (R:Rel T F r σ H env bx) (h:H p=zp):aU F r (upd F p o) r:=#[iC (R.qS h),pL r]
theorem Rel.Ig (R:Rel T F r σ H env bx) {c:Bx}(h:H p=zp) (hc:rT F (upd H p o) p c):Rel T F (r++[p]) σ (upd H p o) env (bx++[c]):=by
 have hs:∀ a u,H a=some u->upd H p o a=some u:=λa u e=>by rw[fw (fJ e h)];exact e
 refine#[λa u e=>hs a u (R.fh a u e),λi w e=>?_,by rw[dj,dj,R.len];rfl,?_,λn c' a e1 e2=>?_,λa u e hn=>?_,λn a hn e=>?_,by rw[dj];exact bU R.n0 (vb _ _),R.sl,λa u e=>(R.fs a u e).imp id (Or.imp id (Or.imp id λz=>qH _ z))]
 .let#[v,e1,e2]:=R.slot i w e;exact#[v,e1,e2.mono (Sub.refl F) (wF r [p])]
 .rw[wI];refine#[R.nd,by simp,λa ha b hb=>?_];rw[qo]at hb;subst hb;exact λz=>R.xi h (z▸ha)
 .by_cases hn:n<r.length
  .rw[dJ hn]at e2;rw[dJ (by rw[<-R.len];exact hn)]at e1;exact(R.box n c' a e1 e2).grow (Sub.refl F) id (hs a)
  .rw[dI zd]at e2;rw[dI (by rw[<-R.len];lia)]at e1;have hl:n-r.length=0:=by
    cases q:n-r.length with
    |zero=>rfl
    |succ k=>rw[q]at e2;simp at e2
   have kg:n-bx.length=0:=by rw[<-R.len];exact hl
   rw[hl]at e2;rw[kg]at e1;simp at e1 e2;subst e1 e2;exact hc
 .exact hs a u (R.keep a u e λz=>hn (qH _ z))
 .by_cases hl:n<r.length
  .rw[dJ hl]at e;exact R.new n a hn e
  .have hp:a=p:=by
    rw[dI zd]at e;cases q:n-r.length with
    |zero=>rw[q]at e;simp at e;exact e.symm
    |succ k=>rw[q]at e;simp at e
   subst hp;cases q:T.H₀ a with
   |none=>rfl
   |some u=>rw[R.keep a u q (R.xi h)]at h;cases h
theorem jV {l:List α}(h:l.Nodup) {x:α}(a:l[i]?=some x) (b:l[j]?=some x):i=j:=by
 have h1:=(List.getElem?_eq_some_iff.mp a).1;have h2:=(List.getElem?_eq_some_iff.mp b).1;exact(List.getElem?_inj h1 h).mp (a.trans b.symm)
theorem Rel.write (R:Rel T F r σ H env bx) {c:Bx}(e:r[n]?=some a) (hF:F a=zp) (hc:rT F (upd H a o) a c):Rel T F r σ (upd H a o) env (bx.set n c):=by
 have ha:a∈r:=List.mem_iff_getElem?.mpr #[n,e];refine#[λb u q=>?_,R.slot,by rw[nV];exact R.len,R.nd,λm c' b e1 e2=>?_,λb u q hn=>?_,R.new,R.n0,R.sl,R.fs]
 .by_cases hb:b=a
  .subst hb;rw[hF]at q;cases q
  .rw[fw hb];exact R.fh b u q
 .by_cases hm:m=n
  .subst hm;rw[e]at e2;cases e2;rw[nT (by rw[<-R.len];exact(List.getElem?_eq_some_iff.mp e).1)]at e1;cases e1;exact hc
  .rw[rH (Ne.symm hm)]at e1;have hb:b≠a:=λz=>hm (jV R.nd e2 (z▸e));exact(R.box m c' b e1 e2).grow (Sub.refl F) id λu z=>by rw[fw hb];exact z
 .rw[fw (λz=>hn (by rw[z];exact ha))];exact R.keep b u q hn
theorem Rel.freeze (R:Rel T F r σ H env bx) (e:r[n]?=some a) (hF:F a=zp) (hH:H a=some o):Rel T (upd F a o) r σ H env (bx.set n .dead) /\ aU F r (upd F a o) r:=by
 have s:=iC (o:=o) hF;refine#[#[λb u q=>?_,λi w q=>?_,by rw[nV];exact R.len,R.nd,λm c' b e1 e2=>?_,R.keep,R.new,R.n0,R.sl,λb u q=>?_],s,pL r]
 .by_cases hb:b=a
  .subst hb;rw[fv]at q;cases q;exact hH
  .rw[fw hb]at q;exact R.fh b u q
 .let#[v,e1,e2]:=R.slot i w q;exact#[v,e1,e2.mono s (pL r)]
 .by_cases hm:m=n
  .subst hm;rw[e]at e2;cases e2;rw[nT (by rw[<-R.len];exact(List.getElem?_eq_some_iff.mp e).1)]at e1;cases e1;exact#[_,hH]
  .rw[rH (Ne.symm hm)]at e1;have hb:b≠a:=λz=>hm (jV R.nd e2 (z▸e));exact(R.box m c' b e1 e2).grow s (λz=>by rw[fw hb];exact z) λu z=>z
 .by_cases hb:b=a
  .subst hb;exact .inr (.inr (.inr (List.mem_iff_getElem?.mpr #[n,e])))
  .rw[fw hb]at q;exact R.fs b u q
def qy (F H:Hp):D->V->zy
 |.lst l,v=>∃ a vs,v=.ref a /\ H a=some (.lst vs) /\ aw F l vs
 |.af l,v=>∃ a kvs,v=.ref a /\ H a=some zal /\ aC F l kvs
 |.tup l,v=>∃ a vs,v=.ref a /\ F a=some (.tup vs) /\ aw F l vs
 |.non,v=>v=.non
 |.bl b,v=>v=.bl b
 |.int i,v=>v=.int i
 |.str x,v=>v=.str x
noncomputable def bT (bx:List Bx):W->Option D
 |.d x=>some x
 | .b n=>match bx[n]? with
   |some (.lst l)=>some (.lst l)
   |some (.af l)=>some (.af l)
   |_=>zp
 |_=>zp
theorem Den.qT (s:Sub F H):∀ {d:D}{v:V},Den F d v->qy F H d v
 |.non,_,h=>h
 |.bl _,_,h=>h
 |.int _,_,h=>h
 |.str _,_,h=>h
 |.tup l,_,h=>h
 |.lst l,_,h=>let ⟨a,vs,e,h1,h2⟩:=h;#[a,vs,e,s _ _ h1,h2]
 |.af l,_,h=>let ⟨a,vs,e,h1,h2⟩:=h;#[a,vs,e,s _ _ h1,h2]
theorem Rel.qT (R:Rel T F r σ H env bx) {w:W}{v:V}{d:D}(h:bG F r w v) (e:bT bx w=some d):qy F H d v:=by
 cases w with
 |d x=>
   cases e;exact Den.qT R.fh h
 |b n=>
   let#[a,rfl,ha]:=h;let#[c,hc,k]:=R.hZ ha;erw[bT,hc]at e;cases c with
   |lst l=>cases e;let#[_,vs,k1,k2]:=k;exact#[a,vs,rfl,k1,k2]
   |af l=>cases e;let#[_,vs,k1,k2]:=k;exact#[a,vs,rfl,k1,k2]
   |dead=>cases e
   |dT _=>cases e
   |fD _=>cases e
 |s l=>cases e
 |x i=>exact h.elim
 |t _=>cases e
 |m _=>cases e
def VW (F H:Hp):List D->List V->zy
 |[],vs=>vs=[]
 |d::l,vs=>∃ v t,vs=v::t /\ qy F H d v /\ VW F H l t
def nH (bx:List Bx):List W->Option (List D)
 |[]=>some []
 |w::l=>(bT bx w).bind λd=>(nH bx l).map λt=>d::t
theorem Rel.aad (R:Rel T F r σ H env bx):∀ {ws:List W}{vs:List V}{ds:List D},kM F r ws vs->nH bx ws=some ds->VW F H ds vs
 |[],_,_,h,e=>by cases e;exact h
 | w::l,_,ds,h,e=>by
   let#[v,t,q,h1,h2]:=h;unfold nH at e;cases e1:bT bx w with
   |none=>rw[e1]at e;cases e
   |some d=>
     rw[e1]at e;cases e2:nH bx l with
     |none=>rw[e2]at e;cases e
     |some t'=>
       rw[e2]at e;cases e;exact#[v,t,q,R.qT h1 e1,R.aad h2 e2]
inductive Res where
 |old (d:D)|tup (l:List D)|lst (l:List D)|af (l:List (Key×D))
noncomputable def Res.toD:Res->D
 |.old d=>d|.tup l=>.tup l|.lst l=>.lst l|.af l=>.af l
def vI (F H:Hp):Res->V->Hp->zy
 |.old d,v,H'=>H'=H /\ Den F d v
 |.tup l,v,H'=>(H'=H /\ Den F (.tup l) v) \/ ∃ p vs,v=.ref p /\ H p=zp /\ H'=upd H p (.tup vs) /\ aw F l vs
 |.lst l,v,H'=>∃ p vs,v=.ref p /\ H p=zp /\ H'=upd H p (.lst vs) /\ aw F l vs
 |.af l,v,H'=>∃ p vs,v=.ref p /\ H p=zp /\ H'=upd H p (.dK vs) /\ aC F l vs
theorem Rel.res (R:Rel T F r σ H env bx):∀ {q:Res},vI F H q v H'->∃ F',aU F r F' r /\ Rel T F' r σ H' env bx /\ Den F' q.toD v
 | .old d,h=>by
   let#[rfl,h]:=h;exact#[F,.refl F r,R,h]
 | .tup l,h=>by
   rcases h with⟨rfl,h⟩|⟨p,vs,rfl,hp,rfl,h⟩
   .exact#[F,.refl F r,R,h]
   exact#[_,R.tj hp,R.xj hp,p,vs,rfl,fv,aw.mono (R.tj (o:=.tup vs) hp).s l h]
 | .lst l,h=>by
   let#[p,vs,rfl,hp,rfl,h]:=h;exact#[_,R.tj hp,R.xj hp,p,vs,rfl,fv,aw.mono (R.tj (o:=.lst vs) hp).s l h]
 | .af l,h=>by
   let#[p,vs,rfl,hp,rfl,h]:=h;exact#[_,R.tj hp,R.xj hp,p,vs,rfl,fv,aC.mono (R.tj (o:=.dK vs) hp).s l h]
theorem Rel.resB (R:Rel T F r σ H env bx) (h:vI F H (.lst l) v H'):∃ r',aU F r F r' /\ Rel T F r' σ H' env (bx++[.lst l]) /\ bG F r' (.b bx.length) v:=by
 let#[p,vs,rfl,hp,rfl,h]:=h;refine#[r++[p],#[Sub.refl F,wF r [p]],R.Ig hp #[R.qS hp,vs,fv,h],p,rfl,?_];rw[<-R.len,dI (au _),sx];rfl
theorem Rel.aeK (R:Rel T F r σ H env bx) {l:List (Key×D)}(h:vI F H (.af l) v H'):∃ r',aU F r F r' /\ Rel T F r' σ H' env (bx++[.af l]) /\ bG F r' (.b bx.length) v:=by
 let#[p,vs,rfl,hp,rfl,h]:=h;refine#[r++[p],#[Sub.refl F,wF r [p]],R.Ig hp #[R.qS hp,vs,fv,h],p,rfl,?_];rw[<-R.len,dI (au _),sx];rfl
def bX (b:Bool):Option Res->List Bx->O W
 |none,_=>.bad
 | some q,bx=>match b,q with
   |true,.lst l=>.val (.b bx.length) (bx++[.lst l])
   |true,.af l=>.val (.b bx.length) (bx++[.af l])
   |_,_=>.val (.d q.toD) bx
theorem gX {Q:VK}{b:Bool}{q:Res}(R:Rel T F r σ H env bx) (h:End T Z bG F r σ env Q (bX b (some q) bx)) (k:vI F H q v H'):Q v H':=by
 have one:End T Z bG F r σ env Q (.val (.d q.toD) bx)->Q v H':=λh=>by
  let#[F',g,R',d]:=R.res k;exact h F' r v H' g R' d
 cases b with
 |false=>exact one h
 |true=>
   cases q with
   |old d=>exact one h
   |tup l=>exact one h
   |lst l=>
     let#[r',g,R',d]:=R.resB k;exact h F r' v H' g R' d
   |af l=>
     let#[r',g,R',d]:=R.aeK k;exact h F r' v H' g R' d
def cB (q:R2) (g:D->D->Option Res):zy:=∀ (F H:Hp) (x y:D) (v w:V) (Q:VK) (s:Res),Sub F H->qy F H x v->qy F H y w->g x y=some s->(∀ u H',vI F H s u H'->Q u H')->q v w H Q
def k9 (q:List V->Hp->VK->zy) (g:List D->Option Res):zy:=∀ (F H:Hp) (xs:List D) (vs:List V) (Q:VK) (s:Res),Sub F H->VW F H xs vs->g xs=some s->(∀ u H',vI F H s u H'->Q u H')->q vs H Q
def d2 (b:Bool) (g:D->D->Option Res) (ma mb:DE W):DE W:=λenv bx=>fC (ma env bx) λx bx1=>fC (mb env bx1) λy ah=>bX b ((bT ah x).bind λp=>(bT ah y).bind λq=>g p q) ah
theorem Fv {q:R2}{g:D->D->Option Res}{b:Bool}(hg:cB q g) (σ:St) (H:Hp) (Q:VK) (h:tD T Z (d2 b g ma mb) σ H Q):yC q (tD T Z ma) (tD T Z mb) σ H Q:=by
 let#[F,r,env,bx,R,h]:=h;refine#[F,r,env,bx,R,End.bind h λx bx1 F1 r1 v H1 g1 R1 d1 h1=>?_];refine#[F1,r1,env,bx1,R1,End.bind h1 λy ah F2 r2 w H2 g2 R2 VX h2=>?_];have aeL:=g2.den d1;cases e1:bT ah x with
 |none=>rw[e1]at h2;exact h2.elim
 |some p=>
   cases e2:bT ah y with
   |none=>rw[e1,e2]at h2;exact h2.elim
   |some z=>
     cases e3:g p z with
     |none=>rw[e1,e2]at h2;erw[cj,e3]at h2;exact h2.elim
     |some s=>
       rw[e1,e2]at h2;erw[cj,e3]at h2;exact hg F2 H2 p z v w Q s R2.fh (R2.qT aeL e1) (R2.qT VX e2) e3 λu H' k=>gX R2 h2 k
def dN (b:Bool) (g:List D->Option Res) (k:DE (List W)):DE W:=λenv bx=>fC (k env bx) λws bx1=>bX b ((nH bx1 ws).bind g) bx1
theorem PQ {g:List D->Option Res}{b:Bool}{k:DE (List W)}(hg:k9 q g) (σ:St) (H:Hp) (Q:VK) (h:tD T Z (dN b g k) σ H Q):Vl q (Ie T Z k) σ H Q:=by
 let#[F,r,env,bx,R,h]:=h;refine#[F,r,env,bx,R,End.bind h λws bx1 F1 r1 vs H1 g1 R1 d1 h1=>?_];cases e1:nH bx1 ws with
 |none=>rw[e1]at h1;exact h1.elim
 |some ds=>
   rw[e1]at h1;cases e2:g ds with
   |none=>erw[cj,e2]at h1;exact h1.elim
   |some s=>
     erw[cj,e2]at h1;exact hg F1 H1 ds vs Q s R1.fh (R1.aad d1 e1) e2 λu H' k=>gX R1 h1 k
end L2.DL
variable {g:L2.DL.D -> L2.DL.D -> Option L2.DL.Res}
namespace L2.DL
section
variable {a b c:Expr} {mc:DE W} {p:Pos}
theorem RS {op:Operator}{q:R2}(bo:Bool) (ho:ba X (binaryOp op) q) (hg:cB q g) (ha:PD X T Z a ma) (hb:PD X T Z b mb):PD X T Z (.BinOp a op b pos) (d2 bo g ma mb):=
 PE.imp (Cl ho ha hb) (Fv hg)
theorem RT {q:R2}(ho:ba X (compareOp op) q) (hg:cB q g) (ha:PD X T Z a ma) (hb:PD X T Z b mb) (hm:behindInMarks op b=zc):PD X T Z (.Compare a [op] [b] pos) (d2 zc g ma mb):=
 PE.imp (Nb ho ha hb hm) (Fv hg)
theorem TW {q:R2}(ho:rR X q) (hg:cB q g) (ha:PD X T Z a ma) (hb:PD X T Z b mb) (hs:HR b):PD X T Z (.Subscript a b pos) (d2 zc g ma mb):=
 PE.imp (JM ho ha hb hs) (Fv hg)
def dB (m:DE W):DE Bool:=λenv bx=>fC zL λw bx1=>match w with|.d (.bl k)=>.val k bx1|_=>.bad
theorem Nq {Q:Bool->Hp->zy}(h:rV T Z (dB ma) σ H Q):tB (tD T Z ma) σ H Q:=by
 let#[F,r,env,bx,R,h]:=h;refine#[F,r,env,bx,R,End.bind h λw bx1 F1 r1 v H1 g1 R1 d1 h1=>?_];split at h1
 .ext k;exact#[k,d1,h1 F1 r1 k H1 zat R1 zw]
 .exact h1.elim
theorem Nr (h:PD X T Z e ma) (he:∀ whole,isTrue e X.env whole=(do let v <-whole;standAt e.pos;holding [v] (truthy v)):=by intro _;rfl):hV X T Z e (dB ma):=
 PT.imp (Jx h he) λσ H Q h=>Nq h
theorem Nt {q:R2}(ho:ba X (compareOp op) q) (hg:cB q g) (ha:PD X T Z a ma) (hb:PD X T Z b mb) (hm:behindInMarks op b=zc):hV X T Z (.Compare a [op] [b] pos) (dB (d2 zc g ma mb)):=by
 refine PT.imp (Fp ho ha hb hm) λσ H Q h=>?_;let#[F,r,env,bx,R,h]:=h;refine Fv (T:=T) (Z:=Z) (b:=zc) hg σ H _ #[F,r,env,bx,R,End.bind h λw bx1 F1 r1 v H1 g1 R1 d1 h1=>?_];split at h1
 .ext k;exact#[k,d1,h1 F1 r1 k H1 zat R1 zw]
 .exact h1.elim
theorem aw.isEmpty {F:Hp}{l:List D}{vs:List V}(h:aw F l vs):l.isEmpty=vs.isEmpty:=by
 have:=h.length;cases l<;>cases vs<;>simp_all
theorem aC.length {F:Hp}:∀ {l:List (Key×D)}{vs:List (Key×V)},aC F l vs->l.length=vs.length
 | [],_,h=>by
   have e:_=[]:=h;rw[e];rfl
 | (k,d)::l,_,h=>by
   let#[v,r,e,_,h2]:=h;rw[e,bg,bg,h2.length]
def d3 (g g':D->D->Option Res) (ma mb mc:DE W):DE W:=λenv bx=>fC (ma env bx) λx bx1=>fC (mb env bx1) λy ah=>
 fC (bX zc ((bT ah x).bind λp=>(bT ah y).bind λq=>g p q) ah) λz bH=>match z with
  |.d (.bl true)=>fC (mc env bH) λw cy=>bX zc ((bT cy y).bind λp=>(bT cy w).bind λq=>g' p q) cy
  |.d (.bl false)=>.val (.d (.bl zc)) bH
  |_=>.bad
theorem aae {q:R2}(hg:cB q g) {x y:W}{w:V}{Q:VK}(R:Rel T F r σ H env bx) (dx:bG F r x v) (dy:bG F r y w)
 (h:End T Z bG F r σ env Q (bX zc ((bT bx x).bind λp=>(bT bx y).bind λq=>g p q) bx)):q v w H Q:=by
 cases e1:bT bx x with
 |none=>rw[e1]at h;exact h.elim
 |some p=>
   cases e2:bT bx y with
   |none=>rw[e1,e2]at h;exact h.elim
   |some z=>
     cases e3:g p z with
     |none=>rw[e1,e2]at h;erw[cj,e3]at h;exact h.elim
     |some s=>
       rw[e1,e2]at h;erw[cj,e3]at h;exact hg F H p z v w Q s R.fh (R.qT dx e1) (R.qT dy e2) e3 λu H' k=>gX R h k
theorem Nu {q q':R2}{g':D->D->Option Res}(hg:cB q g) (Ih:cB q' g') {Q:VK}(h:tD T Z (d3 g g' ma mb mc) σ H Q):ZC q q' (tD T Z ma) (tD T Z mb) (tD T Z mc) σ H Q:=by
 let#[F,r,env,bx,R,h]:=h;refine#[F,r,env,bx,R,End.bind h λx bx1 F1 r1 v H1 g1 R1 d1 h1=>?_];refine#[F1,r1,env,bx1,R1,End.bind h1 λy ah F2 r2 w H2 g2 R2 d2 h2=>?_];refine aae (T:=T) (Z:=Z) (bx:=ah) hg R2 (g2.den d1) d2 (End.bind h2 λz bH F3 r3 u H3 g3 R3 d3 h3=>?_);split at h3
 .refine#[zu,d3,?_];rw[if_pos rfl];refine#[F3,r3,env,bH,R3,End.bind h3 λt cy F4 r4 s H4 g4 R4 d4 h4=>?_];exact aae (T:=T) (Z:=Z) Ih R4 (g4.den (g3.den d2)) d4 h4
 .refine#[zc,d3,?_];rw[if_neg zf];exact h3 F3 r3 _ H3 (.refl F3 r3) R3 zw
 .exact h3.elim
theorem J3 {nE:CmpOp}{q q':R2}{g':D->D->Option Res}(ho:ba X (compareOp op) q) (qM:ba X (compareOp nE) q') (hg:cB q g) (Ih:cB q' g') (ha:PD X T Z a ma) (hb:PD X T Z b mb) (hc:PD X T Z c mc)
 (hm:lastMarks [op,nE] [b,c]=zc:=by with_unfolding_all rfl):PD X T Z (.Compare a [op,nE] [b,c] pos) (d3 g g' ma mb mc):=
 PE.imp (JG ho qM ha hb hc hm) λσ H Q h=>Nu hg Ih h
def kN (m k:DE Bool):DE Bool:=λenv bx=>fC zL λb bx1=>match b with|true=>k env bx1|false=>.val zc bx1
def kO (m k:DE Bool):DE Bool:=λenv bx=>fC zL λb bx1=>match b with|true=>.val zu bx1|false=>k env bx1
def eN (m:DE Bool):DE Bool:=λenv bx=>fC zL λb bx1=>.val (!b) bx1
def rW (X:Cx) (T:Fr) (Z:Xs) (e:Expr) (m:DE Bool):zy:=PW X e (rV T Z m)
variable {ta tb:DE Bool} {rest:List Expr}
theorem J4 (h:hV X T Z a ta):rW X T Z (.BoolOp .And [a] pos) ta:=M8 h
theorem Nv (h:hV X T Z a ta):rW X T Z (.BoolOp .Or [a] pos) ta:=Jy h
theorem Nw (ha:hV X T Z a ta) (hb:rW X T Z (.BoolOp .And (b::rest) pos) tb):rW X T Z (.BoolOp .And (a::b::rest) pos) (kN ta tb):=by
 refine PW.imp (Rm ha hb) λσ H Q=>x4 λF r env bx R h=>?_;refine#[F,r,env,bx,R,End.bind h λk bx1 F1 r1 v H1 g1 R1 d1 h1=>?_];subst d1;cases k with
 |true=>rw[if_pos rfl];exact#[F1,r1,env,bx1,R1,h1]
 |false=>rw[if_neg zf];exact h1 F1 r1 _ H1 zat R1 zw
theorem RU (ha:hV X T Z a ta) (hb:rW X T Z (.BoolOp .Or (b::rest) pos) tb):rW X T Z (.BoolOp .Or (a::b::rest) pos) (kO ta tb):=by
 refine PW.imp (PK ha hb) λσ H Q=>x4 λF r env bx R h=>?_;refine#[F,r,env,bx,R,End.bind h λk bx1 F1 r1 v H1 g1 R1 d1 h1=>?_];subst d1;cases k with
 |false=>rw[if_neg zf];exact#[F1,r1,env,bx1,R1,h1]
 |true=>rw[if_pos rfl];exact h1 F1 r1 _ H1 zat R1 zw
theorem PR (h:rW X T Z e ta):hV X T Z e ta:=h.pt
theorem Nx (h:hV X T Z a ta):hV X T Z (.UnaryOp .Not a pos) (eN ta):=by
 refine PT.imp (Jz h) λσ H Q=>x4 λF r env bx R h=>?_;refine#[F,r,env,bx,R,End.bind h λk bx1 F1 r1 v H1 g1 R1 d1 h1=>?_];subst d1;exact h1 F1 r1 _ H1 zat R1 zw
def ia (m k:DE W):DE W:=λenv bx=>fC zL λw bx1=>match w with|.d (.bl true)=>k env bx1|.d (.bl false)=>.val (.d (.bl zc)) bx1|_=>.bad
def Ii (m:DE W):DE W:=λenv bx=>fC zL λw bx1=>match w with|.d (.bl k)=>.val (.d (.bl (!k))) bx1|_=>.bad
theorem RV {op}(h:PD X T Z a ma):PD X T Z (.BoolOp op [a] pos) ma:=Rn h
theorem RW (ha:PD X T Z a ma) (hb:PD X T Z (.BoolOp .And (b::rest) pos) mb):PD X T Z (.BoolOp .And (a::b::rest) pos) (ia ma mb):=by
 refine PE.imp (Ro ha hb) λσ H Q=>x4 λF r env bx R h=>?_;refine#[F,r,env,bx,R,End.bind h λw bx1 F1 r1 v H1 g1 R1 d1 h1=>?_];split at h1
 .refine#[zu,d1,?_];rw[if_pos rfl];exact#[F1,r1,env,bx1,R1,h1]
 .refine#[zc,d1,?_];rw[if_neg zf];exact h1 F1 r1 _ H1 zat R1 zw
 .exact h1.elim
theorem RX (ha:PD X T Z a ma):PD X T Z (.UnaryOp .Not a pos) (Ii ma):=by
 refine PE.imp (Rp ha) λσ H Q=>x4 λF r env bx R h=>?_;refine#[F,r,env,bx,R,End.bind h λw bx1 F1 r1 v H1 g1 R1 d1 h1=>?_];split at h1
 .ext k;exact#[k,d1,h1 F1 r1 _ H1 zat R1 zw]
 .exact h1.elim
def uD (t:DE Bool) (m k:DE W):DE W:=λenv bx=>fC (t env bx) λb bx1=>match b with|true=>m env bx1|false=>k env bx1
theorem RY (hc:hV X T Z c ta) (ha:PD X T Z a ma) (hb:PD X T Z b mb):PD X T Z (.IfExp c a b pos) (uD ta ma mb):=by
 refine PE.imp (JA hc ha hb) λσ H Q=>x4 λF r env bx R h=>?_;refine#[F,r,env,bx,R,End.bind h λk bx1 F1 r1 v H1 g1 R1 d1 h1=>?_];subst d1;cases k with
 |true=>rw[if_pos rfl];exact#[F1,r1,env,bx1,R1,h1]
 |false=>rw[if_neg zf];exact#[F1,r1,env,bx1,R1,h1]
noncomputable def pf:List W->Option (List D)
 |[]=>some []
 |.d x::l=>(pf l).map λt=>x::t
 |_=>zp
theorem kM.ds {F:Hp}{r:List Addr}:∀ {ws:List W}{vs:List V}{ds:List D},kM F r ws vs->pf ws=some ds->aw F ds vs
 |[],_,_,h,e=>by cases e;exact h
 | .d x::l,_,ds,h,e=>by
   let#[v,t,q,h1,h2]:=h;unfold pf at e;cases e2:pf l with
   |none=>rw[e2]at e;cases e
   |some t'=>
     rw[e2]at e;cases e;exact#[v,t,q,h1,h2.ds e2]
 |.b _::l,_,ds,h,e=>by cases e
 |.s _::l,_,ds,h,e=>by cases e
 |.x _::l,_,ds,h,e=>by cases e
 |.t _::l,_,ds,h,e=>by cases e
 |.m _::l,_,ds,h,e=>by cases e
def fP (k:DE (List W)):DE W:=λenv bx=>fC (k env bx) λws bx1=>bX zc ((pf ws).bind λl=>if l.length<=sizeLine then some (.tup l) else zp) bx1
def gx (bo:Bool) (k:DE (List W)):DE W:=λenv bx=>fC (k env bx) λws bx1=>bX bo ((pf ws).bind λl=>if l.length<=sizeLine then some (.lst l) else zp) bx1
theorem RZ {x1}{k:DE (List W)}(h:dQ X T Z es k):PD X T Z (.Tuple es x1 pos) (fP k):=by
 refine PE.imp (JH h) λσ H Q=>x4 λF r env bx R h=>?_;refine#[F,r,env,bx,R,End.bind h λws bx1 F1 r1 vs H1 g1 R1 d1 h1=>?_];cases e:pf ws with
 |none=>rw[e]at h1;exact h1.elim
 |some l=>
   rw[e]at h1;erw[cj]at h1;split at h1
   .have dl:=d1.ds e;refine#[by rw[<-dl.length];assumption,λp hp=>gX R1 h1 (.inr #[p,vs,rfl,hp,rfl,dl])]
   .exact h1.elim
theorem R0 {k:DE (List W)}(bo:Bool) (h:dQ X T Z es k):PD X T Z (.List es pos) (gx bo k):=by
 refine PE.imp (jR h) λσ H Q=>x4 λF r env bx R h=>?_;refine#[F,r,env,bx,R,End.bind h λws bx1 F1 r1 vs H1 g1 R1 d1 h1=>?_];cases e:pf ws with
 |none=>rw[e]at h1;exact h1.elim
 |some l=>
   rw[e]at h1;erw[cj]at h1;split at h1
   .have dl:=d1.ds e;refine#[by rw[<-dl.length];assumption,λp hp=>gX R1 h1 #[p,vs,rfl,hp,rfl,dl]]
   .exact h1.elim
theorem J5 {id:String}{g:List D->Option Res}{k:DE (List W)}(bo:Bool) (hc:dY X (.builtin id) q) (hk:k9 q g) (hg:Gl X x) (hm:X.mg x=zp) (hv:bootBuiltins x=some (.builtin id)) (ha:dQ X T Z (e::es) k)
 (hn:x ≠ "__name__":=by decide) (cY:(x==("__debug__":Str))=zc:=by decide)
 (he:starEach (e::es) X.env=zaB::starEach es X.env:=by rfl) (kA:(backTo pos (starEach es X.env)).any (·.1)=zc:=by rfl):PD X T Z zah (dN bo g k):=
 PE.imp (fU hc hg hm hv ha hn cY he kA) (PQ hk)
theorem GG {id:String}{g:List D->Option Res}{k:DE (List W)}(bo:Bool) (hc:dY X (.type id) q) (hk:k9 q g) (hg:Gl X x) (hm:X.mg x=zp) (hv:bootBuiltins x=some (.type id)) (ha:dQ X T Z (e::es) k)
 (hn:x ≠ "__name__":=by decide) (cY:(x==("__debug__":Str))=zc:=by decide)
 (he:starEach (e::es) X.env=zaB::starEach es X.env:=by rfl) (kA:(backTo pos (starEach es X.env)).any (·.1)=zc:=by rfl):PD X T Z zah (dN bo g k):=
 PE.imp (GB hc hg hm hv ha hn cY he kA) (PQ hk)
def rX (cl:Nat->Addr) (n:Nat) (fn:List W->List Bx->O W):Sp:=λvs H Q E=>∃ F r ws bx,Rel #[H,r.length,F] F r [] H [] bx /\ kM F r ws vs /\ ws.length=n /\ End #[H,r.length,F] #[E,cl] bG F r [] [] Q (fn ws bx)
theorem kM.length {F:Hp}{r:List Addr}:∀ {ws:List W}{vs:List V},kM F r ws vs->ws.length=vs.length
 | [],_,h=>by
   have e:_=[]:=h;rw[e];rfl
 | d::l,_,h=>by
   let#[v,t,e,_,h2]:=h;rw[e,bg,bg,h2.length]
theorem Rel.enter (R:Rel T F r σ H env bx):Rel #[H,r.length,F] F r [] H [] bx:=
 #[R.fh,λi w e=>by simp at e,R.len,R.nd,R.box,λa u e _=>e,λn a hn e=>(by rw[sD hn]at e;cases e),au _,au _,λa u e=>.inr (.inl e)]
theorem Rel.after {r':List Addr}{bx':List Bx}(R:Rel T F r σ H env bx) (g:aU F r F' r') (R':Rel #[H,r.length,F] F' r' [] H' [] bx'):Rel T F' r' σ H' env bx':=by
 have pre:∀ (n:Nat) (a:Addr),r[n]?=some a->r'[n]?=some a:=λn a e=>by
  let#[t,rfl]:=g.p;rw[dJ (List.getElem?_eq_some_iff.mp e).1];exact e
 have sub:∀ a,a∈r->a∈r':=λa h=>g.p.subset h;refine#[R'.fh,λi w e=>?_,R'.len,R'.nd,R'.box,λa u e hn=>?_,λn a hn e=>?_,bU R.n0 g.p.length_le,R.sl,λa u e=>?_]
 .let#[v,e1,e2]:=R.slot i w e;exact#[v,e1,g.den e2]
 .exact R'.keep a u (R.keep a u e λz=>hn (sub a z)) hn
 .by_cases hl:n<r.length
  .have q:=pre n _ (pM hl);rw[e]at q;cases q;exact R.new n _ hn (pM hl)
  .have q:H a=zp:=R'.new n a (u9 hl) e;cases z:T.H₀ a with
   |none=>rfl
   |some u=>
     have hr:a∉r:=λha=>by
      let#[m,em]:=List.mem_iff_getElem?.mp ha;have:=jV R'.nd (pre m a em) e;exact hl (by rw[<-this];exact(List.getElem?_eq_some_iff.mp em).1)
     rw[R.keep a u z hr]at q;cases q
 .rcases R'.fs a u e with z|z|z|z
  .exact .inl z
  .exact(R.fs a u z).imp id (Or.imp id (Or.imp id (sub a)))
  .by_cases ha:a∈r
   .exact .inr (.inr (.inr (sub a ha)))
   .refine .inr (.inr (.inl ?_));cases y:T.H₀ a with
    |none=>rfl
    |some u=>
      have z':H a=zp:=z;rw[R.keep a u y ha]at z';cases z'
  .exact .inr (.inr (.inr z))
def fu (fn:List W->List Bx->O W) (n:Nat) (k:DE (List W)):DE W:=λenv bx=>fC (k env bx) λws bx1=>if ws.length=n then fn ws bx1 else .bad
theorem R6 {k:DE (List W)}{Q:VK}(h:tD T Z (fu fn n k) σ H Q):Vi (rX Z.cl n fn) [] Z.E (Ie T Z k) σ H Q:=by
 let#[F,r,env,bx,R,h]:=h;refine#[F,r,env,bx,R,End.bind h λws bx1 F1 r1 vs H1 g1 R1 d1 h1=>?_];split at h1
 .ext hl;refine#[F1,r1,ws,bx1,R1.enter,by rw[sC];exact d1,hl,?_];cases e:fn ws bx1 with
  |val w bx'=>rw[e]at h1;exact λF' r' v H' g R' d=>h1 F' r' v H' g (R1.after g R') d
  |exc c bx'=>rw[e]at h1;exact λF' r' H' g R'=>h1 F' r' H' g (R1.after g R').drop
  |bad=>rw[e]at h1;exact h1
 .exact h1.elim
theorem Ny {f:Addr}{ps:List Str}{k:Nat}{m:DE (List W)}(G:eZ X.prog X.w X.K X.mg X.base (hJ X.prog X.w) k f fd ps (rX Z.cl ps.length fn)) (hr:cx k X.A) (hg:Gl X x) (hm:X.mg x=some (.ref f))
 (hk:PySem.W.keepIn X.K (.ref f)=zu) (hb:Binds X.K fd ps []) (hx:Passes (hJ X.prog X.w) X Z.E) (ha:dQ X T Z (e::es) m) (cY:(x==("__debug__":Str))=zc:=by decide)
 (he:starEach (e::es) X.env=zaB::starEach es X.env:=by rfl) (kA:(backTo pos (starEach es X.env)).any (·.1)=zc:=by rfl):PD X T Z zah (fu fn ps.length m):=
 PE.imp (Nd G hr hg hm hk hb .nil hx ha cY he kA) λσ H Q h=>R6 h
end
inductive OS where
 |nx (env:aN) (bx:List Bx)|rt (w:W) (bx:List Bx)|bk (env:aN) (bx:List Bx)|ct (env:aN) (bx:List Bx)|exc (c:Nat) (bx:List Bx)|bad
abbrev aj:=aN->List Bx->OS
def cJ (T:Fr) (Z:Xs) (F:Hp) (r:List Addr) (D:Ends):OS->zy
 |.nx ax bx'=>∀ F' r' σ' H',aU F r F' r'->Rel T F' r' σ' H' ax bx'->D.nx σ' H'
 |.rt w bx'=>∀ F' r' v H',aU F r F' r'->Rel T F' r' [] H' [] bx'->bG F' r' w v->D.rt v H'
 |.bk ax bx'=>∀ F' r' σ' H',aU F r F' r'->Rel T F' r' σ' H' ax bx'->D.bk σ' H'
 |.ct ax bx'=>∀ F' r' σ' H',aU F r F' r'->Rel T F' r' σ' H' ax bx'->D.ct σ' H'
 |.exc c bx'=>∀ F' r' H',aU F r F' r'->Rel T F' r' [] H' [] bx'->Z.E (.ref (Z.cl c)) zp H'
 |.bad=>False
theorem cJ.weak {r':List Addr}{D:Ends}(g:aU F r F' r'):∀ {o:OS},cJ T Z F r D o->cJ T Z F' r' D o
 |.nx _ _,h=>λF2 r2 s2 H2 g2=>h F2 r2 s2 H2 (g.trans g2)
 |.rt _ _,h=>λF2 r2 s2 H2 g2=>h F2 r2 s2 H2 (g.trans g2)
 |.bk _ _,h=>λF2 r2 s2 H2 g2=>h F2 r2 s2 H2 (g.trans g2)
 |.ct _ _,h=>λF2 r2 s2 H2 g2=>h F2 r2 s2 H2 (g.trans g2)
 |.exc _ _,h=>λF2 r2 H2 g2=>h F2 r2 H2 (g.trans g2)
 |.bad,h=>h
noncomputable def bp (m:O α) (k:α->List Bx->OS):OS:=
 match m with
 |.val a bx=>k a bx
 |.exc c bx=>.exc c bx
 |.bad=>.bad
theorem End.bp {β:Type}{R1:Hp->List Addr->α->β->zy}{D:Ends}{Q1:β->Hp->zy}
 {m:O α}{k:α->List Bx->OS}(h:cJ T Z F r D (DL.bp m k))
 (c:∀ d bx1 F1 r1 v H1,aU F r F1 r1->Rel T F1 r1 σ H1 env bx1->R1 F1 r1 d v->cJ T Z F1 r1 D (k d bx1)->Q1 v H1):End T Z R1 F r σ env Q1 m:=by
 cases m with
 |val d bx=>exact λF' r' v H' g R q=>c d bx F' r' v H' g R q (cJ.weak g h)
 |exc n bx=>exact h
 |bad=>exact h
def tS (T:Fr) (Z:Xs) (m:aj):TS:=λD σ H=>∃ F r env bx,Rel T F r σ H env bx /\ cJ T Z F r D zL
def cL (X:Cx) (T:Fr) (Z:Xs) (s:Stmt) (m:aj):zy:=PS X s (tS T Z m)
def nI (X:Cx) (T:Fr) (Z:Xs) (s:List Stmt) (m:aj):zy:=dt X s (tS T Z m)
section
variable {a b c:Expr} {mc:DE W} {p:Pos} {rest:List Stmt} {m k:aj} {tc:DE Bool}
noncomputable def aS:aj:=λenv bx=>.nx env bx
noncomputable def fB (m k:aj):aj:=λenv bx=>match m env bx with|.nx aK bx1=>k aK bx1|o=>o
theorem Nz:nI X T Z [] aS:=dt.imp Fi λD σ H=>x4 λF r env bx R h=>h F r σ H (.refl F r) R
theorem J6 (h1:cL X T Z st m) (h2:nI X T Z rest k):nI X T Z (st::rest) (fB m k):=by
 refine dt.imp (iE h1 h2) λD σ H=>x4 λF r env bx R h=>#[F,r,env,bx,R,?_];unfold fB at h;cases e:m env bx with
 |nx aK bx1=>rw[e]at h;exact λF1 r1 σ1 H1 g R1=>#[F1,r1,aK,bx1,R1,cJ.weak g h]
 |rt w bx1=>rw[e]at h;exact h
 |bk aK bx1=>rw[e]at h;exact h
 |ct aK bx1=>rw[e]at h;exact h
 |exc c bx1=>rw[e]at h;exact h
 |bad=>rw[e]at h;exact h
theorem NA (h1:cL X T Z st m):nI X T Z [st] m:=oS h1
noncomputable def Ij:aj:=λenv bx=>.bk env bx
noncomputable def Ik:aj:=λenv bx=>.ct env bx
theorem GH:cL X T Z (.Break pos) Ij:=PS.imp JB λD σ H=>x4 λF r env bx R h=>h F r σ H (.refl F r) R
theorem J7:cL X T Z (.Continue pos) Ik:=PS.imp Cj λD σ H=>x4 λF r env bx R h=>h F r σ H (.refl F r) R
def gT (m:DE W):aj:=λenv bx=>bp zL λ_ bx1=>.nx env bx1
theorem J8 (h:PD X T Z e ma) (hs:swapsWith e zp pos.line X.env=pure zc:=by rfl):cL X T Z (.Expr e pos) (gT ma):=by
 refine PS.imp (Fj h hs) λD σ H=>x4 λF r env bx R h=>?_;exact#[F,r,env,bx,R,End.bp h λw bx1 F1 r1 v H1 g1 R1 d1 h1=>h1 F1 r1 σ H1 zat R1]
def fN (m:DE W):aj:=λenv bx=>bp zL λw bx1=>.rt w bx1
theorem NB (h:PD X T Z e ma):cL X T Z (.Return (some e) pos) (fN ma):=by
 refine PS.imp (Bz h) λD σ H=>x4 λF r env bx R h=>?_;exact#[F,r,env,bx,R,End.bp h λw bx1 F1 r1 v H1 g1 R1 d1 h1=>h1 F1 r1 v H1 zat R1.drop d1]
def aF (t:DE Bool) (m k:aj):aj:=λenv bx=>bp (t env bx) λb bx1=>match b with|true=>m env bx1|false=>k env bx1
theorem R7 {sa sb:List Stmt}(hc:hV X T Z c tc) (ha:nI X T Z sa m) (hb:nI X T Z sb k):cL X T Z (.If c sa sb pos) (aF tc m k):=by
 refine PS.imp (PL hc ha hb) λD σ H=>x4 λF r env bx R h=>?_;refine#[F,r,env,bx,R,End.bp h λw bx1 F1 r1 v H1 g1 R1 d1 h1=>?_];subst d1;cases w with
 |true=>rw[if_pos rfl];exact#[F1,r1,env,bx1,R1,h1]
 |false=>rw[if_neg zf];exact#[F1,r1,env,bx1,R1,h1]
abbrev DG:=W->aN->List Bx->Option (aN×List Bx)
abbrev ph:=List W->aN->List Bx->Option (aN×List Bx)
noncomputable def aaf (T:Fr) (F:Hp) (r:List Addr) (Q:St->Hp->zy):Option (aN×List Bx)->zy
 |none=>False
 |some (ax,bx')=>∀ F' r' σ' H',aU F r F' r'->Rel T F' r' σ' H' ax bx'->Q σ' H'
def tG (T:Fr) (g:DG):TG:=λv σ H Q=>∃ F r env bx w,Rel T F r σ H env bx /\ bG F r w v /\ aaf T F r Q (g w env bx)
def aeM (T:Fr) (g:ph):sU:=λvs σ H Q=>∃ F r env bx ws,Rel T F r σ H env bx /\ kM F r ws vs /\ aaf T F r Q (g ws env bx)
def kP (X:Cx) (T:Fr) (tg:Expr) (g:DG):zy:=PG X tg (tG T g)
def tm (X:Cx) (T:Fr) (tg:List Expr) (g:ph):zy:=rQ X tg (aeM T g)
theorem PG.imp {t t':TG}(h:PG X tg t) (f:∀ v σ H Q,t' v σ H Q->t v σ H Q):PG X tg t':=λpins s σ H v u Q I r q=>h pins s σ H v u Q I r (f v σ H Q q)
theorem rQ.imp {tg:List Expr}{t t':sU}(h:rQ X tg t) (f:∀ v σ H Q,t' v σ H Q->t v σ H Q):rQ X tg t':=λpins s σ H v u Q I r q=>h pins s σ H v u Q I r (f v σ H Q q)
noncomputable def fe (i:Nat):DG:=λw env bx=>some (env.set i (some w),bx)
theorem Rel.set {F H:Hp}{r:List Addr}{σ:St}{env:aN}{bx:List Bx}(R:Rel T F r σ H env bx) {w:W}{v:V}(d:bG F r w v) (i:Nat):Rel T F r (σ.set i (some v)) H (env.set i (some w)) bx:=by
 refine#[R.fh,λj w' e=>?_,R.len,R.nd,R.box,R.keep,R.new,R.n0,by rw[nV,nV];exact R.sl,R.fs];by_cases hj:j=i
 .subst hj;have hl:j<env.length:=by
   have:=(List.getElem?_eq_some_iff.mp e).1;rw[nV]at this;exact this
  rw[nT hl]at e;cases e;exact#[v,nT (dU hl R.sl),d]
 .rw[rH (Ne.symm hj)]at e;let#[u,e1,e2]:=R.slot j w' e;exact#[u,by rw[rH (Ne.symm hj)];exact e1,e2]
theorem J9 (i:Nat) (hN:X.N.Nodup) (hi:X.N[i]?=some x:=by rfl) (hx:Loc X.env.scope x:=by first|exact Or.inl zw|exact Or.inr zw) (hf:X.fn x=zu \/ X.env.scope.names.lookup x=some .local:=by first|exact .inl zw|exact .inr zw|assumption):kP X T (.Name x pos) (fe i):=
 PG.imp (BA hN hi hx hf) λv σ H Q=>x5 λF r env bx w R d h=>h F r _ H (.refl F r) (R.set d i)
noncomputable def gz:ph:=λws env bx=>match ws with|[]=>some (env,bx)|_=>zp
noncomputable def fE (g:DG) (k:ph):ph:=λws env bx=>match ws with|w::l=>(g w env bx).bind λ(aK,bx1)=>k l aK bx1|_=>zp
theorem La:tm X T [] gz:=rQ.imp Fk λv σ H Q=>x5 λF r env bx w R d h=>by
 cases w with
 |nil=>exact#[d,h F r σ H (.refl F r) R]
 |cons _ _=>exact h.elim
theorem GI {g:DG}{k:ph}(h1:kP X T e g) (h2:tm X T es k) (hs:(assignEach (e::es) X.env).map (·.2)=assign e X.env::(assignEach es X.env).map (·.2):=by rfl):tm X T (e::es) (fE g k):=by
 refine rQ.imp (o9 h1 h2 hs) λv σ H Q=>x5 λF r env bx ws R d h=>?_;cases ws with
 |nil=>exact h.elim
 |cons w l=>
   let#[u,t,rfl,d1,d2]:=d;refine#[u,t,rfl,F,r,env,bx,w,R,d1,?_];unfold fE at h;cases eg:g w env bx with
   |none=>erw[eg]at h;exact h.elim
   |some o=>
     let#[aK,bx1]:=o;erw[eg,cj]at h;intro F1 r1 σ1 H1 g1 R1;refine#[F1,r1,aK,bx1,l,R1,d2.mono g1,?_];cases ek:k l aK bx1 with
     |none=>erw[ek]at h;exact h.elim
     |some o2=>
       erw[ek]at h;exact λF2 r2 σ2 H2 g2 R2=>h F2 r2 σ2 H2 (g1.trans g2) R2
theorem aw.ws {F:Hp}{r:List Addr}:∀ {l:List D}{vs:List V},aw F l vs->kM F r (l.map W.d) vs
 |[],_,h=>h
 | d::l,_,h=>by
   let#[v,t,e,h1,h2]:=h;exact#[v,t,e,h1,h2.ws]
noncomputable def gn (n:Nat) (k:ph):DG:=λw env bx=>match w with|.d (.tup l)=>if l.length=n then k (l.map W.d) env bx else zp|_=>zp
theorem ND {k:ph}(hc:X.calm=zu) (h:tm X T es k) (hn:(assignEach es X.env).length=n:=by rfl) (qu:(assignEach es X.env).findIdx? (·.1)=zp:=by rfl):kP X T (.Tuple es i pos) (gn n k):=by
 refine PG.imp (JC hc h hn qu) λv σ H Q=>x5 λF r env bx w R d h=>?_;unfold gn at h;split at h
 .ext l;split at h
  .ext hl;let#[p,vs,rfl,h1,h2]:=d;exact#[p,vs,rfl,.of (R.fh _ _ h1),by rw[<-h2.length];exact hl,F,r,env,bx,_,R,h2.ws,h]
  .exact h.elim
 .exact h.elim
def fH (m:DE W) (g:DG):aj:=λenv bx=>bp zL λw bx1=>match g w env bx1 with|some (aK,ah)=>.nx aK ah|none=>.bad
theorem TX {g:DG}{D:Ends}(h:tS T Z (fH ma g) D σ H):HF (tD T Z ma) (tG T g) D σ H:=by
 let#[F,r,env,bx,R,h]:=h;refine#[F,r,env,bx,R,End.bp h λw bx1 F1 r1 v H1 g1 R1 d1 h1=>#[F1,r1,env,bx1,w,R1,d1,?_]];cases eg:g w env bx1 with
 |none=>erw[eg]at h1;exact h1.elim
 |some o=>erw[eg]at h1;exact h1
theorem Fw {g:DG}(he:PD X T Z e ma) (hg:kP X T tg g) (hs:swapsWithSole [tg] e pos.line X.env=pure zc:=by rfl) (hw:swappedStores [tg] e X.env=pure zp:=by rfl)
 (h1:(assignEach [tg] X.env).map (·.2)=[assign tg X.env]:=by rfl):cL X T Z (.Assign [tg] e pos) (fH ma g):=
 PS.imp (JD he hg hs hw h1) λD σ H h=>TX h
theorem NE (i:Nat) (he:PD X T Z e ma) (hN:X.N.Nodup) (hi:X.N[i]?=some x:=by rfl) (hx:Loc X.env.scope x:=by first|exact Or.inl zw|exact Or.inr zw) (hs:swapsWith e (some (.Name x pos')) pos.line X.env=pure zc:=by rfl) (hf:X.fn x=zu \/ X.env.scope.names.lookup x=some .local:=by first|exact .inl zw|exact .inr zw|assumption) :
 cL X T Z (.Assign [.Name x pos'] e pos) (fH ma (fe i)):=by
 refine PS.imp (mV hN hi hx he hs hf) λD σ H=>x4 λF r env bx R h=>?_;exact#[F,r,env,bx,R,End.bp h λw bx1 F1 r1 v H1 g1 R1 d1 h1=>h1 F1 r1 _ H1 zat (R1.set d1 i)]
def dR (i j:Nat) (m:DE (List W)):aj:=λenv bx=>bp zL λws bx1=>match ws with|[x,y]=>.nx ((env.set i (some x)).set j (some y)) bx1|_=>.bad
theorem TY {m:DE (List W)}{D:Ends}(h:tS T Z (dR i j m) D σ H):Zv i j (Ie T Z m) D σ H:=by
 let#[F,r,env,bx,R,h]:=h;refine#[F,r,env,bx,R,End.bp h λws bx1 F1 r1 vs H1 g1 R1 d1 h1=>?_];split at h1
 .let#[v,t,rfl,q1,u,t2,rfl,q2,q3]:=d1;cases (show t2=[] from q3);exact#[v,u,rfl,h1 F1 r1 _ H1 zat ((R1.set q1 i).set q2 j)]
 .exact h1.elim
def uE (F:Hp) (r:List Addr) (ds:List W) (J:It):zy:=
 ∀ (T:Fr) (i:Nat) (F1:Hp) (r1:List Addr) (σ1:St) (H1:Hp) (aK:aN) (bx1:List Bx),aU F r F1 r1->Rel T F1 r1 σ1 H1 aK bx1 ->
  (ds.length=i->J.stop i H1) /\ ∀ w,ds[i]?=some w->J.go i H1 /\ ∀ x H2,J.yy i H1 x H2->∃ F2,aU F1 r1 F2 r1 /\ Rel T F2 r1 σ1 H2 aK bx1 /\ bG F2 r1 w x
def tI (T:Fr) (Z:Xs) (m:DE (List W)):TI:=λσ H R=>∃ F r env bx,Rel T F r σ H env bx /\ End T Z uE F r σ env R zL
def tF (X:Cx) (T:Fr) (Z:Xs) (tg iter:Expr) (m:DE (List W)):zy:=PI X tg iter (tI T Z m)
theorem PI.imp {t t':TI}(h:PI X tg iter t) (f:∀ σ H Q,t' σ H Q->t σ H Q):PI X tg iter t':=λpins s σ H R I q=>h pins s σ H R I (f σ H R q)
noncomputable def cC (g:DG) (body:aj):List W->aj
 |[],env,bx=>.nx env bx
 | w::l,env,bx=>match g w env bx with
   |none=>.bad
   | some (aK,bx1)=>match body aK bx1 with
     |.nx a7 ah=>cC g body l a7 ah
     |.ct a7 ah=>cC g body l a7 ah
     |.bk a7 ah=>.nx a7 ah
     |o=>o
def iG (m:DE (List W)) (g:DG) (body:aj):aj:=λenv bx=>bp zL λds bx1=>cC g body ds env bx1
theorem Lc {g:DG}{D:Ends}{H1 F1:Hp}{r1:List Addr}{ds:List W}{J:It}(R1:Rel T F1 r1 σ H1 env bx1) (y1:uE F1 r1 ds J) (h1:cJ T Z F1 r1 D (cC g m ds env bx1)) :
 ∃ W:Nat->Nat->St->Hp->zy,(∃ m,W 0 m σ H1) /\ ∀ i n σ H,W i n σ H->(J.stop i H /\ D.nx σ H) \/ (J.go i H /\ ∃ N:St->Hp->zy,(∀ σ' H',N σ' H'->∃ n',n'<n /\ W (i+1) n' σ' H') /\ ∀ x H',J.yy i H x H'->tG T g x σ H' λσ2 H2=>tS T Z m { D with nx:=N,ct:=N,bk:=D.nx } σ2 H2):=by
 refine#[λi n σ' H'=>∃ pre l F' r' ax bx',ds=pre++l /\ pre.length=i /\ n=l.length /\ aU F1 r1 F' r' /\ Rel T F' r' σ' H' ax bx' /\ cJ T Z F' r' D (cC g m l ax bx'),#[ds.length,[],ds,F1,r1,env,bx1,rfl,rfl,rfl,.refl F1 r1,R1,h1],?_];rintro i n σ' H' ⟨pre,l,F',r',ax,bx',pT,hi,hn,g',R',h'⟩;let#[ys,yg]:=y1 T i F' r' σ' H' ax bx' g' R';cases l with
 |nil=>exact .inl #[ys (by rw[pT,sC];lia),h' F' r' σ' H' (.refl F' r') R']
 |cons w l=>
   let#[go,yl]:=yg w (by rw[pT,dI zd,hi,sx];rfl);refine .inr #[go,λσ2 H2=>∃ F2 r2 a7 ah,aU F1 r1 F2 r2 /\ Rel T F2 r2 σ2 H2 a7 ah /\ cJ T Z F2 r2 D (cC g m l a7 ah),λσ2 H2 ⟨F2,r2,a7,ah,g2,R2,h2⟩=>#[l.length,by rw[hn];exact sy _,pre++[w],l,F2,r2,a7,ah,by rw[pT,rJ];rfl,by rw[dj,hi];rfl,rfl,g2,R2,h2],λx H2 hy=>?_];let#[F2,g2,R2,d2]:=yl x H2 hy;refine#[F2,r',ax,bx',w,R2,d2,?_];erw[cC]at h';cases eg:g w ax bx' with
   |none=>erw[eg]at h';exact h'.elim
   |some o=>
     let#[qz,bH]:=o;erw[eg]at h';intro F3 r3 σ3 H3 g3 R3;refine#[F3,r3,qz,bH,R3,?_];have gg:=(g'.trans g2).trans g3;cases em:m qz bH with
     |nx tH cy=>erw[em]at h';exact λF4 r4 σ4 H4 g4 R4=>#[F4,r4,tH,cy,gg.trans g4,R4,cJ.weak ((g2.trans g3).trans g4) h']
     |ct tH cy=>erw[em]at h';exact λF4 r4 σ4 H4 g4 R4=>#[F4,r4,tH,cy,gg.trans g4,R4,cJ.weak ((g2.trans g3).trans g4) h']
     |bk tH cy=>erw[em]at h';exact λF4 r4 σ4 H4 g4 R4=>h' F4 r4 σ4 H4 ((g2.trans g3).trans g4) R4
     |rt w cy=>erw[em]at h';exact cJ.weak (g2.trans g3) (o:=.rt w cy) h'
     |exc c cy=>erw[em]at h';exact cJ.weak (g2.trans g3) (o:=.exc c cy) h'
     |bad=>erw[em]at h';exact h'
theorem TZ {g:DG}{D:Ends}(h:tS T Z (iG mi g m) D σ H):HJ (tI T Z mi) (tG T g) (tS T Z m) D σ H:=by
 let#[F,r,env,bx,R,h]:=h;exact#[F,r,env,bx,R,End.bp h λds bx1 F1 r1 J H1 g1 R1 y1 h1=>Lc R1 y1 h1]
theorem NG {body:List Stmt}{g:DG}(hp:PassesOwn zh X.A X.env X.xe) (hc:X.calm=zu) (hi:tF X T Z tg iter mi) (hg:kP X T tg g) (hb:nI X T Z body m)
 (hs:∀ x,foldedSetIterable iter X.env x=pure x:=by intro _;rfl):cL X T Z (.For tg iter body [] pos) (iG mi g m):=
 PS.imp (Dt hp hc hi hg hb hs) λD σ H h=>TZ h
def bB (m:DE W):DE (List W):=λenv bx=>fC zL λw bx1=>match w with|.d (.lst l)=>.val (l.map W.d) bx1|.d (.tup l)=>.val (l.map W.d) bx1|_=>.bad
end
noncomputable def qU:OS->O W
 |.rt w bx=>.val w bx
 |.nx _ bx=>.val (.d .non) bx
 |.exc c bx=>.exc c bx
 |_=>.bad
noncomputable def qV (n:Nat):O W->O W
 |.val (.d x) bx=>.val (.d x) (bx.take n)
 |.val w bx=>.val w bx
 |.exc c bx=>.exc c (bx.take n)
 |.bad=>.bad
noncomputable def envOf (n:Nat) (ws:List W):aN:=ws.map some++List.replicate (n-ws.length) zp
def aR (n:Nat) (m:aj):List W->List Bx->O W:=λws bx=>qV bx.length (qU (m (envOf n ws) bx))
noncomputable def aZ (m:aj):aj:=λenv bx=>match m env bx with|.exc _ _=>.bad|o=>o
theorem kM.get {F:Hp}{r:List Addr}:∀ {l:List W}{vs:List V}{i:Nat}{d:W},kM F r l vs->l[i]?=some d->∃ v,vs[i]?=some v /\ bG F r d v
 |[],_,_,_,_,e=>by simp at e
 | x::l,_,0,d,h,e=>by
   let#[v,t,q,h1,_]:=h;simp at e;subst e;subst q;exact#[v,rfl,h1]
 | x::l,_,i+1,d,h,e=>by
   let#[v,t,q,_,h2]:=h;subst q;let#[u,e1,e2]:=kM.get (i:=i) h2 (by simpa using e);exact#[u,by simpa using e1,e2]
theorem Rel.start {T:Fr}{F H:Hp}{r:List Addr}{bx:List Bx}{N:List Str}{ws:List W}{vs:List V}(R:Rel T F r [] H [] bx) (d:kM F r ws vs):Rel T F r (start N vs) H (envOf N.length ws) bx:=by
 have hl:=d.length;refine#[R.fh,λi w e=>?_,R.len,R.nd,R.box,R.keep,R.new,R.n0,?_,R.fs]
 .unfold envOf at e;unfold L2.start;by_cases hi:i<ws.length
  .rw[dJ (by rw[aY];exact hi),nU]at e;cases q:ws[i]? with
   |none=>rw[q]at e;cases e
   |some w'=>
     rw[q]at e;cases e;let#[v,e1,e2]:=d.get q;refine#[v,?_,e2];rw[dJ (by rw[aY,<-hl];exact hi),nU,e1];rfl
  .rw[dI (by rw[aY];lia)]at e;rw[Ya]at e;split at e<;>cases e
 .unfold envOf L2.start;rw[dj,dj,aY,aY,Qb,Qb,hl];exact au _
theorem Ld {l l':List α}(h:l <+: l'):l'.take l.length=l:=by
 let#[t,rfl]:=h;simp
theorem Rel.cut {r':List Addr}{bx':List Bx}(g:aU F r F' r') (R:Rel #[H,r.length,F] F' r' [] H' [] bx'):Rel #[H,r.length,F] F' r [] H' [] (bx'.take r.length):=by
 have hr:r'.take r.length=r:=Ld g.p;have hle:r.length<=r'.length:=g.p.length_le;have pre:∀ (n:Nat) (a:Addr),r[n]?=some a->r'[n]?=some a:=λn a e=>by
  let#[t,rfl]:=g.p;rw[dJ (List.getElem?_eq_some_iff.mp e).1];exact e
 refine#[R.fh,λi w e=>by simp at e,?_,?_,λn c a e1 e2=>?_,λa u e hn=>?_,λn a hn e=>?_,au _,au _,λa u e=>?_]
 .rw[yi,<-R.len];lia
 .exact List.Sublist.nodup (List.IsPrefix.sublist g.p) R.nd
 .have vJ:=(List.getElem?_eq_some_iff.mp e2).1;rw[Yb vJ]at e1;exact R.box n c a e1 (pre n a e2)
 .refine R.keep a u e λz=>?_;let#[m,em]:=List.mem_iff_getElem?.mp z;by_cases hm:m<r.length
  .have q:=pre m _ (pM hm);rw[em]at q;cases q;exact hn (EW hm)
  .have q:=R.new m a (u9 hm) em;have e':H a=some u:=e;have q':H a=zp:=q;rw[e']at q';cases q'
 .rw[sD hn]at e;cases e
 .rcases R.fs a u e with y|z|z|z
  .exact .inl y
  .exact .inr (.inl z)
  .exact .inr (.inr (.inl z))
  .let#[m,em]:=List.mem_iff_getElem?.mp z;by_cases hm:m<r.length
   .have q:=pre m _ (pM hm);rw[em]at q;cases q;exact .inr (.inr (.inr (EW hm)))
   .exact .inr (.inr (.inl (R.new m a (u9 hm) em)))
theorem Fx {Q:VK}(hb:bx.length=r.length) {o:O W}(h:End #[H,r.length,F] Z bG F r [] [] Q (qV bx.length o)):End #[H,r.length,F] Z bG F r [] [] Q o:=by
 rw[hb]at h;cases o with
 |bad=>exact h
 |exc c bx1=>exact λF' r' H' g R=>h F' r H' #[g.s,pL r] (R.cut g)
 |val w bx1=>
   cases w with
   |d x=>exact λF' r' v H' g R d=>h F' r v H' #[g.s,pL r] (R.cut g) d
   |b n=>exact h
   |s l=>exact h
   |x i=>exact h
   |t _=>exact h
   |m _=>exact h
theorem Fy {Q:VK}{o:OS}(h:End T Z bG F r [] [] Q (qU o)):cJ T Z F r { nx:=λ_ H'=>Q .non H',rt:=Q } o:=by
 cases o with
 |nx env bx=>exact λF' r' σ' H' g R=>h F' r' .non H' g R.drop zw
 |rt w bx=>exact λF' r' v H' g R d=>h F' r' v H' g R d
 |exc c bx=>exact h
 |bk env bx=>exact(show False from h).elim
 |ct env bx=>exact(show False from h).elim
 |bad=>exact h
section
variable {f:Addr} {ps:List Str} {k:Nat} {m:aj} 
theorem U1 (F:kB K x qual st f fd) (S:qv N ps (fG st))
 (kL:∀ (cdv:zx) (A:Around) (outer:List Env) (s:Shared) (H:Hp) (E:XK) (n:Nat) (F0:Hp),cx k (A.deeper (envOfC qual (fG st) s.heap.objs.size f cdv)) ->
  nI (pb (hJ P w) P w K mg base N qual (fG st) f cdv A outer s H E) #[H,n,F0] #[E,cl] (gm st) m):eZ P w K mg base (hJ P w) (k+1) f fd ps (rX cl ps.length (aR N.length m)):=by
 refine F.aeC S (λvs H Q E h=>?_) (λcdv A outer s H vs Q E hr h=>?_)
 .let#[F,r,ws,bx,_,d,hl,_]:=h;rw[<-d.length];exact hl
 .let#[F,r,ws,bx,R,d,hl,h]:=h;exact#[_,kL cdv A outer s H E r.length F hr,F,r,envOf N.length ws,bx,R.start d,Fy (Fx R.len.symm h)]
theorem T0 (G:eZ P w K mg base qP k f fd ps sp):eZ P w K mg base CX k f fd ps sp:=
 #[G.len,λA outer s H args us vs Q E hr e0 hb hv hs=>xY (G.run A outer s H args us vs Q E hr e0 hb hv hs) λr s' h=>by
  cases r with
  |error e=>exact False.elim h
  |ok fl=>
    cases fl with
    |ret u=>exact h
    |next=>exact h
    |brk=>exact h
    |cont=>exact h]
theorem T1 (F:kB K x qual st f fd) (S:qv N ps (fG st))
 (kL:∀ (cdv:zx) (A:Around) (outer:List Env) (s:Shared) (H:Hp) (E:XK) (n:Nat) (F0:Hp),cx k (A.deeper (envOfC qual (fG st) s.heap.objs.size f cdv)) ->
  nI (pb qP P w K mg base N qual (fG st) f cdv A outer s H E).sR #[H,n,F0] #[E0,cl] (gm st) m):eZ P w K mg base (hJ P w) (k+1) f fd ps (rX cl ps.length (aR N.length (aZ m))):=by
 refine T0 (F.ok S (λvs H Q E h=>?_) (λcdv A outer s H vs Q E hr h=>?_))
 .let#[F,r,ws,bx,_,d,hl,_]:=h;rw[<-d.length];exact hl
 .let#[F,r,ws,bx,R,d,hl,h]:=h;refine#[_,kL cdv A outer s H E r.length F hr,F,r,envOf N.length ws,bx,R.start d,?_];have h':=Fy (Fx R.len.symm h);unfold aZ at h';cases e:m (envOf N.length ws) bx with
  |nx env bx1=>erw[e]at h';exact h'
  |rt w bx1=>erw[e]at h';exact h'
  |bk env bx1=>erw[e]at h';exact h'
  |ct env bx1=>erw[e]at h';exact h'
  |exc c bx1=>erw[e]at h';exact h'.elim
  |bad=>erw[e]at h';exact h'
end
theorem Fz:Passes (hJ X.prog X.w) X E0:=λ_ _ _ _ _ _ _ h=>by
 let#[_,_,_,_,_,_,_,_,_,_,_,_,_,h]:=h;exact h.elim
section
variable {m:aj} {aiA:List Stmt}
end
noncomputable def bindB {β:Type}(m:O α) (k:α->List Bx->O β):O β:=
 match m with
 |.val a bx=>k a bx
 |_=>.bad
def bq (g:DG) (tf:DE Bool) (te:DE W):List W->aN->List Bx->List D->O (List D)
 |[],_,bx,acc=>.val acc bx
 | w::l,env,bx,acc=>match g w env bx with
   |none=>.bad
   | some (aK,bx1)=>bindB (tf aK bx1) λb ah=>match b with
     |false=>bq g tf te l aK ah acc
     | true=>bindB (te aK ah) λy bH=>match y with
       |.d d=>if acc.length<sizeLine then bq g tf te l aK bH (acc++[d]) else .bad
       |_=>.bad
noncomputable def dE (src:List (Option Nat)) (env:aN):aN:=src.map λo=>o.bind λi=>(env[i]?).bind id
def fY (bo:Bool) (src:List (Option Nat)) (mi:DE (List W)) (g:DG) (tf:DE Bool) (te:DE W):DE W:=λenv bx=>
 fC (mi env bx) λds bx1=>fC (bq g tf te ds (dE src env) bx1 []) λl ah=>bX bo (some (.lst l)) ah
theorem Rel.src {T:Fr}{F H:Hp}{r:List Addr}{σ:St}{env:aN}{bx:List Bx}(R:Rel T F r σ H env bx) (src:List (Option Nat)):Rel T F r (uz src σ) H (dE src env) bx:=by
 refine#[R.fh,λj w e=>?_,R.len,R.nd,R.box,R.keep,R.new,R.n0,?_,R.fs]
 .unfold dE at e;unfold L2.uz;rw[nU]at e ⊢;cases q:src[j]? with
  |none=>rw[q]at e;cases e
  |some o=>
    rw[q]at e;cases o with
    |none=>cases e
    |some i=>
      have e':(env[i]?).bind id=some w:=Option.some.inj e;cases z:env[i]? with
      |none=>rw[z]at e';cases e'
      |some o'=>
        rw[z]at e';have e2:o'=some w:=e';subst e2;let#[v,e1,e2]:=R.slot i w z;exact#[v,by simp[e1],e2]
 .unfold dE L2.uz;rw[aY,aY];exact au _
theorem Rel.inner {r':List Addr}{σ':St}{ax:aN}{bx':List Bx}(R:Rel T F r σ H env bx) (g:aU F r F' r') (R':Rel #[H,r.length,F] F' r' σ' H' ax bx'):Rel T F' r' σ' H' ax bx':=by
 have q:=R.after g R'.drop;exact#[q.fh,R'.slot,q.len,q.nd,q.box,q.keep,q.new,q.n0,R'.sl,q.fs]
theorem Rel.again (R:Rel T F r σ H env bx):Rel #[H,r.length,F] F r σ H env bx:=
 #[R.fh,R.slot,R.len,R.nd,R.box,λa u e _=>e,λn a hn e=>(by rw[sD hn]at e;cases e),au _,R.sl,λa u e=>.inr (.inl e)]
structure Own (F:Hp) (r:List Addr) (H:Hp) (a:Addr) (vs:List V):zy where
 h:H a=some (.lst vs)
 f:F a=zp
 b:a∉r
theorem Own.inner {r':List Addr}{σ':St}{ax:aN}{bx':List Bx}{vs:List V}(o:Own F r H a vs) (g:aU F r F' r') (R':Rel #[H,r.length,F] F' r' σ' H' ax bx'):Own F' r' H' a vs:=by
 have hb:a∉r':=λz=>by
  let#[m,em]:=List.mem_iff_getElem?.mp z;by_cases hm:m<r.length
  .let#[t,e]:=g.p;rw[<-e,dJ hm]at em;exact o.b (List.mem_iff_getElem?.mpr #[m,em])
  .have q:H a=zp:=R'.new m a (u9 hm) em;rw[o.h]at q;cases q
 refine#[R'.keep a _ o.h hb,?_,hb];cases q:F' a with
 |none=>rfl
 |some u=>
   rcases R'.fs a u q with⟨sZ,rfl⟩|z|z|z
   .have:=R'.fh a _ q;rw[R'.keep a _ o.h hb]at this;cases this
   .have z':F a=some u:=z;rw[o.f]at z';cases z'
   .have z':H a=zp:=z;rw[o.h]at z';cases z'
   .exact absurd z hb
theorem Rel.aag (R:Rel T F r σ H env bx) (h:H p=zp):Rel T F r σ (upd H p o) env bx:=by
 have hs:∀ a u,H a=some u->upd H p o a=some u:=λa u e=>by rw[fw (fJ e h)];exact e
 exact#[λa u e=>hs a u (R.fh a u e),R.slot,R.len,R.nd,λn c a e1 e2=>(R.box n c a e1 e2).grow (Sub.refl F) id (hs a),λa u e hn=>hs a u (R.keep a u e hn),R.new,R.n0,R.sl,R.fs]
theorem Rel.aeN (R:Rel T F r σ H env bx) {vs:List V}(w:Own F r H p vs) (hT:T.H₀ p=zp):Rel T F r σ (upd H p o) env bx:=by
 refine#[λa u e=>?_,R.slot,R.len,R.nd,λn c a e1 e2=>?_,λa u e hn=>?_,R.new,R.n0,R.sl,R.fs]
 .rw[fw (λz=>by rw[z,w.f]at e;cases e)];exact R.fh a u e
 .have ha:a≠p:=λz=>w.b (List.mem_iff_getElem?.mpr #[n,z▸e2]);exact(R.box n c a e1 e2).grow (Sub.refl F) id λu z=>by rw[fw ha];exact z
 .rw[fw (λz=>by rw[z,hT]at e;cases e)];exact R.keep a u e hn
theorem Rel.aeO (R:Rel T F r σ H env bx) {vs:List V}(w:Own F r H p vs) (hT:T.H₀ p=zp):Rel T (upd F p (.lst vs)) r σ H env bx /\ aU F r (upd F p (.lst vs)) r:=by
 have s:=iC (o:=.lst vs) w.f;refine#[#[λa u e=>?_,λi w e=>?_,R.len,R.nd,λn c a e1 e2=>?_,R.keep,R.new,R.n0,R.sl,λa u e=>?_],s,pL r]
 .by_cases ha:a=p
  .subst ha;rw[fv]at e;cases e;exact w.h
  .rw[fw ha]at e;exact R.fh a u e
 .let#[v,e1,e2]:=R.slot i w e;exact#[v,e1,e2.mono s (pL r)]
 .have ha:a≠p:=λz=>w.b (List.mem_iff_getElem?.mpr #[n,z▸e2]);exact(R.box n c a e1 e2).grow s (λz=>by rw[fw ha];exact z) λu z=>z
 .by_cases ha:a=p
  .subst ha;exact .inr (.inr (.inl hT))
  .rw[fw ha]at e;exact R.fs a u e
theorem Rel.aeP (R:Rel T F r σ H env bx) {vs:List V}(w:Own F r H p vs) (hT:T.H₀ p=zp) (d:aw F l vs):Rel T F (r++[p]) σ H env (bx++[.lst l]) /\ aU F r F (r++[p]) /\ (r++[p])[bx.length]?=some p:=by
 have hx:(r++[p])[bx.length]?=some p:=by rw[<-R.len,dI (au _),sx];rfl
 have g:aU F r F (r++[p]):=#[Sub.refl F,wF r [p]];refine#[#[R.fh,λi w e=>?_,by rw[dj,dj,R.len];rfl,?_,λn c' a e1 e2=>?_,λa u e hn=>R.keep a u e λz=>hn (qH _ z),λn a hn e=>?_,by rw[dj];exact bU R.n0 (vb _ _),R.sl,λa u e=>(R.fs a u e).imp id (Or.imp id (Or.imp id λz=>qH _ z))],g,hx]
 .let#[v,e1,e2]:=R.slot i w e;exact#[v,e1,g.den e2]
 .rw[wI];refine#[R.nd,by simp,λa ha b hb=>?_];rw[qo]at hb;subst hb;exact λz=>w.b (z▸ha)
 .by_cases hn:n<r.length
  .rw[dJ hn]at e2;rw[dJ (by rw[<-R.len];exact hn)]at e1;exact R.box n c' a e1 e2
  .rw[dI zd]at e2;rw[dI (by rw[<-R.len];lia)]at e1;have hl:n-r.length=0:=by
    cases q:n-r.length with
    |zero=>rfl
    |succ k=>rw[q]at e2;simp at e2
   have kg:n-bx.length=0:=by rw[<-R.len];exact hl
   rw[hl]at e2;rw[kg]at e1;simp at e1 e2;subst e1 e2;exact#[w.f,vs,w.h,d]
 .by_cases hl:n<r.length
  .rw[dJ hl]at e;exact R.new n a hn e
  .have hp:a=p:=by
    rw[dI zd]at e;cases q:n-r.length with
    |zero=>rw[q]at e;simp at e;exact e.symm
    |succ k=>rw[q]at e;simp at e
   subst hp;exact hT
section
variable {src:List (Option Nat)} {elt:Expr} {scope:Scope} {g:DG} 
abbrev xk (g:DG):TG:=λv σ H Q=>∃ T,tG T g v σ H Q
abbrev xl (Z:Xs) (tf:DE Bool):TT:=λσ H Q=>∃ T,rV T Z tf σ H Q
abbrev xm (Z:Xs) (te:DE W):TE:=λσ H Q=>∃ T,tD T Z te σ H Q
theorem Rel.slots {T':Fr}{r':List Addr}{σ':St}{ax:aN}{bx':List Bx}(R:Rel T F r σ H env bx) (g:aU F r F' r') (R':Rel T' F' r' σ' H' ax bx'):Rel T' F' r' σ H' env bx' :=
 #[R'.fh,λi w e=>let ⟨v,e1,e2⟩:=R.slot i w e;#[v,e1,g.den e2],R'.len,R'.nd,R'.box,R'.keep,R'.new,R'.n0,R.sl,R'.fs]
theorem DA {Q:VK}{F1 H1:Hp}{r1:List Addr}{ds:List W}{J:It}(R1:Rel T F1 r1 σ H1 env bx1) (y1:uE F1 r1 ds J)
 (h1:End T Z bG F1 r1 σ env Q (fC (bq g tf te ds (dE src env) bx1 []) λl ah=>bX bo (some (.lst l)) ah)) (Da:Addr) (hD:H1 Da=zp):ZX J (xk g) (xl #[E0,Z.cl] tf) (xm #[E0,Z.cl] te) Da Q (uz src σ) (upd H1 Da (.lst [])):=by
 have hT:T.H₀ Da=zp:=by
  cases q:T.H₀ Da with
  |none=>rfl
  |some u=>rw[R1.keep Da u q (R1.xi hD)]at hD;cases hD
 have o0:Own F1 r1 (upd H1 Da (.lst [])) Da []:=#[fv,R1.qS hD,R1.xi hD];refine#[λi n σ' H'=>∃ pre l F' r' ax bx' acc vs,ds=pre++l /\ pre.length=i /\ n=l.length /\ aU F1 r1 F' r' /\ Rel T F' r' σ' H' ax bx' /\ Own F' r' H' Da vs /\ aw F' acc vs /\
  End T Z bG F' r' σ env Q (fC (bq g tf te l ax bx' acc) λl ah=>bX bo (some (.lst l)) ah),
  #[ds.length,[],ds,F1,r1,_,bx1,[],[],rfl,rfl,rfl,.refl F1 r1,(R1.aag hD).src src,o0,.nil,h1],?_]
 rintro i n σ' H' ⟨pre,l,F',r',ax,bx',acc,vs,pT,hi,hn,g',R',o',da,h'⟩;let#[ys,yg]:=y1 #[H',r'.length,F'] i F' r' σ' H' ax bx' g' R'.again;cases l with
 |nil=>
   refine .inl #[ys (by rw[pT,sC];lia),?_];have RO:Rel T F' r' σ H' env bx':=R1.slots g' R';have hd:End T Z bG F' r' σ env Q (.val (.d (.lst acc)) bx')->Q (.ref Da) H':=λh'=>by
    let#[RA,gA]:=RO.aeO o' hT;exact h' _ r' _ H' gA RA #[Da,vs,rfl,fv,aw.mono gA.s acc da]
   cases bo with
   |false=>exact hd h'
   |true=>
     let#[RB,gB,hx]:=RO.aeP o' hT da;exact h' F' _ _ H' gB RB #[Da,rfl,hx]
 |cons w l=>
   let#[go,yl]:=yg w (by rw[pT,dI zd,hi,sx];rfl);refine .inr #[go,λσ2 H2=>∃ F2 r2 a7 ah Il yV,aU F1 r1 F2 r2 /\ Rel T F2 r2 σ2 H2 a7 ah /\ Own F2 r2 H2 Da yV /\ aw F2 Il yV /\
    End T Z bG F2 r2 σ env Q (fC (bq g tf te l a7 ah Il) λl ah=>bX bo (some (.lst l)) ah),
    λσ2 H2 ⟨F2,r2,a7,ah,Il,yV,g2,R2,o2,d2,h2⟩=>#[l.length,by rw[hn];exact sy _,pre++[w],l,F2,r2,a7,ah,Il,yV,by rw[pT,rJ];rfl,by rw[dj,hi];rfl,rfl,g2,R2,o2,d2,h2],λx H2 hy=>?_]
   let#[F2,g2,R2,d2]:=yl x H2 hy;have aah:=R'.inner g2 R2;have o2:=o'.inner g2 R2;refine#[#[H2,r'.length,F2],F2,r',ax,bx',w,aah.again,d2,?_];erw[bq]at h';cases eg:g w ax bx' with
   |none=>erw[eg]at h';exact h'.elim
   |some o=>
     let#[qz,bH]:=o;erw[eg]at h';intro F3 r3 σ3 H3 g3 R3;have aai:=aah.inner g3 R3;have o3:=o2.inner g3 R3;refine#[#[H3,r3.length,F3],F3,r3,qz,bH,aai.again,?_];cases ef:tf qz bH with
     |bad=>erw[ef,bindB]at h';exact h'.elim
     |exc c cy=>erw[ef,bindB]at h';exact h'.elim
     |val b cy=>
       erw[ef,bindB]at h';intro F4 r4 b' H4 g4 R4 eb;subst eb;have VY:=aai.inner g4 R4;have o4:=o3.inner g4 R4;have aaj:aU F1 r1 F4 r4:=((g'.trans g2).trans g3).trans g4;have VZ:aU F' r' F4 r4:=(g2.trans g3).trans g4;cases b with
       |false=>
         rw[if_neg zf];exact#[F4,r4,qz,cy,acc,vs,aaj,VY,o4,aw.mono VZ.s acc da,End.weak VZ h']
       |true=>
         rw[if_pos rfl];refine#[#[H4,r4.length,F4],F4,r4,qz,cy,VY.again,?_];cases ee:te qz cy with
         |bad=>erw[ee]at h';exact h'.elim
         |exc c aak=>erw[ee]at h';exact h'.elim
         |val y aak=>
           erw[ee]at h';intro F5 r5 v H5 g5 R5 d5;have aeQ:=VY.inner g5 R5;have o5:=o4.inner g5 R5;have aal:=VZ.trans g5;cases y with
           |d d=>
             simp only at h';split at h'
             .ext hz;have aeR:=aw.mono aal.s acc da;refine#[vs,o5.h,by rw[<-da.length];exact hz,F5,r5,qz,aak,acc++[d],vs++[v],aaj.trans g5,aeQ.aeN o5 hT,#[fv,o5.f,o5.b],aeR.append (.cons d5 .nil),End.weak aal h']
             .exact h'.elim
           |b n=>exact h'.elim
           |s l=>exact h'.elim
           |x i=>exact h'.elim
           |t _=>exact h'.elim
           |m _=>exact h'.elim
theorem Le {Q:VK}(h:tD T Z (fY bo src mi g tf te) σ H Q):HZ src (tI T Z mi) (xk g) (xl #[E0,Z.cl] tf) (xm #[E0,Z.cl] te) σ H Q:=by
 let#[F,r,env,bx,R,h]:=h;exact#[F,r,env,bx,R,End.bind h λds bx1 F1 r1 J H1 g1 R1 y1 h1=>DA R1 y1 h1]
theorem NH (bo:Bool) (hc:X.calm=zu) (S:qQ X N src scope) (hi:tF X T Z tg iter mi)
 (hg:∀ T cl s H C fp,kP zT T tg g) (hf:∀ T cl s H C fp,PF zT ifs (rV T #[E0,Z.cl] tf)) (he:∀ T cl s H C fp,PD zT T #[E0,Z.cl] elt te)
 (hs:∀ x,foldedSetIterable iter X.env x=pure x:=by intro _;rfl):PD X T Z zF (fY bo src mi g tf te):=
 PE.imp (Nk (src:=src) (g:=xk g) (tf:=xl #[E0,Z.cl] tf) (te:=xm #[E0,Z.cl] te) hc S hi (λcl s H C fp pins s' σ' H' v u Q I rv ⟨T,q⟩=>hg T cl s H C fp pins s' σ' H' v u Q I rv q)
  (λcl s H C fp pins s' σ' H' Q I ⟨T,q⟩=>hf T cl s H C fp pins s' σ' H' Q I q) (λcl s H C fp pins s' σ' H' Q I ⟨T,q⟩=>he T cl s H C fp pins s' σ' H' Q I q) hs) λσ H Q h=>Le h
noncomputable def f7:DE Bool:=λ_ bx=>.val zu bx
theorem NI:PF X [] (rV T Z f7):=λpins s σ H Q I ⟨F,r,env,bx,R,h⟩=>RI pins s σ H Q I (h F r zu H (.refl F r) R zw)
theorem NJ {c:Expr}(h:hV X T Z c t):PF X [c] (rV T Z t):=RJ h
theorem Be {w:W}(e:(l.map W.d)[i]?=some w):∃ d,l[i]?=some d /\ w=.d d:=by
 rw[nU]at e;cases q:l[i]? with
 |none=>rw[q]at e;cases e
 |some d=>rw[q]at e;cases e;exact#[d,rfl,rfl]
noncomputable def fO (lo:Int) (n:Nat):List W:=(List.range n).map λ(i:Nat)=>W.d (.int (lo+i))
theorem mI (lo:Int) (n:Nat):uE F r (fO lo n) (yz lo n):=λT i F1 r1 σ1 H1 aK bx1 g R=>by
 unfold fO;refine#[λhl=>?_,λw e=>?_]
 .rw[aY,Qd]at hl;exact wC hl
 .rw[nU]at e;cases q:(List.range n)[i]? with
  |none=>rw[q]at e;cases e
  |some j=>
    rw[q]at e;cases e;let#[h1,h2]:=List.getElem?_eq_some_iff.mp q;rw[List.getElem_range]at h2;subst h2;rw[Qd]at h1;refine#[h1,λx H2 ⟨e1,e2⟩=>?_];subst e1 e2;exact#[F1,.refl F1 r1,R,rfl]
def cM (k:DE (List W)):DE (List W):=λenv bx=>fC (k env bx) λws bx1=>match ws with
 |[.d (.int j)]=>if -(2 ^ 62)<=j /\ j<2 ^ 62 then .val (fO 0 j.toNat) bx1 else .bad
 |_=>.bad
theorem DB {a:Expr}{p:Pos}{k:DE (List W)}(hg:Gl X "range") (hm:X.mg "range"=zp) (ha:dQ X T Z [a] k) (hs:starEach [a] X.env=[(zc,eval a X.env)]:=by rfl):tF X T Z tg (.Call (.Name "range" p) [a] [] pos) (cM k):=by
 refine PI.imp (Gu hg hm ha hs) λσ H Q=>x4 λF r env bx R h=>?_;refine#[F,r,env,bx,R,End.bind h λws bx1 F1 r1 vs H1 g1 R1 d1 h1=>?_];split at h1
 .ext j;split at h1
  .ext hj;let#[v,t,rfl,e1,e2]:=d1;cases (show t=[] from e2);cases (show v=.int j from e1);exact#[j,rfl,hj.1,hj.2,h1 F1 r1 _ H1 zat R1 (mI 0 j.toNat)]
  .exact h1.elim
 .exact h1.elim
def vK (k:DE (List W)):DE (List W):=λenv bx=>fC (k env bx) λws bx1=>match ws with
 |[.d (.int i),.d (.int j)]=>if (-(2 ^ 62)<=i /\ i<2 ^ 62) /\ -(2 ^ 62)<=j /\ j<2 ^ 62 then .val (fO i (j-i).toNat) bx1 else .bad
 |_=>.bad
theorem DC {a b:Expr}{p:Pos}{k:DE (List W)}(hg:Gl X "range") (hm:X.mg "range"=zp) (ha:dQ X T Z [a,b] k) (hs:starEach [a,b] X.env=[(zc,eval a X.env),(zc,eval b X.env)]:=by rfl) (k8:starEach [b] X.env=[(zc,eval b X.env)]:=by rfl) :
 tF X T Z tg (.Call (.Name "range" p) [a,b] [] pos) (vK k):=by
 refine PI.imp (Gv hg hm ha hs k8) λσ H Q=>x4 λF r env bx R h=>?_;refine#[F,r,env,bx,R,End.bind h λws bx1 F1 r1 vs H1 g1 R1 d1 h1=>?_];split at h1
 .ext i j;split at h1
  .ext hj;let#[v,t,rfl,e1,v2,t2,rfl,e2,e3]:=d1;cases (show t2=[] from e3);cases (show v=.int i from e1);cases (show v2=.int j from e2);exact#[i,j,rfl,#[hj.1.1,hj.1.2,hj.2.1,hj.2.2],h1 F1 r1 _ H1 zat R1 (mI i _)]
  .exact h1.elim
 .exact h1.elim
end
section
variable {a b c:Expr} {mc:DE W} {p:Pos}
def aam (K:PySem.W.Frag):R2:=λx y H Q=>∃ a b ys,x=.ref a /\ y=.ref b /\ bK K H a [] /\ bK K H b ys /\ Q (.ref b) H
theorem Lf:ba X (binaryOp .Add) (aam X.K):=by
 intro pins s σ H x y v u Q I rx ry h;let#[a,b,ys,rfl,rfl,ha,hb,q]:=h;cases rx;cases ry;let#[its,r1,p1,_]:=I.tuple ha;let#[ux,r2,p2,_]:=I.tuple hb;cases r1;let#[#[cls,dd,data,sl],ho,hc,n,hd]:=id p1;let#[#[Vq,qw,data2,pd],pS,eu,n2,hd2]:=id p2;simp only at hc hd eu hd2;subst hc hd eu hd2
 exact KJ #[_,ho,rfl] #[_,pS,rfl] KL KN QG QH (QI _ _)
  (tuple_addW0 a b ([]:List zx).toArray ux.toArray n n2 dd qw sl pd zq) #[ho,pS,#[.ref b,H,I,rfl,q]]
def aan (K:PySem.W.Frag):R2:=λx y H Q=>eY (λi j=>.int (i+j)) x y H Q \/ ZH K x y H Q \/ aam K x y H Q \/ ZR x y H Q \/ ∃ i j,x=.str i /\ y=.str j /\ i.length+j.length<=sizeLine /\ Q (.str (i++j)) H
theorem NK:ba X (binaryOp .Add) (aan X.K):=Rt.or (Ni.or (Lf.or (Ad.or Du)))
noncomputable def fQ:D->D->Option Res
 |.int i,.int j=>some (.old (.int (i+j)))
 |.tup a,.tup b=>if a.length+b.length<=sizeLine then some (.tup (a++b)) else zp
 |.lst a,.lst b=>if a.length+b.length<=sizeLine then some (.lst (a++b)) else zp
 |.str a,.str b=>if a.length+b.length<=sizeLine then some (.old (.str (a++b))) else zp
 |_,_=>zp
theorem aw.eq_nil {vs:List V}(h:aw F l vs):vs=[] ↔ l=[]:=by
 have:=h.length;cases l<;>cases vs<;>simp_all
theorem aeS:cB (aan K) fQ:=by
 intro F H x y v w Q s sub rx ry e k;unfold fQ at e;split at e
 .ext i j;cases e;exact .inl #[i,j,rx,ry,k _ _ #[rfl,rfl]]
 .ext l l';split at e
  .ext hz;cases e;let#[a,vs,rfl,h1,h2]:=rx;let#[b,ws,rfl,h3,h4]:=ry;by_cases hv:vs=[]
   .subst hv;have hl:l=[]:=h2.eq_nil.mp zw;subst hl;exact .inr (.inr (.inl #[a,b,ws,rfl,rfl,.of (sub _ _ h1),.of (sub _ _ h3),k _ _ (.inl #[rfl,b,ws,rfl,h3,h4])]))
   .refine .inr (.inl #[a,b,vs,ws,rfl,rfl,.of (sub _ _ h1),.of (sub _ _ h3),hv,by rw[<-h2.length,<-h4.length];exact hz,λhw=>?_,λhw p hp=>k _ _ (.inr #[p,vs++ws,rfl,hp,rfl,h2.append h4])]);have hl:l'=[]:=h4.eq_nil.mp hw;subst hl;exact k _ _ (.inl #[rfl,a,vs,rfl,h1,by rw[sC];exact h2])
  .cases e
 .ext l l';split at e
  .ext hz;cases e;let#[a,vs,rfl,h1,h2]:=rx;let#[b,ws,rfl,h3,h4]:=ry;exact .inr (.inr (.inr (.inl #[a,b,vs,ws,rfl,rfl,h1,h3,by rw[<-h2.length,<-h4.length];exact hz,λp hp=>k _ _ #[p,vs++ws,rfl,hp,rfl,h2.append h4]])))
  .cases e
 .ext i j;split at e
  .ext hz;cases e;exact .inr (.inr (.inr (.inr #[i,j,rx,ry,hz,k _ _ #[rfl,rfl]])))
  .cases e
 .cases e
theorem Im {C:Int->Int->zy} [∀ i j,Decidable (C i j)] {g:Int->Int->D}{gv:Int->Int->V}(hg:∀ i j F,Den F (g i j) (gv i j)):cB (rI C gv) λx y=>match x,y with|.int i,.int j=>if C i j then some (.old (g i j)) else zp|_,_=>zp:=by
 intro F H x y v w Q s sub rx ry e k;dsimp only at e;split at e
 .ext i j;split at e
  .ext hc;cases e;exact#[i,j,rx,ry,hc,k _ _ #[rfl,hg i j F]]
  .cases e
 .cases e
theorem Io {g:Int->Int->D}{gv:Int->Int->V}(hg:∀ i j F,Den F (g i j) (gv i j)):cB (eY gv) λx y=>match x,y with|.int i,.int j=>some (.old (g i j))|_,_=>zp:=by
 intro F H x y v w Q s sub rx ry e k;dsimp only at e;split at e
 .ext i j;cases e;exact#[i,j,rx,ry,k _ _ #[rfl,hg i j F]]
 .cases e
noncomputable def cD:D->D->Option Res:=λx y=>match x,y with|.int i,.int j=>some (.old (.int (i-j)))|_,_=>zp
theorem aeT:cB (eY λi j=>.int (i-j)) cD:=Io (g:=λi j=>.int (i-j)) λ_ _ _=>rfl
instance (i j:Int):Decidable (ur i j):=by unfold ur;exact inferInstance
instance (i j:Int):Decidable (uq i j):=by unfold uq;exact inferInstance
instance (i j:Int):Decidable (w8 i j):=by unfold w8;exact inferInstance
noncomputable def uF:D->D->Option Res:=λx y=>match x,y with|.int i,.int j=>if uq i j then some (.old (.int (i / j))) else zp|_,_=>zp
theorem aeU:cB (rI uq λi j=>.int (i / j)) uF:=Im (g:=λi j=>.int (i / j)) λ_ _ _=>rfl
noncomputable def pj:D->D->Option Res:=λx y=>match x,y with|.int i,.int j=>if 0<j then some (.old (.int (i % j))) else zp|_,_=>zp
theorem aeV:cB (rI (λ_ j=>0<j) λi j=>.int (i % j)) pj:=Im (C:=λ_ j=>0<j) (g:=λi j=>.int (i % j)) λ_ _ _=>rfl
noncomputable def dg:D->D->Option Res:=λx y=>match x,y with|.int i,.int j=>if w8 i j then some (.old (.int (i ^ j.toNat))) else zp|_,_=>zp
theorem aeW:cB (rI w8 λi j=>.int (i ^ j.toNat)) dg:=Im (g:=λi j=>.int (i ^ j.toNat)) λ_ _ _=>rfl
noncomputable def intsOf:List D->Option (List Int)
 |[]=>some []
 |.int i::l=>(intsOf l).map λt=>i::t
 |_=>zp
theorem aw.ints {F:Hp}:∀ {l:List D}{vs:List V}{ns:List Int},aw F l vs->intsOf l=some ns->vs=ns.map V.int
 |[],_,_,h,e=>by cases e;exact h
 | .int i::l,_,ns,h,e=>by
   let#[v,r,q,h1,h2]:=h;unfold intsOf at e;cases e2:intsOf l with
   |none=>rw[e2]at e;cases e
   |some t=>
     rw[e2]at e;cases e;rw[q,h2.ints e2,show v=.int i from h1];rfl
 |.non::l,_,_,_,e=>by cases e
 |.bl _::l,_,_,_,e=>by cases e
 |.str _::l,_,_,_,e=>by cases e
 |.tup _::l,_,_,_,e=>by cases e
 |.lst _::l,_,_,_,e=>by cases e
 |.af _::l,_,_,_,e=>by cases e
def aao:D->D->Option Res
 |.int i,.int j=>some (.old (.bl (decide (i<j))))
 |.tup a,.tup b=>(intsOf a).bind λns=>(intsOf b).map λms=>.old (.bl (HT.lexLt ns ms))
 |_,_=>zp
theorem NL (hu:X.A.units<cLine):ba X (compareOp .Lt) (λx y H Q=>eY (λi j=>.bl (decide (i<j))) x y H Q \/ yG X.K x y H Q):=TN.or (RD hu)
theorem aap:cB (λx y H Q=>eY (λi j=>.bl (decide (i<j))) x y H Q \/ yG K x y H Q) aao:=by
 intro F H x y v w Q s sub rx ry e k;unfold aao at e;split at e
 .ext i j;cases e;exact .inl #[i,j,rx,ry,k _ _ #[rfl,rfl]]
 .ext l l';cases e1:intsOf l with
  |none=>rw[e1]at e;cases e
  |some ns=>
    cases e2:intsOf l' with
    |none=>rw[e1,e2]at e;cases e
    |some ms=>
      rw[e1,e2]at e;cases e;let#[a,vs,rfl,h1,h2]:=rx;let#[b,ws,rfl,h3,h4]:=ry;have q1:=h2.ints e1;have q2:=h4.ints e2;subst q1 q2;exact .inr #[a,b,ns,ms,rfl,rfl,.of (sub _ _ h1),.of (sub _ _ h3),k _ _ #[rfl,rfl]]
 .cases e
noncomputable def nJ:D->D->Option Res:=λx y=>match x,y with|.int i,.int j=>some (.old (.bl (decide (j<i))))|_,_=>zp
theorem aeX:cB (eY λi j=>.bl (decide (j<i))) nJ:=Io (g:=λi j=>.bl (decide (j<i))) λ_ _ _=>rfl
noncomputable def vL:D->D->Option Res:=λx y=>match x,y with|.int i,.int j=>some (.old (.bl (decide (j<=i))))|_,_=>zp
theorem aeY:cB (eY λi j=>.bl (decide (j<=i))) vL:=Io (g:=λi j=>.bl (decide (j<=i))) λ_ _ _=>rfl
def ag:D->D->Option Res
 |.lst l,.int i=>(bf l i).map Res.old
 |.tup l,.int i=>(bf l i).map Res.old
 |_,_=>zp
theorem FA {vs:List V}{i:Int}{d:D}(h:aw F l vs) (e:bf l i=some d):∃ v,bf vs i=some v /\ Den F d v:=by
 unfold bf at e ⊢;rw[<-h.length];cases q:bL l.length i with
 |none=>rw[q]at e;cases e
 |some j=>rw[q]at e;exact h.get e
theorem aeZ:cB (ZM K) ag:=by
 intro F H x y v w Q s sub rx ry e k;unfold ag at e;split at e
 .ext l i;let#[a,vs,rfl,h1,h2]:=rx;cases e1:bf l i with
  |none=>rw[e1]at e;cases e
  |some d=>
    rw[e1]at e;cases e;let#[u,e2,du]:=FA h2 e1;exact .inl #[a,vs,i,u,rfl,ry,.of h1,e2,k _ _ #[rfl,du]]
 .ext l i;let#[a,vs,rfl,h1,h2]:=rx;cases e1:bf l i with
  |none=>rw[e1]at e;cases e
  |some d=>
    rw[e1]at e;cases e;let#[u,e2,du]:=FA h2 e1;exact .inr (.inl #[a,vs,i,u,rfl,ry,.of (sub _ _ h1),e2,k _ _ #[rfl,du]])
 .cases e
noncomputable def bM:List D->Option Res
 |[.lst l]=>some (.old (.int l.length))
 |[.tup l]=>some (.old (.int l.length))
 |_=>zp
theorem ae0:k9 (λxs H Q=>∃ p ys,xs=[.ref p] /\ (bO K H p ys \/ bK K H p ys) /\ Q (.int ys.length) H) bM:=by
 intro F H xs vs Q s sub rx e k;unfold bM at e;split at e
 .ext l;cases e;let#[v,t,rfl,#[a,us,rfl,h1,h2],rt]:=rx;cases (show t=[] from rt);exact#[a,us,rfl,.inl (.of h1),k _ _ #[rfl,by rw[<-h2.length];rfl]]
 .ext l;cases e;let#[v,t,rfl,#[a,us,rfl,h1,h2],rt]:=rx;cases (show t=[] from rt);exact#[a,us,rfl,.inr (.of (sub _ _ h1)),k _ _ #[rfl,by rw[<-h2.length];rfl]]
 .cases e
noncomputable def qW:D->String
 |.non=>"NoneType"|.bl _=>"bool"|.int _=>"int"|.str _=>"str"|.tup _=>"tuple"|.lst _=>"list"|.af _=>"dict"
noncomputable def uG (S T:String):Bool:=S==T||(S == "bool"&&T == "int")
def pV (K:PySem.W.Frag) (T:String):zy:=∀ d:D,PySem.W.kitOne K (.type (qW d)) (.type T)=some (uG (qW d) T)
theorem T3 (sub:Sub F H):∀ {d:D}{v:V},qy F H d v->n8 K H v (.type (qW d))
 |.non,_,h=>by cases (show _=V.non from h);exact .non
 |.bl b,_,h=>by cases (show _=V.bl b from h);exact .bl b
 |.int b,_,h=>by cases (show _=V.int b from h);exact .int b
 |.str b,_,h=>by cases (show _=V.str b from h);exact .str b
 |.tup l,_,h=>by let#[a,vs,rfl,h1,h2]:=h;exact .tup (sub _ _ h1)
 |.lst l,_,h=>by let#[a,vs,rfl,h1,h2]:=h;exact .lst h1
 |.af l,_,h=>by let#[a,vs,rfl,h1,h2]:=h;exact .dK h1
def jP (n:String) (m:DE W):DE W:=λenv bx=>fC zL λw bx1=>match bT bx1 w with|some d=>.val (.d (.bl (uG (qW d) n))) bx1|none=>.bad
theorem NM {n:String}{p p1:Pos}(hT:pV X.K n) (hg:Gl X "isinstance") (hm:X.mg "isinstance"=zp) (V0:Gl X x) (V1:X.mg x=zp) (hv:bootBuiltins x=some (.type n)) (ha:PD X T Z a ma)
 (hn:x ≠ "__name__":=by decide) (cY:(x==("__debug__":Str))=zc:=by decide)
 (aaq:starEach [a,.Name x p1] X.env=(zc,eval a X.env)::starEach [.Name x p1] X.env:=by rfl) (ae1:starEach [.Name x p1] X.env=(zc,eval (.Name x p1) X.env)::starEach [] X.env:=by rfl)
 (kA:(backTo pos (starEach [.Name x p1] X.env)).any (·.1)=zc:=by rfl):PD X T Z (.Call (.Name "isinstance" p) [a,.Name x p1] [] pos) (jP n ma):=by
 refine PE.imp (fU fT hg hm (by decide +kernel) (fA ha (fA (Fh V0 V1 hv (v:=.ty n) zw hn cY) fS ae1) aaq) zf zf aaq kA) λσ H Q=>x4 λF r env bx R h=>?_;refine#[F,r,env,bx,R,End.bind h λw bx1 F1 r1 v H1 g1 R1 d1 h1=>?_];cases e:bT bx1 w with
 |none=>erw[e]at h1;exact h1.elim
 |some d=>
   erw[e]at h1;exact#[v,.ty n,_,.type n,_,rfl,.of (T3 R1.fh (R1.qT d1 e)),rfl,hT d,h1 F1 r1 _ H1 zat R1 zw]
end
section
variable {a b c:Expr} {mc:DE W} {p:Pos}
def aar (K:PySem.W.Frag) (vs:List V) (H:Hp) (Q:VK):zy:=∃ (p:Addr) (bs:List Bool),vs=[.ref p] /\ H p=some (.lst (bs.map V.bl)) /\ Q (.bl (bs.all id)) H
theorem GJ (hc:X.calm=zu):dY X (.builtin "all") (aar X.K):=by
 intro pins s σ H xs us Q I rv h;let#[p,bs,rfl,hp,q]:=h;let#[u,rfl,ru]:=Vals.one rv;cases ru;let#[its,r1,p1,z1]:=I.list (bO.of (K:=X.K) hp);have hl:=p1.isList;have vJ:p<s.heap.objs.size:=by let#[_,e,_]:=hl;exact a8 e
 have hlen:bs.length=its.length:=by have:=r1.length;simpa using this
 refine call_all_walk (KI hl ?_);refine#[s.heap.objs.size,[s.heap.objs.size,p],[s.heap.objs.size],its.toArray.size,_,_,λi=>(bs[i]?).getD zu,rfl,Walks.list (A:=X.A.in1) (I.ok.hd hc) _ p (cH vJ) its.toArray,
  #[#[_,cg _ zw,rfl,rfl],hl.push _],λi v s' Q' E' hP hQ=>?_,λh' tk hk=>?_]
 .have aas:its[i]?=some v:=by simpa using hP
  have hi:i<bs.length:=by rw[hlen];exact(List.getElem?_eq_some_iff.mp aas).1
  let#[w,e1,e2]:=r1.get (i:=i) (x:=V.bl bs[i]) (by simp[hi]);rw[aas]at e1;cases e1;cases e2;erw[pM hi,Qq]at hQ;exact su hQ
 .have e:((List.range its.toArray.size).all λi=>(bs[i]?).getD zu)=bs.all id:=by
   rw[bE,<-hlen];exact LSm.range_all bs
  rw[e];exact#[.bl _,H,I.kept (t':=tk) (LSm.kept_iter hk),rfl,q]
noncomputable def pw:List D->Option (List Bool)
 |[]=>some []
 |.bl i::l=>(pw l).map λt=>i::t
 |_=>zp
theorem aw.aat {F:Hp}:∀ {l:List D}{vs:List V}{ns:List Bool},aw F l vs->pw l=some ns->vs=ns.map V.bl
 |[],_,_,h,e=>by cases e;exact h
 | .bl i::l,_,ns,h,e=>by
   let#[v,r,q,h1,h2]:=h;unfold pw at e;cases e2:pw l with
   |none=>rw[e2]at e;cases e
   |some t=>
     rw[e2]at e;cases e;rw[q,h2.aat e2,show v=.bl i from h1];rfl
 |.non::l,_,_,_,e=>by cases e
 |.int _::l,_,_,_,e=>by cases e
 |.str _::l,_,_,_,e=>by cases e
 |.tup _::l,_,_,_,e=>by cases e
 |.lst _::l,_,_,_,e=>by cases e
 |.af _::l,_,_,_,e=>by cases e
def dh:List D->Option Res
 |[.lst l]=>(pw l).map λbs=>.old (.bl (bs.all id))
 |_=>zp
theorem ae2:k9 (aar K) dh:=by
 intro F H xs vs Q s sub rx e k;unfold dh at e;split at e
 .ext l;let#[v,t,rfl,#[a,us,rfl,h1,h2],rt]:=rx;cases (show t=[] from rt);cases e1:pw l with
  |none=>rw[e1]at e;cases e
  |some bs=>
    rw[e1]at e;cases e;have q1:=h2.aat e1;subst q1;exact#[a,bs,rfl,h1,k _ _ #[rfl,rfl]]
 .cases e
theorem ae3:k9 (λxs H Q=>∃ p ys,xs=[.ref p] /\ ((bO K H p ys /\ ∀ l,H l=zp->Q (.ref l) (upd H l (.tup ys))) \/ (bK K H p ys /\ Q (.ref p) H)))
 (λxs=>match xs with|[.lst l]=>some (.tup l)|[.tup l]=>some (.tup l)|_=>zp):=by
 intro F H xs vs Q s sub rx e k;dsimp only at e;split at e
 .ext l;cases e;let#[v,t,rfl,#[a,us,rfl,h1,h2],rt]:=rx;cases (show t=[] from rt);exact#[a,us,rfl,.inl #[.of h1,λp hp=>k _ _ (.inr #[p,us,rfl,hp,rfl,h2])]]
 .ext l;cases e;let#[v,t,rfl,#[a,us,rfl,h1,h2],rt]:=rx;cases (show t=[] from rt);exact#[a,us,rfl,.inr #[.of (sub _ _ h1),k _ _ (.inl #[rfl,a,us,rfl,h1,h2])]]
 .cases e
noncomputable def qA:List D->Option Res:=λxs=>match xs with|[.lst l]=>some (.tup l)|[.tup l]=>some (.tup l)|_=>zp
noncomputable def xn:List D->Option Res:=λxs=>match xs with|[.lst l]=>some (.lst l)|[.tup l]=>some (.lst l)|_=>zp
theorem ae4:k9 (λxs H Q=>∃ p ys,xs=[.ref p] /\ (bO K H p ys \/ bK K H p ys) /\ ∀ l,H l=zp->Q (.ref l) (upd H l (.lst ys))) xn:=by
 intro F H xs vs Q s sub rx e k;unfold xn at e;split at e
 .ext l;cases e;let#[v,t,rfl,#[a,us,rfl,h1,h2],rt]:=rx;cases (show t=[] from rt);exact#[a,us,rfl,.inl (.of h1),λp hp=>k _ _ #[p,us,rfl,hp,rfl,h2]]
 .ext l;cases e;let#[v,t,rfl,#[a,us,rfl,h1,h2],rt]:=rx;cases (show t=[] from rt);exact#[a,us,rfl,.inr (.of (sub _ _ h1)),λp hp=>k _ _ #[p,us,rfl,hp,rfl,h2]]
 .cases e
noncomputable def maxD:List D->Option Res:=λxs=>match xs with|[.int i,.int j]=>some (.old (.int (if j>i then j else i)))|_=>zp
theorem ae5:k9 (λxs H Q=>∃ i j,xs=[.int i,.int j] /\ Q (.int (if j>i then j else i)) H) maxD:=by
 intro F H xs vs Q s sub rx e k;unfold maxD at e;split at e
 .ext i j;cases e;let#[v,t,rfl,h1,v2,t2,rfl,h2,rt]:=rx;cases (show t2=[] from rt);cases (show v=.int i from h1);cases (show v2=.int j from h2);exact#[i,j,rfl,k _ _ #[rfl,rfl]]
 .cases e
noncomputable def minD:List D->Option Res:=λxs=>match xs with|[.int i,.int j]=>some (.old (.int (if j<i then j else i)))|_=>zp
theorem ae6:k9 (λxs H Q=>∃ i j,xs=[.int i,.int j] /\ Q (.int (if j<i then j else i)) H) minD:=by
 intro F H xs vs Q s sub rx e k;unfold minD at e;split at e
 .ext i j;cases e;let#[v,t,rfl,h1,v2,t2,rfl,h2,rt]:=rx;cases (show t2=[] from rt);cases (show v=.int i from h1);cases (show v2=.int j from h2);exact#[i,j,rfl,k _ _ #[rfl,rfl]]
 .cases e
end
end L2.DL
namespace HT
theorem mJ {t sl:Addr}{vl vu:zx}{lo hi:Option Int}(ht:IsTup s.heap t items) (hs:s.heap.IsSliceOf sl vl vu .none) (pl:IsPart vl lo) (pu:IsPart vu hi)
 (hw:aE items.size 0 lo=0 /\ aE items.size items.size hi=items.size) (h:Q (.ref t) s):wpAny zk A (getItem (.ref t) (.ref sl)) Q E s:=by
 let#[os,vt,HP,pT]:=id hs;have Vr:s.TypeIs (.ref sl) "slice":=#[os,vt,HP];unfold getItem;try with_reducible refine kX ?_
 first|refine ae (ak ?_)|skip
 refine ae (XB ht.typeIs zf ?_);refine ae (uZ (name:=Str.ofString "__getitem__") ht.typeIs wL
  (pI wL ht.typeIs Yz ?_ (YA _ _)))
 show wpAny _ _ (Builtin.Tuple.tupleItemsOf (.ref t) >>= _) _ _ s;refine ae (YB ht ?_);refine ae (wy Vr ?_);rw[if_pos zf];refine ae (jo hs pl pu ?_);have ae7:(zae=zu):=by
  rw[hw.1,hw.2];simp
 show wpAny _ _ (if zae=zu then _ else _) _ _ s;rw[if_pos ae7];refine ae (m:=Builtin.Tuple.tupleIsExact (.ref t)) ?_;unfold Builtin.Tuple.tupleIsExact;refine ae (wy ht.typeIs (ak ?_));rw[if_pos zf];exact ae (rF (ak #[_,rfl,ak h]))
theorem Ai {β:Type}{f g:α->Option β}:∀ {l:List α},(∀ x∈l,f x=g x)->l.filterMap f=l.filterMap g:=by
 intro l_;induction l_ with
 |nil=>exact λ_=>rfl
 |cons x l ao=>
   intro h;rw[qj,qj,h x bF,ao λy hy=>h y (bD _ hy)]
theorem Aj (n:Nat):sliceRange ((n:Int)-1) (-1) (-1)=(List.range n).map λk=>n-1-k:=by
 have e:(if (-1:Int)>0 then (if (n:Int)-1 < -1 then (-1-((n:Int)-1)+-1-1) / -1 else 0) else (if (n:Int)-1>-1 then ((n:Int)-1 - -1 - -1-1) / (- -1) else 0):Int).toNat=n:=by
  rw[if_neg zf];split
  .have:((n:Int)-1 - -1 - -1-1) / (- -1)=n:=by
    rw[show (- -1:Int)=1 by decide,YQ];lia
   rw[this];rfl
  .lia
 show (List.range (if (-1:Int)>0 then (if (n:Int)-1 < -1 then (-1-((n:Int)-1)+-1-1) / -1 else 0) else (if (n:Int)-1>-1 then ((n:Int)-1 - -1 - -1-1) / (- -1) else 0):Int).toNat).map _=_;rw[e];refine qm λk hk=>?_;have:=List.mem_range.mp hk;lia
theorem AV (its:List zx):slicePick its.toArray zp zp (some (-1))=its.reverse.toArray:=by
 unfold slicePick;have e:sliceBounds zp zp (some (-1)) its.toArray.size=((its.length:Int)-1,-1,-1):=by
  simp[sliceBounds]
 rw[e];congr 1;show (sliceRange ((its.length:Int)-1) (-1) (-1)).filterMap (its.toArray[·]?)=_;rw[Aj,yk];apply Qe;intro i;have h1:(List.range its.length).filterMap ((λx=>its.toArray[x]?)∘λk=>its.length-1-k)=(List.range its.length).map λk=>(its[its.length-1-k]?).getD .none:=by
  rw[<-Ye];refine Ai λk hk=>?_;have qx:=List.mem_range.mp hk;have vJ:its.length-1-k<its.length:=by lia
  simp[vJ]
 rw[h1,nU];by_cases hi:i<its.length
 .have vJ:its.length-1-i<its.length:=by lia
  rw[List.getElem?_range hi,List.getElem?_reverse hi];simp[vJ]
 .rw[sD (by simpa using u9 hi),sD (by simpa using u9 hi)];rfl
end HT
namespace L2.DL
section
variable {a b c:Expr} {mc:DE W} {p p2:Pos} {lo hi:Option Expr}
def aau (K:PySem.W.Frag):V->Option Int->Option Int->Hp->VK->zy:=λx lo hi H Q=>∃ a xs,x=.ref a /\ bK K H a xs /\
 (HT.aE xs.length 0 lo=0 /\ HT.aE xs.length xs.length hi=xs.length) /\ Q (.ref a) H
theorem NO:sX X (aau X.K):=by
 intro pins s σ H x v vl vu lo hi sl Q I rx hs pl pu h;let#[a,xs,rfl,hx,hw,q]:=h;cases rx;let#[its,r,ht,hz]:=I.tuple hx;have hlen:its.toArray.size=xs.length:=by rw[bE];exact r.length.symm
 exact#["tuple",_,wL.lookup,ht.typeIs,HT.mJ ht hs pl pu (by rw[hlen];exact hw) #[.ref a,H,I,rfl,q]]
def aav (K:PySem.W.Frag):V->Option Int->Option Int->Hp->VK->zy:=λx lo hi H Q=>ZG K x lo hi H Q \/ aau K x lo hi H Q \/ ZN K x lo hi H Q
theorem R8:sX X (aav X.K):=RC.or (NO.or Nj)
def cutD (xs:List D) (lo hi:Option Int):List D:=(xs.drop (HT.aE xs.length 0 lo)).take (HT.aE xs.length xs.length hi-HT.aE xs.length 0 lo)
theorem FB {vs:List V}(h:aw F l vs) (lo hi:Option Int):aw F (cutD l lo hi) (uw vs lo hi):=by
 unfold cutD uw;rw[h.length];exact(h.drop _).take _
def qX:D->Option Int->Option Int->Option Res
 |.tup l,lo,hi=>some (.tup (cutD l lo hi))
 |.lst l,lo,hi=>some (.lst (cutD l lo hi))
 |_,_,_=>zp
theorem ae8 {x:D}{lo hi:Option Int}{Q:VK}{s:Res}(sub:Sub F H) (rx:qy F H x v) (e:qX x lo hi=some s) (k:∀ u H',vI F H s u H'->Q u H'):aav K v lo hi H Q:=by
 cases x with
 |tup l=>
   cases e;let#[a,vs,rfl,h1,h2]:=rx;by_cases hw:HT.aE vs.length 0 lo=0 /\ HT.aE vs.length vs.length hi=vs.length
   .refine .inr (.inl #[a,vs,rfl,.of (sub _ _ h1),hw,k _ _ (.inl #[rfl,?_])]);have e:cutD l lo hi=l:=by
     unfold cutD;rw[h2.length,hw.1,hw.2,K8,List.drop_zero,<-h2.length,wG]
    rw[e];exact#[a,vs,rfl,h1,h2]
   .exact .inl #[a,vs,rfl,.of (sub _ _ h1),hw,λp hp=>k _ _ (.inr #[p,_,rfl,hp,rfl,FB h2 lo hi])]
 |lst l=>
   cases e;let#[a,vs,rfl,h1,h2]:=rx;exact .inr (.inr #[a,vs,rfl,.of h1,λp hp=>k _ _ #[p,_,rfl,hp,rfl,FB h2 lo hi]])
 |non=>cases e
 |bl _=>cases e
 |int _=>cases e
 |str _=>cases e
 |af _=>cases e
abbrev ae9:Hp->List Addr->Option Int->Option Int->zy:=λ_ _ a b=>a=b
def afa (T:Fr) (Z:Xs) (m:DE (Option Int)):TO:=λσ H Q=>∃ F r env bx,Rel T F r σ H env bx /\ End T Z ae9 F r σ env Q zL
def yW (X:Cx) (T:Fr) (Z:Xs) (e:Option Expr) (m:DE (Option Int)):zy:=PO X e (afa T Z m)
theorem PO.imp {e:Option Expr}{t t':TO}(h:PO X e t) (f:∀ σ H Q,t' σ H Q->t σ H Q):PO X e t':=λpins s σ H Q I q=>h pins s σ H Q I (f σ H Q q)
noncomputable def pW:DE (Option Int):=λ_ bx=>.val zp bx
def pX (m:DE W):DE (Option Int):=λenv bx=>fC zL λw bx1=>match w with|.d (.int i)=>.val (some i) bx1|_=>.bad
theorem R9:yW X T Z zp pW:=PO.imp Ng λσ H Q=>x4 λF r env bx R h=>h F r zp H (.refl F r) R zw
theorem Lg (h:PD X T Z e ma):yW X T Z (some e) (pX ma):=by
 refine PO.imp (Nh h) λσ H Q=>x4 λF r env bx R h=>?_;refine#[F,r,env,bx,R,End.bind h λw bx1 F1 r1 v H1 g1 R1 d1 h1=>?_];split at h1
 .ext i;exact#[i,d1,h1 F1 r1 _ H1 zat R1 zw]
 .exact h1.elim
def pY (bo:Bool) (m:DE W) (l u:DE (Option Int)):DE W:=λenv bx=>fC zL λx bx1=>fC (l env bx1) λi ah=>fC (u env ah) λj bH=>bX bo ((bT bH x).bind λd=>qX d i j) bH
theorem Lh {l u:DE (Option Int)}(bo:Bool) (ha:PD X T Z e ma) (hl:yW X T Z lo l) (hu:yW X T Z hi u):PD X T Z (.Subscript e (.Slice lo hi zp p2) pos) (pY bo ma l u):=by
 refine PE.imp (JL R8 ha hl hu) λσ H Q=>x4 λF r env bx R h=>?_;refine#[F,r,env,bx,R,End.bind h λx bx1 F1 r1 v H1 g1 R1 d1 h1=>?_];refine#[F1,r1,env,bx1,R1,End.bind h1 λi ah F2 r2 i' H2 g2 R2 d2 h2=>?_];refine#[F2,r2,env,ah,R2,End.bind h2 λj bH F3 r3 j' H3 g3 R3 d3 h3=>?_];subst d2 d3;cases e1:bT bH x with
 |none=>rw[e1]at h3;exact h3.elim
 |some d=>
   rw[e1]at h3;erw[cj]at h3;cases e2:qX d i j with
   |none=>rw[e2]at h3;exact h3.elim
   |some s=>
     rw[e2]at h3;exact ae8 R3.fh (R3.qT (g3.den (g2.den d1)) e1) e2 λu H' k=>gX R3 h3 k
theorem Sa {te:TE}{i:Int}{q1 q2:Pos}(he:PE X e te):PE X (.Subscript e (.Slice zp zp (some (.UnaryOp .USub (.Constant (.int 1) j q1) q2)) p2) pos)
 (λσ H Q=>te σ H λx H1=>∃ a xs,x=.ref a /\ bO X.K H1 a xs /\ ∀ p,H1 p=zp->Q (.ref p) (upd H1 p (.lst xs.reverse))):=by
 intro pins s σ H Q I h;refine Subscript_ (tE (he pins s σ H _ I h) λv s1 x H1 I1 r1 q1=>?_);refine XD ?_;rw[KO];refine ak (ak ?_);rw[XC];refine tE (PM (X:=X) JE Do pins s1 σ H1 (λy H2=>y=.int (-1) /\ H2=H1) I1 #[1,rfl,rfl,rfl]) λvs s3 y H3 I3 r3 hh=>?_;let#[e1,e2]:=hh;subst e1 e2;let#[t,rfl]:=r3;let#[a,xs,rfl,hx,q]:=q1;cases r1;have I4:Inv X pins σ H3 { s3 with heap:=s3.heap.push { cls:=.type "slice",data:=.fields (List.toArray [.none,.none,.int (-1) t]) } }:=I3.kept (t':=s3.toks) λb ob q=>aT _ q;let#[its,r,ht,hz]:=I4.list hx;have hlen:=r.length;have hg:wpAny zh X.A (getItem (.ref a) (.ref s3.heap.objs.size)) (EP X pins σ Q) X.xe { s3 with heap:=s3.heap.push { cls:=.type "slice",data:=.fields (List.toArray [.none,.none,.int (-1) t]) } }:=by
  refine XF (lo:=zp) (hi:=zp) (st:=some (-1)) ht.isList (Heap.IsSliceOf.new ..) .none .none (.int (-1) t) zq ?_ (by rw[bE]<;>lia);rw[HT.AV];refine#[.ref _,_,I4.laid (t':=s3.toks) (o:=.lst xs.reverse) (λb ob q=>aT _ q) (au _) ?_,rfl,q _ (I4.ai.fresh (au _))];exact#[by rw[List.length_reverse];exact hz,_,0,r.reverse,cg _ zw]
 show wpAny zh X.A (subscriptTail e (.Slice zp zp (some (.UnaryOp .USub (.Constant (.int 1) j _) q2)) p2) (.ref a) (.ref s3.heap.objs.size)) (EP X pins σ Q) X.xe _;exact Qt (ops:=[.ref a,.ref s3.heap.objs.size]) ht.isList.typeIs slot_list_getitem.lookup hg (by with_unfolding_all rfl)
def Ip (bo:Bool) (m:DE W):DE W:=λenv bx=>fC zL λx bx1=>bX bo ((bT bx1 x).bind λd=>match d with|.lst l=>some (.lst l.reverse)|_=>zp) bx1
theorem Sb {q1 q2:Pos}(bo:Bool) (ha:PD X T Z e ma):PD X T Z (.Subscript e (.Slice zp zp (some (.UnaryOp .USub (.Constant (.int 1) j q1) q2)) p2) pos) (Ip bo ma):=by
 refine PE.imp (Sa (i:=0) ha) λσ H Q=>x4 λF r env bx R h=>?_;refine#[F,r,env,bx,R,End.bind h λx bx1 F1 r1 v H1 g1 R1 d1 h1=>?_];cases e1:bT bx1 x with
 |none=>rw[e1]at h1;exact h1.elim
 |some d=>
   rw[e1]at h1;cases d with
   |lst l=>
     let#[a,vs,rfl,k1,k2]:=R1.qT d1 e1;exact#[a,vs,rfl,.of k1,λp hp=>gX R1 h1 #[p,_,rfl,hp,rfl,k2.reverse]]
   |_=>exact h1.elim
def yX (m:DE W):DE W:=λenv bx=>fC zL λw bx1=>match w with|.d (.int i)=>.val (.d (.int (-i))) bx1|_=>.bad
theorem Sc (ha:PD X T Z a ma):PD X T Z (.UnaryOp .USub a pos) (yX ma):=by
 refine PE.imp (PM JE ha) λσ H Q=>x4 λF r env bx R h=>?_;refine#[F,r,env,bx,R,End.bind h λw bx1 F1 r1 v H1 g1 R1 d1 h1=>?_];split at h1
 .ext i;exact#[i,d1,h1 F1 r1 _ H1 zat R1 zw]
 .exact h1.elim
end
end L2.DL
namespace HT
theorem Cu {l:Addr}{Q:List zx->Shared->zy}(hl:IsTup s.heap l vs.toArray) (hz:vs.length<=sizeLine)
 (h:Q vs { s with heap:=(s.heap.push (seqObj "list" #[] 0)).update s.heap.objs.size (Obj.mapSeq (·++vs.toArray)) }):wpAny zk A (collect (.ref l)) Q E s:=by
 let#[ob,ho,uA,k,qY]:=id hl;unfold collect;refine ae (wpAny_runValue (KS entry_proto_collect' (ae (wz (ak #[Zj _ (by decide +kernel),KS entry_list_iadd' ?_])))));show wpAny _ _ (Builtin.List.listExtendWith (.ref s.heap.objs.size) (.ref l) (.ref s.heap.objs.size)) _ _ { s with heap:=s.heap.push (seqObj "list" #[] 0) };unfold Builtin.List.listExtendWith;have qZ:(s.heap.push (seqObj "list" #[] 0)).get? l=some ob:=aT _ ho;refine ae (wy (T:="tuple") #[ob,qZ,uA] ?_);rw[if_pos (by rw[show (Value.type "tuple"==Value.type "tuple")=true by decide,Bool.or_true])];refine ae (sJ qZ qY (ae (sJ (xs:=#[]) (n:=0) (cg _ zw) zw ?_)));rw[if_neg zq];refine ae (E8 (xs:=#[]) (n:=0) (cg _ zw) zw (ak ?_) (kI _) (by show (#[]++vs.toArray).size<=sizeLine+1;erw[Array.size_append,bE,kJ];lia));refine ae (KH (YD (cg _ zw) _) (show wpAny _ _ (pure ((#[]:Array zx)++vs.toArray).toList) Q E _ from ?_));rw[show ((#[]:Array Value)++vs.toArray).toList=vs by simp];exact ak h
theorem Ak {l:Addr}(hl:IsTup s.heap l vs.toArray) (hI:IntsAre vs ns) (bY:vs.length<64)
 (h:∀ (out:Array zx) (cA:List Int),IntsAre out.toList cA->cA.Perm ns->cA.Pairwise (·<=·)->Q (.ref zK) { s with heap:=sortedAll s.heap vs out }):wpAny zk A (call (.builtin "sorted") [.ref l]) Q E s:=by
 refine Hn E9 Ha Hb (Hc _) ?_;unfold Builtin.«sorted»;refine ae (m:=checkCount "sorted" 1 1 _) (ak (ae (Cu hl (bU (eV bY) zf) (ae (wz ?_)))));have hsz:((s.heap.push (seqObj "list" #[] 0)).update s.heap.objs.size (Obj.mapSeq (·++vs.toArray))).objs.size=s.heap.objs.size+1:=by rw[Yv,Hd]
 have qt:(((s.heap.push (seqObj "list" #[] 0)).update s.heap.objs.size (Obj.mapSeq (·++vs.toArray))).push (seqObj "list" vs.toArray 0)).get? zK=some (seqObj "list" vs.toArray 0):=by rw[<-hsz];exact cg _ zw
 show wpAny _ _ _ _ _ { s with heap:=((s.heap.push (seqObj "list" #[] 0)).update s.heap.objs.size (Obj.mapSeq (·++vs.toArray))).push (seqObj "list" vs.toArray 0) };rw[hsz];exact ae (kX (pI He #[_,qt,rfl] Hf (YE qt hI bY λout cA a1 a2 a3=>#[_,rfl,ak #[_,rfl,h out cA a1 a2 a3]]) (Hg _)))
end HT
namespace L2.DL
noncomputable def sortI (ns:List Int):List Int:=ns.mergeSort λa b=>decide (a<=b)
theorem gw (ns:List Int):(sortI ns).Perm ns:=EX ns _
theorem iL (ns:List Int):(sortI ns).Pairwise (·<=·):=by
 have h:=Qf (le:=λa b:Int=>decide (a<=b)) (λa b c h1 h2=>by simp at *;lia) (λa b=>by simp;lia) ns;exact h.imp λq=>by simpa using q
theorem oD {a b:List Int}(p:a.Perm b) (ha:a.Pairwise (·<=·)) (hb:b.Pairwise (·<=·)):a=b:=
 p.eq_of_pairwise (λx y _ _ h1 h2=>Int.le_antisymm h1 h2) ha hb
section
variable {a b c:Expr} {mc:DE W} {p p2:Pos}
def xo (K:PySem.W.Frag) (vs:List V) (H:Hp) (Q:VK):zy:=∃ (p:Addr) (ns:List Int),vs=[.ref p] /\ (bO K H p (ns.map V.int) \/ bK K H p (ns.map V.int)) /\ ns.length<64 /\ ∀ l,H l=zp->Q (.ref l) (upd H l (.lst ((sortI ns).map V.int)))
theorem mY:∀ {us:List zx}{ns:List Int},IntsAre us ns->Vals (ns.map V.int) us
 |_,_,.nil=>.nil
 |_,_,.cons n t h=>.cons #[t,rfl] (mY h)
theorem GK:dY X (.builtin "sorted") (xo X.K):=by
 intro pins s σ H xs us Q I rv h;let#[p,ns,rfl,hp,bY,q]:=h;let#[u,rfl,ru]:=Vals.one rv;cases ru;have fin:∀ (its:List zx) (out:Array zx) (cA:List Int),IntsAre out.toList cA->cA.Perm ns->cA.Pairwise (·<=·)->EP X pins σ Q (.ref zK) { s with heap:=sortedAll s.heap its out }:=λits out cA a1 a2 a3=>by
  let#[k,he]:=Qu s.heap its out;have e:cA=sortI ns:=oD (a2.trans (gw ns).symm) a3 (iL ns);subst e;have hf:H zK=zp:=I.ai.fresh (rG _);have ll:((sortI ns).map V.int).length<=sizeLine:=by
   rw[aY,(gw ns).length_eq];exact bU (eV bY) zf
  refine#[.ref zK,_,I.laid (t':=s.toks) (o:=.lst ((sortI ns).map V.int)) (λb ob q=>Qv q) (rG _) ?_,rfl,q _ hf];exact#[ll,out.toList,k,mY a1,he]
 rcases hp with hp|hp
 .let#[its,r1,p1,z1]:=I.list hp;have hl:ns.length=its.length:=by have:=r1.length;simpa using this
  exact sorted_ints p1.isList (iq r1) zd λout cA=>fin its out cA
 .let#[its,r1,p1,z1]:=I.tuple hp;have hl:ns.length=its.length:=by have:=r1.length;simpa using this
  exact HT.Ak p1 (iq r1) zd λout cA=>fin its out cA
def uH:List D->Option Res
 |[.lst l]=>(intsOf l).bind λns=>if ns.length<64 then some (.lst ((sortI ns).map D.int)) else zp
 |[.tup l]=>(intsOf l).bind λns=>if ns.length<64 then some (.lst ((sortI ns).map D.int)) else zp
 |_=>zp
theorem jW:∀ (ns:List Int),aw F (ns.map D.int) (ns.map V.int):=by
 intro l_;induction l_ with
 |nil=>exact rfl
 |cons n ns ao=>exact .cons zw (ao)
theorem afb:k9 (xo K) uH:=by
 intro F H xs vs Q s sub rx e k;unfold uH at e;split at e
 .ext l;let#[v,t,rfl,#[a,us,rfl,h1,h2],rt]:=rx;cases (show t=[] from rt);cases e1:intsOf l with
  |none=>rw[e1]at e;cases e
  |some ns=>
    rw[e1]at e;erw[cj]at e;split at e
    .ext bY;cases e;have q1:=h2.ints e1;subst q1;exact#[a,ns,rfl,.inl (.of h1),bY,λl hl=>k _ _ #[l,_,rfl,hl,rfl,jW _]]
    .cases e
 .ext l;let#[v,t,rfl,#[a,us,rfl,h1,h2],rt]:=rx;cases (show t=[] from rt);cases e1:intsOf l with
  |none=>rw[e1]at e;cases e
  |some ns=>
    rw[e1]at e;erw[cj]at e;split at e
    .ext bY;cases e;have q1:=h2.ints e1;subst q1;exact#[a,ns,rfl,.inr (.of (sub _ _ h1)),bY,λl hl=>k _ _ #[l,_,rfl,hl,rfl,jW _]]
    .cases e
 .cases e
def nK (m:DE W) (k:DE W):DE W:=λenv bx=>fC zL λx bx1=>match x with
 | .b n=>(match bx1[n]? with
   | some (.lst _)=>fC (k env bx1) λy ah=>(match y,ah[n]? with
     |.d d,some (.lst l)=>if l.length<sizeLine then .val (.d .non) (ah.set n (.lst (l++[d]))) else .bad
     |_,_=>.bad)
   |_=>.bad)
 |_=>.bad
theorem T4 {Q:VK}(h:tD T Z (nK ma mb) σ H Q):HV X.K "list" ZP (tD T Z ma) (xa (tD T Z mb) yD) σ H Q:=by
 let#[F,r,env,bx,R,h]:=h;refine#[F,r,env,bx,R,End.bind h λx bx1 F1 r1 v H1 g1 R1 d1 h1=>?_];cases x with
 |d _=>exact h1.elim
 |s _=>exact h1.elim
 |x _=>exact h1.elim
 |t _=>exact h1.elim
 |m _=>exact h1.elim
 |b n=>
   simp only at h1;let#[a,rfl,ha]:=d1;let#[c,hc,kc]:=R1.hZ ha;rw[hc]at h1;cases c with
   |af _=>exact h1.elim
   |dead=>exact h1.elim
   |dT _=>exact h1.elim
   |fD _=>exact h1.elim
   |lst l0=>
     let#[_,rY,k0,_]:=kc;refine#[.inl #[rfl,rY,bO.of k0],?_];refine#[F1,r1,env,bx1,R1,End.bind h1 λy ah F2 r2 u H2 g2 R2 d2 h2=>?_];let#[t,et]:=g2.p;have uI:r2[n]?=some a:=by rw[<-et,dJ (List.getElem?_eq_some_iff.mp ha).1];exact ha
     let#[c2,eu,tJ]:=R2.hZ uI;rw[eu]at h2;cases y with
     |b _=>exact h2.elim
     |s _=>exact h2.elim
     |x _=>exact h2.elim
     |t _=>exact h2.elim
     |m _=>exact h2.elim
     |d dd=>
       cases c2 with
       |af _=>exact h2.elim
       |dead=>exact h2.elim
       |dT _=>exact h2.elim
       |fD _=>exact h2.elim
       |lst l=>
         simp only at h2;split at h2
         .ext hz;let#[hF,vs,k1,k2]:=tJ;refine#[a,vs,u,rfl,rfl,k1,by rw[<-k2.length];exact hz,?_];exact h2 F2 r2 _ _ (.refl F2 r2) (R2.write uI hF #[hF,vs++[u],fv,k2.append (.cons d2 .nil)]) zw
         .exact h2.elim
end
end L2.DL
namespace L2
section
variable {κ:Type} [DecidableEq κ]
noncomputable def kh (kvs:List (κ×V)) (k:κ):Option V:=(kvs.find? λkv=>decide (kv.1=k)).map (·.2)
noncomputable def putK (kvs:List (κ×V)) (k:κ) (v:V):List (κ×V):=
 if (kvs.any λkv=>decide (kv.1=k))=zu then kvs.map (λkv=>if kv.1=k then (kv.1,v) else kv) else kvs++[(k,v)]
noncomputable def qB (kvs:List (κ×V)) (k:κ):List (κ×V):=kvs.filter λkv=>decide (kv.1≠k)
theorem jX {p:κ×V}{r:List (κ×V)}{k:κ}(e:p.1=k):kh (p::r) k=some p.2:=by simp[kh,kZ,e]
theorem jp {p:κ×V}{r:List (κ×V)}{k:κ}(e:¬ p.1=k):kh (p::r) k=kh r k:=by simp[kh,kZ,e]
theorem Li (k:κ):∀ kvs:List (κ×V),(kvs.any λkv=>decide (kv.1=k))=(kh kvs k).isSome:=by
 intro l_;induction l_ with
 |nil=>exact rfl
 |cons p r ao=>
   rw[qI];by_cases e:p.1=k
   .erw[jX e,decide_eq_true e,Yr,Option.isSome_some]
   .rw[jp e,decide_eq_false e,Ql];exact ao
theorem jY (kvs:List (κ×V)) (k:κ) (v:V):(putK kvs k v).length<=kvs.length+1:=by
 unfold putK;split
 .rw[aY];lia
 .rw[dj,bg,kJ];lia
theorem nZ.xp {o:Option V}{u:Option zx}(r:nZ o u):o.isSome=u.isSome:=by
 cases o with
 | none=>cases u with
   |none=>rfl
   |some _=>exact(show False from r).elim
 | some _=>cases u with
   |none=>exact(show False from r).elim
   |some _=>rfl
theorem nZ.getD {o:Option V}{u:Option zx}{d:V}{d':zx}(r:nZ o u) (rd:RelV d d'):RelV (o.getD d) (u.getD d'):=by
 cases o with
 | none=>cases u with
   |none=>exact rd
   |some _=>exact(show False from r).elim
 | some _=>cases u with
   |none=>exact(show False from r).elim
   |some _=>exact r
theorem KV.val {kvs:List (κ×V)}{vs:List (κ×zx)}(r:KV kvs vs) (k:κ):nZ (kh kvs k) (valueAt vs k):=by
 unfold KV at r;induction r with
 |nil=>exact True.intro
 |@cons p q ps qs h t ih=>
   let#[h1,h2]:=h;by_cases e:p.1=k
   .have e':q.1=k:=h1.symm.trans e;have b:valueAt (q::qs) k=some q.2:=by simp[valueAt,kZ,e']
    rw[jX e,b];exact h2
   .have e':¬ q.1=k:=λz=>e (h1.trans z);have b:valueAt (q::qs) k=valueAt qs k:=by simp[valueAt,kZ,e']
    rw[jp e,b];exact ih
theorem KV.any {kvs:List (κ×V)}{vs:List (κ×zx)}(r:KV kvs vs) (k:κ):(kvs.any λkv=>decide (kv.1=k))=vs.any λkv=>decide (kv.1=k):=by
 unfold KV at r;induction r with
 |nil=>rfl
 |cons h t ih=>rw[qI,qI,ih,h.1]
theorem KV.V2 {kvs:List (κ×V)}{vs:List (κ×zx)}(r:KV kvs vs) (k:κ) {y:V}(ry:RelV y u) :
 KV (kvs.map λkv=>if kv.1=k then (kv.1,y) else kv) (vs.map λkv=>if kv.1=k then (kv.1,u) else kv):=by
 unfold KV at r ⊢;induction r with
 |nil=>exact .nil
 |@cons p q ps qs h t ih=>
   rw[az,az];refine .cons ?_ ih;let#[h1,h2]:=h;by_cases e:p.1=k
   .rw[if_pos e,if_pos (h1.symm.trans e)];exact#[h1,ry]
   .rw[if_neg e,if_neg (λz=>e (h1.trans z))];exact#[h1,h2]
theorem KV.put {kvs:List (κ×V)}{vs:List (κ×zx)}(r:KV kvs vs) (k:κ) {y:V}(ry:RelV y u):KV (putK kvs k y) (stored vs k u):=by
 unfold putK stored;rw[r.any k];by_cases e:(vs.any λkv=>decide (kv.1=k))=zu
 .rw[if_pos e,if_pos e];exact r.V2 k ry
 .rw[if_neg e,if_neg e];exact Paired.snoc r #[rfl,ry]
theorem KV.drop {kvs:List (κ×V)}{vs:List (κ×zx)}(r:KV kvs vs) (k:κ):KV (qB kvs k) (without vs k):=by
 unfold KV at r ⊢;unfold qB without;induction r with
 |nil=>exact .nil
 |@cons p q ps qs h t ih=>
   let#[h1,h2]:=h;rw[EY,EY];by_cases e:p.1=k
   .have a:¬ decide (p.1≠k)=zu:=by simp[e]
    have b:¬ decide (q.1≠k)=zu:=by simp[h1.symm.trans e]
    rw[if_neg a,if_neg b];exact ih
   .have e':¬ q.1=k:=λz=>e (h1.trans z);have a:decide (p.1≠k)=zu:=by simp[e]
    have b:decide (q.1≠k)=zu:=by simp[e']
    rw[if_pos a,if_pos b];exact .cons #[h1,h2] ih
theorem KV.length {kvs:List (κ×V)}{vs:List (κ×zx)}(r:KV kvs vs):kvs.length=vs.length:=Paired.length r
theorem Cw (kvs:List (κ×V)) (k:κ):(qB kvs k).length<=kvs.length:=ym _ _
end
theorem mK {k:Key}(r:RelV (kV k) u):(cw P w).is k u=zu:=by
 cases k with
 |inl i=>let#[t,e]:=(show ∃ t,u=Value.int i t from r);subst e;exact Ch P w i t
 |inr x=>let#[t,e]:=(show ∃ t,u=Value.str x t from r);subst e;exact Ci P w x t
theorem GL:∀ {ks:List Key}{us:List zx},Vals (ks.map kV) us->ItemsAre (cw P w) ks us:=by
 intro l_;induction l_ with
 |nil=>(intro _ r;rw[ug]at r;cases r;exact .nil)
 |cons k ks ao=>
   intro _ r;rw[az]at r;cases r with
   |cons h t=>exact .cons (mK h) (ao t)
abbrev KT (H:Hp):List (List Key×V)->List (List Key×Addr×zx)->zy:=Paired λp q=>p.1=q.1 /\ H q.2.1=some (.tup (p.1.map kV)) /\ RelV p.2 q.2.2
theorem KT.val (r:KT H kvs xs) (k:List Key):nZ (kh kvs k) ((atKey xs k).map (·.2)):=by
 induction r with
 |nil=>exact True.intro
 |@cons p q ps qs h t ih=>
   let#[h1,_,h2]:=h;by_cases e:p.1=k
   .have e':q.1=k:=h1.symm.trans e;have b:atKey (q::qs) k=some q.2:=by simp[atKey,kZ,e']
    rw[jX e,b];exact h2
   .have e':¬ q.1=k:=λz=>e (h1.trans z);have b:atKey (q::qs) k=atKey qs k:=by simp[atKey,kZ,e']
    rw[jp e,b];exact ih
theorem KT.V2 (r:KT H kvs xs) (k:List Key) {y:V}(ry:RelV y u) :
 KT H (kvs.map λkv=>if kv.1=k then (kv.1,y) else kv) (xs.map (putAt k u)):=by
 induction r with
 |nil=>exact .nil
 |@cons p q ps qs h t ih=>
   rw[az,az];refine .cons ?_ ih;let#[h1,h2,h3]:=h;unfold putAt;by_cases e:p.1=k
   .rw[if_pos e,if_pos (h1.symm.trans e)];exact#[h1,h2,ry]
   .rw[if_neg e,if_neg (λz=>e (h1.trans z))];exact#[h1,h2,h3]
theorem KT.put (r:KT H kvs xs) (k:List Key) {b:Addr}{y:V}(hb:H b=some (.tup (k.map kV))) (ry:RelV y u) :
 KT H (putK kvs k y) (storedH xs k b u):=by
 have e:(kvs.any λkv=>decide (kv.1=k))=(atKey xs k).isSome:=by
  rw[Li,(r.val k).xp,sI]
 unfold putK storedH;rw[e];by_cases q:(atKey xs k).isSome=zu
 .rw[if_pos q,if_pos q];exact r.V2 k ry
 .rw[if_neg q,if_neg q];exact Paired.snoc r #[rfl,hb,ry]
theorem KT.keeps (r:KT H kvs xs) (ht:∀ b ys,H b=some (.tup ys)->H' b=some (.tup ys)):KT H' kvs xs:=
 Paired.QR r λ_ _ z=>#[z.1,ht _ _ z.2.1,z.2.2]
section
variable {h:Heap} 
theorem PU {u:HO}(ok:ck P w H h) (e:Rd H a u):a9 P w H h a u:=e.ok ok
theorem lT {kvs:List (Key×V)}(ok:ck P w H h) (e:Rd H a zal):kvs.length<=sizeLine /\ (a==sysModules)=zc /\ ∃ vs,KV kvs vs /\ h.DictOf (cw P w) a vs:=
 show a9 P w H h a zal from PU ok e
theorem FC {kvs:List (Key×V)}(ok:ck P w H h) (e:H a=some zal):kvs.length<=sizeLine /\ (a==sysModules)=zc /\ ∃ vs,KV kvs vs /\ h.DictOf (cw P w) a vs:=lT ok (.inl e)
theorem mZ {ks:List Key}(ok:ck P w H h) (e:H a=some (.tup (ks.map kV))):(tupleKind (cw P w)).is h ks a:=by
 let#[_,its,r,o,h1,h2,n,h3]:=(show a9 P w H h a (.tup (ks.map kV)) from ok a _ e);exact#[o,its.toArray,n,h1,h2,h3,by simpa using GL r]
theorem Am (ok:ck P w H h) (e:Rd H a (.dT kvs)):kvs.length<=sizeLine /\ (a==sysModules)=zc /\
 ∃ xs,KT H kvs xs /\ h.DictOfH (tupleKind (cw P w)) a xs:=by
 let#[z,y,xs,r,o,es,ep,h1,h2,h3,h4,h5]:=(show a9 P w H h a (.dT kvs) from PU ok e);refine#[z,y,xs,r,o,es,ep,h1,h2,h3,h4,λx hx=>?_,h5];have all:∀ {l:List (List Key×V)}{m:List (List Key×Addr×zx)},KT H l m->∀ x∈m,(tupleKind (cw P w)).is h x.1 x.2.1:=by
  intro l m q;induction q with
  |nil=>intro x hx;exact nomatch hx
  |@cons p q ps qs hq t ih=>
    intro x hx;rcases bA.mp hx with e|hx
    .subst e;exact mZ ok (by rw[<-hq.1];exact hq.2.1)
    .exact ih x hx
 exact all r x hx
theorem PV (ok:ck P w H h) (e:H a=some (.dT kvs)):kvs.length<=sizeLine /\ (a==sysModules)=zc /\
 ∃ xs,KT H kvs xs /\ h.DictOfH (tupleKind (cw P w)) a xs:=Am ok (.inl e)
end
def qC (H:Hp) (a:Addr) (y:V) (r:Option V):zy:=
 (∃ kvs k,Rd H a zal /\ y=kV k /\ r=kh kvs k) \/ ∃ kvs k b,Rd H a (.dT kvs) /\ y=.ref b /\ H b=some (.tup (k.map kV)) /\ r=kh kvs k
def aaw (H:Hp) (a:Addr) (y v:V) (H':Hp):zy:=
 (∃ kvs k,H a=some zal /\ y=kV k /\ kvs.length<sizeLine /\ H'=upd H a (.dK (putK kvs k v))) \/
 ∃ kvs k b,H a=some (.dT kvs) /\ y=.ref b /\ H b=some (.tup (k.map kV)) /\ kvs.length<sizeLine /\ H'=upd H a (.dT (putK kvs k v))
theorem qC.k {H:Hp}{a:Addr}{kvs:List (Key×V)}{k:Key}(e:H a=some zal):qC H a (kV k) (kh kvs k):=.inl #[kvs,k,.inl e,rfl,rfl]
section
variable {y:V} {r:zx} {o:Option V} 
theorem Inv.big (I:Inv X pins σ H s):sysModules<s.heap.objs.size:=by
 have h:mainGlobals<s.heap.objs.size:=(I.mod.glob.keeps I.bk).lt;exact EN zf h
theorem GM (hu:A.units+1<cLine) (I:Inv X pins σ H s) (g:qC H a y (some v)) (ry:RelV y u) (h:∀ w' s',Inv X pins σ H s'->RelV v w'->Q w' s') :
 wpAny zh A (getItem (.ref a) u) Q E s:=by
 rcases g with⟨kvs,k,e,ey,l⟩|⟨kvs,k,b,e,ey,eb,l⟩
 .subst ey;let#[z,hd,vs,rel,dd]:=lT I.ai e;let#[w',hw,eX]:=nZ.some_of (v:=v) (o:=valueAt vs k) (by rw[l];exact rel.val k);exact wpAny_getItem_of (mK ry) dd.mapOf hw (h w' _ (I.tok _) eX)
 .subst ey;cases (show u=Value.ref b from ry);let#[z,hd,xs,rel,dd]:=Am I.ai e;let#[w',hw,eX]:=nZ.some_of (v:=v) (o:=(atKey xs k).map (·.2)) (by rw[l];exact rel.val k);let#[p,hp,afc]:=Option.map_eq_some_iff.mp hw;refine wpAny_getItem_heap (yb hu) (mZ I.ai eb) dd hp ?_;rw[afc];exact h w' _ (I.tok _) eX
theorem U2 (hu:A.units+1<cLine) (I:Inv X pins σ H s) (g:qC H a y o) (ry:RelV y u) (h:∀ s',Inv X pins σ H s'->Q (.bool o.isSome) s') :
 wpAny zh A (compareOp .In u (.ref a)) Q E s:=by
 rcases g with⟨kvs,k,e,ey,l⟩|⟨kvs,k,b,e,ey,eb,l⟩
 .subst ey;let#[z,hd,vs,rel,dd]:=lT I.ai e;refine wpAny_in_of (mK ry) hd dd.mapOf ?_;rw[<-(rel.val k).xp,<-l];exact h _ (I.tok _)
 .subst ey;cases (show u=Value.ref b from ry);let#[z,hd,xs,rel,dd]:=Am I.ai e;refine wpAny_in_heap (yb hu) (mZ I.ai eb) hd dd ?_;have q:=(rel.val k).xp;rw[sI]at q;rw[<-q,<-l];exact h _ (I.tok _)
theorem NP (hu:A.units+1<cLine) (I:Inv X pins σ H s) (g:qC H a y o) (ry:RelV y u) (h:∀ s',Inv X pins σ H s'->Q (.bool (!o.isSome)) s') :
 wpAny zh A (compareOp .NotIn u (.ref a)) Q E s:=by
 rcases g with⟨kvs,k,e,ey,l⟩|⟨kvs,k,b,e,ey,eb,l⟩
 .subst ey;let#[z,hd,vs,rel,dd]:=lT I.ai e;refine wpAny_notIn_of (mK ry) hd dd.mapOf ?_;rw[<-(rel.val k).xp,<-l];exact h _ (I.tok _)
 .subst ey;cases (show u=Value.ref b from ry);let#[z,hd,xs,rel,dd]:=Am I.ai e;refine wpAny_notIn_heap (yb hu) (mZ I.ai eb) hd dd ?_;have q:=(rel.val k).xp;rw[sI]at q;rw[<-q,<-l];exact h _ (I.tok _)
theorem mL {ob:HO}(I:Inv X pins σ H s) (mu:yt (H a)) (hs:Heap.SameBut a s.heap h') (he:∃ q,h'.get? a=some q) (new:a9 X.prog X.w (upd H a ob) h' a ob) :
 Inv X pins σ (upd H a ob) { s with heap:=h',toks:=t' }:=
 I.write (x:=a) (e:=a) mu (.inl zw) (λb q hb z=>(hs.2 b hb).trans z) he new
theorem BJ {kvs:List (Key×V)}{vs:List (Key×zx)}(z:kvs.length<=sizeLine) (hd:(a==sysModules)=zc) (rel:KV kvs vs) (dd:h'.DictOf (cw P w) a vs) :
 a9 P w H' h' a zal:=#[z,hd,vs,rel,dd]
theorem GN {Q:Unit->Shared->zy}(hu:A.units+1<cLine) (I:Inv X pins σ H s) (g:aaw H a y v H') (ry:RelV y u) (rv:RelV v r) (h:∀ s',Inv X pins σ H' s'->Q () s') :
 wpAny zh A (setItem (.ref a) u r) Q E s:=by
 rcases g with⟨kvs,k,e,ey,l,eH⟩|⟨kvs,k,b,e,ey,eb,l,eH⟩
 .subst ey eH;let#[z,hd,vs,rel,dd]:=FC I.ai e;have hz:vs.length<=sizeLine:=by rw[<-rel.length];exact z
  have hl:(putK kvs k v).length<=sizeLine:=by have:=jY kvs k v;lia
  refine wpAny_setItem_pairs (hsz:=hz) (mK ry) dd λh' nL hs=>h _ ?_;have he:∃ q,h'.get? a=some q:=let ⟨q,_,_,hq,_⟩:=nL;#[q,hq]
  exact mL I (by rw[e];exact True.intro) hs he (BJ hl hd (rel.put k rv) nL)
 .subst ey eH;cases (show u=Value.ref b from ry);let#[z,hd,xs,rel,dd]:=PV I.ai e;have hz:xs.length<=sizeLine:=by rw[<-Paired.length rel];exact z
  have hl:(putK kvs k v).length<=sizeLine:=by have:=jY kvs k v;lia
  refine wpAny_setItem_heap (hsz:=hz) (yb hu) (mZ I.ai eb) dd λh' nL hs=>h _ ?_;let#[q,es,ep,hq,h2,h3,h4,_,h5]:=nL;refine mL I (by rw[e];exact True.intro) hs #[q,hq] #[hl,hd,_,(rel.put k eb rv).keeps λc ys ec=>?_,q,es,ep,hq,h2,h3,h4,h5];rw[fw (TL ec e (λz=>nomatch z))];exact ec
end
section
variable {kvs:List (Key × V)} {k:Key} 
theorem GO {Q:Unit->Shared->zy}(I:Inv X pins σ H s) (e:H a=some zal) (ry:RelV (kV k) u) (l:(kh kvs k).isSome=zu) (h:∀ s',Inv X pins σ (upd H a (.dK (qB kvs k))) s'->Q () s') :
 wpAny zh A (delItem (.ref a) u) Q E s:=by
 let#[z,hd,vs,rel,dd]:=FC I.ai e
 refine wpAny_delItem_slot dd.typeIs zf YW
  (yc YW dd.typeIs PySem.F.entry_dict_delitem (PySem.F.args_dict_delitem_2 _ _) (meets_dict_delitem_pairs (cw X.prog X.w) a (mK ry)) #[vs,dd,by rw[<-rel.length];exact z,by rw[<-(rel.val k).xp];exact l,λh' nL hs=>h _ ?_])
 have he:∃ q,h'.get? a=some q:=let ⟨q,_,_,hq,_⟩:=nL;#[q,hq]
 exact mL I (by rw[e];exact True.intro) hs he (BJ (bU (Cw kvs k) z) hd (rel.drop k) nL)
theorem T5 {more:List zx}(I:Inv X pins σ H s) (e:H a=some zal) (ry:RelV (kV k) u) (l:kh kvs k=some v) (hm:more=[] \/ ∃ x,more=[x])
 (h:∀ w' s',Inv X pins σ (upd H a (.dK (qB kvs k))) s'->RelV v w'->Q w' s'):wpAny zh A (call (.builtin "dict.pop") (.ref a::u::more)) Q E s:=by
 let#[z,hd,vs,rel,dd]:=FC I.ai e;let#[w',hw,eX]:=nZ.some_of (v:=v) (o:=valueAt vs k) (by rw[<-l];exact rel.val k);have hp:(keyPart u).isSome=zu:=by
  cases k with
  |inl i=>let#[t,q]:=(show ∃ t,u=Value.int i t from ry);subst q;rfl
  |inr x=>let#[t,q]:=(show ∃ t,u=Value.str x t from ry);subst q;rfl
 have ha:argsOk "dict.pop" #[.ref a::u::more,[]]:=by
  rcases hm with q|⟨x,q⟩
  .subst q;exact PySem.F.args_dict_pop_2 _ _
  .subst q;exact PySem.F.args_dict_pop_3 _ _ _
 refine yc YX dd.typeIs PySem.F.entry_dict_pop ha (meets_dict_pop_there (cw X.prog X.w) a (mK ry) more hm hp)
  #[vs,w',dd,by rw[<-rel.length];exact z,hw,λh' nL hs=>h w' _ ?_ eX]
 have he:∃ q,h'.get? a=some q:=let ⟨q,_,_,hq,_⟩:=nL;#[q,hq]
 exact mL I (by rw[e];exact True.intro) hs he (BJ (bU (Cw kvs k) z) hd (rel.drop k) nL)
end
def Iq (i:Expr):zy:=∀ ov iv,subscripted i zc ov iv=operate [ov,iv] (getItem ov iv)
theorem NQ {env:Env}{value slice:Expr}{T id:String} 
 (hl:typeLookup (.type T) "__getitem__"=pure (some (.builtin id))) (hs:Iq slice)
 (h:wpAny zk A (eval value env) (λo s₁=>wpAny zk A (eval slice env) (λi s₂=>s₂.TypeIs o T /\ wpAny zk A (getItem o i) Q E s₂) E s₁) E s) :
 wpAny zk A (eval (.Subscript value slice pos) env) Q E s:=by
 refine Subscript_ (eT h (λo s₁ h₁=>eT h₁ (λi s₂ h₂=>?_) λ_ _ x=>x) λ_ _ x=>x);let#[hT,h₂]:=h₂;unfold subscriptTail;refine ae ?_;rw[getitemInPython_of_ne hT.not_modules];refine ae (wpAny_specialOf hT hl ?_);have fin:wpAny zk A (subscripted slice zc o i) (λr s₃=>wpAny zk A (letTemporaryGo value o r >>= λ_=>pure r) Q E s₃) E s₂:=by
  rw[hs o i];exact wpAny_operating (eT h₂ (λr s₃ h₃=>ae (wpAny_letTemporaryGo (ak h₃))) λ_ _ x=>x)
 first
  |exact ak (ae fin)
  |exact ae (ak (ae fin))
  |exact ae fin
theorem Cy {y:V}{o:Option V}(I:Inv X pins σ H s) (g:qC H a y o):s.TypeIs (.ref a) "dict":=by
 rcases g with⟨kvs,k,e,_,_⟩|⟨kvs,k,b,e,_,_,_⟩
 .let#[_,_,vs,_,dd]:=lT I.ai e;exact dd.typeIs
 .let#[_,_,xs,_,dd]:=Am I.ai e;exact dd.typeIs
def aax (td ty:TE):TE:=λσ H Q=>td σ H λx H1=>ty σ H1 λy H2=>∃ a v,x=.ref a /\ qC H2 a y (some v) /\ Q v H2
def aay (ty td:TE):TE:=λσ H Q=>ty σ H λy H1=>td σ H1 λx H2=>∃ a o,x=.ref a /\ qC H2 a y o /\ Q (.bl o.isSome) H2
def aaz (ty td:TE):TE:=λσ H Q=>ty σ H λy H1=>td σ H1 λx H2=>∃ a o,x=.ref a /\ qC H2 a y o /\ Q (.bl (!o.isSome)) H2
def aaA (td ty tv:TE):TS:=λD σ H=>tv σ H λv H1=>td σ H1 λx H2=>ty σ H2 λy H3=>∃ a H4,x=.ref a /\ aaw H3 a y v H4 /\ D.nx σ H4
def aaB (td ty:TE):TS:=λD σ H=>td σ H λx H1=>ty σ H1 λy H2=>∃ a kvs k,x=.ref a /\ H2 a=some zal /\ y=kV k /\ (kh kvs k).isSome=zu /\ D.nx σ (upd H2 a (.dK (qB kvs k)))
section
variable {o i value:Expr} {HM:Pos} {td ty tv:TE}
theorem FD (hu:X.A.units+1<cLine) (ho:PE X o td) (hi:PE X i ty) (hs:Iq i):PE X (.Subscript o i pos) (aax td ty):=by
 intro pins s σ H Q I h;refine NQ PySem.F.slot_dict_getitem.lookup hs (tE (ho pins s σ H _ I h) λu s1 x H1 I1 rx q1=>tE (hi pins s1 σ H1 _ I1 q1) λiv s2 y H2 I2 ry hh=>?_);let#[a,v,ex,g,q2]:=hh;subst ex;obtain rfl:u=Value.ref a:=rx;exact#[Cy I2 g,GM hu I2 g ry λw' s3 I3 eX=>#[v,H2,I3,eX,q2]]
theorem Lj (hu:X.A.units+1<cLine) (hi:PE X i ty) (ho:PE X o td):PC X .In i o (aay ty td):=by
 intro pins s σ H Q I h;refine tE (hi pins s σ H _ I h) λiv s1 y H1 I1 ry q1=>tE (ho pins s1 σ H1 _ I1 q1) λu s2 x H2 I2 rx hh=>?_;let#[a,ov,ex,g,q2]:=hh;subst ex;obtain rfl:u=Value.ref a:=rx;exact U2 hu I2 g ry λs3 I3=>#[.bl ov.isSome,H2,I3,rfl,q2]
theorem Bf (hu:X.A.units+1<cLine) (hi:PE X i ty) (ho:PE X o td):PC X .NotIn i o (aaz ty td):=by
 intro pins s σ H Q I h;refine tE (hi pins s σ H _ I h) λiv s1 y H1 I1 ry q1=>tE (ho pins s1 σ H1 _ I1 q1) λu s2 x H2 I2 rx hh=>?_;let#[a,ov,ex,g,q2]:=hh;subst ex;obtain rfl:u=Value.ref a:=rx;exact NP hu I2 g ry λs3 I3=>#[.bl (!ov.isSome),H2,I3,rfl,q2]
theorem FE (hu:X.A.units+1<cLine) (ho:PE X o td) (hi:PE X i ty) (hv:PE X value tv) (hs:swapsWith value (some (.Subscript o i pos')) pos.line X.env=pure zc) :
 PS X (.Assign [.Subscript o i pos'] value pos) (aaA td ty tv):=by
 intro pins s σ H D I h;refine wpAny_Assign_Subscript (tE (hv pins s σ H _ I h) λr s1 v H1 I1 rv q1=>tE (ho pins s1 σ H1 _ I1 q1) λu s2 x H2 I2 rx q2=>tE (hi pins s2 σ H2 _ I2 q2) λiv s3 y H3 I3 ry hh=>?_) hs;let#[a,H4,ex,g,q3]:=hh;subst ex;obtain rfl:u=Value.ref a:=rx;exact GN hu I3 g ry rv λs4 I4=>#[σ,H4,I4,q3]
theorem NR (ho:PE X o td) (hi:PE X i ty):PS X (.Delete [.Subscript o i HM] pos) (aaB td ty):=by
 intro pins s σ H D I h;refine wpAny_Delete (wpAny_deleteEach_cons (wpAny_delete_Subscript (tE (ho pins s σ H _ I h) λu s1 x H1 I1 rx q1=>tE (hi pins s1 σ H1 _ I1 q1) λiv s2 y H2 I2 ry hh=>?_)));let#[a,kvs,k,ex,e,ey,l,q2]:=hh;subst ex ey;obtain rfl:u=Value.ref a:=rx;exact GO I2 e ry l λs3 I3=>wpAny_deleteEach_nil #[σ,_,I3,q2]
end
theorem Cz (h:Heap) (hb:sysModules<h.objs.size):a9 P w H (h.push { cls:=.type "dict",data:=.dict #[] }) h.objs.size (.dK []):=
 #[kI _,beq_eq_false_iff_ne.mpr (Ne.symm (cH hb)),[],.nil,Heap.DictOf.new h]
theorem Lk (h:Heap) (hb:sysModules<h.objs.size):a9 P w H (h.push { cls:=.type "dict",data:=.dict #[] }) h.objs.size (.dT []):=
 #[kI _,beq_eq_false_iff_ne.mpr (Ne.symm (cH hb)),[],.nil,_,#[],0,cg _ zw,#[rfl,rfl,rfl],rfl,rfl,List.nodup_nil]
def afd:TE:=λ_ H Q=>∀ p,H p=zp->Q (.ref p) (upd H p (.dK []))
def afe:TE:=λ_ H Q=>∀ p,H p=zp->Q (.ref p) (upd H p (.dT []))
theorem CA:PE X (.Dict [] [] pos) afd:=λpins s σ H Q I h=>
 XO #[.ref s.heap.objs.size,_,I.laid (a:=s.heap.objs.size) (o:=.dK []) (t':=s.toks) (λ_ _ q=>aT _ q) (au _) (Cz s.heap I.big),rfl,h _ (I.ai.fresh (au _))]
theorem CB:PE X (.Dict [] [] pos) afe:=λpins s σ H Q I h=>
 XO #[.ref s.heap.objs.size,_,I.laid (a:=s.heap.objs.size) (o:=.dT []) (t':=s.toks) (λ_ _ q=>aT _ q) (au _) (Lk s.heap I.big),rfl,h _ (I.ai.fresh (au _))]
noncomputable def Ir:List (TE×TE)->St->Hp->(List (V×V)->Hp->zy)->zy
 |[],_,H,Q=>Q [] H
 |(tk,tv)::r,σ,H,Q=>tk σ H λx H1=>tv σ H1 λy H2=>Ir r σ H2 λps H3=>Q ((x,y)::ps) H3
abbrev VV:List (V×V)->List (zx×zx)->zy:=Paired λp q=>RelV p.1 q.1 /\ RelV p.2 q.2
def xq (X:Cx) (pos:Pos) (keys:List (Option Expr)) (values:List Expr) (tK:List (TE×TE)):zy:=
 ∀ (pins:List (Addr×Obj)) (s:Shared) (σ:St) (H:Hp) (Q:List (V×V)->Hp->zy),Inv X pins σ H s->Ir tK σ H Q ->
  wpAny zh X.A (evalPairs (pairTrees keys values X.env pos)) (λvs s'=>∃ ps H',Inv X pins σ H' s' /\ VV ps vs /\ Q ps H') X.xe s
theorem NS:xq X pos [] [] []:=λpins s σ H Q I h=>pairTrees_nil_walk #[[],H,I,.nil,h]
theorem An {k v:Expr}{ks:List (Option Expr)}{vs:List Expr}{tk tv:TE}{tK:List (TE×TE)}(hk:PE X k tk) (hv:PE X v tv) (hr:xq X pos ks vs tK) :
 xq X pos (some k::ks) (v::vs) ((tk,tv)::tK):=λpins s σ H Q I h=>
 pairTrees_cons_walk (tE (hk pins s σ H _ I h) λu s1 x H1 I1 rx q1=>tE (hv pins s1 σ H1 _ I1 q1) λw2 s2 y H2 I2 ry q2=>tP (hr pins s2 σ H2 _ I2 q2) λws s3 ps H3 I3 rel q3=>#[(x,y)::ps,H3,I3,.cons #[rx,ry] rel,q3])
def vM (kvs more:List (Key×V)):List (Key×V):=more.foldl (λacc kv=>putK acc kv.1 kv.2) kvs
theorem KV.merge:∀ {more:List (Key×V)}{rs:List (Key×zx)}{kvs:List (Key×V)}{vs:List (Key×zx)},KV more rs->KV kvs vs->KV (vM kvs more) (merged vs rs):=by
 intro more rs kvs vs r;unfold KV at r;induction r generalizing kvs vs with
 |nil=>intro q;exact q
 |@cons p q ps qs h t ih=>
   intro r0;have e:KV (putK kvs p.1 p.2) (stored vs q.1 q.2):=by
    have:=r0.put p.1 h.2;rw[<-h.1];exact this
   exact ih e
theorem AW:∀ (more kvs:List (Key×V)),(vM kvs more).length<=kvs.length+more.length:=by
 intro l_;induction l_ with
 |nil=>(intro kvs;show kvs.length<=kvs.length+0;lia)
 |cons p r ao=>
   intro kvs;have h1:=ao (putK kvs p.1 p.2);have h2:=jY kvs p.1 p.2;show (vM (putK kvs p.1 p.2) r).length<=_;rw[bg];lia
theorem DD:∀ {kvs:List (Key×V)}{ws:List (zx×zx)},VV (kvs.map λkv=>(kV kv.1,kv.2)) ws->∃ rs,Carries (cw P w) ws rs /\ KV kvs rs:=by
 intro l_;induction l_ with
 |nil=>(intro _ r;rw[ug]at r;cases r;exact#[[],True.intro,.nil])
 |cons p kvs ao=>
   intro _ r;rw[az]at r;cases r with
   |@cons a b as bs h t=>
     let#[rs,c,q]:=ao t;let#[b1,b2]:=b;exact#[(p.1,b2)::rs,#[mK h.1,rfl,c],.cons #[rfl,h.2] q]
def aff (tK:List (TE×TE)):TE:=λσ H Q=>∀ p,H p=zp->Ir tK σ (upd H p (.dK [])) λps H2=>H2 p=some (.dK []) /\ ∃ kvs:List (Key×V),ps=kvs.map (λkv=>(kV kv.1,kv.2)) /\ kvs.length<=15 /\ Q (.ref p) (upd H2 p (.dK (vM [] kvs)))
theorem NT {keys:List (Option Expr)}{values:List Expr}{tK:List (TE×TE)}(h:xq X pos keys values tK) (yI:keys.all (·.isSome)=zu) (hl:keys.length=values.length) (h0:keys≠[])
 (V3:keys.length<=15):PE X (.Dict keys values pos) (aff tK):=by
 intro pins s σ H Q I q;have hn:=I.ai.fresh (au s.heap.objs.size);have I1:=I.laid (a:=s.heap.objs.size) (o:=.dK []) (h':=s.heap.push { cls:=.type "dict",data:=.dict #[] }) (t':=s.toks) (λ_ _ q=>aT _ q) (au _) (Cz s.heap I.big);refine wpAny_Dict_walk (knd:=cw X.prog X.w) yI hl h0 V3 (tP (h pins _ σ _ _ I1 (q _ hn)) λws s2 ps H2 I2 rel hh=>?_);let#[e,kvs,ep,lk,q2]:=hh;subst ep;let#[rs,c,rk]:=DD (P:=X.prog) (w:=X.w) rel;let#[z,hd,rY,r0,dd]:=FC I2.ai e;cases r0;refine#[rs,c,dd,λh' nL hs=>#[.ref s.heap.objs.size,_,?_,rfl,q2]];have hz:(vM [] kvs).length<=sizeLine:=by
  have h1:=AW kvs [];rw[kJ]at h1;rw[bj];lia
 have he:∃ q,h'.get? s.heap.objs.size=some q:=let ⟨q,_,_,hq,_⟩:=nL;#[q,hq]
 exact mL I2 (by rw[e];exact True.intro) hs he (BJ hz hd (rk.merge .nil) nL)
structure M1 (X:Cx) (o:Expr) (m:Str) (apos:Pos) (e:Expr) (b9:Pos):zy where
 base:attributeBase o m X.env (eval o X.env)=eval o X.env
 aaC:((backTo b9 (starEach [e] X.env)).all (λx=>!x.1)&&(backToKw b9 (keywordEach [] X.env)).all (λx=>x.1.isSome)
  && decide (([e]:List Expr).length+([]:List Keyword).length+(if ([]:List Keyword).isEmpty then 0 else 1)<30))=zu
 line:(apos.endLine==b9.line)=zu
 trees:backTo b9 (starEach [e] X.env)=[zaB]
def V4 (H:Hp) (a:Addr):zy:=(∃ kvs,Rd H a zal) \/ ∃ kvs,Rd H a (.dT kvs)
theorem DH (I:Inv X pins σ H s) (d:V4 H a) :
 s.TypeIs (.ref a) "dict" /\ (∀ b,Value.ref a=.ref b->∃ ob,s.heap.get? b=some ob /\ ob.dict=zp) /\ (a==sysModules)=zc:=by
 rcases d with⟨kvs,e⟩|⟨kvs,e⟩
 .let#[_,hd,vs,_,dd]:=lT I.ai e;refine#[dd.typeIs,λb q=>?_,hd];cases q;let#[ob,_,_,h1,h2,_]:=dd;exact#[ob,h1,h2.2.1]
 .let#[_,hd,xs,_,dd]:=Am I.ai e;refine#[dd.typeIs,λb q=>?_,hd];cases q;let#[ob,_,_,h1,h2,_]:=dd;exact#[ob,h1,h2.2.1]
section
variable {y d:V} {r:zx} {o:Option V} 
theorem Sd (hu:A.units+1<cLine) (I:Inv X pins σ H s) (g:qC H a y o) (ry:RelV y u) (h:∀ w' s',Inv X pins σ H s'->RelV (o.getD .non) w'->Q w' s') :
 wpAny zh A (call (.builtin "dict.get") [.ref a,u]) Q E s:=by
 rcases g with⟨kvs,k,e,ey,l⟩|⟨kvs,k,b,e,ey,eb,l⟩
 .subst ey;let#[z,hd,vs,rel,dd]:=lT I.ai e;refine yc QJ dd.typeIs YY (YZ _ _) (meets_dict_get (cw X.prog X.w) a (mK ry) hd) #[_,dd.mapOf,h _ _ (I.tok _) ?_];rw[l];exact(rel.val k).getD zw
 .subst ey;cases (show u=Value.ref b from ry);let#[z,hd,xs,rel,dd]:=Am I.ai e;refine yc QJ dd.typeIs YY (YZ _ _) (meetsH_dict_get (tupleKind (cw X.prog X.w)) a b hd) #[yb hu,k,xs,mZ I.ai eb,dd,h _ _ (I.tok _) ?_];rw[l];exact(rel.val k).getD zw
end
def aaD (td ty:TE):TE:=λσ H Q=>td σ H λx H1=>∃ a,x=.ref a /\ V4 H1 a /\ ty σ H1 λy H2=>∃ o,qC H2 a y o /\ Q (o.getD .non) H2
def aaE (td ty:TE):TE:=λσ H Q=>td σ H λx H1=>∃ a,x=.ref a /\ V4 H1 a /\ ty σ H1 λy H2=>∃ kvs k v,H2 a=some zal /\ y=kV k /\ kh kvs k=some v /\ Q v (upd H2 a (.dK (qB kvs k)))
section
variable {o f:Expr} {b9:Pos} {td ty tx:TE}
theorem Ll (hu:X.A.units+1<cLine) (ho:PE X o td) (he:PE X e ty) (m:M1 X o "get" apos e b9):PE X (.Call (.Attribute o "get" apos) [e] [] b9) (aaD td ty):=by
 intro pins s σ H Q I h;refine KU m.base m.aaC m.line QK QJ PySem.F.type_dict_get (tE (ho pins s σ H _ I h) λu s1 x H1 I1 rx hh=>?_);let#[a,ex,d,q1]:=hh;subst ex;obtain rfl:u=Value.ref a:=rx;let#[t1,t2,_]:=DH I1 d;refine#[t1,t2,?_];rw[m.trees];refine Hl zw (Hm (vk (tE (he pins s1 σ H1 _ I1 q1) λiv s2 y H2 I2 ry ⟨ov,g,q2⟩=>vj ?_)));exact Sd hu I2 g ry λw' s3 I3 eX=>#[_,H2,I3,eX,q2]
theorem Lm (ho:PE X o td) (he:PE X e ty) (m:M1 X o "pop" apos e b9):PE X (.Call (.Attribute o "pop" apos) [e] [] b9) (aaE td ty):=by
 intro pins s σ H Q I h;refine KU m.base m.aaC m.line QK YX PySem.F.type_dict_pop (tE (ho pins s σ H _ I h) λu s1 x H1 I1 rx hh=>?_);let#[a,ex,d,q1]:=hh;subst ex;obtain rfl:u=Value.ref a:=rx;let#[t1,t2,_]:=DH I1 d;refine#[t1,t2,?_];rw[m.trees];refine Hl zw (Hm (vk (tE (he pins s1 σ H1 _ I1 q1) λiv s2 y H2 I2 ry ⟨kvs,k,v,ea,ey,l,q2⟩=>vj ?_)));subst ey;exact T5 I2 ea ry l (.inl zw) λw' s3 I3 eX=>#[v,_,I3,eX,q2]
end
section
variable {kvs:List (Key × V)} 
end
section
variable {y:V} 
end
end L2
namespace L2.DL
noncomputable def di:Key->PyData
 |.inl i=>.int i
 |.inr x=>.str x
mutual
noncomputable def toPy:D->PyData
 |.non=>.none
 |.bl b=>.bool b
 |.int i=>.int i
 |.str x=>.str x
 |.tup l=>.tuple (bI l)
 |.lst l=>.list (bI l)
 |.af l=>.dict (bP l)
noncomputable def bI:List D->List PyData
 |[]=>[]
 |d::l=>toPy d::bI l
noncomputable def bP:List (Key×D)->List (PyData×PyData)
 |[]=>[]
 |(k,d)::l=>(di k,toPy d)::bP l
end
theorem m7 {h:Heap}:∀ {es:List DictEntry}{vs:List (Key×zx)}{l:List (Key×D)}{kvs:List (Key×V)},PySem.Pairs (cw X.prog X.w) es vs->KV kvs vs->aC F l kvs->ReadsAll h (es.map (·.key)) ((bP l).map (·.1)) []
 | _,_,[],_,p,k,d=>by
   cases (show _=[] from d);cases k;cases p;exact .nil
 | _,_,(k,x)::l,_,p,q,d=>by
   let#[v,r,e,_,d2]:=d;subst e;cases q with
   |cons q1 q2=>
     cases p with
     |@cons de _ _ _ p1 p2 p3=>
       have ih:=m7 (h:=h) p3 q2 d2;have e1:=q1.1;simp only at e1;rw[<-e1]at p1;have hk:Reads h de.key (di k) []:=by
        rcases fX (show sL k de.key=true from p1) with⟨i,t,e2,e3⟩|⟨y,t,e2,e3⟩
        .rw[e2,e3];exact .int i t
        .rw[e2,e3];exact .str y t
       exact ReadsAll.cons hk ih
mutual
theorem gi (I:Inv X pins σ H s) (sub:Sub F H):∀ {d:D}{v:V}{u:zx},Den F d v->RelV v u->∃ as,Reads s.heap u (toPy d) as
 |.non,_,_,h,r=>by cases (show _=V.non from h);cases r;exact#[[],.none]
 |.bl b,_,_,h,r=>by cases (show _=V.bl b from h);cases r;exact#[[],.bool b]
 |.int i,_,_,h,r=>by cases (show _=V.int i from h);let#[t,rfl]:=r;exact#[[],.int i t]
 |.str x,_,_,h,r=>by cases (show _=V.str x from h);let#[t,rfl]:=r;exact#[[],.str x t]
 | .tup l,_,_,h,r=>by
   let#[a,vs,rfl,h1,h2]:=h;cases r;let#[_,its,rv,ob,e1,e2,n,e3]:=(show a9 X.prog X.w H s.heap a (.tup vs) from I.ai a _ (sub _ _ h1));let#[as,ra]:=jB I sub h2 rv;exact#[as,.tuple e1 e2 e3 (by simpa using ra)]
 | .lst l,_,_,h,r=>by
   let#[a,vs,rfl,h1,h2]:=h;cases r;let#[_,its,n,rv,e1]:=(show a9 X.prog X.w H s.heap a (.lst vs) from I.ai a _ (sub _ _ h1));let#[as,ra]:=jB I sub h2 rv;exact#[a::as,.list e1 zw zw (by simpa using ra)]
 | .af l,_,_,h,r=>by
   let#[a,kvs,rfl,h1,h2]:=h;cases r;let#[_,_,vs,rk,ob,es,ep,e1,e2,e3,_,pr,_]:=(show a9 X.prog X.w H s.heap a zal from I.ai a _ (sub _ _ h1));let#[as,ra]:=lY I sub h2 rk pr;exact#[a::[]++as,.dict e1 e2.1 e3 (m7 (X:=X) pr rk h2) ra]
theorem jB (I:Inv X pins σ H s) (sub:Sub F H):∀ {l:List D}{vs:List V}{us:List zx},aw F l vs->Vals vs us->∃ as,ReadsAll s.heap us (bI l) as
 |[],_,_,h,r=>by cases (show _=[] from h);cases r;exact#[[],.nil]
 | d::l,_,_,h,r=>by
   let#[v,t,e,h1,h2]:=h;subst e;cases r with
   |cons r1 r2=>
     let#[as,ra]:=gi I sub h1 r1;let#[bs,rb]:=jB I sub h2 r2;exact#[as++bs,.cons ra rb]
theorem lY (I:Inv X pins σ H s) (sub:Sub F H):∀ {l:List (Key×D)}{kvs:List (Key×V)}{vs:List (Key×zx)}{es:List DictEntry},aC F l kvs->KV kvs vs->PySem.Pairs (cw X.prog X.w) es vs->∃ as,ReadsAll s.heap (es.map (·.val)) ((bP l).map (·.2)) as
 |[],_,_,_,h,r,p=>by cases (show _=[] from h);cases r;cases p;exact#[[],.nil]
 | (k,d)::l,_,_,_,h,r,p=>by
   let#[v,t,e,h1,h2]:=h;subst e;cases r with
   |cons r1 r2=>
     cases p with
     |cons p1 p2 p3=>
       let#[as,ra]:=gi I sub h1 r1.2;let#[bs,rb]:=lY I sub h2 r2 p3;rw[<-p2]at ra;exact#[as++bs,.cons ra rb]
end
abbrev yY (ts:List Str):zy:=∀ t∈ts,t.length<=sizeLine
theorem Ln {h:Heap}{k:Key}{y:zx}(e:sL k y=zu) (hs:(di k).showable=zu) (hz:(di k).shown.length<=sizeLine) (n:Nat):ReprK X.prog X.w [] h n y (di k).shown:=by
 rcases fX e with⟨i,t,e2,e3⟩|⟨x,t,e2,e3⟩
 .subst e2;subst e3;exact .of_is (ReprIs.int t (by simpa[di,PyData.showable] using hs)) _ _ _
 .subst e2;subst e3;exact .of_is (ReprIs.str x t (by simpa only[di,PyData.shown] using hz)) _ _ _
theorem m8 {h:Heap}{n:Nat}:∀ {es:List DictEntry}{vs:List (Key×zx)}{l:List (Key×D)}{kvs:List (Key×V)},PySem.Pairs (cw X.prog X.w) es vs->KV kvs vs->aC F l kvs->PyData.showableKv (bP l)=zu->yY (PyData.shownKv (bP l)) ->
 ReprAllK X.prog X.w [] h n (es.map (·.key)) (PyData.shownAll ((bP l).map (·.1)))
 | _,_,[],_,p,k,d,_,_=>by
   cases (show _=[] from d);cases k;cases p;exact .nil
 | _,_,(k,x)::l,_,p,q,d,hs,hz=>by
   let#[v,r,e,_,d2]:=d;subst e;erw[bP,PyData.showableKv,aD]at hs;erw[bP,PyData.shownKv]at hz;have z1:=hz _ (bF ..);rw[pJ,pJ]at z1;cases q with
   |cons q1 q2=>
     cases p with
     |@cons de _ _ _ p1 p2 p3=>
       have e1:=q1.1;simp only at e1;rw[<-e1]at p1;erw[bP,az,PyData.shownAll];exact .cons (Ln (show sL k de.key=zu from p1) hs.1.1 zd n) (m8 p3 q2 d2 hs.2 λt m=>hz t (bD _ m))
mutual
theorem CC (I:Inv X pins σ H s) (sub:Sub F H):∀ {d:D}{v:V}{u:zx},Den F d v->RelV v u->(toPy d).showable=zu->(toPy d).shown.length<=sizeLine->∃ bs,ReadAtMost s.heap (toPy d).depth bs /\ ReprK X.prog X.w bs s.heap (toPy d).depth u (toPy d).shown
 |.non,_,_,h,r,_,_=>by cases (show _=V.non from h);cases r;exact#[[],(λ_ z=>nomatch z),.of_is ReprIs.none _ _ _]
 |.bl b,_,_,h,r,_,_=>by cases (show _=V.bl b from h);cases r;exact#[[],(λ_ z=>nomatch z),.of_is (ReprIs.bool b) _ _ _]
 |.int i,_,_,h,r,hs,_=>by cases (show _=V.int i from h);let#[t,rfl]:=r;exact#[[],(λ_ z=>nomatch z),.of_is (ReprIs.int t (of_decide_eq_true hs)) _ _ _]
 |.str x,_,_,h,r,_,hz=>by cases (show _=V.str x from h);let#[t,rfl]:=r;exact#[[],(λ_ z=>nomatch z),.of_is (ReprIs.str x t hz) _ _ _]
 | .tup l,_,_,h,r,hs,hz=>by
   let#[as,rd]:=gi I sub h r;let#[a,vs,rfl,h1,h2]:=h;cases r;let#[_,its,rv,ob,e1,e2,n,e3]:=(show a9 X.prog X.w H s.heap a (.tup vs) from I.ai a _ (sub _ _ h1));have nM:(tupleText (PyData.shownAll (bI l))).length<=sizeLine:=by simpa only[toPy,PyData.shown] using hz
   let#[bs,hb,hk]:=jq I sub h2 rv (by simpa[toPy,PyData.showable] using hs) λt m=>bU (XQ m) nM;erw[toPy,PyData.depth,PyData.shown]at rd ⊢;exact#[a::bs,ReadAtMost.cons rd (rG _) hb,ReprK.tuple e1 e2 e3 (wB rd (sy _) hb) (by simpa using hk)]
 | .lst l,_,_,h,r,hs,hz=>by
   let#[as,rd]:=gi I sub h r;let#[a,vs,rfl,h1,h2]:=h;cases r;let#[_,its,n,rv,e1]:=(show a9 X.prog X.w H s.heap a (.lst vs) from I.ai a _ (sub _ _ h1));have nM:(listText (PyData.shownAll (bI l))).length<=sizeLine:=by simpa only[toPy,PyData.shown] using hz
   let#[bs,hb,hk]:=jq I sub h2 rv (by simpa[toPy,PyData.showable] using hs) λt m=>bU (XR m) nM;erw[toPy,PyData.depth,PyData.shown]at rd ⊢;refine#[a::bs,ReadAtMost.cons rd (rG _) hb,?_];cases its with
   |nil=>
     have e:bI l=[]:=by
      cases l with
      |nil=>rfl
      |cons x l=>let#[v,t,e,_]:=h2;subst e;cases rv
     rw[e];erw[PyData.shownAll,XS];exact ReprK.listEmpty e1 zw zw
   |cons x its=>exact ReprK.list e1 zw zw (wB rd (sy _) hb) (by simpa using hk.length_eq) λi y q=>hk.item i y (by simpa using q)
 | .af l,_,_,h,r,hs,hz=>by
   let#[as,rd]:=gi I sub h r;let#[a,kvs,rfl,h1,h2]:=h;cases r;let#[_,hy,vs,rk,ob,es,ep,e1,e2,e3,_,pr,_]:=(show a9 X.prog X.w H s.heap a zal from I.ai a _ (sub _ _ h1));have nM:(dictText (PyData.shownKv (bP l))).length<=sizeLine:=by simpa only[toPy,PyData.shown] using hz
   have fit:yY (PyData.shownKv (bP l)):=λt m=>bU (XT m) nM;have yZ:PyData.showableKv (bP l)=zu:=by simpa[toPy,PyData.showable] using hs
   let#[bs,hb,hk]:=m9 I sub h2 rk pr yZ fit;have hK:=m8 (X:=X) (h:=s.heap) (n:=PyData.depthKv (bP l)) pr rk h2 yZ fit;erw[toPy,PyData.depth,PyData.shown]at rd ⊢;rw[QO];exact#[a::bs,ReadAtMost.cons rd (rG _) hb,ReprK.dict e1 e2.1 e3 hy (wB rd (sy _) hb) (Zk _ _ _ (hK.more_le (λ_ z=>by cases z) (au _)) hk)]
theorem jq (I:Inv X pins σ H s) (sub:Sub F H):∀ {l:List D}{vs:List V}{us:List zx},aw F l vs->Vals vs us->PyData.showableAll (bI l)=zu->yY (PyData.shownAll (bI l))->∃ bs,ReadAtMost s.heap (PyData.depthAll (bI l)) bs /\ ReprAllK X.prog X.w bs s.heap (PyData.depthAll (bI l)) us (PyData.shownAll (bI l))
 |[],_,_,h,r,_,_=>by cases (show _=[] from h);cases r;exact#[[],(λ_ z=>nomatch z),.nil]
 | d::l,_,_,h,r,hs,hz=>by
   let#[v,t,e,h1,h2]:=h;subst e;erw[bI,PyData.showableAll,aD]at hs;erw[bI,PyData.shownAll]at hz;cases r with
   |cons r1 r2=>
     let#[as,ha,ka]:=CC I sub h1 r1 hs.1 (hz _ (bF ..));let#[bs,hb,kb]:=jq I sub h2 r2 hs.2 λt m=>hz t (bD _ m);erw[bI,PyData.depthAll,PyData.shownAll];have la:=Nat.le_max_left (toPy d).depth (PyData.depthAll (bI l));have lb:=Nat.le_max_right (toPy d).depth (PyData.depthAll (bI l));exact#[as++bs,(ha.mono la).append (hb.mono lb),.cons ((ka.more λ_ m=>qH _ m).level_le la) (kb.more_le (λ_ m=>kY _ m) lb)]
theorem m9 (I:Inv X pins σ H s) (sub:Sub F H):∀ {l:List (Key×D)}{kvs:List (Key×V)}{vs:List (Key×zx)}{es:List DictEntry},aC F l kvs->KV kvs vs->PySem.Pairs (cw X.prog X.w) es vs->PyData.showableKv (bP l)=zu->yY (PyData.shownKv (bP l)) ->
 ∃ bs,ReadAtMost s.heap (PyData.depthKv (bP l)) bs /\ ReprAllK X.prog X.w bs s.heap (PyData.depthKv (bP l)) (es.map (·.val)) (PyData.shownAll ((bP l).map (·.2)))
 |[],_,_,_,h,r,p,_,_=>by cases (show _=[] from h);cases r;cases p;exact#[[],(λ_ z=>nomatch z),.nil]
 | (k,d)::l,_,_,_,h,r,p,hs,hz=>by
   let#[v,t,e,h1,h2]:=h;subst e;erw[bP,PyData.showableKv,aD]at hs;erw[bP,PyData.shownKv]at hz;have z1:=hz _ (bF ..);rw[pJ,pJ]at z1;cases r with
   |cons r1 r2=>
     cases p with
     |cons p1 p2 p3=>
       let#[as,ha,ka]:=CC I sub h1 r1.2 hs.1.2 zd;let#[bs,hb,kb]:=m9 I sub h2 r2 p3 hs.2 λt m=>hz t (bD _ m);rw[<-p2]at ka;erw[bP,PyData.depthKv,az,PyData.shownAll];have la:(toPy d).depth<=max (max (di k).depth (toPy d).depth) (PyData.depthKv (bP l)):=by lia
       have lb:PyData.depthKv (bP l)<=max (max (di k).depth (toPy d).depth) (PyData.depthKv (bP l)):=by lia
       exact#[as++bs,(ha.mono la).append (hb.mono lb),.cons ((ka.more λ_ m=>qH _ m).level_le la) (kb.more_le (λ_ m=>kY _ m) lb)]
end
section
variable {a b c:Expr} {mc:DE W} {p p2:Pos}
def afg (vs:List V) (H:Hp) (Q:VK):zy:=∃ (F:Hp) (d:D) (v:V),vs=[v] /\ Sub F H /\ Den F d v /\ (toPy d).showable=zu /\ (toPy d).depth<=60 /\ (toPy d).shown.length<=sizeLine /\ Q (.str (toPy d).shown) H
theorem GP {k:Nat}(hr:cx k X.A):dY X (.builtin "repr") afg:=by
 intro pins s σ H xs us Q I rv h;let#[F,d,v,rfl,sub,hd,h1,h2,h3,q]:=h;let#[u,rfl,ru]:=Vals.one rv;have fin:∀ (t:Tok) (tk:Nat),EP X pins σ Q (.str (toPy d).shown t) { s with toks:=tk }:=λt tk=>#[.str _,H,I.tok tk,#[t,rfl],q];have Iu:∀ (t':Str),t'=(toPy d).shown->∀ h' u tk,(∀ b o,s.heap.get? b=some o->h'.get? b=some o)->∃ x t,Value.str t' u=.str x t /\ EP X pins σ Q (.str t' u) { s with heap:=h',toks:=tk }:=λt' et h' t tk hk=>by
  subst et;exact#[_,_,rfl,.str _,H,I.kept (t':=tk) hk,#[t,rfl],q]
 have hu:=hr.units;cases d with
 |non=>cases (show v=.non from hd);cases ru;exact P.repr_of_none (fin _ _)
 |bl b=>cases (show v=.bl b from hd);cases ru;exact P.repr_of_bool (fin _ _)
 |int i=>cases (show v=.int i from hd);let#[t,rfl]:=ru;exact P.repr_of_int (of_decide_eq_true h1) (fin _ _)
 |str x=>cases (show v=.str x from hd);let#[t,rfl]:=ru;exact P.repr_of_str (hsz:=h3) (fin _ _)
 |tup l=>
   let#[as,rd]:=gi I sub hd ru;let#[a,vs,rfl,k1,k2]:=hd;cases ru;let#[_,its,rv,ob,e1,e2,n,e3]:=(show a9 X.prog X.w H s.heap a (.tup vs) from I.ai a _ (sub _ _ k1));have nM:(tupleText (PyData.shownAll (bI l))).length<=sizeLine:=by simpa only[toPy,PyData.shown] using h3
   let#[bs,hb,hk]:=jq I sub k2 rv (by simpa[toPy,PyData.showable] using h1) λt m=>bU (XQ m) nM;erw[toPy,PyData.depth]at rd h2;exact KW zd #[ob,e1,e2] PySem.F.slot_tuple_repr (call_tuple_reprK e1 e2 e3 (wB rd (sy _) hb) (by simpa using hk) hr.gd (λb _=>Clear.nil b) (by show X.A.units+1+_<cLine;lia) (λ_ _ z=>z) (Iu _ (by erw[toPy,PyData.shown])) nM)
 |lst l=>
   let#[as,rd]:=gi I sub hd ru;let#[a,vs,rfl,k1,k2]:=hd;cases ru;let#[_,its,n,rv,e1]:=(show a9 X.prog X.w H s.heap a (.lst vs) from I.ai a _ (sub _ _ k1));have nM:(listText (PyData.shownAll (bI l))).length<=sizeLine:=by simpa only[toPy,PyData.shown] using h3
   let#[bs,hb,hk]:=jq I sub k2 rv (by simpa[toPy,PyData.showable] using h1) λt m=>bU (XR m) nM;erw[toPy,PyData.depth]at rd h2;refine KW zd #[_,e1,rfl] PySem.F.slot_list_repr.toG ?_;cases its with
   |nil=>
     have e:bI l=[]:=by
      cases l with
      |nil=>rfl
      |cons x l=>let#[v,t,e,_]:=k2;subst e;cases rv
     exact call_list_repr_empty #[_,e1,rfl] e1 zw (Iu "[]" (by erw[toPy,PyData.shown,e,PyData.shownAll,XS]) s.heap _ _ λ_ _ z=>z)
   |cons x its=>exact call_list_reprK e1 zw zw (wB rd (sy _) hb) (by simpa using hk.length_eq) (λi y q=>hk.item i y (by simpa using q)) hr.gd (λb _=>Clear.nil b) (by show X.A.units+1+_<cLine;lia) (λ_ _ z=>z) (Iu _ (by erw[toPy,PyData.shown])) nM
 |af l=>
   let#[as,rd]:=gi I sub hd ru;let#[a,kvs,rfl,k1,k2]:=hd;cases ru;let#[_,hy,vs,rk,ob,es,ep,e1,e2,e3,_,pr,_]:=(show a9 X.prog X.w H s.heap a zal from I.ai a _ (sub _ _ k1));have nM:(dictText (PyData.shownKv (bP l))).length<=sizeLine:=by simpa only[toPy,PyData.shown] using h3
   have fit:yY (PyData.shownKv (bP l)):=λt m=>bU (XT m) nM;have yZ:PyData.showableKv (bP l)=zu:=by simpa[toPy,PyData.showable] using h1
   let#[bs,hb,hk]:=m9 I sub k2 rk pr yZ fit;have hK:=m8 (X:=X) (h:=s.heap) (n:=PyData.depthKv (bP l)) pr rk k2 yZ fit;erw[toPy,PyData.depth]at rd h2;rw[QO]at nM;exact KW zd #[ob,e1,e2.1] PySem.F.slot_dict_repr (call_dict_reprK e1 e2.1 e3 hy (wB rd (sy _) hb) (Zk _ _ _ (hK.more_le (λ_ z=>by cases z) (au _)) hk) hr.gd (λb _=>Clear.nil b) (by show X.A.units+1+_<cLine;lia) (λ_ _ z=>z) (Iu _ (by erw[toPy,PyData.shown,QO])) nM)
def uJ (d:D):Bool:=(toPy d).showable&&decide ((toPy d).depth<=60)&&decide ((toPy d).shown.length<=sizeLine)
theorem NU (s:Sub F H):∀ {d:D}{v:V},qy F H d v->∃ F',Sub F' H /\ Den F' d v
 | .lst l,_,h=>by
   let#[a,vs,rfl,h1,h2]:=h;refine#[upd F a (.lst vs),λb u e=>?_,a,vs,rfl,fv,aw.mono (λb u e=>?_) l h2]
   .by_cases z:b=a
    .subst z;rw[fv]at e;rw[h1,e]
    .rw[fw z]at e;exact s b u e
   .by_cases z:b=a
    .subst z;rw[s b u e]at h1;rw[fv,h1]
    .rw[fw z];exact e
 | .af l,_,h=>by
   let#[a,vs,rfl,h1,h2]:=h;refine#[upd F a (.dK vs),λb u e=>?_,a,vs,rfl,fv,aC.mono (λb u e=>?_) l h2]
   .by_cases z:b=a
    .subst z;rw[fv]at e;rw[h1,e]
    .rw[fw z]at e;exact s b u e
   .by_cases z:b=a
    .subst z;rw[s b u e]at h1;rw[fv,h1]
    .rw[fw z];exact e
 |.tup _,_,h=>#[F,s,h]
 |.non,_,h=>#[F,s,h]
 |.bl _,_,h=>#[F,s,h]
 |.int _,_,h=>#[F,s,h]
 |.str _,_,h=>#[F,s,h]
def kC (m:DE W):DE W:=λenv bx=>fC zL λw bx1=>match bT bx1 w with
 |some d=>if uJ d=zu then .val (.d (.str (toPy d).shown)) bx1 else .bad
 |none=>.bad
theorem NV {k:Nat}(hr:cx k X.A) (hg:Gl X "repr") (hm:X.mg "repr"=zp) (ha:PD X T Z a ma) (he:starEach [a] X.env=(zc,eval a X.env)::starEach [] X.env:=by rfl) :
 PD X T Z (.Call (.Name "repr" p) [a] [] pos) (kC ma):=by
 refine PE.imp (fU (GP hr) hg hm (by decide +kernel) (fA ha fS he) zf zf he (by rfl)) λσ H Q=>x4 λF r env bx R h=>?_;refine#[F,r,env,bx,R,End.bind h λw bx1 F1 r1 v H1 g1 R1 d1 h1=>?_];split at h1
 .ext d er;let#[F2,sub,d2]:=NU R1.fh (R1.qT d1 er);split at h1
  .ext hc;unfold uJ at hc;rw[aD,aD]at hc;exact#[F2,d,v,rfl,sub,d2,hc.1.1,of_decide_eq_true hc.1.2,of_decide_eq_true hc.2,h1 F1 r1 _ H1 zat R1 zw]
  .exact h1.elim
 .exact h1.elim
end
theorem lC (I:Inv X pins σ H s) (sub:Sub F H) {d:D}(h:qy F H d v) (r:RelV v u):∃ as,Reads s.heap u (toPy d) as:=by
 cases d with
 |lst l=>
   let#[a,vs,rfl,h1,h2]:=h;cases r;let#[_,its,n,rv,e1]:=(show a9 X.prog X.w H s.heap a (.lst vs) from I.ai a _ h1);let#[as,ra]:=jB I sub h2 rv;exact#[a::as,.list e1 zw zw (by simpa using ra)]
 |af l=>
   let#[a,kvs,rfl,h1,h2]:=h;cases r;let#[_,_,vs,rk,ob,es,ep,e1,e2,e3,_,pr,_]:=(show a9 X.prog X.w H s.heap a zal from I.ai a _ h1);let#[as,ra]:=lY I sub h2 rk pr;exact#[a::[]++as,.dict e1 e2.1 e3 (m7 (X:=X) pr rk h2) ra]
 |tup l=>exact gi (d:=.tup l) I sub h r
 |non=>exact gi (d:=.non) I sub h r
 |bl b=>exact gi (d:=.bl b) I sub h r
 |int i=>exact gi (d:=.int i) I sub h r
 |str x=>exact gi (d:=.str x) I sub h r
def pZ (d:D):Bool:=(toPy d).canLay0&&decide ((toPy d).depth<=60)
def eqv (x y:D):Bool:=PyData.eqv (toPy x) (toPy y)
theorem BK {d:D}(h:pZ d=zu):(toPy d).canLay0=zu /\ (toPy d).depth<=60:=by
 unfold pZ at h
 rwa [aD,decide_eq_true_eq]at h
noncomputable def aJ:D->D->Option Res
 |.int i,.int j=>some (.old (.bl (decide (i=j))))
 |.str i,.str j=>some (.old (.bl (decide (i=j))))
 |_,_=>zp
noncomputable def cP:D->D->Option Res
 |.int i,.int j=>some (.old (.bl (!decide (i=j))))
 |.str i,.str j=>some (.old (.bl (!decide (i=j))))
 |_,_=>zp
theorem Se (hu:X.A.units+100<cLine):ba X (compareOp .Eq) Q5:=TM
theorem Sf (hu:X.A.units+100<cLine):ba X (compareOp .NotEq) Q6:=PN
theorem afh:cB Q5 aJ:=by
 intro F H x y v w Q s sub rx ry e k;unfold aJ at e;split at e
 .ext i j;cases e;cases (show v=.int i from rx);cases (show w=.int j from ry);exact#[rfl,k _ _ #[rfl,by show _=_;simp]]
 .ext i j;cases e;cases (show v=.str i from rx);cases (show w=.str j from ry);exact#[rfl,k _ _ #[rfl,by show _=_;simp]]
 .cases e
theorem afi:cB Q6 cP:=by
 intro F H x y v w Q s sub rx ry e k;unfold cP at e;split at e
 .ext i j;cases e;cases (show v=.int i from rx);cases (show w=.int j from ry);exact#[rfl,k _ _ #[rfl,by show _=_;simp]]
 .ext i j;cases e;cases (show v=.str i from rx);cases (show w=.str j from ry);exact#[rfl,k _ _ #[rfl,by show _=_;simp]]
 .cases e
end L2.DL
namespace HT
section
open PySem.SeqAt
open PySem.AutoSeq1 (wpAny_loadPart')
open PySem.MeetsSeq PySem.MeetsSeq2 PySem.MeetsSeq3
end
section
open PySem.AutoSeq1 (wpAny_loadPart')
end
end HT
namespace L2.DL
section
variable {a b c:Expr} {mc:DE W} {p p2:Pos}
theorem NW:ba X (binaryOp .Mult) (rI ur λi j=>.int (i*j)):=Rv
noncomputable def km:D->D->Option Res:=λx y=>match x,y with|.int i,.int j=>if ur i j then some (.old (.int (i*j))) else zp|_,_=>zp
theorem aw.rep {F:Hp}{l:List D}{vs:List V}(h:aw F l vs):∀ k:Nat,aw F (List.replicate k l).flatten (List.replicate k vs).flatten
 |0=>rfl
 | k+1=>by
   rw[ET,ET,EU,EU];exact h.append (h.rep k)
theorem afj:cB (rI ur λi j=>.int (i*j)) km:=Im (g:=λi j=>.int (i*j)) λ_ _ _=>rfl
theorem Sg (hu:X.A.units<cLine):ba X (compareOp .LtE) (eY λi j=>.bl (decide (i<=j))):=TQ
noncomputable def pz:D->D->Option Res:=λx y=>match x,y with|.int i,.int j=>some (.old (.bl (decide (i<=j))))|_,_=>zp
theorem afk:cB (eY λi j=>.bl (decide (i<=j))) pz:=Io (g:=λi j=>.bl (decide (i<=j))) λ_ _ _=>rfl
theorem GQ {o:Expr}(ho:PD X T Z o ma) (ha:PD X T Z e mb)
 (vv:attributeBase o "append" X.env (eval o X.env)=eval o X.env:=by rfl)
 (vw:((backTo pos (starEach [e] X.env)).all (λx=>!x.1)&&(backToKw pos (keywordEach [] X.env)).all (λx=>x.1.isSome)
  && decide ([e].length+([]:List Keyword).length+(if ([]:List Keyword).isEmpty then 0 else 1)<30))=zu:=by rfl)
 (hline:(apos.endLine==pos.line)=zu:=by rfl) (hs:starEach [e] X.env=zaB::starEach [] X.env:=by rfl) :
 PD X T Z (.Call (.Attribute o "append" apos) [e] [] pos) (nK ma mb):=
 PE.imp (Ba wM Y0 Y1 lB ho (fA ha fS hs) vv vw hline hs (by rfl)) λσ H Q h=>T4 h
def Ea (mo mi:DE W):DG:=λw env bx=>match mo env bx with
 | .val (.b n) bx1=>(match mi env bx1 with
   | .val (.d (.int k)) ah=>(match w,ah[n]? with
     |.d d,some (.lst l)=>(bL l.length k).map λj=>(env,ah.set n (.lst (l.set j d)))
     |_,_=>zp)
   |_=>zp)
 |_=>zp
theorem NX {o i:Expr}{mo mi:DE W}(ho:PD X T Z o mo) (hi:PD X T Z i mi)
 (ha:∀ v,assign (.Subscript o i pos) X.env v=(do
  let ov <-holding [v] (eval o X.env)
  let iv <-holding [v,ov] (eval i X.env)
  standAt pos
  holding [v,ov,iv] (setItem ov iv v)
  release [v,ov,iv] []):=by intro _;rfl):kP X T (.Subscript o i pos) (Ea mo mi):=by
 refine PG.imp (Rq ho hi JN ha) λv σ H Q=>x5 λF r env bx w R dw h=>?_;unfold Ea at h;refine#[F,r,env,bx,R,?_];cases eo:mo env bx with
 |bad=>erw[eo]at h;exact h.elim
 |exc c bx1=>erw[eo]at h;exact h.elim
 |val ow bx1=>
   erw[eo]at h;intro F1 r1 ov H1 g1 R1 d1;cases ow with
   |d _=>exact h.elim
   |s _=>exact h.elim
   |x _=>exact h.elim
   |t _=>exact h.elim
   |m _=>exact h.elim
   |b n=>
     simp only at h;refine#[F1,r1,env,bx1,R1,?_];cases ei:mi env bx1 with
     |bad=>erw[ei]at h;exact h.elim
     |exc c ah=>erw[ei]at h;exact h.elim
     |val iw ah=>
       erw[ei]at h;intro F2 r2 iv H2 g2 R2 d2;cases iw with
       |b _=>exact h.elim
       |s _=>exact h.elim
       |x _=>exact h.elim
       |t _=>exact h.elim
       |m _=>exact h.elim
       |d id=>
         cases id with
         |int k=>
           simp only at h;let#[a,rfl,ha]:=g2.den d1;let#[c2,eu,tJ]:=R2.hZ ha;rw[eu]at h;cases w with
           |b _=>exact h.elim
           |s _=>exact h.elim
           |x _=>exact h.elim
           |t _=>exact h.elim
           |m _=>exact h.elim
           |d dd=>
             cases c2 with
             |af _=>exact h.elim
             |dead=>exact h.elim
             |dT _=>exact h.elim
             |fD _=>exact h.elim
             |lst l=>
               simp only at h;cases ej:bL l.length k with
               |none=>rw[ej]at h;exact h.elim
               |some j=>
                 rw[ej]at h;let#[hF,vs,k1,k2]:=tJ;refine#[a,vs,k,j,rfl,d2,k1,by rw[<-k2.length];exact ej,?_];have afl:Den F2 dd v:=Den.mono (g1.trans g2).s dd dw;exact h F2 r2 σ _ (g1.trans g2) (R2.write ha hF #[hF,_,fv,aw.set afl j k2])
         |_=>exact h.elim
noncomputable def rZ (i:Nat):DE W:=λenv bx=>match env[i]? with
 | some (some (.b n))=>(match bx[n]? with
   |some (.lst l)=>.val (.d (.lst l)) (bx.set n .dead)
   |some (.af l)=>.val (.d (.af l)) (bx.set n .dead)
   |_=>.bad)
 |_=>.bad
theorem Sh (i:Nat) (hN:X.N[i]?=some x:=by rfl) (hv:sO X.env.scope x:=by first|exact Or.inl zw|exact Or.inr (Or.inl zw)|exact Or.inr (Or.inr zw)) (hd:(x==("__debug__":Str))=zc:=by decide)
 (dA:(x==("__classdict__":Str))=zc:=by decide):PD X T Z (.Name x pos) (rZ i):=by
 refine PE.imp (By hN hv hd dA) λσ H Q=>x4 λF r env bx R h=>?_;unfold rZ at h;split at h
 .ext n e;let#[v,e1,a,rfl,ha]:=R.slot i _ e;let#[c,hc,kc]:=R.hZ ha;rw[hc]at h;cases c with
  |dead=>exact h.elim
  |dT _=>exact h.elim
  |fD _=>exact h.elim
  |lst l=>
    let#[hF,vs,k1,k2]:=kc;let#[R',g]:=R.freeze ha hF k1;exact#[_,e1,h _ r _ H g R' #[a,vs,rfl,fv,aw.mono g.s l k2]]
  |af l=>
    let#[hF,vs,k1,k2]:=kc;let#[R',g]:=R.freeze ha hF k1;exact#[_,e1,h _ r _ H g R' #[a,vs,rfl,fv,aC.mono g.s l k2]]
 .exact h.elim
def rf (m:DE W):DE W:=λenv bx=>fC zL λw bx1=>match w with|.s l=>.val (.d (.int l.length)) bx1|_=>.bad
theorem NY (hg:Gl X "len") (hm:X.mg "len"=zp) (ha:PD X T Z a ma) (he:starEach [a] X.env=(zc,eval a X.env)::starEach [] X.env:=by rfl):PD X T Z (.Call (.Name "len" p) [a] [] pos) (rf ma):=by
 refine PE.imp (fU mF hg hm PySem.boot_len (fA ha fS he) zf zf he (by rfl)) λσ H Q=>x4 λF r env bx R h=>?_;refine#[F,r,env,bx,R,End.bind h λw bx1 F1 r1 v H1 g1 R1 d1 h1=>?_];cases w with
 |b _=>exact h1.elim
 |d _=>exact h1.elim
 |x _=>exact h1.elim
 |t _=>exact h1.elim
 |m _=>exact h1.elim
 |s l=>
   let#[q,o,rfl,k]:=d1;refine#[q,_,rfl,.inl (.inl (.inr #[o,R1.fh _ _ k])),?_];rw[aY];exact h1 F1 r1 _ H1 zat R1 zw
def Iv (m k:DE W):DE W:=λenv bx=>fC zL λw bx1=>fC (k env bx1) λu ah=>match w,u with
 |.s l,.d (.int i)=>(match bf l i with|some n=>.val (.d (.int n)) ah|none=>.bad)
 |_,_=>.bad
theorem Si (ha:PD X T Z a ma) (hb:PD X T Z b mb) (hs:HR b):PD X T Z (.Subscript a b pos) (Iv ma mb):=by
 refine PE.imp (JM BD ha hb hs) λσ H Q=>x4 λF r env bx R h=>?_;refine#[F,r,env,bx,R,End.bind h λw bx1 F1 r1 v H1 g1 R1 d1 h1=>?_];refine#[F1,r1,env,bx1,R1,End.bind h1 λu ah F2 r2 y H2 g2 R2 d2 h2=>?_];cases w with
 |b _=>exact h2.elim
 |d _=>exact h2.elim
 |x _=>exact h2.elim
 |t _=>exact h2.elim
 |m _=>exact h2.elim
 |s l=>
   cases u with
   |b _=>exact h2.elim
   |s _=>exact h2.elim
   |x _=>exact h2.elim
   |t _=>exact h2.elim
   |m _=>exact h2.elim
   |d d=>
     cases d with
     |int i=>
       let#[q,o,rfl,k]:=d1;simp only at h2;cases e:bf l i with
       |none=>rw[e]at h2;exact h2.elim
       |some n=>
         rw[e]at h2;refine#[q,l.map V.int,i,.int n,rfl,d2,.inl (.inr #[o,R2.fh _ _ (g2.s _ _ k)]),?_,h2 F2 r2 _ H2 (.refl F2 r2) R2 zw];unfold bf at e ⊢;rw[aY];cases ej:bL l.length i with
         |none=>rw[ej]at e;cases e
         |some j=>rw[ej]at e;erw[cj]at e ⊢;rw[nU,e];rfl
     |_=>exact h2.elim
def nN (bo:Bool) (l:List (Key×D)):DE W:=λ_ bx=>bX bo (some (.af l)) bx
theorem NZ (bo:Bool):PD X T Z (.Dict [] [] pos) (nN bo []):=by
 refine PE.imp (CA) λσ H Q=>x4 λF r env bx R h=>?_;exact λp hp=>gX R h #[p,[],rfl,hp,rfl,rfl]
end
end L2.DL
namespace HT
section
theorem DI {it t:Addr}{x:zx}(hit:s.heap.IsTupleIter it t i) (ht:s.heap.IsTuple t items) (hx:items[i]?=some x)
 (hQ:∀ h',h'.IsTupleIter it t (i+1)->Heap.SameBut it s.heap h'->Q x { s with heap:=h' }):wpAny zk A (Builtin.SmallTypes.nextOf (.ref it)) Q E s:=by
 let#[ob,qZ,uA,qY]:=id hit;let#[ot,V5,_,nt,yP]:=ht;unfold Builtin.SmallTypes.nextOf;refine ae (uZ (name:=Str.ofString "__next__") hit.typeIs Ho (pI Ho hit.typeIs Y2 (show wpAny _ _ (field (.ref it) 0 >>= _) _ _ s from ae (kH qZ qY (x:=.ref t) zw ?_)) (Y3 _)))
 change wpAny _ _ (if (Value.ref t==Value.none)=zu then _ else _) _ _ s;rw[if_neg (show ¬ ((Value.ref t==Value.none)=true) from cT)]
 change wpAny _ _ (field (.ref it) 1 >>= _) _ _ s
 refine ae (kH qZ qY (x:=.int i 0) zw (show wpAny _ _ (seqItems? (.ref t) >>= _) _ _ s from ae (ue V5 yP ?_)));erw[ui,hx];refine ae (EM qZ qY zq (ak #[x,rfl,ak (hQ _ #[_,Qo _ qZ (Zd (Hv qY _)),(Ze ..).trans uA,?_] (Heap.SameBut.update ..))]));rw[Hv qY];simp[rawInt]
theorem GR {it t:Addr}(hh:A.handled=zp) (hit:s.heap.IsTupleIter it t i) (ht:s.heap.IsTuple t items) (hx:items[i]?=zp)
 (hE:∀ h' e,Heap.ExtBut it s.heap h'->(∃ o,h'.get? e=some o /\ o.cls=.type "StopIteration")->E (.ref e) { s with heap:=h' }):wpAny zk A (Builtin.SmallTypes.nextOf (.ref it)) Q E s:=by
 let#[ob,qZ,uA,qY]:=id hit;let#[ot,V5,_,nt,yP]:=ht;unfold Builtin.SmallTypes.nextOf;refine ae (uZ (name:=Str.ofString "__next__") hit.typeIs Ho (pI Ho hit.typeIs Y2 (show wpAny _ _ (field (.ref it) 0 >>= _) _ _ s from ae (kH qZ qY (x:=.ref t) zw ?_)) (Y3 _)))
 change wpAny _ _ (if (Value.ref t==Value.none)=zu then _ else _) _ _ s;rw[if_neg (show ¬ ((Value.ref t==Value.none)=true) from cT)]
 change wpAny _ _ (field (.ref it) 1 >>= _) _ _ s
 refine ae (kH qZ qY (x:=.int i 0) zw (show wpAny _ _ (seqItems? (.ref t) >>= _) _ _ s from ae (ue V5 yP ?_)));erw[ui,hx];refine ae (rF (ae (EM qZ qY zq (show wpAny _ _ (newExc (.type "StopIteration") [] >>= _) _ _ _ from ae ?_))));erw[newExc,newTuple];refine ae (qi (ae (m:=firstArgMember _ _) (XU (a:=Value.none) (by first|rfl|(erw[firstArgMember];rfl)) (qi ?_ (by size_fits)))) (by size_fits));erw[raiseNew];refine ae (XX ?_);first|rw[show A.in1.handled=none from hh]|rw[hh]
 exact ae (ak (XY (hE _ _ (((Heap.SameBut.update ..).extBut.push _).push _) #[_,cg _ zw,rfl])))
theorem lD (hh:A.handled=zp) (it l:Addr) (uK:l≠it) (items:Array zx) :
 Draws prog w A it [it,l] items.size (λi v=>items[i]?=some v) (λi h=>h.IsTupleIter it l i /\ h.IsTuple l items) where
 live:=λ_ _ st=>let ⟨o,ho,_⟩:=st.1;#[o,ho]
 frame:=λ_ _ _ st hk=>#[st.1.at λo e=>hk it zq o e,st.2.at λo e=>hk l zq o e]
 item:=λi s Q E hi st hQ=>DI st.1 st.2 (x:=items[i]) (by simp[hi]) λh' a b=>hQ _ h' s.toks (by simp[hi]) #[a,st.2.at λo e=>b.extBut _ _ uK e] b
 done:=λs Q E st hE=>GR hh st.1 st.2 zq hE
structure Eb (z TI TO i1 i2:Addr) (qD qE:List Addr):zy where
 a:TI≠z /\ TO≠z /\ i1≠z /\ i2≠z /\ TI≠TO /\ TI≠i1 /\ TI≠i2 /\ TO≠i1 /\ TO≠i2 /\ i1≠i2
 f1:z∉qD /\ TO∉qD /\ i2∉qD
 f2:z∉qE /\ TO∉qE /\ i1∉qE
variable {z TI TO i1 i2:Addr} {qD qE:List Addr} {n1 n2:Nat} {P1 P2:Nat -> zx -> zy} {S1 S2:Nat -> Heap -> zy}
theorem Draws.same {it:Addr}{P:Nat->zx->zy}{S:Nat->Heap->zy}(D:Draws prog w A it fp n P S) {c:Addr}{h:Heap}{k:Nat}(x:Heap.SameBut c h h') (hc:c∉fp) (st:S k h):S k h' :=
 D.frame k h h' st λb hb o e=>x.extBut _ _ (λq=>hc (q▸hb)) e
abbrev rh (h:Heap) (z TI TO:Addr) (f0 f1:zx):zy:=h.get? z=some { cls:=.type "zip",dict:=zp,data:=.fields (List.toArray [f0,f1,.bool zc,.ref TI,.ref TO]),slots:=#[] }
def rj (h:Heap) (z TI TO:Addr):zy:=∃ f0 f1,(f0=.none \/ ∃ a,f0=rawInt a) /\ rh h z TI TO f0 f1
theorem afm {Q:Option Obj->Shared->zy}(h:Q (s.heap.get? a) s):wpAny zk A (loadIfAlive a) Q E s:=λΓ p _=>by simpa[loadIfAlive] using h
theorem Ao {f0 f1:zx}{Q:Bool->Shared->zy}(hf:f0=.none \/ ∃ a,f0=rawInt a) (hz:rh s.heap z TI TO f0 f1) (h:∀ r h' afn,rh h' z TI TO f0 afn->Heap.SameBut z s.heap h'->Q r { s with heap:=h' }) :
 wpAny zk A (Builtin.SmallTypes.ownedTupleIsFree (.ref z)) Q E s:=by
 have hs:Heap.SameBut z s.heap s.heap:=#[rfl,λ_ _=>rfl];unfold Builtin.SmallTypes.ownedTupleIsFree;rcases hf with rfl|⟨a,rfl⟩
 .exact ae (kH hz zw (x:=.none) zw (ak (h _ _ f1 hz hs)))
 .refine ae (kH hz zw (x:=rawInt a) zw (ae (afm ?_)));cases s.heap.get? a.toNat with
  |none=>exact ak (h _ _ f1 hz hs)
  |some o=>
    refine ae (kH hz zw (x:=f1) zw ?_);by_cases q:(f1 != Value.bool zu)=zu
    .rw[if_pos q];exact ae (uf hz zq λg1 vN e1=>ak (h _ g1 (.bool zu) vN e1))
    .rw[if_neg q];exact ae (ak (ak (h _ _ f1 hz hs)))
theorem Lo (D1:Draws prog w A i1 qD n1 P1 S1) (D2:Draws prog w A i2 qE n2 P2 S2) (R:Eb z TI TO i1 i2 qD qE) {k:Nat}{a b:zx}(k1:k<n1) (k2:k<n2)
 (hz:rj s.heap z TI TO) (vO:IsPair s.heap TI (.ref i1) (.ref i2)) (uL:IsPair s.heap TO a b) (s1:S1 k s.heap) (s2:S2 k s.heap)
 (hQ:∀ x y h' tk,P1 k x->P2 k y->rj h' z TI TO->(∃ u v,IsPair h' TO u v)->S1 (k+1) h'->S2 (k+1) h'->IsPair h' s.heap.objs.size x y ->
  (∀ c o,c≠z->c≠TO->c≠i1->c≠i2->s.heap.get? c=some o->h'.get? c=some o)->Q (.ref s.heap.objs.size) { s with heap:=h',toks:=tk }) :
 wpAny zk A (Builtin.«zip.__next__» #[[.ref z],[]]) (λfin s'=>∃ v,fin=.done (.ret v) /\ Q v s') E s:=by
 let#[#[r1,r2,r3,r4,r5,r6,r7,r8,r9,Iw],#[f1,f2,f3],#[f4,f5,f6]]:=R;let#[o0,o1,ho,hz]:=hz
 change wpAny _ _ (field (.ref z) 2 >>= _) _ _ _;refine ae (kH hz zw (x:=.bool zc) zw ?_)
 change wpAny _ _ (field (.ref z) 3 >>= _) _ _ _;refine ae (kH hz zw (x:=.ref TI) zw (ae (ue vO zw ?_)))
 change wpAny _ _ (Builtin.SmallTypes.ownedTupleIsFree (.ref z) >>= _) _ _ _
 refine ae (Ao ho hz λr g0 o2 xr e0=>?_);cases r with
 |true=>
   erw[if_true];refine ae (rF (ae (kH xr zw (x:=.ref TO) zw (ae (uf xr zq λg1 vN nG=>?_)))));have e1:Heap.SameBut z s.heap g1:=#[nG.1.trans e0.1,λc hc=>(nG.2 c hc).trans (e0.2 c hc)];have Iy:rh g1 z TI TO .ellipsis o2:=vN;refine ae ?_;erw[EZ,wH,vd,sF];refine ae (ae (yd (show wpAny _ _ (Builtin.SmallTypes.nextOf (.ref i1) >>= _) _ _ _ from ae (D1.item k _ _ _ k1 (Draws.same D1 e1 f1 s1) λx g2 t2 px Ec e2=>ak ?_))));have Ed:IsPair g2 TO a b:=e2.extBut _ _ r8 (e1.extBut _ _ r2 uL);refine ae (ue Ed zw (ae (KY Ed λg3 aaF e3=>ae (KZ (ak ?_)))));have afo:IsPair g3 TO x b:=aaF;refine ae (ae (yd (show wpAny _ _ (Builtin.SmallTypes.nextOf (.ref i2) >>= _) _ _ _ from ae (D2.item k _ _ _ k2 (Draws.same D2 e3 f5 (Draws.same D2 e2 f6 (Draws.same D2 e1 f4 s2))) λy g4 t4 py V6 e4=>ak ?_))));have aaG:IsPair g4 TO x b:=e4.extBut _ _ r9 afo;refine ae (ue aaG zw (ae (KY aaG λg5 afp e5=>ae (KZ (ak (ak ?_))))));have aaH:IsPair g5 TO x y:=afp;refine ae (ue aaH zw (ae (K0 ?_)));have hsz:g5.objs.size=s.heap.objs.size:=by rw[e5.1,e4.1,e3.1,e2.1,e1.1]
   have aaI:rh g5 z TI TO .ellipsis o2:=e5.extBut _ _ r2.symm (e4.extBut _ _ r4.symm (e3.extBut _ _ r2.symm (e2.extBut _ _ r3.symm Iy)));have kp:∀ c o,c≠z->c≠TO->c≠i1->c≠i2->s.heap.get? c=some o->g5.get? c=some o:=λc o c1 c2 c3 c4 q=>e5.extBut _ _ c2 (e4.extBut _ _ c4 (e3.extBut _ _ c2 (e2.extBut _ _ c3 (e1.extBut _ _ c1 q))));have q1:S1 (k+1) g5:=Draws.same D1 e5 f2 (Draws.same D1 e4 f3 (Draws.same D1 e3 f2 Ec));have q2:S2 (k+1) g5:=Draws.same D2 e5 f5 V6;have Ee:z<g5.objs.size:=a8 aaI
   change wpAny _ _ (Builtin.SmallTypes.ownedTupleHandOut (.ref z) (.ref g5.objs.size) >>= _) _ _ _;refine ae ?_
   unfold Builtin.SmallTypes.ownedTupleHandOut;refine ae (uf (aT _ aaI) zq λg7 afq e7=>uf (show rh g7 z TI TO (rawInt g5.objs.size) o2 from afq) zq λg8 afr e8=>?_);have up:∀ c o,c≠z->g5.get? c=some o->g8.get? c=some o:=λc o c1 q=>e8.extBut _ _ c1 (e7.extBut _ _ c1 (aT _ q));have aaJ:IsPair g8 g5.objs.size x y:=e8.extBut _ _ (ye Ee) (e7.extBut _ _ (ye Ee) (cg _ zw));have afs:rj g8 z TI TO:=#[_,_,.inr #[_,rfl],show rh g8 z TI TO (rawInt g5.objs.size) (.bool zc) from afr];refine ak #[_,rfl,(show Q (.ref g5.objs.size) _ from ?_)];rw[hsz]at aaJ ⊢;exact hQ x y g8 _ px py afs #[_,_,up _ _ r2 aaH] (D1.frame _ _ _ q1 λc hc o q=>up c o (λw=>f1 (w▸hc)) q) (D2.frame _ _ _ q2 λc hc o q=>up c o (λw=>f4 (w▸hc)) q) aaJ λc o c1 c2 c3 c4 q=>up c o c1 (kp c o c1 c2 c3 c4 q)
 |false=>
   erw[E6,if_false];rw[show ((List.toArray [Value.ref i1,Value.ref i2]):Array Value)=[Value.ref i1,Value.ref i2].toArray from rfl];erw[Yf,vd,sF];refine ae (ae (ae (kX (show wpAny _ _ (Builtin.SmallTypes.nextOf (.ref i1) >>= _) _ _ _ from ae (D1.item k _ _ _ k1 (Draws.same D1 e0 f1 s1) λx g2 t2 px Ec e2=>ak ?_)))));refine ak (ae (ae (kX (show wpAny _ _ (Builtin.SmallTypes.nextOf (.ref i2) >>= _) _ _ _ from ae (D2.item k _ _ _ k2 (Draws.same D2 e2 f6 (Draws.same D2 e0 f4 s2)) λy g4 t4 py V6 e4=>ak ?_)))));refine ak (ak (ae (K0 (ak #[_,rfl,?_]) (show 2<=sizeLine by decide))));have hsz:g4.objs.size=s.heap.objs.size:=by rw[e4.1,e2.1,e0.1]
   have Iz:rh g4 z TI TO o0 o2:=e4.extBut _ _ r4.symm (e2.extBut _ _ r3.symm xr);have up:∀ c o,g4.get? c=some o->(g4.push { cls:=.type "tuple",data:=.seq (List.toArray [x,y]) }).get? c=some o:=λc o q=>aT _ q;have hT:IsPair (g4.push { cls:=.type "tuple",data:=.seq (List.toArray [x,y]) }) g4.objs.size x y:=cg _ zw;show Q (.ref g4.objs.size) _;rw[hsz]at hT ⊢;exact hQ x y _ _ px py #[o0,o2,ho,up _ _ Iz] #[a,b,up _ _ (e4.extBut _ _ r9 (e2.extBut _ _ r8 (e0.extBut _ _ r2 uL)))] (D1.frame _ _ _ (Draws.same D1 e4 f3 Ec) λc hc o q=>up c o q) (D2.frame _ _ _ V6 λc hc o q=>up c o q) hT
    λc o c1 c2 c3 c4 q=>up c o (e4.extBut _ _ c4 (e2.extBut _ _ c3 (e0.extBut _ _ c1 q)))
theorem Lp (D1:Draws prog w A i1 qD n1 P1 S1) (D2:Draws prog w A i2 qE n2 P2 S2) (R:Eb z TI TO i1 i2 qD qE) {k:Nat}{a b:zx}{Q:Fin->Shared->zy}(hk:k=n1 \/ (k<n1 /\ k=n2))
 (hz:rj s.heap z TI TO) (vO:IsPair s.heap TI (.ref i1) (.ref i2)) (uL:IsPair s.heap TO a b) (s1:S1 k s.heap) (s2:S2 k s.heap)
 (hE:∀ h' e tk,(∀ c o,c≠z->c≠TO->c≠i1->c≠i2->s.heap.get? c=some o->h'.get? c=some o)->(∃ o,h'.get? e=some o /\ o.cls=.type "StopIteration")->E (.ref e) { s with heap:=h',toks:=tk }) :
 wpAny zk A (Builtin.«zip.__next__» #[[.ref z],[]]) Q E s:=by
 let#[#[r1,r2,r3,r4,r5,r6,r7,r8,r9,Iw],#[f1,f2,f3],#[f4,f5,f6]]:=R;let#[o0,o1,ho,hz]:=hz
 change wpAny _ _ (field (.ref z) 2 >>= _) _ _ _;refine ae (kH hz zw (x:=.bool zc) zw ?_)
 change wpAny _ _ (field (.ref z) 3 >>= _) _ _ _;refine ae (kH hz zw (x:=.ref TI) zw (ae (ue vO zw ?_)))
 change wpAny _ _ (Builtin.SmallTypes.ownedTupleIsFree (.ref z) >>= _) _ _ _
 refine ae (Ao ho hz λr g0 o2 xr e0=>?_);cases r with
 |true=>
   erw[if_true];refine ae (rF (ae (kH xr zw (x:=.ref TO) zw (ae (uf xr zq λg1 vN nG=>?_)))));have e1:Heap.SameBut z s.heap g1:=#[nG.1.trans e0.1,λc hc=>(nG.2 c hc).trans (e0.2 c hc)];have Iy:rh g1 z TI TO .ellipsis o2:=vN;refine ae ?_;erw[EZ,wH,vd,sF];rcases hk with hk|⟨V7,vP⟩
   .refine ae (ae (yd (show wpAny _ _ (Builtin.SmallTypes.nextOf (.ref i1) >>= _) _ _ _ from ae (D1.done _ _ _ (hk▸Draws.same D1 e1 f1 s1) λg2 ex e2 hx=>?_))));let#[oe,vQ,Ef]:=hx;have IC:rh g2 z TI TO .ellipsis o2:=e2 _ _ r3.symm Iy;have V8:ex≠z:=λq=>by subst q;rw[IC]at vQ;cases vQ;simp at Ef
    exact uf IC zq λg3 _ e3=>hE g3 ex _ (λc o c1 _ c3 _ q=>e3.extBut _ _ c1 (e2 _ _ c3 (e1.extBut _ _ c1 q))) #[oe,e3.extBut _ _ V8 vQ,Ef]
   .refine ae (ae (yd (show wpAny _ _ (Builtin.SmallTypes.nextOf (.ref i1) >>= _) _ _ _ from ae (D1.item k _ _ _ V7 (Draws.same D1 e1 f1 s1) λx g2 t2 px Ec e2=>ak ?_))));have Ed:IsPair g2 TO a b:=e2.extBut _ _ r8 (e1.extBut _ _ r2 uL);refine ae (ue Ed zw (ae (KY Ed λg3 aaF e3=>ae (KZ (ak ?_)))));refine ae (ae (yd (show wpAny _ _ (Builtin.SmallTypes.nextOf (.ref i2) >>= _) _ _ _ from ae (D2.done _ _ _ (vP▸Draws.same D2 e3 f5 (Draws.same D2 e2 f6 (Draws.same D2 e1 f4 s2))) λg4 ex e4 hx=>?_))));let#[oe,vQ,Ef]:=hx;have Iz:rh g4 z TI TO .ellipsis o2:=e4 _ _ r4.symm (e3.extBut _ _ r2.symm (e2.extBut _ _ r3.symm Iy));have V8:ex≠z:=λq=>by subst q;rw[Iz]at vQ;cases vQ;simp at Ef
    exact uf Iz zq λg5 _ e5=>hE g5 ex _ (λc o c1 c2 c3 c4 q=>e5.extBut _ _ c1 (e4 _ _ c4 (e3.extBut _ _ c2 (e2.extBut _ _ c3 (e1.extBut _ _ c1 q))))) #[oe,e5.extBut _ _ V8 vQ,Ef]
 |false=>
   erw[E6,if_false];rw[show ((List.toArray [Value.ref i1,Value.ref i2]):Array Value)=[Value.ref i1,Value.ref i2].toArray from rfl];erw[Yf,vd,sF];rcases hk with hk|⟨V7,vP⟩
   .refine ae (ae (ae (kX (show wpAny _ _ (Builtin.SmallTypes.nextOf (.ref i1) >>= _) _ _ _ from ae (D1.done _ _ _ (hk▸Draws.same D1 e0 f1 s1) λg2 ex e2 hx=>?_)))));exact hE g2 ex _ (λc o c1 _ c3 _ q=>e2 _ _ c3 (e0.extBut _ _ c1 q)) hx
   .refine ae (ae (ae (kX (show wpAny _ _ (Builtin.SmallTypes.nextOf (.ref i1) >>= _) _ _ _ from ae (D1.item k _ _ _ V7 (Draws.same D1 e0 f1 s1) λx g2 t2 px Ec e2=>ak ?_)))));refine ak (ae (ae (kX (show wpAny _ _ (Builtin.SmallTypes.nextOf (.ref i2) >>= _) _ _ _ from ae (D2.done _ _ _ (vP▸Draws.same D2 e2 f6 (Draws.same D2 e0 f4 s2)) λg4 ex e4 hx=>?_)))));exact hE g4 ex _ (λc o c1 _ c3 c4 q=>e4 _ _ c4 (e2.extBut _ _ c3 (e0.extBut _ _ c1 q))) hx
theorem Lq (hz:rj s.heap z TI TO) (h:Q (.ref z) s):wpAny zk A (pyIter (.ref z)) Q E s:=by
 have ty:s.TypeIs (.ref z) "zip":=let ⟨_,_,_,hz⟩:=hz;#[_,hz,rfl]
 exact XZ ty Y4 (pI Y4 ty F.entry_zip_iter (show wpAny _ _ (ret (.ref z)) _ _ s from ak #[_,rfl, "zip",_,ty,yr.lookup,h]) (F.args_zip_iter_1 _))
theorem AX (D1:Draws prog w A.in1 i1 qD n1 P1 S1) (D2:Draws prog w A.in1 i2 qE n2 P2 S2) (R:Eb z TI TO i1 i2 qD qE) {k:Nat}{a b:zx}{Q:Option zx->Shared->zy}(k1:k<n1) (k2:k<n2)
 (hz:rj s.heap z TI TO) (vO:IsPair s.heap TI (.ref i1) (.ref i2)) (uL:IsPair s.heap TO a b) (s1:S1 k s.heap) (s2:S2 k s.heap)
 (hQ:∀ x y h' tk,P1 k x->P2 k y->rj h' z TI TO->(∃ u v,IsPair h' TO u v)->S1 (k+1) h'->S2 (k+1) h'->IsPair h' s.heap.objs.size x y ->
  (∀ c o,c≠z->c≠TO->c≠i1->c≠i2->s.heap.get? c=some o->h'.get? c=some o)->Q (some (.ref s.heap.objs.size)) { s with heap:=h',toks:=tk }):wpAny zk A (pyNext (.ref z)) Q E s:=by
 have hT:s.TypeIs (.ref z) "zip":=let ⟨_,_,_,hz⟩:=hz;#[_,hz,rfl]
 unfold pyNext;exact ae (ya (uZ (name:=Str.ofString "__next__") hT yr (pI yr hT Y5 (Lo D1 D2 R k1 k2 hz vO uL s1 s2 λx y h' tk b1 b2 b3 b4 b5 b6 b7 b8=>ak (hQ x y h' tk b1 b2 b3 b4 b5 b6 b7 b8)) (Y6 _))))
theorem Sj {Q:Unit->Shared->zy}(hz:rj s.heap z TI TO) (h:∀ h',rj h' z TI TO->Heap.SameBut z s.heap h'->Q () { s with heap:=h' }):wpAny zk A (letOwnedTupleGo tg (.ref z) (.ref p)) Q E s:=by
 have hs:Heap.SameBut z s.heap s.heap:=#[rfl,λ_ _=>rfl];have same:Q () s:=h _ hz hs;let#[f0,f1,hf,hz]:=id hz
 have tup:wpAny zk A (do
  let o <-load z
  match o.cls,o.data with
  |.type n,.fields vs=>
    if ["enumerate","zip","dict_itemiterator","dict_reverseitemiterator","odict_iterator","itertools.zip_longest","itertools.pairwise"].contains n&&vs[0]?==some (rawInt p) then
     rule "for.unpacks-the-owned-tuple"
     updateField z 0 .none
  |_,_=>pure ()) Q E s:=by
  refine ae (KH hz ?_);dsimp only;split
  .refine ae (rF (uf hz zq λg1 vN e1=>h g1 #[.none,f1,.inl zw,vN] e1))
  .exact ak same
 unfold letOwnedTupleGo;cases tg with
 |Tuple es n q=>exact tup
 |List es q=>exact tup
 |_=>exact ak same
theorem AY (D1:Draws prog w A.in1 i1 qD n1 P1 S1) (D2:Draws prog w A.in1 i2 qE n2 P2 S2) (R:Eb z TI TO i1 i2 qD qE) {k:Nat}{a b:zx}{Q:Option zx->Shared->zy}(hk:k=n1 \/ (k<n1 /\ k=n2))
 (hz:rj s.heap z TI TO) (vO:IsPair s.heap TI (.ref i1) (.ref i2)) (uL:IsPair s.heap TO a b) (s1:S1 k s.heap) (s2:S2 k s.heap)
 (hQ:∀ h' tk,(∀ c o,c≠z->c≠TO->c≠i1->c≠i2->s.heap.get? c=some o->h'.get? c=some o)->Q zp { s with heap:=h',toks:=tk }):wpAny zk A (pyNext (.ref z)) Q E s:=by
 have hT:s.TypeIs (.ref z) "zip":=let ⟨_,_,_,hz⟩:=hz;#[_,hz,rfl]
 unfold pyNext;refine ae (ya (uZ (name:=Str.ofString "__next__") hT yr (pI yr hT Y5 (Lp D1 D2 R hk hz vO uL s1 s2 λh' e tk q1 q2=>?_) (Y6 _))));let#[o,ho,hc]:=q2;exact ae (X0 (T:="StopIteration") (b:=zu) #[o,ho,hc] X1 (ak (hQ h' tk q1)))
noncomputable def Eg (h:Heap) (l1:Addr):Heap:=h.push { cls:=.type "tuple_iterator",data:=.fields (List.toArray [.ref l1,.int 0 0]) }
def xt (h:Heap) (l1 l2:Addr):Heap:=(Eg h l1).push { cls:=.type "tuple_iterator",data:=.fields (List.toArray [.ref l2,.int 0 0]) }
def xu (h:Heap) (l1 l2:Addr):Heap:=(xt h l1 l2).push { cls:=.type "tuple",data:=.seq (List.toArray [.ref h.objs.size,.ref (Eg h l1).objs.size]) }
def Eh (h:Heap) (l1 l2:Addr):Heap:=(xu h l1 l2).push { cls:=.type "tuple",data:=.seq (List.toArray [.none,.none]) }
def xw (h:Heap) (l1 l2:Addr):Heap:=(Eh h l1 l2).push { cls:=.type "zip",data:=.fields (List.toArray [.none,.bool zc,.bool zc,.ref (xt h l1 l2).objs.size,.ref (xu h l1 l2).objs.size]) }
theorem DJ (l1 l2:Addr) (xs ys:Array zx) :
 Meets (Builtin.«zip.__new__» #[[.type "zip",.ref l1,.ref l2],[]]) (λ_ R s=>s.heap.IsTuple l1 xs /\ s.heap.IsTuple l2 ys /\ R (.ok (.ret (.ref (Eh s.heap l1 l2).objs.size))) { s with heap:=xw s.heap l1 l2 }):=
 .of_wp λprog w A R s h=>by
  let#[hp,g,d,tk,os]:=s;let#[V9,vA,h]:=h;have aiB:=sub_zip;have aft:Heap.IsTuple (Shared.heap #[hp,g,d,tk,os]) l1 xs:=V9;have afu:Heap.IsTuple (Shared.heap #[hp.push { cls:=.type "tuple_iterator",data:=.fields (List.toArray [.ref l1,.int 0 0]) },g,d,tk,os]) l2 ys:=vA.at λo e=>aT _ e
  wp_walk using K3 aft,K3 afu
  exact#[_,rfl,h]
theorem GS {l1 l2:Addr}{xs ys:Array zx}(V9:s.heap.IsTuple l1 xs) (vA:s.heap.IsTuple l2 ys)
 (h:∀ h',IsZip h' (s.heap.objs.size+4) (s.heap.objs.size+2) (s.heap.objs.size+3) .none->IsPair h' (s.heap.objs.size+2) (.ref s.heap.objs.size) (.ref zK)->IsPair h' (s.heap.objs.size+3) .none .none ->
  h'.IsTupleIter s.heap.objs.size l1 0->h'.IsTupleIter zK l2 0->(∀ c o,s.heap.get? c=some o->h'.get? c=some o)->Q (.ref (s.heap.objs.size+4)) { s with heap:=h' }):wpAny zk A (call (.type "zip") [.ref l1,.ref l2]) Q E s:=by
 refine callType_new F.called_zip zf (F.typeCall_zip_2 _ _) (F.newCall_zip_2 _ _) (λobj=>F.args_object_init_3 obj _ _) F.entry_zip_new (DJ l1 l2 xs ys) #[V9,vA,?_];have z1:(Eg s.heap l1).objs.size=s.heap.objs.size+1:=sH ..;have z2:(xt s.heap l1 l2).objs.size=s.heap.objs.size+2:=by rw[xt,sH,z1]
 have z3:(xu s.heap l1 l2).objs.size=s.heap.objs.size+3:=by rw[xu,sH,z2]
 have z4:(Eh s.heap l1 l2).objs.size=s.heap.objs.size+4:=by rw[Eh,sH,z3]
 have g5:(xw s.heap l1 l2).get? (Eh s.heap l1 l2).objs.size=some { cls:=.type "zip",data:=.fields (List.toArray [.none,.bool zc,.bool zc,.ref (xt s.heap l1 l2).objs.size,.ref (xu s.heap l1 l2).objs.size]) }:=cg _ zw;have g4:(xw s.heap l1 l2).get? (xu s.heap l1 l2).objs.size=some { cls:=.type "tuple",data:=.seq (List.toArray [.none,.none]) }:=aT _ (cg _ zw);have g3:(xw s.heap l1 l2).get? (xt s.heap l1 l2).objs.size=some { cls:=.type "tuple",data:=.seq (List.toArray [.ref s.heap.objs.size,.ref (Eg s.heap l1).objs.size]) }:=aT _ (aT _ (cg _ zw));have g2:(xw s.heap l1 l2).get? (Eg s.heap l1).objs.size=some { cls:=.type "tuple_iterator",data:=.fields (List.toArray [.ref l2,.int 0 0]) }:=aT _ (aT _ (aT _ (cg _ zw)));have g1:(xw s.heap l1 l2).get? s.heap.objs.size=some { cls:=.type "tuple_iterator",data:=.fields (List.toArray [.ref l1,.int 0 0]) }:=aT _ (aT _ (aT _ (aT _ (cg _ zw))))
 change _ /\ _
 rw[z2,z3,z4]at g5;rw[z1,z2]at g3;rw[z3]at g4;rw[z1]at g2;rw[z4];exact#[#[_,g5,rfl],h _ g5 g3 g4 #[_,g1,rfl,rfl] #[_,g2,rfl,rfl] λc o q=>aT _ (aT _ (aT _ (aT _ (aT _ q))))]
end
end HT
namespace L2
theorem Inv.afv (I:Inv X pins σ H s) (hf:∀ b∈ch,pP X pins H b) (k:∀ b o,b∉ch->s.heap.get? b=some o->h'.get? b=some o) (hp:s.heap.objs.size<=p)
 (new:a9 X.prog X.w (upd H p o) h' p o):Inv X pins σ (upd H p o) { s with heap:=h',toks:=t' }:=by
 have eK:H p=zp:=I.ai.fresh hp;have qN:∀ b u,H b=some u->b∉ch:=λb u e z=>by rw[(hf b z).1]at e;cases e
 have afw:∀ b u,H b=some u->b≠p:=λb u e=>fJ e eK;have eG:∀ b u,H b=some u->upd H p o b=some u:=λb u e=>by rw[fw (afw b u e)];exact e
 refine I.step (g':=s.gens) (d':=s.drawn) (ch:=ch) (λb hb=>?_) (λb o _ _ hc e _=>k b o hc e) (λb o _ _ hc e _=>#[o.slots,k b o hc e]) (λb ob _ e n=>?_)
  (λb o hc e=>#[o,k b o hc e]) (λb _ e=>eG b _ e) (λb _ _ e=>eG b _ e) (λb ps e=>#[#[],by rw[eG b _ e];simp]) (λm hm=>?_) ?_ I.bare
 .let#[f0,f1,f2,f3,f4,f5]:=hf b hb;exact#[f3,f1,f4,f5]
 .rw[fw (λz=>eU _ (dU (a8 e) (by rw[z];exact hp)))];exact n
 .let#[ob,es,ep,ho,r]:=hm;exact#[ob,es,ep,k _ ob (λz=>(hf _ z).2.1 zw) ho,r]
 .intro b u e;by_cases hb:b=p
  .subst hb;rw[fv]at e;cases e;exact new
  .rw[fw hb]at e;refine(I.ai b u e).eG (λc v hc q=>k c v ?_ q) (λc q=>eG c _ q) λc xs q=>eG c _ q;rcases hc with z|z
   .rw[z];exact qN b u e
   .exact qN c _ z
theorem Inv.afx (I:Inv X pins σ H s) (hf:∀ b∈ch,pP X pins H b) (k:∀ b o,b∉ch->s.heap.get? b=some o->h'.get? b=some o):Inv X pins σ H { s with heap:=h',toks:=t' }:=by
 have qN:∀ b u,H b=some u->b∉ch:=λb u e z=>by rw[(hf b z).1]at e;cases e
 refine I.step (g':=s.gens) (d':=s.drawn) (ch:=ch) (λb hb=>?_) (λb o _ _ hc e _=>k b o hc e) (λb o _ _ hc e _=>#[o.slots,k b o hc e]) (λb ob _ e n=>n)
  (λb o hc e=>#[o,k b o hc e]) (λb _ e=>e) (λb _ _ e=>e) (λb ps e=>#[#[],by rw[e];simp]) (λm hm=>?_) ?_ I.bare
 .let#[f0,f1,f2,f3,f4,f5]:=hf b hb;exact#[f3,f1,f4,f5]
 .let#[ob,es,ep,ho,r]:=hm;exact#[ob,es,ep,k _ ob (λz=>(hf _ z).2.1 zw) ho,r]
 .intro b u e;refine(I.ai b u e).eG (λc v hc q=>k c v ?_ q) (λc q=>q) λc xs q=>q;rcases hc with z|z
  .rw[z];exact qN b u e
  .exact qN c _ z
def Wa (K:PySem.W.Frag) (a b:Addr):It:=
 #[λi H=>∃ (xs ys:List V) (x y:V),bK K H a xs /\ bK K H b ys /\ xs[i]?=some x /\ ys[i]?=some y,
  λi H w H'=>∀ (xs ys:List V),bK K H a xs->bK K H b ys->∃ (p:Addr) (x y:V),xs[i]?=some x /\ ys[i]?=some y /\ H p=zp /\ w=.ref p /\ H'=upd H p (.tup [x,y]),
  λi H=>∃ (xs ys:List V),bK K H a xs /\ bK K H b ys /\ (i=xs.length \/ (i<xs.length /\ i=ys.length))]
theorem Bg {b:Nat}(k:Nat) (h:b<n):b≠n+k:=by lia
theorem Bh {m:Nat}(h:n+4<m):m≠n /\ m≠n+1 /\ m≠n+2 /\ m≠n+3 /\ m≠n+4:=by lia
theorem FF {n b:Addr}(ha:a<n) (hb:b<n):HT.Eb (n+4) (n+2) (n+3) n (n+1) [n,a] [n+1,b] where
 a:=by refine#[?_,?_,?_,?_,?_,?_,?_,?_,?_,?_]<;>exact λz=>by have z':(_:Nat)=_:=z;lia
 f1:=by
  have e1:∀ k:Nat,n+k≠a:=λk z=>eU _ (yf (vb n k) (z▸ha));refine#[?_,?_,?_]<;>(rw[bA,qo];rintro(z|z))
  .have z':(_:Nat)=_:=z;lia
  .exact e1 4 z
  .have z':(_:Nat)=_:=z;lia
  .exact e1 3 z
  .have z':(_:Nat)=_:=z;lia
  .exact e1 1 z
 f2:=by
  have e1:∀ k:Nat,n+k≠b:=λk z=>eU _ (yf (vb n k) (z▸hb));refine#[?_,?_,?_]<;>(rw[bA,qo];rintro(z|z))
  .have z':(_:Nat)=_:=z;lia
  .exact e1 4 z
  .have z':(_:Nat)=_:=z;lia
  .exact e1 3 z
  .have z':(_:Nat)=_:=z;lia
  .exact e1 0 z
theorem Lr {n b:Addr}(ha:a<n) (hb:b<n) :
 Turn P w K tg (Wa K a b) [n+4,n+2,n+3,n,n+1] (n+4)
  (λi h=>HT.rj h (n+4) (n+2) (n+3) /\ IsPair h (n+2) (.ref n) (.ref (n+1)) /\ (∃ u v,IsPair h (n+3) u v) /\ h.IsTupleIter n a i /\ h.IsTupleIter (n+1) b i) where
 mem:=by simp
 obj:=λi h st c hc=>by
  let#[#[_,_,_,z1],z2,#[u,v,z3],#[o4,e4,c4,d4],#[o5,e5,c5,d5]]:=st;erw[bA,qJ,or_false]at hc;rcases hc with rfl|rfl|rfl|rfl|rfl
  .exact#[_,z1,λv z=>by cases z]
  .exact#[_,z2,λv z=>by cases z]
  .exact#[_,z3,λv z=>by cases z]
  .exact#[o4,e4,λv z=>by rw[d4]at z;cases z]
  .exact#[o5,e5,λv z=>by rw[d5]at z;cases z]
 keep:=λi h h' st k=>by
  let#[z1,z2,#[u,v,z3],z4,z5]:=st;let#[w0,w1,w2,z1]:=z1;exact#[#[w0,w1,w2,k _ zq _ z1],k _ zq _ z2,#[u,v,k _ zq _ z3],z4.at λo e=>k _ zq o e,z5.at λo e=>k _ zq o e]
 item:=by
  intro X hP hw hK hc i pins s σ H E I hf st hg;subst hP hw hK;let#[xs,ys,x,y,q1,q2,e1,e2]:=hg;let#[z1,z2,#[u,v,z3],z4,z5]:=st;let#[i1,r1,p1,l1]:=I.tuple q1;let#[i2,r2,p2,l2]:=I.tuple q2;have hx:=(List.getElem?_eq_some_iff.mp e1).1;have hy:=(List.getElem?_eq_some_iff.mp e2).1;have R:=FF ha hb;have D1:=HT.lD (prog:=X.prog) (w:=X.w) (A:=X.A.in1) (I.ok.hd hc) n a (cH ha) i1.toArray;have D2:=HT.lD (prog:=X.prog) (w:=X.w) (A:=X.A.in1) (I.ok.hd hc) (n+1) b (Bg 1 hb) i2.toArray;refine HT.AX D1 D2 R (by rw[bE,<-r1.length];exact hx) (by rw[bE,<-r2.length];exact hy) z1 z2 z3 #[z4,p1] #[z5,p2] λvx vy h' tk b1 b2 b3 b4 b5 b6 b7 b8=>#[_,rfl,?_];refine HT.Sj b3 λh2 IC k8=>?_;let#[w1,f1,g1]:=r1.get e1;let#[w2,f2,g2]:=r2.get e2;have aaK:i1[i]?=some vx:=by simpa using b1
  have aaL:i2[i]?=some vy:=by simpa using b2
  rw[f1]at aaK;cases aaK;rw[f2]at aaL;cases aaL;have Ee:(n+4:Nat)<s.heap.objs.size:=let ⟨_,_,_,z1⟩:=z1;a8 z1
  have afy:IsPair h2 s.heap.objs.size vx vy:=k8.extBut _ _ (Bh Ee).2.2.2.2 b7;have nw:H s.heap.objs.size=zp:=I.ai.fresh (au _);have I2:Inv X pins σ (upd H s.heap.objs.size (.tup [x,y])) { s with heap:=h2,toks:=tk }:=by
   refine I.afv (ch:=[n+4,n+2,n+3,n,n+1]) hf (λc o dq e=>?_) (au _) ?_
   .erw[bA,qJ,or_false,not_or]at dq;exact k8.extBut _ _ dq.1 (b8 c o dq.1 dq.2.2.1 dq.2.2.2.1 dq.2.2.2.2 e)
   .exact#[by show 2<=sizeLine;decide,[vx,vy],.cons g1 (.cons g2 .nil),#[_,afy,rfl,_,rfl]]
  refine#[.ref s.heap.objs.size,_,I2,rfl,λaiC aiD y1 y2=>#[_,x,y,by rw[I.QX y1 q1];exact e1,by rw[I.QX y2 q2];exact e2,nw,rfl,rfl],#[IC,?_,(let ⟨u,v,b4⟩:=b4;#[u,v,k8.extBut _ _ R.a.2.1 b4]),?_,?_],λc dq=>?_]
  .exact k8.extBut _ _ R.a.1 (b8 _ _ R.a.1 R.a.2.2.2.2.1 R.a.2.2.2.2.2.1 R.a.2.2.2.2.2.2.1 z2)
  .exact b5.1.at λo e=>k8.extBut _ _ R.a.2.2.1 e
  .exact b6.1.at λo e=>k8.extBut _ _ R.a.2.2.2.1 e
  .rw[fw]
   .exact(hf c dq).1
   .intro z;subst z;erw[bA,qJ,or_false]at dq;let#[m1,m2,m3,m4,m5]:=Bh Ee;rcases dq with q|q|q|q|q
    .exact m5 q
    .exact m3 q
    .exact m4 q
    .exact m1 q
    .exact m2 q
 done:=by
  intro X hP hw hK hc i pins s σ H E I hf st hg;subst hP hw hK;let#[xs,ys,q1,q2,hk]:=hg;let#[z1,z2,#[u,v,z3],z4,z5]:=st;let#[i1,r1,p1,l1]:=I.tuple q1;let#[i2,r2,p2,l2]:=I.tuple q2;have R:=FF ha hb;have D1:=HT.lD (prog:=X.prog) (w:=X.w) (A:=X.A.in1) (I.ok.hd hc) n a (cH ha) i1.toArray;have D2:=HT.lD (prog:=X.prog) (w:=X.w) (A:=X.A.in1) (I.ok.hd hc) (n+1) b (Bg 1 hb) i2.toArray;refine HT.AY D1 D2 R (k:=i) (by rw[bE,bE,<-r1.length,<-r2.length];exact hk) z1 z2 z3 #[z4,p1] #[z5,p2] λh' tk b8=>#[rfl,I.afx (ch:=[n+4,n+2,n+3,n,n+1]) hf λc o dq e=>?_];erw[bA,qJ,or_false,not_or]at dq;exact b8 c o dq.1 dq.2.2.1 dq.2.2.2.1 dq.2.2.2.2 e
 self:=λA i s Q E st h=>HT.Lq st.1 h
theorem aaM.lt {its:List zx}(p:IsTup s.heap a its.toArray):a<s.heap.objs.size:=by
 let#[o,e,_]:=p;exact a8 e
def afz (K:PySem.W.Frag) (ta:TA):TI:=λσ H R=>ta σ H λvs H2=>∃ (p q:Addr) (xs ys:List V),vs=[.ref p,.ref q] /\ bK K H2 p xs /\ bK K H2 q ys /\ R (Wa K p q) H2
theorem Sk {a b:Expr}{ta:TA}{p:Pos}(hg:Gl X "zip") (hm:X.mg "zip"=zp) (ha:PA X [a,b] ta) (hs:starEach [a,b] X.env=[(zc,eval a X.env),(zc,eval b X.env)]:=by rfl) (k8:starEach [b] X.env=[(zc,eval b X.env)]:=by rfl) :
 PI X tg (.Call (.Name "zip" p) [a,b] [] pos) (afz X.K ta):=by
 intro pins s σ H R I h;refine sv (jj I hg hm (by decide +kernel:bootBuiltins "zip"=some (.type "zip")) ?_);refine E7 (tA (ha pos pins s σ H _ I h) λus s1 vs H2 I2 r2 q=>?_) (by rw[hs,k8]) (by rw[k8];rfl);let#[x,y,xs,ys,rfl,hx,hy,q]:=q;let#[u,v,rfl,ru,rv]:=Vals.two r2;cases ru;cases rv;let#[i1,r1,p1,_]:=I2.tuple hx;let#[i2,r2,p2,_]:=I2.tuple hy;refine HT.GS (xs:=i1.toArray) (ys:=i2.toArray) p1 p2 λh' b1 b2 b3 b4 b5 b6=>?_;refine wpAny_pyIter_zip b1 ?_;refine#[s1.heap.objs.size+4,_,_,_,H2,rfl,I2.kept (t':=s1.toks) b6,Lr (aaM.lt p1) (aaM.lt p2),#[#[_,_,.inl zw,b1],b2,#[_,_,b3],b4,b5],λc hc=>?_,q];have hle:s1.heap.objs.size<=c:=by
  erw[bA,qJ,or_false]at hc;rcases hc with z|z|z|z|z<;>(rw[z];first|exact au _|exact vb _ _)
 exact I2.wY hle (I2.ai.fresh hle)
end L2
namespace L2.DL
section
variable {a b:Expr} {p:Pos} {k:DE (List W)}
noncomputable def kQ:List D->List D->List W
 |x::l,y::r=>.d (.tup [x,y])::kQ l r
 |_,_=>[]
theorem CD:∀ (l r:List D),(kQ l r).length=min l.length r.length
 |[],_=>by simp[kQ]
 |_::_,[]=>by simp[kQ]
 |_::l,_::r=>by erw[kQ,bg,CD l r];lia
theorem CF:∀ {l r:List D}{i:Nat}{w:W},(kQ l r)[i]?=some w->∃ x y,l[i]?=some x /\ r[i]?=some y /\ w=.d (.tup [x,y])
 |[],_,_,_,e=>by simp[kQ]at e
 |_::_,[],_,_,e=>by simp[kQ]at e
 |x::l,y::r,0,w,e=>by simp[kQ]at e;exact#[x,y,rfl,rfl,e.symm]
 | x::l,y::r,i+1,w,e=>by
   have e':(kQ l r)[i]?=some w:=by simpa[kQ] using e
   let#[x',y',h1,h2,h3]:=CF e';exact#[x',y',by simpa using h1,by simpa using h2,h3]
def uM (k:DE (List W)):DE (List W):=λenv bx=>fC (k env bx) λws bx1=>match ws with
 |[.d (.tup l),.d (.tup r)]=>.val (kQ l r) bx1
 |_=>.bad
theorem DM {p q:Addr}{vs us:List V}{m:List D}(hp:F p=some (.tup vs)) (hq:F q=some (.tup us)) (dl:aw F l vs) (dm:aw F m us):uE F r (kQ l m) (Wa K p q):=by
 intro T i F1 r1 σ1 H1 aK bx1 g R;have s1:bK K H1 p vs:=.of (R.fh _ _ (g.s _ _ hp));have s2:bK K H1 q us:=.of (R.fh _ _ (g.s _ _ hq));have e1:=dl.length;have e2:=dm.length;refine#[λhl=>?_,λw e=>?_]
 .rw[CD]at hl;exact#[vs,us,s1,s2,by lia]
 .let#[x,y,h1,h2,rfl]:=CF e;let#[v,f1,d1]:=dl.get h1;let#[u,f2,d2]:=dm.get h2;refine#[#[vs,us,v,u,s1,s2,f1,f2],λw H2 hy=>?_];let#[a,v',u',g1,g2,ha,rfl,rfl]:=hy vs us s1 s2;rw[f1]at g1;cases g1;rw[f2]at g2;cases g2;have gr:=R.tj (o:=.tup [v,u]) ha;exact#[_,gr,R.xj ha,a,[v,u],rfl,fv,.cons (Den.mono (g.trans gr).s x d1) (.cons (Den.mono (g.trans gr).s y d2) .nil)]
theorem N1 (hg:Gl X "zip") (hm:X.mg "zip"=zp) (ha:dQ X T Z [a,b] k) (hs:starEach [a,b] X.env=[(zc,eval a X.env),(zc,eval b X.env)]:=by rfl) (k8:starEach [b] X.env=[(zc,eval b X.env)]:=by rfl) :
 tF X T Z tg (.Call (.Name "zip" p) [a,b] [] pos) (uM k):=by
 refine PI.imp (Sk hg hm ha hs k8) λσ H Q=>x4 λF r env bx R h=>?_;refine#[F,r,env,bx,R,End.bind h λws bx1 F1 r1 vs H1 g1 R1 d1 h1=>?_];split at h1
 .ext l m;let#[v,t,rfl,#[p,us,rfl,k1,k2],v2,t2,rfl,#[q,afA,rfl,k3,k4],rt]:=d1;cases (show t2=[] from rt);exact#[p,q,us,afA,rfl,.of (R1.fh _ _ k1),.of (R1.fh _ _ k3),h1 F1 r1 _ H1 zat R1 (DM k1 k3 k2 k4)]
 .exact h1.elim
end
section
variable {a:Expr} {p:Pos}
def afB (K:PySem.W.Frag) (tl:TE):TI:=λσ H R=>tl σ H λx H1=>(∃ a,x=.ref a /\ (∃ xs,bO K H1 a xs) /\ R (HI K a) H1) \/ ∃ a,x=.ref a /\ (∃ xs,bK K H1 a xs) /\ R (Q0 K a) H1
theorem Sl {l:Expr}{tl:TE}(hl:PE X l tl):PI X tg l (afB X.K tl):=by
 intro pins s σ H R I h;refine tE (hl pins s σ H _ I h) λv s1 x H1 I1 r1 q1=>?_;rcases q1 with⟨a,rfl,⟨xs,hq⟩,q⟩|⟨a,rfl,⟨xs,hq⟩,q⟩
 .cases r1;let#[its,rv,p,hz]:=I1.list hq;refine KI p.isList #[s1.heap.objs.size,[s1.heap.objs.size],_,_,H1,rfl,I1.kept (t':=s1.toks) λb o e=>aT _ e,A4 a _,#[_,cg _ zw,rfl,rfl],λb hb=>?_,q];cases qo.mp hb;exact I1.wY (au _) (I1.ai.fresh (au _))
 .cases r1;let#[its,rv,p,hz]:=I1.tuple hq;refine K3 (show s1.heap.IsTuple a its.toArray from p) #[s1.heap.objs.size,[s1.heap.objs.size],_,_,H1,rfl,I1.kept (t':=s1.toks) λb o e=>aT _ e,Dq a _,#[_,cg _ zw,rfl,rfl],λb hb=>?_,q];cases qo.mp hb;exact I1.wY (au _) (I1.ai.fresh (au _))
theorem CG {a:Addr}{vs:List V}(k1:F a=some (.lst vs)) (k2:aw F l vs):uE F r (l.map W.d) (HI K a):=λT' i F2 r2 σ2 H2 a7 ah g2 R2=>by
 have hq:bO K H2 a vs:=.of (R2.fh _ _ (g2.s _ _ k1));refine#[λhl=>?_,λw e=>?_]
 .rw[aY,k2.length]at hl;exact#[vs,hq,wC hl]
 .let#[d,e1,rfl]:=Be e;let#[u,e2,du]:=k2.get e1;refine#[#[vs,u,hq,e2],λx H3 ⟨e3,hy⟩=>?_];subst e3;have e4:vs[i]?=some x:=hy vs hq;rw[e2]at e4;cases e4;exact#[F2,.refl F2 r2,R2,Den.mono g2.s d du]
theorem DN {a:Addr}{vs:List V}(k1:F a=some (.tup vs)) (k2:aw F l vs):uE F r (l.map W.d) (Q0 K a):=λT' i F2 r2 σ2 H2 a7 ah g2 R2=>by
 have hq:bK K H2 a vs:=.of (R2.fh _ _ (g2.s _ _ k1));refine#[λhl=>?_,λw e=>?_]
 .rw[aY,k2.length]at hl;exact#[vs,hq,wC hl]
 .let#[d,e1,rfl]:=Be e;let#[u,e2,du]:=k2.get e1;refine#[#[vs,u,hq,e2],λx H3 ⟨e3,hy⟩=>?_];subst e3;have e4:vs[i]?=some x:=hy vs hq;rw[e2]at e4;cases e4;exact#[F2,.refl F2 r2,R2,Den.mono g2.s d du]
theorem BM (ha:PD X T Z a ma):tF X T Z tg a (bB ma):=by
 refine PI.imp (Sl ha) λσ H Q=>x4 λF r env bx R h=>?_;refine#[F,r,env,bx,R,End.bind h λw bx1 F1 r1 v H1 g1 R1 d1 h1=>?_];split at h1
 .ext l;let#[p,vs,rfl,k1,k2]:=d1;exact .inl #[p,rfl,#[vs,.of (R1.fh _ _ k1)],h1 F1 r1 _ H1 zat R1 (CG k1 k2)]
 .ext l;let#[p,vs,rfl,k1,k2]:=d1;exact .inr #[p,rfl,#[vs,.of (R1.fh _ _ k1)],h1 F1 r1 _ H1 zat R1 (DN k1 k2)]
 .exact h1.elim
theorem N2 {v:Int}(hg:Gl X x) (hm:∃ t,X.mg x=some (.int v t)) (hd:(x==("__debug__":Str))=zc:=by decide):PD X T Z (.Name x pos) (dC (.int v)):=by
 let#[t,hm]:=hm;exact Ct (gf (v:=.int v) hg hm #[t,rfl] hd) λ_=>rfl
end
noncomputable def Wb (XN:List Str) (sc cs:Scope) (N:List Str) (src:List (Option Nat)):Bool:=
 decide (cs.kind=.function)&&decide (cs.names.map (·.1)).Nodup&&cs.names.all (λy=>decide (y.2=.local->cs.names.lookup y.1=some .local)) &&
 cs.names.all (λy=>decide (y.2=.free->(sc.names.lookup y.1=some .cell \/ sc.names.lookup y.1=some .free)))&&decide (src.length=N.length) &&
 (List.range src.length).all λj=>match src[j]?,N[j]? with
  |some (some i),some x=>decide (XN[i]?=some x /\ cs.names.lookup x=some .free)
  |_,_=>zu
theorem DO {XN:List Str}{src:List (Option Nat)}{sc cs:Scope}(hX:∀ x,X.env.kindOf x=sc.names.lookup x) (hN:X.N=XN) (h:Wb XN sc cs N src=zu):qQ X N src cs:=by
 subst hN;unfold Wb at h;erw[aD,decide_eq_true_eq,cS]at h;let#[#[#[#[#[h1,h2],h3],h4],h5],h6]:=h;refine#[h1,h2,λy hy=>h3 y hy,λy hy hf=>?_,h5,λj i x e1 e2=>?_]
 .rw[hX];exact h4 y hy hf
 .have q:=h6 j (List.mem_range.mpr (List.getElem?_eq_some_iff.mp e1).1);rw[e1,e2]at q;exact of_decide_eq_true q
section
variable (P:Program) (w:World) (K:PySem.W.Frag) (mg:Str -> Option zx) (base:Heap) (cl:Nat -> Addr)
def pB (k:Nat) (x:Str) (ps:List Str) (fn:List W->List Bx->O W):zy:=
 ∃ (f:Addr) (fd:FuncData),eZ P w K mg base (hJ P w) k f fd ps (rX cl ps.length fn) /\ mg x=some (.ref f) /\ PySem.W.keepIn K (.ref f)=zu /\ Binds K fd ps [] /\ ∃ o:Obj,K.lookup f=some o /\ o.data=.func fd
def Def (x:Str) (st:Stmt) (ps:List Str):zy:=∃ (f:Addr) (fd:FuncData),kB K x x st f fd /\ mg x=some (.ref f) /\ Binds K fd ps []
end
section
variable {k:Nat} {ps:List Str} {m:aj} {nn kk:Nat}
theorem _root_.L2.kB.obj {f:Addr}(F:kB K x qual st f fd):∃ o:Obj,K.lookup f=some o /\ o.data=.func fd:=by
 let#[#[oc,od,kV,doc,pm,an,cdv,ct,pH,_,l,_],_]:=F;exact#[_,l,rfl]
theorem Sn (d:Def K mg x st ps) (S:qv N ps (fG st))
 (kL:∀ (f:Addr) (cdv:zx) (A:Around) (outer:List Env) (s:Shared) (H:Hp) (E:XK) (n:Nat) (F0:Hp),cx k (A.deeper (envOfC x (fG st) s.heap.objs.size f cdv)) ->
  nI (pb qP P w K mg base N x (fG st) f cdv A outer s H E).sR #[H,n,F0] #[E0,cl] (gm st) m) (hn:N.length=nn:=by rfl) (Wc:k+1=kk:=by rfl):pB P w K mg base cl kk x ps (aR nn (aZ m)):=by
 subst hn Wc;let#[f,fd,F,hm,hb]:=d;exact#[f,fd,T1 F S (λcdv A outer s H E n F0 hr=>kL f cdv A outer s H E n F0 hr),hm,F.kp,hb,F.obj]
theorem N3 (d:Def K mg x st ps):pB P w K mg base cl k x ps (λ_ _=>.bad):=by
 let#[f,fd,F,hm,hb]:=d;refine#[f,fd,#[λvs H Q E h=>?_,λA outer s H args us vs Q E _ _ _ _ h=>?_],hm,F.kp,hb,F.obj]
 .let#[_,_,_,_,_,_,_,h]:=h;exact h.elim
 .let#[_,_,_,_,_,_,_,h]:=h;exact h.elim
end
section
variable {p:Pos} {k k':Nat} {ps:List Str} {m:DE (List W)} {nn:Nat}
theorem So (h:pB X.prog X.w X.K X.mg X.base Z.cl k x ps fn) (hr:cx k' X.A) (hk:k<=k') (hg:Gl X x) (hx:Passes (hJ X.prog X.w) X Z.E) (ha:dQ X T Z (e::es) m) (cY:(x==("__debug__":Str))=zc:=by decide)
 (he:starEach (e::es) X.env=zaB::starEach es X.env:=by rfl) (kA:(backTo pos (starEach es X.env)).any (·.1)=zc:=by rfl) (hn:ps.length=nn:=by rfl):PD X T Z zah (fu fn nn m):=by
 subst hn;let#[f,fd,G,hm,afC,hb,_]:=h;exact Ny G (hr.mono hk) hg hm afC hb hx ha cY he kA
end
end L2.DL
namespace HT
structure SB (kd:SortKind) (b:Array Keyed) (z:SortSt):zy where
 pm:(arrOf z).Perm b
 kd:kindOf z=kd
 fl:failedOf z=zp
 pn:pendingOf z=#[]
theorem SB.len {kd:SortKind}{b:Array Keyed}{z:SortSt}(g:SB kd b z):(arrOf z).size=b.size:=g.pm.size_eq
theorem SB.put {kd:SortKind}{b:Array Keyed}{z:SortSt}(g:SB kd b z) {c:Array Keyed}(q:c.Perm (arrOf z)):SB kd b (setArr z c):=#[q.trans g.pm,g.kd,g.fl,g.pn]
section
def se (prog:Program) (w:World) (A:Around) (E:zx->Shared->zy) (s:Shared) (κ:KeyKind) (kd:SortKind) (b:Array Keyed):zy:=
 ∀ (x y:Keyed),x∈b.toList->y∈b.toList->∀ (Q:Bool->Shared->zy) (E':zx->Shared->zy),Q (κ.blt ((κ.keyOf x.1).getD κ.dflt) ((κ.keyOf y.1).getD κ.dflt)) s->wpAny zk A (keyLt' kd x.1 y.1) Q E' s
variable {κ:KeyKind} {kd:SortKind} {b:Array Keyed}
noncomputable abbrev kx (κ:KeyKind) (z:SortSt) (i:Nat):κ.α:=KK κ (arrOf z) i
theorem SB.item {z:SortSt}(g:SB kd b z) (hi:i<b.size):∃ x,(arrOf z)[i]?=some x /\ x∈b.toList /\ kx κ z i=(κ.keyOf x.1).getD κ.dflt:=by
 have hz:i<(arrOf z).size:=g.len▸hi;refine#[(arrOf z)[i],getElem?_pos _ i hz,(Array.perm_iff_toList_perm.mp g.pm).mem_iff.mp zq,?_];erw[kx,KK,getElem?_pos (arrOf z) i hz]
theorem ask (C:se prog w A E s κ kd b) {z:SortSt}(g:SB kd b z) (hi:i<b.size) (hj:j<b.size) {Q:Option Bool->SortSt->zy}
 (q:Q (some (κ.blt (kx κ z i) (kx κ z j))) z):wpS zk A E s (ltAt' i j) Q z:=by
 let#[x,ex,mx,afD]:=g.item (κ:=κ) hi;let#[y,ey,my,afE]:=g.item (κ:=κ) hj;rw[afD,afE]at q;rw[ltAt'_eq];refine cq (wJ ?_);dsimp only;rw[elem'_eq,elem'_eq,ex,ey];refine cq (dM (cq (dM ?_)));rw[lt'_eq];refine cq (wJ ?_);rw[g.kd];exact cq (Qw (ya (C x y mx my _ _ #[rfl,dM q])))
def Up (κ:KeyKind) (z:SortSt) (n:Nat):zy:=∀ i j,i<=j->j<n->κ.kle (kx κ z i) (kx κ z j)
def Dn (κ:KeyKind) (z:SortSt) (n:Nat):zy:=∀ i j,i<=j->j<n->κ.kle (kx κ z j) (kx κ z i)
theorem Up.one {z:SortSt}(h:n<=1):Up κ z n:=λi j a c=>by
 have e:i=j:=by lia
 subst e;exact wN _
theorem Up.more {z:SortSt}(u:Up κ z n) (h:1<=n) (l:κ.kle (kx κ z (n-1)) (kx κ z n)):Up κ z (n+1):=λi j a c=>by
 rcases wD j n with c'|c'
 .exact u i j a c'
 obtain rfl:j=n:=by lia
 rcases wD i j with a'|a'
 .exact Hq (u i (j-1) zd zd) l
 .obtain rfl:i=j:=by lia
  exact wN _
theorem Dn.more {z:SortSt}(u:Dn κ z n) (h:1<=n) (l:κ.kle (kx κ z n) (kx κ z (n-1))):Dn κ z (n+1):=λi j a c=>by
 rcases wD j n with c'|c'
 .exact u i j a c'
 obtain rfl:j=n:=by lia
 rcases wD i j with a'|a'
 .exact Hq l (u i (j-1) zd zd)
 .obtain rfl:i=j:=by lia
  exact wN _
theorem asc (C:se prog w A E s κ kd b) {z:SortSt}(g:SB kd b z) {a:Nat}(hn:n<=b.size) (h1:1<=a) (h2:a<=n) (u:Up κ z a) {Q:AscSt->SortSt->zy}
 (q:∀ m,a<=m->m<=n->Up κ z m->(m<n->κ.klt (kx κ z m) (kx κ z (m-1)))->Q (zp,m) z):wpS zk A E s (ascLoop a n) Q z:=by
 unfold ascLoop;refine wK (I:=λm c y=>y=z /\ c=(zp,m) /\ Up κ z m) ?_ ?_ #[rfl,rfl,u]
 .intro m c y g1 g2 ⟨e1,e2,u'⟩;subst e1;subst e2;refine cq (ask C g (show m<b.size by lia) (show m-1<b.size by lia) ?_);cases e:κ.blt (kx κ y m) (kx κ y (m-1)) with
  |true=>exact dM (q m g1 (eV g2) u' λ_=>e)
  |false=>exact dM #[rfl,rfl,u'.more zd e]
 .intro c y ⟨e1,e2,u'⟩;subst e1;subst e2;rw[X6 h2]at u' ⊢;exact q n h2 (au n) u' λh=>absurd h (eU n)
theorem FG {z:SortSt}{k:Nat}(hj:j<=(arrOf z).size):kx κ (setArr z (mirror (arrOf z) i j ((j-i) / 2))) k=if i<=k /\ k<j then kx κ z (i+j-1-k) else kx κ z k:=KK_mirror (κ:=κ) hj k
theorem lF {z:SortSt}(hj:j<=(arrOf z).size) (e:∀ k,i<=k->k<j->kx κ z k=kx κ z (j-1)) (k:Nat):kx κ (setArr z (mirror (arrOf z) i j ((j-i) / 2))) k=kx κ z k:=KK_mirror_equal (κ:=κ) hj e k
def Ends (prog:Program) (w:World) (A:Around) (E:zx->Shared->zy) (s:Shared) (κ:KeyKind) (kd:SortKind) (b:Array Keyed) (n:Nat) (Q:Option Nat->SortSt->zy):zy:=
 ∀ m y,SB kd b y->1<=m->m<=n->Up κ y m->Q (some m) y
theorem turned (C:se prog w A E s κ kd b) {z:SortSt}(g:SB kd b z) {a:Nat}(hn:n<=b.size) (h1:1<=a) (h2:a<=n) (d:Dn κ z a) {Q:Option Nat->SortSt->zy}(q:Ends prog w A E s κ kd b n Q) :
 wpS zk A E s (tail3 a n) Q z:=by
 have hz:a<=(arrOf z).size:=g.len▸bU h2 hn;have g':SB kd b (setArr z (mirror (arrOf z) 0 a ((a-0) / 2))):=g.put (Hh _ _ _ _);unfold tail3;refine cq (Hi (cq (asc C g' hn h1 h2 (λi j c1 c2=>?_) λm m1 m2 um _=>dM (q m _ g' (bU h1 m1) m2 um))));rw[FG hz,FG hz,if_pos #[kI i,by lia],if_pos #[kI j,c2]];exact d _ _ zd zd
def Alike (κ:KeyKind) (z:SortSt) (m e:Nat):zy:=e+1<=m /\ ∀ i,m-(e+1)<=i->i<m->kx κ z i=kx κ z (m-1)
theorem Alike.zero {z:SortSt}{m:Nat}(h:1<=m):Alike κ z m 0:=#[h,λi h1 h2=>by rw[show i=m-1 by lia]]
theorem desc (C:se prog w A E s κ kd b) {z:SortSt}(g:SB kd b z) {a:Nat}(hn:n<=b.size) (h1:1<=a) (h2:a<=n) (d:Dn κ z a) {Q:DescSt->SortSt->zy}
 (q:∀ m e y,SB kd b y->a<=m->m<=n->Dn κ y m->Alike κ y m e->Q (zp,m,e) y):wpS zk A E s (descLoop a n) Q z:=by
 unfold descLoop;refine wK (I:=λm c y=>∃ e,c=(zp,m,e) /\ SB kd b y /\ Dn κ y m /\ Alike κ y m e) ?_ ?_ #[0,rfl,g,d,.zero h1]
 .intro m c y g1 g2 ⟨e,ec,gy,dy,al⟩;subst ec;have hm:m<=(arrOf y).size:=by rw[gy.len];lia
  refine cq (ask C gy (show m<b.size by lia) (show m-1<b.size by lia) ?_);cases t:κ.blt (kx κ y m) (kx κ y (m-1)) with
  |true=>
    have d':Dn κ y (m+1):=dy.more zd (Hr t);dsimp only;rw[if_pos rfl];by_cases he:e>0
    .rw[if_pos he];refine cq (Hi (dM #[0,rfl,gy.put (Hh _ _ _ _),λi j c1 c2=>?_,.zero zd]));rw[lF hm al.2,lF hm al.2];exact d' i j c1 c2
    .rw[if_neg he];exact dM #[0,rfl,gy,d',.zero zd]
  |false=>
    dsimp only;rw[if_neg zq];refine cq (ask C gy (show m-1<b.size by lia) (show m<b.size by lia) ?_);cases t2:κ.blt (kx κ y (m-1)) (kx κ y m) with
    |true=>exact dM (q m e y gy g1 zd dy al)
    |false=>
      have eq:kx κ y m=kx κ y (m-1):=Za t2 t;refine dM #[e+1,rfl,gy,dy.more zd t2,by have:=al.1;lia,λi c1 c2=>?_];rw[show m+1-1=m by lia];by_cases hi:i=m
      .rw[hi]
      .rw[eq];exact al.2 i zd zd
 .intro c y ⟨e,ec,gy,dy,al⟩;subst ec;rw[X6 h2]at dy al ⊢;exact q n e y gy h2 (au n) dy al
theorem fall (C:se prog w A E s κ kd b) {z:SortSt}(g:SB kd b z) {a:Nat}(hn:n<=b.size) (h2:a+1<=n) (d:Dn κ z (a+1)) {Q:Option Nat->SortSt->zy}(q:Ends prog w A E s κ kd b n Q) :
 wpS zk A E s (descPart a n) Q z:=by
 unfold descPart;refine cq (Qw (rF #[rfl,cq (desc C g hn (Nat.succ_pos a) h2 d λm e y gy m1 m2 dy al=>?_)]));dsimp only;by_cases he:e>0
 .rw[if_pos he];have hm:m<=(arrOf y).size:=by rw[gy.len];lia
  refine cq (Hi (turned C (gy.put (Hh _ _ _ _)) hn zd m2 (λi j c1 c2=>?_) q));rw[lF hm al.2,lF hm al.2];exact dy i j c1 c2
 .rw[if_neg he];exact turned C gy hn zd m2 dy q
theorem count (C:se prog w A E s κ kd b) {z:SortSt}(g:SB kd b z) (hn:n<=b.size) (h1:1<=n) {Q:Option Nat->SortSt->zy}(q:Ends prog w A E s κ kd b n Q) :
 wpS zk A E s (countRun' 0 n) Q z:=by
 rw[countRun0_eq];refine cq (asc C g hn (au 1) h1 (.one (au 1)) λm m1 m2 um last=>?_);dsimp only;by_cases hm:m=n
 .rw[if_pos (by simp[hm])];exact dM (q m z g m1 m2 um)
 rw[if_neg (by simp[hm])];have lt:=last zd;by_cases h3:m>1
 .rw[if_pos h3];refine cq (ask C g (show 0<b.size by lia) (show m-1<b.size by lia) ?_);cases t:κ.blt (kx κ z 0) (kx κ z (m-1)) with
  |true=>exact dM (q m z g m1 m2 um)
  |false=>
    dsimp only;rw[if_neg zq];have al:∀ k,0<=k->k<m->kx κ z k=kx κ z (m-1):=λk _ hk=>
     Za (um k (m-1) zd zd) (Hq t (um 0 k (kI k) hk))
    have hz:m<=(arrOf z).size:=by rw[g.len];lia
    refine cq (Hi (fall C (g.put (Hh _ _ _ _)) hn zd (λi j c1 c2=>?_) q));rw[lF hz al,lF hz al];have d0:Dn κ z m:=λi j c1 c2=>by rw[al i (kI _) zd,al j (kI _) c2];exact wN _
    exact d0.more m1 (Hr lt) i j c1 c2
 .rw[if_neg h3];obtain rfl:m=1:=by lia
  have d0:Dn κ z 1:=λi j c1 c2=>by
   obtain rfl:i=j:=by lia
   exact wN _
  exact fall C g hn zd (d0.more (au 1) (Hr lt)) q
end
section
variable {κ:KeyKind} {kd:SortKind} {b:Array Keyed}
def Fits (κ:KeyKind) (z:SortSt) (k l r:Nat):zy:=(∀ i,i<l->κ.kle (kx κ z i) (kx κ z k)) /\ ∀ i,r<=i->i<k->κ.klt (kx κ z k) (kx κ z i)
theorem FH {z:SortSt}{k l:Nat}(hk:k<(arrOf z).size) (hl:l<=k):kx κ (setArr z (bubble (arrOf z) k (k-l))) i=if i=l then kx κ z k else if l<i /\ i<=k then kx κ z (i-1) else kx κ z i:=by
 have e:=KK_bubble (κ:=κ) hk (Nat.sub_le k l) i;rw[show k-(k-l)=l by lia]at e;exact e
theorem Up.insert {z:SortSt}{k l:Nat}(u:Up κ z k) (hk:k<(arrOf z).size) (hl:l<=k) (f:Fits κ z k l l):Up κ (setArr z (bubble (arrOf z) k (k-l))) (k+1):=by
 intro i j c1 c2;rw[FH hk hl,FH hk hl];by_cases i1:i=l
 .rw[if_pos i1];by_cases j1:j=l
  .rw[if_pos j1];exact wN _
  .rw[if_neg j1,if_pos #[by lia,by lia]];exact Hr (f.2 _ zd zd)
 .rw[if_neg i1];by_cases i2:l<i /\ i<=k
  .rw[if_pos i2,if_neg zd,if_pos #[by lia,by lia]];exact u _ _ zd zd
  .rw[if_neg i2];by_cases j1:j=l
   .rw[if_pos j1];exact f.1 i zd
   .rw[if_neg j1];by_cases j2:l<j /\ j<=k
    .rw[if_pos j2];exact u _ _ zd zd
    .rw[if_neg j2];exact u _ _ c1 zd
theorem afF (C:se prog w A E s κ kd b) {z:SortSt}(g:SB kd b z) {m:Nat}(hn:n<=b.size) (hm:m<=n) (u:Up κ z m) {Q:Bool->SortSt->zy}(q:∀ y,SB kd b y->Up κ y n->Q zu y) :
 wpS zk A E s (binarySort' 0 n m) Q z:=by
 rw[binarySort'_eq];erw[K9];refine cq (Hj (Q:=λc y=>c=(zp,()) /\ SB kd b y /\ Up κ y n) (wK (I:=λk c y=>c=(zp,()) /\ SB kd b y /\ Up κ y (min k n)) ?_ ?_ ?_) ?_)
 .intro k c y k1 k2 ⟨ec,gy,uy⟩;subst ec;rw[X7 (eV k2)]at uy;have kb:k<b.size:=by lia
  have ks:k<(arrOf y).size:=by rw[gy.len];exact kb
  refine cq (Hj (Q:=λc y'=>y'=y /\ ∃ l r,c=(zp,l,r) /\ l<=k /\ Fits κ y k l l) (wK (I:=λx c y'=>y'=y /\ ∃ l r,c=(zp,l,r) /\ l<=r /\ r<=k /\ r-l<=k-x /\ Fits κ y k l r) ?_ ?_ ?_) ?_)
  .intro x c y' _ x2 ⟨ey,l,r,ec,p1,p2,p3,f⟩;subst ey;subst ec;dsimp only;by_cases lr:l>=r
   .rw[if_pos lr];obtain rfl:l=r:=by lia
    exact dM #[rfl,l,l,rfl,p2,f]
   rw[if_neg lr];refine cq (ask C gy kb (show (l+r) / 2<b.size by lia) ?_);cases t:κ.blt (kx κ y' k) (kx κ y' ((l+r) / 2)) with
   |true=>exact dM #[rfl,l,(l+r) / 2,rfl,by lia,by lia,by lia,f.1,λi i1 i2=>KeyOrd.klt_of_klt_of_kle t (uy _ _ i1 i2)]
   |false=>exact dM #[rfl,(l+r) / 2+1,r,rfl,by lia,by lia,by lia,λi i1=>Hq (uy i ((l+r) / 2) zd zd) t,f.2]
  .intro c y' ⟨ey,l,r,ec,p1,p2,p3,f⟩;obtain rfl:l=r:=by lia
   exact#[ey,l,l,ec,p2,f]
  .exact#[rfl,0,k,rfl,kI k,au k,au _,λi hi=>absurd hi (Nat.not_lt_zero i),λi i1 i2=>absurd i2 zd]
  .intro c y' ⟨ey,l,r,ec,p,f⟩;subst ey;subst ec;show wpS _ _ _ _ (moveDown' k l >>= λ_=>pure (ForInStep.yield (zp,()))) _ _;rw[moveDown'_eq];refine cq (Qx (dM #[rfl,gy.put (bubble_perm _ _ _),?_]));rw[X7 k2];exact uy.insert ks p f
 .intro c y ⟨ec,gy,uy⟩;rw[show min (max (max m 1) n) n=n by lia]at uy;exact#[ec,gy,uy]
 .refine#[rfl,g,?_];rcases wD m 1 with m0|m0
  .exact .one zd
  .rw[show min (max m 1) n=m by lia];exact u
 .intro c y ⟨ec,gy,uy⟩;subst ec;exact dM (q y gy uy)
def ID (κ:KeyKind) (b:Array Keyed) (y:SortSt):zy:=(arrOf y).Perm b /\ failedOf y=zp /\ pendingOf y=(List.toArray [(0,b.size,0)]) /\ Up κ y b.size
theorem SB.fin {y:SortSt}(g:SB kd b y) (u:Up κ y b.size):ID κ b (setPending y ((pendingOf y).push (0,b.size,0))):=#[g.pm,g.fl,by show (pendingOf y).push _=_;rw[g.pn];rfl,u]
theorem runs (C:se prog w A E s κ kd b) {z:SortSt}(g:SB kd b z) (h2:2<=b.size) (bY:b.size<64) {Q:Unit->SortSt->zy}(q:∀ y,(arrOf y).Perm b->failedOf y=zp->Up κ y b.size->Q () y) :
 wpS zk A E s sortRuns' Q z:=by
 have mr:minRun' b.size b.size 0=b.size:=by
  let#[f,e]:=Nat.exists_eq_add_of_lt (show 0<b.size by lia);have:minRun' (0+f+1) b.size 0=b.size:=by rw[minRun'_succ,if_pos bY];rfl
  rw[<-e]at this;exact this
 rw[sortRuns'_eq];refine cq (wJ ?_);dsimp only;erw[g.len,mr];refine cq (Hj (Q:=λc y=>c=(zp,b.size) /\ ID κ b y)
  (wK (I:=λx c y=>if x=0 then c=(zp,0) /\ SB kd b y else c=(zp,b.size) /\ ID κ b y) ?_ ?_ (by rw[if_pos rfl];exact#[rfl,g])) ?_)
 .intro x c y _ x2 I;by_cases x0:x=0
  .rw[if_pos x0]at I;let#[ec,gy]:=I;subst ec;subst x0;dsimp only;rw[if_neg zd];erw[K8,Nat.min_self,K9];have fin:∀ y',SB kd b y'->Up κ y' b.size->(if (1:Nat)=0 then ((zp:Option PUnit),b.size)=(zp,0) /\ SB kd b (setPending y' ((pendingOf y').push (0,b.size,0))) else ((zp:Option PUnit),b.size)=(zp,b.size) /\ ID κ b (setPending y' ((pendingOf y').push (0,b.size,0)))):=
    λy' g' u'=>by rw[if_neg zd];exact#[rfl,g'.fin u']
   refine cq (count C gy (au _) zd λm y1 g1 m1 m2 u1=>?_);dsimp only;by_cases lt:m<b.size
   .rw[if_pos lt];refine cq (Qw (rF #[rfl,cq (afF C g1 (au _) m2 u1 λy3 g3 u3=>?_)]));rw[if_neg zq];refine cq (wJ ?_);rw[show (pendingOf y3).back?=none by rw[g3.pn];rfl];exact cq (Qx (dM (fin y3 g3 u3)))
   .rw[if_neg lt];obtain rfl:m=b.size:=by lia
    refine cq (wJ ?_);rw[show (pendingOf y1).back?=none by rw[g1.pn];rfl];exact cq (Qx (dM (fin y1 g1 u1)))
  .rw[if_neg x0]at I;let#[ec,fy]:=I;subst ec;dsimp only;rw[if_pos (au _)];exact dM #[rfl,fy]
 .intro c y I;rw[if_neg zd]at I;exact I
 .intro c y ⟨ec,fy⟩;subst ec;dsimp only;refine cq (Hj (Q:=λc y'=>y'=y /\ c=(zp,())) (wK (I:=λ_ c y'=>y'=y /\ c=(zp,())) ?_ (λ_ _ h=>h) #[rfl,rfl]) ?_)
  .intro x c y' _ _ ⟨e1,e2⟩;subst e1;subst e2;refine cq (wJ ?_);rw[if_pos (by rw[fy.2.2.1];exact au 1)];exact dM #[rfl,rfl]
  .intro c y' ⟨e1,e2⟩;subst e1;subst e2;exact dM (q _ fy.1 fy.2.1 fy.2.2.2)
end
def cE (h:Heap) (v:zx) (ns:List Int):zy:=∃ a vs,v=.ref a /\ IsTup h a vs.toArray /\ IntsAre vs ns /\ ns≠[]
theorem jZ:∀ {vs:List zx}{ns ms:List Int},IntsAre vs ns->IntsAre vs ms->ns=ms
 |_,_,_,.nil,.nil=>rfl
 |_,_,_,.cons n t h,g=>by cases g with|cons _ _ g=>rw[jZ h g]
theorem cE.inj {h:Heap}{v:zx}{ms:List Int}(p:cE h v ns) (q:cE h v ms):ns=ms:=by
 let#[a,vs,rfl,#[o,e1,_,n,e2],i1,_]:=p;let#[a',sZ,e,#[o',f1,_,n',f2],i2,_]:=q;cases e;rw[e1]at f1;cases f1;rw[e2]at f2;injection f2 with g _;have:vs=sZ:=by simpa using g
 subst this;exact jZ i1 i2
theorem iy:∀ a,lexLt a a=zc
 |[]=>rfl
 |x::a=>by rw[fM,if_pos rfl];exact iy a
theorem jr:∀ a b c,lexLt a b=zu->lexLt b c=zu->lexLt a c=zu
 |[],[],_,h,_=>by cases h
 |[],_::_,[],_,h=>by cases h
 |[],_::_,_::_,_,_=>rfl
 |_::_,[],_,h,_=>by cases h
 |_::_,_::_,[],_,h=>by cases h
 | x::a,y::b,z::c,h,g=>by
   rw[fM]at *;by_cases e1:x=y
   .subst e1;rw[if_pos rfl]at h;by_cases e2:x=z
    .subst e2;rw[if_pos rfl]at g ⊢;exact jr a b c h g
    .rw[if_neg e2]at g ⊢;exact g
   .rw[if_neg e1]at h;by_cases e2:y=z
    .subst e2;rw[if_neg e1];exact h
    .rw[if_neg e2]at g;have h':=of_decide_eq_true h;have g':=of_decide_eq_true g;rw[if_neg zd];exact decide_eq_true zd
theorem gO:∀ a b,lexLt a b=zc->lexLt b a=zc->a=b
 |[],[],_,_=>rfl
 |[],_::_,h,_=>by cases h
 |_::_,[],_,h=>by cases h
 | x::a,y::b,h,g=>by
   rw[fM]at *;by_cases e:x=y
   .subst e;rw[if_pos rfl]at h g;rw[gO a b h g]
   .rw[if_neg e]at h;rw[if_neg (Ne.symm e)]at g;have h':=of_decide_eq_false h;have g':=of_decide_eq_false g;lia
theorem lG (a b c:List Int) (h:lexLt a c=zu):lexLt a b=zu \/ lexLt b c=zu:=by
 cases e:lexLt a b with
 |true=>exact .inl zw
 |false=>
   refine .inr ?_;cases f:lexLt b a with
   |true=>exact jr b a c f h
   |false=>rw[<-gO a b e f];exact h
open Classical in
def IE (h:Heap):KeyKind where
 α:=List Int
 blt:=lexLt
 irrefl:=iy
 trans:=jr
 negTrans:=lG
 total:=gO
 keyOf v:=if p:∃ ns,cE h v ns then some p.choose else zp
 dflt:=[]
open Classical in
theorem Bi {h:Heap}{v:zx}(p:cE h v ns):((IE h).keyOf v).getD []=ns:=by
 have e:∃ ns,cE h v ns:=#[ns,p];show (if p:∃ ns,cE h v ns then some p.choose else zp).getD []=ns;rw[dif_pos e];exact cE.inj e.choose_spec p
theorem Ap {x y:Int}{t u:Tok}(k:Bool) {Q:Bool->Shared->zy}(h:Q (decide (x<y)) s):wpAny zk A (oneLt' k (.int x t) (.int y u)) Q E s:=by
 cases k with
 |true=>exact oneLt_int h
 |false=>
   rw[oneLt'_eq];rw[if_neg zq];exact ae (show wpAny zk A (richCompare .Lt (.int x t) (.int y u)) _ E s from(Qs (su h):wpAny zk A (compareOp .Lt (.int x t) (.int y u)) _ E s))
theorem mM (f:Bool) (x y:zx):keyLt' (tuples' f) x y=(do
 let xs <-Builtin.List.listItems x
 let ys <-Builtin.List.listItems y
 for ((p,q),i) in (xs.toList.zip ys.toList).zipIdx do
  if !(<-eqBool p q) then return <-oneLt' (f&&i==0) p q
 return decide (xs.size<ys.size)):=rfl
theorem DP {f:Bool}{x y:zx}{ms:List Int}(hx:cE s.heap x ns) (hy:cE s.heap y ms) {Q:Bool->Shared->zy}(h:Q (lexLt ns ms) s):wpAny zk A (keyLt' (tuples' f) x y) Q E s:=by
 let#[a,vs,rfl,#[o,e1,_,n,e2],i1,_]:=hx;let#[a',us,rfl,#[o',f1,_,n',f2],i2,_]:=hy;rw[mM];refine ae (sJ e1 e2 (ae (sJ f1 f2 ?_)))
 have L:∀ (vs us:List zx) (ns ms:List Int) (i:Nat),IntsAre vs ns->IntsAre us ms->∀ (R:(Option Bool×PUnit)->Shared->zy),
  (∀ r,(r=(some (lexLt ns ms),PUnit.unit) \/ (r=(zp,PUnit.unit) /\ lexLt ns ms=decide (vs.length<us.length)))->R r s) ->
  wpAny zk A (forIn ((vs.zip us).zipIdx i) ((zp,PUnit.unit):Option Bool×PUnit) λ(z:(Value×Value)×Nat) _=>(do
   let z1 <-eqBool z.1.1 z.1.2
   if (!z1)=zu then do
    let r <-oneLt' (f&&z.2==0) z.1.1 z.1.2
    pure (ForInStep.done (some r,PUnit.unit))
   else pure (ForInStep.yield (zp,PUnit.unit)))) R E s:=by
  intro vs;induction vs with
  |nil=>
    intro us ns ms i p q R k;cases p;rw[yj,wH,sF];refine ak (k _ (.inr #[rfl,?_]));cases q with
    |nil=>rfl
    |cons m t q=>simp[jS]
  |cons v vs ih=>
    intro us ns ms i p q R k;cases p with
    |cons n t p=>
      cases q with
      |nil=>
        rw[ER,wH,sF];exact ak (k _ (.inr #[rfl,by simp[jT]]))
      |cons m u q=>
        rw[pK,EZ,vd];refine ae (ae (KD ?_));by_cases e:n=m
        .subst e;rw[if_neg zq];refine ak ?_;refine ih _ _ _ (i+1) p q R λr hr=>k r ?_;rw[fM,if_pos rfl];rcases hr with hr|⟨hr,We⟩
         .exact .inl hr
         .exact .inr #[hr,by rw[We];simp]
        .rw[if_pos (by simp[e])];refine ae (Ap _ (ak (ak (k _ (.inl ?_)))));rw[fM,if_neg e]
 refine ae (L vs us ns ms 0 i1 i2 _ λr hr=>?_);rcases hr with rfl|⟨rfl,e⟩
 .exact ak h
 .refine ak ?_;rw[bE,bE,<-e];exact h
theorem N4 (H:∀ v∈vs,∃ ns,cE s.heap v ns) (f:Bool):se prog w A E s (IE s.heap) (tuples' f) (pairsOf vs):=by
 intro x y mx my Q E' q;rw[Qy]at mx my;let#[ns,hx]:=H _ (yq mx).2;let#[ms,hy]:=H _ (yq my).2;refine DP hx hy ?_;have e1:=Bi hx;have e2:=Bi hy
 change Q (lexLt (((IE s.heap).keyOf x.1).getD []) (((IE s.heap).keyOf y.1).getD [])) s at q
 rw[e1,e2]at q;exact q
theorem GT {v:zx}(p:cE s.heap v ns) {Q:Option zx->Shared->zy}(h:∀ i t,Q (some (.int i t)) s):wpAny zk A (firstOfTuple' v) Q E s:=by
 let#[a,vs,rfl,#[o,e1,e3,n,e2],i1,ne]:=p;show wpAny zk A (do
  if (<-typeOf (.ref a)) != .type "tuple" then return zp
  return (<-Builtin.List.listItems (.ref a))[0]?) Q E s
 refine ae (wy (T:="tuple") #[o,e1,e3] ?_);rw[if_neg zf];refine ae (sJ e1 e2 (ak ?_));cases i1 with
 |nil=>exact absurd zw ne
 |cons i t _=>exact h i t
theorem DQ:∀ {vs:List zx},(∀ v∈vs,∃ ns,cE s.heap v ns)->∀ {Q:List (Option zx)->Shared->zy},(∀ (us:List zx) (is:List Int),us.length=vs.length->IntsAre us is->Q (us.map some) s)->wpAny zk A (vs.mapM firstOfTuple') Q E s:=by
 intro l_;induction l_ with
 |nil=>(intro _ Q h;rw[Yg];exact ak (h [] [] zw .nil))
 |cons v vs ao=>
   intro H Q h;let#[ns,p]:=H v (bF ..);rw[Yh];refine ae (GT p λi t=>ae (ao (λu hu=>H u (bD _ hu)) λus is e k=>ak (h (.int i t::us) (i::is) (by simp[e]) (.cons i t k))))
theorem Ls (ne:vs≠[]) (H:∀ v∈vs,∃ ns,cE s.heap v ns) {Q:SortKind->Shared->zy}(h:Q (tuples' zu) s):wpAny zk A (keyKind' vs.toArray) Q E s:=by
 rw[YF,E2];refine ae (show wpAny zk A (List.toArray <$> vs.mapM firstOfTuple') _ E s from ?_);rw[<-bind_pure_comp];refine ae (DQ H λus is e k=>ak ?_);rw[if_pos zq];refine ae (rF ?_);have e1:((us.map some).toArray.filterMap id)=us.toArray:=by simp[yk]
 rw[e1,YG,E2,YH k];cases us with
 |nil=>exact absurd (E3 e.symm) ne
 |cons u us=>
   erw[map_pure,pure_bind];rw[show ((u::us).map λ_=>Value.type "int").toArray[0]?=some (Value.type "int") by simp];dsimp only;rw[if_pos zq];exact ae (ak (ak h))
structure KP (P:Heap->zx->List Int->zy):zy where
 inj:∀ {h:Heap}{v:zx}{ns ms:List Int},P h v ns->P h v ms->ns=ms
 push:∀ {h:Heap}{v:zx}{ns:List Int},P h v ns->∀ o:Obj,P (h.push o) v ns
 upd:∀ {h:Heap}{v:zx}{ns:List Int},P h v ns->∀ {l:Addr}{xs:Array zx}{n:Nat},h.get? l=some (seqObj "list" xs n)->∀ f:Obj->Obj,P (h.update l f) v ns
theorem cE.push {h:Heap}{v:zx}{ns:List Int}(p:cE h v ns) (o:Obj):cE (h.push o) v ns:=by
 let#[a,vs,e,#[u,e1,e2],k]:=p;exact#[a,vs,e,#[u,aT _ e1,e2],k]
theorem cE.upd {h:Heap}{v:zx}(p:cE h v ns) {l:Addr}{xs:Array zx}(hl:h.get? l=some (seqObj "list" xs n)) (f:Obj->Obj):cE (h.update l f) v ns:=by
 let#[a,vs,e,#[u,e1,e2,e3],k]:=p;refine#[a,vs,e,#[u,?_,e2,e3],k];by_cases q:l=a
 .subst q;rw[hl]at e1;cases e1;injection (show Value.type "list"=Value.type "tuple" from e2) with e4;exact absurd e4 zf
 .rw[Yw _ _ _ _ (Ne.symm q)];exact e1
section
variable {P:Heap -> zx -> List Int -> zy} (KQ:KP P)
open Classical in
noncomputable def tL (P:Heap->zx->List Int->zy) (h:Heap):KeyKind where
 α:=List Int
 blt:=lexLt
 irrefl:=iy
 trans:=jr
 negTrans:=lG
 total:=gO
 keyOf v:=if p:∃ ns,P h v ns then some p.choose else zp
 dflt:=[]
include KQ in
open Classical in
theorem oT {h:Heap}{v:zx}(p:P h v ns):((tL P h).keyOf v).getD []=ns:=by
 have e:∃ ns,P h v ns:=#[ns,p];show (if p:∃ ns,P h v ns then some p.choose else zp).getD []=ns;rw[dif_pos e];exact KQ.inj e.choose_spec p
def tM (P:Heap->zx->List Int->zy) (h:Heap) (vs:List zx):zy:=vs.Pairwise λx y=>∀ ns ms,P h x ns->P h y ms->lexLt ms ns=zc
def IF (P:Heap->zx->List Int->zy) (prog:Program) (w:World) (U:Nat) (s:Shared) (vs:List zx):zy:=∀ (A:Around) (h':Heap),A.units<=U->(∀ v ns,P s.heap v ns->P h' v ns) ->
 (∀ {Q:SortKind->Shared->zy}{E:zx->Shared->zy},Q (tuples' zu) { s with heap:=h' }->wpAny zk A (keyKind' vs.toArray) Q E { s with heap:=h' }) /\ ∀ E,se prog w A E { s with heap:=h' } (tL P h') (tuples' zu) (pairsOf vs)
include KQ
theorem Lu {h:Heap}(H:∀ v∈vs,∃ ns,P h v ns) (up:∀ v ns,P h v ns->P h' v ns) {z:SortSt}(pm:(arrOf z).Perm (pairsOf vs)) (u:Up (tL P h') z (pairsOf vs).size) :
 ((arrOf z).map (·.2)).toList.Perm vs /\ tM P h ((arrOf z).map (·.2)).toList:=by
 have hl:(arrOf z).toList.Perm (vs.zip vs):=by rw[<-Qy];exact Array.perm_iff_toList_perm.mp pm
 have me:∀ p∈(arrOf z).toList,p.1=p.2 /\ p.1∈vs:=λp hp=>yq (hl.mem_iff.mp hp);rw[Array.toList_map];constructor
 .have:=hl.map (·.2);rw[Qg (au _)]at this;exact this
 .unfold tM;rw[nW,List.pairwise_iff_getElem];intro i j hi hj yx ns ms p q;have vR:i<(arrOf z).size:=by simpa using hi
  have xg:j<(arrOf z).size:=by simpa using hj
  have g:=u i j (eV yx) (by rw[<-pm.size_eq];exact xg);have ki:kx (tL P h') z i=ns:=by
   erw[kx,KK,getElem?_pos (arrOf z) i vR];rw[Zb,<-(me _ zq).1]at p;exact oT KQ (up _ _ p)
  have kj:kx (tL P h') z j=ms:=by
   erw[kx,KK,getElem?_pos (arrOf z) j xg];rw[Zb,<-(me _ zq).1]at q;exact oT KQ (up _ _ q)
  rw[ki,kj]at g;exact g
theorem FJ {R:Fin->Shared->zy}(ho:s.heap.get? a=some (seqObj "list" vs.toArray n)) (H:∀ v∈vs,∃ ns,P s.heap v ns) {U:Nat}(hU:A.units<=U) (S:vs≠[]->IF P prog w U s vs) (bY:vs.length<64)
 (h:∀ out:Array zx,out.toList.Perm vs->tM P s.heap out.toList->R (.done (.ret .none)) { s with heap:=sortedHeap s.heap a vs out }):wpAny zk A (Builtin.«list.sort» #[[.ref a],[]]) R E s:=by
 rw[list_sort_plain];have la:a<s.heap.objs.size:=a8 ho;refine ae (sJ ho zw (ae (E8 ho zw ?_)));obtain⟨k,aaN⟩:∃ k,(s.heap.update a (Obj.mapSeq λ_=>#[])).get? a=some (seqObj "list" #[] k):=#[_,YD ho (λ_=>#[])];refine ae (Qz aaN zw (ae (K0 (ae (wz (kX ?_))))));generalize eh:((s.heap.update a (Obj.mapSeq λ_=>#[])).push (seqObj "tuple" vs.toArray 0)).push (seqObj "list" #[] 0)=h6;have up:∀ v ns,P s.heap v ns->P h6 v ns:=λv ns p=>eh▸KQ.push (KQ.push (KQ.upd p ho _) _) _;have IG:h6.get? a=some (seqObj "list" #[] k):=by
  rw[<-eh];exact aT _ (aT _ aaN)
 have fin:∀ out:Array zx,out.toList.Perm vs->tM P s.heap out.toList->R (.done (.ret .none)) { s with heap:=h6.update a (Obj.mapSeq λ_=>out) }:=λout p q=>by
  rw[<-eh];exact h out p q
 show wpAny zk A _ R E { s with heap:=h6 };dsimp only;have big:vs.length<=sizeLine+1:=by rw[bj];lia
 by_cases h2:vs.toArray.size<2
 .rw[if_pos h2,if_pos h2];refine ae (ak ?_);rw[StateT.run_pure];refine ae (ak ?_);dsimp only;have em:(Array.map (λx=>x.2) (vs.toArray.zip vs.toArray))=vs.toArray:=by
   apply Array.toList_inj.mp;simp[Qg]
  rw[em];refine ae (Qz IG zw (ae (E8 IG zw ?_ (hsz2:=by rw[bE];exact big))));rw[bne_self_eq_false];refine ak (fin vs.toArray (List.Perm.refl _) ?_);rw[bE]at h2;unfold tM;match vs,h2 with
  |[],_=>exact List.Pairwise.nil
  |[x],_=>exact List.pairwise_singleton _ _
 .rw[if_neg h2,if_neg h2];rw[bE]at h2;have ne:vs≠[]:=λe=>by rw[e]at h2;simp at h2
  have H6:∀ v∈vs,∃ ns,P h6 v ns:=λv m=>let ⟨ns,p⟩:=H v m;#[ns,up v ns p]
  refine ae ((S ne A h6 hU up).1 ?_);refine ae (eT (runs (s:={ s with heap:=h6 }) (κ:=tL P h6) (kd:=tuples' zu) (b:=pairsOf vs) (z:=SortSt.mk' (tuples' zu) (vs.toArray.zip vs.toArray) #[] 7 zp)
   (Q:=λ_ y=>(arrOf y).Perm (pairsOf vs) /\ failedOf y=zp /\ Up (tL P h6) y (pairsOf vs).size) ((S ne A h6 hU up).2 _) #[Array.Perm.refl _,rfl,rfl,rfl] (by rw[QA];lia) (by rw[QA];exact bY) λy a1 a2 a3=>#[a1,a2,a3]) ?_ λ_ _ e=>e)
  rintro⟨⟨⟩,y⟩ s' ⟨es,pm,fl,u⟩;subst es;dsimp only;let#[o1,o2]:=Lu KQ H up pm u;refine ae (Qz IG zw (ae (E8 IG zw ?_ (hsz2:=by rw[Array.size_map,pm.size_eq,QA];exact big))));rw[fl,bne_self_eq_false];exact ak (fin _ o1 o2)
theorem Bj {l:Addr}(hl:s.heap.IsList l vs.toArray) (H:∀ v∈vs,∃ ns,P s.heap v ns) {U:Nat}(hU:A.units+8<=U) (S:vs≠[]->IF P prog w U s vs) (bY:vs.length<64)
 (h:∀ out:Array zx,out.toList.Perm vs->tM P s.heap out.toList->Q (.ref zK) { s with heap:=sortedAll s.heap vs out }):wpAny zk A (call (.builtin "sorted") [.ref l]) Q E s:=by
 refine Hn E9 Ha Hb (Hc _) ?_;unfold Builtin.«sorted»;refine ae (m:=checkCount "sorted" 1 1 _) (ak (ae (collect_list hl (ae (wz ?_)))));generalize eg:(s.heap.push (seqObj "list" #[] 0)).update s.heap.objs.size (Obj.mapSeq (·++vs.toArray))=g;have sg:g.objs.size=s.heap.objs.size+1:=by rw[<-eg,Yv,Hd]
 have up:∀ v ns,P s.heap v ns->P (g.push (seqObj "list" vs.toArray 0)) v ns:=λv ns p=>by
  rw[<-eg];exact KQ.push (KQ.upd (KQ.push p _) (cg _ zw) _) _
 have dn:∀ v ns,v∈vs->P (g.push (seqObj "list" vs.toArray 0)) v ns->P s.heap v ns:=λv ns m p=>by
  let#[ms,q]:=H v m;rw[KQ.inj p (up v ms q)];exact q
 have gl:(g.push (seqObj "list" vs.toArray 0)).get? zK=some (seqObj "list" vs.toArray 0):=by rw[<-sg];exact cg _ zw
 show wpAny _ _ _ _ _ { s with heap:=g.push (seqObj "list" vs.toArray 0) };rw[sg];refine ae (kX (pI He #[_,gl,rfl] Hf (FJ KQ (s:={ s with heap:=g.push (seqObj "list" vs.toArray 0) }) gl (λv m=>let ⟨ns,p⟩:=H v m;#[ns,up v ns p]) (U:=U) (show A.units+1+1<=U by lia) (λne A h2 hu k=>S ne A h2 hu λv ns p=>k v ns (up v ns p)) bY λout o1 o2=>#[_,rfl,ak #[_,rfl,?_]]) (Hg _)));have:=h out o1 (List.Pairwise.imp (λ{x y} r ns ms p q=>r ns ms (up _ _ p) (up _ _ q)) o2);unfold sortedAll at this;rw[eg]at this;exact this
omit KQ
theorem tupP:KP cE:=#[cE.inj,cE.push,λp _ _ _ hl f=>cE.upd p hl f]
theorem Bm {U:Nat}(H:∀ v∈vs,∃ ns,cE s.heap v ns) (ne:vs≠[]):IF cE prog w U s vs:=λA h' _ up=>#[λh=>Ls (s:={ s with heap:=h' }) ne (λv m=>let ⟨ns,p⟩:=H v m;#[ns,up v ns p]) h,λE=>N4 (s:={ s with heap:=h' }) (λv m=>let ⟨ns,p⟩:=H v m;#[ns,up v ns p]) zu]
end
end HT
namespace L2.DL
def Ei (K:PySem.W.Frag) (vs:List V) (H:Hp) (Q:VK):zy:=∃ (p:Addr) (rs:List Addr) (key:Addr->List Int),vs=[.ref p] /\ bO K H p (rs.map V.ref) /\ (∀ r∈rs,H r=some (.tup ((key r).map V.int)) /\ key r≠[]) /\ rs.length<64 /\
 ∀ (l:Addr) (nO:List Addr),H l=zp->nO.Perm rs->nO.Pairwise (λa b=>HT.lexLt (key b) (key a)=zc)->Q (.ref l) (upd H l (.lst (nO.map V.ref)))
theorem Aq:∀ {rs:List Addr}{us:List zx},Vals (rs.map V.ref) us->us=rs.map Value.ref
 |[],_,.nil=>rfl
 | r::rs,_,.cons q t=>by
   cases q;rw[Aq t];rfl
noncomputable def Wf:zx->Addr
 |.ref a=>a
 |_=>0
theorem GU {rs:List Addr}(p:us.Perm (rs.map Value.ref)):∃ nO:List Addr,us=nO.map Value.ref /\ nO.Perm rs:=by
 refine#[us.map Wf,?_,?_]
 .rw[bw];refine(yn us).symm.trans (qm λu hu=>?_);let#[r,_,rfl]:=bJ.mp (p.mem_iff.mp hu);rfl
 .have:=p.map Wf;rw[bw]at this;exact this.trans (by rw[show (Wf∘Value.ref)=id from rfl,yn])
theorem oa:∀ (rs:List Addr),Vals (rs.map V.ref) (rs.map Value.ref):=by
 intro l_;induction l_ with
 |nil=>exact .nil
 |cons r rs ao=>exact .cons zw (ao)
theorem DR:dY X (.builtin "sorted") (Ei X.K):=by
 intro pins s σ H xs us Q I rv h;let#[p,rs,key,rfl,hp,hk,bY,q]:=h;let#[u,rfl,ru]:=Vals.one rv;cases ru;let#[its,r1,p1,z1]:=I.list hp;have ei:=Aq r1;subst ei;have tup:∀ r∈rs,HT.cE s.heap (.ref r) (key r):=λr m=>by
  let#[ys,v1,v2,_]:=I.tuple (.of (hk r m).1);exact#[r,ys,rfl,v2,iq v1,(hk r m).2]
 have HH:∀ v∈rs.map Value.ref,∃ ns,HT.cE s.heap v ns:=λv m=>by
  let#[r,mr,rfl]:=bJ.mp m;exact#[_,tup r mr]
 refine HT.Bj HT.tupP p1.isList HH (U:=X.A.units+8) (au _) (λne=>HT.Bm HH ne) (by rw[aY];exact bY) λout o1 o2=>?_;let#[nO,e1,e2]:=GU o1;let#[k,he]:=Qu s.heap (rs.map Value.ref) out;have hf:H zK=zp:=I.ai.fresh (rG _);have ll:(nO.map V.ref).length<=sizeLine:=by
  rw[aY,e2.length_eq];exact bU (eV bY) zf
 have ord:nO.Pairwise (λa b=>HT.lexLt (key b) (key a)=zc):=by
  unfold HT.tM at o2;rw[e1,nW]at o2;refine QP (λ{a b} ma mb r=>?_) o2;exact r _ _ (tup a (e2.mem_iff.mp ma)) (tup b (e2.mem_iff.mp mb))
 refine#[.ref zK,_,I.laid (t':=s.toks) (o:=.lst (nO.map V.ref)) (λb ob q=>Qv q) (rG _) ?_,rfl,q _ nO hf e2 ord];exact#[ll,out.toList,k,e1▸oa nO,he]
def uN:List D->Option (List (List Int))
 |[]=>some []
 |.tup t::l=>(intsOf t).bind λns=>if ns.isEmpty then zp else (uN l).map λr=>ns::r
 |_=>zp
def nP (ns:List (List Int)):List (List Int):=ns.mergeSort λa b=>!HT.lexLt b a
theorem jC (ns:List (List Int)):(nP ns).Perm ns:=EX ns _
theorem iM (ns:List (List Int)):(nP ns).Pairwise (λa b=>HT.lexLt b a=zc):=by
 have h:=Qf (le:=λa b:List Int=>!HT.lexLt b a) (λa b c h1 h2=>by
  erw[pO]at *;cases e:HT.lexLt c a with
  |false=>rfl
  |true=>rcases HT.lG c b a e with q|q<;>simp_all) (λa b=>by
  cases e:HT.lexLt b a with
  |false=>simp
  |true=>
    cases f:HT.lexLt a b with
    |false=>simp
    |true=>have:=HT.jr a b a f e;rw[HT.iy]at this;cases this) ns
 exact h.imp λq=>by simpa using q
theorem lZ {a b:List (List Int)}(p:a.Perm b) (ha:a.Pairwise (λa b=>HT.lexLt b a=zc)) (hb:b.Pairwise (λa b=>HT.lexLt b a=zc)):a=b:=
 p.eq_of_pairwise (λx y _ _ h1 h2=>HT.gO x y h2 h1) ha hb
noncomputable def rl (ns:List (List Int)):List D:=ns.map λt=>D.tup (t.map D.int)
def tO:List D->Option Res:=λxs=>match uH xs with
 |some r=>some r
 | none=>match xs with
   |[.lst l]=>(uN l).bind λns=>if ns.length<64 then some (.lst (rl (nP ns))) else zp
   |_=>zp
noncomputable def sf (F:Hp) (a:Addr):List Int:=match F a with
 |some (.tup vs)=>vs.filterMap λv=>match v with|.int i=>some i|_=>zp
 |_=>[]
theorem N5 (h:F a=some (.tup (ns.map V.int))):sf F a=ns:=by
 erw[sf,h,yk];exact(Ye (f:=id)▸yn ns:List.filterMap (some∘id) ns=ns)
theorem CH {F:Hp}:∀ {l:List D}{vs:List V}{ns:List (List Int)},aw F l vs->uN l=some ns->∃ rs:List Addr,vs=rs.map V.ref /\ ns=rs.map (sf F) /\ ∀ r∈rs,F r=some (.tup ((sf F r).map V.int)) /\ sf F r≠[]
 | [],vs,ns,h,e=>by
   cases e;exact#[[],h,rfl,λr m=>by cases m]
 | .tup t::l,vs,ns,h,e=>by
   let#[v,us,rfl,#[a,ws,rfl,f1,f2],h2]:=h;erw[uN]at e;cases e1:intsOf t with
   |none=>rw[e1]at e;cases e
   |some ms=>
     rw[e1]at e;erw[cj]at e;split at e
     .cases e
     ext ne;cases e2:uN l with
     |none=>rw[e2]at e;cases e
     |some ks=>
       rw[e2]at e;cases e;let#[rs,q1,q2,q3]:=CH h2 e2;have fa:=f2.ints e1;subst fa;have ka:=N5 f1;refine#[a::rs,by rw[q1];rfl,by rw[q2,az,ka],λr m=>?_];rcases bA.mp m with rfl|m
       .rw[ka];exact#[f1,λz=>ne (by rw[z];rfl)]
       .exact q3 r m
 |.non::_,_,_,_,e=>by cases e
 |.bl _::_,_,_,_,e=>by cases e
 |.int _::_,_,_,_,e=>by cases e
 |.str _::_,_,_,_,e=>by cases e
 |.lst _::_,_,_,_,e=>by cases e
 |.af _::_,_,_,_,e=>by cases e
theorem Lv:∀ (rs:List Addr),(∀ r∈rs,F r=some (.tup ((sf F r).map V.int)))->aw F (rl (rs.map (sf F))) (rs.map V.ref):=by
 intro l_;induction l_ with
 |nil=>exact λ_=>rfl
 |cons r rs ao=>exact λh=>.cons #[r,_,rfl,h r (bF ..),jW _] (ao λq m=>h q (bD _ m))
theorem CI:dY X (.builtin "sorted") (λvs H Q=>xo X.K vs H Q \/ Ei X.K vs H Q):=by
 intro pins s σ H xs us Q I rv h;rcases h with h|h
 .exact GK pins s σ H xs us Q I rv h
 .exact DR pins s σ H xs us Q I rv h
theorem afG:k9 (λvs H Q=>xo K vs H Q \/ Ei K vs H Q) tO:=by
 intro F H xs vs Q s sub rx e k;unfold tO at e;cases er:uH xs with
 |some r=>
   rw[er]at e;cases e;exact .inl (afb F H xs vs Q s sub rx er k)
 |none=>
   rw[er]at e;dsimp only at e;clear er;split at e
   .ext l;let#[v,t,rfl,#[a,us,rfl,h1,h2],rt]:=rx;cases (show t=[] from rt);cases e1:uN l with
    |none=>rw[e1]at e;cases e
    |some ns=>
      rw[e1]at e;erw[cj]at e;split at e
      .ext bY;cases e;let#[rs,q1,q2,q3]:=CH h2 e1;subst q1;refine .inr #[a,rs,sf F,rfl,.of h1,λr m=>#[sub _ _ (q3 r m).1,(q3 r m).2],by rw[q2,aY]at bY;exact bY,λl nO hl pm ord=>k _ _ #[l,_,rfl,hl,rfl,?_]];have:nO.map (sf F)=nP ns:=lZ ((pm.map (sf F)).trans (by rw[<-q2];exact(jC ns).symm)) (nW.mpr ord) (iM ns);rw[<-this];exact Lv nO λr m=>(q3 r (pm.mem_iff.mp m)).1
      .cases e
   .cases e
end L2.DL
namespace HT
inductive ay where
 |i (n:Int)|s (x:Str)|t (ns:List Int)
 deriving DecidableEq
noncomputable def ay.code:ay->List Int
 |.i n=>[n]
 |.s x=>x.cps.toList.map (λ(c:Nat)=>(c:Int)+1)++[0]
 |.t ns=>ns.flatMap (λn=>[1,n])++[0]
noncomputable def ay.like:ay->ay->Bool
 |.i _,.i _=>zu
 |.s _,.s _=>zu
 |.t _,.t _=>zu
 |_,_=>zc
def aQ (l:List ay):List Int:=l.flatMap (λd=>1::d.code)++[0]
def eO (l m:List ay):Bool:=(l.zip m).all λp=>p.1.like p.2
theorem CJ (r q:List Int):∀ (a b:List Nat),a≠b->lexLt ((a.map λ(c:Nat)=>(c:Int)+1)++[0]++r) ((b.map λ(c:Nat)=>(c:Int)+1)++[0]++q)=decide (a<b)
 |[],[],h=>absurd zw h
 | [],y::b,_=>by
   show lexLt (0::_) (((y:Int)+1)::_)=_;rw[fM,if_neg zd,decide_eq_true zd,decide_eq_true zq]
 | x::a,[],_=>by
   show lexLt (((x:Int)+1)::_) (0::_)=_;rw[fM,if_neg zd,decide_eq_false zd,decide_eq_false zq]
 | x::a,y::b,h=>by
   show lexLt (((x:Int)+1)::_) (((y:Int)+1)::_)=_;rw[fM];by_cases e:x=y
   .subst e;rw[if_pos rfl];have ih:=CJ r q a b (λz=>h (by rw[z]));refine ih.trans ?_;by_cases c:a<b
    .rw[decide_eq_true c,decide_eq_true (by simpa using c)]
    .rw[decide_eq_false c,decide_eq_false (by simpa using c)]
   .rw[if_neg zd];by_cases c:x<y
    .rw[decide_eq_true zd,decide_eq_true (List.cons_lt_cons_iff.mpr (.inl c))]
    .rw[decide_eq_false zd,decide_eq_false ?_];intro z;rcases List.cons_lt_cons_iff.mp z with z|z
     .lia
     .lia
theorem CK (r q:List Int):∀ (a b:List Int),a≠b->lexLt (a.flatMap (λn=>[1,n])++[0]++r) (b.flatMap (λn=>[1,n])++[0]++q)=lexLt a b
 |[],[],h=>absurd zw h
 | [],y::b,_=>by
   show lexLt (0::_) (1::_)=_;rw[fM,if_neg zd];rfl
 | x::a,[],_=>by
   show lexLt (1::_) (0::_)=_;rw[fM,if_neg zd];rfl
 | x::a,y::b,h=>by
   show lexLt (1::x::(a.flatMap (λn=>[1,n])++[0]++r)) (1::y::(b.flatMap (λn=>[1,n])++[0]++q))=_;rw[fM,if_pos rfl,fM,fM];by_cases e:x=y
   .subst e;rw[if_pos rfl,if_pos rfl];exact CK r q a b λz=>h (by rw[z])
   .rw[if_neg e,if_neg e]
def ay.lt:ay->ay->Bool
 |.i n,.i m=>decide (n<m)
 |.s x,.s y=>decide (x.cps.toList<y.cps.toList)
 |.t n,.t m=>lexLt n m
 |_,_=>zc
theorem ay.app (r q:List Int):∀ {a b:ay},a.like b=zu->a≠b->lexLt (a.code++r) (b.code++q)=a.lt b
 | .i n,.i m,_,h=>by
   show lexLt (n::r) (m::q)=_;rw[fM,if_neg (λz=>h (by rw[z]))];rfl
 |.s x,.s y,_,h=>CJ r q _ _ λz=>h (by
  let#[#[a]]:=x;let#[#[b]]:=y;have z':a=b:=z;rw[z'])
 |.t n,.t m,_,h=>CK r q n m λz=>h (by rw[z])
theorem Lw (a r q:List Int):lexLt (a++r) (a++q)=lexLt r q:=by
 induction a with
 |nil=>rfl
 |cons x a ih=>rw[EV,EV,fM,if_pos rfl,ih]
def cu:List ay->List ay->Bool
 |[],m=>!m.isEmpty
 |_::_,[]=>zc
 |a::l,b::m=>if a=b then cu l m else a.lt b
theorem BN:∀ (l m:List ay),eO l m=zu->lexLt (aQ l) (aQ m)=cu l m
 |[],[],_=>rfl
 | [],b::m,_=>by
   show lexLt (0::[]) (1::_)=_;rw[fM,if_neg zd];rfl
 | a::l,[],_=>by
   show lexLt (1::_) (0::[])=_;rw[fM,if_neg zd];rfl
 | a::l,b::m,h=>by
   have h':(a.like b&&eO l m)=zu:=h;rw[aD]at h';have e1:aQ (a::l)=1::(a.code++aQ l):=by simp[aQ]
   have e2:aQ (b::m)=1::(b.code++aQ m):=by simp[aQ]
   rw[e1,e2,fM,if_pos rfl];unfold cu;by_cases c:a=b
   .rw[if_pos c,c,Lw];exact BN l m h'.2
   .rw[if_neg c];exact ay.app _ _ h'.1 c
noncomputable def ng (h:Heap) (v:zx):ay->zy
 |.i n=>∃ t,v=.int n t
 |.s x=>∃ t,v=.str x t
 |.t ns=>∃ a vs,v=.ref a /\ IsTup h a vs.toArray /\ IntsAre vs ns
inductive eB (h:Heap):List zx->List ay->zy
 |nil:eB h [] []
 |cons {v:zx}{d:ay}{vs:List zx}{l:List ay}:ng h v d->eB h vs l->eB h (v::vs) (d::l)
def tQ (L:List (List ay)) (h:Heap) (v:zx) (ns:List Int):zy:=∃ a vs n l,v=.ref a /\ IsTup h a vs.toArray /\ eB h vs (.i n::l) /\ .i n::l∈L /\ ns=aQ (.i n::l)
theorem ng.inj {h:Heap}{v:zx}:∀ {a b:ay},ng h v a->ng h v b->a=b
 |.i n,.i m,⟨t,e⟩,⟨u,f⟩=>by rw[e]at f;cases f;rfl
 |.s n,.s m,⟨t,e⟩,⟨u,f⟩=>by rw[e]at f;cases f;rfl
 | .t n,.t m,⟨a,vs,e,⟨o,e1,_,k,e2⟩,i1⟩,⟨a',sZ,f,⟨o',f1,_,k',f2⟩,i2⟩=>by
   rw[e]at f;cases f;rw[e1]at f1;cases f1;rw[e2]at f2;injection f2 with g _;have:vs=sZ:=by simpa using g
   subst this;rw[jZ i1 i2]
 |.i n,.s m,⟨t,e⟩,⟨u,f⟩=>by rw[e]at f;cases f
 |.s n,.i m,⟨t,e⟩,⟨u,f⟩=>by rw[e]at f;cases f
 |.i n,.t m,⟨t,e⟩,⟨_,_,f,_⟩=>by rw[e]at f;cases f
 |.s n,.t m,⟨t,e⟩,⟨_,_,f,_⟩=>by rw[e]at f;cases f
 |.t n,.i m,⟨_,_,e,_⟩,⟨u,f⟩=>by rw[e]at f;cases f
 |.t n,.s m,⟨_,_,e,_⟩,⟨u,f⟩=>by rw[e]at f;cases f
theorem eB.inj {h:Heap}{vs:List zx}{l m:List ay}(p:eB h vs l) (q:eB h vs m):l=m:=by
 induction p generalizing m with
 |nil=>cases q;rfl
 |cons a _ ih=>cases q with|cons b q=>rw[a.inj b,ih q]
theorem ng.keep {h:Heap}{v:zx}{d:ay}(p:ng h v d) (k:∀ a vs,IsTup h a vs->IsTup h' a vs):ng h' v d:=by
 cases d with
 |i n=>exact p
 |s x=>exact p
 |t ns=>let#[a,vs,e,t,i]:=p;exact#[a,vs,e,k _ _ t,i]
theorem eB.keep {h h':Heap}{vs:List zx}{l:List ay}(p:eB h vs l) (k:∀ a vs,IsTup h a vs->IsTup h' a vs):eB h' vs l:=by
 induction p with
 |nil=>exact .nil
 |cons a _ ih=>exact .cons (a.keep k) ih
theorem CL {h:Heap}(o:Obj):∀ a vs,IsTup h a vs->IsTup (h.push o) a vs:=λa vs ⟨u,e1,e2⟩=>#[u,aT _ e1,e2]
theorem FK {h:Heap}{l:Addr}{xs:Array zx}(hl:h.get? l=some (seqObj "list" xs n)) (f:Obj->Obj):∀ a vs,IsTup h a vs->IsTup (h.update l f) a vs:=λa vs ⟨u,e1,e2,e3⟩=>by
 refine#[u,?_,e2,e3];by_cases q:l=a
 .subst q;rw[hl]at e1;cases e1;injection (show Value.type "list"=Value.type "tuple" from e2) with e4;exact absurd e4 zf
 .rw[Yw _ _ _ _ (Ne.symm q)];exact e1
theorem bt (L:List (List ay)):KP (tQ L) where
 inj:=by
  rintro h v ns ms ⟨a,vs,n,l,rfl,⟨o,e1,_,k,e2⟩,i1,_,rfl⟩ ⟨a',sZ,n',l',e,⟨o',f1,_,k',f2⟩,i2,_,rfl⟩;cases e;rw[e1]at f1;cases f1;rw[e2]at f2;injection f2 with g _;have:vs=sZ:=by simpa using g
  subst this;rw[i1.inj i2]
 push:=λ⟨a,vs,n,l,e,t,i,m,c⟩ o=>#[a,vs,n,l,e,CL o _ _ t,i.keep (CL o),m,c]
 upd:=λ⟨a,vs,n,l,e,t,i,m,c⟩ _ _ _ hl f=>#[a,vs,n,l,e,FK hl f _ _ t,i.keep (FK hl f),m,c]
theorem l7:∀ {vs:List zx}{ns:List Int},IntsAre vs ns->ItemsAre (intKind prog w) ns vs
 |_,_,.nil=>.nil
 |_,_,.cons n t h=>.cons (intKind_is _ _ _ _) (l7 h)
theorem T6 {v:zx}{a b:ay}(hu:A.units<cLine) (p:ng s.heap v a) (q:ng s.heap u b) (hl:a.like b=zu) {Q:Bool->Shared->zy}(h:Q (decide (a=b)) s):wpAny zk A (eqBool v u) Q E s:=by
 cases a with
 |i n=>
   cases b with
   |i m=>
     let#[t,rfl]:=p;let#[t',rfl]:=q;refine KD ?_;rw[show (n==m)=decide (ay.i n=ay.i m) by by_cases e:n=m<;>simp[e]];exact h
   |_=>cases hl
 |s x=>
   cases b with
   |s y=>
     let#[t,rfl]:=p;let#[t',rfl]:=q;refine QN x t y t' prog w E Q ?_;rw[show (x==y)=decide (ay.s x=ay.s y) by by_cases e:x=y<;>simp[e]];exact h
   |_=>cases hl
 |t ns=>
   cases b with
   |t ms=>
     let#[a,vs,rfl,t1,i1]:=p;let#[a',us,rfl,t2,i2]:=q;let#[o1,x1,x2,k1,x3]:=t1;let#[o2,y1,y2,k2,y3]:=t2;refine wpAny_eqBool_tuple (knd:=intKind prog w) (x:=ns) (y:=ms) hu #[o1,_,k1,x1,x2,x3,l7 i1] #[o2,_,k2,y1,y2,y3,l7 i2] ?_;rw[show decide (ns=ms)=decide (ay.t ns=ay.t ms) by by_cases e:ns=ms<;>simp[e]];exact h
   |_=>cases hl
theorem T7 {v:zx}{a b:ay}(hu:A.units<cLine) (k:Bool) (hk:k=zu->∃ n,a=.i n) (p:ng s.heap v a) (q:ng s.heap u b) (hl:a.like b=zu) {Q:Bool->Shared->zy}(h:Q (a.lt b) s):wpAny zk A (oneLt' k v u) Q E s:=by
 have gen:∀ {v u:zx}{c:Bool},k=zc->(∀ {R:zx->Shared->zy},R (.bool c) s->wpAny zk A (compareOp .Lt v u) R E s)->Q c s->wpAny zk A (oneLt' k v u) Q E s:=λ{v u c} z f h=>by
  rw[oneLt'_eq,z,if_neg zq];exact ae (show wpAny zk A (richCompare .Lt v u) _ E s from f (su h))
 cases a with
 |i n=>
   cases b with
   |i m=>let#[t,rfl]:=p;let#[t',rfl]:=q;exact Ap k h
   |_=>cases hl
 |s x=>
   have z:k=zc:=by cases k with|true=>let#[n,e]:=hk zw;cases e|false=>rfl
   cases b with
   |s y=>let#[t,rfl]:=p;let#[t',rfl]:=q;exact gen z (λr=>lt_str r) h
   |_=>cases hl
 |t ns=>
   have z:k=zc:=by cases k with|true=>let#[n,e]:=hk zw;cases e|false=>rfl
   cases b with
   |t ms=>
     let#[a,vs,rfl,t1,i1]:=p;let#[a',us,rfl,t2,i2]:=q;exact gen z (λr=>Ab t1 t2 (by simpa using i1) (by simpa using i2) hu r) h
   |_=>cases hl
theorem eB.length {h:Heap}{vs:List zx}{l:List ay}(p:eB h vs l):vs.length=l.length:=by
 induction p with
 |nil=>rfl
 |cons _ _ ih=>rw[bg,bg,ih]
theorem N6 (hu:A.units<cLine) {l m:List ay}(p:eB s.heap vs l) (q:eB s.heap us m) (hl:eO l m=zu) (i:Nat) (h0:i=0->∀ d r,l=d::r->∃ n,d=.i n) {R:(Option Bool×PUnit)->Shared->zy}
 (k:∀ r,(r=(some (cu l m),PUnit.unit) \/ (r=(zp,PUnit.unit) /\ cu l m=decide (vs.length<us.length)))->R r s) :
 wpAny zk A (forIn ((vs.zip us).zipIdx i) ((zp,PUnit.unit):Option Bool×PUnit) λ(z:(Value×Value)×Nat) _=>(do
  let z1 <-eqBool z.1.1 z.1.2
  if (!z1)=zu then do
   let r <-oneLt' (zu&&z.2==0) z.1.1 z.1.2
   pure (ForInStep.done (some r,PUnit.unit))
  else pure (ForInStep.yield (zp,PUnit.unit)))) R E s:=by
 induction p generalizing us m i with
 |nil=>
   rw[yj,wH,sF];refine ak (k _ (.inr #[rfl,?_]));cases q with
   |nil=>rfl
   |cons _ q=>unfold cu;simp
 |@cons v d vs l pa p ih=>
   cases q with
   |nil=>
     rw[ER,wH,sF];exact ak (k _ (.inr #[rfl,by unfold cu;simp]))
   |@cons u e us m qa q=>
     have kg:(d.like e&&eO l m)=zu:=hl;rw[aD]at kg;rw[pK,EZ,vd];refine ae (ae (T6 hu pa qa kg.1 ?_));by_cases c:d=e
     .subst c;rw[if_neg zq];refine ak (ih q kg.2 (i+1) (λz=>by lia) λr hr=>k r ?_);have:cu (d::l) (d::m)=cu l m:=by conv=>lhs;unfold cu;rw[if_pos rfl]
      rw[this];rcases hr with hr|⟨hr,We⟩
      .exact .inl hr
      .exact .inr #[hr,by rw[We];simp]
     .rw[if_pos (by simp[c])];refine ae (T7 hu _ (λz=>?_) pa qa kg.1 (ak (ak (k _ (.inl ?_)))))
      .have:i=0:=by simpa using z
       exact h0 this d l zw
      .have:cu (d::l) (e::m)=d.lt e:=by conv=>lhs;unfold cu;rw[if_neg c]
       rw[this]
theorem GV {L:List (List ay)}(C:∀ l∈L,∀ m∈L,eO l m=zu) {U:Nat}(hU:U<cLine) (H:∀ v∈vs,∃ ns,tQ L s.heap v ns) (ne:vs≠[]):IF (tQ L) prog w U s vs:=λA h' hu up=>by
 have H':∀ v∈vs,∃ ns,tQ L h' v ns:=λv m=>let ⟨ns,p⟩:=H v m;#[ns,up v ns p]
 refine#[λ{Q E} h=>?_,λE=>?_]
 .have afH:∀ (us:List zx),(∀ v∈us,∃ ns,tQ L h' v ns)->∀ {Q:List (Option zx)->Shared->zy}{E:zx->Shared->zy},(∀ (ws:List zx) (is:List Int),ws.length=us.length->IntsAre ws is->Q (ws.map some) { s with heap:=h' })->wpAny zk A (us.mapM firstOfTuple') Q E { s with heap:=h' }:=by
   intro us;induction us with
   |nil=>intro _ Q E k;rw[Yg];exact ak (k [] [] zw .nil)
   |cons u us ih=>
     intro G Q E k;let#[ns,a,xs,n,l,rfl,#[o,e1,e3,c,e2],it,_,_]:=G u (bF ..);rw[Yh];refine ae (show wpAny zk A (do
      if (<-typeOf (.ref a)) != .type "tuple" then return zp
      return (<-Builtin.List.listItems (.ref a))[0]?) _ E _ from ?_)
     refine ae (wy (T:="tuple") #[o,e1,e3] ?_);rw[if_neg zf];refine ae (sJ e1 e2 (ak ?_));cases it with
     |cons hv _=>
       let#[t,rfl]:=hv;exact ae (ih (λv m=>G v (bD _ m)) λws is e q=>ak (k (.int n t::ws) (n::is) (by simp[e]) (.cons n t q)))
  rw[YF,E2];refine ae (show wpAny zk A (List.toArray <$> vs.mapM firstOfTuple') _ E _ from ?_);rw[<-bind_pure_comp];refine ae (afH vs H' λus is e k=>ak ?_);rw[if_pos zq];refine ae (rF ?_);have e1:((us.map some).toArray.filterMap id)=us.toArray:=by simp[yk]
  rw[e1,YG,E2,YH k];cases us with
  |nil=>exact absurd (E3 e.symm) ne
  |cons u us=>
    erw[map_pure,pure_bind];rw[show ((u::us).map λ_=>Value.type "int").toArray[0]?=some (Value.type "int") by simp];dsimp only;rw[if_pos zq];exact ae (ak (ak h))
 .intro x y mx my Q E' q;rw[Qy]at mx my;let#[ns,hx]:=H' _ (yq mx).2;let#[ms,hy]:=H' _ (yq my).2;have k1:=oT (bt L) hx;have k2:=oT (bt L) hy
  change Q (lexLt (((tL (tQ L) h').keyOf x.1).getD []) (((tL (tQ L) h').keyOf y.1).getD [])) _ at q
  rw[k1,k2]at q;let#[a,aiE,n1,l1,e1,#[o1,x1,x2,c1,x3],i1,m1,rfl]:=hx;let#[b,yV,n2,l2,e2,#[o2,y1,y2,c2,y3],i2,m2,rfl]:=hy;have lk:=C _ m1 _ m2;rw[BN _ _ lk]at q;rw[e1,e2,mM];refine ae (sJ x1 x3 (ae (sJ y1 y3 ?_)));refine ae (N6 (s:={ s with heap:=h' }) (yf hu hU) i1 i2 lk 0 (λ_ d r z=>by cases z;exact#[n1,rfl]) λr hr=>?_);rcases hr with rfl|⟨rfl,e⟩
  .exact ak q
  .refine ak ?_;rw[bE,bE,<-e];exact q
end HT
namespace L2.DL
open HT (ay aQ eO lexLt)
def Wg:D->Option ay
 |.int i=>some (.i i)
 |.str x=>some (.s x)
 |.tup l=>(intsOf l).map .t
 |_=>zp
noncomputable def dS:ay->D
 |.i n=>.int n
 |.s x=>.str x
 |.t ns=>.tup (ns.map D.int)
def tR:List D->Option (List ay)
 |[]=>some []
 |d::l=>(Wg d).bind λa=>(tR l).map λr=>a::r
def rowOf:D->Option (List ay)
 |.tup (.int i::l)=>(tR l).map λr=>.i i::r
 |_=>zp
def rowsOf:List D->Option (List (List ay))
 |[]=>some []
 |d::l=>(rowOf d).bind λa=>(rowsOf l).map λr=>a::r
def cU (l:List ay):D:=.tup (l.map dS)
theorem Bn:∀ {l:List D}{ns:List Int},intsOf l=some ns->l=ns.map D.int
 |[],_,e=>by cases e;rfl
 | .int i::l,ns,e=>by
   unfold intsOf at e;cases q:intsOf l with
   |none=>rw[q]at e;cases e
   |some ms=>rw[q]at e;cases e;rw[Bn q];rfl
 |.non::_,_,e=>by cases e
 |.bl _::_,_,e=>by cases e
 |.str _::_,_,e=>by cases e
 |.tup _::_,_,e=>by cases e
 |.lst _::_,_,e=>by cases e
 |.af _::_,_,e=>by cases e
theorem N7 {d:D}{a:ay}(e:Wg d=some a):d=dS a:=by
 cases d with
 |int i=>cases e;rfl
 |str x=>cases e;rfl
 |tup l=>
   have e:(intsOf l).map ay.t=some a:=e;cases q:intsOf l with
   |none=>rw[q]at e;cases e
   |some ms=>rw[q]at e;cases e;rw[Bn q];rfl
 |_=>cases e
theorem Ar:∀ {l:List D}{r:List ay},tR l=some r->l=r.map dS:=by
 intro l_;induction l_ with
 |nil=>(intro _ e;cases e;rfl)
 |cons d l ao=>
   intro r e;unfold tR at e;cases q:Wg d with
   |none=>rw[q]at e;cases e
   |some a=>
     cases q2:tR l with
     |none=>rw[q,q2]at e;cases e
     |some t=>rw[q,q2]at e;cases e;rw[N7 q,ao q2];rfl
theorem Lx {d:D}{r:List ay}(e:rowOf d=some r):d=cU r /\ ∃ n l,r=.i n::l:=by
 unfold rowOf at e;split at e
 .ext i l;cases q:tR l with
  |none=>rw[q]at e;cases e
  |some t=>rw[q]at e;cases e;rw[Ar q];exact#[rfl,i,t,rfl]
 .cases e
theorem GW:∀ {l:List D}{rs:List (List ay)},rowsOf l=some rs->l=rs.map cU /\ ∀ r∈rs,∃ n l,r=.i n::l:=by
 intro l_;induction l_ with
 |nil=>(intro _ e;cases e;exact#[rfl,λr m=>nomatch m])
 |cons d l ao=>
   intro rs e;unfold rowsOf at e;cases q:rowOf d with
   |none=>rw[q]at e;cases e
   |some a=>
     cases q2:rowsOf l with
     |none=>rw[q,q2]at e;cases e
     |some t=>
       rw[q,q2]at e;cases e;let#[h1,h2]:=Lx q;let#[h3,h4]:=ao q2;refine#[by rw[h1,h3];rfl,λr m=>?_];rcases bA.mp m with rfl|m
       .exact h2
       .exact h4 r m
def tU (rs:List (List ay)):List (List ay):=rs.mergeSort λa b=>!lexLt (aQ b) (aQ a)
theorem iZ (rs:List (List ay)):(tU rs).Perm rs:=EX rs _
theorem jk (rs:List (List ay)):(tU rs).Pairwise (λa b=>lexLt (aQ b) (aQ a)=zc):=by
 have h:=Qf (le:=λa b:List ay=>!lexLt (aQ b) (aQ a)) (λa b c h1 h2=>by
  rw[pO]at *;cases e:lexLt (aQ c) (aQ a) with
  |false=>rfl
  |true=>
    rcases HT.lG _ (aQ b) _ e with z|z
    .rw[z]at h2;cases h2
    .rw[z]at h1;cases h1) (λa b=>by
  rw[vi,pO,pO];cases e:lexLt (aQ b) (aQ a) with
  |false=>exact .inl zw
  |true=>
    cases f:lexLt (aQ a) (aQ b) with
    |false=>exact .inr zw
    |true=>have:=HT.jr _ _ _ e f;rw[HT.iy]at this;cases this) rs
 exact h.imp λ{a b} z=>by simpa using z
theorem GX {a b:ay}(h:a.like b=zu):b.like a=zu:=by cases a<;>cases b<;>first|rfl|cases h
theorem As:∀ {a b:List Nat},¬ a<b->¬ b<a->a=b
 |[],[],_,_=>rfl
 |[],y::b,h,_=>absurd zq h
 |x::a,[],_,h=>absurd zq h
 | x::a,y::b,h,g=>by
   rw[List.cons_lt_cons_iff]at h g;have e:x=y:=by
    rcases Nat.lt_trichotomy x y with z|z|z
    .exact absurd (.inl z) h
    .exact z
    .exact absurd (.inl z) g
   subst e;rw[As (λz=>h (.inr #[rfl,z])) (λz=>g (.inr #[rfl,z]))]
theorem Sq:∀ {a b:ay},a.like b=zu->a.lt b=zc->b.lt a=zc->a=b
 | .i n,.i m,_,h,g=>by
   have h':=of_decide_eq_false h;have g':=of_decide_eq_false g;rw[show n=m by lia]
 | .s x,.s y,_,h,g=>by
   have:=As (of_decide_eq_false h) (of_decide_eq_false g);let#[#[a]]:=x;let#[#[b]]:=y;have z':a=b:=this;rw[z']
 |.t n,.t m,_,h,g=>by rw[HT.gO n m h g]
theorem Au:∀ {l m:List ay},eO l m=zu->aQ l=aQ m->l=m
 |[],[],_,_=>rfl
 | [],b::m,_,e=>by
   have e':([0]:List Int)=1::(b.code++aQ m):=by rw[show (1::(b.code++aQ m))=aQ (b::m) by simp[aQ]];exact e
   simp at e'
 | a::l,[],_,e=>by
   have e':1::(a.code++aQ l)=([0]:List Int):=by rw[show (1::(a.code++aQ l))=aQ (a::l) by simp[aQ]];exact e
   simp at e'
 | a::l,b::m,h,e=>by
   have h':(a.like b&&eO l m)=zu:=h;rw[aD]at h';have e':a.code++aQ l=b.code++aQ m:=by
    have:1::(a.code++aQ l)=1::(b.code++aQ m):=by rw[show (1::(a.code++aQ l))=aQ (a::l) by simp[aQ],show (1::(b.code++aQ m))=aQ (b::m) by simp[aQ]];exact e
    exact(List.cons.inj this).2
   have ab:a=b:=by
    by_cases c:a=b
    .exact c
    .have x1:=HT.ay.app (aQ l) (aQ m) h'.1 c;have x2:=HT.ay.app (aQ m) (aQ l) (GX h'.1) (λz=>c z.symm);rw[e',HT.iy]at x1;rw[<-e',HT.iy]at x2;exact Sq h'.1 x1.symm x2.symm
   subst ab;rw[Au h'.2 (List.append_cancel_left e')]
theorem IH {β:Type}{f:α->β}{l n:List β}(h:l.Perm n):∀ {m:List α},n=m.map f->∃ m':List α,l=m'.map f /\ m'.Perm m:=by
 induction h with
 |nil=>intro m e;cases m with|nil=>exact⟨[],rfl,.nil⟩|cons _ _=>cases e
 |cons x _ ih=>
   intro m e;cases m with
   |nil=>cases e
   |cons a m=>
     rw[az]at e;let#[e1,e2]:=List.cons.inj e;let#[m',q1,q2]:=ih e2;exact#[a::m',by rw[az,<-q1,e1],q2.cons a]
 |swap x y l=>
   intro m e;match m,e with
   |a::b::m,e=>
     rw[az,az]at e;let#[e1,e2]:=List.cons.inj e;let#[e2,e3]:=List.cons.inj e2;exact#[b::a::m,by rw[az,az,<-e1,<-e2,<-e3],.swap ..]
 |trans _ _ afI afJ=>
   intro m e;let#[m2,q1,q2]:=afJ e;let#[m1,q3,q4]:=afI q1;exact#[m1,q3,q4.trans q2]
def Ej (rs:List (List ay)):Bool:=rs.all λa=>rs.all λb=>eO a b
theorem oF {rs a:List (List ay)}(hl:Ej rs=zu) (p:a.Perm rs) (ha:a.Pairwise (λa b=>lexLt (aQ b) (aQ a)=zc)):a=tU rs:=by
 have lk:∀ x∈rs,∀ y∈rs,eO x y=zu:=λx mx y my=>cS.mp (cS.mp hl x mx) y my;refine(p.trans (iZ rs).symm).eq_of_pairwise (λx y mx my h1 h2=>Au (lk x (p.mem_iff.mp mx) y ((iZ rs).mem_iff.mp my)) (HT.gO _ _ h2 h1)) ha (jk rs)
theorem T8 (I:Inv X pins σ H s) (sub:Sub F H) {a:ay}(h:Den F (dS a) v) (r:RelV v u):HT.ng s.heap u a:=by
 cases a with
 |i n=>cases (show v=.int n from h);exact r
 |s x=>cases (show v=.str x from h);exact r
 |t ns=>
   let#[b,vs,rfl,h1,h2]:=h;cases r;let#[its,r',pl,_]:=I.tuple (.of (sub _ _ h1));have e:=h2.ints (ns:=ns) (by clear h2 h1 pl r';induction ns with|nil=>rfl|cons n ns ih=>simp[intsOf,ih]);subst e;exact#[b,its,rfl,pl,iq r']
theorem DS (I:Inv X pins σ H s) (sub:Sub F H):∀ {l:List ay}{vs:List V}{us:List zx},aw F (l.map dS) vs->Vals vs us->HT.eB s.heap us l:=by
 intro l_;induction l_ with
 |nil=>(intro _ _ h r;cases (show _=[] from h);cases r;exact .nil)
 |cons a l ao=>
   intro _ _ h r;let#[v,t,rfl,h1,h2]:=h;cases r with
   |cons r1 r2=>exact .cons (T8 I sub h1 r1) (ao h2 r2)
theorem N8:∀ {rs:List (List ay)}{vs:List V},aw F (rs.map cU) vs->∃ ps:List (Addr×List ay),vs=ps.map (λp=>V.ref p.1) /\ rs=ps.map (·.2) /\ ∀ p∈ps,Den F (cU p.2) (.ref p.1):=by
 intro l_;induction l_ with
 |nil=>(intro _ h;exact#[[],h,rfl,λp m=>nomatch m])
 |cons r rs ao=>
   intro _ h;let#[v,t,rfl,h1,h2]:=h;let#[ps,e1,e2,e3]:=ao h2;let#[a,ws,rfl,h3,h4]:=id h1;refine#[(a,r)::ps,by rw[e1];rfl,by rw[e2];rfl,λp m=>?_];rcases bA.mp m with rfl|m
   .exact h1
   .exact e3 p m
theorem Ly:∀ {ps:List (Addr×List ay)},(∀ p∈ps,Den F (cU p.2) (.ref p.1))->aw F ((ps.map (·.2)).map cU) (ps.map λp=>V.ref p.1):=by
 intro l_;induction l_ with
 |nil=>exact λ_=>rfl
 |cons p ps ao=>exact λh=>.cons (h p (bF ..)) (ao λq m=>h q (bD _ m))
def Wh (K:PySem.W.Frag) (vs:List V) (H:Hp) (Q:VK):zy:=∃ (F:Hp) (p:Addr) (xs:List V) (rs:List (List ay)),vs=[.ref p] /\ Sub F H /\ bO K H p xs /\ aw F (rs.map cU) xs /\ (∀ r∈rs,∃ n l,r=.i n::l) /\ rs.length<64 /\ Ej rs=zu /\
 ∀ (q:Addr) (ys:List V),H q=zp->aw F ((tU rs).map cU) ys->Q (.ref q) (upd H q (.lst ys))
theorem DT (hu:X.A.units+100<cLine):dY X (.builtin "sorted") (Wh X.K):=by
 intro pins s σ H xs us Q I rv h;let#[F,p,vs,rs,rfl,sub,hp,hd,hf,bY,aaO,q]:=h;let#[u,rfl,ru]:=Vals.one rv;cases ru;let#[its,r1,p1,z1]:=I.list hp;let#[ps,e1,e2,e3]:=N8 hd;subst e1;have ei:its=ps.map λp=>Value.ref p.1:=by
  have:=Aq (rs:=ps.map (·.1)) (us:=its) (by rw[bw];exact r1);rw[this,bw];rfl
 subst ei;have row:∀ p∈ps,HT.tQ rs s.heap (.ref p.1) (aQ p.2):=λp m=>by
  have d:=e3 p m;have mr:p.2∈rs:=by rw[e2];exact bJ.mpr #[p,m,rfl]
  let#[n,l,el]:=hf _ mr;let#[b,ws,eb,h3,h4]:=d;cases eb;let#[us,r',pl,_]:=I.tuple (.of (sub _ _ h3));rw[el]at h4 mr;exact#[p.1,us,n,l,rfl,pl,DS I sub h4 r',mr,by rw[el]]
 have HH:∀ v∈ps.map (λp=>Value.ref p.1),∃ ns,HT.tQ rs s.heap v ns:=λv m=>by
  let#[r,mr,rfl]:=bJ.mp m;exact#[_,row r mr]
 have lk:∀ x∈rs,∀ y∈rs,eO x y=zu:=λx mx y my=>cS.mp (cS.mp aaO x mx) y my;have ln:ps.length=rs.length:=by rw[e2,aY]
 refine HT.Bj (HT.bt rs) p1.isList HH (U:=X.A.units+8) (au _) (λne=>HT.GV lk zd HH ne) (by rw[aY,ln];exact bY) λout o1 o2=>?_;let#[sj,q1,q2]:=IH o1 zw;let#[k,he]:=Qu s.heap (ps.map λp=>Value.ref p.1) out;have eK:H zK=zp:=I.ai.fresh (rG _);have ord:(sj.map (·.2)).Pairwise (λa b=>lexLt (aQ b) (aQ a)=zc):=by
  unfold HT.tM at o2;rw[q1,nW]at o2;rw[nW];exact QP (λ{a b} ma mb r=>r _ _ (row a (q2.mem_iff.mp ma)) (row b (q2.mem_iff.mp mb))) o2
 have so:sj.map (·.2)=tU rs:=oF aaO (by rw[e2];exact q2.map _) ord;have ll:(sj.map λp=>V.ref p.1).length<=sizeLine:=by
  rw[aY,q2.length_eq,ln];exact bU (eV bY) zf
 refine#[.ref zK,_,I.laid (t':=s.toks) (o:=.lst (sj.map λp=>V.ref p.1)) (λb ob q=>Qv q) (rG _) ?_,rfl,q _ _ eK (by rw[<-so];exact Ly λp m=>e3 p (q2.mem_iff.mp m))];refine#[ll,out.toList,k,?_,he];rw[q1];have:∀ l:List (Addr×List ay),Vals (l.map λp=>V.ref p.1) (l.map λp=>Value.ref p.1):=λl=>by
  induction l with
  |nil=>exact .nil
  |cons a l ih=>exact .cons zw ih
 exact this sj
def cV:List D->Option Res:=λxs=>match tO xs with
 |some r=>some r
 | none=>match xs with
   |[.lst l]=>(rowsOf l).bind λrs=>if rs.length<64 /\ Ej rs=zu then some (.lst ((tU rs).map cU)) else zp
   |_=>zp
theorem DU (hu:X.A.units+100<cLine):dY X (.builtin "sorted") (λvs H Q=>(xo X.K vs H Q \/ Ei X.K vs H Q) \/ Wh X.K vs H Q):=λpins s σ H xs us Q I rv h=>h.elim (CI pins s σ H xs us Q I rv) (DT hu pins s σ H xs us Q I rv)
theorem afK:k9 (λvs H Q=>(xo K vs H Q \/ Ei K vs H Q) \/ Wh K vs H Q) cV:=by
 intro F H xs vs Q s sub rx e k;unfold cV at e;cases er:tO xs with
 |some r=>
   rw[er]at e;cases e;exact .inl (afG F H xs vs Q s sub rx er k)
 |none=>
   rw[er]at e;dsimp only at e;clear er;split at e
   .ext l;cases e1:rowsOf l with
    |none=>rw[e1]at e;cases e
    |some rs=>
      rw[e1]at e;erw[cj]at e;split at e
      .ext hc;cases e;let#[v,t,rfl,#[a,us,rfl,h1,h2],rt]:=rx;cases (show t=[] from rt);let#[b1,b2]:=GW e1;subst b1;exact .inr #[F,a,us,rs,rfl,sub,.of h1,h2,b2,hc.1,hc.2,λq ys hq hy=>k _ _ #[q,ys,rfl,hq,rfl,hy]]
      .cases e
   .cases e
end L2.DL
namespace L2
theorem FL {src:List (Option Nat)}{elt:Expr}{scope:Scope}{uO:Pos}{wi:TI}{g:TG}{tf:TT}{te:TE}{ii:Nat} 
 (hc:X.calm=zu) (S:qQ X N src scope) (hi:PI X tg iter wi)
 (hg:∀ cl s H C fp,PG zT tg g) (hf:∀ cl s H C fp,PF zT ifs tf) (he:∀ cl s H C fp,PE zT elt te)
 (hN:X.N.Nodup) (vR:X.N[ii]?=some x) (hx:Loc X.env.scope x) (Ek:swapsWith zF (some (.Name x pos')) uO.line X.env=pure zu)
 (El:X.fn x=zu \/ X.env.scope.names.lookup x=some .local)
 (hs:∀ x,foldedSetIterable iter X.env x=pure x:=by intro _;rfl):PS X (.Assign [.Name x pos'] zF uO) (HF (HZ src wi g tf te) (QZ ii)):=by
 intro pins s σ H Dn I h;rw[exec_Assign_Name_used _ _ _ _ Ek];refine ae (EK (ae ?_))
 change wpAny _ X.A (do let _ <-comprehension zF scope X.env _ (newList []) zc (eval iter X.env) (some (assign (.Name x pos') X.env))) _ _ s
 refine ae (eT (XI (use:=some (assign (.Name x pos') X.env)) (Q:=λ_ s'=>SP X pins Dn .next s') rfl hs (Ae (S.cells I.ok)) S.kind S.names (bV (hi pins s σ H _ I h) λxv s1 h1=>bV h1 λHG s2 h2=>?_)) (λ_ s' hq=>ak (ak hq)) λ_ _ q=>q);let#[it,fp,tn,J,H2,e,I2,T,vp,f2,hW]:=h2;subst e;refine qi ?_;generalize hD:s2.heap.objs.size=D;have Vz:H2 D=zp:=I2.ai.fresh (wC hD);have I3:Inv X pins σ (upd H2 D (.lst [])) { s2 with heap:=s2.heap.push { cls:=.type "list",dict:=zp,data:=.seq ([]:List zx).toArray } }:=by
  subst hD;exact I2.laid (t':=s2.toks) (λb u e=>aT _ e) (au _) #[kI _,[],0,.nil,cg _ zw]
 let#[W,#[m0,w0],turn]:=hW D Vz;have up:∀ b o,s2.heap.get? b=some o->(s2.heap.push { cls:=.type "list",dict:=zp,data:=.seq ([]:List zx).toArray }).get? b=some o:=λb u e=>aT _ e;have VA:=T.obj _ _ vp;have uo:tn 0 (s2.heap.push { cls:=.type "list",dict:=zp,data:=.seq ([]:List zx).toArray }):=T.keep _ _ _ vp λb _ o e=>up b o e;have yJ:∀ b∈fp,b<s2.heap.objs.size:=λb hb=>by let#[o,e,_]:=VA b hb;exact a8 e
 have f3:∀ b∈fp,pP X pins (upd H2 D (.lst [])) b:=λb hb=>#[by rw[fw (by rw[<-hD];exact cH (yJ b hb))];exact(f2 b hb).1,(f2 b hb).2];generalize VB:({ s2 with heap:=s2.heap.push { cls:=.type "list",dict:=zp,data:=.seq ([]:List zx).toArray } }:Shared)=s3 at I3 ⊢;have yL:s3.heap=s2.heap.push { cls:=.type "list",dict:=zp,data:=.seq ([]:List zx).toArray }:=by rw[<-VB]
 rw[<-yL]at uo;have VC:∀ b∈fp,b<s3.heap.objs.size:=λb hb=>by rw[yL,sH];exact yh (yJ b hb)
 generalize ael:upd H2 D (.lst [])=H3 at I3 f3 w0;refine Ag ?_;generalize yM:pushCells (s3.heap.push { cls:=.type "dict",data:=.dict #[] }) scope.names=h₁;have k1:∀ b o,s3.heap.get? b=some o->h₁.get? b=some o:=λb o e=>by rw[<-yM];exact EL _ _ b o (aT _ e)
 have IY:=Cq S I3 (λb hb=>#[f3 b hb,VC b hb]) (s':={ s3 with heap:=h₁ }) (by rw[yM]);have yO:tn 0 h₁:=T.keep _ _ _ uo λb _ o e=>k1 b o e;generalize uA:cellsFrom (s3.heap.objs.size+1) scope.names (eA X.env.cells scope.names [])=cl at IY ⊢;generalize hC:s3.heap.objs.size=C at IY ⊢;have vB:∀ {H':Hp},(∀ b∈fp,H' b=zp)->∀ b∈fp,pP zan [] H' b:=λhn b hb=>by
  refine#[hn b hb,?_,?_,.inl hb,?_,λp hp=>absurd (show p∈([]:List (Addr×Obj)) from hp) zq]
  .exact(IY.ok.vn b hb).1
  .exact IY.ok.vo b hb
  .intro x c e z;exact(IY.ok.vn b hb).2 x c e z
 have fin:∀ (σ':St) (H':Hp) (s':Shared),Inv zan [] σ' H' s'->∀ h',Heap.SameBut C s'.heap h'->Inv X pins σ H' { s' with heap:=h' }:=λσ' H' s' I' h' vC=>by
  have vD:H' C=zp:=I'.free;have kp:∀ b o,b≠C->s'.heap.get? b=some o->h'.get? b=some o:=λb o hb e=>vC.extBut b o hb e;have VD:s3.heap.get? C=zp:=by rw[<-hC];exact Qn (au _)
  have qr:∀ b o,s3.heap.get? b=some o->b≠C:=λb o e z=>by rw[z,VD]at e;cases e
  have U:=I'.base;refine I3.QW (s':={ s' with heap:=h' }) (ch:=fp) I'.os #[λb o e n hb hx=>kp b o (qr b o e) (U.keep b o e n hb hx),λb o e n hb hx=>?_,U.free,λb o e hx=>?_,U.ku,U.kK,U.nC] ?_ I'.bare λb hb=>?_
  .let#[sl,e1]:=U.slot b o e n hb hx;exact#[sl,kp b _ (qr b o e) e1]
  .let#[o',e1]:=U.there b o e hx;exact#[o',kp b o' (qr b o e) e1]
  .intro b ob e;refine(I'.ai b ob e).eG (λc w' dq q=>kp c w' (λz=>?_) q) (λ_ q=>q) λ_ _ q=>q;rcases dq with z1|z1
   .rw[<-z1,z,vD]at e;cases e
   .rw[z,vD]at z1;cases z1
  .exact#[(f3 b hb).2.2.2.1,(f3 b hb).2.1,λx c e=>(f3 b hb).2.2.2.2.1 x c e,(f3 b hb).2.2.2.2.2]
 have loop:∀ s4:Shared,s4={ s3 with heap:=h₁ } ->
  codeAny zh X.A (.compLoop zF 0 (.ref it) (.ref D) (compEnvC scope cl C X.env)) (compPost zh X.A X.xe (some (assign (.Name x pos') X.env)) (λ_ s'=>SP X pins Dn .next s') (.ref D) C) s4:=by
  rintro s4 rfl;refine mG (λn s'=>∃ i σ' H',Inv zan [] σ' H' s' /\ tn i s'.heap /\ (∀ b∈fp,H' b=zp) /\ W i n σ' H') _ (λ_ _ _ q=>q) ?_ m0 #[0,_,H3,IY,yO,λb hb=>(f3 b hb).1,w0];rintro n s5 ⟨i,σ5,H5,I5,sV,vq,w5⟩;have hG:∀ {α:Type}{t:Sem α}{Q1:α->Shared->zy}{E1:zx->Shared->zy}{ss:Shared},wpAny zh X.A t Q1 (λ_ _=>False) ss->wpAny zh X.A t Q1 E1 ss:=λhw=>eT hw (λ_ _ q=>q) λ_ _ z=>False.elim z;rcases turn i n σ5 H5 w5 with⟨stop,q5⟩|⟨go,NN,hN,step⟩
  .refine hG (bV (T.done (X.comp N scope cl s3 H3 C fp) zw zw zw hc i [] s5 σ5 H5 (λ_ _=>False) I5 (vB vq) sV stop) ?_);rintro r s6 ⟨hr,I6⟩;subst hr;let#[m6,VE,_]:=I6.loc;have IX:Inv X pins σ H5 s6:=fin σ5 H5 s6 I6 s6.heap (Heap.SameBut.refl ..)
   change wpAny _ X.A (assign (.Name x pos') X.env (.ref D)) _ _ s6
   refine Xr (A3 (v:=.ref D) IX hN vR hx zw (λs7 I7 ⟨a,sb,ha⟩=>?_) El);have afL:C≠a:=λz=>by
    rcases ha with w1|w1
    .have l1:X.env.locals<s3.heap.objs.size:=I3.lt;rw[<-w1,<-z,<-hC]at l1;exact eU _ l1
    .let#[v1,o1,w2,_]:=I3.cell x a w1;have l1:=a8 w2;rw[<-z,<-hC]at l1;exact eU _ l1
   refine#[m6,VE.sameBut sb afL,λh' vC=>?_];have vD:H5 C=zp:=I6.free;refine#[σ.set ii (some (.ref D)),H5,?_,q5];have afM:X.env.locals≠C:=λz=>by have l1:=I3.lt;rw[z,<-hC]at l1;exact eU _ l1
   refine I7.turned (t':=s7.toks) (it:=C) (λb o hb e=>vC.extBut b o hb e) vD (Ne.symm afM) (.inr ?_) (λy c e z=>?_) (λp hp z=>?_)
   .rw[<-hC];exact I3.sz
   .let#[v1,o1,w2,_]:=I3.cell y c e;have l1:=a8 w2;rw[z,<-hC]at l1;exact eU _ l1
   .have l1:=a8 (I3.pin p hp).1;rw[z,<-hC]at l1;exact eU _ l1
  .refine hG (bV (T.item zan zw zw zw hc i [] s5 σ5 H5 (λ_ _=>False) I5 (vB vq) sV go) ?_);rintro r s6 ⟨u,hr,h6⟩;subst hr;refine hG (bV h6 ?_);rintro _ s7 ⟨x,H7,I7,r7,y7,vE,VF⟩;have VG:=I7.pinned (vB VF) (T.obj _ _ vE);refine hG (bV (hg cl s3 H3 C fp _ s7 σ5 H7 x u _ VG r7 (step x H7 y7)) ?_);rintro _ s8 ⟨σ8,H8,I8,q8⟩;refine hG (tT (hf cl s3 H3 C fp _ s8 σ8 H8 _ I8 q8) λb s9 H9 I9 q9=>?_);have again:∀ {σ9:St}{HA:Hp}{sA:Shared},Inv zan ([]++wZ fp s7.heap) σ9 HA sA->NN σ9 HA->∃ m,m<n /\ ∃ i σ' H',Inv zan [] σ' H' sA /\ tn i sA.heap /\ (∀ b∈fp,H' b=zp) /\ W i m σ' H':=λ{σ9 HA sA} IA nA=>by
    let#[m',hm,wA]:=hN σ9 HA nA;refine#[m',hm,i+1,σ9,HA,IA.yB,T.keep _ _ _ vE λb hb o e=>(IA.pin (b,o) (kY _ (kY _ (ip hb e)))).1,λb hb=>?_,wA];let#[o,e,d]:=T.obj _ _ vE b hb;exact(IA.pin (b,o) (kY _ (kY _ (ip hb e)))).2.1
   cases b with
   |false=>
     rw[if_neg zf]at q9;rw[if_neg zf];exact again I9 q9
   |true=>
     rw[if_pos rfl]at q9;rw[if_pos rfl];refine hG (tE (he cl s3 H3 C fp _ s9 σ8 H9 _ I9 q9) λyv sA y HA IA rA hh=>?_);let#[ys,VH,VI,nA]:=hh;refine hG (bV (lB _ sA σ8 HA (.ref D) [y] (.ref D) [yv] (λ_ HB=>NN σ8 HB) IA zw (.cons rA .nil) #[D,ys,y,rfl,rfl,VH,VI,nA]) λr sB hB=>?_);let#[_,HB,IB,_,nB]:=hB;exact again IB nB
 exact XJ (loop _ zw) (T.self _ 0 _ _ _ yO (loop _ zw))
end L2
namespace L2.DL
section
variable {src:List (Option Nat)} {elt:Expr} {scope:Scope} {uO:Pos} {g:DG} 
theorem Lz (i:Nat) (bo:Bool) (hc:X.calm=zu) (S:qQ X N src scope) (hi:tF X T Z tg iter mi)
 (hg:∀ T cl s H C fp,kP zT T tg g) (hf:∀ T cl s H C fp,PF zT ifs (rV T #[E0,Z.cl] tf)) (he:∀ T cl s H C fp,PD zT T #[E0,Z.cl] elt te)
 (hN:X.N.Nodup) (vR:X.N[i]?=some x:=by rfl) (hx:Loc X.env.scope x:=by first|exact Or.inl zw|exact Or.inr zw) (Ek:swapsWith zF (some (.Name x pos')) uO.line X.env=pure zu:=by rfl)
 (El:X.fn x=zu \/ X.env.scope.names.lookup x=some .local:=by first|exact .inl zw|exact .inr zw|assumption)
 (hs:∀ x,foldedSetIterable iter X.env x=pure x:=by intro _;rfl):cL X T Z (.Assign [.Name x pos'] zF uO) (fH (fY bo src mi g tf te) (fe i)):=by
 refine PS.imp (FL (src:=src) (g:=xk g) (tf:=xl #[E0,Z.cl] tf) (te:=xm #[E0,Z.cl] te) hc S hi (λcl s H C fp pins s' σ' H' v u Q I rv ⟨T,q⟩=>hg T cl s H C fp pins s' σ' H' v u Q I rv q)
  (λcl s H C fp pins s' σ' H' Q I ⟨T,q⟩=>hf T cl s H C fp pins s' σ' H' Q I q) (λcl s H C fp pins s' σ' H' Q I ⟨T,q⟩=>he T cl s H C fp pins s' σ' H' Q I q) hN vR hx Ek El hs) λD σ H=>x4 λF r env bx R h=>?_
 refine Le (T:=T) (Z:=Z) (bo:=bo) (mi:=mi) (g:=g) (tf:=tf) (te:=te) (Q:=λv H1=>D.nx (σ.set i (some v)) H1) #[F,r,env,bx,R,End.bp h λw bx1 F1 r1 v H1 g1 R1 d1 h1=>h1 F1 r1 _ H1 zat (R1.set d1 i)]
end
noncomputable def br:Expr->Bool
 |.Starred _ _=>zc
 |_=>zu
def nj:List Expr->Bool
 |[]=>zu
 |e::es=>br e&&nj es
theorem fF (h:br e=zu) (es:List Expr) (env:Env):starEach (e::es) env=(zc,eval e env)::starEach es env:=by
 cases e<;>first|rfl|cases h
theorem js {env:Env}:∀ {es:List Expr},nj es=zu->(backTo pos (starEach es env)).any (·.1)=zc:=by
 intro l_;induction l_ with
 |nil=>exact λ_=>rfl
 |cons e es ao=>
   intro h;have h':(br e&&nj es)=zu:=h;rw[aD]at h';rw[fF h'.1];show (zc||(backTo pos (starEach es env)).any (·.1))=zc;rw[ao h'.2];rfl
theorem gZ (h:nj (e::es)=zu):br e=zu /\ nj es=zu:=by
 have h':(br e&&nj es)=zu:=h
 rwa [aD]at h'
theorem j0 (h:br e=zu) (es:List Expr) (env:Env):assignEach (e::es) env=(zc,assign e env)::assignEach es env:=by
 cases e<;>first|rfl|cases h
theorem Av {env:Env}:∀ {es:List Expr},nj es=zu->(assignEach es env).length=es.length /\ (assignEach es env).findIdx? (·.1)=zp:=by
 intro l_;induction l_ with
 |nil=>exact λ_=>#[rfl,rfl]
 |cons e es ao=>
   intro h;let#[h1,h2]:=gZ h;let#[a,b]:=ao h2;rw[j0 h1];exact#[by rw[bg,bg,a],by rw[List.findIdx?_cons,b];rfl]
section
variable {a b c:Expr} {mc:DE W} {p p1:Pos} {k k' nn:Nat} {ps:List Str} {m:DE (List W)}
theorem oG (ha:PD X T Z e ma) (hr:dQ X T Z es m) (hn:br e=zu:=by rfl):dQ X T Z (e::es) (fc ma m):=J2 ha hr (fF hn es X.env)
theorem T9 {id:String}{g:List D->Option Res}(bo:Bool) (hc:dY X (.builtin id) q) (hk:k9 q g) (hg:Gl X x) (hm:X.mg x=zp) (hv:bootBuiltins x=some (.builtin id)) (ha:dQ X T Z (e::es) m)
 (dD:nj (e::es)=zu:=by rfl) (hn:x ≠ "__name__":=by decide) (cY:(x==("__debug__":Str))=zc:=by decide):PD X T Z zah (dN bo g m):=
 J5 bo hc hk hg hm hv ha hn cY (fF (gZ dD).1 es X.env) (js (gZ dD).2)
theorem Sr {id:String}{g:List D->Option Res}(bo:Bool) (hc:dY X (.type id) q) (hk:k9 q g) (hg:Gl X x) (hm:X.mg x=zp) (hv:bootBuiltins x=some (.type id)) (ha:dQ X T Z (e::es) m)
 (dD:nj (e::es)=zu:=by rfl) (hn:x ≠ "__name__":=by decide) (cY:(x==("__debug__":Str))=zc:=by decide):PD X T Z zah (dN bo g m):=
 GG bo hc hk hg hm hv ha hn cY (fF (gZ dD).1 es X.env) (js (gZ dD).2)
theorem Ua (h:pB X.prog X.w X.K X.mg X.base Z.cl k x ps fn) (hr:cx k' X.A) (hk:k<=k') (hg:Gl X x) (hx:Passes (hJ X.prog X.w) X Z.E) (ha:dQ X T Z (e::es) m)
 (dD:nj (e::es)=zu:=by rfl) (hn:ps.length=nn:=by rfl) (cY:(x==("__debug__":Str))=zc:=by decide):PD X T Z zah (fu fn nn m):=
 So h hr hk hg hx ha cY (fF (gZ dD).1 es X.env) (js (gZ dD).2) hn
theorem Ub {n:String}(hT:pV X.K n) (hg:Gl X "isinstance") (hm:X.mg "isinstance"=zp) (V0:Gl X x) (V1:X.mg x=zp) (hv:bootBuiltins x=some (.type n)) (ha:PD X T Z a ma) (hs:br a=zu:=by rfl)
 (hn:x ≠ "__name__":=by decide) (cY:(x==("__debug__":Str))=zc:=by decide):PD X T Z (.Call (.Name "isinstance" p) [a,.Name x p1] [] pos) (jP n ma):=
 NM hT hg hm V0 V1 hv ha hn cY (fF hs _ X.env) (fF zw _ X.env) (js zw)
theorem Ss {g:DG}{q:ph}(h1:kP X T e g) (h2:tm X T es q) (hn:br e=zu:=by rfl):tm X T (e::es) (fE g q):=GI h1 h2 (by rw[j0 hn];rfl)
theorem Uc {q:ph}(hc:X.calm=zu) (h:tm X T es q) (dD:nj es=zu:=by rfl) (hn:es.length=nn:=by rfl):kP X T (.Tuple es i pos) (gn nn q):=
 ND hc h ((Av dD).1.trans hn) (Av dD).2
end
open PySem.W
noncomputable def Em:List Str:=["NoHouse","NoOuts","NoRoom","NoHour","NoPages","NoLot","NoAsks","NoNumber","NoMoves","NoEach","NoOrder","NoPage","NoOut","Twice","Missing","TooMany","NoDeed"]
noncomputable def rm:List Str:=["house","outs","room","hour","pages","lot","asks","number","moves","each","order","page","out","twice","missing","many","deed"]
def wordOf (i:Nat):Str:=rm.getD i ""
structure kR (K:Frag) (mg:Str->Option zx) (R:Addr) (c:Nat->Addr):zy where
 m:∀ i x,Em[i]?=some x->mg x=some (.ref (c i))
 mR:mg "RimeError"=some (.ref R)
 inst:mg "isinstance"=zp
 afN:mg "ValueError"=zp
 ex:∀ i,i<17->excIn K (c i) VN "ValueError.__new__"=zu
 ek:∀ i,i<17->vF K (c i)
 kt:∀ i j,i<17->j<17->kitOne K (.ref (c i)) (.ref (c j))=some (decide (i=j))
 kv:∀ i,i<17->kitOne K (.ref (c i)) (.type "ValueError")=some zu
 kr:∀ i,i<17->kitCls K (.ref (c i)) (.ref R)=some zu
 rb:mroIn K R (.type "BaseException")=some zu
def aaP (c:Nat->Addr):Sp:=λvs H Q _=>∃ (a:Addr) (i:Nat),vs=[.ref a] /\ i<17 /\ H a=some (.ext (eL a (c i))) /\ ∀ H',eJ H H'->Q (.str (wordOf i)) H'
def En (P:Program) (w:World) (K:Frag) (mg:Str->Option zx) (base:Heap) (cl:Nat->Addr):zy:=
 ∃ (f:Addr) (fd:FuncData),yS P w K mg base qP 1 f fd ["_law_e"] (aaP cl) /\ mg "_law_word"=some (.ref f) /\ keepIn K (.ref f)=zu /\ Binds K fd ["_law_e"] []
section
variable {a b:Expr} {mc:DE W} {p np b9 rp yQ:Pos} {body:List Stmt} {m k:aj} {n:Str} {c:Nat} {R:Addr}
def vS (c:Nat) (m:DE W):aj:=λenv bx=>bp zL λ_ bx1=>.exc c bx1
theorem GY (c:Nat) (E:kR X.K X.mg R Z.cl) (hc:X.calm=zu) (l:uB X Z.E) (hg:Gl X x) (hx:Em[c]?=some x) (he:PD X T Z e ma) (hi:c<17:=by decide) (dD:nj [e]=zu:=by rfl) (hd:(x==("__debug__":Str))=zc:=by decide) :
 cL X T Z (.Raise (some (.Call (.Name x np) [e] [] b9)) zp pos) (vS c ma):=
 PS.imp (JX hc l hg (E.m c x hx) (E.ex c hi) he (fF (gZ dD).1 [] X.env) hd) λD σ H=>x4 λF r env bx Rr h=>
  #[F,r,env,bx,Rr,End.bp h λw bx1 F1 r1 v H1 g1 R1 d1 h1=>#[rfl,h1 F1 r1 H1 zat R1.drop]]
noncomputable def eD:aj:=λ_ _=>.bad
theorem ge:cL X T Z st eD:=λ_ _ _ _ _ _ h=>by
 let#[_,_,_,_,_,h]:=h;exact h.elim
theorem Rel.same {H2:Hp}(Rr:Rel T F r [] H [] bx) (s:eJ H H2):Rel T F r [] H2 [] bx:=
 #[λa u h=>s _ _ (Rr.fh a u h),λi w e=>by simp at e,Rr.len,Rr.nd,λn c a e1 e2=>by
  have:=Rr.box n c a e1 e2;cases c with
  |lst l=>let#[h1,vs,h2,h3]:=this;exact#[h1,vs,s _ _ h2,h3]
  |af l=>let#[h1,vs,h2,h3]:=this;exact#[h1,vs,s _ _ h2,h3]
  |dT l=>let#[h1,vs,h2,h3]:=this;exact#[h1,vs,s _ _ h2,h3]
  |fD l=>let#[o,vs,h1,h2,h3]:=this;exact#[o,vs,h1,s _ _ h2,h3]
  |dead=>let#[u,h2]:=this;exact#[u,s _ _ h2],λa u h hn=>s _ _ (Rr.keep a u h hn),Rr.new,Rr.n0,au _,Rr.fs]
def tV (m:aj):aj:=λenv bx=>match m env bx with
 |.exc c bx1=>if c<17 then .rt (.d (.str (wordOf c))) bx1 else .bad
 |o=>o
theorem N9 (i:Nat) {L:Addr}{k':Nat}{afO:Pos}(E:kR X.K X.mg R Z.cl) (W:En X.prog X.w X.K X.mg X.base Z.cl) (hr:cx k' X.A) (qx:1<=k') (qu:X.stack=X.env::X.outer) (eK:X.env.frame=some L) (Z7:L=X.env.locals) (hg:Gl X "RimeError") (afP:Gl X "_law_word")
 (hN:X.N.Nodup) (hi:X.N[i]?=some n) (hn:X.env.kindOf n=some .local) (hb:∀ pn E,nI (X.qR pn E) T #[E,Z.cl] body m)
 (hv:sO X.env.scope n:=by first|exact Or.inl zw|exact Or.inr (Or.inl zw)|exact Or.inr (Or.inr zw)) (hd:(n==("__debug__":Str))=zc:=by decide) (dA:(n==("__classdict__":Str))=zc:=by decide) :
 cL X T Z (.Try body [.ExceptHandler (some (.Name "RimeError" rp)) (some n) [.Return (some (.Call (.Name "_law_word" np) [.Name n b9] [] afO)) p] yQ] [] [] pos) (tV m):=by
 intro pins s σ H D I ⟨F,r,env,bx,Rr,h⟩;let#[fW,aiF,gW,mW,kW,bW]:=W;refine RL (i:=i) (E:=λCv _ H'=>∃ c bx' F' r',m env bx=.exc c bx' /\ Cv=.ref (Z.cl c) /\ aU F r F' r' /\ Rel T F' r' [] H' [] bx') qu eK Z7 hg E.mR E.rb hN hi hn (λpn=>hb pn _)
  (λpn ea=>oS (Bz (JY (X:=X.hand pn ea) gW ((hr.mono qx).h.mark) afP mW kW bW .nil aef (fA (By (i:=i) hi hv hd dA) fS zw)))) zf pins s σ H D I #[?_,?_]
 .refine#[F,r,env,bx,Rr,?_];unfold tV at h;cases e:m env bx with
  |exc c bx1=>exact λF' r' H' g R'=>#[c,bx1,F',r',rfl,rfl,g,R']
  |nx aK bx1=>rw[e]at h;exact h
  |rt w bx1=>rw[e]at h;exact h
  |bk aK bx1=>rw[e]at h;exact h
  |ct aK bx1=>rw[e]at h;exact h
  |bad=>rw[e]at h;exact h
 .rintro σ' ea C H' hl ⟨c,bx1,F',r',e,eC,g,R'⟩ Ib;have afQ:C=Z.cl c:=Value.ref.inj eC;subst afQ;unfold tV at h;rw[e]at h;simp only at h;split at h
  .ext hc;refine#[E.kr c hc,_,nT (by rw[hl];exact(List.getElem?_eq_some_iff.mp hi).1),ea,c,rfl,hc,fv,λH2 s2=>?_];exact h F' r' (.str (wordOf c)) H2 g (R'.same λb o z=>s2 b o (by rw[fw (fJ z Ib)];exact z)) zw
  .exact h.elim
end
section
variable {k:Nat} {ps:List Str} {m:aj} {nn kk:Nat}
theorem Oa (d:Def K mg x st ps) (S:qv N ps (fG st))
 (kL:∀ (f:Addr) (cdv:zx) (A:Around) (outer:List Env) (s:Shared) (H:Hp) (E:XK) (n:Nat) (F0:Hp),cx k (A.deeper (envOfC x (fG st) s.heap.objs.size f cdv)) ->
  nI (pb (hJ P w) P w K mg base N x (fG st) f cdv A outer s H E) #[H,n,F0] #[E,cl] (gm st) m) (hn:N.length=nn:=by rfl) (Wc:k+1=kk:=by rfl):pB P w K mg base cl kk x ps (aR nn m):=by
 subst hn Wc;let#[f,fd,F,hm,hb]:=d;exact#[f,fd,U1 F S (λcdv A outer s H E n F0 hr=>kL f cdv A outer s H E n F0 hr),hm,F.kp,hb,F.obj]
end
section
variable {a:Expr} {p p2 II:Pos} {ta:TA} 
theorem Ob {b:Expr}{y:Str}{px py pt:Pos}{kt k2 k7}(i j:Nat) (hc:X.calm=zu) (hN:X.N.Nodup) (ha:dQ X T Z [a,b] ks) (hi:X.N[i]?=some x:=by rfl) (hj:X.N[j]?=some y:=by rfl) (yx:i≠j:=by decide)
 (hx:X.env.scope.names.lookup x=some .local:=by rfl) (hy:X.env.scope.names.lookup y=some .local:=by rfl)
 (hw:swappedStores [.Tuple [.Name x px,.Name y py] kt pt] (.Tuple [a,b] k2 k7) X.env=pure (some [x,y]):=by rfl)
 (hs:swapsWithSole [.Tuple [.Name x px,.Name y py] kt pt] (.Tuple [a,b] k2 k7) pos.line X.env=pure zc:=by rfl) :
 cL X T Z (.Assign [.Tuple [.Name x px,.Name y py] kt pt] (.Tuple [a,b] k2 k7) pos) (dR i j ks):=
 PS.imp (Rs hc hN hi hj yx hx hy ha hw hs) λD σ H h=>TY h
end
noncomputable def xx:D->V
 |.non=>.non
 |.bl b=>.bl b
 |.int i=>.int i
 |.str x=>.str x
 |_=>.ty ""
noncomputable def nq:D->Bool
 |.non=>zu
 |.bl _=>zu
 |.int _=>zu
 |.str _=>zu
 |_=>zc
def afR (a b:D):Bool:=ez (xx a) (xx b)
theorem Aw {d:D}(f:nq d=zu) (h:Den F d v):v=xx d /\ eI v=zu:=by
 cases d with
 |non=>cases (show v=.non from h);exact#[rfl,rfl]
 |bl b=>cases (show v=.bl b from h);exact#[rfl,rfl]
 |int i=>cases (show v=.int i from h);exact#[rfl,rfl]
 |str x=>cases (show v=.str x from h);exact#[rfl,rfl]
 |_=>cases f
theorem Bo:∀ {l:List D}{vs:List V},l.all nq=zu->aw F l vs->vs=l.map xx /\ vs.all eI=zu:=by
 intro l_;induction l_ with
 |nil=>(intro _ _ h;cases (show _=[] from h);exact#[rfl,rfl])
 |cons d l ao=>
   intro _ f h;let#[v,r,e,h1,h2]:=h;subst e;rw[qk,aD]at f;let#[e1,f1]:=Aw f.1 h1;let#[e2,f2]:=ao f.2 h2;subst e1;subst e2;exact#[rfl,by rw[qk,f1,f2];rfl]
def nu (x:D) (l:List D):Bool:=l.any λy=>afR y x
theorem FM (x:D) (l:List D):HS (xx x) (l.map xx)=nu x l:=by
 unfold HS nu;rw[E4];rfl
def IJ (neg:Bool):D->D->Option Res:=λx y=>match y with
 |.lst l=>if nq x=zu /\ l.all nq=zu then some (.old (.bl (if neg then !nu x l else nu x l))) else zp
 |.tup l=>if nq x=zu /\ l.all nq=zu then some (.old (.bl (if neg then !nu x l else nu x l))) else zp
 |_=>zp
theorem aaQ (neg:Bool):cB (HU K neg) (IJ neg):=by
 intro F H x y v w Q s sub hx hy e k;unfold IJ at e;have fx:∀ {d:D},nq d=zu->qy F H d v->Den F d v:=λ{d} f h=>by
  cases d with
  |non=>exact h
  |bl b=>exact h
  |int i=>exact h
  |str z=>exact h
  |_=>cases f
 cases y with
 |lst l=>
   simp only at e;split at e
   .ext f;cases e;let#[a,vs,rfl,h1,h2]:=hy;let#[e1,f1]:=Aw f.1 (fx f.1 hx);let#[e2,f2]:=Bo f.2 h2;subst e1;subst e2;refine#[a,_,rfl,.inl (bO.of h1),f1,f2,?_];rw[FM];exact k _ _ #[rfl,rfl]
   .cases e
 |tup l=>
   simp only at e;split at e
   .ext f;cases e;let#[a,vs,rfl,h1,h2]:=hy;let#[e1,f1]:=Aw f.1 (fx f.1 hx);let#[e2,f2]:=Bo f.2 h2;subst e1;subst e2;refine#[a,_,rfl,.inr (bK.of (sub _ _ h1)),f1,f2,?_];rw[FM];exact k _ _ #[rfl,rfl]
   .cases e
 |_=>cases e
def IK (neg:Bool):R2:=λx y H Q=>∃ F dx dy,Sub F H /\ qy F H dx x /\ qy F H dy y /\ pZ dx=zu /\ pZ dy=zu /\ ∃ l,(dy=.lst l \/ dy=.tup l) /\ Q (.bl (if neg then !(l.any λz=>eqv z dx) else l.any λz=>eqv z dx)) H
theorem lH (dx:D):∀ l:List D,((bI l).any λy=>PyData.eqv y (toPy dx))=l.any λz=>eqv z dx:=by
 intro l_;induction l_ with
 |nil=>exact rfl
 |cons z l ao=>
   show (PyData.eqv (toPy z) (toPy dx)||_)=_;rw[ao];rfl
theorem Su (hu:X.A.units+100<cLine):ba X (compareOp .In) (IK zc):=by
 intro pins s σ H x y v u Q I rx ry h;let#[F,dx,dy,sub,hx,hy,ox,oy,l,hl,q]:=h;let#[as,ra]:=lC I sub hx rx;let#[bs,rb]:=lC I sub hy ry;let#[x1,x2]:=BK ox;let#[y1,y2]:=BK oy;rcases hl with rfl|rfl
 .exact SeqAt.in_list_reads rb ra y1 x1 zd (by rw[lH];exact#[.bl _,H,I,rfl,q])
 .exact SeqAt.in_tuple_reads rb ra y1 x1 zd (by rw[lH];exact#[.bl _,H,I,rfl,q])
theorem GZ (hu:X.A.units+100<cLine):ba X (compareOp .NotIn) (IK zu):=by
 intro pins s σ H x y v u Q I rx ry h;let#[F,dx,dy,sub,hx,hy,ox,oy,l,hl,q]:=h;let#[as,ra]:=lC I sub hx rx;let#[bs,rb]:=lC I sub hy ry;let#[x1,x2]:=BK ox;let#[y1,y2]:=BK oy;rcases hl with rfl|rfl
 .exact SeqAt.notIn_list_reads rb ra y1 x1 zd (by rw[lH];exact#[.bl _,H,I,rfl,q])
 .exact SeqAt.notIn_tuple_reads rb ra y1 x1 zd (by rw[lH];exact#[.bl _,H,I,rfl,q])
def vT (neg:Bool) (x y:D) (l:List D):Option Res:=if pZ x&&pZ y then some (.old (.bl (if neg then !(l.any λz=>eqv z x) else l.any λz=>eqv z x))) else zp
def inD (neg:Bool):D->D->Option Res:=λx y=>match y with
 |.lst l=>if nq x=zu /\ l.all nq=zu then some (.old (.bl (if neg then !nu x l else nu x l))) else vT neg x y l
 |.tup l=>if nq x=zu /\ l.all nq=zu then some (.old (.bl (if neg then !nu x l else nu x l))) else vT neg x y l
 |_=>zp
theorem okIn (neg:Bool):cB (λx y H Q=>HU K neg x y H Q \/ IK neg x y H Q) (inD neg):=by
 intro F H x y v w Q s sub hx hy e k;have g:∀ l,(y=.lst l \/ y=.tup l)->vT neg x y l=some s->IK neg v w H Q:=λl hl e=>by
  unfold vT at e;split at e
  .ext c;rw[aD]at c;cases e;exact#[F,x,y,sub,hx,hy,c.1,c.2,l,hl,k _ _ #[rfl,rfl]]
  .cases e
 unfold inD at e;split at e
 .ext l;split at e
  .ext f;exact .inl (aaQ neg F H x (.lst l) v w Q s sub hx hy (by unfold IJ;simp only;rw[if_pos f];exact e) k)
  .exact .inr (g l (.inl zw) e)
 .ext l;split at e
  .ext f;exact .inl (aaQ neg F H x (.tup l) v w Q s sub hx hy (by unfold IJ;simp only;rw[if_pos f];exact e) k)
  .exact .inr (g l (.inr zw) e)
 .cases e
section
variable {a b o:Expr} {mc:DE W} {p:Pos}
def vU (m k:DE W):DE W:=λenv bx=>fC zL λx bx1=>match x with
 | .b n=>(match bx1[n]? with
   | some (.lst _)=>fC (k env bx1) λy ah=>(match y,ah[n]? with
     | .d (.int i),some (.lst l)=>if -(2 ^ 63)<=i /\ i<2 ^ 63 then (match bL l.length i with
       |some j=>(match l[j]? with|some d=>.val (.d d) (ah.set n (.lst (l.eraseIdx j)))|none=>.bad)
       |none=>.bad) else .bad
     |_,_=>.bad)
   |_=>.bad)
 |_=>.bad
theorem Oc {Q:VK}(h:tD T Z (vU ma mb) σ H Q):HV X.K "list" ZQ (tD T Z ma) (xa (tD T Z mb) yD) σ H Q:=by
 let#[F,r,env,bx,R,h]:=h;refine#[F,r,env,bx,R,End.bind h λx bx1 F1 r1 v H1 g1 R1 d1 h1=>?_];cases x with
 |d _=>exact h1.elim
 |s _=>exact h1.elim
 |x _=>exact h1.elim
 |t _=>exact h1.elim
 |m _=>exact h1.elim
 |b n=>
   simp only at h1;let#[a,rfl,ha]:=d1;let#[c,hc,kc]:=R1.hZ ha;rw[hc]at h1;cases c with
   |af _=>exact h1.elim
   |dead=>exact h1.elim
   |dT _=>exact h1.elim
   |fD _=>exact h1.elim
   |lst l0=>
     let#[_,rY,k0,_]:=kc;refine#[.inl #[rfl,rY,bO.of k0],F1,r1,env,bx1,R1,End.bind h1 λy ah F2 r2 u H2 g2 R2 d2 h2=>?_];let#[t,et]:=g2.p;have uI:r2[n]?=some a:=by rw[<-et,dJ (List.getElem?_eq_some_iff.mp ha).1];exact ha
     let#[c2,eu,tJ]:=R2.hZ uI;rw[eu]at h2;split at h2
     .ext i l eq;cases eq;let#[hF,vs,k1,k2]:=tJ;cases (show u=.int i from d2);split at h2
      .ext hi;split at h2
       .ext j hj;split at h2
        .ext d hd;let#[y,hy,dy]:=k2.get hd;refine#[a,vs,i,j,y,rfl,rfl,k1,hi.1,hi.2,?_,hy,?_]
         .rw[<-k2.length];exact(BB hj).1
         .exact h2 F2 r2 _ _ (.refl F2 r2) (R2.write uI hF #[hF,vs.eraseIdx j,fv,k2.eraseIdx j]) dy
        .exact h2.elim
       .exact h2.elim
      .exact h2.elim
     .exact h2.elim
theorem LA (ho:PD X T Z o ma) (ha:PD X T Z e mb) (dD:br e=zu:=by rfl)
 (vv:attributeBase o "pop" X.env (eval o X.env)=eval o X.env:=by rfl)
 (vw:((backTo pos (starEach [e] X.env)).all (λx=>!x.1)&&(backToKw pos (keywordEach [] X.env)).all (λx=>x.1.isSome)
  && decide ([e].length+([]:List Keyword).length+(if ([]:List Keyword).isEmpty then 0 else 1)<30))=zu:=by rfl)
 (hline:(apos.endLine==pos.line)=zu:=by rfl):PD X T Z (.Call (.Attribute o "pop" apos) [e] [] pos) (vU ma mb):=
 PE.imp (Ba wM PySem.F.slot_list_pop PySem.F.type_list_pop JQ ho (fA ha fS (fF dD [] X.env)) vv vw hline (fF dD [] X.env) (by rfl)) λσ H Q h=>Oc h
noncomputable def nQ:D->Option Key
 |.int i=>some (.inl i)
 |.str x=>some (.inr x)
 |_=>zp
theorem ja {d:D}{k:Key}(e:nQ d=some k) (h:Den F d v):v=kV k:=by
 cases d with
 |int i=>cases e;exact h
 |str x=>cases e;exact h
 |_=>cases e
noncomputable def eE (l:List (Key×D)) (k:Key):Option D:=(l.find? λkv=>decide (kv.1=k)).map (·.2)
noncomputable def Eo (l:List (Key×D)) (k:Key) (d:D):List (Key×D):=
 if (l.any λkv=>decide (kv.1=k))=zu then l.map (λkv=>if kv.1=k then (kv.1,d) else kv) else l++[(k,d)]
theorem aC.some {F:Hp}{k:Key}{d:D}:∀ {l:List (Key×D)}{vs:List (Key×V)},aC F l vs->eE l k=some d->∃ v,kh vs k=some v /\ Den F d v
 |[],_,_,e=>by cases e
 | (k',d')::l,_,⟨v,r,e,h1,h2⟩,q=>by
   subst e;by_cases c:k'=k
   .erw[eE,kZ,c,decide_true,nX]at q;cases q;exact#[v,jX c,h1]
   .erw[eE,kZ,c,decide_false]at q;let#[u,e1,e2]:=aC.some h2 q;exact#[u,(jp c).trans e1,e2]
theorem aC.none {F:Hp}{k:Key}:∀ {l:List (Key×D)}{vs:List (Key×V)},aC F l vs->eE l k=zp->kh vs k=zp
 |[],_,h,_=>by cases (show _=[] from h);rfl
 | (k',d')::l,_,⟨v,r,e,h1,h2⟩,q=>by
   subst e;by_cases c:k'=k
   .erw[eE,kZ,c,decide_true,nX]at q;cases q
   .erw[eE,kZ,c,decide_false]at q;exact(jp c).trans (aC.none h2 q)
theorem aC.any {F:Hp}(k:Key):∀ {l:List (Key×D)}{vs:List (Key×V)},aC F l vs->(l.any λkv=>decide (kv.1=k))=(vs.any λkv=>decide (kv.1=k))
 |[],_,h=>by cases (show _=[] from h);rfl
 |(k',d')::l,_,⟨v,r,e,h1,h2⟩=>by subst e;erw[qI,aC.any k h2]
theorem aC.map {F:Hp}{k:Key}{d:D}{v:V}(hv:Den F d v):∀ {l:List (Key×D)}{vs:List (Key×V)},aC F l vs->aC F (l.map λkv=>if kv.1=k then (kv.1,d) else kv) (vs.map λkv=>if kv.1=k then (kv.1,v) else kv)
 |[],_,h=>by cases (show _=[] from h);exact rfl
 | (k',d')::l,_,⟨u,r,e,h1,h2⟩=>by
   subst e;by_cases c:k'=k
   .erw[az,c,if_true];exact#[v,_,rfl,hv,aC.map hv h2]
   .erw[az,c,if_false];exact#[u,_,rfl,h1,aC.map hv h2]
theorem aC.app {F:Hp}{m:List (Key×D)}{us:List (Key×V)}(hm:aC F m us):∀ {l:List (Key×D)}{vs:List (Key×V)},aC F l vs->aC F (l++m) (vs++us)
 |[],_,h=>by cases (show _=[] from h);exact hm
 |(k',d')::l,_,⟨u,r,e,h1,h2⟩=>by subst e;exact#[u,_,rfl,h1,aC.app hm h2]
theorem aC.put {k:Key}{d:D}{l:List (Key×D)}{vs:List (Key×V)}(h:aC F l vs) (hv:Den F d v):aC F (Eo l k d) (putK vs k v):=by
 unfold Eo putK;rw[aC.any k h];split
 .exact aC.map hv h
 .exact aC.app (show aC F [(k,d)] [(k,v)] from#[v,[],rfl,hv,rfl]) h
noncomputable def nR (bx:List Bx):W->Option (List (Key×D))
 |.d (.af l)=>some l
 |.b n=>(match bx[n]? with|some (.af l)=>some l|some (.fD l)=>some l|_=>zp)
 |_=>zp
theorem oh (R:Rel T F r σ H env bx) {w:W}(d:bG F r w v) {l:List (Key×D)}(e:nR bx w=some l):∃ a kvs,v=.ref a /\ Rd H a zal /\ aC F l kvs:=by
 unfold nR at e;split at e
 .cases e;let#[a,vs,rfl,h1,h2]:=d;exact#[a,vs,rfl,.inl (R.fh _ _ h1),h2]
 .let#[a,rfl,ha]:=d;let#[c,hc,kc]:=R.hZ ha;rw[hc]at e;split at e
  .ext q;cases q;cases e;let#[_,vs,h1,h2]:=kc;exact#[a,vs,rfl,.inl h1,h2]
  .ext q;cases q;cases e;let#[o,vs,_,h1,h2]:=kc;exact#[a,vs,rfl,.inr #[o,h1],h2]
  .cases e
 .cases e
def bQ (m k:DE W):DE W:=λenv bx=>fC zL λx bx1=>fC (k env bx1) λy ah=>match y,nR ah x with
 |.d d,some l=>(match (nQ d).bind (eE l) with|some u=>.val (.d u) ah|none=>.bad)
 |_,_=>.bad
theorem Sv {Q:VK}(h:tD T Z (bQ ma mb) σ H Q):aax (tD T Z ma) (tD T Z mb) σ H Q:=by
 let#[F,r,env,bx,R,h]:=h;refine#[F,r,env,bx,R,End.bind h λx bx1 F1 r1 v H1 g1 R1 d1 h1=>#[F1,r1,env,bx1,R1,End.bind h1 λy ah F2 r2 u H2 g2 R2 d2 h2=>?_]];split at h2
 .ext d l q;let#[a,kvs,rfl,k1,k2]:=oh R2 (g2.den d1) q;split at h2
  .ext w hw;let#[k,e1,e2]:=Option.bind_eq_some_iff.mp hw;cases ja e1 d2;let#[z,e3,e4]:=aC.some k2 e2;exact#[a,z,rfl,e3▸.inl #[_,k,k1,rfl,rfl],h2 F2 r2 _ H2 (.refl F2 r2) R2 e4]
  .exact h2.elim
 .exact h2.elim
theorem Od (hu:X.A.units+1<cLine) (ho:PD X T Z o ma) (hi:PD X T Z e mb) (hs:Iq e):PD X T Z (.Subscript o e pos) (bQ ma mb):=
 PE.imp (FD hu ho hi hs) λσ H Q h=>Sv h
def eP (neg:Bool) (k m:DE W):DE W:=λenv bx=>fC (k env bx) λy bx1=>fC (m env bx1) λx ah=>match y,nR ah x with
 |.d d,some l=>(match nQ d with|some k=>.val (.d (.bl (if neg then !(eE l k).isSome else (eE l k).isSome))) ah|none=>.bad)
 |_,_=>.bad
theorem LB {l:List (Key×D)}{vs:List (Key×V)}(h:aC F l vs) (k:Key):(kh vs k).isSome=(eE l k).isSome:=by
 cases q:eE l k with
 |none=>rw[aC.none h q];rfl
 |some d=>let#[v,e,_]:=aC.some h q;rw[e];rfl
theorem PX {Q:VK}(h:tD T Z (eP zc mb ma) σ H Q):aay (tD T Z mb) (tD T Z ma) σ H Q:=by
 let#[F,r,env,bx,R,h]:=h;refine#[F,r,env,bx,R,End.bind h λy bx1 F1 r1 u H1 g1 R1 d1 h1=>#[F1,r1,env,bx1,R1,End.bind h1 λx ah F2 r2 v H2 g2 R2 d2 h2=>?_]];split at h2
 .ext d l q;let#[a,kvs,rfl,k1,k2]:=oh R2 d2 q;split at h2
  .ext k e1;cases ja e1 (g2.den (w:=.d d) d1);refine#[a,_,rfl,.inl #[_,k,k1,rfl,rfl],?_];rw[LB k2];exact h2 F2 r2 _ H2 (.refl F2 r2) R2 zw
  .exact h2.elim
 .exact h2.elim
theorem LC {Q:VK}(h:tD T Z (eP zu mb ma) σ H Q):aaz (tD T Z mb) (tD T Z ma) σ H Q:=by
 let#[F,r,env,bx,R,h]:=h;refine#[F,r,env,bx,R,End.bind h λy bx1 F1 r1 u H1 g1 R1 d1 h1=>#[F1,r1,env,bx1,R1,End.bind h1 λx ah F2 r2 v H2 g2 R2 d2 h2=>?_]];split at h2
 .ext d l q;let#[a,kvs,rfl,k1,k2]:=oh R2 d2 q;split at h2
  .ext k e1;cases ja e1 (g2.den (w:=.d d) d1);refine#[a,_,rfl,.inl #[_,k,k1,rfl,rfl],?_];rw[LB k2];exact h2 F2 r2 _ H2 (.refl F2 r2) R2 zw
  .exact h2.elim
 .exact h2.elim
theorem Sw (hu:X.A.units+1<cLine) (hi:PD X T Z e mb) (ho:PD X T Z o ma) (hm:behindInMarks .In o=zc):PD X T Z (.Compare e [.In] [o] pos) (eP zc mb ma):=
 PE.imp (Jw (Lj hu hi ho) hm) λσ H Q h=>PX h
theorem Oe (hu:X.A.units+1<cLine) (hi:PD X T Z e mb) (ho:PD X T Z o ma) (hm:behindInMarks .NotIn o=zc):PD X T Z (.Compare e [.NotIn] [o] pos) (eP zu mb ma):=
 PE.imp (Jw (Bf hu hi ho) hm) λσ H Q h=>LC h
def kS (m k v:DE W):aj:=λenv bx=>bp (v env bx) λz bx1=>bp (m env bx1) λx ah=>bp (k env ah) λy bH=>match x,y,z with
 | .b n,.d d,.d u=>(match bH[n]?,nQ d with
   |some (.af l),some k=>if l.length<sizeLine then .nx env (bH.set n (.af (Eo l k u))) else .bad
   |_,_=>.bad)
 |_,_,_=>.bad
theorem Ud {D:Ends}(h:tS T Z (kS ma mb mc) D σ H):aaA (tD T Z ma) (tD T Z mb) (tD T Z mc) D σ H:=by
 let#[F,r,env,bx,R,h]:=h;refine#[F,r,env,bx,R,End.bp h λz bx1 F1 r1 t H1 g1 R1 d1 h1=>#[F1,r1,env,bx1,R1,End.bp h1 λx ah F2 r2 v H2 g2 R2 d2 h2=>#[F2,r2,env,ah,R2,End.bp h2 λy bH F3 r3 u H3 g3 R3 d3 h3=>?_]]];split at h3
 .ext n d w;let#[a,rfl,ha]:=(g3.den (w:=.b n) d2:bG F3 r3 (.b n) v);let#[c,hc,kc]:=R3.hZ ha;rw[hc]at h3;split at h3
  .ext l k e1 e2;cases e1;split at h3
   .ext hl;let#[hF,kvs,k1,k2]:=kc;cases ja e2 d3;have dz:Den F3 w t:=g3.den (w:=.d w) (g2.den (w:=.d w) d1);exact#[a,_,rfl,.inl #[kvs,k,k1,rfl,by rw[<-aC.length k2];exact hl,rfl],h3 F3 r3 _ _ (.refl F3 r3) (R3.write ha hF #[hF,_,fv,aC.put k2 dz])]
   .exact h3.elim
  .exact h3.elim
 .exact h3.elim
theorem LD {value:Expr}(hu:X.A.units+1<cLine) (ho:PD X T Z o ma) (hi:PD X T Z e mb) (hv:PD X T Z value mc) (hs:swapsWith value (some (.Subscript o e pos')) pos.line X.env=pure zc:=by rfl) :
 cL X T Z (.Assign [.Subscript o e pos'] value pos) (kS ma mb mc):=
 PS.imp (FE hu ho hi hv hs) λD σ H h=>Ud h
end
end L2.DL
namespace L2
end L2
namespace L2.DL
section
variable {a:Expr} {p tp:Pos} {elts:List Expr} {kt:Nat} {k:DE (List W)}
theorem LE {a b:Expr}{y:Str}{px py pt:Pos}{kt k2 k7}(i j:Nat) (hc:X.calm=zu) (hN:X.N.Nodup) (ha:dQ X T Z [a,b] ks) (hi:X.N[i]?=some x:=by rfl) (hj:X.N[j]?=some y:=by rfl)
 (hx:Loc X.env.scope x:=by first|exact Or.inl zw|exact Or.inr zw) (hy:Loc X.env.scope y:=by first|exact Or.inl zw|exact Or.inr zw)
 (afS:X.fn x=zu \/ X.env.scope.names.lookup x=some .local:=by first|exact .inl zw|exact .inr zw) (afT:X.fn y=zu \/ X.env.scope.names.lookup y=some .local:=by first|exact .inl zw|exact .inr zw)
 (hs:swapsWithSole [.Tuple [.Name x px,.Name y py] kt pt] (.Tuple [a,b] k2 k7) pos.line X.env=pure zc:=by rfl)
 (hw:swappedStores [.Tuple [.Name x px,.Name y py] kt pt] (.Tuple [a,b] k2 k7) X.env=pure zp:=by rfl)
 (h0:(assignEach [.Tuple [.Name x px,.Name y py] kt pt] X.env).map (·.2)=[assign (.Tuple [.Name x px,.Name y py] kt pt) X.env]:=by rfl)
 (h1:(assignEach [.Name x px,.Name y py] X.env).map (·.2)=assign (.Name x px) X.env::(assignEach [.Name y py] X.env).map (·.2):=by rfl)
 (h2:(assignEach [.Name y py] X.env).map (·.2)=assign (.Name y py) X.env::(assignEach [] X.env).map (·.2):=by rfl)
 (hn:(assignEach [.Name x px,.Name y py] X.env).length=2:=by rfl) (qu:(assignEach [.Name x px,.Name y py] X.env).findIdx? (·.1)=zp:=by rfl) :
 cL X T Z (.Assign [.Tuple [.Name x px,.Name y py] kt pt] (.Tuple [a,b] k2 k7) pos) (dR i j ks):=by
 refine PS.imp (JD (JH ha) (JC hc (o9 (BA hN hi hx afS) (o9 (BA hN hj hy afT) Fk h2) h1) hn qu) hs hw h0) λD σ H=>x4 λF r env bx R h=>?_;refine#[F,r,env,bx,R,End.bp h λws bx1 F1 r1 vs H1 g1 R1 d1 h1=>?_];split at h1
 .let#[v,t,rfl,q1,u,t2,rfl,q2,q3]:=d1;cases (show t2=[] from q3);refine#[by show 2<=sizeLine;decide,λp hp=>?_];have gr:=R1.tj (o:=.tup [v,u]) hp;exact#[p,[v,u],rfl,bK.of fv,rfl,v,[u],rfl,u,[],rfl,rfl,h1 _ r1 _ _ gr (((R1.xj hp).set (gr.den q1) i).set (gr.den q2) j)]
 .exact h1.elim
end
section
variable {a:Expr} 
def vV (neg:Bool) (m:DE W):DE W:=λenv bx=>fC zL λx bx1=>match x with
 |.d d=>.val (.d (.bl (match d with|.non=>!neg|_=>neg))) bx1
 |_=>.bad
theorem Of {d:D}(h:Den F d v):decide (v=.non)=(match d with|.non=>zu|_=>zc):=by
 cases d with
 |non=>cases (show v=.non from h);rfl
 |bl b=>cases (show v=.bl b from h);rfl
 |int i=>cases (show v=.int i from h);rfl
 |str x=>cases (show v=.str x from h);rfl
 |tup l=>let#[a,vs,rfl,_]:=h;rfl
 |lst l=>let#[a,vs,rfl,_]:=h;rfl
 |af l=>let#[a,vs,rfl,_]:=h;rfl
end
end L2.DL
namespace HT
open PySem.W
section
variable {l I S:Addr} {nm:String} 
section
variable {kf:Nat -> Int} (hh:A.handled = zp) (hl:s.heap.IsList l vs.toArray) (afU:l ≠ I) (afV:S ≠ I) (afW:s.heap.get? S = zp) (afX:s.heap.get? I = zp)
include hh hl afU afV afW afX
end
end
end HT
namespace L2
open PySem.W
section
variable {a:Expr} {p q kp:Pos} {t:TA}
end
end L2
namespace L2.DL
open PySem.W
section
variable {a:Expr} {p q kp:Pos} {m:DE (List W)}
end
end L2.DL
namespace HT
open PySem.W
section
variable {t:Addr} 
end
end HT
namespace L2
open PySem.W
section
variable {a:Expr} {p p2 II:Pos} {t:TA}
end
end L2
namespace L2.DL
open PySem.W
section
variable {a:Expr} {p p2 II:Pos} {m:DE (List W)}
end
end L2.DL
namespace HT
open PySem.W
section
variable {I:Addr} {wr:List Addr} {G:Array GenState -> Array GenState -> zy} {P:Nat -> zx -> zy} {St:Nat -> Shared -> zy} {b:Bool}
end
section
variable {t:Addr} 
end
end HT
namespace L2
open PySem.W
section
variable {a:Expr} {p p2 II:Pos} {t:TA}
end
end L2
namespace L2.DL
open PySem.W
section
variable {a:Expr} {p p2 II:Pos} {m:DE (List W)}
end
end L2.DL
namespace HT
open PySem.W
section
variable {v d it:Addr} {ep:Nat}
end
section
variable {K:Type} [DecidableEq K] {knd:HeapKind prog w K} {d:Addr} {k:K} {xs:List (K × Addr × zx)} {v:zx}
end
end HT
namespace L2
open PySem.W
section
variable {o f:Expr} {b9 p:Pos} {td ty tx:TE}
end
section
variable {elt it afY afZ:Expr} {af0:List Expr} {scope:Scope} {i acc:zx} {env:Env}
end
abbrev TK:=St->Hp->List Int->(St->Hp->List Int->zy)->zy
section
variable {D:Addr} 
end
section
variable {src:List (Option Nat)} {elt:Expr} {rest:List Comprehension} {scope:Scope} {b9 p:Pos} {wi:TI} {g:TG} {tf:TT} {k:TK} {body:zx -> Env -> Sem Unit}
end
end L2
namespace L2.DL
section
variable {a:Expr} {p p1:Pos}
end
noncomputable def Wi (bx:List Bx) (k:Nat):Nat:=match bx[k]? with|some (.lst l)=>l.length|_=>0
section
variable {src:List (Option Nat)} {elt:Expr} {scope:Scope} {g:DG} 
end
open PySem.W
abbrev DK:=aN->List Bx->List Int->Option (aN×List Bx×List Int)
section
variable {g:DG} {k:DK}
end
section
variable {src:List (Option Nat)} {elt afY afZ:Expr} {af0:List Expr} {scope:Scope} {b9 p:Pos} {aiG:DE (List W)} {g g2:DG} {aiH:DE Bool} 
end
def vW:List D->Option (List Key)
 |[]=>some []
 |d::l=>(nQ d).bind λk=>(vW l).map λt=>k::t
theorem Og:∀ {l:List D}{ks:List Key}{vs:List V},vW l=some ks->aw F l vs->vs=ks.map kV:=by
 intro l_;induction l_ with
 |nil=>(intro _ _ e h;cases e;exact h)
 |cons d l ao=>
   intro ks _ e h;let#[v,t,rfl,h1,h2]:=h;unfold vW at e;cases e1:nQ d with
   |none=>rw[e1]at e;cases e
   |some k=>
     cases e2:vW l with
     |none=>rw[e1,e2]at e;cases e
     |some t'=>
       rw[e1,e2]at e;cases e;rw[ja e1 h1,ao e2 h2];rfl
theorem bS.length {F:Hp}:∀ {l:List (List Key×D)}{r:List (List Key×V)},bS F l r->l.length=r.length
 |[],_,h=>by cases (show _=[] from h);rfl
 | (k,d)::l,_,h=>by
   let#[v,t,rfl,_,h2]:=h;simp[h2.length]
section
variable {o f:Expr} {p b9:Pos} {mc:DE W}
noncomputable def xy:DE W:=λ_ bx=>.val (.b bx.length) (bx++[.dT []])
theorem Oh:PD X T Z (.Dict [] [] pos) xy:=by
 refine PE.imp CB λσ H Q=>x4 λF r env bx R h=>λq hq=>?_;refine h F (r++[q]) _ _ #[Sub.refl F,wF r [q]] (R.Ig hq #[R.qS hq,[],fv,rfl]) #[q,rfl,?_];rw[<-R.len,dI (au _),sx];rfl
end
section
variable {o f:Expr} {mc:DE W} {HM:Pos}
noncomputable def tW (l:List (Key×D)) (k:Key):List (Key×D):=l.filter λkv=>decide (kv.1≠k)
theorem aC.drop {F:Hp}(k:Key):∀ {l:List (Key×D)}{vs:List (Key×V)},aC F l vs->aC F (tW l k) (qB vs k)
 | [],_,h=>by
   cases (show _=[] from h);exact rfl
 | (k',d)::l,_,h=>by
   let#[v,t,rfl,h1,h2]:=h;have ih:=aC.drop k h2;by_cases c:k'=k
   .have e1:tW ((k',d)::l) k=tW l k:=ve (by simp[c]);have e2:qB ((k',v)::t) k=qB t k:=ve (by simp[c]);rw[e1,e2];exact ih
   .have e1:tW ((k',d)::l) k=(k',d)::tW l k:=vf (by simp[c]);have e2:qB ((k',v)::t) k=(k',v)::qB t k:=vf (by simp[c]);rw[e1,e2];exact#[v,_,rfl,h1,ih]
theorem aU.at {r':List Addr}(g:aU F r F' r') (h:r[n]?=some a):r'[n]?=some a:=by
 let#[t,e]:=g.p;rw[<-e,dJ (List.getElem?_eq_some_iff.mp h).1];exact h
def uP (m k:DE W):DE W:=λenv bx=>fC zL λx bx1=>match x with
 | .b n=>(match bx1[n]? with
   | some (.af _)=>fC (k env bx1) λy ah=>(match y,ah[n]? with
     |.d d,some (.af l)=>(match nQ d with|some k=>.val (.d ((eE l k).getD .non)) ah|none=>.bad)
     |_,_=>.bad)
   |_=>.bad)
 |_=>.bad
theorem Oi {Q:VK}(h:tD T Z (uP ma mb) σ H Q):aaD (tD T Z ma) (tD T Z mb) σ H Q:=by
 let#[F,r,env,bx,R,h]:=h;refine#[F,r,env,bx,R,End.bind h λx bx1 F1 r1 v H1 g1 R1 d1 h1=>?_];cases x with
 |b n=>
   simp only at h1;let#[a,rfl,ha]:=d1;let#[c,hc,kc]:=R1.hZ ha;rw[hc]at h1;cases c with
   |af l0=>
     let#[_,rY,k0,_]:=kc;refine#[a,rfl,.inl #[rY,.inl k0],F1,r1,env,bx1,R1,End.bind h1 λy ah F2 r2 u H2 g2 R2 d2 h2=>?_];let#[c2,eu,tJ]:=R2.hZ (g2.at ha);rw[eu]at h2;split at h2
     .ext d l eq;cases eq;let#[hF,vs,k1,k2]:=tJ;split at h2
      .ext k e1;cases ja e1 d2;refine#[_,qC.k k1,?_];cases q:eE l k with
       |none=>
         rw[q]at h2;rw[aC.none k2 q];exact h2 F2 r2 _ H2 (.refl F2 r2) R2 zw
       |some w=>
         rw[q]at h2;let#[z,e3,e4]:=aC.some k2 q;rw[e3];exact h2 F2 r2 _ H2 (.refl F2 r2) R2 e4
      .exact h2.elim
     .exact h2.elim
   |_=>exact h1.elim
 |_=>exact h1.elim
theorem LF (hu:X.A.units+1<cLine) (ho:PD X T Z o ma) (ha:PD X T Z e mb) (m:M1 X o "get" apos e pos):PD X T Z (.Call (.Attribute o "get" apos) [e] [] pos) (uP ma mb):=
 PE.imp (Ll hu ho ha m) λσ H Q h=>Oi h
def xA (m k:DE W):DE W:=λenv bx=>fC zL λx bx1=>match x with
 | .b n=>(match bx1[n]? with
   | some (.af _)=>fC (k env bx1) λy ah=>(match y,ah[n]? with
     |.d d,some (.af l)=>(match nQ d with|some k=>(match eE l k with|some u=>.val (.d u) (ah.set n (.af (tW l k)))|none=>.bad)|none=>.bad)
     |_,_=>.bad)
   |_=>.bad)
 |_=>.bad
theorem Sx {Q:VK}(h:tD T Z (xA ma mb) σ H Q):aaE (tD T Z ma) (tD T Z mb) σ H Q:=by
 let#[F,r,env,bx,R,h]:=h;refine#[F,r,env,bx,R,End.bind h λx bx1 F1 r1 v H1 g1 R1 d1 h1=>?_];cases x with
 |b n=>
   simp only at h1;let#[a,rfl,ha]:=d1;let#[c,hc,kc]:=R1.hZ ha;rw[hc]at h1;cases c with
   |af l0=>
     let#[_,rY,k0,_]:=kc;refine#[a,rfl,.inl #[rY,.inl k0],F1,r1,env,bx1,R1,End.bind h1 λy ah F2 r2 u H2 g2 R2 d2 h2=>?_];have uI:=g2.at ha;let#[c2,eu,tJ]:=R2.hZ uI;rw[eu]at h2;split at h2
     .ext d l eq;cases eq;let#[hF,vs,k1,k2]:=tJ;split at h2
      .ext k e1;cases ja e1 d2;split at h2
       .ext w q;let#[z,e3,e4]:=aC.some k2 q;exact#[vs,k,z,k1,rfl,e3,h2 F2 r2 _ _ (.refl F2 r2) (R2.write uI hF #[hF,_,fv,aC.drop k k2]) e4]
       .exact h2.elim
      .exact h2.elim
     .exact h2.elim
   |_=>exact h1.elim
 |_=>exact h1.elim
theorem Oj (ho:PD X T Z o ma) (ha:PD X T Z e mb) (m:M1 X o "pop" apos e pos):PD X T Z (.Call (.Attribute o "pop" apos) [e] [] pos) (xA ma mb):=
 PE.imp (Lm ho ha m) λσ H Q h=>Sx h
def tX (m k:DE W):aj:=λenv bx=>bp zL λx bx1=>bp (k env bx1) λy ah=>match x,y with
 | .b n,.d d=>(match ah[n]?,nQ d with
   |some (.af l),some k=>if (eE l k).isSome then .nx env (ah.set n (.af (tW l k))) else .bad
   |_,_=>.bad)
 |_,_=>.bad
theorem Ue {D:Ends}(h:tS T Z (tX ma mb) D σ H):aaB (tD T Z ma) (tD T Z mb) D σ H:=by
 let#[F,r,env,bx,R,h]:=h;refine#[F,r,env,bx,R,End.bp h λx ah F2 r2 v H2 g2 R2 d2 h2=>#[F2,r2,env,ah,R2,End.bp h2 λy bH F3 r3 u H3 g3 R3 d3 h3=>?_]];split at h3
 .ext n d;let#[a,rfl,ha]:=(g3.den (w:=.b n) d2:bG F3 r3 (.b n) v);let#[c,hc,kc]:=R3.hZ ha;rw[hc]at h3;split at h3
  .ext l k e1 e2;cases e1;split at h3
   .ext hl;let#[hF,kvs,k1,k2]:=kc;cases ja e2 d3;exact#[a,kvs,k,rfl,k1,rfl,by rw[LB k2];exact hl,h3 F3 r3 _ _ (.refl F3 r3) (R3.write ha hF #[hF,_,fv,aC.drop k k2])]
   .exact h3.elim
  .exact h3.elim
 .exact h3.elim
theorem Ol (ho:PD X T Z o ma) (hi:PD X T Z e mb):cL X T Z (.Delete [.Subscript o e HM] pos) (tX ma mb):=
 PS.imp (NR ho hi) λD σ H h=>Ue h
end
section
variable {vs:List V}
end
end L2.DL
namespace L2
def aaR:V->List V->Hp->VK->zy:=λx vs H Q=>∃ l xs i y,x=.ref l /\ vs=[.int i,y] /\ H l=some (.lst xs) /\ 0<=i /\ i<=xs.length /\ xs.length<sizeLine /\ Q .non (upd H l (.lst (xs.take i.toNat++y::xs.drop i.toNat)))
theorem G0:yH X "list.insert" aaR:=by
 intro pins s σ H x vs v us Q I rx rv h;let#[l,xs,i,y,rfl,rfl,hH,h0,h1,hz,q]:=h;cases rx;let#[v0,u,rfl,r0,ru]:=rv.two;let#[t,rfl]:=r0;let#[z,its,n,r,hl,e]:=I.vz hH;have sz:=bj;have fit:Builtin.List.listFitsIndex i=zu:=XH zd zd;refine xZ Y7 #[_,e,rfl] PySem.F.entry_list_insert (PySem.F.args_list_insert_3 _ _ _) (acN l its.toArray n i t u (by rw[fit];decide) (by rw[bE];lia)) #[e,?_];refine#[.non,_,I.Vt (its':=its.take i.toNat++u::its.drop i.toNat) hH e ?_ ((r.take _).append (.cons ru (r.drop _))) ?_,rfl,q]
 .show (its.toArray.extract 0 (if i<0 then (i+(its.toArray.size:Int)).toNat else min i.toNat its.toArray.size)).push u++its.toArray.extract (if i<0 then (i+(its.toArray.size:Int)).toNat else min i.toNat its.toArray.size)=_;have k:(if i<0 then (i+(its.toArray.size:Int)).toNat else min i.toNat its.toArray.size)=i.toNat:=by
   rw[bE,if_neg zd];lia
  rw[k];exact PySem.W.kl_ins_eq its i.toNat u
 .rw[dj,bg,yi,Qc];lia
end L2
namespace L2.DL
section
variable {a b c f o:Expr} {mc:DE W} {p:Pos} {k k' nn:Nat} {ps:List Str} {m:DE (List W)}
def vX (m k q:DE W):DE W:=λenv bx=>fC zL λx bx1=>match x with
 | .b n=>(match bx1[n]? with
   | some (.lst _)=>fC (k env bx1) λy ah=>fC (q env ah) λz bH=>(match y,z,bH[n]? with
     |.d (.int i),.d d,some (.lst l)=>if 0<=i /\ i<=l.length /\ l.length<sizeLine then .val (.d .non) (bH.set n (.lst (l.take i.toNat++d::l.drop i.toNat))) else .bad
     |_,_,_=>.bad)
   |_=>.bad)
 |_=>.bad
theorem Uf {Q:VK}(h:tD T Z (vX ma mb mc) σ H Q):HV X.K "list" aaR (tD T Z ma) (xa (tD T Z mb) (xa (tD T Z mc) yD)) σ H Q:=by
 let#[F,r,env,bx,R,h]:=h;refine#[F,r,env,bx,R,End.bind h λx bx1 F1 r1 v H1 g1 R1 d1 h1=>?_];cases x with
 |b n=>
   simp only at h1;let#[a,rfl,ha]:=d1;let#[c,hc,kc]:=R1.hZ ha;rw[hc]at h1;cases c with
   |lst l0=>
     let#[_,rY,k0,_]:=kc;refine#[.inl #[rfl,rY,bO.of k0],F1,r1,env,bx1,R1,End.bind h1 λy ah F2 r2 u H2 g2 R2 d2 h2=>#[F2,r2,env,ah,R2,End.bind h2 λz bH F3 r3 w H3 g3 R3 d3 h3=>?_]];have aaS:=g3.at (g2.at ha);let#[c3,af1,af2]:=R3.hZ aaS;rw[af1]at h3;split at h3
     .ext i d l eq;cases eq;let#[hF,vs,k1,k2]:=af2;cases (show u=.int i from d2);split at h3
      .ext hz;exact#[a,vs,i,w,rfl,rfl,k1,hz.1,by rw[<-k2.length];exact hz.2.1,by rw[<-k2.length];exact hz.2.2,h3 F3 r3 _ _ (.refl F3 r3) (R3.write aaS hF #[hF,_,fv,(k2.take _).append (.cons d3 (k2.drop _))]) zw]
      .exact h3.elim
     .exact h3.elim
   |_=>exact h1.elim
 |_=>exact h1.elim
theorem Sy (ho:PD X T Z o ma) (ha:PD X T Z e mb) (hf:PD X T Z f mc)
 (vv:attributeBase o "insert" X.env (eval o X.env)=eval o X.env)
 (vw:((backTo pos (starEach [e,f] X.env)).all (λx=>!x.1)&&(backToKw pos (keywordEach [] X.env)).all (λx=>x.1.isSome)
  && decide ([e,f].length+([]:List Keyword).length+(if ([]:List Keyword).isEmpty then 0 else 1)<30))=zu)
 (hline:(apos.endLine==pos.line)=zu) (n1:br e=zu) (n2:br f=zu) :
 PD X T Z (.Call (.Attribute o "insert" apos) [e,f] [] pos) (vX ma mb mc):=
 PE.imp (Ba wM Y7 PySem.F.type_list_insert G0 ho (fA ha (fA hf fS (fF n2 [] X.env)) (fF n1 [f] X.env)) vv vw hline (fF n1 [f] X.env) (by rw[fF n2];rfl)) λσ H Q h=>Uf h
end
end L2.DL
namespace L2
open PySem.W
section
variable {o:Obj} {kvs:List (Key × V)} 
theorem Inv.aaT (I:Inv X pins σ H s) {u0 u:HO}(h:H a=some u0) (n1:∀ xs,u0≠.tup xs) (n2:∀ o v,X.H₀ a≠some (.bh o v)) (n3:∀ ps,u0≠.qL ps) (n4:∀ y,u0≠.own y) (new:a9 X.prog X.w (upd H a u) s.heap a u):Inv X pins σ (upd H a u) s:=by
 have ne:∀ {b},H b=zp->upd H a u b=zp:=λ{b} e=>by rw[fw (λz=>by rw[z,h]at e;cases e)];exact e
 have ke:∀ {b v},H b=some v->v≠u0->upd H a u b=some v:=λ{b v} e n=>by rw[fw (λz=>by rw[z,h]at e;cases e;exact n rfl)];exact e
 refine#[I.ok,I.os,I.bare,#[I.base.keep,I.base.slot,λb o e n x=>ne (I.base.free b o e n x),I.base.there,λb xs e=>ke (I.base.ku b xs e) (λz=>n1 xs z.symm),λb o v e=>?_,λb ps e=>?_],I.loc,I.cell,ne I.free,λx c e=>ne (I.nD x c e),λp hp=>?_,λb v e=>?_,I.len]
 .rw[fw (λz=>n2 o v (by rw[<-z];exact e))];exact I.base.kK b o v e
 .let#[m,q]:=I.base.nC b ps e;exact#[m,ke q (λz=>n3 _ z.symm)]
 .let#[q1,q2,q3]:=I.pin p hp;exact#[q1,ne q2,q3]
 .by_cases z:b=a
  .subst z;rw[fv]at e;cases e;exact new
  .rw[fw z]at e;exact(I.ai b v e).eG (λ_ _ _ q=>q) (λc q=>ke q (λz=>n4 _ z.symm)) λc xs q=>ke q (λz=>n1 _ z.symm)
theorem Inv.freeze (I:Inv X pins σ H s) (h:H a=some zal):∃ o,s.heap.get? a=some o /\ (∀ o v,X.H₀ a≠some (.bh o v)) /\ Inv X pins σ (upd H a (.bh o zal)) s:=by
 let#[z,y,vs,r,ob,es,ep,e,c]:=I.ai a _ h;have nf:∀ o v,X.H₀ a≠some (.bh o v):=λo v q=>by have:=I.base.kK a o v q;rw[h]at this;cases this
 exact#[ob,e,nf,I.aaT h (λ_ q=>nomatch q) nf (λ_ q=>nomatch q) (λ_ q=>nomatch q) #[e,z,y,vs,r,ob,es,ep,e,c]]
theorem Inv.sq (I:Inv X pins σ H s) (h:H a=some (.bh o zal)) (nf:∀ o v,X.H₀ a≠some (.bh o v)):Inv X pins σ (upd H a zal) s:=by
 let#[_,q]:=I.ai a _ h;exact I.aaT h (λ_ q=>nomatch q) nf (λ_ q=>nomatch q) (λ_ q=>nomatch q) q
def Ep (a:Addr) (o:Obj) (kvs:List (Key×V)):It:=
 #[λi H=>H a=some (.bh o zal) /\ i<kvs.length,λi H x H'=>H'=H /\ ∃ k v,kvs[i]?=some (k,v) /\ x=kV k,λi H=>H a=some (.bh o zal) /\ kvs.length<=i]
theorem Paired.at_ {α β:Type}{F:α->β->zy}:∀ {l:List α}{m:List β}{i:Nat}{x:α},Paired F l m->l[i]?=some x->∃ y,m[i]?=some y /\ F x y
 |_,_,_,_,.nil,e=>by simp at e
 |_,_,0,_,.cons r t,e=>by simp at e;subst e;exact#[_,rfl,r]
 |_,_,i+1,_,.cons r t,e=>by let#[y,q,f]:=Paired.at_ (i:=i) t (by simpa using e);exact#[y,by simpa using q,f]
theorem Om {k:Key}{v:zx}(h:(cw P w).is k v=zu):RelV (kV k) v:=by
 rcases fX h with⟨i,t,rfl,rfl⟩|⟨x,t,rfl,rfl⟩
 .exact#[t,rfl]
 .exact#[t,rfl]
theorem BO {h:Heap}{ep:Nat}{es:Array DictEntry}(q:a9 P w H h a (.bh o zal)) (ed:o.data=.dict es ep):∃ vs,KV kvs vs /\ h.DictAt (cw P w) a vs ep:=by
 let#[e,_,_,vs,r,ob,Hy,Hz,e',c1,c2,c3]:=q;rw[e]at e';cases e';rw[ed]at c2;cases c2;exact#[vs,r,o,es,e,c1,ed,c3]
theorem G1 (it:Addr) {es:Array DictEntry}{ep:Nat}(ed:o.data=.dict es ep) (ne:a≠it):Turn P w K tg (Ep a o kvs) [it] it (λi h=>h.IsKeyIter it a i kvs.length ep) where
 mem:=by simp
 obj:=λi h st b hb=>by
  have e:b=it:=by simpa using hb
  subst e;let#[o,e,c,d]:=st;exact#[o,e,λv z=>by rw[d]at z;cases z]
 keep:=λi h h' st k=>st.at λo e=>k it zq o e
 item:=by
  intro X hP hw hK hc i pins s σ H E I hf st hg;subst hP hw hK;let#[ha,hi]:=hg;let#[vs,r,da]:=BO (I.ai a _ ha) ed;have hl:kvs.length=vs.length:=Paired.length r;obtain⟨⟨k,v⟩,hx⟩:∃ p,kvs[i]?=some p:=#[kvs[i],by simp[hi]];let#[#[k',v'],hy,e1,_]:=Paired.at_ r hx;cases (show k=k' from e1);let#[f0,f1,f2,f3,f4,f5]:=hf it zq;rw[hl]at st;refine wpAny_pyNext_dict_item st da hy λkey h' Q8 qO sb=>?_;have I1:Inv X pins σ H { s with heap:=h' }:=I.turned (t':=s.toks) (λb o hb e=>(sb.2 b hb).trans e) f0 f1 f3 f4 f5;let#[o,e,c,d]:=id qO;exact#[key,rfl,Fl (s:={ s with heap:=h' }) e c d zf #[kV k,H,I1,Om Q8,#[rfl,k,v,hx,rfl],by rw[hl];exact qO,λb hb=>(hf b hb).1]]
 done:=by
  intro X hP hw hK hc i pins s σ H E I hf st hg;subst hP hw hK;let#[ha,hi]:=hg;let#[vs,r,da]:=BO (I.ai a _ ha) ed;have hl:kvs.length=vs.length:=Paired.length r;let#[f0,f1,f2,f3,f4,f5]:=hf it zq;rw[hl]at st;exact wpAny_pyNext_dict_end (I.ok.hd hc) st da (sD zd) λh' eb=>#[rfl,I.turned (t':=s.toks) (λb o hb e=>eb b o hb e) f0 f1 f3 f4 f5]
 self:=λ_ _ _ _ _ st h=>X2 st h
def NF (H₀:Hp) (a:Addr):zy:=∀ o v,H₀ a≠some (.bh o v)
def Wj (H₀:Hp) (tl:TE):TI:=λσ H R=>tl σ H λx H1=>∃ a kvs,x=.ref a /\ ((H1 a=some zal /\ ∀ o,NF H₀ a->R (Ep a o kvs) (upd H1 a (.bh o zal))) \/ ∃ o,H1 a=some (.bh o zal) /\ R (Ep a o kvs) H1)
theorem LG {l:Expr}{tl:TE}(hl:PE X l tl):PI X tg l (Wj X.H₀ tl):=by
 intro pins s σ H R I h;refine tE (hl pins s σ H _ I h) λv s1 x H1 I1 r1 q1=>?_;let#[a,kvs,e,q]:=q1;subst e;cases r1;obtain⟨o,H2,I2,e2,q2⟩:∃ o H2,Inv X pins σ H2 s1 /\ H2 a=some (.bh o zal) /\ R (Ep a o kvs) H2:=by
  rcases q with⟨e,q⟩|⟨o,e,q⟩
  .let#[o,_,nf,I2]:=I1.freeze e;exact#[o,_,I2,fv,q o nf]
  .exact#[o,H1,I1,e,q]
 let#[e3,_,y,_,_,ob,es,ep,e4,_,ed,_]:=id (I2.ai a _ e2);rw[e3]at e4;cases e4;let#[vs,r,da]:=BO (I2.ai a _ e2) ed;have hl:kvs.length=vs.length:=Paired.length r;refine wpAny_pyIter_dict y da ?_;refine#[s1.heap.objs.size,[s1.heap.objs.size],_,_,H2,rfl,I2.kept (t':=s1.toks) λb o e=>aT _ e,G1 _ ed (cH (I2.ai.lt e2)),#[_,cg _ zw,rfl,by rw[hl];rfl],λb hb=>?_,q2];have e:b=s1.heap.objs.size:=by simpa using hb
 subst e;exact I2.wY (au _) (I2.ai.fresh (au _))
def uQ (H₀:Hp) (Q:α->Hp->zy):α->Hp->zy:=λx H=>Q x H \/ ∃ a o kvs,H a=some (.bh o zal) /\ NF H₀ a /\ Q x (upd H a zal)
noncomputable def Ends.sq (H₀:Hp) (D:Ends):Ends:=#[uQ H₀ D.nx,uQ H₀ D.rt,uQ H₀ D.bk,uQ H₀ D.ct]
theorem BP {Q:α->Hp->zy}{x:α}(I:Inv X pins σ H s) (q:uQ X.H₀ Q x H):∃ H',Inv X pins σ H' s /\ Q x H':=by
 rcases q with q|⟨a,o,kvs,e,nf,q⟩
 .exact#[H,I,q]
 .exact#[_,I.sq e nf,q]
theorem FN {t:TS}(h:PS X st t):PS X st (λD=>t (D.sq X.H₀)):=λpins s σ H D I q=>bV (h pins s σ H _ I q) λf s' q'=>by
 cases f with
 |next=>let#[σ',H',I',q']:=q';let#[H2,I2,q2]:=BP I' q';exact#[σ',H2,I2,q2]
 |cont=>let#[σ',H',I',q']:=q';let#[H2,I2,q2]:=BP I' q';exact#[σ',H2,I2,q2]
 |brk=>let#[σ',H',I',q']:=q';let#[H2,I2,q2]:=BP I' q';exact#[σ',H2,I2,q2]
 |ret v=>let#[x,σ',H',I',r,q']:=q';let#[H2,I2,q2]:=BP I' q';exact#[x,σ',H2,I2,r,q2]
end
end L2
namespace L2.DL
open PySem.W
noncomputable def IL:Key->D
 |.inl i=>.int i
 |.inr x=>.str x
noncomputable def uR (F:Hp) (a:Addr):Hp:=λb=>if b=a then zp else F b
theorem jD {b:Addr}(h:b≠a):uR F a b=F b:=if_neg h
section
variable {o:Obj} {l:List (Key × D)} {kvs:List (Key × V)}
theorem FO:∀ {l:List (Key×D)}{kvs:List (Key×V)}{i:Nat}{k:Key}{v:V},aC F l kvs->kvs[i]?=some (k,v)->∃ d,l[i]?=some (k,d) /\ Den F d v
 |[],_,i,_,_,h,e=>by cases (show _=[] from h);simp at e
 | (k',d)::l,_,0,_,_,h,e=>by
   let#[u,t,rfl,h1,_]:=h;simp at e;let#[rfl,rfl]:=e;exact#[d,rfl,h1]
 | (k',d)::l,_,i+1,_,_,h,e=>by
   let#[u,t,rfl,_,h2]:=h;exact FO (i:=i) h2 (by simpa using e)
theorem oU (h:F a=some (.bh o zal)):xh F (uR F a):=λb u n e=>by
 rw[jD (λz=>by rw[z,h]at e;cases e;exact n _ _ rfl)];exact e
theorem bG.off (h:F a=some (.bh o zal)):∀ {w:W}{v:V},bG F r w v->bG (uR F a) r w v
 |.d x,_,q=>Den.dO (oU h) x q
 |.b _,_,q=>q
 |.s _,_,q=>let ⟨b,ob,e,q⟩:=q;#[b,ob,e,by rw[jD (λz=>by rw[z,h]at q;cases q)];exact q]
 |.x _,_,q=>q
 |.t _,_,q=>let ⟨c,as,e,h1,h2⟩:=q;#[c,as,e,oU h _ _ (λ_ _ z=>nomatch z) h1,h2]
 |.m _,_,q=>let ⟨c,as,e,h1,h2⟩:=q;#[c,as,e,oU h _ _ (λ_ _ z=>nomatch z) h1,h2]
theorem Rel.bh (R:Rel T F r σ H env bx) (hb:bx[n]?=some (.af l)) (ha:r[n]?=some a) (k0:F a=zp) (k2:aC F l kvs) :
 Rel T (upd F a (.bh o zal)) r σ (upd H a (.bh o zal)) env (bx.set n (.fD l)):=by
 have s:=iC (o:=.bh o zal) k0;have ma:a∈r:=List.mem_iff_getElem?.mpr #[n,ha];refine#[λb u e=>?_,λi w e=>?_,by rw[nV];exact R.len,R.nd,λm c b e1 e2=>?_,λb u e hn=>?_,R.new,R.n0,R.sl,λb u e=>?_]
 .by_cases z:b=a
  .subst z;rw[fv]at e ⊢;exact e
  .rw[fw z]at e ⊢;exact R.fh b u e
 .let#[v,e1,e2]:=R.slot i w e;exact#[v,e1,e2.mono s (pL r)]
 .by_cases z:m=n
  .subst z;rw[nT (List.getElem?_eq_some_iff.mp hb).1]at e1;cases e1;rw[ha]at e2;cases e2;exact#[o,kvs,fv,fv,aC.mono s _ k2]
  .rw[rH (λq=>z q.symm)]at e1;have nb:b≠a:=λq=>z (jV R.nd e2 (q▸ha));exact(R.box m c b e1 e2).grow s (λq=>by rw[fw nb];exact q) (λu q=>by rw[fw nb];exact q)
 .rw[fw (λz=>hn (by rw[z];exact ma))];exact R.keep b u e hn
 .by_cases z:b=a
  .subst z;exact .inr (.inr (.inr ma))
  .rw[fw z]at e;exact R.fs b u e
theorem Rel.Wk (R:Rel T F r σ H env bx) (hb:bx[n]?=some (.fD l)) (ha:r[n]?=some a) :
 ∃ o kvs,F a=some (.bh o zal) /\ H a=some (.bh o zal) /\ Rel T (uR F a) r σ (upd H a zal) env (bx.set n (.af l)):=by
 let#[o,kvs,f1,h1,dk]:=R.box n _ a hb ha;have sd:=oU f1;have ma:a∈r:=List.mem_iff_getElem?.mpr #[n,ha];refine#[o,kvs,f1,h1,λb u e=>?_,λi w e=>?_,by rw[nV];exact R.len,R.nd,λm c b e1 e2=>?_,λb u e hn=>?_,R.new,R.n0,R.sl,λb u e=>?_]
 .by_cases z:b=a
  .subst z;unfold uR at e;rw[if_pos rfl]at e;cases e
  .rw[jD z]at e;rw[fw z];exact R.fh b u e
 .let#[v,e1,e2]:=R.slot i w e;exact#[v,e1,e2.off f1]
 .by_cases z:m=n
  .subst z;rw[nT (List.getElem?_eq_some_iff.mp hb).1]at e1;cases e1;rw[ha]at e2;cases e2;exact#[if_pos zw,kvs,fv,aC.dO sd _ dk]
  .rw[rH (λq=>z q.symm)]at e1;have nb:b≠a:=λq=>z (jV R.nd e2 (q▸ha));have q:=R.box m c b e1 e2;have fo:F b=zp->uR F a b=zp:=λz=>by rw[jD nb];exact z
   have ho:∀ {u},H b=some u->upd H a zal b=some u:=λz=>by rw[fw nb];exact z
   cases c with
   |lst _=>let#[q1,vs,q2,q3]:=q;exact#[fo q1,vs,ho q2,aw.dO sd _ q3]
   |af _=>let#[q1,vs,q2,q3]:=q;exact#[fo q1,vs,ho q2,aC.dO sd _ q3]
   |dead=>let#[u,q]:=q;exact#[u,ho q]
   |dT _=>let#[q1,vs,q2,q3]:=q;exact#[fo q1,vs,ho q2,bS.dO sd _ q3]
   |fD _=>let#[o2,vs,q1,q2,q3]:=q;exact#[o2,vs,by rw[jD nb];exact q1,ho q2,aC.dO sd _ q3]
 .rw[fw (λz=>hn (by rw[z];exact ma))];exact R.keep b u e hn
 .by_cases z:b=a
  .subst z;unfold uR at e;rw[if_pos rfl]at e;cases e
  .rw[jD z]at e;exact R.fs b u e
theorem aU.off {r':List Addr}{u:HO}(g:aU (upd F a u) r F' r') (k0:F a=zp):aU F r (uR F' a) r':=#[λb v e=>by
 have nb:b≠a:=fJ e k0;rw[jD nb];exact g.s b v (by rw[fw nb];exact e),g.p]
def rn (l:List (Key×D)):List W:=l.map λp=>.d (IL p.1)
theorem jE (g:F' a=some (.bh o zal)) (k2:aC F l kvs):uE F' r (rn l) (Ep a o kvs):=λT' i F1 r1 σ1 H1 aK bx1 g1 R1=>by
 have h:=R1.fh a _ (g1.s a _ g);have hl:=k2.length;refine#[λe=>#[h,by rw[<-hl,<-e];simp[rn]],λw e=>?_];unfold rn at e;rw[nU]at e;have hi:i<kvs.length:=by
  rw[<-hl];cases q:l[i]? with
  |none=>rw[q]at e;cases e
  |some p=>exact(List.getElem?_eq_some_iff.mp q).1
 refine#[#[h,hi],λx H2 ⟨e2,k,v,e3,e4⟩=>?_];subst e2 e4;let#[d,e5,_]:=FO k2 e3;rw[e5]at e;cases e;refine#[F1,.refl F1 r1,R1,?_];cases k<;>exact rfl
noncomputable def pC (n:Nat) (bx:List Bx):Option (List Bx):=match bx[n]? with|some (.fD l)=>some (bx.set n (.af l))|_=>zp
def uS (n:Nat):OS->OS
 |.nx env bx=>(match pC n bx with|some b=>.nx env b|none=>.bad)
 |.rt w bx=>(match pC n bx with|some b=>.rt w b|none=>.bad)
 |.exc c bx=>.exc c bx
 |_=>.bad
def xC (n:Nat):O W->O W
 |.val w bx=>(match pC n bx with|some b=>.val w b|none=>.bad)
 |o=>o
theorem DV {b:List Bx}(h:pC n bx=some b):∃ l,bx[n]?=some (.fD l) /\ b=bx.set n (.af l):=by
 unfold pC at h;split at h
 .cases h;exact#[_,by assumption,rfl]
 .cases h
theorem On {H₀:Hp}{u:HO}{D:Ends}(k0:F a=zp) (ha:r[n]?=some a) (nf:NF H₀ a):∀ {q:OS},cJ T Z F r D (uS n q)->cJ T Z (upd F a u) r (D.sq H₀) q
 | .nx e b,h=>λF2 r2 σ2 H2 g2 R2=>by
   cases q:pC n b with
   |none=>erw[uS,q]at h;exact h.elim
   |some b2=>
     erw[uS,q]at h;let#[l,hl,rfl]:=DV q;let#[o,kvs,f1,h1,R3]:=R2.Wk hl (g2.at ha);exact .inr #[a,o,kvs,h1,nf,h _ r2 σ2 _ (g2.off k0) R3]
 | .rt w b,h=>λF2 r2 v H2 g2 R2 dv=>by
   cases q:pC n b with
   |none=>erw[uS,q]at h;exact h.elim
   |some b2=>
     erw[uS,q]at h;let#[l,hl,rfl]:=DV q;let#[o,kvs,f1,h1,R3]:=R2.Wk hl (g2.at ha);exact .inr #[a,o,kvs,h1,nf,h _ r2 v _ (g2.off k0) R3 (dv.off f1)]
 |.exc c b,h=>λF2 r2 H2 g2 R2=>h F2 r2 H2 #[(iC k0).trans g2.s,g2.p] R2
 |.bk _ _,h=>h.elim
 |.ct _ _,h=>h.elim
 |.bad,h=>h.elim
theorem Oo {H₀:Hp}{u:HO}{Q:VK}(k0:F a=zp) (ha:r[n]?=some a) (nf:NF H₀ a):∀ {q:O W},End T Z bG F r σ env Q (xC n q)->End T Z bG (upd F a u) r σ env (uQ H₀ Q) q
 | .val w b,h=>λF2 r2 v H2 g2 R2 dv=>by
   cases q:pC n b with
   |none=>erw[xC,q]at h;exact h.elim
   |some b2=>
     erw[xC,q]at h;let#[l,hl,rfl]:=DV q;let#[o,kvs,f1,h1,R3]:=R2.Wk hl (g2.at ha);exact .inr #[a,o,kvs,h1,nf,h _ r2 v _ (g2.off k0) R3 (dv.off f1)]
 |.exc c b,h=>λF2 r2 H2 g2 R2=>h F2 r2 H2 #[(iC k0).trans g2.s,g2.p] R2
 |.bad,h=>h.elim
theorem cJ.sq {H₀:Hp}{D:Ends}:∀ {q:OS},cJ T Z F r D q->cJ T Z F r (D.sq H₀) q
 |.nx _ _,h=>λF2 r2 σ2 H2 g2 R2=>.inl (h F2 r2 σ2 H2 g2 R2)
 |.rt _ _,h=>λF2 r2 σ2 H2 g2 R2 d=>.inl (h F2 r2 σ2 H2 g2 R2 d)
 |.bk _ _,h=>λF2 r2 σ2 H2 g2 R2=>.inl (h F2 r2 σ2 H2 g2 R2)
 |.ct _ _,h=>λF2 r2 σ2 H2 g2 R2=>.inl (h F2 r2 σ2 H2 g2 R2)
 |.exc _ _,h=>h
 |.bad,h=>h
theorem End.sq {H₀:Hp}{Q:VK}:∀ {q:O W},End T Z bG F r σ env Q q->End T Z bG F r σ env (uQ H₀ Q) q
 |.val _ _,h=>λF2 r2 σ2 H2 g2 R2 d=>.inl (h F2 r2 σ2 H2 g2 R2 d)
 |.exc _ _,h=>h
 |.bad,h=>h
def vY (i:Nat) (g:DG) (body:aj):aj:=λenv bx=>match env[i]? with
 | some (some (.b n))=>(match bx[n]? with
   |some (.af l)=>uS n (cC g body (rn l) env (bx.set n (.fD l)))
   |some (.fD l)=>cC g body (rn l) env bx
   |_=>.bad)
 |_=>.bad
theorem LH {Q:VK}(e:env[i]?=some (some (.b n))) (h:∀ F' r' a H',aU F r F' r'->Rel T F' r' σ H' env bx->r'[n]?=some a->Q (.ref a) H'):End T Z bG F r σ env Q (dV i env bx):=by
 unfold dV;rw[e];intro F' r' v H' g R d;let#[a,rfl,ha]:=d;exact h F' r' a H' g R ha
theorem Sz {g:DG}{m:aj}{D:Ends}{H₀:Hp}(h:tS T Z (vY i g m) D σ H):HJ (Wj H₀ (tD T Z (dV i))) (tG T g) (tS T Z m) (D.sq H₀) σ H:=by
 let#[F,r,env,bx,R,h]:=h;unfold vY at h;split at h
 case h_2=>exact h.elim
 ext n e;refine#[F,r,env,bx,R,LH e λF' r' a H' g' R' ha=>?_];split at h
 .ext l hb;let#[k0,kvs,k1,k2]:=R'.box n _ a hb ha;exact#[a,kvs,rfl,.inl #[k1,λo nf=>Lc (R'.bh hb ha k0 k2) (jE fv k2) (On k0 ha nf (cJ.weak g' h))]]
 .ext l hb;let#[o,kvs,k0,k1,k2]:=R'.box n _ a hb ha;exact#[a,kvs,rfl,.inr #[o,k1,Lc R' (jE k0 k2) (cJ.weak g' h).sq]]
 .exact h.elim
theorem LJ {body:List Stmt}{g:DG}{m:aj}(hp:PassesOwn zh X.A X.env X.xe) (hc:X.calm=zu) (hi:PD X T Z iter (dV i)) (hg:kP X T tg g) (hb:nI X T Z body m)
 (hs:∀ x,foldedSetIterable iter X.env x=pure x:=by intro _;rfl):cL X T Z (.For tg iter body [] pos) (vY i g m):=
 PS.imp (FN (Dt hp hc (LG hi) hg hb hs)) λD σ H h=>Sz h
def vZ (bo:Bool) (src:List (Option Nat)) (i:Nat) (g:DG) (tf:DE Bool) (te:DE W):DE W:=λenv bx=>match env[i]? with
 | some (some (.b n))=>(match bx[n]? with
   |some (.af l)=>xC n (fC (bq g tf te (rn l) (dE src env) (bx.set n (.fD l)) []) λl ah=>bX bo (some (.lst l)) ah)
   |some (.fD l)=>fC (bq g tf te (rn l) (dE src env) bx []) λl ah=>bX bo (some (.lst l)) ah
   |_=>.bad)
 |_=>.bad
theorem Op {src:List (Option Nat)}{g:DG}{Q:VK}{H₀:Hp}(h:tD T Z (vZ bo src i g tf te) σ H Q) :
 HZ src (Wj H₀ (tD T Z (dV i))) (xk g) (xl #[E0,Z.cl] tf) (xm #[E0,Z.cl] te) σ H (uQ H₀ Q):=by
 let#[F,r,env,bx,R,h]:=h;unfold vZ at h;split at h
 case h_2=>exact h.elim
 ext n e;refine#[F,r,env,bx,R,LH e λF' r' a H' g' R' ha=>?_];split at h
 .ext l hb;let#[k0,kvs,k1,k2]:=R'.box n _ a hb ha;exact#[a,kvs,rfl,.inl #[k1,λo nf=>DA (R'.bh hb ha k0 k2) (jE fv k2) (Oo k0 ha nf (End.weak g' h))]]
 .ext l hb;let#[o,kvs,k0,k1,k2]:=R'.box n _ a hb ha;exact#[a,kvs,rfl,.inr #[o,k1,DA R' (jE k0 k2) (End.weak g' h).sq]]
 .exact h.elim
theorem G2 {src:List (Option Nat)}{elt:Expr}{scope:Scope}{uO:Pos}{g:DG}(i:Nat) (bo:Bool) (hc:X.calm=zu) (S:qQ X N src scope) (hi:PD X T Z iter (dV j))
 (hg:∀ T cl s H C fp,kP zT T tg g) (hf:∀ T cl s H C fp,PF zT ifs (rV T #[E0,Z.cl] tf)) (he:∀ T cl s H C fp,PD zT T #[E0,Z.cl] elt te)
 (hN:X.N.Nodup) (vR:X.N[i]?=some x) (hx:Loc X.env.scope x) (Ek:swapsWith zF (some (.Name x pos')) uO.line X.env=pure zu)
 (El:X.fn x=zu \/ X.env.scope.names.lookup x=some .local) (hs:∀ x,foldedSetIterable iter X.env x=pure x):cL X T Z (.Assign [.Name x pos'] zF uO) (fH (vZ bo src j g tf te) (fe i)):=by
 refine PS.imp (FN (FL (src:=src) (g:=xk g) (tf:=xl #[E0,Z.cl] tf) (te:=xm #[E0,Z.cl] te) hc S (LG hi) (λcl s H C fp pins s' σ' H' v u Q I rv ⟨T,q⟩=>hg T cl s H C fp pins s' σ' H' v u Q I rv q)
  (λcl s H C fp pins s' σ' H' Q I ⟨T,q⟩=>hf T cl s H C fp pins s' σ' H' Q I q) (λcl s H C fp pins s' σ' H' Q I ⟨T,q⟩=>he T cl s H C fp pins s' σ' H' Q I q) hN vR hx Ek El hs)) λD σ H=>x4 λF r env bx R h=>?_
 exact Op (Q:=λv H1=>D.nx (σ.set i (some v)) H1) #[F,r,env,bx,R,End.bp h λw bx1 F1 r1 v H1 g1 R1 d1 h1=>h1 F1 r1 _ H1 zat (R1.set d1 i)]
end
end L2.DL
namespace HT
open PySem.W
def uT (h:Heap) (d:Addr) (vs:List zx) (ep:Nat):zy:=∃ o es,h.get? d=some o /\ o.cls=.type "dict" /\ o.data=.dict es ep /\ es.toList.map (·.key)=vs
theorem uT.at {h:Heap}{d:Addr}{ep:Nat}(x:uT h d vs ep) (k:∀ o,h.get? d=some o->h'.get? d=some o):uT h' d vs ep:=let ⟨o,es,e,r⟩:=x;#[o,es,k o e,r]
section
variable {v d it:Addr} {ep:Nat}
theorem Oq (y:(d==sysModules)=zc) (hm:uT s.heap d vs ep)
 (q:Q (.ref s.heap.objs.size) { s with heap:=s.heap.push { cls:=.type "dict_keyiterator",data:=.fields (List.toArray [.ref d,.int 0 0,.int vs.length 0,.int ep 0]) } }):wpAny zk A (pyIter (.ref d)) Q E s:=by
 let#[o,es,e2,c2,d2,ev]:=id hm;have sz:es.size=vs.length:=by rw[<-ev];simp
 have ty:s.TypeIs (.ref d) "dict":=#[o,e2,c2];refine XZ ty Y8 (pI Y8 ty PySem.F.entry_dict_iter ?_ (PySem.F.args_dict_iter_1 _));unfold Builtin.«dict.__iter__» Builtin.Dict.dictSlotNone;refine ae (ae (wpAny_notOrdered_dict ty ?_));show wpAny _ _ (pure (Value.ref d)) _ _ s;refine ak ?_;show wpAny _ _ (Builtin.Dict.showsAll d >>= _) _ _ s;unfold Builtin.Dict.showsAll;rw[if_neg (by rw[y];exact cT)];refine ae (ak (ae (X3 e2 d2 (ae (X4 e2 d2 (ae (qi (ak #[_,rfl, "dict_keyiterator",_,#[_,cg _ zw,rfl],QL.lookup,?_]))))))));simpa[rawInt,sz] using q
theorem FP {Q:Option zx->Shared->zy}(hit:s.heap.IsKeyIter it d i vs.length ep) (hm:uT s.heap d vs ep) (hh:A.handled=zp)
 (q:∀ x h',vs[i]?=some x->h'.IsKeyIter it d (i+1) vs.length ep->Heap.SameBut it s.heap h'->Q (some x) { s with heap:=h' })
 (qe:∀ h',vs[i]?=zp->Heap.ExtBut it s.heap h'->Q zp { s with heap:=h' }):wpAny zk A (pyNext (.ref it)) Q E s:=by
 let#[o,e1,c1,d1]:=id hit;let#[od,es,e2,c2,d2,ev]:=id hm;have sz:es.size=vs.length:=by rw[<-ev];simp
 unfold pyNext;refine ae (ya (uZ (name:=Str.ofString "__next__") hit.typeIs QL (pI QL hit.typeIs PySem.F.entry_dict_keyiterator_next ?_ (PySem.F.args_dict_keyiterator_next_1 _))));refine ae (ak (ae (ae ?_)));first|refine ae (K4 hit.typeIs (ak (ae (X5 e1 d1 ?_))))|refine ae (K5 hit.typeIs (ak (ae (X5 e1 d1 ?_))))
 erw[show Builtin.Dict_items.ownsTuple "dict_keyiterator"=false by decide,E6,if_false];show wpAny _ _ (if (Value.ref d==Value.none)=zu then _ else _) _ _ s;rw[if_neg (show ¬ ((Value.ref d==Value.none)=true) from cT)];refine ae (ak (ae (X3 e2 d2 ?_)));rw[if_neg (by rw[sz];simp)];refine ae (ak (ae (X4 e2 d2 ?_)));rw[if_neg zq];refine ak ?_;rcases wD i vs.length with hl|hl
 .have kg:i<es.size:=by rw[sz];exact hl
  have hv:vs[i]?=some es[i].key:=by rw[<-ev];simp[kg]
  erw[show ¬ ((i:Int)<0) from by lia,if_false,ui,Array.getElem?_eq_getElem kg];refine ae ?_;first|refine ae (K4 hit.typeIs (ak (ae (K6 hit.typeIs ?_))))|refine ae (K5 hit.typeIs (ak (ae (K6 hit.typeIs ?_))))
  show wpAny _ _ (setField (.ref it) 1 (rawInt ((i:Int)+1)) >>= _) _ _ s;refine ae (EM e1 d1 zq ?_);have h2:(s.heap.update it (Obj.mapFields (·.setIfInBounds 1 (rawInt ((i:Int)+1))))).IsKeyIter it d (i+1) vs.length ep:=
   #[_,Qo _ e1 (Zd (Hv d1 _)),(Ze ..).trans c1,by rw[Hv d1];simp[rawInt]]
  refine ae (kX (ae (K6 (s:={ s with heap:=s.heap.update it (Obj.mapFields (·.setIfInBounds 1 (rawInt ((i:Int)+1)))) }) h2.typeIs ?_)));show wpAny _ _ (pure es[i].key) _ _ _;exact ak (ak #[_,rfl,ak (q _ _ hv h2 (Heap.SameBut.update ..))])
 .have hx:vs[i]?=zp:=sD hl;erw[show ¬ ((i:Int)<0) from by lia,if_false,ui,Zc (show es.size<=i by rw[sz];exact hl)];refine ae ?_;first|refine ae (K4 hit.typeIs (ak ?_))|refine ae (K5 hit.typeIs (ak ?_))
  show wpAny _ _ (setField (.ref it) 0 .none >>= _) _ _ s;refine ae (EM e1 d1 zq ?_);show wpAny _ _ (newExc (.type "StopIteration") [] >>= _) _ _ _;refine ae ?_;erw[newExc,newTuple];refine ae (qi (ae (m:=firstArgMember _ _) (XU (a:=Value.none) (by first|rfl|(erw[firstArgMember];rfl)) (qi ?_ (by size_fits)))) (by size_fits));erw[raiseNew];refine ae (XX ?_);rw[show A.in1.handled=none from hh];refine ae (ak (XY ?_));refine ae (X0 (T:="StopIteration") (b:=zu) #[_,cg _ zw,rfl] X1 ?_);exact ak (qe _ hx (((Heap.SameBut.update ..).extBut.push _).push _))
theorem Os (hh:A.handled=zp) (uK:d≠it) (vs:List zx) (ep:Nat):Walks prog w A it [it,d] [it] vs.length (λi v=>vs[i]?=some v) (λi h=>h.IsKeyIter it d i vs.length ep /\ uT h d vs ep) where
 sub:=λb hb=>by simp at hb;simp[hb]
 frame:=λ_ _ _ st hk=>#[st.1.at λo e=>hk it zq o e,st.2.at λo e=>hk d zq o e]
 item:=λi s Q E hi st hQ=>FP st.1 st.2 hh (λx h' hx h2 sb=>hQ x h' s.toks hx #[h2,st.2.at λo e=>sb.extBut d o uK e] λb o hb e=>sb.extBut b o (λz=>hb (by simp[z])) e) λh' hx _=>by rw[List.getElem?_eq_none_iff]at hx;lia
 done:=λs Q E st hQ=>FP st.1 st.2 hh (λx h' hx _ _=>by simp at hx) λh' _ he=>hQ h' s.toks λb o hb e=>he b o (λz=>hb (by simp[z])) e
 self:=λ_ _ _ _ st hQ=>X2 st.1 hQ
theorem SA (y:(d==sysModules)=zc) (vs:List zx) (ep:Nat):KdlSrc prog w "dict" d d vs.length (λi v=>vs[i]?=some v) (λh=>uT h d vs ep) where
 type:=λ_ hm=>let ⟨o,_,ho,hc,_⟩:=hm;#[o,ho,hc]
 there:=λ_ hm=>let ⟨_,_,ho,_⟩:=hm;#[a8 ho,a8 ho]
 keep:=λ_ _ hm hk=>hm.at λo e=>hk d (.inr zw) o e
 notList:=by decide
 notTuple:=by decide
 hint:=λ_ _ _ _ hm hq=>kdl_hint_dict (let ⟨o,_,ho,hc,_⟩:=hm;#[o,ho,hc]) hq
 iter:=λ_ _ hh hm=>#[_,_,(λ_ _ hq=>Oq y hm hq),Os hh (cH (let ⟨_,_,ho,_⟩:=hm;a8 ho)) vs ep,#[#[_,cg _ zw,rfl,rfl],hm.at λo e=>aT _ e]]
end
end HT
namespace L2
open PySem.W
section
variable {o:Expr} {p:Pos} {td:TE}
def af3 (td:TE):TE:=λσ H Q=>td σ H λx H1=>∃ a kvs,x=.ref a /\ H1 a=some (.dT kvs) /\ ∀ bs,Paired (λ(q:List Key×V) (b:Addr)=>H1 b=some (.tup (q.1.map kV))) kvs bs->∀ l,H1 l=zp->Q (.ref l) (upd H1 l (.lst (bs.map V.ref)))
theorem Ot (r:KT H kvs xs):Paired (λ(q:List Key×V) (b:Addr)=>H b=some (.tup (q.1.map kV))) kvs (xs.map (·.2.1)):=by
 induction r with
 |nil=>exact .nil
 |cons h t ih=>exact .cons h.2.1 ih
theorem oa:∀ bs:List Addr,Vals (bs.map V.ref) (bs.map Value.ref):=by
 intro l_;induction l_ with
 |nil=>exact .nil
 |cons b bs ao=>exact .cons zw (ao)
theorem LK (hc:X.calm=zu) (hg:Gl X "list") (hm:X.mg "list"=zp) (ho:PE X o td) (hs:DL.br o=zu):PE X (.Call (.Name "list" p) [o] [] pos) (af3 td):=by
 intro pins s σ H Q I h;refine sv (jj I hg hm (by decide +kernel:bootBuiltins "list"=some (.type "list")) ?_ zf zf);refine callWith_type1 ?_ (DL.fF hs [] X.env) zw;rw[DL.fF hs [] X.env];show wpAny _ _ (spliced ((zc,eval o X.env)::backTo pos (starEach [] X.env))) _ _ s;refine vk (tE (ho pins s σ H _ I h) λu s1 x H1 I1 rx hh=>?_);let#[a,kvs,ex,ea,q1]:=hh;subst ex;obtain rfl:u=Value.ref a:=rx;let#[zl,hd,xs,rel,dd]:=PV I1.ai ea;let#[ob,es,ep,hq,h2,h3,h4,_,h5]:=id dd;have rk:HT.uT s1.heap a ((xs.map (·.2.1)).map Value.ref) ep:=#[ob,es,hq,h2.1,h3,by rw[h4,bw,bw];rfl];have lx:((xs.map (·.2.1)).map Value.ref).length<=sizeLine:=by rw[aY,aY,<-Paired.length rel];exact zl
 refine vj (kdl_call (HT.SA hd _ ep) (I1.ok.hd hc) rk lx λh' tk acc c hk hD Er=>?_);have ev:acc.toList=(xs.map (·.2.1)).map Value.ref:=by
  apply Qe;intro j;by_cases hj:j<acc.size
  .have ej:acc[j]?=some acc[j]:=by simp[hj]
   rw[Hu,ej];exact(Er.2 j _ ej).symm
  .have h3:=Er.1;rw[Hu,Zc zd,sD zd]
 have rv:Vals ((xs.map (·.2.1)).map V.ref) acc.toList:=by rw[ev];exact oa _
 have I3:=I1.laid (h':=h') (t':=tk) (a:=s1.heap.objs.size) (o:=.lst ((xs.map (·.2.1)).map V.ref)) (λb u e=>hk b u e) (au _) #[by rw[aY];rw[aY]at lx;exact lx,acc.toList,c,rv,by simpa using hD];exact#[.ref _,_,I3,rfl,q1 _ (Ot rel) _ (I1.ai.fresh (au _))]
def af4 (td:TE):TE:=λσ H Q=>td σ H λx H1=>∃ a kvs,x=.ref a /\ Rd H1 a zal /\ ∀ l,H1 l=zp->Q (.ref l) (upd H1 l zal)
theorem G3 (hg:Gl X "dict") (hm:X.mg "dict"=zp) (ho:PE X o td) (hs:DL.br o=zu):PE X (.Call (.Name "dict" p) [o] [] pos) (af4 td):=by
 intro pins s σ H Q I h;refine sv (jj I hg hm (by decide +kernel:bootBuiltins "dict"=some (.type "dict")) ?_ zf zf);refine callWith_type1 ?_ (DL.fF hs [] X.env) zw;rw[DL.fF hs [] X.env];show wpAny _ _ (spliced ((zc,eval o X.env)::backTo pos (starEach [] X.env))) _ _ s;refine vk (tE (ho pins s σ H _ I h) λu s1 x H1 I1 rx hh=>?_);let#[a,kvs,ex,ea,q1]:=hh;subst ex;obtain rfl:u=Value.ref a:=rx;let#[zl,hd,vs,rel,dd]:=lT I1.ai ea;refine vj (kt_call_dict hd dd (by rw[<-Paired.length rel];exact zl) λh' nL sb=>?_);have nb:(s1.heap.objs.size==sysModules)=zc:=by
  exact beq_eq_false_iff_ne.mpr (ye I1.big)
 have I3:=I1.laid (h':=h') (t':=s1.toks) (a:=s1.heap.objs.size) (o:=.dK kvs) (λb u e=>(sb.2 b (cH (a8 e))).trans (aT _ e)) (au _) #[zl,nb,vs,rel,nL];exact#[.ref _,_,I3,rfl,q1 _ (I1.ai.fresh (au _))]
end
end L2
namespace L2.DL
open PySem.W
section
variable {o:Expr} {p:Pos} {mc:DE W}
theorem Rel.af5 (R:Rel T F r σ H env bx) {b:Addr}{vs:List V}(hb:H b=some (.tup vs)):∃ F',aU F r F' r /\ Rel T F' r σ H env bx /\ F' b=some (.tup vs):=by
 cases q:F b with
 |some u=>
   have:=R.fh b u q;rw[hb]at this;cases this;exact#[F,.refl F r,R,q]
 |none=>
   have s:=iC (o:=.tup vs) q;refine#[upd F b (.tup vs),#[s,pL r],#[λa u e=>?_,λi w e=>?_,R.len,R.nd,λn c a e1 e2=>?_,R.keep,R.new,R.n0,R.sl,λa u e=>?_],fv]
   .by_cases z:a=b
    .subst z;rw[fv]at e;cases e;exact hb
    .rw[fw z]at e;exact R.fh a u e
   .let#[v,e1,e2]:=R.slot i w e;exact#[v,e1,e2.mono s (pL r)]
   .have k:=R.box n c a e1 e2;have ne:∀ {u},H a=some u->(∀ ys,u≠.tup ys)->upd F b (.tup vs) a=F a:=λ{u} z y=>fw λq=>by rw[q,hb]at z;cases z;exact y _ zw
    cases c with
    |lst _=>let#[q1,ws,q2,q3]:=k;exact#[(ne q2 (λ_ z=>nomatch z)).trans q1,ws,q2,aw.mono s _ q3]
    |af _=>let#[q1,ws,q2,q3]:=k;exact#[(ne q2 (λ_ z=>nomatch z)).trans q1,ws,q2,aC.mono s _ q3]
    |dead=>exact k
    |dT _=>let#[q1,ws,q2,q3]:=k;exact#[(ne q2 (λ_ z=>nomatch z)).trans q1,ws,q2,bS.mono s _ q3]
    |fD _=>let#[o2,ws,q1,q2,q3]:=k;exact#[o2,ws,s _ _ q1,q2,aC.mono s _ q3]
   .by_cases z:a=b
    .subst z;rw[fv]at e;cases e;exact .inl #[_,rfl]
    .rw[fw z]at e;exact R.fs a u e
theorem LL:∀ (k:List Key),aw F (k.map IL) (k.map kV):=by
 intro l_;induction l_ with
 |nil=>exact rfl
 |cons k t ao=>exact#[_,_,rfl,by cases k<;>exact rfl,ao]
abbrev IM (l:List (List Key×D)):List D:=l.map λq=>.tup (q.1.map IL)
theorem Rel.ku:∀ {l:List (List Key×D)}{kvs:List (List Key×V)}{bs:List Addr}{F:Hp},Rel T F r σ H env bx->bS F l kvs->Paired (λ(q:List Key×V) (b:Addr)=>H b=some (.tup (q.1.map kV))) kvs bs->∃ F',aU F r F' r /\ Rel T F' r σ H env bx /\ aw F' (IM l) (bs.map V.ref)
 | [],_,_,F,R,h,q=>by
   cases (show _=[] from h);cases q;exact#[F,.refl F r,R,rfl]
 | (k,d)::l,_,_,F,R,h,q=>by
   let#[v,t,rfl,_,h2]:=h;cases q with
   |@cons _ b _ bs q1 q2=>
     let#[F1,g1,R1,e1]:=R.af5 q1;let#[F2,g2,R2,d2]:=Rel.ku R1 (bS.mono g1.s _ h2) q2;exact#[F2,g1.trans g2,R2,V.ref b,_,rfl,#[b,_,rfl,g2.s _ _ e1,LL k],d2]
def Es (bo:Bool) (m:DE W):DE W:=λenv bx=>fC zL λx bx1=>match x with
 | .b n=>(match bx1[n]? with
   |some (.dT l)=>bX bo (some (.lst (IM l))) bx1
   |_=>.bad)
 |_=>.bad
theorem LM (bo:Bool) (hc:X.calm=zu) (hg:Gl X "list") (hm:X.mg "list"=zp) (ho:PD X T Z o ma) (hs:br o=zu):PD X T Z (.Call (.Name "list" p) [o] [] pos) (Es bo ma):=by
 refine PE.imp (LK hc hg hm ho hs) λσ H Q=>x4 λF r env bx R h=>#[F,r,env,bx,R,End.bind h λx bx1 F1 r1 v H1 g1 R1 d1 h1=>?_];split at h1
 case h_2=>exact h1.elim
 ext n;let#[a,rfl,ha]:=d1;let#[c,hc,kc]:=R1.hZ ha;rw[hc]at h1;split at h1
 case h_2=>exact h1.elim
 ext l0 e0;cases e0;let#[_,kvs,k1,k2]:=kc;refine#[a,kvs,rfl,k1,λbs hb l hl=>?_];let#[F2,g2,R2,d2]:=Rel.ku R1 k2 hb;exact gX R2 (End.weak g2 h1) #[l,_,rfl,hl,rfl,d2]
def v7 (bo:Bool) (m:DE W):DE W:=λenv bx=>fC zL λx bx1=>match nR bx1 x with
 |some l=>bX bo (some (.af l)) bx1
 |none=>.bad
theorem G4 (bo:Bool) (hg:Gl X "dict") (hm:X.mg "dict"=zp) (ho:PD X T Z o ma) (hs:br o=zu):PD X T Z (.Call (.Name "dict" p) [o] [] pos) (v7 bo ma):=by
 refine PE.imp (G3 hg hm ho hs) λσ H Q=>x4 λF r env bx R h=>#[F,r,env,bx,R,End.bind h λx bx1 F1 r1 v H1 g1 R1 d1 h1=>?_];split at h1
 .ext l q;let#[a,kvs,rfl,k1,k2]:=oh R1 d1 q;exact#[a,kvs,rfl,k1,λl hl=>gX R1 h1 #[l,_,rfl,hl,rfl,k2]]
 .exact h1.elim
noncomputable def uU (l:List (List Key×D)) (k:List Key) (d:D):List (List Key×D):=
 if (l.any λkv=>decide (kv.1=k))=zu then l.map (λkv=>if kv.1=k then (kv.1,d) else kv) else l++[(k,d)]
theorem bS.any {F:Hp}(k:List Key):∀ {l:List (List Key×D)}{vs:List (List Key×V)},bS F l vs->(l.any λkv=>decide (kv.1=k))=(vs.any λkv=>decide (kv.1=k))
 |[],_,h=>by cases (show _=[] from h);rfl
 |(k',d')::l,_,⟨v,r,e,h1,h2⟩=>by subst e;erw[qI,bS.any k h2]
theorem bS.map {F:Hp}{k:List Key}{d:D}{v:V}(hv:Den F d v):∀ {l:List (List Key×D)}{vs:List (List Key×V)},bS F l vs->bS F (l.map λkv=>if kv.1=k then (kv.1,d) else kv) (vs.map λkv=>if kv.1=k then (kv.1,v) else kv)
 |[],_,h=>by cases (show _=[] from h);rfl
 | (k',d')::l,_,⟨u,r,e,h1,h2⟩=>by
   subst e;by_cases c:k'=k
   .erw[az,c,if_true];exact#[v,_,rfl,hv,bS.map hv h2]
   .erw[az,c,if_false];exact#[u,_,rfl,h1,bS.map hv h2]
theorem bS.app {F:Hp}{m:List (List Key×D)}{us:List (List Key×V)}(hm:bS F m us):∀ {l:List (List Key×D)}{vs:List (List Key×V)},bS F l vs->bS F (l++m) (vs++us)
 |[],_,h=>by cases (show _=[] from h);exact hm
 |(k',d')::l,_,⟨u,r,e,h1,h2⟩=>by subst e;exact#[u,_,rfl,h1,bS.app hm h2]
theorem bS.put2 {k:List Key}{d:D}{l:List (List Key×D)}{vs:List (List Key×V)}(h:bS F l vs) (hv:Den F d v):bS F (uU l k d) (putK vs k v):=by
 unfold uU putK;rw[bS.any k h];split
 .exact bS.map hv h
 .exact bS.app (show bS F [(k,d)] [(k,v)] from#[v,[],rfl,hv,rfl]) h
def rq (m k v:DE W):aj:=λenv bx=>bp (v env bx) λz bx1=>bp (m env bx1) λx ah=>bp (k env ah) λy bH=>match x,y,z with
 | .b n,.d (.tup d),.d u=>(match bH[n]?,vW d with
   |some (.dT l),some k=>if l.length<sizeLine then .nx env (bH.set n (.dT (uU l k u))) else .bad
   |_,_=>.bad)
 |_,_,_=>.bad
theorem G5 {value:Expr}(hu:X.A.units+1<cLine) (ho:PD X T Z o ma) (hi:PD X T Z e mb) (hv:PD X T Z value mc) (hs:swapsWith value (some (.Subscript o e pos')) pos.line X.env=pure zc) :
 cL X T Z (.Assign [.Subscript o e pos'] value pos) (rq ma mb mc):=by
 refine PS.imp (FE hu ho hi hv hs) λD σ H=>x4 λF r env bx R h=>?_;refine#[F,r,env,bx,R,End.bp h λz bx1 F1 r1 t H1 g1 R1 d1 h1=>#[F1,r1,env,bx1,R1,End.bp h1 λx ah F2 r2 v H2 g2 R2 d2 h2=>#[F2,r2,env,ah,R2,End.bp h2 λy bH F3 r3 u H3 g3 R3 d3 h3=>?_]]];split at h3
 .ext n d w;let#[a,rfl,ha]:=(g3.den (w:=.b n) d2:bG F3 r3 (.b n) v);let#[c,hc,kc]:=R3.hZ ha;rw[hc]at h3;split at h3
  .ext l k e1 e2;cases e1;split at h3
   .ext hl;let#[hF,kvs,k1,k2]:=kc;let#[b,us,rfl,f1,f2]:=d3;cases Og e2 f2;have dz:Den F3 w t:=g3.den (w:=.d w) (g2.den (w:=.d w) d1);exact#[a,_,rfl,.inr #[kvs,k,b,k1,rfl,R3.fh _ _ f1,by rw[<-k2.length];exact hl,rfl],h3 F3 r3 _ _ (.refl F3 r3) (R3.write ha hF #[hF,_,fv,k2.put2 dz])]
   .exact h3.elim
  .exact h3.elim
 .exact h3.elim
def bN (m:DE W) (k:Str):DE W:=λenv bx=>fC zL λx bx1=>match x with
 |.m l=>(match l.lookup k with|some n=>.val (.b n) bx1|none=>.bad)
 |_=>.bad
theorem FQ {k:Str}{n:Nat}:∀ {l:List (Str×Nat)}{as:List Addr},uC r (l.map (·.2)) as->l.lookup k=some n->∃ a,r[n]?=some a /\ kh (List.zipWith (λk a=>((.inr k.1:Key),V.ref a)) l as) (.inr k)=some (.ref a)
 |[],_,_,e=>by cases e
 | (x,m)::l,_,h,e=>by
   let#[a,t,rfl,h1,h2]:=h;rw[List.zipWith_cons_cons];rw[eW]at e;cases q:k==x with
   |true=>
     rw[q]at e;cases e;have:k=x:=by simpa using q
     subst this;exact#[a,h1,jX zw]
   |false=>
     rw[q]at e;let#[b,e1,e2]:=FQ h2 e;refine#[b,e1,?_];rw[jp (λz=>by cases z;simp at q)];exact e2
theorem SC {k:Str}{q:Pos}(hu:X.A.units+1<cLine) (ho:PD X T Z o ma):PD X T Z (.Subscript o (.Constant (.str k) j q) pos) (bN ma k):=by
 refine PE.imp (FD hu ho lV (λ_ _=>rfl)) λσ H Q=>x4 λF r env bx R h=>#[F,r,env,bx,R,End.bind h λx bx1 F1 r1 v H1 g1 R1 d1 h1=>?_];split at h1
 .ext l;split at h1
  .ext n e;let#[c,as,rfl,f1,ad]:=d1;let#[a,e1,e2]:=FQ ad e;exact#[c,.ref a,rfl,.inl #[_,.inr k,.inl (R1.fh _ _ f1),rfl,e2.symm],h1 F1 r1 _ H1 zat R1 #[a,rfl,e1]]
  .exact h1.elim
 .exact h1.elim
end
noncomputable def qF:Nat->Bx
 |0=>.lst []
 |1=>.af []
 |_=>.dT []
noncomputable def aaU:Nat->HO
 |0=>.lst []
 |1=>.dK []
 |_=>.dT []
def af6 (n:Nat):TE:=λ_ H Q=>∀ p,H p=zp->Q (.ref p) (upd H p (aaU n))
noncomputable def Wl (q:Str×Nat):TE×TE:=(λ_ H Q=>Q (.str q.1) H,af6 q.2)
noncomputable def IP:List (Str×Nat)->Nat->List (Str×Nat)
 |[],_=>[]
 |q::l,n=>(q.1,n)::IP l (n+1)
def xD (l:List (Str×Nat)):DE W:=λ_ bx=>if (l.map (·.1)).Nodup /\ l.length<=15 then .val (.m (IP l bx.length)) (bx++l.map λq=>qF q.2) else .bad
noncomputable abbrev xE (l:List (Str×Nat)) (as:List Addr):List (Key×V):=List.zipWith (λk a=>(.inr k.1,V.ref a)) l as
theorem Bp {p:Addr}:∀ {l:List (Str×Nat)}{r:List Addr}{H:Hp}{bx:List Bx}{Q:List (V×V)->Hp->zy},Rel T F r σ H env bx->H p=some (.dK [])->p∉r ->
 (∀ as H2,Rel T F (r++as) σ H2 env (bx++l.map λq=>qF q.2)->H2 p=some (.dK [])->p∉r++as->as.length=l.length->Q ((xE l as).map λkv=>(kV kv.1,kv.2)) H2)->Ir (l.map Wl) σ H Q
 |[],r,H,bx,Q,R,hp,hn,h=>h [] H (by simpa using R) hp (by simpa using hn) zw
 | (k,n)::l,r,H,bx,Q,R,hp,hn,h=>λq hq=>by
   have c:rT F (upd H q (aaU n)) q (qF n):=by
    match n with
    |0=>exact#[R.qS hq,[],fv,rfl]
    |1=>exact#[R.qS hq,[],fv,rfl]
    |_+2=>exact#[R.qS hq,[],fv,rfl]
   have ne:=fJ hp hq;refine Bp (l:=l) (R.Ig hq c) (by rw[fw ne];exact hp) (by simp[hn,ne]) λas H2 R2 h2 n2 hl=>?_;exact h (q::as) H2 (by simpa using R2) h2 (by simpa using n2) (by simp[hl])
theorem G6:∀ {l:List (Key×V)}{acc:List (Key×V)},((acc++l).map (·.1)).Nodup->vM acc l=acc++l:=by
 intro l_;induction l_ with
 |nil=>(intro acc _;exact(sC acc).symm)
 |cons q l ao=>
   intro acc h;have e:putK acc q.1 q.2=acc++[q]:=by
    unfold putK;rw[if_neg];intro z;let#[x,m,e]:=rM.mp z;rw[Qh,wI]at h;exact h.2.2 x.1 (uh m) q.1 zq (of_decide_eq_true e)
   show vM (putK acc q.1 q.2) l=_;rw[e,ao (by simpa using h)];simp
theorem CM:∀ {l:List (Str×Nat)}{as r:List Addr},as.length=l.length->uC (r++as) ((IP l r.length).map (·.2)) as /\ List.zipWith (λk a=>((.inr k.1:Key),V.ref a)) (IP l r.length) as=xE l as
 |[],[],_,_=>#[rfl,rfl]
 |[],_::_,_,h=>by cases h
 |q::l,[],_,h=>by cases h
 | q::l,a::as,r,h=>by
   let#[h1,h2]:=CM (l:=l) (as:=as) (r:=r++[a]) (by simpa using h);rw[dj,rJ]at h1;rw[dj]at h2;refine#[#[a,as,rfl,?_,h1],?_]
   .rw[dI (au _),sx];rfl
   .show _::_=_::_;exact congrArg _ h2
theorem FR:∀ {l:List (Str×Nat)}{as:List Addr},as.length=l.length->(xE l as).map (·.1)=l.map λq=>.inr q.1
 |[],_,_=>rfl
 |q::l,[],h=>by cases h
 |q::l,a::as,h=>congrArg _ (FR (l:=l) (as:=as) (by simpa using h))
theorem Rel.own (R:Rel T F r σ H env bx) {u:HO}(hf:F p=zp) (hn:p∉r) (hT:T.H₀ p=zp):Rel T (upd F p u) r σ (upd H p u) env bx:=by
 have s:=iC (o:=u) hf;refine#[λa v e=>?_,λi w e=>?_,R.len,R.nd,λn c a e1 e2=>?_,λa v e m=>?_,R.new,R.n0,R.sl,λa v e=>?_]
 .by_cases z:a=p
  .subst z;rw[fv]at e ⊢;exact e
  .rw[fw z]at e ⊢;exact R.fh a v e
 .let#[v,e1,e2]:=R.slot i w e;exact#[v,e1,e2.mono s (pL r)]
 .have ne:a≠p:=λz=>hn (by rw[<-z];exact List.mem_iff_getElem?.mpr #[n,e2]);exact(R.box n c a e1 e2).grow s (λz=>by rw[fw ne];exact z) λu z=>by rw[fw ne];exact z
 .rw[fw (λz=>by rw[z,hT]at e;cases e)];exact R.keep a v e m
 .by_cases z:a=p
  .subst z;exact .inr (.inr (.inl hT))
  .rw[fw z]at e;exact R.fs a v e
theorem LN {l:List (Str×Nat)}{ks:List (Option Expr)}{vs:List Expr}(h:xq X pos ks vs (l.map Wl)) (yI:ks.all (·.isSome)=zu) (hl:ks.length=vs.length) (h0:ks≠[]) (V3:ks.length<=15):PD X T Z (.Dict ks vs pos) (xD l):=by
 refine PE.imp (NT h yI hl h0 V3) λσ H Q=>x4 λF r env bx R h=>λp hp=>?_;unfold xD at h;split at h
 case isFalse=>exact h.elim
 ext nd;have hn:=R.xi hp;have hT:T.H₀ p=zp:=by
  cases q:T.H₀ p with
  |none=>rfl
  |some u=>rw[R.keep p u q hn]at hp;cases hp
 refine Bp (R.aag hp) fv hn λas H2 R2 h2 n2 hl=>#[h2,xE l as,rfl,by simp[List.length_zipWith];lia,?_];have nk:((xE l as).map (·.1)).Nodup:=by
  rw[FR hl,List.Nodup,nW];exact(nW.mp nd.1).imp λh z=>h (Sum.inr.inj z)
 rw[G6 (acc:=[]) nk,nz];let#[a1,a2]:=CM (l:=l) (as:=as) (r:=r) hl;have g:aU F r (upd F p (.dK (xE l as))) (r++as):=#[iC (R.qS hp),wF r as];rw[R.len]at a1 a2;exact h _ (r++as) _ _ g (R2.own (R.qS hp) n2 hT) #[p,as,rfl,by rw[a2];exact fv,a1]
noncomputable def Et (kd:Str->Bool):List (Option Expr)->List Expr->Option (List (Str×Nat))
 |[],[]=>some []
 |some (.Constant (.str k) _ _)::ks,.Dict [] [] _::vs=>(Et kd ks vs).map ((k,if kd k then 2 else 1)::·)
 |some (.Constant (.str k) _ _)::ks,.List [] _::vs=>(Et kd ks vs).map ((k,0)::·)
 |_,_=>zp
theorem Ou {kd:Str->Bool}:∀ {ks:List (Option Expr)}{vs:List Expr}{l:List (Str×Nat)},Et kd ks vs=some l->xq X pos ks vs (l.map Wl) /\ ks.all (·.isSome)=zu /\ ks.length=vs.length /\ ks.length=l.length:=by
 intro ks vs
 fun_induction Et kd ks vs with
 |case1=>intro l h;cases h;exact#[NS,rfl,rfl,rfl]
 |case2 k j q ks p vs ih=>
   intro l h;let#[m,e,rfl]:=Option.map_eq_some_iff.mp h;let#[a,b,c,d]:=ih e;refine#[?_,b,by simp[c],by simp[d]];cases kd k with
   |true=>exact An lV CB a
   |false=>exact An lV CA a
 |case3 k j q ks p vs ih=>
   intro l h;let#[m,e,rfl]:=Option.map_eq_some_iff.mp h;let#[a,b,c,d]:=ih e;exact#[An lV (PE.imp (jR fS) λσ H Q h=>#[kI _,h]) a,b,by simp[c],by simp[d]]
 |case4=>intro l h;cases h
end L2.DL
namespace HT
open PySem.W
noncomputable def ay.flat:ay->Bool
 |.t _=>zc
 |_=>zu
theorem Ov (A:Around) (s:Shared) {h:Heap}{v:zx}{a b:ay}(f:a.flat=zu) (p:ng h v a) (q:ng h u b) (hl:a.like b=zu):∃ e,SeqAt.EqAt A s v u e /\ (e=zu ↔ a=b):=by
 cases a with
 |i n=>
   cases b with
   |i m=>let#[t,rfl]:=p;let#[t',rfl]:=q;exact#[_,QM n t m t',by simp]
   |_=>cases hl
 |s x=>
   cases b with
   |s y=>let#[t,rfl]:=p;let#[t',rfl]:=q;exact#[_,QN x t y t',by simp]
   |_=>cases hl
 |t _=>cases f
theorem Ow (A:Around) (s:Shared) {h:Heap}{v:zx}{a b:ay}(f:a.flat=zu) (p:ng h v a) (q:ng h u b) (hl:a.like b=zu) (prog:Program) (w:World) (E:zx->Shared->zy) (Q:zx->Shared->zy) (k:Q (.bool (a.lt b)) s) :
 wpAny zk A (richCompare .Lt v u) Q E s:=by
 cases a with
 |i n=>
   cases b with
   |i m=>let#[t,rfl]:=p;let#[t',rfl]:=q;exact(Qs k:wpAny zk A (compareOp .Lt _ _) Q E s)
   |_=>cases hl
 |s x=>
   cases b with
   |s y=>let#[t,rfl]:=p;let#[t',rfl]:=q;exact(lt_str k:wpAny zk A (compareOp .Lt _ _) Q E s)
   |_=>cases hl
 |t _=>cases f
section
open PySem.SeqAt
open PySem.AutoSeq1 (wpAny_loadPart')
open PySem.MeetsSeq PySem.MeetsSeq2 PySem.MeetsSeq3
theorem AZ (l b:Addr) (items dZ:Array zx) (n n2:Nat) (dd qw:Option Addr) (sl pd:Array (Option zx)) (h0:Heap) (x y:List ay) (hi:eB h0 items.toList x) (hj:eB h0 dZ.toList y) (fx:x.all ay.flat=zu) (hl:eO x y=zu) :
 Meets (Builtin.«tuple.__lt__» #[[.ref l,.ref b],[]])
  (λ_ R s=>s.heap.get? l=some { cls:=.type "tuple",dict:=dd,data:=.seq items n,slots:=sl } /\ s.heap.get? b=some { cls:=.type "tuple",dict:=qw,data:=.seq dZ n2,slots:=pd } /\
   R (.ok (.ret (.bool (cu x y)))) s):=
 .of_wp λprog w A R s h=>by
  let#[hp,g,d,tk,os]:=s;let#[kg,hb,h]:=h;have f2:=Zi;have z1:items.size=x.length:=by rw[<-hi.length];simp
  have z2:dZ.size=y.length:=by rw[<-hj.length];simp
  wp_walk using wpAny_loadPart' kg,wpAny_loadPart' hb,Xz _ (λrest b s'=>b.1=zp /\ s'=#[hp,g,d,tk,os] /\ ∃ (vs ws:List zx) (p q:List ay),rest=vs.zip ws /\
   eB h0 vs p /\ eB h0 ws q /\ p.all ay.flat=zu /\ eO p q=zu /\ p.length+dZ.size=q.length+items.size /\ R (.ok (.ret (.bool (cu p q)))) #[hp,g,d,tk,os]) _
  case turn=>
   rintro⟨v,u⟩ rest b s' ⟨sW,rfl,vs,ws,p,q,hz,hv,hw,hf,hk,hlen,hR⟩;cases hv with
   |nil=>rw[yj]at hz;cases hz
   |@cons v' a vs p ha af7=>
     cases hw with
     |nil=>rw[ER]at hz;cases hz
     |@cons u' c ws q hc af8=>
       rw[pK]at hz;injection hz with Vn Vo;injection Vn with hy hx;subst hy hx;erw[bg]at hlen;have qx:(a.like c&&eO p q)=zu:=hk;rw[qk]at hf;rw[aD]at hf qx;unfold cu at hR;let#[e,he,yF]:=Ov A.in1 #[hp,g,d,tk,os] hf.1 ha hc qx.1;refine ae (he prog w _ _ ?_);cases e with
       |true=>
         rw[if_pos (yF.mp rfl)]at hR
         wp_walk
         exact#[rfl,rfl,_,_,_,_,Vo,af7,af8,hf.2,qx.2,by lia,hR]
       |false=>
         rw[if_neg (λq=>absurd (yF.mpr q) cT)]at hR;have Vp:=Ow A.in1 #[hp,g,d,tk,os] hf.1 ha hc qx.1 prog w
         wp_walk using Vp
         exact#[_,rfl,by simpa using hR]
  case fin=>
   rintro⟨b1,b2⟩ s' ⟨sW,rfl,vs,ws,p,q,hz,hv,hw,hf,hk,hlen,hR⟩;simp only at sW;subst sW;have hx:cu p q=decide (items.size<dZ.size):=by
    cases hv with
    |nil=>
      cases hw with
      |nil=>erw[kJ]at hlen;unfold cu;exact(decide_eq_false zd).symm
      |cons c hw=>erw[kJ,bg]at hlen;unfold cu;exact(decide_eq_true zd).symm
    |cons a hv=>
      cases hw with
      |nil=>erw[kJ,bg]at hlen;unfold cu;exact(decide_eq_false zd).symm
      |cons c hw=>rw[pK]at hz;cases hz
   rw[hx]at hR
   wp_walk
   exact#[_,rfl,by simpa[Builtin.Tuple.tupleCompareSizes] using hR]
  case h=>exact⟨rfl,rfl,items.toList,dZ.toList,x,y,rfl,hi,hj,fx,hl,by lia,h⟩
end
theorem Ox {l b:Addr}{dZ:Array zx}{x y:List ay}(hl:IsTup s.heap l items) (hb:IsTup s.heap b dZ) (hi:eB s.heap items.toList x) (hj:eB s.heap dZ.toList y)
 (fx:x.all ay.flat=zu) (hk:eO x y=zu) (hu:A.units<cLine) (h:Q (.bool (cu x y)) s):wpAny zk A (compareOp .Lt (.ref l) (.ref b)) Q E s:=by
 let#[#[cls,dd,data,sl],ho,hc,n,hd]:=id hl;let#[#[Vq,qw,data2,pd],pS,eu,n2,hd2]:=id hb;simp only at hc hd eu hd2;subst hc hd eu hd2;exact XA (op:=.Lt) #[_,ho,rfl] #[_,pS,rfl] YT YU (YV _ _) (AZ l b items dZ n n2 dd qw sl pd s.heap x y hi hj fx hk)
  #[ho,pS,show Value.bool (cu x y)≠Value.notImplemented /\ Q (.bool (cu x y)) s from#[(λx=>nomatch x),h]] hu
end HT
namespace L2.DL
open PySem.W
open HT (ay eO cu)
def Wm:R2:=λx y H Q=>∃ F a b vs us l m,x=.ref a /\ y=.ref b /\ Sub F H /\ F a=some (.tup vs) /\ F b=some (.tup us) /\ aw F (l.map dS) vs /\ aw F (m.map dS) us /\ l.all ay.flat=zu /\ eO l m=zu /\ Q (.bl (cu l m)) H
theorem SD (hu:X.A.units<cLine):ba X (compareOp .Lt) Wm:=by
 intro pins s σ H x y v u Q I rx ry h;let#[F,a,b,vs,us,l,m,rfl,rfl,sub,fa,fb,da,db,f,k,q]:=h;cases rx;cases ry;let#[_,its,r1,p1]:=(show a9 X.prog X.w H s.heap a (.tup vs) from I.ai a _ (sub _ _ fa));let#[_,ux,r2,p2]:=(show a9 X.prog X.w H s.heap b (.tup us) from I.ai b _ (sub _ _ fb));exact HT.Ox p1 p2 (by simpa using DS I sub da r1) (by simpa using DS I sub db r2) f k hu #[.bl (cu l m),H,I,rfl,q]
def eQ:D->D->Option Res
 |.int i,.int j=>some (.old (.bl (decide (i<j))))
 | .tup a,.tup b=>(match intsOf a,intsOf b with
   |some ns,some ms=>some (.old (.bl (HT.lexLt ns ms)))
   | _,_=>match tR a,tR b with
     |some l,some m=>if l.all ay.flat=zu /\ eO l m=zu then some (.old (.bl (cu l m))) else zp
     |_,_=>zp)
 |_,_=>zp
theorem SE (hu:X.A.units<cLine):ba X (compareOp .Lt) (λx y H Q=>(eY (λi j=>.bl (decide (i<j))) x y H Q \/ yG X.K x y H Q) \/ Wm x y H Q):=(NL hu).or (SD hu)
theorem af9:cB (λx y H Q=>(eY (λi j=>.bl (decide (i<j))) x y H Q \/ yG K x y H Q) \/ Wm x y H Q) eQ:=by
 intro F H x y v w Q s sub rx ry e k;unfold eQ at e;split at e
 .exact .inl (aap F H _ _ v w Q s sub rx ry e k)
 .ext a b;split at e
  .ext ns ms e1 e2;exact .inl (aap F H _ _ v w Q s sub rx ry (by show ((intsOf a).bind λns=>(intsOf b).map λms=>Res.old (.bl (HT.lexLt ns ms)))=some s;rw[e1,e2];exact e) k)
  .split at e
   .ext l m e1 e2;split at e
    .ext c;cases e;rw[Ar e1]at rx;rw[Ar e2]at ry;let#[p,vs,rfl,h1,h2]:=rx;let#[q,us,rfl,h3,h4]:=ry;exact .inr #[F,p,q,vs,us,l,m,rfl,rfl,sub,h1,h3,h2,h4,c.1,c.2,k _ _ #[rfl,rfl]]
    .cases e
   .cases e
 .cases e
end L2.DL
namespace HT
open PySem.W
theorem G7 {T:String}{r d:Addr}{P:Nat->zx->zy}{OK:Heap->zy}(K:KdlSrc prog w T r d n P OK) (hh:A.handled=zp) (ai:OK s.heap) (bY:n<64)
 (hI:∀ vs:List zx,vs.length=n->(∀ (j:Nat) (v:zx),vs[j]?=some v->P j v)->IntsAre vs ns)
 (h:∀ (h':Heap) (tk:Nat) (a:Addr) (k:Nat) (out:Array zx) (cA:List Int),(∀ b o,s.heap.get? b=some o->h'.get? b=some o /\ b≠a)->h'.get? a=some (seqObj "list" out k)->IntsAre out.toList cA->cA.Perm ns->cA.Pairwise (·<=·)->Q (.ref a) { s with heap:=h',toks:=tk }) :
 wpAny zk A (call (.builtin "sorted") [.ref r]) Q E s:=by
 refine Hn E9 Ha Hb (Hc _) ?_;unfold Builtin.«sorted»;refine ae (m:=checkCount "sorted" 1 1 _) (ak ?_);have h6:n<=sizeLine:=bU (eV bY) zf;refine ae (kdu_collect (A:=A.in1) K hh ai h6 λh1 tk acc hk Er=>?_);have hl:acc.toList.length=n:=by rw[Ht];exact Er.1
 refine ae (wz ?_ (by rw[hl];exact h6));have qt:(h1.push (seqObj "list" acc.toList.toArray 0)).get? h1.objs.size=some (seqObj "list" acc.toList.toArray 0):=cg _ zw;show wpAny _ _ _ _ _ { s with heap:=h1.push (seqObj "list" acc.toList.toArray 0),toks:=tk };refine ae (kX (pI He #[_,qt,rfl] Hf (YE qt (hI _ hl λj v e=>Er.2 j v (by rw[<-Hu];exact e)) (by rw[hl];exact bY) λout cA a1 a2 a3=>#[_,rfl,ak #[_,rfl,?_]]) (Hg _)));let#[e,he]:=YI (out:=out) qt;refine h _ tk _ e out cA (λb o q=>?_) he a1 a2 a3;have lt:=a8 (hk b o q);have ne:b≠h1.objs.size:=cH lt;exact#[(QB ne (by rw[Hd];exact yh lt)).trans (aT _ (hk b o q)),ne]
theorem G8 {d r:Addr}{kvs:List (L2.Key×zx)}{ep:Nat}(key:L2.Key×zx->List Int) (hh:A.handled=zp) (hv:s.heap.IsItemsView r d) (hm:s.heap.DictAt (L2.cw prog w) d kvs ep) (bY:kvs.length<64)
 (hI:∀ q∈kvs,∀ v,(L2.cw prog w).is q.1 v=zu->IntsAre [v,q.2] (key q))
 (h:∀ (h':Heap) (tk:Nat) (a:Addr) (k:Nat) (qs:List (Addr×List Int)),(∀ b o,s.heap.get? b=some o->h'.get? b=some o /\ b≠a /\ b∉qs.map (·.1))->a∉qs.map (·.1)->(qs.map (·.1)).Nodup->h'.get? a=some (seqObj "list" (qs.map λq=>Value.ref q.1).toArray k) ->
  (∀ q∈qs,∃ vs,IsTup h' q.1 vs.toArray /\ IntsAre vs q.2)->(qs.map (·.2)).Perm (kvs.map key)->qs.Pairwise (λa b=>lexLt b.2 a.2=zc)->Q (.ref a) { s with heap:=h',toks:=tk }) :
 wpAny zk A (call (.builtin "sorted") [.ref r]) Q E s:=by
 refine Hn E9 Ha Hb (Hc _) ?_;unfold Builtin.«sorted»;refine ae (m:=checkCount "sorted" 1 1 _) (ak ?_);have h6:kvs.length<=sizeLine:=bU (eV bY) zf;refine ae (kdx_collect (A:=A.in1) (knd:=L2.cw prog w) (kvs:=kvs) (ep:=ep) hh hv hm h6 λh1 tk as hk hl G=>?_);refine ae (wz ?_ (by rw[aY,hl];exact h6));generalize Wn:h1.push (seqObj "list" (as.map Value.ref).toArray 0)=h2;have qt:h2.get? h1.objs.size=some (seqObj "list" (as.map Value.ref).toArray 0):=by rw[<-Wn];exact cg _ zw
 have aaV:∀ b o,h1.get? b=some o->h2.get? b=some o:=λb o q=>by rw[<-Wn];exact aT _ q
 show wpAny _ _ _ _ _ { s with heap:=h2,toks:=tk };have aga:∃ ps:List (Addr×List Int),ps.map (·.1)=as /\ ps.map (·.2)=kvs.map key /\ ∀ p∈ps,cE h2 (.ref p.1) p.2:=by
  refine#[as.zip (kvs.map key),by rw[List.map_fst_zip];rw[aY];lia,by rw[Qg];rw[aY];lia,λp m=>?_];let#[j,hj]:=List.mem_iff_getElem?.mp m;let#[e1,e2]:=List.getElem?_zip_eq_some.mp hj;rw[nU]at e2;let#[q,e3,e4]:=Option.map_eq_some_iff.mp e2;let#[v,k,x,g1,g2,g3]:=G.pairs j p.1 e1;rw[e3]at g1;cases g1;have:=hI _ (vc e3) v g2;refine#[p.1,[v,x],rfl,#[_,aaV _ _ g3,rfl,0,rfl],e4▸this,?_];rw[<-e4];intro z;rw[z]at this;cases this
 let#[ps,p1,p2,p3]:=aga;have HH:∀ v∈as.map Value.ref,∃ ns,cE h2 v ns:=λv m=>by
  let#[a,ma,rfl]:=bJ.mp m;rw[<-p1]at ma;let#[q,mq,rfl]:=bJ.mp ma;exact#[_,p3 q mq]
 refine ae (kX (pI He #[_,qt,rfl] Hf (FJ tupP (s:={ s with heap:=h2,toks:=tk }) qt HH (U:=A.units+8) (show A.units+1+1<=A.units+8 by lia) (λne=>Bm (s:={ s with heap:=h2,toks:=tk }) HH ne) (by rw[aY,hl];exact bY) λout o1 o2=>#[_,rfl,ak #[_,rfl,?_]]) (Hg _)));let#[e,he]:=YI (out:=out) qt;have pm:out.toList.Perm (ps.map λq=>Value.ref q.1):=by
  rw[show (ps.map λq=>Value.ref q.1)=as.map Value.ref by rw[<-p1,bw];rfl];exact o1
 let#[qs,q1,q2]:=L2.DL.IH pm zw;have aaW:h2.objs.size=h1.objs.size+1:=by rw[<-Wn,Hd]
 have old:∀ b o,h1.get? b=some o->(sortedHeap h2 h1.objs.size (as.map Value.ref) out).get? b=some o:=λb o q=>by
  have lt:=a8 q;exact(QB (cH lt) (by rw[aaW];exact yh lt)).trans (aaV b o q)
 have mem:∀ a,a∈qs.map (·.1) ↔ a∈as:=λa=>by rw[<-p1];exact(q2.map (·.1)).mem_iff
 refine h _ tk _ e qs (λb o q=>#[old b o (hk b o q),cH (a8 (hk b o q)),λz=>?_]) (λz=>?_) ?_ ?_ (λq m=>?_) ?_ ?_
 .have:=G.above b ((mem b).mp z);exact absurd (a8 q) (Nat.not_lt.mpr (eV this))
 .exact absurd (G.there ((mem _).mp z)) (eU _)
 .have nd:as.Nodup:=G.rise.imp λr=>cH r;rw[(q2.map (·.1)).nodup_iff,p1];exact nd
 .rw[he];have:out=(qs.map λq=>Value.ref q.1).toArray:=by apply Array.toList_inj.mp;rw[q1]
  rw[<-this]
 .let#[b,vs,eb,#[o,t1,t2],t3,_]:=p3 q (q2.mem_iff.mp m);cases eb;refine#[vs,#[o,?_,t2],t3];have ma:=(mem q.1).mp (uh m);have lt:=G.there ma;exact(QB (cH lt) (by rw[aaW];exact yh lt)).trans t1
 .rw[<-p2];exact q2.map _
 .unfold tM at o2;rw[q1,nW]at o2;exact QP (λ{a b} ma mb r=>r _ _ (p3 a (q2.mem_iff.mp ma)) (p3 b (q2.mem_iff.mp mb))) o2
end HT
namespace L2
open PySem.W
def pD (H:Hp):List (Addr×HO)->Hp
 |[]=>H
 |q::l=>upd (pD H l) q.1 q.2
theorem oV {b:Addr}:∀ {l:List (Addr×HO)},b∉l.map (·.1)->pD H l b=H b:=by
 intro l_;induction l_ with
 |nil=>exact λ_=>rfl
 |cons q l ao=>
   intro h;rw[az,bA,not_or]at h;show upd (pD H l) q.1 q.2 b=_;rw[fw h.1,ao h.2]
theorem Oy {b:Addr}{u:HO}:∀ {l:List (Addr×HO)},pD H l b=some u->(b,u)∈l \/ H b=some u:=by
 intro l_;induction l_ with
 |nil=>exact λh=>.inr h
 |cons q l ao=>
   intro h;by_cases e:b=q.1
   .subst e;rw[show pD H (q::l)=upd (pD H l) q.1 q.2 from rfl,fv]at h;cases h;exact .inl (bF ..)
   .rw[show pD H (q::l)=upd (pD H l) q.1 q.2 from rfl,fw e]at h;exact(ao h).imp (bD _) id
theorem a9.any {h:Heap}(x:a9 P w H h a o):∃ u,h.get? a=some u:=by
 cases o with
 |lst xs=>let#[_,_,_,_,e]:=x;exact#[_,e]
 |tup xs=>let#[_,_,_,o,e,_]:=x;exact#[_,e]
 |dK kvs=>let#[_,_,_,_,o,_,_,e,_]:=x;exact#[_,e]
 |dT kvs=>let#[_,_,_,_,o,_,_,e,_]:=x;exact#[_,e]
 |set S n=>let#[o,_,_,_,e,_]:=x;exact#[_,e]
 |ins C dx fs=>let#[_,_,_,e,_]:=x;exact#[_,e]
 |own y=>exact x
 |xd fs=>let#[_,#[_,_,_,e,_],_]:=x;exact#[_,e]
 |wO lo hi=>let#[_,_,_,e]:=x;exact#[_,e]
 |bh ob u=>let#[e,_]:=x;exact#[_,e]
 |qL ps=>exact#[_,(show h.get? a=some _ from x)]
 |met f y=>exact#[_,(show h.get? a=some _ from x)]
 |ext φ=>let#[_,#[_,e],_]:=x;exact#[_,e]
theorem Inv.aaX {l:List (Addr×HO)}(I:Inv X pins σ H s) (k:∀ b u,s.heap.get? b=some u->h'.get? b=some u /\ b∉l.map (·.1)) (new:∀ q∈l,a9 X.prog X.w (pD H l) h' q.1 q.2) :
 Inv X pins σ (pD H l) { s with heap:=h',toks:=t' }:=by
 have old:∀ b u,H b=some u->pD H l b=some u:=λb u e=>by
  let#[ob,eb]:=(I.ai b u e).any;rw[oV (k b ob eb).2];exact e
 refine I.un #[λb u q _ _ _=>(k b u q).1,λb u q _ _ _=>#[u.slots,(k b u q).1],λb u q n _=>(oV (k b u q).2).trans n,λb u q _=>#[u,(k b u q).1],λb xs q=>old _ _ q,λb u xs q=>old _ _ q,λb ps q=>#[#[],by rw[old _ _ q];simp]] λb u e=>?_;rcases Oy e with m|m
 .exact new _ m
 .exact(I.ai b u m).eG (λc v _ q=>(k c v q).1) (λc q=>old _ _ q) λc xs q=>old _ _ q
section
variable {o:Expr} {p b9:Pos} {td:TE}
def agb (td:TE):TE:=λσ H Q=>td σ H λx H1=>∃ a kvs ns,x=.ref a /\ Rd H1 a zal /\ kvs.map (·.1)=ns.map Sum.inl /\ ns.length<64 /\ ∀ l,H1 l=zp->Q (.ref l) (upd H1 l (.lst ((DL.sortI ns).map V.int)))
theorem LO {kvs:List (Key×V)}{vs:List (Key×zx)}(r:KV kvs vs):vs.map (·.1)=kvs.map (·.1):=by
 induction r with
 |nil=>rfl
 |cons h t ih=>rw[az,az,ih,h.1]
theorem G9 {kvs:List (Key×zx)}:∀ {ns:List Int}{vs:List zx},kvs.map (·.1)=ns.map Sum.inl->vs.length=kvs.length->(∀ (j:Nat) (v:zx),vs[j]?=some v->∃ k x,kvs[j]?=some (k,x) /\ (cw P w).is k v=zu)->IntsAre vs ns:=by
 induction kvs with
 |nil=>
   intro ns vs e l h;cases ns with
   |nil=>cases vs with|nil=>exact .nil|cons _ _=>cases l
   |cons _ _=>cases e
 |cons q kvs ih=>
   intro ns vs e l h;cases ns with
   |nil=>cases e
   |cons n ns=>
     cases vs with
     |nil=>cases l
     |cons v vs=>
       rw[az,az]at e;injection e with e1 e2;let#[k,x,h1,h2]:=h 0 v zw;obtain rfl:q=(k,x):=Option.some.inj h1;rcases fX h2 with⟨i,t,rfl,rfl⟩|⟨y,t,rfl,rfl⟩
       .cases (show (Sum.inl i:Key)=Sum.inl n from e1);exact .cons _ _ (ih e2 (by simpa using l) λj v q=>h (j+1) v q)
       .cases (show (Sum.inr y:Key)=Sum.inl n from e1)
theorem LP (hc:X.calm=zu) (hg:Gl X "sorted") (hm:X.mg "sorted"=zp) (ho:PE X o td) (hs:DL.br o=zu):PE X (.Call (.Name "sorted" p) [o] [] pos) (agb td):=by
 intro pins s σ H Q I h;have st:=DL.fF hs [] X.env;refine sv (jj I hg hm YJ ?_ zf zf);refine callWith_builtin1 ?_ st (DL.js (es:=[]) zw);rw[st];show wpAny _ _ (spliced ((zc,eval o X.env)::backTo pos (starEach [] X.env))) _ _ s;refine vk (tE (ho pins s σ H _ I h) λu s1 x H1 I1 rx hh=>?_);let#[a,kvs,ns,ex,ea,ek,bY,q1]:=hh;subst ex;obtain rfl:u=Value.ref a:=rx;let#[zl,hd,vs,rel,dd]:=lT I1.ai ea;let#[ep,dat]:=dd.dictAt;have lv:vs.length=ns.length:=by
  have:=congrArg List.length ((LO rel).trans ek);simpa using this
 refine vj (HT.G7 (kdl_dict (knd:=cw X.prog X.w) (kvs:=vs) (ep:=ep) hd) (I1.ok.hd hc) dat zd (λus l f=>G9 ((LO rel).trans ek) l f) λh' tk l k out cA ok hl a1 a2 a3=>?_);have e:cA=DL.sortI ns:=DL.oD (a2.trans (DL.gw ns).symm) a3 (DL.iL ns);subst e;have fr:H1 l=zp:=by
  cases q:H1 l with
  |none=>rfl
  |some w=>let#[ob,eb]:=(I1.ai l w q).any;exact absurd zw (ok l ob eb).2
 have I3:=I1.aaX (h':=h') (t':=tk) (l:=[(l,.lst ((DL.sortI ns).map V.int))]) (λb u e=>#[(ok b u e).1,by simpa using (ok b u e).2]) (λq m=>by
  rw[qo.mp m];refine#[?_,out.toList,k,DL.mY a1,hl];rw[aY,(DL.gw ns).length_eq];exact bU (eV bY) zf)
 exact#[.ref l,_,I3,rfl,q1 _ fr]
def agc (td:TE):TE:=λσ H Q=>td σ H λx H1=>∃ (a:Addr) (ps:List (Int×Int)),x=.ref a /\ Rd H1 a (.dK (ps.map λp=>(Sum.inl p.1,V.int p.2))) /\ ps.length<64 /\ ∀ (bs:List (Addr×List Int)) (l:Addr),(∀ b∈bs,H1 b.1=zp)->H1 l=zp->l∉bs.map (·.1)->(bs.map (·.1)).Nodup->bs.map (·.2)=DL.nP (ps.map λp=>[p.1,p.2]) ->
 Q (.ref l) (upd (pD H1 (bs.map λb=>(b.1,.tup (b.2.map V.int)))) l (.lst (bs.map λb=>V.ref b.1)))
noncomputable def Wo:Key×zx->List Int
 |(.inl i,.int j _)=>[i,j]
 |_=>[]
theorem Oz:∀ {ps:List (Int×Int)}{vs:List (Key×zx)},KV (ps.map λp=>(Sum.inl p.1,V.int p.2)) vs->vs.map Wo=(ps.map λp=>[p.1,p.2]) /\ ∀ q∈vs,∃ i j t,q=(Sum.inl i,.int j t):=by
 intro l_;induction l_ with
 |nil=>(intro vs h;cases h;exact#[rfl,λ_ m=>nomatch m])
 |cons p ps ao=>
   intro _ h;cases h with
   |@cons _ q _ vs h t=>
     let#[a,b]:=ao t;let#[k,x]:=q;let#[h1,t',h2]:=h;cases h1;cases h2;refine#[by rw[az,az,a];rfl,λq m=>?_];rcases bA.mp m with rfl|m
     .exact#[_,_,_,rfl]
     .exact b q m
theorem Ax:∀ {us:List zx}{ns:List Int},IntsAre us ns->Vals (ns.map V.int) us
 |_,_,.nil=>.nil
 |_,_,.cons n t h=>.cons #[t,rfl] (Ax h)
theorem Ja (hc:X.calm=zu) (hg:Gl X "sorted") (hm:X.mg "sorted"=zp) (ho:PE X o td) (hb:attributeBase o "items" X.env (eval o X.env)=eval o X.env) (hl:(apos.endLine==b9.line)=zu) :
 PE X (.Call (.Name "sorted" p) [.Call (.Attribute o "items" apos) [] [] b9] [] pos) (agc td):=by
 intro pins s σ H Q I h;have st:=DL.fF (e:=.Call (.Attribute o "items" apos) [] [] b9) zw [] X.env;refine sv (jj I hg hm YJ ?_ zf zf);refine callWith_builtin1 ?_ st (DL.js (es:=[]) zw);rw[st];show wpAny _ _ (spliced ((zc,eval (.Call (.Attribute o "items" apos) [] [] b9) X.env)::backTo pos (starEach [] X.env))) _ _ s;refine vk (KU hb zw hl QK Y9 PySem.F.type_dict_items (tE (ho pins s σ H _ I h) λu s1 x H1 I1 rx hh=>?_));let#[a,ps,ex,ea,bY,q1]:=hh;subst ex;obtain rfl:u=Value.ref a:=rx;let#[t1,t2,_]:=DH I1 (.inl #[_,ea]);refine#[t1,t2,Hl zw (acB ?_)];let#[zl,hd,vs,rel,dd]:=lT I1.ai ea;let#[ep,dat]:=dd.dictAt;let#[k1,k2]:=Oz rel;refine yc Y9 dd.typeIs PySem.F.entry_dict_items (PySem.F.args_dict_items_1 _) (meets_dict_items (cw X.prog X.w) a hd) #[#[vs,dd],?_];have up:∀ b o,s1.heap.get? b=some o->(s1.heap.push { cls:=.type "dict_items",data:=.fields (List.toArray [.ref a]) }).get? b=some o:=λb o e=>aT _ e;have I2:Inv X pins σ H1 { s1 with heap:=s1.heap.push { cls:=.type "dict_items",data:=.fields (List.toArray [.ref a]) } }:=I1.kept (t':=s1.toks) up;have lv:vs.length=ps.length:=by
  have:=congrArg List.length k1;simpa using this
 refine vj (HT.G8 Wo (I1.ok.hd hc) #[_,cg _ zw,rfl,rfl] (dat.push _) zd (λq m v hv=>?_) λh' tk l k qs ok nl nd hL tp pm ord=>?_)
 .let#[i,j,t,rfl]:=k2 q m;rcases fX (k:=Sum.inl i) (v:=v) hv with⟨i',t',e1,rfl⟩|⟨y,t',e1,rfl⟩
  .cases (show (Sum.inl i:Key)=Sum.inl i' from e1);exact .cons _ _ (.cons _ _ .nil)
  .cases (show (Sum.inl i:Key)=Sum.inr y from e1)
 .have fr:∀ b,(b=l \/ b∈qs.map (·.1))->H1 b=zp:=λb z=>by
   cases q:H1 b with
   |none=>rfl
   |some w=>
     let#[ob,eb]:=(I2.ai b w q).any;let#[_,o1,o2]:=ok b ob eb;exact z.elim (λz=>absurd z o1) λz=>absurd z o2
  have so:qs.map (·.2)=DL.nP (ps.map λp=>[p.1,p.2]):=by
   refine DL.lZ ((k1▸pm).trans (DL.jC _).symm) ?_ (DL.iM _);rw[nW];exact ord
  have aiI:qs.length<64:=by
   have:=pm.length_eq;erw[aY]at this;lia
  have aiJ:(64:Nat)<=sizeLine:=by decide
  have I3:=I2.aaX (h':=h') (t':=tk) (l:=(l,.lst (qs.map λb=>V.ref b.1))::qs.map λb=>(b.1,HO.tup (b.2.map V.int))) (λb u e=>by
   let#[o0,o1,o2]:=ok b u e;refine#[o0,?_];rw[az,bA,bw];exact λz=>z.elim o1 o2) (λq m=>by
   rcases bA.mp m with rfl|m
   .refine#[by rw[aY];lia,_,k,?_,hL];have:∀ l:List (Addr×List Int),Vals (l.map λp=>V.ref p.1) (l.map λp=>Value.ref p.1):=λl=>by
     induction l with
     |nil=>exact .nil
     |cons a l ih=>exact .cons zw ih
    exact this qs
   .let#[q,mq,rfl]:=bJ.mp m;let#[us,tu,iu]:=tp q mq;refine#[?_,us,Ax iu,tu];have m2:q.2∈vs.map Wo:=pm.mem_iff.mp (uh mq);let#[q',m3,e3]:=bJ.mp m2;let#[i,j,t,rfl]:=k2 q' m3;rw[<-e3];show (2:Nat)<=sizeLine;lia)
  exact#[.ref l,_,I3,rfl,q1 qs l (λb m=>fr b.1 (.inr (uh m))) (fr l (.inl zw)) nl nd so]
end
end L2
namespace L2.DL
open PySem.W
section
variable {o:Expr} {p b9:Pos} {mc:DE W}
noncomputable def v8:List (Key×D)->Option (List Int)
 |[]=>some []
 |(.inl k,_)::l=>(v8 l).map (k::·)
 |(.inr _,_)::_=>zp
noncomputable def wa:List (Key×D)->Option (List (Int×Int))
 |[]=>some []
 |(.inl k,.int v)::l=>(wa l).map ((k,v)::·)
 |_::_=>zp
theorem CN:∀ {l:List (Key×D)}{kvs:List (Key×V)}{ns:List Int},aC F l kvs->v8 l=some ns->kvs.map (·.1)=ns.map Sum.inl
 | [],_,_,h,e=>by
   cases (show _=[] from h);cases e;rfl
 | (.inl k,d)::l,_,_,h,e=>by
   let#[v,t,rfl,_,h2]:=h;let#[ns,e1,rfl]:=Option.map_eq_some_iff.mp (show (v8 l).map (k::·)=some _ from e);rw[az,az,CN h2 e1]
 |(.inr k,d)::l,_,_,_,e=>by cases e
theorem CO:∀ {l:List (Key×D)}{kvs:List (Key×V)}{ps:List (Int×Int)},aC F l kvs->wa l=some ps->kvs=ps.map λp=>(Sum.inl p.1,V.int p.2)
 | [],_,_,h,e=>by
   cases (show _=[] from h);cases e;rfl
 | (.inl k,.int v)::l,_,_,h,e=>by
   let#[u,t,rfl,h1,h2]:=h;let#[ns,e1,rfl]:=Option.map_eq_some_iff.mp (show (wa l).map ((k,v)::·)=some _ from e);cases (show u=V.int v from h1);rw[az,CO h2 e1]
 |(.inr _,_)::_,_,_,_,e=>by cases e
 |(.inl _,.non)::_,_,_,_,e=>by cases e
 |(.inl _,.bl _)::_,_,_,_,e=>by cases e
 |(.inl _,.str _)::_,_,_,_,e=>by cases e
 |(.inl _,.tup _)::_,_,_,_,e=>by cases e
 |(.inl _,.lst _)::_,_,_,_,e=>by cases e
 |(.inl _,.af _)::_,_,_,_,e=>by cases e
def xF (bo:Bool) (m:DE W):DE W:=λenv bx=>fC zL λx bx1=>match (nR bx1 x).bind v8 with
 |some ns=>if ns.length<64 then bX bo (some (.lst ((sortI ns).map D.int))) bx1 else .bad
 |none=>.bad
theorem LQ (bo:Bool) (hc:X.calm=zu) (hg:Gl X "sorted") (hm:X.mg "sorted"=zp) (ho:PD X T Z o ma) (hs:br o=zu):PD X T Z (.Call (.Name "sorted" p) [o] [] pos) (xF bo ma):=by
 refine PE.imp (LP hc hg hm ho hs) λσ H Q=>x4 λF r env bx R h=>#[F,r,env,bx,R,End.bind h λx bx1 F1 r1 v H1 g1 R1 d1 h1=>?_];split at h1
 .ext ns q;split at h1
  .ext bY;let#[l,q1,q2]:=Option.bind_eq_some_iff.mp q;let#[a,kvs,rfl,k1,k2]:=oh R1 d1 q1;exact#[a,kvs,ns,rfl,k1,CN k2 q2,bY,λl hl=>gX R1 h1 #[l,_,rfl,hl,rfl,jW _]]
  .exact h1.elim
 .exact h1.elim
theorem Rel.agd:∀ {bs:List (Addr×List Int)}{F:Hp},Rel T F r σ H env bx->(∀ b∈bs,H b.1=zp)->(bs.map (·.1)).Nodup->∃ F',aU F r F' r /\ Rel T F' r σ (pD H (bs.map λb=>(b.1,.tup (b.2.map V.int)))) env bx /\ aw F' (rl (bs.map (·.2))) (bs.map λb=>V.ref b.1):=by
 intro l_;induction l_ with
 |nil=>(intro F R _ _;exact#[F,.refl F r,R,rfl])
 |cons b bs ao=>
   intro F R h nd;rw[az,rL]at nd;let#[F1,g1,R1,d1]:=ao R (λc m=>h c (bD _ m)) nd.2;have hn:pD H (bs.map λb=>(b.1,HO.tup (b.2.map V.int))) b.1=zp:=by
    rw[oV (by rw[bw];exact nd.1)];exact h b (bF ..)
   have g2:=R1.tj (o:=.tup (b.2.map V.int)) hn;exact#[_,g1.trans g2,R1.xj hn,.cons #[b.1,_,rfl,fv,jW _] (aw.mono g2.s _ d1)]
def IQ (bo:Bool) (m:DE W):DE W:=λenv bx=>fC zL λx bx1=>match (nR bx1 x).bind wa with
 |some ps=>if ps.length<64 then bX bo (some (.lst (rl (nP (ps.map λp=>[p.1,p.2]))))) bx1 else .bad
 |none=>.bad
theorem Jb (bo:Bool) (hc:X.calm=zu) (hg:Gl X "sorted") (hm:X.mg "sorted"=zp) (ho:PD X T Z o ma) (hb:attributeBase o "items" X.env (eval o X.env)=eval o X.env) (hl:(apos.endLine==b9.line)=zu) :
 PD X T Z (.Call (.Name "sorted" p) [.Call (.Attribute o "items" apos) [] [] b9] [] pos) (IQ bo ma):=by
 refine PE.imp (Ja hc hg hm ho hb hl) λσ H Q=>x4 λF r env bx R h=>#[F,r,env,bx,R,End.bind h λx bx1 F1 r1 v H1 g1 R1 d1 h1=>?_];split at h1
 .ext ps q;split at h1
  .ext bY;let#[l,q1,q2]:=Option.bind_eq_some_iff.mp q;let#[a,kvs,rfl,k1,k2]:=oh R1 d1 q1;rw[CO k2 q2]at k1;refine#[a,ps,rfl,k1,bY,λbs l hb hl nl nd so=>?_];let#[F2,g2,R2,d2]:=Rel.agd R1 hb nd;rw[so]at d2;refine gX R2 (End.weak g2 h1) #[l,_,rfl,?_,rfl,d2];rw[oV (by rw[bw];exact nl)];exact hl
  .exact h1.elim
 .exact h1.elim
end
noncomputable def forL (k:Nat) (g:DG) (body:aj):Nat->Nat->aj
 |0,_,_,_=>.bad
 | f+1,i,env,bx=>match bx[k]? with
   | some (.lst l)=>(match l[i]? with
     |none=>.nx env bx
     | some x=>match g (.d x) env bx with
       |none=>.bad
       | some (aK,bx1)=>match body aK bx1 with
         |.nx a7 ah=>forL k g body f (i+1) a7 ah
         |.ct a7 ah=>forL k g body f (i+1) a7 ah
         |.bk a7 ah=>.nx a7 ah
         |o=>o)
   |_=>.bad
def tY (m:DE W) (g:DG) (body:aj):aj:=λenv bx=>bp zL λw bx1=>match w with
 |.b k=>forL k g body (Wi bx1 k+1) 0 env bx1
 |_=>.bad
section
variable {body:List Stmt} {mi:DE W} {g:DG} {m:aj}
theorem SF {D:Ends}(h:tS T Z (tY mi g m) D σ H):HJ (Zx K (tD T Z mi)) (tG T g) (tS T Z m) D σ H:=by
 let#[F,r,env,bx,R,h]:=h;refine#[F,r,env,bx,R,End.bp h λw bx1 F1 r1 v H1 g1 R1 d1 h1=>?_];split at h1
 case h_2=>exact h1.elim
 ext k;let#[a,rfl,ha]:=d1;have at_:∀ {F':Hp}{r':List Addr}{σ':St}{H':Hp}{ax:aN}{bx':List Bx}{T':Fr}{l:List L2.DL.D},aU F1 r1 F' r'->Rel T' F' r' σ' H' ax bx'->bx'[k]?=some (.lst l)->∃ vs,H' a=some (.lst vs) /\ aw F' l vs:=λ{F' r' σ' H' ax bx' T' l} g' R' e=>by
  let#[t,et]:=g'.p;have nv:r'[k]?=some a:=by rw[<-et,dJ (List.getElem?_eq_some_iff.mp ha).1];exact ha
  let#[_,vs,k1,k2]:=R'.box k _ a e nv;exact#[vs,k1,k2]
 have q0:∃ xs,bO K H1 a xs:=by
  unfold forL at h1;split at h1
  .ext l e;let#[vs,k1,_]:=at_ zat R1 e;exact#[vs,.of k1]
  .exact h1.elim
 refine#[a,rfl,q0,λi n σ' H'=>∃ F' r' ax bx',aU F1 r1 F' r' /\ Rel T F' r' σ' H' ax bx' /\ cJ T Z F' r' D (forL k g m n i ax bx'),#[_,F1,r1,env,bx1,.refl F1 r1,R1,h1],?_];rintro i n σ' H' ⟨F',r',ax,bx',g',R',h'⟩;cases n with
 |zero=>exact h'.elim
 |succ n=>
 unfold forL at h';split at h'
 case h_2=>exact h'.elim
 ext l el;let#[ws,k1,k2]:=at_ g' R' el;split at h'
 .ext ei;exact .inl #[#[ws,.of k1,by rw[<-k2.length];exact List.getElem?_eq_none_iff.mp ei],h' F' r' σ' H' (.refl F' r') R']
 .ext x ei;let#[u,e2,du]:=k2.get ei;refine .inr #[#[ws,u,.of k1,e2],λσ2 H2=>∃ F2 r2 a7 ah,aU F1 r1 F2 r2 /\ Rel T F2 r2 σ2 H2 a7 ah /\ cJ T Z F2 r2 D (forL k g m n (i+1) a7 ah),λσ2 H2 ⟨F2,r2,a7,ah,g2,R2,h2⟩=>#[n,sy _,F2,r2,a7,ah,g2,R2,h2],λy H2 hy=>?_];let#[rfl,hy]:=hy;have e4:ws[i]?=some y:=hy ws (.of k1);rw[e2]at e4;cases e4;refine#[F',r',ax,bx',.d x,R',du,?_];cases eg:g (.d x) ax bx' with
  |none=>erw[eg]at h';exact h'.elim
  |some o=>
    let#[qz,bH]:=o;erw[eg]at h';intro F3 r3 σ3 H3 g3 R3;refine#[F3,r3,qz,bH,R3,?_];have gg:=g'.trans g3;cases em:m qz bH with
    |nx tH cy=>erw[em]at h';exact λF4 r4 σ4 H4 g4 R4=>#[F4,r4,tH,cy,gg.trans g4,R4,cJ.weak (g3.trans g4) h']
    |ct tH cy=>erw[em]at h';exact λF4 r4 σ4 H4 g4 R4=>#[F4,r4,tH,cy,gg.trans g4,R4,cJ.weak (g3.trans g4) h']
    |bk tH cy=>erw[em]at h';exact λF4 r4 σ4 H4 g4 R4=>h' F4 r4 σ4 H4 (g3.trans g4) R4
    |rt w cy=>erw[em]at h';exact cJ.weak g3 (o:=.rt w cy) h'
    |exc c cy=>erw[em]at h';exact cJ.weak g3 (o:=.exc c cy) h'
    |bad=>erw[em]at h';exact h'
theorem LR (hp:PassesOwn zh X.A X.env X.xe) (hc:X.calm=zu) (hi:PD X T Z iter mi) (hg:kP X T tg g) (hb:nI X T Z body m)
 (hs:∀ x,foldedSetIterable iter X.env x=pure x:=by intro _;rfl):cL X T Z (.For tg iter body [] pos) (tY mi g m):=
 PS.imp (Dt hp hc (M9 hi) hg hb hs) λD σ H h=>SF h
end
end L2.DL
namespace K1
open L2 L2.DL
def Ay:aj:=(fN (ia (jP "int" (dV 0)) (Ii (jP "bool" (dV 0)))))
def jb:List W->List Bx->O W:=aR 1 (aZ Ay)
def oH:aj:=(fN (ia (fu K1.jb 1 (fc (dV 0) fg)) (d3 pz pz (dV 1) (dV 0) (dV 2))))
def f9:List W->List Bx->O W:=aR 3 (aZ oH)
def Az:aj:=(fN (ia (jP "tuple" (dV 0)) (d3 pz pz (dV 1) (dN zc bM (fc (dV 0) fg)) (dV 2))))
def gp:List W->List Bx->O W:=aR 3 (aZ Az)
def oI:aj:=(fN (dN zc dh (fc (fY zc [zp,some 0] (vK (fc zj (fc (dN zc bM (fc (dV 0) fg)) fg))) (fe 0) f7 (d2 zc eQ (d2 zc ag (dV 1) (d2 zc cD (dV 0) zj)) (d2 zc ag (dV 1) (dV 0)))) fg)))
def ic:List W->List Bx->O W:=aR 1 (aZ oI)
def jc:aj:=(fN (ia (fu K1.gp 3 (fc (dV 0) (fc zj (fc (dC (.int 5)) fg)))) (dN zc dh (fc (fY zc [zp] (bB (dV 0)) (fe 0) f7 (fu K1.f9 3 (fc (dV 0) (fc zm (fc zE fg))))) fg))))
def iN:List W->List Bx->O W:=aR 1 (aZ jc)
def jd:aj:=(fB (aF (kO (eN (dB (fu K1.gp 3 (fc (dV 0) (fc (d2 zc fQ zE zj) (fc (d2 zc fQ zE zj) fg)))))) (eN (dB (dN zc dh (fc (fY zc [zp] (bB (dV 0)) (fe 0) f7 (fu K1.f9 3 (fc (dV 0) (fc zm (fc (dC (.int 9)) fg))))) fg))))) (fN (dC (.bl zc))) aS) (fN (dN zc dh (fc (fY zc [zp,zp] (uM (fc (dV 0) (fc (pY zc (dV 0) (pX zj) pW) fg))) (gn 2 (fE (fe 0) (fE (fe 1) gz))) f7 (d2 zc pz (dV 1) (dV 0))) fg))))
def jF:List W->List Bx->O W:=aR 1 (aZ jd)
def lI:aj:=(fN (ia (fu K1.gp 3 (fc (dV 0) (fc zO (fc zO fg)))) (ia (fu K1.f9 3 (fc (d2 zc ag (dV 0) zm) (fc zj (fc (dC (.int 999)) fg)))) (fu K1.jF 1 (fc (d2 zc ag (dV 0) zj) fg)))))
def l8:List W->List Bx->O W:=aR 1 (aZ lI)
def jf:aj:=(fN (ia (fu K1.gp 3 (fc (dV 0) (fc zj zW))) (dN zc dh (fc (fY zc [zp] (bB (dV 0)) (fe 0) f7 (fu K1.l8 1 (fc (dV 0) fg))) fg))))
def iO:List W->List Bx->O W:=aR 1 (aZ jf)
def gY:aj:=(fB (aF (eN (dB (fu K1.gp 3 (fc (dV 0) (fc zO (fc zO fg)))))) (fN (dC (.bl zc))) aS) (fN (ia (dN zc dh (fc (fY zc [zp,some 1] (bB (dV 0)) (fe 0) f7 (fu K1.f9 3 (fc (dV 0) (fc zm (fc (d2 zc cD (dV 1) zj) fg))))) fg)) (d2 zc eQ (d2 zc ag (dV 0) zm) (d2 zc ag (dV 0) zj)))))
def gR:List W->List Bx->O W:=aR 2 (aZ gY)
def jg:aj:=(fB (aF (eN (dB (jP "tuple" (dV 0)))) (fN (dC (.bl zc))) aS) (fN (ia (dN zc dh (fc (fY zc [zp,some 1] (bB (dV 0)) (fe 0) f7 (fu K1.gR 2 (fc (dV 0) zam))) fg)) (fu K1.ic 1 (fc (dV 0) fg)))))
def gD:List W->List Bx->O W:=aR 2 (aZ jg)
def jG:aj:=(fB (aF (eN (dB (fu K1.gp 3 (fc (dV 0) (fc (dC (.int 4)) zW))))) (fN (dC (.bl zc))) aS) (fB (fH (dV 0) (gn 4 (fE (fe 1) (fE (fe 2) (fE (fe 3) (fE (fe 4) gz)))))) (fN (ia (fu K1.iN 1 zam) (ia (fu K1.iO 1 zai) (ia (fu K1.gD 2 (fc (dV 3) (fc (dN zc bM zai) fg))) (fu K1.f9 3 (fc (dV 4) (fc zj (fc (dC (.int 9)) fg))))))))))
def j5:List W->List Bx->O W:=aR 5 (aZ jG)
def jl:aj:=(fB (aF (dB (d2 zc eQ (dV 1) (rf (dV 0)))) (fN (Iv (dV 0) (dV 1))) aS) (fN zm))
def ie:List W->List Bx->O W:=aR 2 (aZ jl)
def jt:aj:=(fB (aF (dB (d2 zc vL (dV 0) (d2 zc dg (dC (.int 10)) (dC (.int 18))))) (fN (gx zu (fc (d2 zc cD (dV 0) (d2 zc dg (dC (.int 10)) (dC (.int 18)))) fg))) aS) (fB (fH zm (fe 1)) (fB (iG (cM (fc (dC (.int 64)) fg)) (fe 2) zJ) (fN (gx zu zam)))))
def jH:List W->List Bx->O W:=aR 4 (aZ jt)
def AA:aj:=(fB (fH (d2 zc pj (d2 zc ag (dV 0) zm) (dV 1)) (fe 2)) (fB (fH (d2 zc uF (d2 zc ag (dV 0) zm) (dV 1)) (Ea (dV 0) zm)) (fN (dV 2))))
def fj:List W->List Bx->O W:=aR 3 (aZ AA)
def lU:aj:=(fB (fH (d2 zc ag (gx zc (fc (dC (.int 9)) (fc zE (fc zj (fc (dC (.int 9)) fg))))) (fu K1.fj 2 zR)) (fe 1)) (fB (fH (Ip zc (dN zc cV (fc (fY zc [zp,some 0,some 1] (cM zW) (fe 0) f7 (fu K1.fj 2 (fc (dV 1) (fc (d2 zc fQ (dV 2) zj) fg)))) fg))) (fe 2)) (fN (fP (fc (d2 zc ag (gx zc (fc (dC (.int 30)) (fc (d2 zc fQ zj (fu K1.fj 2 (fc (dV 0) (fc (dC (.int 20)) fg)))) (fc (dC (.int 999)) (fc (dC (.int 8)) fg))))) (fu K1.fj 2 zR)) (fc (dN zc qA zai) fg))))))
def gM:List W->List Bx->O W:=aR 3 (aZ lU)
end K1
namespace K2
open L2 L2.DL
def Bq:aj:=(fB (fH (d2 zc ag (gx zc (fc zm (fc zm (fc (d2 zc dg (dC (.int 10)) (dC (.int 6))) (fc (d2 zc dg (dC (.int 10)) (dC (.int 39))) fg))))) (fu K1.fj 2 zR)) (fe 3)) (fB (fH (dN zc qA (fc (fY zc [zp,zp,some 3] (bB (dV 1)) (gn 2 (fE (fe 0) (fE (fe 1) gz))) f7 (fP (fc (d2 zc fQ (dV 0) (dV 2)) (fc (d2 zc fQ (dV 1) (dV 2)) fg)))) fg)) (fe 4)) (fN (fP (fc (dV 4) (fc (fY zc [zp,some 3] (bB (dV 2)) (fe 0) f7 (d2 zc fQ (fP (fc (d2 zc fQ (d2 zc ag (dV 0) zm) (dV 1)) fg)) (pY zc (dV 0) (pX zj) pW))) (fc (dV 3) fg)))))))
def iz:List W->List Bx->O W:=aR 5 (aZ Bq)
def BQ:aj:=(aF (eN (dB (fu K1.j5 1 (fc (dV 0) fg)))) (vS 0 (dC (.str "a house is a tuple (rooms, kinds, apart, hold)"))) aS)
def jm:List W->List Bx->O W:=aR 1 BQ
def oi:aj:=(fN (ia (fu K1.jb 1 (fc (dV 0) fg)) (d2 zc vL (dV 0) zm)))
def iT:List W->List Bx->O W:=aR 1 (aZ oi)
def CP:aj:=(aF (eN (dB (fu K2.iT 1 (fc (dV 0) fg)))) (vS 3 (dC (.str "an hour is a whole number from 0 on"))) aS)
def ig:List W->List Bx->O W:=aR 1 CP
end K2
namespace kD
open L2 L2.DL
end kD
namespace aB
open L2 L2.DL
def j6:aj:=(fB (fH (dN zc qA (fc (fY zc [zp,some 0] (cM (fc (d2 zc fQ zj (fu K1.fj 2 (fc (dV 0) (fc (dC (.int 5)) fg)))) fg)) (fe 0) f7 (fu K1.fj 2 (fc (dV 1) zW))) fg)) (fe 1)) (fB (fH (dN zc qA (fc (fY zc [zp,some 0] (cM (fc (d2 zc fQ zj (fu K1.fj 2 zR)) fg)) (fe 0) f7 (fu K1.gM 1 zam)) fg)) (fe 2)) (fB (fH (gx zc fg) (fe 3)) (fB (iG (cM (fc (dN zc bM zai) fg)) (fe 4) (fH (d2 zc fQ (dV 3) (fY zc [zp,some 0,some 4] (cM (fc (dV 4) fg)) (fe 0) (dB (d2 zc aJ (fu K1.fj 2 (fc (dV 1) (fc zE fg))) zm)) (fP (fc (dV 0) zai)))) (fe 3))) (fN (fP (fc (dV 1) (fc (dV 2) (fc (dN zc qA (fc (dN zc cV (fc (dV 3) fg)) fg)) (fc (d2 zc ag (gx zc (fc zj (fc zO (fc (dC (.int 9)) (fc (d2 zc fQ zj (fu K1.fj 2 (fc (dV 0) (fc (dC (.int 9)) fg)))) fg))))) (fu K1.fj 2 zR)) fg))))))))))
def iP:List W->List Bx->O W:=aR 5 (aZ j6)
def j7:aj:=(fB (fH (dN zu xn zam) (fe 2)) (fN (fY zc [zp,some 0,some 2] (bB (dV 1)) (fe 0) f7 (vU (dV 2) (fu K1.fj 2 (fc (dV 1) (fc (dN zc bM zai) fg)))))))
def jI:List W->List Bx->O W:=aR 3 (aZ j7)
def AB:aj:=(fB (dR 3 4 (fc (fu K1.fj 2 (fc (dV 0) zai)) (fc (fu K1.fj 2 (fc (dV 0) (fc (d2 zc ag (gx zc (fc zE (fc (dC (.int 10)) fg))) (fu K1.fj 2 (fc (dV 0) (fc zO fg)))) fg))) fg))) (fB (dR 5 6 (fc (fu K1.fj 2 (fc (dV 0) (fc (dN zc bM (fc (d2 zc ag (dV 1) zm) fg)) fg))) (fc (fu K1.fj 2 (fc (dV 0) (fc (dC (.int 5)) fg))) fg))) (fB (aF (dB (d2 zc aJ (dV 6) zm)) (fN (fP (fc (dV 3) (fc (dC (.str "out")) (fc (dV 4) fg))))) aS) (fB (aF (dB (d2 zc eQ (dV 6) zE)) (fN (fP (fc (dV 3) (fc (dC (.str "to")) (fc (dV 4) (fc (dV 5) fg)))))) aS) (fB (fH (d2 zc ag (gx zc (fc zm (fc (fu K1.fj 2 (fc (dV 0) (fc (dC (.int 9)) fg))) (fc (fu K1.fj 2 (fc (dV 0) (fc (dC (.int 40)) fg))) (fc (dC (.int 999)) fg))))) (fu K1.fj 2 zR)) (fe 7)) (fN (fP (fc (dV 3) (fc (dC (.str "in")) (fc (dV 4) (fc (fu K1.fj 2 (fc (dV 0) (fc (dN zc bM (fc (d2 zc ag (dV 1) zj) fg)) fg))) (fc (dV 5) (fc (dV 7) (fc (fu K1.fj 2 (fc (dV 0) (fc (dC (.int 100)) fg))) fg))))))))))))))
def g6:List W->List Bx->O W:=aR 8 (aZ AB)
def oJ:aj:=(fB (fH xy (fe 4)) (fB (iG (cM (fc (fu K1.fj 2 (fc (dV 0) (fc (d2 zc fQ (dV 2) zj) fg))) fg)) (fe 5) zU) (fN (fu aB.jI 2 (fc (dV 0) (fc (Es zc (dV 4)) fg))))))
def gF:List W->List Bx->O W:=aR 7 (aZ oJ)
def oK:aj:=(fB (fH (gx zu fg) (fe 3)) (fB (vY 1 (fe 4) zao) (fN (rZ 3))))
def gq:List W->List Bx->O W:=aR 6 (aZ oK)
def j8:aj:=(fB (fH (pY zc (dV 2) pW (pX zE)) (gn 3 (fE (fe 3) (fE (fe 4) (fE (fe 5) gz))))) (fB (fH (bN (dV 1) "there") (fe 6)) (fB (aF zag (fB (aF (dB (eP zc (dV 5) (bN (dV 1) "came"))) (fN (dC (.str "there"))) aS) (fB (aF (dB (d2 zc (inD zc) (d2 zc ag (dV 2) (dC (.int 4))) (fY zc [zp,zp] (bB (fu aB.gq 3 (fc (dV 0) (fc (dV 6) (fc (d2 zc ag (dV 2) zE) fg))))) (gn 2 (fE (fe 0) (fE (fe 1) gz))) f7 (dV 1)))) (fN (dC (.str "apart"))) aS) (fB (kS (bN (dV 1) "came") (dV 5) (dV 2)) (fB (kS (dV 6) (dV 5) (fP (fc (d2 zc ag (dV 2) zE) (fc (d2 zc ag (dV 2) (dC (.int 4))) fg)))) (fB (rq (bN (dV 1) "doors") (fP (fc (dV 3) (fc (d2 zc ag (dV 2) (dC (.int 4))) fg))) (dC (.bl zu))) (fN (dC (.str "takes")))))))) aS) (fB (aF (dB (eP zu (dV 5) (dV 6))) (fN (dC (.str "none"))) aS) (fB (fH (bQ (dV 6) (dV 5)) (gn 2 (fE (fe 7) (fE (fe 8) gz)))) (fB (aF (dB (d2 zc aJ (dV 4) (dC (.str "out")))) (fB (gT (xA (dV 6) (dV 5))) (kS (bN (dV 1) "gone") (dV 5) (dV 3))) (aF (dB (d2 zc aJ (dV 8) (d2 zc ag (dV 2) zE))) (fN (dC (.str "same"))) (aF (dB (d2 zc (inD zc) (d2 zc ag (dV 2) zE) (fY zc [zp,zp,some 5] (bB (fu aB.gq 3 (fc (dV 0) (fc (dV 6) (fc (dV 7) fg))))) (gn 2 (fE (fe 0) (fE (fe 1) gz))) (dB (d2 zc cP (dV 0) (dV 2))) (dV 1)))) (fN (dC (.str "apart"))) (fB (kS (dV 6) (dV 5) (fP (fc (dV 7) (fc (d2 zc ag (dV 2) zE) fg)))) (rq (bN (dV 1) "doors") (fP (fc (dV 3) (fc (d2 zc ag (dV 2) zE) fg))) (dC (.bl zu))))))) (fB (rq (bN (dV 1) "doors") (fP (fc (dV 3) (fc (dV 8) fg))) (dC (.bl zu))) (fN (dC (.str "takes"))))))))))
def gG:List W->List Bx->O W:=aR 9 (aZ j8)
def l9:aj:=(fB (fH (xD [("there",1),("came",1),("gone",1),("doors",2),("at",0),("words",0)]) (fe 2)) (fB (iG (bB (dN zc cV zam)) (fe 3) (fB (gT (nK (bN (dV 2) "words") (fP (fc (dV 3) (fc (fu aB.gG 3 (fc (dV 0) (fc (dV 2) (fc (dV 3) fg)))) fg))))) (gT (nK (bN (dV 2) "at") (fP (fc (d2 zc ag (dV 3) zm) (fc (v7 zc (bN (dV 2) "there")) fg))))))) (fN (dV 2))))
def gN:List W->List Bx->O W:=aR 4 (aZ l9)
def ju:aj:=(fB (dR 2 3 (fc (d2 zc cD (dN zc bM (fc (d2 zc ag (dV 0) zj) fg)) zj) (fc (d2 zc cD (dN zc bM (fc (d2 zc ag (dV 0) zm) fg)) zj) fg))) (fB (aF (dB (d2 zc aJ (dV 1) (dC (.str "in")))) (fN (fP (fc (dC (.int 9)) (fc (dV 2) (fc (dV 3) (fc (dC (.int 999)) (fc (dC (.int 99)) fg))))))) aS) (fB (aF (dB (d2 zc aJ (dV 1) (dC (.str "out")))) (fN (fP (fc (dC (.int 9)) fg))) aS) (fB (aF (dB (d2 zc aJ (dV 1) (dC (.str "to")))) (fN (fP (fc (dC (.int 9)) (fc (dV 3) fg)))) aS) (fN (fP fg))))))
def ij:List W->List Bx->O W:=aR 4 (aZ ju)
def lJ:aj:=(fB (aF (kO (eN (dB (jP "tuple" (dV 1)))) (kO (dB (d2 zc eQ (dN zc bM zam) zE)) (eN (dB (fu K2.iT 1 (fc (d2 zc ag (dV 1) zm) fg)))))) (fN (dC (.bl zc))) aS) (fB (fH (fu aB.ij 2 (fc (dV 0) (fc (d2 zc ag (dV 1) zj) fg))) (fe 2)) (fB (aF (dB (d2 zc cP (dN zc bM zai) (d2 zc cD (dN zc bM zam) zO))) (fN (dC (.bl zc))) aS) (fN (dN zc dh (fc (fY zc [zp,zp] (uM (fc (pY zc (dV 1) (pX zO) pW) zai)) (gn 2 (fE (fe 0) (fE (fe 1) gz))) f7 (fu K1.f9 3 (fc (dV 0) (fc zm zam)))) fg))))))
def jJ:List W->List Bx->O W:=aR 3 (aZ lJ)
def j9:aj:=(fB (aF (kO (eN (dB (jP "list" (dV 1)))) (dB (d2 zc nJ (dN zc bM zam) (dC (.int 16))))) (fN (dC (.bl zc))) aS) (fN (ia (dN zc dh (fc (fY zc [zp,some 0] (bB (dV 1)) (fe 0) f7 (fu aB.jJ 2 (fc (dV 1) (fc (dV 0) fg)))) fg)) (fu K1.ic 1 (fc (dN zc cV zam) fg)))))
def jK:List W->List Bx->O W:=aR 2 (aZ j9)
def lc:aj:=(fB (aF (dB (d2 zc aJ (d2 zc ag (dV 0) zj) (dC (.str "in")))) (fN (d2 zc ag (dV 0) (dC (.int 4)))) aS) (fB (aF (dB (d2 zc aJ (d2 zc ag (dV 0) zj) (dC (.str "to")))) (fN (d2 zc ag (dV 0) zE)) aS) (fN (dC .non))))
def fL:List W->List Bx->O W:=aR 1 (aZ lc)
def CQ:aj:=(fN (d2 zc (inD zu) (fP (fc (dN zc minD (fc (dV 1) zai)) (fc (dN zc maxD (fc (dV 1) zai)) fg))) (d2 zc ag (dV 0) zO)))
def iQ:List W->List Bx->O W:=aR 3 (aZ CQ)
def mf:aj:=(fB (dR 4 5 (fc (d2 zc ag (dV 3) zj) (fc (d2 zc ag (dV 3) zO) fg))) (fB (aF (kN zag (dB (eP zc (dV 5) (dV 1)))) (fN (dC (.str "there"))) aS) (fB (aF (kN (dB (d2 zc cP (dV 4) (dC (.str "in")))) (dB (eP zu (dV 5) (dV 2)))) (fN (dC (.str "none"))) aS) (fB (aF (dB (d2 zc aJ (dV 4) (dC (.str "out")))) (fN (dC (.str "takes"))) aS) (fB (fH (fu aB.fL 1 (fc (dV 3) fg)) (fe 6)) (fB (aF (kN (dB (d2 zc aJ (dV 4) (dC (.str "to")))) (dB (d2 zc aJ (bQ (dV 2) (dV 5)) (dV 6)))) (fN (dC (.str "same"))) aS) (fB (fH (uD zag (d2 zc ag (dV 3) zE) (bQ (dV 1) (dV 5))) (fe 7)) (fB (fH (vZ zc [zp,some 2,some 6] 2 (fe 0) (dB (d2 zc aJ (bQ (dV 1) (dV 0)) (dV 2))) (dV 0)) (fe 8)) (fB (aF (dB (dN zc dh (fc (fY zc [zp,some 0,some 1,some 7] (bB (dV 8)) (fe 0) f7 (fu aB.iQ 3 (fc (dV 1) (fc (dV 3) (fc (bQ (dV 2) (dV 0)) fg))))) fg))) (fN (dC (.str "takes"))) aS) (fN (dC (.str "apart"))))))))))))
def iF:List W->List Bx->O W:=aR 9 (aZ mf)
def LS:aj:=(fB (fH (gx zu fg) (fe 2)) (fB (fH (nN zu []) (fe 3)) (fB (fH (nN zu []) (fe 4)) (fB (iG (bB (dN zc cV zam)) (fe 5) zar) (fN (rZ 2))))))
def BR:List W->List Bx->O W:=aR 8 (aZ LS)
end aB
namespace K12
open L2 L2.DL
def lf:aj:=(fB (fH (nN zc []) (fe 2)) (fB (tY (bN (dV 0) "at") (gn 2 (fE (fe 3) (fE (fe 4) gz))) (aF (dB (d2 zc pz (dV 3) (dV 1))) (fH (dV 4) (fe 2)) aS)) (fN (dV 2))))
def gH:List W->List Bx->O W:=aR 5 (aZ lf)
def BS:aj:=(fB (gT (fu K2.jm 1 (fc (dV 0) fg))) (aF (eN (dB (fu aB.jK 2 (fc (dV 0) zam)))) (vS 4 (dC (.str "pages are a list of at most sixteen unlike pages of the house"))) aS))
def jn:List W->List Bx->O W:=aR 2 BS
def lg:aj:=(fB (fH (nN zu []) (fe 2)) (fB (iG (bB (dV 0)) (gn 3 (fE (fe 3) (fE (fe 4) (fE (fe 5) gz)))) (fB (aF (dB (d2 zc nJ (d2 zc ag (dV 3) zm) (dV 1))) Ij aS) (aF (dB (vV zc (dV 5))) (tX (dV 2) (d2 zc ag (dV 3) zO)) (kS (dV 2) (d2 zc ag (dV 3) zO) (dV 5))))) (fN (rZ 2))))
def iH:List W->List Bx->O W:=aR 6 (aZ lg)
def A0:aj:=(fN (fY zc [zp,zp,zp,zp] (bB (fu aB.BR 2 (fc (dV 0) zam))) (gn 4 (fE (fe 0) (fE (fe 1) (fE (fe 2) (fE (fe 3) gz))))) (dB (d2 zc aJ (dV 1) (dC (.str "takes")))) (fP (fc (dV 0) (fc (dV 2) (fc (dV 3) fg))))))
def iU:List W->List Bx->O W:=aR 2 (aZ A0)
def AC:aj:=(fB (gT (fu K12.jn 2 (fc (dV 0) zam))) (fB (gT (fu K2.ig 1 zai)) (fB (fH (fu K12.iH 2 (fc (fu K12.iU 2 (fc (dV 0) zam)) zai)) (fe 3)) (fN (IQ zu (dV 3))))))
def lK:List W->List Bx->O W:=aR 4 AC
def mj:aj:=(tV (fN (fu K12.lK 3 (fc (dV 0) (fc (dV 1) zai)))))
def gu:List W->List Bx->O W:=aR 4 (aZ mj)
def jh:aj:=(fB (tY (dV 2) (gn 2 (fE (fe 3) (fE (fe 4) gz))) (tY (dV 2) (gn 2 (fE (fe 5) (fE (fe 6) gz))) zau)) (fN (dC (.bl zu))))
def gj:List W->List Bx->O W:=aR 8 (aZ jh)
def LT:aj:=(fB (iG (cM (fc (dN zc maxD (fc zj (fc (dN zc minD (fc (rf (dV 0)) (fc (dC (.int 6)) fg))) fg))) fg)) (fe 1) (fB (fH (fu K1.jH 1 (fc (fu K1.ie 2 (fc (dV 0) zam)) fg)) (fe 2)) (fB (fH (fu aB.iP 1 zai) (fe 3)) (iG (cM (fc zE fg)) (fe 4) (fB (fH (fu K2.iz 3 (fc (dV 2) (fc (fP fg) (fc (fu aB.gF 4 zr) fg)))) (gn 3 (fE (fe 5) (fE (fe 6) (fE (fe 7) gz))))) (fB (dR 8 9 (fc (fu aB.gN 2 (fc (dV 3) (fc (dV 6) fg))) (fc (gx zc zt) fg))) (fB (iG (bB (dV 6)) (fe 10) (fH (d2 zc fQ (dV 9) (gx zc zH)) (fe 9))) (fB (iG (bB (dV 9)) (fe 11) (fB (dR 12 13 (fc (fu K12.gH 2 (fc (dV 8) (fc (dV 11) fg))) (fc (kC (dV 6)) fg))) (fB (fH (fY zc [zp,some 12] (bB (xF zc (dV 12))) (fe 0) f7 (fP (fc (dV 0) (fc (d2 zc ag (bQ (dV 1) (dV 0)) zj) fg)))) (fe 14)) (iG (cM (fc zO fg)) (fe 15) zY)))) (iG (bB (gx zc (fc (yX zj) (fc (dC (.bl zu)) (fc (dC .non) (fc (dC (.str "3")) (fc (gx zc (fc zE fg)) (fc (fP (fc zE fg)) (fc (d2 zc cD zm (d2 zc dg (dC (.int 10)) (dC (.int 30)))) fg))))))))) (fe 17) (aF (dB (d2 zc cP (fu K12.gu 3 (fc (dV 3) (fc (dV 6) (fc (dV 17) fg)))) (dC (.str "hour")))) (fN (dC (.bl zc))) aS)))))))))) (fN (dC (.bl zu))))
def BT:List W->List Bx->O W:=aR 18 (aZ LT)
end K12
namespace L2.DL
section
variable {β:Type}
@[simp] theorem fR {a:α}{k:α->List Bx->O β}:fC (.val a bx) k=k a bx:=rfl
@[simp] theorem Vf {k:α->List Bx->O β}:fC .bad k=.bad:=rfl
@[simp] theorem ik {a:α}{k:α->List Bx->OS}:bp (.val a bx) k=k a bx:=rfl
@[simp] theorem Vg {k:α->List Bx->OS}:bp (.bad:O α) k=.bad:=rfl
@[simp] theorem oP {a:α}{k:α->List Bx->O β}:bindB (.val a bx) k=k a bx:=rfl
end
@[simp] theorem U3:dV i env bx=match env[i]? with|some (some w)=>.val w bx|_=>.bad:=rfl
@[simp] theorem Ug {d:D}:dC d env bx=.val (.d d) bx:=rfl
@[simp] theorem AD:fg env bx=.val [] bx:=rfl
@[simp] theorem lL {k:DE (List W)}:fc m k env bx=fC zL λw bx1=>fC (k env bx1) λl ah=>.val (w::l) ah:=rfl
@[simp] theorem BU {k:DE (List W)}:fu fn n k env bx=fC (k env bx) λws bx1=>if ws.length=n then fn ws bx1 else .bad:=rfl
@[simp] theorem U4:dB m env bx=fC zL λw bx1=>match w with|.d (.bl k)=>.val k bx1|_=>.bad:=rfl
@[simp] theorem LU {m k:DE Bool}:kN m k env bx=fC zL λb bx1=>match b with|true=>k env bx1|false=>.val zc bx1:=rfl
@[simp] theorem PY {m k:DE Bool}:kO m k env bx=fC zL λb bx1=>match b with|true=>.val zu bx1|false=>k env bx1:=rfl
@[simp] theorem SG {m:DE Bool}:eN m env bx=fC zL λb bx1=>.val (!b) bx1:=rfl
@[simp] theorem FS {k:DE W}:ia m k env bx=fC zL λw bx1=>match w with|.d (.bl true)=>k env bx1|.d (.bl false)=>.val (.d (.bl zc)) bx1|_=>.bad:=rfl
@[simp] theorem UV:Ii m env bx=fC zL λw bx1=>match w with|.d (.bl k)=>.val (.d (.bl (!k))) bx1|_=>.bad:=rfl
@[simp] theorem FT:f7 env bx=.val zu bx:=rfl
@[simp] theorem UW {n:String}:jP n m env bx=fC zL λw bx1=>match bT bx1 w with|some d=>.val (.d (.bl (uG (qW d) n))) bx1|none=>.bad:=rfl
@[simp] theorem OA {b:Bool}:d2 b g ma mb env bx=fC (ma env bx) λx bx1=>fC (mb env bx1) λy ah=>bX b ((bT ah x).bind λp=>(bT ah y).bind λq=>g p q) ah:=rfl
@[simp] theorem DW {b:Bool}{g:List D->Option Res}{k:DE (List W)}:dN b g k env bx=fC (k env bx) λws bx1=>bX b ((nH bx1 ws).bind g) bx1:=rfl
@[simp] theorem Vh {g':D->D->Option Res}{mc:DE W}:d3 g g' ma mb mc env bx=fC (ma env bx) λx bx1=>fC (mb env bx1) λy ah=>
 fC (bX zc ((bT ah x).bind λp=>(bT ah y).bind λq=>g p q) ah) λz bH=>match z with
  |.d (.bl true)=>fC (mc env bH) λw cy=>bX zc ((bT cy y).bind λp=>(bT cy w).bind λq=>g' p q) cy
  |.d (.bl false)=>.val (.d (.bl zc)) bH
  |_=>.bad:=rfl
@[simp] theorem Br {d:D}:bT bx (.d d)=some d:=rfl
@[simp] theorem mO:nH bx []=some []:=rfl
@[simp] theorem AE {d:D}{l:List W}:nH bx (.d d::l)=(nH bx l).map λt=>d::t:=by
 erw[nH,Br];cases nH bx l<;>rfl
@[simp] theorem TJ {b:Bool}:bX b zp bx=.bad:=rfl
@[simp] theorem gS {q:Res}:bX zc (some q) bx=.val (.d q.toD) bx:=by cases q<;>rfl
@[simp] theorem U5:bX zu (some (.lst l)) bx=.val (.b bx.length) (bx++[.lst l]):=rfl
@[simp] theorem BV {d:D}:(Res.old d).toD=d:=rfl
@[simp] theorem BW:(Res.tup l).toD=.tup l:=rfl
@[simp] theorem ji:(Res.lst l).toD=.lst l:=rfl
@[simp] theorem UX {l:List (Key×D)}:(Res.af l).toD=.af l:=rfl
@[simp] theorem U6:aS env bx=.nx env bx:=rfl
@[simp] theorem oj {m k:aj}:fB m k env bx=match m env bx with|.nx aK bx1=>k aK bx1|o=>o:=rfl
@[simp] theorem FU:gT m env bx=bp zL λ_ bx1=>.nx env bx1:=rfl
@[simp] theorem BX:fN m env bx=bp zL λw bx1=>.rt w bx1:=rfl
@[simp] theorem LV {m k:aj}:aF t m k env bx=bp (t env bx) λb bx1=>match b with|true=>m env bx1|false=>k env bx1:=rfl
@[simp] theorem mm {g:DG}:fH m g env bx=bp zL λw bx1=>match g w env bx1 with|some (aK,ah)=>.nx aK ah|none=>.bad:=rfl
@[simp] theorem LW {m:DE (List W)}{g:DG}{body:aj}:iG m g body env bx=bp zL λds bx1=>cC g body ds env bx1:=rfl
@[simp] theorem mP {w:W}:fe i w env bx=some (env.set i (some w),bx):=rfl
@[simp] theorem UY:gz [] env bx=some (env,bx):=rfl
@[simp] theorem Uh {g:DG}{k:ph}{w:W}{l:List W}:fE g k (w::l) env bx=(g w env bx).bind λ(aK,bx1)=>k l aK bx1:=rfl
@[simp] theorem UZ {k:ph}:gn n k (.d (.tup l)) env bx=if l.length=n then k (l.map W.d) env bx else zp:=rfl
@[simp] theorem lM {src:List (Option Nat)}{g:DG}:fY bo src mi g tf te env bx=fC (mi env bx) λds bx1=>fC (bq g tf te ds (dE src env) bx1 []) λl ah=>bX bo (some (.lst l)) ah:=rfl
@[simp] theorem DX:dE [] env=[]:=rfl
@[simp] theorem CS {l:List (Option Nat)}:dE (zp::l) env=zp::dE l env:=rfl
@[simp] theorem CT {l:List (Option Nat)}:dE (some i::l) env=((env[i]?).bind id)::dE l env:=rfl
@[simp] theorem FV:bB m env bx=fC zL λw bx1=>match w with|.d (.lst l)=>.val (l.map W.d) bx1|.d (.tup l)=>.val (l.map W.d) bx1|_=>.bad:=rfl
@[simp] theorem SH {k:DE (List W)}:fP k env bx=fC (k env bx) λws bx1=>bX zc ((pf ws).bind λl=>if l.length<=sizeLine then some (.tup l) else zp) bx1:=rfl
@[simp] theorem LX {k:DE (List W)}:gx bo k env bx=fC (k env bx) λws bx1=>bX bo ((pf ws).bind λl=>if l.length<=sizeLine then some (.lst l) else zp) bx1:=rfl
@[simp] theorem Ui:pf []=some []:=rfl
@[simp] theorem SI {d:D}{l:List W}:pf (.d d::l)=(pf l).map λt=>d::t:=rfl
@[simp] theorem U7:yX m env bx=fC zL λw bx1=>match w with|.d (.int i)=>.val (.d (.int (-i))) bx1|_=>.bad:=rfl
@[simp] theorem Vd {l u:DE (Option Int)}:pY bo m l u env bx=fC zL λx bx1=>fC (l env bx1) λi ah=>fC (u env ah) λj bH=>bX bo ((bT bH x).bind λd=>qX d i j) bH:=rfl
@[simp] theorem Ve:pW env bx=.val zp bx:=rfl
@[simp] theorem U0:pX m env bx=fC zL λw bx1=>match w with|.d (.int i)=>.val (some i) bx1|_=>.bad:=rfl
@[simp] theorem U8:Ip bo m env bx=fC zL λx bx1=>bX bo ((bT bx1 x).bind λd=>match d with|.lst l=>some (.lst l.reverse)|_=>zp) bx1:=rfl
theorem gC {m:aj}{ws:List W}{d:D}(h:m (ws.map some++List.replicate (n-ws.length) zp) bx=.rt (.d d) bx):aR n (aZ m) ws bx=.val (.d d) bx:=by
 erw[aR,aZ,DL.envOf,h,qU,qV,wG]
end L2.DL
namespace K1
open L2 L2.DL
noncomputable def wh:D->Bool
 |.int _=>zu
 |_=>zc
noncomputable def wi (d:D) (lo hi:Int):Bool:=match d with
 |.int i=>decide (lo<=i)&&decide (i<=hi)
 |_=>zc
noncomputable def tl (d:D) (lo hi:Int):Bool:=match d with
 |.tup l=>decide (lo<=(l.length:Int))&&decide ((l.length:Int)<=hi)
 |_=>zc
theorem SJ (d:D):uG (qW d) "int"=(match d with|.int _=>zu|.bl _=>zu|_=>zc):=by cases d<;>rfl
theorem OB (d:D):uG (qW d) "bool"=(match d with|.bl _=>zu|_=>zc):=by cases d<;>rfl
theorem om (d:D):uG (qW d) "tuple"=(match d with|.tup _=>zu|_=>zc):=by cases d<;>rfl
theorem AF (d:D) (bx:List Bx):jb [.d d] bx=.val (.d (.bl (wh d))) bx:=
 gC (by cases d<;>simp[Ay,SJ,OB,wh])
theorem g9 (d:D) (lo hi:Int) (bx:List Bx):f9 [.d d,.d (.int lo),.d (.int hi)] bx=.val (.d (.bl (wi d lo hi))) bx:=
 gC (by
  cases d<;>simp[oH,AF,wh,wi,pz];ext i;by_cases h:lo<=i<;>simp[h])
theorem f8 (d:D) (lo hi:Int) (bx:List Bx):gp [.d d,.d (.int lo),.d (.int hi)] bx=.val (.d (.bl (tl d lo hi))) bx:=
 gC (by
  cases d<;>simp[Az,om,tl,pz,bM];ext l;by_cases h:lo<=(l.length:Int)<;>simp[h])
theorem OC {g:DG}(J:aN->zy) (p:D->Bool) (f:D->D):∀ (l:List D) (env:aN) (acc:List D),J env ->
 (∀ d∈l,∀ env,J env->∃ ax,g (.d d) env bx=some (ax,bx) /\ J ax /\ tf ax bx=.val (p d) bx /\ (p d=zu->te ax bx=.val (.d (f d)) bx))->acc.length+l.length<=sizeLine ->
 bq g tf te (l.map W.d) env bx acc=.val (acc++(l.filter p).map f) bx:=by
 intro l_;induction l_ with
 |nil=>(intro env acc _ _ _;simp[bq])
 |cons d l ao=>
   intro env acc j h n;let#[ax,e1,j',e2,e3]:=h d (bF ..) env j;have n':acc.length<sizeLine:=by erw[bg]at n;lia
   erw[az,bq,e1,e2,oP];have h':=λx (m:x∈l)=>h x (bD _ m);cases q:p d with
   |false=>
     erw[EY,q];exact ao ax acc j' h' (by erw[bg]at n;lia)
   |true=>
     erw[EY,q,e3 q,oP,if_pos n'];rw[ao ax (acc++[f d]) j' h' (by erw[dj,bg,kJ]at n ⊢;lia)];simp
theorem jv {g:DG}(J:aN->zy) (f:D->D) (j:J env) (h:∀ d∈l,∀ env,J env->∃ ax,g (.d d) env bx=some (ax,bx) /\ J ax /\ te ax bx=.val (.d (f d)) bx) (n:l.length<=sizeLine) :
 bq g f7 te (l.map W.d) env bx []=.val (l.map f) bx:=by
 rw[OC (tf:=f7) J (λ_=>true) f l env [] j (λd m e je=>let ⟨e',a,b,c⟩:=h d m e je;#[e',a,b,rfl,λ_=>c]) (by simpa using n)];rw[List.filter_eq_self.mpr (λ_ _=>rfl)];rfl
theorem LY (l:List D) (p:D->Bool):pw (l.map λd=>D.bl (p d))=some (l.map p):=by
 induction l with
 |nil=>rfl
 |cons d l ih=>simp[pw,ih]
@[simp] theorem all_map (l:List D) (p:D->Bool):dh [.lst (l.map λd=>D.bl (p d))]=some (.old (.bl (l.all p))):=by
 simp[dh,LY,vg]
def rooms (d:D):Bool:=match d with
 |.tup l=>tl (.tup l) 1 5&&l.all λx=>wi x 0 3
 |_=>zc
theorem Eu:(5:Nat)<=sizeLine:=by decide
theorem mz {lo hi:Int}(h:tl (.tup l) lo hi=zu):lo<=(l.length:Int) /\ (l.length:Int)<=hi:=by simpa[tl] using h
theorem LZ (d:D) (bx:List Bx):iN [.d d] bx=.val (.d (.bl (rooms d))) bx:=
 gC (by
  cases d with
  |tup l=>
    cases h:tl (.tup l) 1 5 with
    |false=>simp[jc,f8,h,rooms]
    |true=>
      have n:=mz h;simp[jc,f8,h,rooms];rw[jv (λe=>∃ w,e=[w]) (λx=>.bl (wi x 0 3)) #[none,rfl] (λx _ e ⟨w,je⟩=>#[[some (.d x)],by simp[je],#[_,rfl],by simp[g9]]) (by have:=Eu;lia)];simp
  |_=>simp[jc,f8,tl,rooms])
noncomputable def uV:List D->Bool
 |x::y::l=>(match x,y with|.int i,.int j=>decide (j<=i)|_,_=>zc)&&uV (y::l)
 |_=>zu
def wb (d:D):Bool:=match d with
 |.tup l=>tl (.tup l) 4 4&&(l.all (λx=>wi x 0 9)&&uV l)
 |_=>zc
theorem L4 (d:D) (bx:List Bx):jF [.d d] bx=.val (.d (.bl (wb d))) bx:=
 gC (by
  cases d with
  |tup l=>
    cases h:tl (.tup l) 4 4 with
    |false=>simp[jd,f8,h,wb,fQ]
    |true=>
      have n:=mz h;simp[jd,f8,h,wb,fQ];rw[jv (λe=>∃ w,e=[w]) (λx=>.bl (wi x 0 9)) #[none,rfl] (λx _ e ⟨w,je⟩=>#[[some (.d x)],by simp[je],#[_,rfl],by simp[g9]]) (by have:=Eu;lia)];simp;cases q:l.all λx=>wi x 0 9 with
      |false=>simp
      |true=>
        have l4:l.length=4:=by lia
        obtain⟨a,l,rfl⟩:∃ a t,l=a::t:=rK zd;obtain⟨b,l,rfl⟩:∃ a t,l=a::t:=rK (by simp at l4;lia);obtain⟨c,l,rfl⟩:∃ a t,l=a::t:=rK (by simp at l4;lia);obtain⟨e,l,rfl⟩:∃ a t,l=a::t:=rK (by simp at l4;lia);obtain rfl:l=[]:=by simpa using l4
        have IS:∀ x,wi x 0 9=zu->∃ i,x=.int i:=λx hx=>by
         cases x<;>simp[wi]at hx;exact#[_,rfl]
        simp at q;let#[a,rfl]:=IS a q.1;let#[b,rfl]:=IS b q.2.1;let#[c,rfl]:=IS c q.2.2.1;let#[e,rfl]:=IS e q.2.2.2;simp[uM,qX,DL.cutD,HT.aE,kQ,bq,pz,uV,dh,pw,sizeLine]
  |_=>simp[jd,f8,tl,wb,fQ])
theorem Wq (h:tl (.tup l) 2 2=zu):∃ a b,l=[a,b]:=by
 have n:=mz h;obtain⟨a,l,rfl⟩:∃ a t,l=a::t:=rK zd;obtain⟨b,l,rfl⟩:∃ a t,l=a::t:=rK (by simp at n;lia);have:l.length=0:=by simp at n;lia
 exact#[a,b,by rw[E3 this]]
theorem age (h:tl (.tup l) 4 4=zu):∃ a b c e,l=[a,b,c,e]:=by
 have n:=mz h;obtain⟨a,l,rfl⟩:∃ a t,l=a::t:=rK zd;obtain⟨b,l,rfl⟩:∃ a t,l=a::t:=rK (by simp at n;lia);obtain⟨c,l,rfl⟩:∃ a t,l=a::t:=rK (by simp at n;lia);obtain⟨e,l,rfl⟩:∃ a t,l=a::t:=rK (by simp at n;lia);have:l.length=0:=by simp at n;lia
 exact#[a,b,c,e,by rw[E3 this]]
theorem DY {x:D}{lo hi:Int}(h:wi x lo hi=zu):∃ i,x=.int i /\ lo<=i /\ i<=hi:=by
 cases x<;>simp[wi]at h;exact#[_,rfl,h]
def kind (d:D):Bool:=match d with
 |.tup l=>tl (.tup l) 2 2&&(match l with|[a,b]=>wi a 1 999&&wb b|_=>zc)
 |_=>zc
theorem OD (d:D) (bx:List Bx):l8 [.d d] bx=.val (.d (.bl (kind d))) bx:=
 gC (by
  cases d with
  |tup l=>
    cases h:tl (.tup l) 2 2 with
    |false=>simp[lI,f8,h,kind]
    |true=>
      let#[a,b,rfl]:=Wq h;simp[lI,f8,h,kind,ag,bf,bL,g9];cases q:wi a 1 999<;>simp[L4]
  |_=>simp[lI,f8,tl,kind])
def kinds (d:D):Bool:=match d with
 |.tup l=>tl (.tup l) 1 4&&l.all kind
 |_=>zc
theorem L5 (d:D) (bx:List Bx):iO [.d d] bx=.val (.d (.bl (kinds d))) bx:=
 gC (by
  cases d with
  |tup l=>
    cases h:tl (.tup l) 1 4 with
    |false=>simp[jf,f8,h,kinds]
    |true=>
      have n:=mz h;simp[jf,f8,h,kinds];rw[jv (λe=>∃ w,e=[w]) (λx=>.bl (kind x)) #[none,rfl] (λx _ e ⟨w,je⟩=>#[[some (.d x)],by simp[je],#[_,rfl],by simp[OD]]) (by have:=Eu;lia)];simp
  |_=>simp[jf,f8,tl,kinds])
def kE (n:Int) (d:D):Bool:=match d with
 |.tup l=>tl (.tup l) 2 2&&(match l with|[.int a,.int b]=>decide (0<=a)&&decide (a<b)&&decide (b<=n-1)|_=>zc)
 |_=>zc
theorem L6 (d:D) (n:Int) (bx:List Bx):gR [.d d,.d (.int n)] bx=.val (.d (.bl (kE n d))) bx:=
 gC (by
  cases d with
  |tup l=>
    cases h:tl (.tup l) 2 2 with
    |false=>simp[gY,f8,h,kE]
    |true=>
      let#[a,b,rfl]:=Wq h;simp[gY,f8,h,kE,ag,bf,bL];have c:=jv (g:=fe 0) (te:=fu f9 3 (fc (dV 0) (fc zm (fc (d2 zc cD (dV 1) zj) fg)))) (bx:=bx) (l:=[a,b]) (λe=>∃ w,e=[w,xN n]) (λx=>.bl (wi x 0 (n-1))) #[zp,rfl] (λx _ e ⟨w,je⟩=>#[[some (.d x),xN n],by simp[je],#[_,rfl],by simp[g9,cD]]) (show (2:Nat)<=sizeLine by decide);erw[az,ug]at c;rw[c];have e:=all_map [a,b] λx=>wi x 0 (n-1);erw[az,ug]at e;simp[e];cases q1:wi a 0 (n-1) with
      |false=>
        cases a<;>cases b<;>simp[wi]at q1 ⊢;lia
      |true=>
        cases q2:wi b 0 (n-1) with
        |false=>
          let#[i,rfl,i1,i2]:=DY q1;cases b<;>simp[wi]at q2 ⊢;lia
        |true=>
          let#[i,rfl,i1,i2]:=DY q1;let#[j,rfl,j1,j2]:=DY q2;simp[eQ,i1,j2]
  |_=>simp[gY,f8,tl,kE])
noncomputable abbrev dP (p:Int×Int):D:=.tup [.int p.1,.int p.2]
abbrev xP (l:List (Int×Int)):Option W:=some (.d (.lst (l.map dP)))
def qG (p q:Int×Int):Bool:=HT.lexLt [p.1,p.2] [q.1,q.2]
theorem L7 {n:Int}{d:D}(h:kE n d=zu):∃ p:Int×Int,d=dP p /\ 0<=p.1 /\ p.1<p.2 /\ p.2<=n-1:=by
 cases d with
 |tup l=>
   erw[kE,aD]at h;let#[a,b,rfl]:=Wq h.1;have h2:=h.2;cases a<;>cases b<;>simp at h2;exact#[(_,_),rfl,h2.1.1,h2.1.2,h2.2]
 |_=>simp[kE]at h
theorem L8 {n:Int}:∀ {l:List D},l.all (kE n)=zu->∃ ps:List (Int×Int),l=ps.map dP /\ ∀ p∈ps,0<=p.1 /\ p.1<p.2 /\ p.2<=n-1:=by
 intro l_;induction l_ with
 |nil=>exact λ_=>#[[],rfl,λp m=>by cases m]
 |cons d l ao=>
   intro h;erw[qk,aD]at h;let#[p,rfl,hp]:=L7 h.1;let#[ps,rfl,hs]:=ao h.2;exact#[p::ps,rfl,λq m=>by
    rcases bA.mp m with rfl|m
    .exact hp
    .exact hs q m]
def sr:List (Int×Int)->Bool
 |p::q::r=>qG p q&&sr (q::r)
 |_=>zu
theorem AG:∀ ps:List (Int×Int),sr ps=(List.range (ps.length-1)).all λi=>qG (ps.getD i (0,0)) (ps.getD (i+1) (0,0))
 |[]=>rfl
 |[p]=>rfl
 | p::q::r=>by
   rw[sr,AG (q::r)];erw[bg,X8];rw[List.range_succ_eq_map,qk,vg];rfl
theorem FW (h:i<ps.length):bf (ps.map dP) (i:Int)=some (dP (ps.getD i (0,0))):=by
 unfold bf bL;simp[h,List.getD]
theorem L9 {k:DE (List W)}{i j:Int}(e:k env bx=.val [.d (.int i),.d (.int j)] bx1) (h:(-(2 ^ 62)<=i /\ i<2 ^ 62) /\ -(2 ^ 62)<=j /\ j<2 ^ 62):vK k env bx=.val (fO i (j-i).toNat) bx1:=by
 unfold vK;rw[e,fR];exact if_pos h
theorem mB {k:DE (List W)}{j:Int}(e:k env bx=.val [.d (.int j)] bx1) (h:-(2 ^ 62)<=j /\ j<2 ^ 62):cM k env bx=.val (fO 0 j.toNat) bx1:=by
 unfold cM;rw[e,fR];exact if_pos h
theorem OE (lo:Int) (n:Nat):fO lo n=((List.range n).map λ(i:Nat)=>D.int (lo+(i:Int))).map W.d:=by
 unfold fO;rw[bw];rfl
theorem Jc (ps:List (Int×Int)) (n:ps.length<=sizeLine) (bx:List Bx):ic [.d (.tup (ps.map dP))] bx=.val (.d (.bl (sr ps))) bx:=
 gC (by
  have s2:sizeLine=16777216:=bj;have r:vK (fc zj (fc (dN zc bM (fc (dV 0) fg)) fg)) [some (.d (.tup (ps.map dP)))] bx=.val (fO 1 (((ps.length:Nat):Int)-1).toNat) bx:=L9 (by simp[bM]) zd;erw[oI,BX,DW,lL,lM,az,ug,bg,kJ,sx,List.replicate_zero,sC,r,fR,OE,CS,CT,DX,Yi,cj,id];rw[jv (λe=>∃ w,e=[w,some (.d (.tup (ps.map dP)))]) (λx=>.bl (match x with|.int i=>qG (ps.getD (i.toNat-1) (0,0)) (ps.getD i.toNat (0,0))|_=>false)) #[none,rfl] ?_ (by rw[aY,Qd];lia)]
  .erw[fR,AD,gS,ji,AE,mO,nX,cj];rw[all_map,gS,BV,ik,vg,show ((ps.length:Int)-1).toNat=ps.length-1 by lia];have z:((λx:D=>match x with|.int i=>qG (ps.getD (i.toNat-1) (0,0)) (ps.getD i.toNat (0,0))|_=>zc)∘λ(i:Nat)=>D.int (1+(i:Int)))=λi=>qG (ps.getD i (0,0)) (ps.getD (i+1) (0,0)):=by
    funext i;show qG (ps.getD ((1+(i:Int)).toNat-1) (0,0)) (ps.getD (1+(i:Int)).toNat (0,0))=_;rw[show (1+(i:Int)).toNat=i+1 by lia,X8]
   rw[z,<-AG]
  .intro x m e ⟨w,je⟩;let#[i,mi,rfl]:=bJ.mp m;have hi:i<((ps.length:Int)-1).toNat:=List.mem_range.mp mi;refine#[[xN (1+(i:Int)),some (.d (.tup (ps.map dP)))],by simp[je],#[_,rfl],?_];have a1:=FW (ps:=ps) (i:=i) zd;have a2:=FW (ps:=ps) (i:=i+1) zd;rw[show ((i+1:Nat):Int)=1+(i:Int) by lia]at a2;erw[OA,U3,Ug,Yi,List.getElem?_cons_succ,fR,Br,cj,ag,cD,gS,BV,show 1+(i:Int)-1=(i:Int) by lia,a1,a2,nX,eQ,dP,intsOf];rw[show (1+(i:Int)).toNat=i+1 by lia];rfl)
noncomputable def IU:D->Option (Int×Int)
 |.tup [.int a,.int b]=>some (a,b)
 |_=>zp
theorem FX (ps:List (Int×Int)):(ps.map dP).filterMap IU=ps:=by
 induction ps with
 |nil=>rfl
 |cons p ps ih=>rw[az,qj,ih];rfl
def apart (n:Int) (d:D):Bool:=match d with
 |.tup l=>l.all (kE n)&&sr (l.filterMap IU)
 |_=>zc
def short (d:D):zy:=match d with
 |.tup l=>l.length<=sizeLine
 |_=>True
theorem DZ (l:List D) (n:Int) (h':l.length<=sizeLine) (bx:List Bx):bq (fe 0) f7 (fu gR 2 (fc (dV 0) zam)) (l.map W.d) [zp,xN n] bx []=.val (l.map λx=>.bl (kE n x)) bx:=
 jv (λe=>∃ w,e=[w,xN n]) (λx=>.bl (kE n x)) #[zp,rfl] (λx _ e ⟨w,je⟩=>#[[some (.d x),xN n],by simp[je],#[_,rfl],by simp[L6]]) h'
theorem Jd (d:D) (n:Int) (bx:List Bx) (h:∀ l,d≠.tup l):gD [.d d,.d (.int n)] bx=.val (.d (.bl (apart n d))) bx:=
 gC (by
  cases d with
  |tup l=>exact absurd zw (h l)
  |_=>simp[jg,om,apart])
theorem Je {fp:List W->List Bx->O W}{n:Int}(c:bq (fe 0) f7 (fu fp 2 (fc (dV 0) zam)) (l.map W.d) [zp,xN n] bx []=.val (l.map λx=>.bl (kE n x)) bx) :
 dN zc dh (fc (fY zc [zp,some 1] (bB (dV 0)) (fe 0) f7 (fu fp 2 (fc (dV 0) zam))) fg) [some (.d (.tup l)),xN n] bx=.val (.d (.bl (l.all (kE n)))) bx:=by
 have i:bB (dV 0) [some (.d (.tup l)),xN n] bx=.val (l.map W.d) bx:=rfl;rw[DW,lL,lM,i,fR,show dE [none,some 1] [some (W.d (.tup l)),some (W.d (.int n))]=[none,some (W.d (.int n))] from rfl,c,fR,gS,fR,AD,fR,fR,AE,mO,nX,cj,ji,all_map,gS,BV]
theorem OF {k:DE W}{b:Bool}(h:m env bx=.val (.d (.bl b)) bx1):ia m k env bx=if b then k env bx1 else .val (.d (.bl zc)) bx1:=by
 rw[FS,h];cases b<;>rfl
theorem SK {m k:aj}(h:t env bx=.val zc bx):fB (aF t m aS) k env bx=k env bx:=by
 rw[oj,LV,h];rfl
theorem SL {w:Option W}:eN (dB (jP "tuple" (dV 0))) [some (.d (.tup l)),w] bx=.val zc bx:=by
 simp[om]
theorem Jf (l:List D) (n:Int) (bx:List Bx) (h':l.length<=sizeLine):gD [.d (.tup l),.d (.int n)] bx=.val (.d (.bl (apart n (.tup l)))) bx:=by
 have e1:=Je (DZ l n h' bx);refine gC ?_;show jg [some (.d (.tup l)),xN n] bx=OS.rt (.d (.bl (l.all (kE n)&&sr (l.filterMap IU)))) bx;unfold jg;rw[SK SL,BX,OF e1];cases q:l.all (kE n) with
 |false=>rfl
 |true=>
   let#[ps,e,_]:=L8 q;subst e;have r:=Jc ps (by rw[aY]at h';exact h') bx;rw[if_pos rfl,BU,lL,show dV 0 [some (W.d (.tup (ps.map dP))),some (W.d (.int n))] bx=.val (.d (.tup (ps.map dP))) bx from rfl,fR,AD,fR,fR,if_pos (show [W.d (D.tup (ps.map dP))].length=1 from rfl),r,ik,FX,Qm]
theorem Ma (d:D) (n:Int) (h:short d) (bx:List Bx):gD [.d d,.d (.int n)] bx=.val (.d (.bl (apart n d))) bx:=by
 cases d with
 |tup l=>exact Jf l n bx (by simpa only[short] using h)
 |_=>exact Jd _ n bx (λl e=>by cases e)
noncomputable def lenOf:D->Int
 |.tup l=>l.length
 |_=>0
def house (d:D):Bool:=match d with
 |.tup [r,k,p,h]=>rooms r&&(kinds k&&(apart (lenOf k) p&&wi h 1 9))
 |_=>zc
def yU (d:D):zy:=match d with
 |.tup [_,_,p,_]=>short p
 |_=>True
theorem Jg {k:D}(h:kinds k=zu):∃ l,k=.tup l:=by
 cases k with
 |tup l=>exact#[l,rfl]
 |_=>simp[kinds]at h
theorem Mb (d:D) (ok:yU d) (bx:List Bx):j5 [.d d] bx=.val (.d (.bl (house d))) bx:=
 gC (by
  cases d with
  |tup l=>
    cases t:tl (.tup l) 4 4 with
    |false=>
      have e:house (.tup l)=zc:=by
       unfold house;split
       .ext q;cases q;simp[tl]at t
       .rfl
      simp[jG,f8,t,e]
    |true=>
      let#[r,k,p,h,rfl]:=age t;have e1:=f8 (.tup [r,k,p,h]) 4 4 bx;have e2:=LZ r bx;have e3:=L5 k bx;have e4:∀ n:Int,gD [.d p,.d (.int n)] bx=.val (.d (.bl (apart n p))) bx:=λn=>Ma p n (by simpa only[yU] using ok) bx;have e5:=g9 h 1 9 bx;rw[t]at e1;unfold jG;generalize gp=f1 at e1 ⊢;generalize iN=f2 at e2 ⊢;generalize iO=f3 at e3 ⊢;generalize gD=f4 at e4 ⊢;generalize f9=f5 at e5 ⊢;simp[e1,e2,house];cases q1:rooms r with
      |false=>simp
      |true=>
        simp[e3];cases q2:kinds k with
        |false=>simp
        |true=>
          let#[l,rfl]:=Jg q2;simp[bM,e4,lenOf];cases q3:apart (l.length:Int) p<;>simp[e5]
  |_=>simp[jG,f8,tl,house])
end K1
namespace L2.DL
noncomputable def aaY:Key->Nat
 |.inl _=>1921
 |.inr x=>(reprText x).length
mutual
noncomputable def wt:D->Nat
 |.non=>4
 |.bl _=>5
 |.int _=>1921
 |.str x=>(reprText x).length
 |.tup l=>3+uW l
 |.lst l=>3+uW l
 |.af l=>3+Ew l
noncomputable def uW:List D->Nat
 |[]=>0
 |d::l=>wt d+2+uW l
noncomputable def Ew:List (Key×D)->Nat
 |[]=>0
 |(k,d)::l=>aaY k+wt d+4+Ew l
end
theorem FY (ts:List Str):(Str.join ", " ts).length<=piled ts:=by
 by_cases h:ts=[]
 .subst h;exact au _
 .have:=join_length_add ts h;lia
theorem BY (ts:List Str):(tupleText ts).length<=3+piled ts:=by
 unfold tupleText;have h:=FY ts;have e1:(("(":String):Str).length=1:=rfl;have e2:((",)":String):Str).length=2:=rfl;have e3:((")":String):Str).length=1:=rfl;rw[pJ,pJ];split<;>lia
theorem CU:∀ (ts:List Str) (k:Nat) (acc:Str),(textFrom k acc ts).length<=acc.length+piled ts:=by
 intro l_;induction l_ with
 |nil=>(intro k acc;show acc.length<=_;lia)
 |cons t r ao=>
   intro k acc;have h:=ao (k+1) (acc++(if k>0 then ", " else "":String)++t);have e1:((", ":String):Str).length=2:=rfl;have e2:(("":String):Str).length=0:=rfl;rw[pJ,pJ]at h;rw[K7];show (textFrom (k+1) (acc++(if k>0 then ", " else "":String)++t) r).length<=_;split at h<;>ext hk<;>erw[hk,if_true,if_false]at h ⊢<;>lia
theorem CV (ts:List Str):(listText ts).length<=3+piled ts:=by
 unfold listText;have h:=CU ts 0 "[";have e1:(("[":String):Str).length=1:=rfl;have e2:(("]":String):Str).length=1:=rfl;rw[pJ];lia
theorem CW (ts:List Str):(dictText ts).length<=3+piled ts:=by
 unfold dictText;have h:=FY ts;have e1:(("{":String):Str).length=1:=rfl;have e2:(("}":String):Str).length=1:=rfl;rw[pJ,pJ];lia
theorem CY {i:Int}(h:i.natAbs.log2<1920):(Str.ofString (toString i)).length<=1921:=by
 have:=int_text_length_le (a:=i) (k:=1920) zf h;rw[PySem.ofString_length];exact this
mutual
theorem AH:∀ (d:D),(toPy d).showable=zu->(toPy d).shown.length<=wt d
 |.non,_=>by erw[toPy,PyData.shown,wt];decide
 |.bl b,_=>by cases b<;>erw[toPy,PyData.shown,wt]<;>decide
 | .int i,h=>by
   erw[toPy,PyData.shown,wt];exact CY (by simpa[toPy,PyData.showable] using h)
 |.str x,_=>by erw[toPy,PyData.shown,wt];exact au _
 | .tup l,h=>by
   erw[toPy,PyData.shown,wt];have:=oo l (by simpa[toPy,PyData.showable] using h);have:=BY (PyData.shownAll (bI l));lia
 | .lst l,h=>by
   erw[toPy,PyData.shown,wt];have:=oo l (by simpa[toPy,PyData.showable] using h);have:=CV (PyData.shownAll (bI l));lia
 | .af l,h=>by
   erw[toPy,PyData.shown,wt];have:=CZ l (by simpa[toPy,PyData.showable] using h);have:=CW (PyData.shownKv (bP l));lia
theorem oo:∀ (l:List D),PyData.showableAll (bI l)=zu->piled (PyData.shownAll (bI l))<=uW l
 |[],_=>by erw[bI,PyData.shownAll,uW];exact au _
 | d::l,h=>by
   erw[bI,PyData.showableAll,aD]at h;have h1:=AH d h.1;have h2:=oo l h.2;erw[bI,PyData.shownAll,uW,K7];lia
theorem CZ:∀ (l:List (Key×D)),PyData.showableKv (bP l)=zu->piled (PyData.shownKv (bP l))<=Ew l
 |[],_=>by erw[bP,PyData.shownKv,Ew];exact au _
 | (k,d)::l,h=>by
   erw[bP,PyData.showableKv,aD]at h;have h1:=AH d h.1.2;have h2:=CZ l h.2;have e1:((": ":String):Str).length=2:=rfl;have hk:(PyData.shown (di k)).length<=aaY k:=by
    cases k with
    |inl i=>exact CY (by simpa[di,PyData.showable] using h.1.1)
    |inr x=>exact au _
   erw[bP,PyData.shownKv,Ew,K7];rw[pJ,pJ];lia
end
mutual
noncomputable def ib (B:Nat):D->Bool
 |.int i=>decide (i.natAbs<=B)
 |.tup l=>wc B l
 |.lst l=>wc B l
 |.af l=>IV B l
 |_=>zu
noncomputable def wc (B:Nat):List D->Bool
 |[]=>zu
 |d::l=>ib B d&&wc B l
noncomputable def IV (B:Nat):List (Key×D)->Bool
 |[]=>zu
 |(k,d)::l=>(match k with|.inl i=>decide (i.natAbs<=B)|_=>zu)&&ib B d&&IV B l
end
theorem Mc {B:Nat}(hB:B<2 ^ 1900) {i:Int}(h:i.natAbs<=B):i.natAbs.log2<1920:=by
 by_cases h0:i.natAbs=0
 .rw[h0];decide
 .exact(Nat.log2_lt h0).mpr (dU (yf h hB) (Nat.pow_le_pow_right zf zf))
mutual
theorem BZ {B:Nat}(hB:B<2 ^ 1900):∀ (d:D),ib B d=zu->(toPy d).showable=zu
 |.non,_=>by simp[toPy,PyData.showable]
 |.bl b,_=>by simp[toPy,PyData.showable]
 | .int i,h=>by
   erw[toPy,PyData.showable,decide_eq_true_eq];exact Mc hB (by simpa[ib] using h)
 |.str x,_=>by simp[toPy,PyData.showable]
 | .tup l,h=>by
   erw[toPy,PyData.showable];exact AI hB l (by simpa[ib] using h)
 | .lst l,h=>by
   erw[toPy,PyData.showable];exact AI hB l (by simpa[ib] using h)
 | .af l,h=>by
   erw[toPy,PyData.showable];exact C0 hB l (by simpa[ib] using h)
theorem AI {B:Nat}(hB:B<2 ^ 1900):∀ (l:List D),wc B l=zu->PyData.showableAll (bI l)=zu
 |[],_=>by simp[bI,PyData.showableAll]
 | d::l,h=>by
   erw[wc,aD]at h;erw[bI,PyData.showableAll,BZ hB d h.1,AI hB l h.2,yo]
theorem C0 {B:Nat}(hB:B<2 ^ 1900):∀ (l:List (Key×D)),IV B l=zu->PyData.showableKv (bP l)=zu
 |[],_=>by simp[bP,PyData.showableKv]
 | (k,d)::l,h=>by
   erw[IV,aD]at h;have hk:(di k).showable=zu:=by
    cases k with
    |inl i=>
      erw[di,PyData.showable,decide_eq_true_eq];exact Mc hB (by simpa using h.1.1)
    |inr x=>simp[di,PyData.showable]
   erw[bP,PyData.showableKv,hk,BZ hB d h.1.2,C0 hB l h.2,yo]
end
structure Sm (B a b:Nat) (d:D):zy where
 s:ib B d=zu
 e:(toPy d).depth<=a
 w:wt d<=b
structure bZ (B a b:Nat) (l:List D):zy where
 s:wc B l=zu
 e:PyData.depthAll (bI l)<=a
 w:uW l<=b
theorem AJ {B a b:Nat}{d:D}(h:Sm B a b d) (hB:B<2 ^ 1900) (ha:a<=60) (hb:b<=sizeLine):uJ d=zu:=by
 have hs:=BZ hB d h.s;have:=AH d hs;have h1:=h.e;have h2:=h.w;unfold uJ;rw[hs,decide_eq_true (by lia:(toPy d).depth<=60),decide_eq_true (by lia:(toPy d).shown.length<=sizeLine)];rfl
theorem Sm.mono {B a b a' b':Nat}{d:D}(h:Sm B a b d) (ha:a<=a') (hb:b<=b'):Sm B a' b' d:=#[h.s,bU h.e ha,bU h.w hb]
theorem bZ.mono {B a b a' b':Nat}(h:bZ B a b l) (ha:a<=a') (hb:b<=b'):bZ B a' b' l:=#[h.s,bU h.e ha,bU h.w hb]
theorem bZ.nil {B a:Nat}:bZ B a 0 []:=#[rfl,by simp[bI,PyData.depthAll],au _]
theorem bZ.cons {B a b c:Nat}{d:D}{l:List D}(h:Sm B a b d) (t:bZ B a c l):bZ B a (b+2+c) (d::l):=
 #[by simp[wc,h.s,t.s],by erw[bI,PyData.depthAll];exact Nat.max_le.mpr #[h.e,t.e],by erw[uW];have:=h.w;have:=t.w;lia]
theorem Sm.tup {B a b:Nat}{l:List D}(h:bZ B a b l):Sm B (a+1) (3+b) (.tup l):=
 #[by simp[ib,h.s],by erw[toPy,PyData.depth];have:=h.e;lia,by erw[wt];have:=h.w;lia]
theorem Sm.lst {B a b:Nat}{l:List D}(h:bZ B a b l):Sm B (a+1) (3+b) (.lst l):=
 #[by simp[ib,h.s],by erw[toPy,PyData.depth];have:=h.e;lia,by erw[wt];have:=h.w;lia]
theorem Sm.int {B a:Nat}{i:Int}(h:i.natAbs<=B):Sm B a 1921 (.int i):=
 #[by simp[ib,h],by simp[toPy,PyData.depth],au _]
theorem Sm.str {B a:Nat}{x:Str}:Sm B a (reprText x).length (.str x):=
 #[by simp[ib],by simp[toPy,PyData.depth],au _]
theorem bZ.of {B a b:Nat}:∀ {l:List D},(∀ d∈l,Sm B a b d)->bZ B a (l.length*(b+2)) l:=by
 intro l_;induction l_ with
 |nil=>(intro _;simpa using bZ.nil)
 |cons d l ao=>
   intro h;have h1:=h d (bF ..);have h2:=ao λx m=>h x (bD _ m);exact(bZ.cons h1 h2).mono (au _) (by rw[bg,Nat.succ_mul];lia)
section
variable {aK a7:aN} {ah bH:List Bx} {k:DE W} {w u:W} {l:List W}
theorem fm (h1:m env bx=.val w bx1) (h2:ks env bx1=.val l ah):fc m ks env bx=.val (w::l) ah:=by rw[lL,h1,fR,h2,fR]
theorem OG:∀ {ds:List D},nH bx (ds.map W.d)=some ds:=by
 intro l_;induction l_ with
 |nil=>exact rfl
 |cons d ds ao=>(rw[az,AE,ao];rfl)
theorem B2:∀ {ds:List D},pf (ds.map W.d)=some ds:=by
 intro l_;induction l_ with
 |nil=>exact rfl
 |cons d ds ao=>(rw[az,SI,ao];rfl)
theorem oQ {g:List D->Option Res}{r:Res}(ds:List D) (h:ks env bx=.val (ds.map W.d) bx1) (hg:g ds=some r):dN zc g ks env bx=.val (.d r.toD) bx1:=by rw[DW,h,fR,OG,cj,hg,gS]
theorem gk (ds:List D) (h:ks env bx=.val (ds.map W.d) bx1) (hl:ds.length<=sizeLine):fP ks env bx=.val (.d (.tup ds)) bx1:=by rw[SH,h,fR,B2,cj,if_pos hl,gS,BW]
theorem lh (ds:List D) (h:ks env bx=.val (ds.map W.d) bx1) (hl:ds.length<=sizeLine):gx zc ks env bx=.val (.d (.lst ds)) bx1:=by rw[LX,h,fR,B2,cj,if_pos hl,gS,ji]
theorem B3 (ds:List D) (h:ks env bx=.val (ds.map W.d) bx1) (hl:ds.length<=sizeLine):gx zu ks env bx=.val (.b bx1.length) (bx1++[.lst ds]):=by rw[LX,h,fR,B2,cj,if_pos hl];rfl
theorem fV {r:Res}{x y:D}(h1:m env bx=.val (.d x) bx1) (h2:k env bx1=.val (.d y) ah) (hg:g x y=some r):d2 zc g m k env bx=.val (.d r.toD) ah:=by rw[OA,h1,fR,h2,fR,Br,Br,cj,cj,hg,gS]
theorem fK (h:ks env bx=.val l bx1) (hn:l.length=n) (hf:fn l bx1=.val w ah):fu fn n ks env bx=.val w ah:=by rw[BU,h,fR,if_pos hn,hf]
theorem gI {b:Bool}(h:m env bx=.val (.d (.bl b)) bx1):dB m env bx=.val b bx1:=by rw[U4,h,fR]
theorem AK {b:Bool}(h:t env bx=.val b bx1):eN t env bx=.val (!b) bx1:=by rw[SG,h,fR]
theorem Uj {s:DE Bool}(h:t env bx=.val zu bx1):kO t s env bx=.val zu bx1:=by rw[PY,h,fR]
theorem Md {s:DE Bool}{b:Bool}(h:t env bx=.val zc bx1) (h2:s env bx1=.val b ah):kO t s env bx=.val b ah:=by rw[PY,h,fR,h2]
theorem oq {s:DE Bool}(h:t env bx=.val zc bx1):kN t s env bx=.val zc bx1:=by rw[LU,h,fR]
theorem ou {s:DE Bool}{b:Bool}(h:t env bx=.val zu bx1) (h2:s env bx1=.val b ah):kN t s env bx=.val b ah:=by rw[LU,h,fR,h2]
theorem OH {b:Bool}(h:m env bx=.val (.d (.bl b)) bx1):ia m k env bx=if b then k env bx1 else .val (.d (.bl zc)) bx1:=by rw[FS,h];cases b<;>rfl
theorem lN {src:List (Option Nat)}{g:DG}{ds:List D}{e2:aN}(h1:mi env bx=.val l bx1) (he:dE src env=e2) (h2:bq g tf te l e2 bx1 []=.val ds ah):fY zc src mi g tf te env bx=.val (.d (.lst ds)) ah:=by
 subst he;rw[lM,h1,fR,h2,fR,gS,ji]
theorem gL {ds:List D}(h:m env bx=.val (.d (.lst ds)) bx1):bB m env bx=.val (ds.map W.d) bx1:=by rw[FV,h,fR]
theorem OI {ds:List D}(h:m env bx=.val (.d (.tup ds)) bx1):bB m env bx=.val (ds.map W.d) bx1:=by rw[FV,h,fR]
theorem B4 {d:D}(h:m env bx=.val (.d d) bx1) (c:uJ d=zu):kC m env bx=.val (.d (.str (toPy d).shown)) bx1:=by
 unfold kC;rw[h,fR];exact if_pos c
theorem fq {a b:aj}(h:a env bx=.nx aK bx1):fB a b env bx=b aK bx1:=by rw[oj,h]
theorem gJ {a b:aj}(h:a env bx=.rt w bx1):fB a b env bx=.rt w bx1:=by rw[oj,h]
theorem gc (h:m env bx=.val w bx1):fH m (fe i) env bx=.nx (env.set i (some w)) bx1:=by rw[mm,h,ik,mP]
theorem gU (h:m env bx=.val w bx1):fN m env bx=.rt w bx1:=by rw[BX,h,ik]
theorem iV (h:m env bx=.val w bx1):gT m env bx=.nx env bx1:=by rw[FU,h,ik]
theorem io {a b:aj}(h:t env bx=.val zu bx1):aF t a b env bx=a env bx1:=by rw[LV,h,ik]
theorem gh {a b:aj}(h:t env bx=.val zc bx1):aF t a b env bx=b env bx1:=by rw[LV,h,ik]
theorem lj {g:DG}{body:aj}(h:mi env bx=.val l bx1):iG mi g body env bx=cC g body l env bx1:=by rw[LW,h,ik]
theorem lm {g:DG}{body:aj}(h1:g w env bx=some (aK,bx1)) (h2:body aK bx1=.nx a7 ah):cC g body (w::l) env bx=cC g body l a7 ah:=by
 rw[cC,h1];erw[h2]
theorem jL {g:DG}{body:aj}(I:Nat->aN->List Bx->zy):∀ (l:List W) (k:Nat) (env:aN) (bx:List Bx),I k env bx ->
 (∀ i w env bx,l[i]?=some w->I (k+i) env bx->∃ aK bx1 a7 ah,g w env bx=some (aK,bx1) /\ body aK bx1=.nx a7 ah /\ I (k+i+1) a7 ah) ->
 ∃ ax bx',cC g body l env bx=.nx ax bx' /\ I (k+l.length) ax bx':=by
 intro l;induction l with
 |nil=>intro k env bx h _;exact#[env,bx,rfl,h]
 |cons w l ih=>
   intro k env bx h st;let#[aK,bx1,a7,ah,e1,e2,h2]:=st 0 w env bx zw h;let#[ax,bx',e3,h3]:=ih (k+1) a7 ah h2 λi x env bx e hi=>by
    have:=st (i+1) x env bx (by simpa using e) (by rw[show k+(i+1)=k+1+i by lia];exact hi);rw[show k+(i+1)+1=k+1+i+1 by lia]at this;exact this
   exact#[ax,bx',by rw[lm e1 e2,e3],by rw[bg,show k+(l.length+1)=k+1+l.length by lia];exact h3]
end
end L2.DL
namespace aB
open L2 L2.DL K1
open HT (ay aQ eO cu lexLt)
inductive Pg where
 |aH (h l k r p w:Int)|to (h l r:Int)|out (h l:Int)
noncomputable def bt:Pg->List ay
 |.aH h l k r p w=>[.i h,.s "in",.i l,.i k,.i r,.i p,.i w]
 |.to h l r=>[.i h,.s "to",.i l,.i r]
 |.out h l=>[.i h,.s "out",.i l]
def enc (g:Pg):D:=cU (bt g)
theorem B5 (g:Pg):rowOf (enc g)=some (bt g):=by cases g<;>rfl
theorem Me:∀ gs:List Pg,rowsOf zg=some (gs.map bt):=by
 intro l_;induction l_ with
 |nil=>exact rfl
 |cons g gs ao=>(simp[rowsOf,B5,ao])
theorem FZ {a b:Pg}(h:bt a=bt b):a=b:=by
 cases a<;>cases b<;>simp[bt]at h<;>simp_all
theorem OJ {a b:Pg}(h:enc a=enc b):a=b:=by
 have:=B5 a;rw[h,B5]at this;exact(FZ (Option.some.inj this)).symm
theorem oW (a b:Pg):eO (bt a) (bt b)=zu:=by cases a<;>cases b<;>rfl
theorem C2 (gs:List Pg):Ej (gs.map bt)=zu:=by
 erw[Ej,cS,bJ];rintro _ ⟨a,_,rfl⟩ _ ⟨b,_,rfl⟩;exact oW a b
theorem Mf {g:Pg}{gs:List Pg}(h:(g::gs).length<64):cV [.lst ((g::gs).map enc)]=some (.lst ((tU ((g::gs).map bt)).map cU)):=by
 have e:tO [.lst ((g::gs).map enc)]=zp:=by cases g<;>rfl
 unfold cV;rw[e];erw[Me,cj,C2,aY,and_true,if_pos h]
abbrev IW (gs:List Pg):zy:=gs.Pairwise λa b=>cu (bt a) (bt b)=zu
theorem SM {gs:List Pg}(nd:gs.Nodup) (h:(gs.map bt).Pairwise λa b=>lexLt (aQ b) (aQ a)=zc):IW gs:=by
 rw[nW]at h;refine List.Pairwise.imp₂ (λ{a b}(x:lexLt (aQ (bt b)) (aQ (bt a))=zc) (y:a≠b)=>?_) h nd;rw[<-HT.BN _ _ (oW a b)];cases e:lexLt (aQ (bt a)) (aQ (bt b)) with
 |true=>rfl
 |false=>exact absurd (FZ (Au (oW a b) (HT.gO _ _ e x))) y
theorem F6 {gs:List Pg}(nd:gs.Nodup) (h:gs.length<64):∃ qs:List Pg,qs.Perm gs /\ IW qs /\ ∀ g2:List Pg,g2.Perm gs->cV [.lst (g2.map enc)]=some (.lst (qs.map enc)):=by
 let#[qs,e,p]:=IH (iZ (gs.map bt)) zw;refine#[qs,p,SM (p.nodup_iff.mpr nd) (by rw[<-e];exact jk _),λg2 p2=>?_];cases g2 with
 |nil=>
   have z:=p2.length_eq;have:gs=[]:=by cases gs with|nil=>rfl|cons=>simp at z
   subst this;have:qs=[]:=by have:=p.length_eq;cases qs with|nil=>rfl|cons=>simp at this
   subst this;simp[cV,tO,uH,intsOf,sortI]
 |cons g g2=>
   rw[Mf (by rw[p2.length_eq];exact h)];have:tU ((g::g2).map bt)=tU (gs.map bt):=oF (C2 gs) ((iZ _).trans (p2.map bt)) (jk _);rw[this,e,bw];rfl
theorem SN (a b:Pg):eQ (enc a) (enc b)=some (.old (.bl (cu (bt a) (bt b)))):=by
 have:∀ g:Pg,∃ l,enc g=.tup l /\ intsOf l=zp /\ tR l=some (bt g) /\ (bt g).all ay.flat=zu:=λg=>by cases g<;>exact#[_,rfl,rfl,rfl,rfl]
 let#[l,e1,e2,e3,e4]:=this a;let#[m,f1,f2,f3,f4]:=this b;rw[e1,f1];unfold eQ;erw[e2,e3,f3,e4,oW,and_self,if_true]
end aB
variable {gs:List aB.Pg}{ca:List (Int × aB.Pg)}
namespace K1
open L2 L2.DL
theorem Mg:∀ ns:List Int,intsOf (ns.map D.int)=some ns:=by
 intro l_;induction l_ with
 |nil=>exact rfl
 |cons n ns ao=>(rw[az,intsOf,ao];rfl)
theorem F7:∀ ns:List Int,uV (ns.map D.int)=zu ↔ ns.Pairwise (λa b=>b<=a)
 |[]=>by simp[uV]
 |[x]=>by simp[uV]
 | x::y::l=>by
   have ih:=F7 (y::l);erw[az]at ih ⊢;erw[uV,aD,decide_eq_true_eq,ih];constructor
   .intro ⟨h,p⟩;refine List.pairwise_cons.mpr #[λz m=>?_,p];rcases bA.mp m with rfl|m
    .exact h
    .exact Int.le_trans ((List.pairwise_cons.mp p).1 z m) h
   .intro p;have q:=List.pairwise_cons.mp p;exact#[q.1 y (bF ..),q.2]
noncomputable def pt (bx:List Bx) (n:Nat) (p:Int):List Bx:=bx.set n (.lst [.int p])
theorem gK {p:Int}:(pt bx n p).length=bx.length:=nV ..
theorem SO {p:Int}(h:n<bx.length):(pt bx n p)[n]?=some (.lst [.int p]):=by simp[pt,h]
theorem Bs {m:aj}{ws:List W}{d:D}{bx':List Bx}(h:m (ws.map some++List.replicate (n-ws.length) zp) bx=.rt (.d d) bx') (l:bx'.length<=bx.length):aR n (aZ m) ws bx=.val (.d d) bx':=by
 erw[aR,aZ,DL.envOf,h,qU,qV,List.take_of_length_le l]
theorem il (h:n<bx.length) (p k:Int) (hk:0<k) (vP:k<1073741824):fj [.b n,.d (.int k)] zQ=.val (.d (.int (p % k))) (pt bx n (p / k)):=by
 refine Bs ?_ (by rw[gK,gK];exact au _);have g:=SO (p:=p) h;have c:uq p k:=#[hk,vP];simp[AA,bT,g,ag,bf,bL,pj,uF,hk,c,Ea];rw[pt,pt,Yj]
theorem lO {l:List α}{i:Int}(h0:0<=i) (h1:i<l.length):∃ d,bf l i=some d /\ d∈l:=by
 have h2:i.toNat<l.length:=by lia
 refine#[l[i.toNat],?_,EW h2];simp[bf,bL,h0,h1,h2]
def Dr (o:O W) (bx:List Bx) (n:Nat) (P:D->zy):zy:=∃ d p,o=.val (.d d) zQ /\ P d
theorem iW (p:Int) {k:Int}(h:0<k):0<=p % k:=Int.emod_nonneg _ zd
theorem iX (p:Int) {k:Int}(h:0<k):p % k<k:=Int.emod_lt_of_pos _ h
theorem SQ (l:List α) (i:Nat) (h:i<l.length):bf l (i:Int)=some l[i]:=by
 simp[bf,bL,h]
theorem B6 {g:DG}(J:aN->zy) (P:D->zy):∀ (l:List W) (env:aN) (p:Int) (acc:List D),J env ->
 (∀ w∈l,∀ env p,J env->∃ ax,g w env zQ=some (ax,pt bx n p) /\ J ax /\ Dr (te ax zQ) bx n P)->acc.length+l.length<=sizeLine ->
 ∃ ds p',bq g f7 te l env zQ acc=.val (acc++ds) (pt bx n p') /\ ds.length=l.length /\ ∀ d∈ds,P d:=by
 intro l_;induction l_ with
 |nil=>exact λenv p acc _ _ _=>#[[],p,by simp[bq],rfl,λd m=>by cases m]
 |cons w l ao=>
   intro env p acc j h z;let#[ax,e1,j',d,q,e2,hd]:=h w (bF ..) env p j;have z':acc.length<sizeLine:=by erw[bg]at z;lia
   let#[ds,p',e3,e4,e5]:=ao ax q (acc++[d]) j' (λx m=>h x (bD _ m)) (by erw[dj,bg,kJ]at z ⊢;lia);refine#[d::ds,p',?_,by simp[e4],λx m=>?_]
   .erw[bq,e1,FT,oP,e2,if_pos z',e3];simp
   .rcases bA.mp m with rfl|m
    .exact hd
    .exact e5 x m
theorem Mh {g:DG}(J:aN->zy) (f:W->D):∀ (l:List W) (env:aN) (p:Int) (acc:List D),J env ->
 (∀ w∈l,∀ env p,J env->∃ ax b q,g w env zQ=some (ax,pt bx n p) /\ J ax /\ tf ax zQ=.val b (pt bx n q) /\ te ax (pt bx n q)=.val (.d (f w)) (pt bx n q))->acc.length+l.length<=sizeLine ->
 ∃ l' p',bq g tf te l env zQ acc=.val (acc++l'.map f) (pt bx n p') /\ List.Sublist l' l:=by
 intro l_;induction l_ with
 |nil=>exact λenv p acc _ _ _=>#[[],p,by simp[bq],.slnil]
 |cons w l ao=>
   intro env p acc j h z;let#[ax,b,q,e1,j',e2,e3]:=h w (bF ..) env p j;have z':acc.length<sizeLine:=by erw[bg]at z;lia
   cases b with
   |false=>
     let#[ds,p',e4,e5]:=ao ax q acc j' (λx m=>h x (bD _ m)) (by erw[bg]at z;lia);exact#[ds,p',by erw[bq,e1,e2,oP,e4],.cons _ e5]
   |true=>
     let#[ds,p',e4,e5]:=ao ax q (acc++[f w]) j' (λx m=>h x (bD _ m)) (by erw[dj,bg,kJ]at z ⊢;lia);refine#[w::ds,p',?_,.cons_cons _ e5];erw[bq,e1,e2,oP,e3,if_pos z',e4];simp
def digit (d:D):zy:=∃ i:Int,d=.int i /\ 0<=i /\ i<=9
theorem Jh:∀ {l:List D},(∀ d∈l,digit d)->∃ ns:List Int,l=ns.map D.int /\ ∀ i∈ns,0<=i /\ i<=9:=by
 intro l_;induction l_ with
 |nil=>exact λ_=>#[[],rfl,λ_ m=>by cases m]
 |cons d l ao=>
   intro h;let#[i,rfl,h1]:=h d (bF ..);let#[ns,rfl,h2]:=ao λx m=>h x (bD _ m);exact#[i::ns,rfl,λx m=>by
    rcases bA.mp m with rfl|m
    .exact h1
    .exact h2 x m]
theorem Mi (h4:ns.length=4) (h:∀ i∈ns,0<=i /\ i<=9):wb (.tup ((sortI ns).map D.int).reverse)=zu:=by
 have l4:(sortI ns).length=4:=by rw[(gw ns).length_eq,h4]
 rw[<-List.map_reverse];have a1:tl (.tup ((sortI ns).reverse.map D.int)) 4 4=zu:=by simp[tl,l4]
 have a2:(((sortI ns).reverse.map D.int).all λx=>wi x 0 9)=zu:=by
  rw[vg,cS];intro i m;have:=h i ((gw ns).mem_iff.mp (List.mem_reverse.mp m));simp[wi,this.1,this.2]
 have a3:uV ((sortI ns).reverse.map D.int)=zu:=(F7 _).mpr (List.pairwise_reverse.mpr (iL ns));erw[wb,a1,a2,a3,yo]
theorem OL (h:n<bx.length) (p:Int):Dr (gM [.b n] zQ) bx n (λd=>kind d=zu):=by
 have t4:=il h p 4 zf zf;let#[y,e,m]:=lO (l:=[D.int 9,.int 3,.int 1,.int 9]) (iW p (k:=4) zf) (by show _<(4:Int);exact iX p zf);obtain⟨top,rfl,h0,h9⟩:∃ i:Int,y=.int i /\ 0<=i /\ i<=9:=by
  simp at m;rcases m with rfl|rfl|rfl|rfl<;>exact#[_,rfl,by decide,by decide]
 have z4:(4:Nat)<=sizeLine:=by decide
 let#[ds,q,e1,e2,e3]:=B6 (g:=fe 0) (te:=fu fj 2 (fc (dV 1) (fc (d2 zc fQ (dV 2) zj) fg))) (λe=>∃ w,e=[w,xB n,xN top]) digit (bx:=bx) (n:=n) (fO 0 4) [zp,xB n,xN top] (p / 4) [] #[zp,rfl] (by
  intro w _ env p ⟨w0,je⟩;refine#[[some w,xB n,xN top],by simp[je],#[_,rfl],?_];have t:=il h p (top+1) zd zd;exact#[.int (p % (top+1)),p / (top+1),by simp[fQ,t],_,rfl,iW _ zd,by have:=iX p (k:=top+1) zd;lia]) (by
  simp[fO];exact z4)
 let#[ns,rfl,dD]:=Jh e3;have n4:ns.length=4:=by
  rw[aY]at e2;rw[e2];simp[fO]
 have so:cV [.lst (ns.map D.int)]=some (.lst ((sortI ns).map D.int)):=by simp[cV,tO,uH,Mg,n4]
 have aaZ:=il h q 20 zf zf;have tx:=il h (q / 20) 4 zf zf;have b0:=iW q (k:=20) zf;have b1:=iX q (k:=20) zf;let#[y,ey,my]:=lO (l:=[D.int 30,.int (1+q % 20),.int 999,.int 8]) (iW (q / 20) (k:=4) zf) (by show _<(4:Int);exact iX _ zf);have hy:wi y 1 999=zu:=by
  simp at my;rcases my with rfl|rfl|rfl|rfl
  .rfl
  .simp[wi];lia
  .rfl
  .rfl
 have r:=Mi n4 dD;refine#[.tup [y,.tup ((sortI ns).map D.int).reverse],q / 20 / 4,Bs ?_ (by rw[gK,gK];exact au _),by simp[kind,tl,hy,r]];have rg:∀ env bx,cM zW env bx=.val (fO 0 4) bx:=λenv bx=>mB (j:=4) (bx1:=bx) zq zf;have z2:(2:Nat)<=sizeLine:=by decide
 unfold lU;generalize fj=ft at t4 aaZ tx e1 ⊢;erw[nz]at e1;simp[z4,z2,t4,ag,e,rg,e1,so,aaZ,tx,fQ,ey,qA]
noncomputable def lP (p:Int×Int):List Int:=[p.1,p.2]
noncomputable def IZ:List Int->Int×Int
 |[a,b]=>(a,b)
 |_=>(0,0)
theorem D0:∀ ps:List (Int×Int),uN (ps.map dP)=some (ps.map lP):=by
 intro l_;induction l_ with
 |nil=>exact rfl
 |cons p ps ao=>(simp[uN,intsOf,ao,lP])
theorem D3 (ps:List (Int×Int)):∃ qs:List (Int×Int),qs.Perm ps /\ nP (ps.map lP)=qs.map lP /\ qs.Pairwise (λa b=>qG b a=zc):=by
 have pe:(nP (ps.map lP)).Perm (ps.map lP):=EX _ _;have e:(nP (ps.map lP)).map (lP∘IZ)=nP (ps.map lP):=by
  conv=>rhs;rw[<-yn (nP (ps.map lP))]
  refine qm λx m=>?_;let#[p,_,rfl]:=bJ.mp (pe.mem_iff.mp m);rfl
 refine#[(nP (ps.map lP)).map IZ,?_,?_,?_]
 .have:=pe.map IZ;rw[bw]at this;have z:(IZ∘lP)=id:=by funext p;rfl
  rwa [z,yn]at this
 .rw[bw];exact e.symm
 .have so:=iM (ps.map lP);rw[<-e,<-bw]at so;exact(nW.mp so).imp λh=>h
theorem Mj (qs:List (Int×Int)):rl (qs.map lP)=qs.map dP:=by
 unfold rl;rw[bw];rfl
theorem OM (ps:List (Int×Int)) (h:ps.length<64):∃ qs:List (Int×Int),qs.Perm ps /\ qs.Pairwise (λa b=>qG b a=zc) /\ cV [.lst (ps.map dP)]=some (.lst (qs.map dP)):=by
 cases ps with
 |nil=>exact#[[],.refl _,.nil,by simp[cV,tO,uH,intsOf,sortI]]
 |cons p ps=>
   let#[qs,h1,h2,h3]:=D3 (p::ps);refine#[qs,h1,h3,?_];have e1:uH [.lst ((p::ps).map dP)]=zp:=rfl;have e2:=D0 (p::ps);have l:((p::ps).map lP).length<64:=by rw[aY];exact h
   erw[cV,tO,e1,e2,cj,if_pos l,h2,Mj]
theorem Uk {p q:Int×Int}(h:qG q p=zc) (n:p≠q):qG p q=zu:=by
 cases e:qG p q with
 |true=>rfl
 |false=>
   have:=HT.gO _ _ e h;erw[List.cons.injEq,and_true]at this;exact absurd (Prod.ext this.1 this.2) n
theorem F8:∀ {qs:List (Int×Int)},qs.Pairwise (λa b=>qG b a=zc)->qs.Nodup->sr qs=zu
 |[],_,_=>rfl
 |[p],_,_=>rfl
 | p::q::r,h,n=>by
   have h1:=List.pairwise_cons.mp h;have n1:=rL.mp n;erw[sr,aD];exact#[Uk (h1.1 q (bF ..)) (λe=>n1.1 (by rw[e];exact bF ..)),F8 h1.2 n1.2]
structure Ex (k:Nat) (ps:List (Int×Int)):zy where
 nd:ps.Nodup
 b:∀ p∈ps,0<=p.1 /\ p.1<p.2 /\ p.2<(k:Int)
 l:ps.length<=4*k
theorem Ex.more {k:Nat}{is:List Nat}(s:Ex k ps) (s1:is.Sublist (List.range k)) (hk:k<=4):Ex (k+1) (ps++is.map λ(i:Nat)=>((i:Int),(k:Int))):=by
 have li:is.length<=k:=by have:=s1.length_le;simpa using this
 refine#[wI.mpr #[s.nd,?_,?_],?_,?_]
 .have nr:is.Nodup:=s1.nodup List.nodup_range;exact nW.mpr (nr.imp λ{a b} h e=>h (by have z:(a:Int)=(b:Int):=congrArg Prod.fst e;lia))
 .intro a ma b mb e;subst e;let#[i,_,rfl]:=bJ.mp mb;have:=(s.b _ ma).2.2;simp at this
 .intro a ma;rcases List.mem_append.mp ma with m|m
  .have:=s.b a m;lia
  .let#[i,mi,rfl]:=bJ.mp m;have:=List.mem_range.mp (s1.subset mi);simp;lia
 .have:=s.l;simp;lia
theorem oX {k:Nat}{m:DE (List W)}(e:m env bx=.val [.d (.int (k:Int))] bx) (hk:k<=1000000):cM m env bx=.val (fO 0 k) bx:=by
 rw[mB e zd,ui]
theorem Mk (h:n<bx.length) (p:Int) (x1 x2 x3 x4:Option W):∃ (ds:List D) (q:Int),rooms (.tup ds)=zu /\
 fH (dN zc qA (fc (fY zc [zp,some 0] (cM (fc (d2 zc fQ zj (fu fj 2 (fc (dV 0) (fc (dC (.int 5)) fg)))) fg)) (fe 0) f7 (fu fj 2 (fc (dV 1) zW))) fg)) (fe 1) [xB n,x1,x2,x3,x4] zQ=.nx [xB n,some (.d (.tup ds)),x2,x3,x4] (pt bx n q):=by
 have t5:=il h p 5 zf zf;have lo:=iW p (k:=5) zf;have hi:=iX p (k:=5) zf;let#[j,ej]:=Hk lo;have sz:=bj
 let#[ds,q,e1,e2,e3]:=B6 (g:=fe 0) (te:=fu fj 2 (fc (dV 1) zW)) (λe=>∃ w,e=[w,xB n]) (λd=>wi d 0 3=zu) (bx:=bx) (n:=n) (fO 0 (1+j)) [zp,xB n] (p / 5) [] #[zp,rfl] (by
  intro w _ env p ⟨w0,je⟩;have t:=il h p 4 zf zf;have b1:=iW p (k:=4) zf;have b2:=iX p (k:=4) zf;exact#[[some w,xB n],by simp[je],#[_,rfl],.int (p % 4),p / 4,by simp[t],by simp[wi];lia]) (by simp[fO];lia)
 have n5:ds.length=1+j:=by rw[e2];simp[fO]
 refine#[ds,q,?_,?_]
 .have a1:tl (.tup ds) 1 5=zu:=by simp[tl];lia
  have a2:(ds.all λx=>wi x 0 3)=zu:=cS.mpr e3;simp[rooms,a1,a2]
 .have rg:=oX (env:=[xB n,x1,x2,x3,x4]) (bx:=pt bx n (p / 5)) (k:=1+j) (m:=λ_ bx=>.val [.d (.int ((1+j:Nat):Int))] bx) zw zd;have r2:cM (fc (d2 zc fQ zj (fu fj 2 (fc (dV 0) (fc (dC (.int 5)) fg)))) fg) [xB n,x1,x2,x3,x4] zQ=.val (fO 0 (1+j)) (pt bx n (p / 5)):=by
   have a:(fc (d2 zc fQ zj (fu fj 2 (fc (dV 0) (fc (dC (.int 5)) fg)))) fg) [xB n,x1,x2,x3,x4] zQ=.val [.d (.int ((1+j:Nat):Int))] (pt bx n (p / 5)):=by
    simp[t5,fQ,ej]
   rw[mB a zd,ui]
  erw[nz]at e1;rw[mm,DW,lL,lM,r2,fR,show dE [none,some 0] [some (W.b n),x1,x2,x3,x4]=[none,some (W.b n)] from rfl,e1,fR,gS,fR,AD,fR,fR,ji,AE,mO,nX,cj,show qA [.lst ds]=some (.tup ds) from rfl,gS,BW,ik,mP];rfl
theorem Ml (h:n<bx.length) (p:Int) (x1 x2 x3 x4:Option W):∃ (ds:List D) (q:Int),kinds (.tup ds)=zu /\ ds.length<=4 /\
 fH (dN zc qA (fc (fY zc [zp,some 0] (cM (fc (d2 zc fQ zj (fu fj 2 zR)) fg)) (fe 0) f7 (fu gM 1 zam)) fg)) (fe 2) [xB n,x1,x2,x3,x4] zQ=.nx [xB n,x1,some (.d (.tup ds)),x3,x4] (pt bx n q):=by
 have t5:=il h p 4 zf zf;have lo:=iW p (k:=4) zf;have hi:=iX p (k:=4) zf;let#[j,ej]:=Hk lo;have sz:=bj
 let#[ds,q,e1,e2,e3]:=B6 (g:=fe 0) (te:=fu gM 1 zam) (λe=>∃ w,e=[w,xB n]) (λd=>kind d=zu) (bx:=bx) (n:=n) (fO 0 (1+j)) [zp,xB n] (p / 4) [] #[zp,rfl] (by
  intro w _ env p ⟨w0,je⟩;let#[d,q,e,m]:=OL h p;exact#[[some w,xB n],by simp[je],#[_,rfl],d,q,by simp[e],m]) (by simp[fO];lia)
 have n5:ds.length=1+j:=by rw[e2];simp[fO]
 refine#[ds,q,?_,by lia,?_]
 .have a1:tl (.tup ds) 1 4=zu:=by simp[tl];lia
  have a2:(ds.all kind)=zu:=cS.mpr e3;simp[kinds,a1,a2]
 .have r2:cM (fc (d2 zc fQ zj (fu fj 2 zR)) fg) [xB n,x1,x2,x3,x4] zQ=.val (fO 0 (1+j)) (pt bx n (p / 4)):=by
   have a:(fc (d2 zc fQ zj (fu fj 2 zR)) fg) [xB n,x1,x2,x3,x4] zQ=.val [.d (.int ((1+j:Nat):Int))] (pt bx n (p / 4)):=by
    simp[t5,fQ,ej]
   rw[mB a zd,ui]
  erw[nz]at e1;rw[mm,DW,lL,lM,r2,fR,show dE [none,some 0] [some (W.b n),x1,x2,x3,x4]=[none,some (W.b n)] from rfl,e1,fR,gS,fR,AD,fR,fR,ji,AE,mO,nX,cj,show qA [.lst ds]=some (.tup ds) from rfl,gS,BW,ik,mP];rfl
theorem ON (h:n<bx.length) (p:Int) (x1 x2 x3 x4:Option W):∃ (d:D) (q:Int),wi d 1 9=zu /\
 d2 zc ag (gx zc (fc zj (fc zO (fc (dC (.int 9)) (fc (d2 zc fQ zj (fu fj 2 (fc (dV 0) (fc (dC (.int 9)) fg)))) fg))))) (fu fj 2 zR) [xB n,x1,x2,x3,x4] zQ=.val (.d d) (pt bx n q):=by
 have t9:=il h p 9 zf zf;have t4:=il h (p / 9) 4 zf zf;have lo:=iW p (k:=9) zf;have hi:=iX p (k:=9) zf;let#[y,ey,my]:=lO (l:=[D.int 1,.int 2,.int 9,.int (1+p % 9)]) (iW (p / 9) (k:=4) zf) (by show _<(4:Int);exact iX _ zf);have z4:(4:Nat)<=sizeLine:=by decide
 refine#[y,p / 9 / 4,?_,?_]
 .simp at my;rcases my with rfl|rfl|rfl|rfl
  .rfl
  .rfl
  .rfl
  .simp[wi];lia
 .generalize fj=ft at t4 t9 ⊢;simp[t9,fQ,z4,t4,ag,ey]
theorem C3 {k:DE W}{ah:List Bx}{l0:List D}{d:D}(h1:m env bx=.val (.b i) bx1) (agf:bx1[i]?=some (.lst l0)) (h2:k env bx1=.val (.d d) ah) (hb:ah[i]?=some (.lst l)) (hl:l.length<sizeLine):nK m k env bx=.val (.d .non) (ah.set i (.lst (l++[d]))):=by
 unfold nK;rw[h1,fR];erw[agf,h2,fR,hb,if_pos hl]
section
variable {d lim rt:D} {rs ks ps:List D} {fo so fi tw th:Option W} 
end
section
variable {d lim rt:D} {rs ks ps:List D} {fo so fi tw th:Option W} 
end
theorem oz {m:aj}{ws:List W}{d:D}{bx':List Bx}(h:m (ws.map some++List.replicate (n-ws.length) zp) bx=.rt (.d d) bx'):aR n (aZ m) ws bx=.val (.d d) (bx'.take bx.length):=by
 erw[aR,aZ,DL.envOf,h,qU,qV]
theorem PZ {k:Nat}(h:env[k]?=some (xB i)) (hb:bx[i]?=some (.lst l)):rZ k env bx=.val (.d (.lst l)) (bx.set i .dead):=by
 unfold rZ;erw[h,hb]
theorem SR (l:List Int) (k:Nat) (bx:List Bx):∃ c:Int,ie [.s l,.d (.int (k:Int))] bx=.val (.d (.int c)) bx:=by
 by_cases h:k<l.length
 .have a:bf l (k:Int)=some l[k]:=SQ l k h;refine#[l[k],gC ?_];have h':(k:Int)<(l.length:Int):=by lia
  simp[jl,rf,eQ,h',Iv,a]
 .refine#[0,gC ?_];have h':¬ (k:Int)<(l.length:Int):=by lia
  simp[jl,rf,eQ,h']
abbrev Wr:aj:=zJ
theorem Mm {i j:Int}(h1:-(2 ^ 64)<i) (h2:i<2 ^ 64):km (.int i) (.int j)=some (.old (.int (i*j))):=if_pos (.inl #[h1,h2])
theorem P0 {i j:Int}(h1:-(2 ^ 64)<j) (h2:j<2 ^ 64):km (.int i) (.int j)=some (.old (.int (i*j))):=if_pos (.inr #[h1,h2])
theorem Mn {i j:Int}(h1:0<j):pj (.int i) (.int j)=some (.old (.int (i % j))):=if_pos h1
theorem C4 {i j:Int}(h1:w8 i j):dg (.int i) (.int j)=some (.old (.int (i ^ j.toNat))):=if_pos h1
theorem Ji (c x j:Int) (w:Option W) (bx:List Bx):∃ x' y,Wr [xN c,xN x,xN j,w] bx=.nx [xN c,xN x',xN j,xN y] bx:=by
 let a:=(c % 2147483629+7919*j+1)*48271 % 2147483647
 let b:=(a*a+69621*j+7) % 2147483587
 have a0:0<=a:=iW _ zf;have a1:a<2147483647:=iX _ zf;have e1:fH (d2 zc pj (d2 zc km (d2 zc fQ (d2 zc fQ (d2 zc pj (dV 0) (dC (.int 2147483629))) (d2 zc km (dC (.int 7919)) (dV 2))) zj) (dC (.int 48271))) (dC (.int 2147483647))) (fe 3) [xN c,xN x,xN j,w] bx=.nx [xN c,xN x,xN j,xN a] bx:=
  gc (fV (r:=.old _) (fV (r:=.old _) (fV (r:=.old _) (fV (r:=.old _) (fV (r:=.old _) zw zw (Mn zf)) (fV (r:=.old _) zw zw (Mm zf zf)) zw) zw zw) zw (P0 zf zf)) zw (Mn zf))
 have e2:fH (d2 zc pj (d2 zc fQ (d2 zc fQ (d2 zc km (dV 3) (dV 3)) (d2 zc km (dC (.int 69621)) (dV 2))) (dC (.int 7))) (dC (.int 2147483587))) (fe 3) [xN c,xN x,xN j,xN a] bx=.nx [xN c,xN x,xN j,xN b] bx:=
  gc (fV (r:=.old _) (fV (r:=.old _) (fV (r:=.old _) (fV (r:=.old _) zw zw (Mm zd zd)) (fV (r:=.old _) zw zw (Mm zf zf)) zw) zw zw) zw (Mn zf))
 have e3:fH (d2 zc fQ (d2 zc km (dV 1) (dC (.int 2147483587))) (dV 3)) (fe 1) [xN c,xN x,xN j,xN b] bx=.nx [xN c,xN (x*2147483587+b),xN j,xN b] bx:=
  gc (fV (r:=.old _) (fV (r:=.old _) zw zw (P0 zf zf)) zw zw)
 exact#[_,_,by unfold Wr;rw[fq e1,fq e2,e3]]
theorem Mo {m:aj}{ws:List W}{bx':List Bx}(h:m (ws.map some++List.replicate (n-ws.length) zp) bx=.rt (.b i) bx'):aR n (aZ m) ws bx=.val (.b i) bx':=by
 erw[aR,aZ,DL.envOf,h,qU,qV]
theorem Ul (c:Int) (bx:List Bx):∃ p:Int,jH [.d (.int c)] bx=.val (.b bx.length) (bx++[.lst [.int p]]):=by
 have sz:=bj;have aa0:∀ e b,d2 zc dg (dC (.int 10)) (dC (.int 18)) e b=.val (.d (.int (10 ^ 18))) b:=λe b=>fV (r:=.old _) zw zw (C4 zf);have t:dB (d2 zc vL (dV 0) (d2 zc dg (dC (.int 10)) (dC (.int 18)))) [xN c,zp,zp,zp] bx=.val (decide (10 ^ 18<=c)) bx:=gI (fV (r:=.old _) zw (aa0 _ _) zw);by_cases h:10 ^ 18<=c
 .rw[decide_eq_true h]at t;refine#[c-10 ^ 18,Mo ?_];show jt [xN c,zp,zp,zp] bx=_;unfold jt;refine(gJ ((io t).trans (gU (B3 [.int (c-10 ^ 18)] (fm (fV (r:=.old _) zw (aa0 _ _) zw) zw) (show (1:Nat)<=sizeLine by lia))))).trans zw
 .rw[decide_eq_false h]at t;have rg:=oX (env:=[xN c,xN 0,zp,zp]) (bx:=bx) (k:=64) (m:=fc (dC (.int 64)) fg) zw zf;let#[ax,bx',e,x,w2,w3,rfl,rfl]:=jL (g:=fe 2) (body:=Wr) (λ_ env b=>∃ (x:Int) (w2 w3:Option W),env=[xN c,xN x,w2,w3] /\ b=bx) (fO 0 64) 0 [xN c,xN 0,zp,zp] bx #[0,zp,zp,rfl,rfl] (by
   rintro i w env b hw ⟨x,w2,w3,rfl,rfl⟩;let#[j,_,rfl]:=bJ.mp (vc hw);let#[x',y,e]:=Ji c x (0+(j:Int)) w3 b;exact#[_,_,_,_,rfl,e,x',_,_,rfl,rfl])
  refine#[x,Mo ?_];show jt [xN c,zp,zp,zp] bx'=_;unfold jt;refine(fq (gh t)).trans ?_;refine(fq (gc zw)).trans ?_;refine(fq ((lj rg).trans e)).trans ?_;exact gU (B3 [.int x] zw (show (1:Nat)<=sizeLine by lia))
end K1
namespace K2
open L2 L2.DL K1
noncomputable def hr (d:D):Bool:=match d with
 |.int i=>decide (0<=i)
 |_=>zc
theorem OP (d:D) (bx:List Bx):iT [.d d] bx=.val (.d (.bl (hr d))) bx:=
 gC (by cases d<;>simp[oi,AF,wh,vL,hr])
section
variable {hs:List D} {c hold hour:Int} {x1 x2:Option W} 
end
section
variable {d:D} {rs:List Int} {hold hour:Int} 
end
end K2
namespace L2.DL
section
variable {aK:aN} {ah:List Bx} {l:List W} {c:Nat}
theorem F9 (h:ks env bx=.val l bx1) (hn:l.length=n) (hf:fn l bx1=.exc c ah):fu fn n ks env bx=.exc c ah:=by rw[BU,h,fR,if_pos hn,hf]
theorem SS (h:m env bx=.exc c bx1):gT m env bx=.exc c bx1:=by rw[FU,h];rfl
theorem Um (h:m env bx=.exc c bx1):fN m env bx=.exc c bx1:=by rw[BX,h];rfl
theorem Uo {a b:aj}(h:a env bx=.exc c bx1):fB a b env bx=.exc c bx1:=by rw[oj,h]
theorem OQ {w:W}(h:m env bx=.val w bx1):vS c m env bx=.exc c bx1:=by unfold vS;rw[h];rfl
theorem P3 {m:aj}{ws:List W}(h:m (ws.map some++List.replicate (n-ws.length) zp) bx=.exc c bx):aR n m ws bx=.exc c bx:=by
 erw[aR,DL.envOf,h,qU,qV,wG]
theorem Mp {m:aj}{ws:List W}{e:aN}(h:m (ws.map some++List.replicate (n-ws.length) zp) bx=.nx e bx):aR n m ws bx=.val (.d .non) bx:=by
 erw[aR,DL.envOf,h,qU,qV,wG]
theorem Uq {m:aj}(h:m env bx=.exc c bx1) (hc:c<17):tV m env bx=.rt (.d (.str (wordOf c))) bx1:=by unfold tV;rw[h];exact if_pos hc
theorem ST {m:aj}{w:W}(h:m env bx=.rt w bx1):tV m env bx=.rt w bx1:=by unfold tV;rw[h]
end
end L2.DL
namespace K2
open L2 L2.DL K1
section
variable {h:D} {rs:List Int} {hold:Int} 
theorem oM (t:D):ig [.d t] bx=if hr t then .val (.d .non) bx else .exc 3 bx:=by
 have e:=OP t bx;cases q:hr t with
 |true=>
   rw[q]at e;exact Mp (gh (AK (gI (fK (fm zw zw) zw e))))
 |false=>
   rw[q]at e;exact P3 ((io (AK (gI (fK (fm zw zw) zw e)))).trans (OQ zw))
end
end K2
namespace K1
open L2 L2.DL
section
variable {p:Int} {x y:Bx} {E:List Bx}
theorem lu (h:n<bx.length):pt bx n p++E=pt (bx++E) n p:=by
 unfold pt;rw[Qi _ _ h]
theorem oY (h:n<bx.length):(pt (bx++[x]) n p)[bx.length]?=some x:=by
 rw[<-lu h,<-gK (bx:=bx) (n:=n) (p:=p)];exact List.getElem?_concat_length
theorem Ga (h:n<bx.length):(pt (bx++[x]) n p).set bx.length y=pt (bx++[y]) n p:=by
 rw[<-lu h,<-lu h,<-gK (bx:=bx) (n:=n) (p:=p),List.set_append_right _ _ (au _),sx];rfl
theorem C5 (h:n<bx.length):(pt (bx++E) n p).take bx.length=pt bx n p:=by
 rw[<-lu h,<-gK (bx:=bx) (n:=n) (p:=p),List.take_left]
end
theorem B7 (h:n<bx.length) (p k:Int) (hk:0<k) (vP:k<1073741824):∃ r q,fj [.b n,.d (.int k)] zQ=.val (.d (.int r)) (pt bx n q) /\ 0<=r /\ r<k:=
 #[_,_,il h p k hk vP,iW p hk,iX p hk]
end K1
namespace K2
open L2 L2.DL K1
end K2
namespace kD
open L2 L2.DL K1
theorem mC (h:n<bx.length) {p p1:Int}(he:env[i]?=some (xB n)) {k:Int}(hm:m env zQ=.val (.d (.int k)) (pt bx n p1)) (h0:0<k) (h1:k<1073741824) :
 ∃ r q,fu K1.fj 2 (fc (dV i) (fc m fg)) env zQ=.val (.d (.int r)) (pt bx n q) /\ 0<=r /\ r<k:=by
 let#[r,q,t,a,b]:=B7 h p1 k h0 h1;refine#[r,q,?_,a,b];have e0:dV i env zQ=.val (.b n) zQ:=by unfold dV;rw[he]
 exact fK (fm e0 (fm hm zw)) zw t
theorem we (h:n<bx.length) (p:Int) (he:env[i]?=some (xB n)) (k:Int) (h0:0<k) (h1:k<1073741824) :
 ∃ r q,fu K1.fj 2 (fc (dV i) (fc (dC (.int k)) fg)) env zQ=.val (.d (.int r)) (pt bx n q) /\ 0<=r /\ r<k:=
 mC h he (m:=dC (.int k)) zw h0 h1
theorem Mq (h:n<bx.length) (p:Int) (he:env[i]?=some (xB n)) (l:List Int) (hk:∀ e b,ks e b=.val ((l.map D.int).map W.d) b) {k:Int}(hl:(l.length:Int)=k) (h0:0<k) (h1:k<1000) :
 ∃ v q,d2 zc ag (gx zc ks) (fu K1.fj 2 (fc (dV i) (fc (dC (.int k)) fg))) env zQ=.val (.d (.int v)) (pt bx n q) /\ v∈l:=by
 let#[r,q,t,a,b]:=we h p he k h0 zd;let#[d,e,m]:=lO (l:=l.map D.int) a (by rw[aY,hl];exact b);let#[v,mv,rfl]:=bJ.mp m;have sz:=bj;exact#[v,q,fV (r:=.old (.int v)) (lh (l.map D.int) (hk _ _) (by rw[aY];lia)) t (by erw[ag,e,nX]),mv]
theorem SU (h:m env bx=.val (.b j) bx1) (g:bx1[j]?=some (.lst l)):dN zc bM (fc m fg) env bx=.val (.d (.int l.length)) bx1:=by
 rw[DW,fm (w:=.b j) (l:=[]) h rfl,fR];have:nH bx1 [.b j]=some [.lst l]:=by erw[nH,bT,g,cj,nX]
 rw[this];rfl
theorem D4 {lo:Int}{m:Nat}{w:W}(h:(fO lo m)[j]?=some w):w=.d (.int (lo+j)) /\ j<m:=by
 have hj:=(List.getElem?_eq_some_iff.mp h).1;have hm:j<m:=by simpa[fO] using hj
 simp[fO,hm]at h;exact#[h.symm,hm]
section
variable {ah:List Bx}
theorem C6 {x y:W}{a b:DE W}(h1:a env bx=.val x bx1) (h2:b env bx1=.val y ah):dR i j (fc a (fc b fg)) env bx=.nx ((env.set i (some x)).set j (some y)) ah:=by
 unfold dR;rw[fm h1 (fm h2 rfl),ik]
end
end kD
namespace K2
open L2 L2.DL K1
end K2
namespace kD
open L2 L2.DL K1
section
variable {ah:List Bx}
theorem OR {k:DE W}{t:Nat}{i:Int}{l0:List D}{d:D}(h1:m env bx=.val (.b j) bx1) (g0:bx1[j]?=some (.lst l0)) (h2:k env bx1=.val (.d (.int i)) ah) (g:ah[j]?=some (.lst l)) (hi:-(2 ^ 63)<=i /\ i<2 ^ 63) (hx:bL l.length i=some t) (hd:l[t]?=some d) :
 vU m k env bx=.val (.d d) (ah.set j (.lst (l.eraseIdx t))):=by
 unfold vU;rw[h1,fR];erw[g0,h2,fR,g,if_pos hi,hx,hd]
end
theorem OT {m t:Nat}(h:t<m):bL m (t:Int)=some t:=by
 unfold bL;simp;lia
open K2
section
variable {h:D} {k:Nat}
end
theorem Mr (is:List Int) (b:Int):nu (.int b) (is.map D.int)=is.any λz=>decide (z=b):=by
 unfold nu;rw[E4];rfl
theorem Jj (is:List Int):(is.map D.int).all nq=zu:=by rw[vg];exact cS.mpr λ_ _=>rfl
end kD
namespace ny
open L2 L2.DL
open K1 kD
section
variable {enc:α -> D} {r:aN}
theorem aa1 (p:α->Bool) (f:α->D):∀ (l:List α) (w:Option W) (acc:List D),acc.length+l.length<=sizeLine->(∀ a∈l,tf (some (.d (enc a))::r) bx=.val (p a) bx /\ (p a=zu->te (some (.d (enc a))::r) bx=.val (.d (f a)) bx)) ->
 bq (fe 0) tf te ((l.map enc).map W.d) (w::r) bx acc=.val (acc++(l.filter p).map f) bx:=by
 intro l_;induction l_ with
 |nil=>(intro w acc _ _;simp[bq])
 |cons a l ao=>
   intro w acc n h;let#[h1,h2]:=h a (bF ..);rw[bg]at n;have n':acc.length<sizeLine:=by lia
   have e0:fe 0 (W.d (enc a)) (w::r) bx=some (some (W.d (enc a))::r,bx):=rfl;cases c:p a with
   |false=>
     rw[ve (by simp[c]),<-ao (some (W.d (enc a))) acc zd λx m=>h x (bD _ m)];rw[c]at h1;erw[az,bq,e0,h1,oP]
   |true=>
     rw[vf c];have ih:=ao (some (W.d (enc a))) (acc++[f a]) zB λx m=>h x (bD _ m);rw[c]at h1;erw[az,bq,e0,h1,h2 c,oP,if_pos n',ih];simp
theorem agg {src:List (Option Nat)}{qF:List Bx}{l:List α}(p:α->Bool) (f:α->D) (h1:mi env qF=.val ((l.map enc).map W.d) bx) (he:dE src env=zp::r) (n:l.length<=sizeLine)
 (h:∀ a∈l,tf (some (.d (enc a))::r) bx=.val (p a) bx /\ (p a=zu->te (some (.d (enc a))::r) bx=.val (.d (f a)) bx)):fY zc src mi (fe 0) tf te env qF=.val (.d (.lst ((l.filter p).map f))) bx:=
 lN h1 he (by rw[aa1 p f l none [] (by simpa using n) h];rfl)
theorem Ws {src:List (Option Nat)}{qF:List Bx}{l:List α}(f:α->D) (h1:mi env qF=.val ((l.map enc).map W.d) bx) (he:dE src env=zp::r) (n:l.length<=sizeLine)
 (h:∀ a∈l,te (some (.d (enc a))::r) bx=.val (.d (f a)) bx):fY zc src mi (fe 0) f7 te env qF=.val (.d (.lst (l.map f))) bx:=by
 have:=agg (tf:=f7) (λ_=>zu) f h1 he n λa m=>#[rfl,λ_=>h a m]
 rwa [List.filter_eq_self.mpr λ_ _=>rfl]at this
theorem Jk (l:List α) (p:α->Bool):pw (l.map λd=>D.bl (p d))=some (l.map p):=by
 induction l with
 |nil=>rfl
 |cons d l ih=>simp[pw,ih]
theorem Wt {src:List (Option Nat)}{qF:List Bx}{l:List α}(p:α->Bool) (h1:mi env qF=.val ((l.map enc).map W.d) bx) (he:dE src env=zp::r) (n:l.length<=sizeLine)
 (h:∀ a∈l,te (some (.d (enc a))::r) bx=.val (.d (.bl (p a))) bx):dN zc dh (fc (fY zc src mi (fe 0) f7 te) fg) env qF=.val (.d (.bl (l.all p))) bx:=
 oQ (r:=.old (.bl (l.all p))) [.lst (l.map λa=>.bl (p a))] (fm (Ws _ h1 he n h) zw) (by simp[dh,Jk,vg])
end
noncomputable abbrev tupI (l:List Int):D:=.tup (l.map D.int)
abbrev xU (l:List Int):Option W:=some (.d (tupI l))
theorem C7:∀ l:List Int,PyData.canLayAll0 (bI (l.map D.int))=zu /\ PyData.depthAll (bI (l.map D.int))=0:=by
 intro l_;induction l_ with
 |nil=>exact#[rfl,rfl]
 |cons i l ao=>
   let#[a,b]:=ao;simp[bI,toPy,PyData.canLayAll0,PyData.canLay0,PyData.depthAll,PyData.depth,a,b]
theorem Ms:∀ l:List (List Int),PyData.canLayAll0 (bI (l.map tupI))=zu /\ PyData.depthAll (bI (l.map tupI))<=1:=by
 intro l_;induction l_ with
 |nil=>exact#[rfl,kI _]
 |cons i l ao=>
   let#[a,b]:=ao;let#[c,d]:=C7 i;erw[az,bI,toPy,PyData.canLayAll0,PyData.canLay0,PyData.depthAll,PyData.depth,a,c,d];exact#[rfl,by lia]
theorem OU (l:List Int):pZ (tupI l)=zu:=by
 let#[c,d]:=C7 l;simp[pZ,toPy,PyData.canLay0,PyData.depth,c,d]
theorem Mt (l:List (List Int)):pZ (.lst (l.map tupI))=zu:=by
 let#[c,d]:=Ms l;unfold pZ;erw[toPy,PyData.canLay0,PyData.depth,c,Qm,decide_eq_true_eq];lia
theorem D5 (ps:List (Int×Int)):ps.map dP=(ps.map λq=>[q.1,q.2]).map tupI:=by rw[bw];rfl
theorem Mu (a b:Int×Int):eqv (dP a) (dP b)=decide (a=b):=by
 rw[pN];let#[a1,a2]:=a;let#[b1,b2]:=b;simp[eqv,toPy,bI,PyData.eqv,PyData.eqvAll]
theorem SV (ps:List (Int×Int)) (q:Int×Int):((ps.map dP).any λz=>eqv z (dP q))=decide (q∈ps):=by
 rw[pN,rM,decide_eq_true_eq];constructor
 .rintro⟨z,m,e⟩;let#[x,mx,rfl]:=bJ.mp m;rw[Mu,decide_eq_true_eq]at e;exact e▸mx
 .intro m;exact#[dP q,bJ.mpr #[q,m,rfl],by rw[Mu,decide_eq_true_eq]]
end ny
namespace aB
open L2 L2.DL K1 ny
open HT (cu)
abbrev hs (rs ks:List D) (ps:List (Int×Int)) (hd:D):D:=.tup [.tup rs,.tup ks,.tup (ps.map dP),hd]
structure Hs (rs ks:List D) (ps:List (Int×Int)) (hd:D):zy where
 r1:1<=rs.length
 r5:rs.length<=5
 k1:1<=ks.length
 k4:ks.length<=4
 b:∀ p∈ps,p.1<p.2
 l:ps.length<=1000
 hh:house za=zu
noncomputable def tZ (nr nk:Nat):Pg->zy
 |.aH h l k r p w=>0<=h /\ (0<=l /\ l<=9) /\ (0<=k /\ k<(nk:Int)) /\ (0<=r /\ r<(nr:Int)) /\ (0<=p /\ p<=999) /\ 0<=w /\ w<=99
 |.to h l r=>0<=h /\ (0<=l /\ l<=9) /\ 0<=r /\ r<(nr:Int)
 |.out h l=>0<=h /\ 0<=l /\ l<=9
theorem eq_str (a b:Str):aJ (.str a) (.str b)=some (.old (.bl (decide (a=b)))):=by
 simp[aJ]
theorem ne_str (a b:Str):cP (.str a) (.str b)=some (.old (.bl (!decide (a=b)))):=by
 simp[cP]
section
variable {rs ks:List D} 
theorem SW:(("in":Str)="out")=False:=eq_false zf
theorem Ur:(("in":Str)="to")=False:=eq_false zf
theorem Jl:(("out":Str)="in")=False:=eq_false zf
theorem Us:(("out":Str)="to")=False:=eq_false zf
theorem D6:(("to":Str)="in")=False:=eq_false zf
theorem OV:(("to":Str)="out")=False:=eq_false zf
noncomputable def Ey (rs ks:List D):Pg->List D
 |.aH ..=>[.int 9,.int ((ks.length:Int)-1),.int ((rs.length:Int)-1),.int 999,.int 99]
 |.to ..=>[.int 9,.int ((rs.length:Int)-1)]
 |.out ..=>[.int 9]
noncomputable def bu:Pg->Str
 |.aH ..=>"in"
 |.to ..=>"to"
 |.out ..=>"out"
theorem B8 (g:Pg):ij [.d za,.d (.str (bu g))] bx=.val (.d (.tup (Ey rs ks g))) bx:=
 gC (by
  have s5:(5:Nat)<=sizeLine:=by decide
  have s1:(1:Nat)<=sizeLine:=by decide
  have s2:(2:Nat)<=sizeLine:=by decide
  cases g<;>simp[ju,dR,bM,ag,bf,bL,cD,eq_str,bu,Ey,SW,Ur,Jl,Us,D6,OV,s5,s1,s2])
theorem D7 {i:Int}(h:0<=i):K2.iT [.d (.int i)] bx=.val (.d (.bl zu)) bx:=
 gC (by simp[K2.oi,AF,wh,vL,h])
theorem SX (g:Pg) (ok:tZ rs.length ks.length g):jJ [.d za,.d (enc g)] bx=.val (.d (.bl zu)) bx:=by
 refine gC ?_;have z:sizeLine=16777216:=bj;cases g with
 |aH h l k r p w=>
   let#[a,b,c,d,e,f]:=ok;have g1:=B8 (rs:=rs) (ks:=ks) (ps:=ps) (hd:=hd) (bx:=bx) (.aH h l k r p w);erw[bu,Ey]at g1;simp[lJ,enc,cU,bt,dS,om,bM,eQ,D7 a,ag,bf,bL,cP,cD,g1,qX,DL.cutD,HT.aE,uM,kQ,bq,g9,wi,z,dh,pw];lia
 |to h l r=>
   let#[a,b,c]:=ok;have g1:=B8 (rs:=rs) (ks:=ks) (ps:=ps) (hd:=hd) (bx:=bx) (.to h l r);erw[bu,Ey]at g1;simp[lJ,enc,cU,bt,dS,om,bM,eQ,D7 a,ag,bf,bL,cP,cD,g1,qX,DL.cutD,HT.aE,uM,kQ,bq,g9,wi,z,dh,pw];lia
 |out h l=>
   let#[a,b]:=ok;have g1:=B8 (rs:=rs) (ks:=ks) (ps:=ps) (hd:=hd) (bx:=bx) (.out h l);erw[bu,Ey]at g1;simp[lJ,enc,cU,bt,dS,om,bM,eQ,D7 a,ag,bf,bL,cP,cD,g1,qX,DL.cutD,HT.aE,uM,kQ,bq,g9,wi,z,dh,pw];lia
theorem Ut {qs:List Pg}{g:Pg}(h:qs[i]?=some g):bf (qs.map enc) (i:Int)=some (enc g):=Fs (by rw[nU,h];rfl)
theorem Uu {qs:List Pg}(h:IW qs) (hl:qs.length<=16):K1.ic [.d (.lst (qs.map enc))] bx=.val (.d (.bl zu)) bx:=by
 have z:sizeLine=16777216:=bj;refine gC (gU ?_);have rg:vK (fc zj (fc (dN zc bM (fc (dV 0) fg)) fg)) [some (.d (.lst (qs.map enc)))] bx=.val (((List.range (qs.length-1)).map λ(i:Nat)=>D.int (1+(i:Int))).map W.d) bx:=by
  rw[L9 (i:=1) (j:=(qs.length:Int)) (bx1:=bx) (by simp[bM]) zd,show ((qs.length:Int)-1).toNat=qs.length-1 by lia,bw];rfl
 have:=Wt (l:=List.range (qs.length-1)) (enc:=λ(i:Nat)=>D.int (1+(i:Int))) (r:=[some (.d (.lst (qs.map enc)))]) (te:=d2 zc eQ (d2 zc ag (dV 1) (d2 zc cD (dV 0) zj)) (d2 zc ag (dV 1) (dV 0))) (src:=[zp,some 0]) (λ_=>zu) rg zw (by simp;lia) λi m=>by
  have hi:=List.mem_range.mp m;have e1:qs[i]?=some qs[i]:=pM zd;have e2:qs[i+1]?=some qs[i+1]:=pM zd;have lt:=List.pairwise_iff_getElem.mp h i (i+1) zd zd zd;refine fV (r:=.old (.bl zu)) (x:=enc qs[i]) (y:=enc qs[i+1]) (fV (r:=.old (enc qs[i])) (x:=.lst (qs.map enc)) (y:=.int (i:Int)) zw (fV (r:=.old (.int (i:Int))) (x:=.int (1+(i:Int))) (y:=.int 1) zw zw ?_) ?_) (fV (r:=.old (enc qs[i+1])) (x:=.lst (qs.map enc)) (y:=.int (1+(i:Int))) zw zw ?_) ?_
  .simp[cD];lia
  .simp[ag,Ut e1]
  .have:=Ut e2;rw[show ((i+1:Nat):Int)=1+(i:Int) by lia]at this;simp[ag,this]
  .rw[SN,lt]
 rw[cS.mpr λ_ _=>rfl]at this;exact this
theorem OW (h:Hs rs ks ps hd):yU za:=by
 show short (.tup (ps.map dP));show (ps.map dP).length<=sizeLine;rw[aY,bj];have:=h.l;lia
theorem Mv (l:List D):uG (qW (.lst l)) "list"=zu:=rfl
structure Gs (nr nk:Nat) (gs:List Pg):zy where
 ok:∀ g∈gs,tZ nr nk g
 nd:gs.Nodup
 l:gs.length<=16
theorem OX (G:Gs rs.length ks.length gs):jK [.d za,.d ze] bx=.val (.d (.bl zu)) bx:=by
 have z:sizeLine=16777216:=bj;have gl:=G.l;let#[qs,p,r,e]:=F6 G.nd zd;have ql:=p.length_eq;refine gC ?_;show j9 [some (.d za),some (.d ze)] bx=_;unfold j9;have t:kO (eN (dB (jP "list" (dV 1)))) (dB (d2 zc nJ (dN zc bM zam) (dC (.int 16)))) [some (.d za),some (.d ze)] bx=.val zc bx:=by
  simp[Mv,bM,nJ];lia
 have a:dN zc dh (fc (fY zc [zp,some 0] (bB (dV 1)) (fe 0) f7 (fu aB.jJ 2 (fc (dV 1) (fc (dV 0) fg)))) fg) [some (.d za),some (.d ze)] bx=.val (.d (.bl (gs.all λ_=>zu))) bx:=
  Wt (enc:=enc) (r:=[some (.d za)]) _ (gL zw) zw (by lia) λg m=>fK (l:=[.d za,.d (enc g)]) zw zw (SX g (G.ok g m))
 rw[cS.mpr λ_ _=>rfl]at a;refine(fq (gh t)).trans (gU ?_);rw[OH a,if_pos rfl];exact fK (l:=[.d (.lst (qs.map enc))]) (fm (oQ (r:=.lst (qs.map enc)) [.lst zg] (fm zw zw) (e gs (.refl _))) zw) zw (Uu r zd)
end
noncomputable abbrev Al:=List (Int×Int)
noncomputable def look (l:Al) (x:Int):Option Int:=(l.find? λq=>decide (q.1=x)).map (·.2)
noncomputable def put (l:List (Int×α)) (x:Int) (v:α):List (Int×α):=if (l.any λq=>decide (q.1=x))=zu then l.map (λq=>if q.1=x then (q.1,v) else q) else l++[(x,v)]
noncomputable def p8 (l:List (Int×α)) (x:Int):List (Int×α):=l.filter λq=>decide (q.1≠x)
def kk (K:Al) (l:Int):Int:=(look K l).getD 0
noncomputable def cW (ps:Al) (a b:Int):Bool:=decide ((a,b)∈ps)||decide ((b,a)∈ps)
def eF (ps K R:Al) (k r:Int):Bool:=R.any λq=>decide (q.2=r)&&cW ps k (kk K q.1)
def word (ps K R:Al):Pg->Str
 |.aH _ l k r _ _=>if (look K l).isSome then "there" else if eF ps K R k r then "apart" else "takes"
 | .to _ l r=>match look R l with
   |none=>"none"
   |some r0=>if r0=r then "same" else if eF ps K R (kk K l) r then "apart" else "takes"
 | .out _ l=>match look R l with
   |none=>"none"
   |some _=>"takes"
noncomputable def bb:Pg->Int
 |.aH _ l ..=>l
 |.to _ l _=>l
 |.out _ l=>l
def stK (K:Al):Pg->Al
 |.aH _ l k ..=>put K l k
 |_=>K
def rC (R:Al):Pg->Al
 |.aH _ l _ r ..=>put R l r
 |.to _ l r=>put R l r
 |.out _ l=>p8 R l
def wordsOf (ps:Al):Al->Al->List Pg->List Str
 |_,_,[]=>[]
 |K,R,g::gs=>word ps K R g::(if word ps K R g="takes" then wordsOf ps (stK K g) (rC R g) gs else wordsOf ps K R gs)
structure cK (K R:Al) (n:Nat):zy where
 nd:(R.map (·.1)).Nodup
 sub:∀ q∈R,(look K q.1).isSome=zu
 lk:K.length<=n
 lr:R.length<=n
section
variable {e:α -> D}
noncomputable def aA (e:α->D) (l:List (Int×α)):List (Key×D):=l.map λq=>(.inl q.1,e q.2)
abbrev aV (l:Al):List (Key×D):=aA D.int l
theorem Gb (a b:Int):decide ((Sum.inl a:Key)=Sum.inl b)=decide (a=b):=by
 by_cases h:a=b
 .simp[h]
 .rw[decide_eq_false h];exact decide_eq_false (λz=>h (Sum.inl.inj z))
theorem lQ (l:List (Int×α)) (x:Int):eE (aA e l) (.inl x)=((l.find? λq=>decide (q.1=x)).map (·.2)).map e:=by
 unfold eE aA;rw[List.find?_map];have:((λkv:Key×D=>decide (kv.1=Sum.inl x))∘λq:Int×α=>((Sum.inl q.1:Key),e q.2))=λq=>decide (q.1=x):=by
  funext q;exact Gb q.1 x
 rw[this];cases l.find? λq=>decide (q.1=x)<;>rfl
theorem OY (l:List (Int×α)) (x:Int):((aA e l).any λkv=>decide (kv.1=Sum.inl x))=l.any λq=>decide (q.1=x):=by
 unfold aA;rw[E4];congr 1;funext q;exact Gb q.1 x
theorem Gc (l:List (Int×α)) (x:Int) (v:α):Eo (aA e l) (.inl x) (e v)=aA e (put l x v):=by
 unfold Eo put;rw[OY];split
 .unfold aA;rw[bw,bw];refine qm λq _=>?_;by_cases h:q.1=x
  .simp[h]
  .simp[h]
 .unfold aA;simp
theorem C8 (l:List (Int×α)) (x:Int):tW (aA e l) (.inl x)=aA e (p8 l x):=by
 unfold tW p8 aA;rw[Yk];congr 1;congr 1;funext q;by_cases h:q.1=x<;>simp[h]
theorem mQ (l:List (Int×α)) (x:Int) (v:α):(put l x v).length<=l.length+1:=by
 unfold put;split<;>simp
end
theorem lw {R:Al}(nd:(R.map (·.1)).Nodup) {q:Int×Int}(m:q∈R):look R q.1=some q.2:=by
 induction R with
 |nil=>cases m
 |cons a R ih=>
   rw[az,rL]at nd;unfold look;rw[kZ];rcases bA.mp m with rfl|m
   .simp
   .have:¬ a.1=q.1:=λz=>nd.1 (by rw[z];exact uh m);rw[decide_eq_false this];exact ih nd.2 m
theorem D8 (ps:Al):pZ (.tup (ps.map dP))=zu:=by
 have h:=Mt (ps.map λq=>[q.1,q.2]);rw[<-D5]at h;unfold pZ at h ⊢;simpa[toPy,PyData.canLay0,PyData.depth] using h
theorem AL (neg:Bool) (q:Int×Int) (ps:Al):inD neg (dP q) (.tup (ps.map dP))=some (.old (.bl (if neg then !decide (q∈ps) else decide (q∈ps)))):=by
 show (if nq (dP q)=zu /\ (ps.map dP).all nq=zu then some (Res.old (.bl (if neg then !nu (dP q) (ps.map dP) else nu (dP q) (ps.map dP)))) else vT neg (dP q) (.tup (ps.map dP)) (ps.map dP))=_;rw[if_neg (λz=>by cases z.1)];unfold vT;rw[show pZ (dP q)=true from OU [q.1,q.2],D8,SV];rfl
section
variable {rs ks:List D} 
theorem OZ (h:Hs rs ks ps hd) (a b:Int):iQ [.d za,.d (.int a),.d (.int b)] bx=.val (.d (.bl (!cW ps a b))) bx:=by
 have z:(2:Nat)<=sizeLine:=by decide
 refine gC (gU ?_);have e1:fP (fc (dN zc minD (fc (dV 1) zai)) (fc (dN zc maxD (fc (dV 1) zai)) fg)) [some (.d za),xN a,xN b] bx=.val (.d (dP (if b<a then b else a,if b>a then b else a))) bx:=by
  simp[minD,maxD,z]
 have e2:d2 zc ag (dV 0) zO [some (.d za),xN a,xN b] bx=.val (.d (.tup (ps.map dP))) bx:=by
  simp[ag,bf,bL]
 refine(fV (r:=.old (.bl (!decide ((if b<a then b else a,if b>a then b else a)∈ps)))) e1 e2 (AL zu _ ps)).trans ?_;have:decide ((if b<a then b else a,if b>a then b else a)∈ps)=cW ps a b:=by
  unfold cW;rw[pN];erw[vi,decide_eq_true_eq];by_cases c:b<a
  .rw[if_pos c,if_neg zd];exact#[.inr,λz=>z.elim (λz=>absurd (h.b _ z) zB) id]
  .rw[if_neg c];by_cases d:b>a
   .rw[if_pos d];exact#[.inl,λz=>z.elim id (λz=>absurd (h.b _ z) zB)]
   .rw[if_neg d];have:a=b:=by lia
    subst this;exact#[.inl,λz=>z.elim id id]
 rw[this];rfl
theorem B9 (g:Pg):fL [.d (enc g)] bx=.val (.d (match g with|.aH _ _ _ r _ _=>.int r|.to _ _ r=>.int r|.out ..=>.non)) bx:=
 gC (by cases g<;>simp[lc,enc,cU,bt,dS,ag,bf,bL,eq_str,D6,Jl,Us])
end
section
variable {e:α -> D} {L:List (Int × α)} {k:DE W} {l:Int}
theorem Ge (neg:Bool) (hk:k env bx=.val (.d (.int l)) bx) (hm:m env bx=.val (.b i) bx) (hb:nR bx (.b i)=some (aA e L)) :
 eP neg k m env bx=.val (.d (.bl (if neg then !((L.find? λq=>decide (q.1=l)).map (·.2)).isSome else ((L.find? λq=>decide (q.1=l)).map (·.2)).isSome))) bx:=by
 unfold eP;rw[hk,fR,hm,fR,hb];show O.val (W.d (.bl (if neg then !(eE (aA e L) (.inl l)).isSome else (eE (aA e L) (.inl l)).isSome))) bx=_;rw[lQ,sI]
theorem ly {v:α}(hk:k env bx=.val (.d (.int l)) bx) (hm:m env bx=.val (.b i) bx) (hb:nR bx (.b i)=some (aA e L)) (hf:(L.find? λq=>decide (q.1=l)).map (·.2)=some v):bQ m k env bx=.val (.d (e v)) bx:=by
 unfold bQ;rw[hm,fR,hk,fR,hb];show (match eE (aA e L) (.inl l) with|some u=>O.val (W.d u) bx|none=>.bad)=_;rw[lQ,hf];rfl
theorem lz {l:List (Key×D)}(h:bx[i]?=some (.af l)):nR bx (.b i)=some l:=by unfold nR;erw[h]
theorem P4 {l:List (Key×D)}(h:bx[i]?=some (.fD l)):nR bx (.b i)=some l:=by unfold nR;erw[h]
theorem C9:rn (aA e L)=(L.map λq=>D.int q.1).map W.d:=by
 unfold rn aA;rw[bw,bw];rfl
end
theorem Db {x y:Bx}(h:bx[j]?=some x):(bx.set j y).set j x=bx:=by
 rw[Yj];apply Qe;intro n;by_cases e:j=n
 .subst e;rw[nT (List.getElem?_eq_some_iff.mp h).1,h]
 .rw[rH e]
theorem Uv {l:List (Key×D)}(h:bx[j]?=some (.af l)):pC j (bx.set j (.fD l))=some bx:=by
 unfold pC;rw[nT (List.getElem?_eq_some_iff.mp h).1];erw[Db h]
section
variable {rs ks:List D} {K R:List (Int × Int)} 
abbrev Wu:DE W:=vZ zc [zp,some 2,some 6] 2 (fe 0) (dB (d2 zc aJ (bQ (dV 1) (dV 0)) (dV 2))) (dV 0)
theorem U9 (J:cK K R n) (hn:n<=100) (hj:bx[j]?=some (.af (aV R))) {r:Int}(h2:env[2]?=some (xB j)) (h6:env[6]?=some (xN r)) :
 Wu env bx=.val (.d (.lst ((R.filter λq=>decide (q.2=r)).map λq=>D.int q.1))) bx:=by
 have z:sizeLine=16777216:=bj;have lr:=J.lr;have hb:=nT (a:=.fD (aV R)) (List.getElem?_eq_some_iff.mp hj).1;have c:=aa1 (enc:=λq:Int×Int=>D.int q.1) (tf:=dB (d2 zc aJ (bQ (dV 1) (dV 0)) (dV 2))) (te:=dV 0) (bx:=bx.set j (.fD (aV R))) (r:=[xB j,xN r]) (λq=>decide (q.2=r)) (λq=>.int q.1) R zp [] zB λq m=>
  #[gI (fV (r:=.old (.bl (decide (q.2=r)))) (x:=.int q.2) (y:=.int r) (ly (e:=D.int) (L:=R) zw zw (P4 hb) (lw J.nd m)) zw (by simp[aJ])),λ_=>rfl]
 unfold Wu vZ;erw[h2,hj];have s:dE [zp,some 2,some 6] env=[zp,xB j,xN r]:=by simp[h2,h6]
 rw[s,show rn (aV R)=(R.map λq=>D.int q.1).map W.d from C9,c,fR];show xC j (.val _ _)=_;unfold xC;erw[Uv hj];rfl
abbrev aa2:DE W:=dN zc dh (fc (fY zc [zp,some 0,some 1,some 7] (bB (dV 8)) (fe 0) f7 (fu aB.iQ 3 (fc (dV 1) (fc (dV 3) (fc (bQ (dV 2) (dV 0)) fg))))) fg)
theorem Va (h:Hs rs ks ps hd) (J:cK K R n) (hn:n<=100) (hi:bx[i]?=some (.af (aV K))) {r k:Int}(h0:env[0]?=some (some (.d za))) (h1:env[1]?=some (xB i)) (h7:env[7]?=some (xN k))
 (h8:env[8]?=some (some (.d (.lst ((R.filter λq=>decide (q.2=r)).map λq=>D.int q.1))))):aa2 env bx=.val (.d (.bl (!eF ps K R k r))) bx:=by
 have z:sizeLine=16777216:=bj;have lr:=J.lr;have fl:=ym (λq:Int×Int=>decide (q.2=r)) R;have it:bB (dV 8) env bx=.val (((R.filter λq=>decide (q.2=r)).map λq=>D.int q.1).map W.d) bx:=gL (by unfold dV;rw[h8]);have s:dE [zp,some 0,some 1,some 7] env=zp::[some (.d za),xB i,xN k]:=by simp[h0,h1,h7]
 refine(Wt (enc:=λq:Int×Int=>D.int q.1) (λq=>!cW ps k (kk K q.1)) it s zd λq m=>?_).trans ?_
 .have mq:=(qK.mp m).1;let#[v,hv]:=Option.isSome_iff_exists.mp (J.sub q mq);have e:kk K q.1=v:=by unfold kk;rw[hv];rfl
  rw[e];exact fK (l:=[.d za,.d (.int k),.d (.int v)]) (fm zw (fm zw (fm (ly (e:=D.int) (L:=K) zw zw (lz hi) hv) zw))) zw (OZ h k v)
 .congr 3;unfold eF;rw[pN];erw[cS,qK,pO,Qa,aD,decide_eq_true_eq,not_and,Bool.not_eq_true];exact#[λa q m c=>a q #[m,c],λa q m=>a q m.1 m.2]
def aa3:aj:=(fB (fH Wu (fe 8)) (fB (aF (dB aa2) (fN (dC (.str "takes"))) aS) (fN (dC (.str "apart")))))
theorem Uw (h:Hs rs ks ps hd) (J:cK K R n) (hn:n<=100) (hi:bx[i]?=some (.af (aV K))) (hj:bx[j]?=some (.af (aV R))) (x3 x4 x5 x8:Option W) (k r:Int) :
 aa3 [some (.d za),xB i,xB j,x3,x4,x5,xN r,xN k,x8] bx=.rt (.d (.str (if eF ps K R k r then "apart" else "takes"))) bx:=by
 have a:=U9 (env:=[some (.d za),xB i,xB j,x3,x4,x5,xN r,xN k,x8]) J hn hj zw zw;have b:=Va (env:=[some (.d za),xB i,xB j,x3,x4,x5,xN r,xN k,some (.d (.lst ((R.filter λq=>decide (q.2=r)).map λq=>D.int q.1)))]) h J hn hi zw zw zw zw;refine(fq (gc a)).trans ?_;cases c:eF ps K R k r with
 |true=>
   rw[c]at b;exact(fq (gh (gI b))).trans zw
 |false=>
   rw[c]at b;exact gJ ((io (gI b)).trans zw)
theorem SY (h:Hs rs ks ps hd) (J:cK K R n) (hn:n<=100) (hi:bx[i]?=some (.af (aV K))) (hj:bx[j]?=some (.af (aV R))) (g:Pg) :
 iF [.d za,.b i,.b j,.d (enc g)] bx=.val zas bx:=by
 refine gC ?_;show mf [some (.d za),xB i,xB j,some zG,zp,zp,zp,zp,zp] bx=_;have eM:mf=(fB (dR 4 5 (fc (d2 zc ag (dV 3) zj) (fc (d2 zc ag (dV 3) zO) fg))) (fB (aF (kN zag (dB (eP zc (dV 5) (dV 1)))) (fN (dC (.str "there"))) aS) (fB (aF (kN (dB (d2 zc cP (dV 4) (dC (.str "in")))) (dB (eP zu (dV 5) (dV 2)))) (fN (dC (.str "none"))) aS) (fB (aF (dB (d2 zc aJ (dV 4) (dC (.str "out")))) (fN (dC (.str "takes"))) aS) (fB (fH (fu aB.fL 1 (fc (dV 3) fg)) (fe 6)) (fB (aF (kN (dB (d2 zc aJ (dV 4) (dC (.str "to")))) (dB (d2 zc aJ (bQ (dV 2) (dV 5)) (dV 6)))) (fN (dC (.str "same"))) aS) (fB (fH (uD zag (d2 zc ag (dV 3) zE) (bQ (dV 1) (dV 5))) (fe 7)) aa3))))))):=rfl;rw[eM];have p1:dR 4 5 (fc (d2 zc ag (dV 3) zj) (fc (d2 zc ag (dV 3) zO) fg)) [some (.d za),xB i,xB j,some zG,zp,zp,zp,zp,zp] bx=.nx [some (.d za),xB i,xB j,some zG,some (.d (.str (bu g))),xN (bb g),zp,zp,zp] bx:=by
  cases g<;>simp[dR,enc,cU,bt,dS,ag,bf,bL,bu,bb]
 refine(fq p1).trans ?_;have tE:∀ (w:Str) (x6 x7:Option W),dB (d2 zc aJ (dV 4) (dC (.str w))) [some (.d za),xB i,xB j,some zG,some (.d (.str (bu g))),xN (bb g),x6,x7,zp] bx=.val (decide (bu g=w)) bx:=λw x6 x7=>gI (fV (r:=.old (.bl (decide (bu g=w)))) zw zw (eq_str _ _));have tN:dB (d2 zc cP (dV 4) (dC (.str "in"))) [some (.d za),xB i,xB j,some zG,some (.d (.str (bu g))),xN (bb g),zp,zp,zp] bx=.val (!decide (bu g="in")) bx:=gI (fV (r:=.old (.bl (!decide (bu g="in")))) zw zw (ne_str _ _));have iK:dB (eP zc (dV 5) (dV 1)) [some (.d za),xB i,xB j,some zG,some (.d (.str (bu g))),xN (bb g),zp,zp,zp] bx=.val (look K (bb g)).isSome bx:=gI (Ge (e:=D.int) (L:=K) zc zw zw (lz hi));have iR:dB (eP zu (dV 5) (dV 2)) [some (.d za),xB i,xB j,some zG,some (.d (.str (bu g))),xN (bb g),zp,zp,zp] bx=.val (!(look R (bb g)).isSome) bx:=gI (Ge (e:=D.int) (L:=R) zu zw zw (lz hj));cases g with
 |aH h' l k r p w=>
   show _=OS.rt (W.d (.str (if (look K l).isSome then "there" else if eF ps K R k r then "apart" else "takes"))) bx;have t1:=ou (tE "in" zp zp) iK;cases c:(look K l).isSome with
   |true=>
     rw[show (look K (bb zM)).isSome=true from c]at t1;exact gJ ((io t1).trans zw)
   |false=>
     rw[show (look K (bb zM)).isSome=false from c]at t1;refine(fq ((gh t1).trans zw)).trans ?_;refine(fq ((gh (oq tN)).trans zw)).trans ?_;have t3:=tE "out" zp zp;rw[decide_eq_false (show ¬ bu zM="out" by show ¬ ("in":Str)="out";rw[SW];exact id)]at t3;refine(fq ((gh t3).trans zw)).trans ?_;refine(fq (gc (fK (l:=[.d (enc zM)]) zw zw (B9 _)))).trans ?_;have t4:=tE "to" (xN r) zp;rw[decide_eq_false (show ¬ bu zM="to" by show ¬ ("in":Str)="to";rw[Ur];exact id)]at t4;refine(fq ((gh (oq t4)).trans zw)).trans ?_;have t5:=tE "in" (xN r) zp;have kv:uD zag (d2 zc ag (dV 3) zE) (bQ (dV 1) (dV 5)) [some (.d za),xB i,xB j,some (.d (enc zM)),some (.d (.str (bu zM))),xN (bb zM),xN r,zp,zp] bx=.val (.d (.int k)) bx:=by
      unfold uD;rw[t5,fR];rfl
     exact(fq (gc kv)).trans (Uw h J hn hi hj _ _ _ _ k r)
 |to h' l r=>
   have t1:=tE "in" zp zp;rw[decide_eq_false (show ¬ bu zaf="in" by show ¬ ("to":Str)="in";rw[D6];exact id)]at t1 tN;refine(fq ((gh (oq t1)).trans zw)).trans ?_;have t2:=ou tN iR;show _=OS.rt (W.d (.str (match look R l with|none=>"none"|some r0=>if r0=r then "same" else if eF ps K R (kk K l) r then "apart" else "takes"))) bx;cases c:look R l with
   |none=>
     rw[show look R (bb zaf)=none from c]at t2;exact gJ ((io t2).trans zw)
   |some r0=>
     rw[show look R (bb zaf)=some r0 from c]at t2;refine(fq ((gh t2).trans zw)).trans ?_;have t3:=tE "out" zp zp;rw[decide_eq_false (show ¬ bu zaf="out" by show ¬ ("to":Str)="out";rw[OV];exact id)]at t3;refine(fq ((gh t3).trans zw)).trans ?_;refine(fq (gc (fK (l:=[.d (enc zaf)]) zw zw (B9 _)))).trans ?_;have t4:kN (dB (d2 zc aJ (dV 4) (dC (.str "to")))) (dB (d2 zc aJ (bQ (dV 2) (dV 5)) (dV 6))) [some (.d za),xB i,xB j,some (.d (enc zaf)),some (.d (.str (bu zaf))),xN (bb zaf),xN r,zp,zp] bx=.val (decide (r0=r)) bx:=
      ou (tE "to" (xN r) zp) (gI (fV (r:=.old (.bl (decide (r0=r)))) (x:=.int r0) (y:=.int r) (ly (e:=D.int) (L:=R) zw zw (lz hj) c) zw (by simp[aJ])))
     by_cases d:r0=r
     .rw[decide_eq_true d]at t4;show _=OS.rt (W.d (.str (if r0=r then "same" else if eF ps K R (kk K l) r then "apart" else "takes"))) bx;rw[if_pos d];exact gJ ((io t4).trans zw)
     .rw[decide_eq_false d]at t4;show _=OS.rt (W.d (.str (if r0=r then "same" else if eF ps K R (kk K l) r then "apart" else "takes"))) bx;rw[if_neg d];refine(fq ((gh t4).trans zw)).trans ?_;obtain⟨q,mq,eq⟩:∃ q∈R,q.1=l:=by
       unfold look at c;cases f:R.find? λq=>decide (q.1=l) with
       |none=>rw[f]at c;cases c
       |some q=>exact#[q,Yl f,by have:=Ym f;simpa using this]
      let#[v,hv]:=Option.isSome_iff_exists.mp (J.sub q mq);rw[eq]at hv;have ev:kk K l=v:=by unfold kk;rw[hv];rfl
      have t5:=tE "in" (xN r) zp;rw[decide_eq_false (show ¬ bu zaf="in" by show ¬ ("to":Str)="in";rw[D6];exact id)]at t5;have kv:uD zag (d2 zc ag (dV 3) zE) (bQ (dV 1) (dV 5)) [some (.d za),xB i,xB j,some (.d (enc zaf)),some (.d (.str (bu zaf))),xN (bb zaf),xN r,zp,zp] bx=.val (.d (.int (kk K l))) bx:=by
       unfold uD;rw[t5,fR,ev];exact ly (e:=D.int) (L:=K) zw zw (lz hi) hv
      exact(fq (gc kv)).trans (Uw h J hn hi hj _ _ _ _ (kk K l) r)
 |out h' l=>
   have t1:=tE "in" zp zp;rw[decide_eq_false (show ¬ bu (.out h' l)="in" by show ¬ ("out":Str)="in";rw[Jl];exact id)]at t1 tN;refine(fq ((gh (oq t1)).trans zw)).trans ?_;have t2:=ou tN iR;show _=OS.rt (W.d (.str (match look R l with|none=>"none"|some _=>"takes"))) bx;cases c:look R l with
   |none=>
     rw[show look R (bb (.out h' l))=none from c]at t2;exact gJ ((io t2).trans zw)
   |some r0=>
     rw[show look R (bb (.out h' l))=some r0 from c]at t2;refine(fq ((gh t2).trans zw)).trans ?_;exact gJ ((io (tE "out" zp zp)).trans zw)
end
open kD
theorem im {L:List (Int×α)}{x:Int}{v:α}{q:Int×α}(m:q∈put L x v):(q.1=x /\ q.2=v) \/ q∈L:=by
 unfold put at m;split at m
 .let#[p,mp,rfl]:=bJ.mp m;by_cases h:p.1=x
  .rw[if_pos h];exact .inl #[h,rfl]
  .rw[if_neg h];exact .inr mp
 .rcases List.mem_append.mp m with m|m
  .exact .inr m
  .cases qo.mp m;exact .inl #[rfl,rfl]
theorem Mw {L:List (Int×α)}{x:Int}{v:α}(nd:(L.map (·.1)).Nodup):((put L x v).map (·.1)).Nodup:=by
 unfold put;split
 .rw[bw];have:((λq:Int×α=>q.1)∘λq=>if q.1=x then (q.1,v) else q)=λq=>q.1:=by
   funext q;by_cases h:q.1=x<;>simp[h]
  rw[this];exact nd
 .ext h;rw[Qh,wI];refine#[nd,by simp,λa ma b mb=>?_];cases (qo.mp mb:b=x);let#[q,mq,rfl]:=bJ.mp ma;exact λz=>h (rM.mpr #[q,mq,decide_eq_true z])
theorem SZ {L:List (Int×α)}{x:Int}(nd:(L.map (·.1)).Nodup):((p8 L x).map (·.1)).Nodup:=nd.sublist ((List.filter_sublist).map _)
theorem Bt {L:Al}{x v:Int}(h:look L x=some v):∃ q∈L,q.1=x:=by
 unfold look at h;cases f:L.find? λq=>decide (q.1=x) with
 |none=>rw[f]at h;cases h
 |some q=>exact#[q,Yl f,by have:=Ym f;simpa using this]
theorem mS {L:Al}{x:Int}:(look L x).isSome=zu ↔ ∃ q∈L,q.1=x:=by
 constructor
 .intro h;let#[v,h]:=Option.isSome_iff_exists.mp h;exact Bt h
 .rintro⟨q,m,rfl⟩;unfold look;rw[sI,Qj];exact#[q,m,by simp]
theorem Mx {L:Al}{x v y:Int}(h:y=x \/ (look L y).isSome=zu):(look (put L x v) y).isSome=zu:=by
 rw[mS];have key:∀ z,(∃ q∈L,q.1=z)->∃ q∈put L x v,q.1=z:=λz ⟨q,m,e⟩=>by
  unfold put;split
  .refine#[if q.1=x then (q.1,v) else q,uh m,?_];split<;>exact e
  .exact#[q,qH _ m,e]
 rcases h with rfl|h
 .by_cases c:(look L y).isSome=zu
  .exact key y (mS.mp c)
  .unfold put;rw[if_neg]
   .exact#[(y,v),by simp,rfl]
   .intro z;let#[q,m,e]:=rM.mp z;exact c (mS.mpr #[q,m,of_decide_eq_true e])
 .exact key y (mS.mp h)
theorem cK.step {ps K R:Al}(J:cK K R n) {g:Pg}(h:word ps K R g="takes"):cK (stK K g) (rC R g) (n+1):=by
 have lk:=J.lk;have lr:=J.lr;cases g with
 |aH h' l k r p w=>
   have a:=mQ K l k;have b:=mQ R l r;refine#[Mw J.nd,λq m=>?_,by show (put K l k).length<=_;lia,by show (put R l r).length<=_;lia];rcases im m with m|m
   .exact Mx (.inl m.1)
   .exact Mx (.inr (J.sub q m))
 |to h' l r=>
   have b:=mQ R l r;refine#[Mw J.nd,λq m=>?_,by show K.length<=_;lia,by show (put R l r).length<=_;lia];rcases im m with m|m
   .show (look K q.1).isSome=zu;rw[m.1];cases c:look R l with
    |none=>
      erw[word,c]at h;exact absurd h zf
    |some v=>
      let#[q0,m0,e0]:=Bt c;rw[<-e0];exact J.sub q0 m0
   .exact J.sub q m
 |out h' l=>
   refine#[SZ J.nd,λq m=>J.sub q (qK.mp m).1,by show K.length<=_;lia,?_];have:=ym (λq:Int×Int=>decide (q.1≠l)) R;show (p8 R l).length<=_;unfold p8;lia
def tq (x:Pg×Str×D×D):D:=.tup [enc x.1,.str x.2.1,x.2.2.1,x.2.2.2]
section
variable {rs ks:List D} 
def Bk (bx:List Bx) (T:List (Pg×Str×D×D)) (K R:Al):List Bx:=bx++[.lst (T.map tq),.af (aV K),.af (aV R)]
variable {T T':List (Pg × Str × D × D)} {K R K' R':Al}
theorem Ez:(Bk bx T K R)[bx.length]?=some (.lst (T.map tq)):=by simp[Bk]
theorem aa4:(Bk bx T K R)[bx.length+1]?=some (.af (aV K)):=by simp[Bk,dI]
theorem EA:(Bk bx T K R)[bx.length+2]?=some (.af (aV R)):=by simp[Bk,dI]
theorem aa5:(Bk bx T K R).set bx.length (.lst (T'.map tq))=Bk bx T' K R:=by simp[Bk]
theorem agh:(Bk bx T K R).set (bx.length+1) (.af (aV K'))=Bk bx T K' R:=by simp[Bk,vh]
theorem Wv:(Bk bx T K R).set (bx.length+2) (.af (aV R'))=Bk bx T K R':=by simp[Bk,vh]
abbrev rB:aj:=zar
theorem S0 {aK a7:aN}{ah:List Bx}{w:W}{l:List W}{g:DG}{body:aj}(h1:g w env bx=some (aK,bx1)) (h2:body aK bx1=.ct a7 ah):cC g body (w::l) env bx=cC g body l a7 ah:=by
 rw[cC,h1];erw[h2]
noncomputable abbrev rE (H P:D) (t:Nat) (x5 x6 x7:Option W):aN:=[some (.d H),some (.d P),some (.b t),some (.b (t+1)),some (.b (t+2)),x5,x6,x7]
variable {P:D}
theorem Ux (g:Pg) (h:env[5]?=some (some zG)):d2 zc ag (dV 5) zO env B=.val (.d (.int (bb g))) B:=by
 cases g<;>simp[h,enc,cU,bt,dS,ag,bf,bL,bb]
theorem P5 (g:Pg) (w:Str) (h:env[5]?=some (some zG)):dB (d2 zc aJ (d2 zc ag (dV 5) zj) (dC (.str w))) env B=.val (decide (bu g=w)) B:=by
 refine gI (fV (r:=.old (.bl (decide (bu g=w)))) (x:=.str (bu g)) (y:=.str w) ?_ zw (eq_str _ _));cases g<;>simp[h,enc,cU,bt,dS,ag,bf,bL,bu]
theorem Mz (h:Hs rs ks ps hd) (J:cK K R n) (hn:n<=100) (g:Pg) (x6 x7:Option W) {k:aj} :
 fB (fH (d2 zc ag (dV 5) zO) (fe 6)) (fB (fH (fu aB.iF 4 (fc (dV 0) (fc (dV 3) (fc (dV 4) (fc (dV 5) fg))))) (fe 7)) k) (rE za P bx.length (some zG) x6 x7) (Bk bx T K R) =
  k (rE za P bx.length (some zG) (xN (bb g)) (some zas)) (Bk bx T K R):=
 (fq (gc (Ux g zw))).trans (fq (gc (fK (l:=[.d za,.b (bx.length+1),.b (bx.length+2),.d (enc g)]) zw zw (SY h J hn aa4 EA g))))
theorem P6 (w:Str) (h:env[7]?=some (some (.d (.str w)))):dB (d2 zc cP (dV 7) (dC (.str "takes"))) env B=.val (!decide (w="takes")) B:=
 gI (fV (r:=.old (.bl (!decide (w="takes")))) (x:=.str w) (y:=.str "takes") (by unfold dV;rw[h]) zw (ne_str _ _))
theorem Uy (h:Hs rs ks ps hd) (J:cK K R n) (hn:n<=100) (hT:T.length<=100) (g:Pg) (x6 x7:Option W) (c:¬ word ps K R g="takes") :
 rB (rE za P bx.length (some zG) x6 x7) (Bk bx T K R)=.ct (rE za P bx.length (some zG) (xN (bb g)) (some zas)) (Bk bx (T++[(g,word ps K R g,.non,.non)]) K R):=by
 have z:sizeLine=16777216:=bj;refine(Mz h J hn g x6 x7).trans ?_;have t:=P6 (word ps K R g) (env:=rE za P bx.length (some zG) (xN (bb g)) (some zas)) (B:=Bk bx T K R) zw;rw[decide_eq_false c]at t;have a:=C3 (m:=dV 2) (k:=fP (fc (dV 5) (fc (dV 7) (fc (dC .non) (fc (dC .non) fg))))) (env:=rE za P bx.length (some zG) (xN (bb g)) (some zas)) (i:=bx.length) (l:=T.map tq) (bx:=Bk bx T K R) (d:=tq (g,word ps K R g,.non,.non)) zw Ez (gk [enc g,.str (word ps K R g),.non,.non] zw zB) Ez zB;rw[show T.map tq++[tq (g,word ps K R g,D.non,D.non)]=(T++[(g,word ps K R g,D.non,D.non)]).map tq by simp,aa5]at a;rw[oj,io t,fq (iV a)];rfl
noncomputable def cX:Pg->D
 |.aH _ _ _ r _ _=>.int r
 |.to _ _ r=>.int r
 |.out ..=>.non
theorem Dc {L:Al}{k v:DE W}{l x:Int}(hv:v env B=.val (.d (.int x)) B) (hm:m env B=.val (.b i) B) (hk:k env B=.val (.d (.int l)) B) (hb:B[i]?=some (.af (aV L))) (hl:L.length<=1000):kS m k v env B=.nx env (B.set i (.af (aV (put L l x)))):=by
 have z:sizeLine=16777216:=bj;unfold kS;rw[hv,ik,hm,ik,hk,ik];erw[hb,nQ];rw[if_pos (by unfold aV aA;simp;lia),Gc]
theorem P7 {L:Al}{k:DE W}{l:Int}(hm:m env B=.val (.b i) B) (hk:k env B=.val (.d (.int l)) B) (hb:B[i]?=some (.af (aV L))) (hs:(look L l).isSome=zu):tX m k env B=.nx env (B.set i (.af (aV (p8 L l)))):=by
 unfold tX;rw[hm,ik,hk,ik];erw[hb,nQ];rw[if_pos (by rw[lQ,sI];exact hs),C8]
theorem S3 {L:Al}{k:DE W}{l:Int}(hm:m env B=.val (.b i) B) (hk:k env B=.val (.d (.int l)) B) (hb:B[i]?=some (.af (aV L))):uP m k env B=.val (.d (((look L l).map D.int).getD .non)) B:=by
 unfold uP;rw[hm,fR];erw[hb,hk,fR,nQ];rw[lQ];rfl
theorem Dd {h' l:Int}(c:word ps K R (.out h' l)="takes"):(look R l).isSome=zu:=by
 erw[word]at c;cases e:look R l with
 |none=>rw[e]at c;exact absurd c zf
 |some v=>rfl
theorem S4 (h:Hs rs ks ps hd) (J:cK K R n) (hn:n<=100) (hT:T.length<=100) (g:Pg) (x6 x7:Option W) (c:word ps K R g="takes") :
 ∃ x,rB (rE za P bx.length (some zG) x6 x7) (Bk bx T K R)=.nx (rE za P bx.length (some zG) (xN (bb g)) (some zas)) (Bk bx (T++[(g,word ps K R g,x,cX g)]) (stK K g) (rC R g)):=by
 have z:sizeLine=16777216:=bj;have lk:=J.lk;have lr:=J.lr;refine#[((look R (bb g)).map D.int).getD .non,(Mz h J hn g x6 x7).trans ?_];generalize hE:rE za P bx.length (some zG) (xN (bb g)) (some zas)=E;have e2:∀ B,dV 2 E B=.val (.b bx.length) B:=λB=>by subst hE;rfl
 have e3:∀ B,dV 3 E B=.val (.b (bx.length+1)) B:=λB=>by subst hE;rfl
 have e4:∀ B,dV 4 E B=.val (.b (bx.length+2)) B:=λB=>by subst hE;rfl
 have e5:E[5]?=some (some zG):=by subst hE;rfl
 have v5:∀ B,dV 5 E B=.val zG B:=λB=>by subst hE;rfl
 have e6:∀ B,dV 6 E B=.val (.d (.int (bb g))) B:=λB=>by subst hE;rfl
 have e7:∀ B,dV 7 E B=.val zas B:=λB=>by subst hE;rfl
 have t:=P6 (word ps K R g) (env:=E) (B:=Bk bx T K R) (by subst hE;rfl);rw[decide_eq_true c]at t;refine(fq ((gh t).trans zw)).trans ?_;have en:∀ B,fu aB.fL 1 (fc (dV 5) fg) E B=.val (.d (cX g)) B:=λB=>(fK (l:=[.d (enc g)]) (fm (v5 B) zw) zw (B9 g)).trans (by cases g<;>rfl);have a:=C3 (m:=dV 2) (k:=fP (fc (dV 5) (fc (dV 7) (fc (uP (dV 4) (dV 6)) (fc (fu aB.fL 1 (fc (dV 5) fg)) fg))))) (env:=E) (i:=bx.length) (l:=T.map tq) (bx:=Bk bx T K R) (d:=tq (g,word ps K R g,((look R (bb g)).map D.int).getD .non,cX g)) (e2 _) Ez
  (gk [enc g,.str (word ps K R g),((look R (bb g)).map D.int).getD .non,cX g] (fm (v5 _) (fm (e7 _) (fm (S3 (e4 _) (e6 _) EA) (fm (en _) zw)))) zB) Ez zB
 rw[show T.map tq++[tq (g,word ps K R g,((look R (bb g)).map D.int).getD .non,cX g)]=(T++[(g,word ps K R g,((look R (bb g)).map D.int).getD .non,cX g)]).map tq by simp,aa5]at a;refine(fq (iV a)).trans ?_;generalize T++[(g,word ps K R g,((look R (bb g)).map D.int).getD .non,cX g)]=T2;have ti:=P5 g "in" (B:=Bk bx T2 K R) e5;have to:=λK2=>P5 g "out" (B:=Bk bx T2 K2 R) e5;cases g with
 |aH h' l k r p w=>
   have p1:=Dc (v:=d2 zc ag (dV 5) zE) (x:=k) (B:=Bk bx T2 K R) (env:=E) (by rw[OA,v5];rfl) (e3 _) (e6 _) aa4 zd;rw[agh]at p1;refine(fq ((io ti).trans p1)).trans ?_;have to:=to (put K l k);rw[decide_eq_false (show ¬ bu zM="out" by show ¬ ("in":Str)="out";rw[SW];exact id)]at to;have p2:=Dc (v:=fu aB.fL 1 (fc (dV 5) fg)) (x:=r) (B:=Bk bx T2 (put K l k) R) (env:=E) (en _) (e4 _) (e6 _) EA zd;rw[Wv]at p2;exact(gh to).trans p2
 |to h' l r=>
   rw[decide_eq_false (show ¬ bu zaf="in" by show ¬ ("to":Str)="in";rw[D6];exact id)]at ti;refine(fq ((gh ti).trans zw)).trans ?_;have to:=to K;rw[decide_eq_false (show ¬ bu zaf="out" by show ¬ ("to":Str)="out";rw[OV];exact id)]at to;have p2:=Dc (v:=fu aB.fL 1 (fc (dV 5) fg)) (x:=r) (B:=Bk bx T2 K R) (env:=E) (en _) (e4 _) (e6 _) EA zd;rw[Wv]at p2;exact(gh to).trans p2
 |out h' l=>
   rw[decide_eq_false (show ¬ bu (.out h' l)="in" by show ¬ ("out":Str)="in";rw[Jl];exact id)]at ti;refine(fq ((gh ti).trans zw)).trans ?_;have p2:=P7 (B:=Bk bx T2 K R) (env:=E) (e4 _) (e6 _) EA (Dd c);rw[show bb (.out h' l)=l from rfl,Wv]at p2;exact(io (to K)).trans p2
def uX (ps:Al):Al->Al->List Pg->List D
 |_,_,[]=>[]
 |K,R,g::gs=>if word ps K R g="takes" then cX g::uX ps (stK K g) (rC R g) gs else .non::uX ps K R gs
theorem Jm (h:Hs rs ks ps hd):∀ (gs:List Pg) (T:List (Pg×Str×D×D)) (K R:Al) (n:Nat) (x5 x6 x7:Option W),cK K R n->n+gs.length<=100->T.length+gs.length<=100 ->
 ∃ T' K' R' y5 y6 y7,cC (fe 5) rB ((gs.map enc).map W.d) (rE za P bx.length x5 x6 x7) (Bk bx T K R)=.nx (rE za P bx.length y5 y6 y7) (Bk bx (T++T') K' R') /\ T'.map (λx=>(x.1,x.2.1))=gs.zip (wordsOf ps K R gs) /\ T'.map (λx=>x.2.2.2)=uX ps K R gs:=by
 intro l_;induction l_ with
 |nil=>exact λT K R n x5 x6 x7 _ _ _=>#[[],K,R,x5,x6,x7,by simp[cC],rfl,rfl]
 |cons g gs ao=>
   intro T K R n x5 x6 x7 J hn hT;rw[bg]at hn hT;have g1:fe 5 (W.d (enc g)) (rE za P bx.length x5 x6 x7) (Bk bx T K R)=some (rE za P bx.length (some zG) x6 x7,Bk bx T K R):=rfl;by_cases c:word ps K R g="takes"
   .let#[x,e]:=S4 (P:=P) (bx:=bx) (T:=T) h J zd zd g x6 x7 c;let#[T',K',R',y5,y6,y7,e2,z,z2]:=ao (T++[(g,word ps K R g,x,cX g)]) (stK K g) (rC R g) (n+1) (some zG) (xN (bb g)) (some zas) (J.step c) zd zB;refine#[(g,word ps K R g,x,cX g)::T',K',R',y5,y6,y7,?_,?_,?_]
    .rw[az,az,lm g1 e,e2,rJ];rfl
    .unfold wordsOf;rw[if_pos c,pK,az,z]
    .unfold uX;rw[if_pos c,az,z2]
   .have e:=Uy (P:=P) (bx:=bx) h J zd zd (T:=T) g x6 x7 c;let#[T',K',R',y5,y6,y7,e2,z,z2]:=ao (T++[(g,word ps K R g,.non,.non)]) K R n (some zG) (xN (bb g)) (some zas) J zd zB;refine#[(g,word ps K R g,.non,.non)::T',K',R',y5,y6,y7,?_,?_,?_]
    .rw[az,az,S0 g1 e,e2,rJ];rfl
    .unfold wordsOf;rw[if_neg c,pK,az,z]
    .unfold uX;rw[if_neg c,az,z2]
def p9 (ps:Al) (qs:List Pg):List D:=(qs.zip (wordsOf ps [] [] qs)).map λp=>.tup [enc p.1,.str p.2]
theorem xG:cK [] [] 0:=#[by simp,(λq m=>nomatch m),au _,au _]
theorem S5 (h:Hs rs ks ps hd) {qs:List Pg}(hl:qs.length<=16) (so:cV [.lst zg]=some (.lst (qs.map enc))) :
 ∃ T':List (Pg×Str×D×D),BR [.d za,.d ze] bx=.val (.d (.lst (T'.map tq))) bx /\ T'.map (λx=>(x.1,x.2.1))=qs.zip (wordsOf ps [] [] qs) /\ T'.map (λx=>x.2.2.2)=uX ps [] [] qs:=by
 let#[T',K',R',y5,y6,y7,e,z,z2]:=Jm (P:=.lst zg) (bx:=bx) h qs [] [] [] 0 zp zp zp xG zd zB;refine#[T',?_,z,z2];have s1:fH (gx zu fg) (fe 2) [some (.d za),some (.d ze),zp,zp,zp,zp,zp,zp] bx=.nx [some (.d za),some (.d ze),xB bx.length,zp,zp,zp,zp,zp] (bx++[.lst []]):=gc (B3 [] zw (kI _));have s2:fH (nN zu []) (fe 3) [some (.d za),some (.d ze),xB bx.length,zp,zp,zp,zp,zp] (bx++[.lst []])=.nx [some (.d za),some (.d ze),xB bx.length,xB (bx.length+1),zp,zp,zp,zp] (bx++[.lst [],.af []]):=by
  have:nN zu [] [some (.d za),some (.d ze),xB bx.length,zp,zp,zp,zp,zp] (bx++[.lst []])=.val (.b (bx.length+1)) (bx++[.lst [],.af []]):=by
   simp[nN,bX]
  exact gc this
 have s3:fH (nN zu []) (fe 4) [some (.d za),some (.d ze),xB bx.length,xB (bx.length+1),zp,zp,zp,zp] (bx++[.lst [],.af []])=.nx (rE za ze bx.length zp zp zp) (Bk bx [] [] []):=by
  have:nN zu [] [some (.d za),some (.d ze),xB bx.length,xB (bx.length+1),zp,zp,zp,zp] (bx++[.lst [],.af []])=.val (.b (bx.length+2)) (Bk bx [] [] []):=by
   simp[nN,bX,Bk,aA]
  exact gc this
 have it:bB (dN zc cV zam) (rE za ze bx.length zp zp zp) (Bk bx [] [] [])=.val ((qs.map enc).map W.d) (Bk bx [] [] []):=
  gL (oQ (r:=.lst (qs.map enc)) [.lst zg] (fm zw zw) so)
 have b:LS [some (.d za),some (.d ze),zp,zp,zp,zp,zp,zp] bx=.rt (.d (.lst (T'.map tq))) ((Bk bx T' K' R').set bx.length .dead):=by
  refine(fq s1).trans ((fq s2).trans ((fq s3).trans ((fq ((lj it).trans e)).trans ?_)));rw[nz];exact gU (PZ zw Ez)
 refine(oz (ws:=[.d za,.d ze]) b).trans ?_;simp[Bk,Yn]
abbrev g4:DG:=gn 4 (fE (fe 0) (fE (fe 1) (fE (fe 2) (fE (fe 3) gz))))
end
noncomputable abbrev At:=List (Int×(Int×Int))
def aq (K R:Al):At:=R.map λq=>(q.1,(kk K q.1,q.2))
theorem MA {L:List (Int×α)}(nd:(L.map (·.1)).Nodup) {q:Int×α}(m:q∈L):(L.find? λp=>decide (p.1=q.1)).map (·.2)=some q.2:=by
 induction L with
 |nil=>cases m
 |cons a L ih=>
   rw[az,rL]at nd;rw[kZ];rcases bA.mp m with rfl|m
   .simp
   .have:¬ a.1=q.1:=λz=>nd.1 (by rw[z];exact uh m);rw[decide_eq_false this];exact ih nd.2 m
theorem AM {K R:Al}:(aq K R).map (·.1)=R.map (·.1):=by unfold aq;rw[bw];rfl
theorem mT {K R:Al}{l:Int}:((aq K R).find? λp=>decide (p.1=l)).map (·.2)=(look R l).map λr=>(kk K l,r):=by
 unfold aq look;induction R with
 |nil=>rfl
 |cons a R ih=>
   rw[az,kZ,kZ];by_cases h:a.1=l
   .simp[h]
   .rw[decide_eq_false h];exact ih
theorem AN {β:Type}{L:List (Int×α)}{M:List (Int×β)}(h:L.map (·.1)=M.map (·.1)) (x:Int):(L.any λq=>decide (q.1=x))=M.any λq=>decide (q.1=x):=by
 have:∀ {γ:Type}(N:List (Int×γ)),(N.any λq=>decide (q.1=x))=(N.map (·.1)).any λy=>decide (y=x):=λN=>by rw[E4];rfl
 rw[this,this,h]
theorem Jn {β:Type}{L:List (Int×α)}{M:List (Int×β)}(h:L.map (·.1)=M.map (·.1)) (x:Int):((L.find? λq=>decide (q.1=x)).map (·.2)).isSome=((M.find? λq=>decide (q.1=x)).map (·.2)).isSome:=by
 rw[sI,sI,pN,Qj,Qj];have:=AN h x;rw[pN,rM,rM]at this;exact this
theorem Gf {K R:Al}{l r:Int}:put (aq K R) l (kk K l,r)=aq K (put R l r):=by
 unfold put;rw[AN AM];split
 .unfold aq;rw[bw,bw];refine qm λq _=>?_;by_cases c:q.1=l<;>simp[c]
 .unfold aq;simp
theorem O0 {K R:Al}{l:Int}:p8 (aq K R) l=aq K (p8 R l):=by
 unfold p8 aq;rw[Yk];rfl
theorem oA {K:Al}{l k x:Int}(h:look K l=zp):kk (put K l k) x=if x=l then k else kk K x:=by
 have na:¬ (K.any λq=>decide (q.1=l))=zu:=λz=>by
  let#[q,m,e]:=rM.mp z;have:(look K l).isSome=zu:=mS.mpr #[q,m,of_decide_eq_true e];rw[h]at this;cases this
 unfold kk put;rw[if_neg na];unfold look at h ⊢;rw[List.find?_append];by_cases c:x=l
 .subst c;rw[Option.map_eq_none_iff]at h;simp[h]
 .rw[if_neg c];have c':¬ l=x:=λz=>c z.symm;cases K.find? λq=>decide (q.1=x)<;>simp[c']
theorem O1 {K R:Al}{l k r:Int}(J:cK K R n) (h:look K l=zp):put (aq K R) l (k,r)=aq (put K l k) (put R l r):=by
 have e:aq (put K l k) R=aq K R:=by
  unfold aq;refine qm λq m=>?_;have:q.1≠l:=λz=>by
   have:=J.sub q m;rw[z,h]at this;cases this
  rw[oA h,if_neg this]
 have:kk (put K l k) l=k:=by rw[oA h,if_pos rfl]
 rw[<-Gf,e,this]
section
variable {rs ks:List D} {K R:List (Int × Int)} {b:Nat} {k:Int}
theorem P8 {C:List Bx}{x y:DE W}{k v:Int}(h0:env[0]?=some (some (.d za))) (hx:x env C=.val (.d (.int k)) C) (hy:y env C=.val (.d (.int v)) C) :
 dB (d2 zc (inD zc) (fP (fc x (fc y fg))) (d2 zc ag (dV 0) zO)) env C=.val (decide ((k,v)∈ps)) C:=by
 have z:(2:Nat)<=sizeLine:=by decide
 refine gI (fV (r:=.old (.bl (decide ((k,v)∈ps)))) (x:=dP (k,v)) (y:=.tup (ps.map dP)) (gk [.int k,.int v] (fm hx (fm hy zw)) z) ?_ (AL zc (k,v) ps));simp[h0,ag,bf,bL]
abbrev Ka:aj:=zao
theorem O2 (hb:B[b]?=some (.fD zax)) (nd:(R.map (·.1)).Nodup):∀ (L:Al) (acc:List D) (x4 x5:Option W),(∀ q∈L,q∈R)->acc.length+L.length<=1000 ->
 ∃ y4 y5,cC (fe 4) Ka ((L.map λq=>D.int q.1).map W.d) [some (.d za),xB b,xN k,xB B.length,x4,x5] (B++[.lst acc])=.nx [some (.d za),xB b,xN k,xB B.length,y4,y5] (B++[.lst (acc++(L.filter λq=>cW ps k (kk K q.1)).map dP)]):=by
 intro l_;induction l_ with
 |nil=>exact λacc x4 x5 _ _=>#[x4,x5,by simp[cC]]
 |cons q L ao=>
   intro acc x4 x5 hm hl;have z:sizeLine=16777216:=bj;rw[bg]at hl;have mq:=hm q (bF ..);have nt:((aq K R).map (·.1)).Nodup:=by rw[AM];exact nd
   have mt:(q.1,(kk K q.1,q.2))∈aq K R:=bJ.mpr #[q,mq,rfl];have bl:=(List.getElem?_eq_some_iff.mp hb).1;have sW:∀ a,(B++[Bx.lst a])[b]?=some (.fD zax):=λa=>by rw[dJ bl];exact hb
   have g1:∀ (x5:Option W) (a:List D),bQ (dV 1) (dV 4) [some (.d za),xB b,xN k,xB B.length,xN q.1,x5] (B++[.lst a])=.val (.d (dP (kk K q.1,q.2))) (B++[.lst a]):=λx5 a=>ly (e:=dP) (L:=aq K R) zw zw (P4 (sW a)) (MA nt mt);have s1:fH (d2 zc ag (bQ (dV 1) (dV 4)) zm) (fe 5) [some (.d za),xB b,xN k,xB B.length,xN q.1,x5] (B++[.lst acc])=.nx zaa (B++[.lst acc]):=
    gc (fV (r:=.old (.int (kk K q.1))) (g1 _ _) zw zw)
   have t1:=P8 (env:=zaa) (C:=B++[.lst acc]) (x:=dV 2) (y:=dV 5) (k:=k) (v:=kk K q.1) zw zw zw;have t2:=P8 (env:=zaa) (C:=B++[.lst acc]) (x:=dV 5) (y:=dV 2) (k:=kk K q.1) (v:=k) zw zw zw;have t:kO (dB (d2 zc (inD zc) (fP (fc (dV 2) (fc (dV 5) fg))) (d2 zc ag (dV 0) zO))) (dB (d2 zc (inD zc) (fP (fc (dV 5) zai)) (d2 zc ag (dV 0) zO))) zaa (B++[.lst acc])=.val (cW ps k (kk K q.1)) (B++[.lst acc]):=by
    unfold cW;by_cases c:(k,kk K q.1)∈ps
    .rw[decide_eq_true c]at t1 ⊢;exact Uj t1
    .rw[decide_eq_false c]at t1 ⊢;rw[Ql];exact Md t1 t2
   have f1:fe 4 (W.d (.int q.1)) [some (.d za),xB b,xN k,xB B.length,x4,x5] (B++[.lst acc])=some ([some (.d za),xB b,xN k,xB B.length,xN q.1,x5],B++[.lst acc]):=rfl;cases c:cW ps k (kk K q.1) with
   |false=>
     rw[c]at t;let#[y4,y5,e]:=ao acc (xN q.1) (xN (kk K q.1)) (λq m=>hm q (bD _ m)) zd;refine#[y4,y5,?_];have bd:Ka [some (.d za),xB b,xN k,xB B.length,xN q.1,x5] (B++[.lst acc])=.nx zaa (B++[.lst acc]):=(fq s1).trans ((gh t).trans zw);rw[az,az,lm f1 bd,e,ve (by simp[c])]
   |true=>
     rw[c]at t;let#[y4,y5,e]:=ao (acc++[dP q]) (xN q.1) (xN (kk K q.1)) (λq m=>hm q (bD _ m)) zB;have b0:(B++[Bx.lst acc])[B.length]?=some (.lst acc):=by simp
     have a:=C3 (m:=dV 3) (k:=fP (fc (dV 4) (fc (d2 zc ag (bQ (dV 1) (dV 4)) zj) fg))) (env:=zaa) (bx:=B++[.lst acc]) (i:=B.length) (d:=dP q) zw b0 (gk [.int q.1,.int q.2] (fm zw (fm (fV (r:=.old (.int q.2)) (g1 _ _) zw zw) zw)) zB) b0 zd;rw[show (B++[Bx.lst acc]).set B.length (.lst (acc++[dP q]))=B++[.lst (acc++[dP q])] by simp]at a;refine#[y4,y5,?_];have bd:Ka [some (.d za),xB b,xN k,xB B.length,xN q.1,x5] (B++[.lst acc])=.nx zaa (B++[.lst (acc++[dP q])]):=(fq s1).trans ((io t).trans (iV a));rw[az,az,lm f1 bd,e,vf (by simp[c])];simp
theorem Gg (J:cK K R n) (hn:n<=100) (hb:B[b]?=some (.af zax)):gq [.d za,.b b,.d (.int k)] B=.val (.d (.lst ((R.filter λq=>cW ps k (kk K q.1)).map dP))) B:=by
 have z:sizeLine=16777216:=bj;have lr:=J.lr;have bl:=(List.getElem?_eq_some_iff.mp hb).1;have hf:(B.set b (.fD zax))[b]?=some (.fD zax):=nT bl;let#[y4,y5,e]:=O2 (rs:=rs) (ks:=ks) (ps:=ps) (hd:=hd) (k:=k) (B:=B.set b (.fD zax)) hf J.nd R [] zp zp (λq m=>m) zB;rw[nV,nz]at e;have kw:rn zax=(R.map λq=>D.int q.1).map W.d:=by
  rw[C9];simp[aq,adb]
 have b1:(B++[Bx.lst []])[b]?=some (.af zax):=by rw[dJ bl];exact hb
 have fk:vY 1 (fe 4) Ka [some (.d za),xB b,xN k,xB B.length,zp,zp] (B++[.lst []])=.nx [some (.d za),xB b,xN k,xB B.length,y4,y5] (B++[.lst ((R.filter λq=>cW ps k (kk K q.1)).map dP)]):=by
  unfold vY;erw[show ([some (.d (hs rs ks ps hd)),xB b,xN k,xB B.length,none,none]:aN)[1]?=some (some (W.b b)) from rfl,b1];rw[kw,Qi _ _ bl,e];show uS b (.nx _ _)=_;unfold uS;have th:pC b (B.set b (.fD zax)++[.lst ((R.filter λq=>cW ps k (kk K q.1)).map dP)])=some (B++[.lst ((R.filter λq=>cW ps k (kk K q.1)).map dP)]):=by
   unfold pC;rw[dJ (by rw[nV];exact bl),hf];simp only;rw[Qi _ _ (by rw[nV];exact bl),Db hb]
  erw[th]
 have m:oK [some (.d za),xB b,xN k,zp,zp,zp] B=.rt (.d (.lst ((R.filter λq=>cW ps k (kk K q.1)).map dP))) ((B++[Bx.lst ((R.filter λq=>cW ps k (kk K q.1)).map dP)]).set B.length .dead):=by
  refine(fq (gc (B3 [] zw (kI _)))).trans ((fq fk).trans ?_);exact gU (PZ zw zq)
 refine(oz (ws:=[.d za,.b b,.d (.int k)]) m).trans ?_;simp
end
def Bl (bx:List Bx) (th:At) (ca:List (Int×Pg)) (go:Al) (dr:List (List Key×D)) (av wd:List D):List Bx:=bx++[.af (aA dP th),.af (aA enc ca),.af (aV go),.dT dr,.lst av,.lst wd]
noncomputable abbrev ml (n:Nat):List (Str×Nat):=[("there",n),("came",n+1),("gone",n+2),("doors",n+3),("at",n+4),("words",n+5)]
section
variable {th aa6:At} {kF:List (Int × Pg)} {go go':Al} {dr dF:List (List Key × D)} {av aa7 wd aa8:List D}
theorem ua:(Bl bx th ca go dr av wd)[bx.length]?=some (.af (aA dP th)):=by simp[Bl]
theorem Ww:(Bl bx th ca go dr av wd)[bx.length+1]?=some (.af (aA enc ca)):=by simp[Bl,dI]
theorem agi:(Bl bx th ca go dr av wd)[bx.length+2]?=some (.af (aV go)):=by simp[Bl,dI]
theorem Kb:(Bl bx th ca go dr av wd)[bx.length+3]?=some (.dT dr):=by simp[Bl,dI]
theorem Wx:(Bl bx th ca go dr av wd)[bx.length+4]?=some (.lst av):=by simp[Bl,dI]
theorem aa9:(Bl bx th ca go dr av wd)[bx.length+5]?=some (.lst wd):=by simp[Bl,dI]
theorem Wy:(Bl bx th ca go dr av wd).set bx.length (.af (aA dP aa6))=Bl bx aa6 ca go dr av wd:=by simp[Bl]
theorem agj:(Bl bx th ca go dr av wd).set (bx.length+1) (.af (aA enc kF))=Bl bx th kF go dr av wd:=by simp[Bl,vh]
theorem pd:(Bl bx th ca go dr av wd).set (bx.length+2) (.af (aV go'))=Bl bx th ca go' dr av wd:=by simp[Bl,vh]
theorem Kc:(Bl bx th ca go dr av wd).set (bx.length+3) (.dT dF)=Bl bx th ca go dF av wd:=by simp[Bl,vh]
theorem agk:(Bl bx th ca go dr av wd).set (bx.length+4) (.lst aa7)=Bl bx th ca go dr aa7 wd:=by simp[Bl,vh]
theorem Eu:(Bl bx th ca go dr av wd).set (bx.length+5) (.lst aa8)=Bl bx th ca go dr av aa8:=by simp[Bl,vh]
theorem MB:(Bl bx th ca go dr av wd).length=bx.length+6:=by simp[Bl]
end
theorem jw {k:Str}(h:m env B=.val (.m (ml n)) B) (hk:(ml n).lookup k=some j):bN m k env B=.val (.b j) B:=by
 unfold bN;rw[h,fR];erw[hk]
theorem aba:(ml n).lookup ("there":Str)=some n:=rfl
theorem Wz:(ml n).lookup ("came":Str)=some (n+1):=by rfl
theorem agl:(ml n).lookup ("gone":Str)=some (n+2):=by rfl
theorem Kd:(ml n).lookup ("doors":Str)=some (n+3):=by rfl
theorem abb:(ml n).lookup ("at":Str)=some (n+4):=by rfl
theorem agm:(ml n).lookup ("words":Str)=some (n+5):=by rfl
noncomputable def aP:Pg->Int
 |.aH h ..=>h
 |.to h ..=>h
 |.out h _=>h
section
variable {e:α -> D} {L:List (Int × α)} {k v:DE W} {l:Int}
theorem Ca {x:α}(hv:v env B=.val (.d (e x)) B) (hm:m env B=.val (.b i) B) (hk:k env B=.val (.d (.int l)) B) (hb:B[i]?=some (.af (aA e L))) (hl:L.length<=1000):kS m k v env B=.nx env (B.set i (.af (aA e (put L l x)))):=by
 have z:sizeLine=16777216:=bj;unfold kS;rw[hv,ik,hm,ik,hk,ik];erw[hb,nQ];rw[if_pos (by unfold aA;simp;lia),Gc]
theorem S6 {x:α}(hm:m env B=.val (.b i) B) (hk:k env B=.val (.d (.int l)) B) (hb:B[i]?=some (.af (aA e L))) (hs:(L.find? λq=>decide (q.1=l)).map (·.2)=some x):xA m k env B=.val (.d (e x)) (B.set i (.af (aA e (p8 L l)))):=by
 unfold xA;rw[hm,fR];erw[hb,hk,fR,nQ];rw[lQ,hs,C8];rfl
theorem Cb {dr:List (List Key×D)}{a b:Int}{d:D}(hv:v env B=.val (.d d) B) (hm:m env B=.val (.b i) B) (hk:k env B=.val (.d (dP (a,b))) B) (hb:B[i]?=some (.dT dr)) (hl:dr.length<=1000):∃ dF,dF.length<=dr.length+1 /\ rq m k v env B=.nx env (B.set i (.dT dF)):=by
 have z:sizeLine=16777216:=bj;refine#[uU dr [.inl a,.inl b] d,by unfold uU;split<;>simp,?_];unfold rq;rw[hv,ik,hm,ik,hk,ik];erw[hb,vW,nQ,cj,nX];rw[if_pos zd]
end
end aB
namespace ny
open L2 L2.DL K1 kD
end ny
namespace K2
open L2 L2.DL K1
section
variable {h:D} {rs:List Int} {hold:Int} {x0 x1 x2 x4 x5 x6 x7 x8 x9 aG bc aO a6 a5:Option W}
end
section
variable {h:D} {rs:List Int} {hold:Int} {x0 x1 x4 x5 x6 x7 x8 aO a6 a5:Option W}
end
end K2
namespace K1
open L2 L2.DL
end K1
namespace K2
open L2 L2.DL K1
end K2
namespace ny
open L2 L2.DL K1 kD
section
variable {h:D} {k:Nat} 
end
end ny
namespace kD
open L2 L2.DL K1 K2
section
variable {ah bH:List Bx}
end
section
variable {x0 x1 x2 x5 x7 x8 x9 aG:Option W}
end
section
variable {ah:List Bx}
end
section
variable {x0 x1 x3 x5 x6 x7 bc aO a6:Option W}
end
section
variable {x0 x1 x5:Option W}
end
end kD
namespace ny
open L2 L2.DL K1 kD
section
variable {r:aN}
abbrev gP:DG:=gn 2 (fE (fe 0) (fE (fe 1) gz))
theorem abd (p:Int×Int->Bool) (f:Int×Int->D):∀ (l:List (Int×Int)) (w v:Option W) (acc:List D),acc.length+l.length<=sizeLine->(∀ a∈l,tf (xN a.1::xN a.2::r) bx=.val (p a) bx /\ (p a=zu->te (xN a.1::xN a.2::r) bx=.val (.d (f a)) bx)) ->
 bq gP tf te ((l.map dP).map W.d) (w::v::r) bx acc=.val (acc++(l.filter p).map f) bx:=by
 intro l_;induction l_ with
 |nil=>(intro w v acc _ _;simp[bq])
 |cons a l ao=>
   intro w v acc n h;let#[h1,h2]:=h a (bF ..);rw[bg]at n;have n':acc.length<sizeLine:=by lia
   have e0:gP (W.d (dP a)) (w::v::r) bx=some (some (W.d (.int a.1))::some (W.d (.int a.2))::r,bx):=rfl;cases c:p a with
   |false=>
     rw[ve (by simp[c]),<-ao (some (W.d (.int a.1))) (some (W.d (.int a.2))) acc zd λx m=>h x (bD _ m)];rw[c]at h1;erw[az,bq,e0,h1,oP]
   |true=>
     rw[vf c];have ih:=ao (some (W.d (.int a.1))) (some (W.d (.int a.2))) (acc++[f a]) zB λx m=>h x (bD _ m);rw[c]at h1;erw[az,bq,e0,h1,h2 c,oP,if_pos n',ih];simp
end
section
variable {ah:List Bx}
end
theorem MC (neg:Bool) (is:List Int) (b:Int):inD neg (.int b) (.lst (is.map D.int))=some (.old (.bl (if neg then !decide (b∈is) else decide (b∈is)))):=by
 show (if nq (.int b)=zu /\ (is.map D.int).all nq=zu then some (Res.old (.bl (if neg then !nu (.int b) (is.map D.int) else nu (.int b) (is.map D.int)))) else vT neg _ _ _)=_;rw[if_pos #[rfl,Jj is],Mr];have:(is.any λz=>decide (z=b))=decide (b∈is):=by
  rw[pN];simp
 rw[this]
section
variable {k:Nat} 
end
end ny
namespace aB
open L2 L2.DL K1 ny kD
def cn (ps K R:Al) (g:Pg):Al:=if word ps K R g="takes" then stK K g else K
def cz (ps K R:Al) (g:Pg):Al:=if word ps K R g="takes" then rC R g else R
theorem abe (L:Al) (r:Int):inD zc (.int r) (.lst (L.map λq=>.int q.2))=some (.old (.bl (decide (r∈L.map (·.2))))):=by
 have:=MC zc (L.map (·.2)) r;rw[bw]at this;exact this
theorem iI {ps K R:Al}{g:Pg}(h:¬ word ps K R g="takes"):cn ps K R g=K /\ cz ps K R g=R:=#[if_neg h,if_neg h]
theorem iA {ps K R:Al}{g:Pg}(h:word ps K R g="takes"):cn ps K R g=stK K g /\ cz ps K R g=rC R g:=#[if_pos h,if_pos h]
section
variable {rs ks:List D} {K R:List (Int × Int)} 
theorem P9 (k r:Int):decide (r∈(R.filter λq=>cW ps k (kk K q.1)).map (·.2))=eF ps K R k r:=by
 unfold eF;rw[pN,decide_eq_true_eq,rM];erw[bJ,qK,aD,decide_eq_true_eq];exact#[λ⟨q,m,e⟩=>#[q,m.1,e,m.2],λ⟨q,m,e,a⟩=>#[q,#[m,a],e]]
theorem Uz {l r0 r:Int}(nd:(R.map (·.1)).Nodup) (h:look R l=some r0) (d:¬ r0=r) (k:Int):decide (r∈(((R.filter λq=>cW ps k (kk K q.1)).filter λq=>!decide (q.1=l))).map (·.2))=eF ps K R k r:=by
 rw[<-P9,pN,decide_eq_true_eq,decide_eq_true_eq];erw[bJ,qK,pO,decide_eq_false_iff_not];refine#[λ⟨q,m,e⟩=>#[q,m.1,e],λ⟨q,m,e⟩=>#[q,#[m,λz=>?_],e]];have:=lw nd m.1;rw[z,h]at this;exact d ((Option.some.inj this).trans e)
abbrev oE (H:D) (n:Nat) (g:Pg) (x6 x7 x8:Option W):aN:=[some (.d H),some (.m (ml n)),some zG,some (.d (.int (aP g))),some (.d (.str (bu g))),some (.d (.int (bb g))),x6,x7,x8]
theorem UA (J:cK K R n) (hn:n<=100) (hb:B[bx.length]?=some (.af zax)) {mk mr:DE W}{k r:Int}(h0:env[0]?=some (some (.d za))) (h6:env[6]?=some zac) (hk:mk env B=.val (.d (.int k)) B) (hr:mr env B=.val (.d (.int r)) B) :
 dB (d2 zc (inD zc) mr (fY zc [zp,zp] (bB (fu aB.gq 3 (fc (dV 0) (fc (dV 6) (fc mk fg))))) gP f7 (dV 1))) env B=.val (eF ps K R k r) B:=by
 have z:sizeLine=16777216:=bj;have lr:=J.lr;have fl:=ym (λq:Int×Int=>cW ps k (kk K q.1)) R;have v0:dV 0 env B=.val (.d za) B:=by unfold dV;rw[h0]
 have v6:dV 6 env B=.val (.b bx.length) B:=by unfold dV;rw[h6]
 have it:bB (fu aB.gq 3 (fc (dV 0) (fc (dV 6) (fc mk fg)))) env B=.val (((R.filter λq=>cW ps k (kk K q.1)).map dP).map W.d) B:=
  gL (fK (l:=[.d za,.b bx.length,.d (.int k)]) (fm v0 (fm v6 (fm hk zw))) zw (Gg J hn hb))
 have c:=abd (tf:=f7) (te:=dV 1) (bx:=B) (r:=[]) (λ_=>zu) (λq=>.int q.2) (R.filter λq=>cW ps k (kk K q.1)) zp zp [] zB λq _=>#[rfl,λ_=>rfl];rw[nz,List.filter_eq_self.mpr λ_ _=>rfl]at c;rw[<-P9];refine gI (fV (r:=.old (.bl (decide (r∈(R.filter λq=>cW ps k (kk K q.1)).map (·.2))))) hr (lN it zw c) ?_);exact abe _ r
theorem UB (J:cK K R n) (hn:n<=100) (hb:B[bx.length]?=some (.af zax)) {mk mr:DE W}{k r l r0:Int}(h0:env[0]?=some (some (.d za))) (h5:env[5]?=some (xN l)) (h6:env[6]?=some zac) (hk:mk env B=.val (.d (.int k)) B) (hr:mr env B=.val (.d (.int r)) B) (hl:look R l=some r0) (d:¬ r0=r) :
 dB (d2 zc (inD zc) mr (fY zc [zp,zp,some 5] (bB (fu aB.gq 3 (fc (dV 0) (fc (dV 6) (fc mk fg))))) gP (dB (d2 zc cP (dV 0) (dV 2))) (dV 1))) env B=.val (eF ps K R k r) B:=by
 have z:sizeLine=16777216:=bj;have lr:=J.lr;have fl:=ym (λq:Int×Int=>cW ps k (kk K q.1)) R;have v0:dV 0 env B=.val (.d za) B:=by unfold dV;rw[h0]
 have v6:dV 6 env B=.val (.b bx.length) B:=by unfold dV;rw[h6]
 have it:bB (fu aB.gq 3 (fc (dV 0) (fc (dV 6) (fc mk fg)))) env B=.val (((R.filter λq=>cW ps k (kk K q.1)).map dP).map W.d) B:=
  gL (fK (l:=[.d za,.b bx.length,.d (.int k)]) (fm v0 (fm v6 (fm hk zw))) zw (Gg J hn hb))
 have c:=abd (tf:=dB (d2 zc cP (dV 0) (dV 2))) (te:=dV 1) (bx:=B) (r:=[xN l]) (λq=>!decide (q.1=l)) (λq=>.int q.2) (R.filter λq=>cW ps k (kk K q.1)) zp zp [] zB λq _=>#[gI (fV (r:=.old (.bl (!decide (q.1=l)))) (x:=.int q.1) (y:=.int l) zw zw (by simp[cP])),λ_=>rfl];rw[nz]at c;rw[<-Uz J.nd hl d];refine gI (fV (r:=.old (.bl (decide (r∈(((R.filter λq=>cW ps k (kk K q.1)).filter λq=>!decide (q.1=l))).map (·.2))))) hr (lN it (by simp[h5]) c) ?_);exact abe _ r
variable {go:Al} {dr:List (List Key × D)} {av wd:List D}
noncomputable def Ke:Pg->Int
 |.aH _ _ k ..=>k
 |_=>0
noncomputable def isIn:Pg->Bool
 |.aH ..=>zu
 |_=>zc
abbrev pE (ca:List (Int×Pg)):Al:=ca.map λq=>(q.1,Ke q.2)
theorem S7 {l:Int}{g:Pg}:pE (put ca l g)=put (pE ca) l (Ke g):=by
 have e:(pE ca).map (·.1)=ca.map (·.1):=by unfold pE;rw[bw];rfl
 unfold put;rw[AN e];split
 .unfold pE;rw[bw,bw];refine qm λq _=>?_;by_cases c:q.1=l<;>simp[c]
 .unfold pE;simp
structure Lb (K:Al) (ca:List (Int×Pg)) (go:Al) (dr:List (List Key×D)) (m:Nat):zy where
 k:pE ca=K
 i:∀ q∈ca,isIn q.2=zu
 c:ca.length<=m
 g:go.length<=m
 d:dr.length<=2*m
theorem Lb.keys {m:Nat}(Q:Lb K ca go dr m):ca.map (·.1)=K.map (·.1):=by rw[<-Q.k,bw];rfl
theorem agn (h:Hs rs ks ps hd) (J:cK K R n) (hn:n<=100) {m:Nat}(Q:Lb K ca go dr m) (hm:m<=100) (g:Pg) :
 ∃ kF go' dF,j8 [some (.d za),some (.m (ml bx.length)),some zG,zp,zp,zp,zp,zp,zp] zo=.rt zas (Bl bx zad kF go' dF av wd) /\ Lb (cn ps K R g) kF go' dF (m+1):=by
 have z:sizeLine=16777216:=bj;have qc:=Q.c;have qg:=Q.g;have qd:=Q.d;have up:Lb K ca go dr (m+1):=#[Q.k,Q.i,by lia,by lia,by lia];have e1:fH (pY zc (dV 2) pW (pX zE)) (gn 3 (fE (fe 3) (fE (fe 4) (fE (fe 5) gz)))) [some (.d za),some (.m (ml bx.length)),some zG,zp,zp,zp,zp,zp,zp] zo=.nx (oE za bx.length g zp zp zp) zo:=by
  cases g<;>simp[enc,cU,bt,dS,qX,DL.cutD,HT.aE,aP,bu,bb]
 have e2:fH (bN (dV 1) "there") (fe 6) (oE za bx.length g zp zp zp) zo=.nx (oE za bx.length g zac zp zp) zo:=gc (jw zw aba);have tw:∀ (w:Str) (x7 x8:Option W) (B:List Bx),dB (d2 zc aJ (dV 4) (dC (.str w))) (oE za bx.length g zac x7 x8) B=.val (decide (bu g=w)) B:=λw x7 x8 B=>gI (fV (r:=.old (.bl (decide (bu g=w)))) zw zw (eq_str _ _));have ni:dB (eP zu (dV 5) (dV 6)) (oE za bx.length g zac zp zp) zo=.val (!(look R (bb g)).isSome) zo:=by
  have:=Ge (e:=dP) (L:=aq K R) (k:=dV 5) (m:=dV 6) (env:=oE za bx.length g zac zp zp) (bx:=Bl bx (aq K R) ca go dr av wd) (l:=bb g) zu zw zw (lz ua);rw[mT,sI]at this;exact gI this
 cases g with
 |aH h' l k r p w=>
   have t1:dB (eP zc (dV 5) (bN (dV 1) "came")) (oE za bx.length zM zac zp zp) zo=.val (look K l).isSome zo:=by
    have:=Ge (e:=enc) (L:=ca) (k:=dV 5) (m:=bN (dV 1) "came") (env:=oE za bx.length zM zac zp zp) (bx:=Bl bx (aq K R) ca go dr av wd) (l:=l) zc zw (jw zw Wz) (lz Ww);rw[Jn Q.keys]at this;exact gI this
   have t2:=UA (rs:=rs) (ks:=ks) (ps:=ps) (hd:=hd) (bx:=bx) (B:=Bl bx (aq K R) ca go dr av wd) (env:=oE za bx.length zM zac zp zp) (mk:=d2 zc ag (dV 2) zE) (mr:=d2 zc ag (dV 2) (dC (.int 4))) (k:=k) (r:=r) J hn ua zw zw zw zw;cases c:(look K l).isSome with
   |true=>
     have ew:word ps K R zM="there":=by erw[word,c,if_true]
     let#[n1,n2]:=iI (g:=.aH h' l k r p w) (by rw[ew];decide);refine#[ca,go,dr,?_,by rw[n1];exact up];rw[n1,n2,ew];rw[c]at t1;exact(fq e1).trans ((fq e2).trans (gJ ((io (tw "in" zp zp _)).trans (gJ ((io t1).trans zw)))))
   |false=>
     rw[c]at t1;have hl:look K l=zp:=by cases q:look K l with|none=>rfl|some v=>rw[q]at c;cases c
     cases cc:eF ps K R k r with
     |true=>
       have ew:word ps K R zM="apart":=by simp[word,c,cc]
       let#[n1,n2]:=iI (g:=.aH h' l k r p w) (by rw[ew];decide);refine#[ca,go,dr,?_,by rw[n1];exact up];rw[n1,n2,ew];rw[cc]at t2;exact(fq e1).trans ((fq e2).trans (gJ ((io (tw "in" zp zp _)).trans ((fq ((gh t1).trans zw)).trans (gJ ((io t2).trans zw))))))
     |false=>
       have ew:word ps K R zM="takes":=by simp[word,c,cc]
       let#[n1,n2]:=iA (g:=.aH h' l k r p w) ew;rw[cc]at t2;have p1:=Ca (e:=enc) (L:=ca) (x:=.aH h' l k r p w) (v:=dV 2) (m:=bN (dV 1) "came") (k:=dV 5) (env:=oE za bx.length zM zac zp zp) (B:=Bl bx (aq K R) ca go dr av wd) zw (jw zw Wz) zw Ww zd;rw[agj]at p1;have p2:=Ca (e:=dP) (L:=aq K R) (x:=(k,r)) (v:=fP (fc (d2 zc ag (dV 2) zE) (fc (d2 zc ag (dV 2) (dC (.int 4))) fg))) (m:=dV 6) (k:=dV 5) (env:=oE za bx.length zM zac zp zp) (B:=Bl bx (aq K R) (put ca l zM) go dr av wd) (gk [.int k,.int r] zw zB) zw zw ua (by unfold aq;rw[aY];have:=J.lr;lia);rw[show bb zM=l from rfl,O1 J hl,Wy]at p2;let#[dF,ld,p3]:=Cb (dr:=dr) (v:=dC (.bl zu)) (m:=bN (dV 1) "doors") (k:=fP (fc (dV 3) (fc (d2 zc ag (dV 2) (dC (.int 4))) fg))) (a:=h') (b:=r) (env:=oE za bx.length zM zac zp zp) (B:=Bl bx (aq (put K l k) (put R l r)) (put ca l zM) go dr av wd) zw (jw zw Kd) (gk [.int h',.int r] zw zB) Kb zd;rw[Kc]at p3;refine#[put ca l zM,go,dF,?_,?_]
       .rw[n1,n2,ew];exact(fq e1).trans ((fq e2).trans (gJ ((io (tw "in" zp zp _)).trans ((fq ((gh t1).trans zw)).trans ((fq ((gh t2).trans zw)).trans ((fq p1).trans ((fq p2).trans ((fq p3).trans zw))))))))
       .rw[n1];have:=mQ ca l zM;exact#[by rw[S7,Q.k];rfl,λq m=>(im m).elim (λz=>by rw[z.2];rfl) (Q.i q),by lia,by lia,by lia]
 |to h' l r=>
   have ti:=tw "in" zp zp zo;rw[decide_eq_false (show ¬ bu zaf="in" by show ¬ ("to":Str)="in";rw[D6];exact id)]at ti;have qb:∀ {o:OS}{k:aj},k (oE za bx.length zaf zac zp zp) zo=o->∀ {a:aj},fB (aF zag a aS) k (oE za bx.length zaf zac zp zp) zo=o:=λ{o k} hh {a}=>(fq ((gh ti).trans zw)).trans hh;cases c:look R l with
   |none=>
     have ew:word ps K R zaf="none":=by erw[word,c]
     let#[n1,n2]:=iI (g:=.to h' l r) (by rw[ew];decide);refine#[ca,go,dr,?_,by rw[n1];exact up];rw[n1,n2,ew];rw[show look R (bb zaf)=none from c]at ni;exact(fq e1).trans ((fq e2).trans (qb (gJ ((io ni).trans zw))))
   |some r0=>
     rw[show look R (bb zaf)=some r0 from c]at ni;have g2:fH (bQ (dV 6) (dV 5)) (gn 2 (fE (fe 7) (fE (fe 8) gz))) (oE za bx.length zaf zac zp zp) zo=.nx (oE za bx.length zaf zac (xN (kk K l)) (xN r0)) zo:=by
      have gg:=ly (e:=dP) (L:=aq K R) (k:=dV 5) (m:=dV 6) (env:=oE za bx.length zaf zac zp zp) (bx:=Bl bx (aq K R) ca go dr av wd) (l:=l) (v:=(kk K l,r0)) zw zw (lz ua) (by rw[mT,c];rfl);rw[mm,gg];rfl
     have to:=tw "out" (xN (kk K l)) (xN r0) zo;rw[decide_eq_false (show ¬ bu zaf="out" by show ¬ ("to":Str)="out";rw[OV];exact id)]at to;have ts:dB (d2 zc aJ (dV 8) (d2 zc ag (dV 2) zE)) (oE za bx.length zaf zac (xN (kk K l)) (xN r0)) zo=.val (decide (r0=r)) zo:=
      gI (fV (r:=.old (.bl (decide (r0=r)))) (x:=.int r0) (y:=.int r) zw zw (by simp[aJ]))
     by_cases d:r0=r
     .have ew:word ps K R zaf="same":=by erw[word,c,if_pos d]
      let#[n1,n2]:=iI (g:=.to h' l r) (by rw[ew];decide);refine#[ca,go,dr,?_,by rw[n1];exact up];rw[n1,n2,ew];rw[decide_eq_true d]at ts;exact(fq e1).trans ((fq e2).trans (qb ((fq ((gh ni).trans zw)).trans ((fq g2).trans (gJ ((gh to).trans ((io ts).trans zw)))))))
     .rw[decide_eq_false d]at ts;have tc:=UB (rs:=rs) (ks:=ks) (ps:=ps) (hd:=hd) (bx:=bx) (B:=Bl bx (aq K R) ca go dr av wd) (env:=oE za bx.length zaf zac (xN (kk K l)) (xN r0)) (mk:=dV 7) (mr:=d2 zc ag (dV 2) zE) (k:=kk K l) (r:=r) (l:=l) (r0:=r0) J hn ua zw zw zw zw zw c d;cases cc:eF ps K R (kk K l) r with
      |true=>
        have ew:word ps K R zaf="apart":=by simp[word,c,d,cc]
        let#[n1,n2]:=iI (g:=.to h' l r) (by rw[ew];decide);refine#[ca,go,dr,?_,by rw[n1];exact up];rw[n1,n2,ew];rw[cc]at tc;exact(fq e1).trans ((fq e2).trans (qb ((fq ((gh ni).trans zw)).trans ((fq g2).trans (gJ ((gh to).trans ((gh ts).trans ((io tc).trans zw))))))))
      |false=>
        have ew:word ps K R zaf="takes":=by simp[word,c,d,cc]
        let#[n1,n2]:=iA (g:=.to h' l r) ew;rw[cc]at tc;have p2:=Ca (e:=dP) (L:=aq K R) (x:=(kk K l,r)) (v:=fP (fc (dV 7) (fc (d2 zc ag (dV 2) zE) fg))) (m:=dV 6) (k:=dV 5) (env:=oE za bx.length zaf zac (xN (kk K l)) (xN r0)) (B:=Bl bx (aq K R) ca go dr av wd) (gk [.int (kk K l),.int r] zw zB) zw zw ua (by unfold aq;rw[aY];have:=J.lr;lia);rw[show bb zaf=l from rfl,Gf,Wy]at p2;let#[d1,l1,p3]:=Cb (dr:=dr) (v:=dC (.bl zu)) (m:=bN (dV 1) "doors") (k:=fP (fc (dV 3) (fc (d2 zc ag (dV 2) zE) fg))) (a:=h') (b:=r) (env:=oE za bx.length zaf zac (xN (kk K l)) (xN r0)) (B:=Bl bx (aq K (put R l r)) ca go dr av wd) zw (jw zw Kd) (gk [.int h',.int r] zw zB) Kb zd;rw[Kc]at p3;let#[VX,l2,p4]:=Cb (dr:=d1) (v:=dC (.bl zu)) (m:=bN (dV 1) "doors") (k:=fP (fc (dV 3) (fc (dV 8) fg))) (a:=h') (b:=r0) (env:=oE za bx.length zaf zac (xN (kk K l)) (xN r0)) (B:=Bl bx (aq K (put R l r)) ca go d1 av wd) zw (jw zw Kd) (gk [.int h',.int r0] zw zB) Kb zd;rw[Kc]at p4;refine#[ca,go,VX,?_,?_]
        .rw[n1,n2,ew];exact(fq e1).trans ((fq e2).trans (qb ((fq ((gh ni).trans zw)).trans ((fq g2).trans ((fq ((gh to).trans ((gh ts).trans ((gh tc).trans ((fq p2).trans p3))))).trans ((fq p4).trans zw))))))
        .rw[n1];exact#[Q.k,Q.i,by lia,by lia,by lia]
 |out h' l=>
   have ti:=tw "in" zp zp zo;rw[decide_eq_false (show ¬ bu (.out h' l)="in" by show ¬ ("out":Str)="in";rw[Jl];exact id)]at ti;have qb:∀ {o:OS}{k:aj},k (oE za bx.length (.out h' l) zac zp zp) zo=o->∀ {a:aj},fB (aF zag a aS) k (oE za bx.length (.out h' l) zac zp zp) zo=o:=λ{o k} hh {a}=>(fq ((gh ti).trans zw)).trans hh;cases c:look R l with
   |none=>
     have ew:word ps K R (.out h' l)="none":=by erw[word,c]
     let#[n1,n2]:=iI (g:=.out h' l) (by rw[ew];decide);refine#[ca,go,dr,?_,by rw[n1];exact up];rw[n1,n2,ew];rw[show look R (bb (.out h' l))=none from c]at ni;exact(fq e1).trans ((fq e2).trans (qb (gJ ((io ni).trans zw))))
   |some r0=>
     rw[show look R (bb (.out h' l))=some r0 from c]at ni;have ff:((aq K R).find? λp=>decide (p.1=l)).map (·.2)=some (kk K l,r0):=by rw[mT,c];rfl
     have g2:fH (bQ (dV 6) (dV 5)) (gn 2 (fE (fe 7) (fE (fe 8) gz))) (oE za bx.length (.out h' l) zac zp zp) zo=.nx (oE za bx.length (.out h' l) zac (xN (kk K l)) (xN r0)) zo:=by
      have gg:=ly (e:=dP) (L:=aq K R) (k:=dV 5) (m:=dV 6) (env:=oE za bx.length (.out h' l) zac zp zp) (bx:=Bl bx (aq K R) ca go dr av wd) (l:=l) (v:=(kk K l,r0)) zw zw (lz ua) ff;rw[mm,gg];rfl
     have to:=tw "out" (xN (kk K l)) (xN r0) zo;have ew:word ps K R (.out h' l)="takes":=by erw[word,c]
     let#[n1,n2]:=iA (g:=.out h' l) ew;have p1:=S6 (e:=dP) (L:=aq K R) (m:=dV 6) (k:=dV 5) (env:=oE za bx.length (.out h' l) zac (xN (kk K l)) (xN r0)) (B:=Bl bx (aq K R) ca go dr av wd) (l:=l) zw zw ua ff;rw[O0,Wy]at p1;have p2:=Ca (e:=D.int) (L:=go) (x:=h') (v:=dV 3) (m:=bN (dV 1) "gone") (k:=dV 5) (env:=oE za bx.length (.out h' l) zac (xN (kk K l)) (xN r0)) (B:=Bl bx (aq K (p8 R l)) ca go dr av wd) zw (jw zw agl) zw agi zd;rw[show bb (.out h' l)=l from rfl,pd]at p2;let#[d1,l1,p3]:=Cb (dr:=dr) (v:=dC (.bl zu)) (m:=bN (dV 1) "doors") (k:=fP (fc (dV 3) (fc (dV 8) fg))) (a:=h') (b:=r0) (env:=oE za bx.length (.out h' l) zac (xN (kk K l)) (xN r0)) (B:=Bl bx (aq K (p8 R l)) ca (put go l h') dr av wd) zw (jw zw Kd) (gk [.int h',.int r0] zw zB) Kb zd;rw[Kc]at p3;refine#[ca,put go l h',d1,?_,?_]
     .rw[n1,n2,ew];exact(fq e1).trans ((fq e2).trans (qb ((fq ((gh ni).trans zw)).trans ((fq g2).trans ((fq ((io to).trans ((fq (iV p1)).trans p2))).trans ((fq p3).trans zw))))))
     .rw[n1];have:=mQ go l h';exact#[Q.k,Q.i,by lia,by lia,by lia]
theorem UC (h:Hs rs ks ps hd) (J:cK K R n) (hn:n<=100) {m:Nat}(Q:Lb K ca go dr m) (hm:m<=100) (g:Pg) :
 ∃ kF go' dF,gG [.d za,.m (ml bx.length),.d (enc g)] zo=.val zas (Bl bx zad kF go' dF av wd) /\ Lb (cn ps K R g) kF go' dF (m+1):=by
 let#[kF,go',dF,e,q]:=agn (bx:=bx) (av:=av) (wd:=wd) h J hn Q hm g;exact#[kF,go',dF,Bs e (by rw[MB,MB];exact au _),q]
end
theorem cK.nx {ps K R:Al}(J:cK K R n) (g:Pg):cK (cn ps K R g) (cz ps K R g) (n+1):=by
 by_cases c:word ps K R g="takes"
 .rw[(iA c).1,(iA c).2];exact J.step c
 .rw[(iI c).1,(iI c).2];exact#[J.nd,J.sub,X9 J.lk,X9 J.lr]
theorem D9 {ps K R:Al}{g:Pg}:wordsOf ps K R (g::gs)=word ps K R g::wordsOf ps (cn ps K R g) (cz ps K R g) gs:=by
 show word ps K R g::_=_;by_cases c:word ps K R g="takes"
 .rw[(iA c).1,(iA c).2,if_pos c]
 .rw[(iI c).1,(iI c).2,if_neg c]
abbrev wg (p:Pg×Str):D:=.tup [enc p.1,.str p.2]
abbrev abf:aj:=(fB (gT (nK (bN (dV 2) "words") (fP (fc (dV 3) (fc (fu aB.gG 3 (fc (dV 0) (fc (dV 2) (fc (dV 3) fg)))) fg))))) (gT (nK (bN (dV 2) "at") (fP (fc (d2 zc ag (dV 3) zm) (fc (v7 zc (bN (dV 2) "there")) fg))))))
def pF (ps:Al):Al->Al->List Pg->Al
 |K,_,[]=>K
 |K,R,g::gs=>pF ps (cn ps K R g) (cz ps K R g) gs
def eS (ps:Al):Al->Al->List Pg->List D
 |_,_,[]=>[]
 |K,R,g::gs=>.tup [.int (aP g),.af (aA dP zad)]::eS ps (cn ps K R g) (cz ps K R g) gs
section
variable {rs ks:List D} {P:D} 
theorem S8 (g:Pg) (h:env[3]?=some (some zG)):d2 zc ag (dV 3) zm env B=.val (.d (.int (aP g))) B:=by
 cases g<;>simp[h,enc,cU,bt,dS,ag,bf,bL,aP]
theorem O3 (h:Hs rs ks ps hd):∀ (gs:List Pg) (K R:Al) (ca:List (Int×Pg)) (go:Al) (dr:List (List Key×D)) (av wd:List D) (n m:Nat) (x3:Option W),cK K R n->Lb K ca go dr m->n+gs.length<=100->m+gs.length<=100->av.length+gs.length<=100->wd.length+gs.length<=100 ->
 ∃ R' kF go' dF y3,cC (fe 3) abf ((gs.map enc).map W.d) [some (.d za),some (.d P),some (.m (ml bx.length)),x3] zo=.nx [some (.d za),some (.d P),some (.m (ml bx.length)),y3] (Bl bx (aq (pF ps K R gs) R') kF go' dF (av++eS ps K R gs) (wd++(gs.zip (wordsOf ps K R gs)).map wg)) /\ Lb (pF ps K R gs) kF go' dF (m+gs.length):=by
 intro l_;induction l_ with
 |nil=>exact λK R ca go dr av wd n m x3 _ Q _ _ _ _=>#[R,ca,go,dr,x3,by simp[cC,eS,pF],Q]
 |cons g gs ao=>
   intro K R ca go dr av wd n m x3 J Q hn hm ha hw;have z:sizeLine=16777216:=bj;rw[bg]at hn hm ha hw;let#[EB,qb,EC,e,Q1]:=UC (bx:=bx) (av:=av) (wd:=wd) h J zd Q zd g;have a:=C3 (m:=bN (dV 2) "words") (k:=fP (fc (dV 3) (fc (fu aB.gG 3 (fc (dV 0) (fc (dV 2) (fc (dV 3) fg)))) fg))) (env:=zap) (bx:=Bl bx (aq K R) ca go dr av wd) (i:=bx.length+5) (d:=wg (g,word ps K R g)) (jw zw agm) aa9 (gk [enc g,.str (word ps K R g)] (fm zw (fm (fK (l:=[.d za,.m (ml bx.length),.d (enc g)]) zw zw e) zw)) zB) aa9 zd;rw[Eu]at a;have dc:v7 zc (bN (dV 2) "there") zap (Bl bx zad EB qb EC av (wd++[wg (g,word ps K R g)]))=.val (.d (.af (aA dP zad))) (Bl bx zad EB qb EC av (wd++[wg (g,word ps K R g)])):=by
    unfold v7;rw[jw rfl aba,fR,lz ua];rfl
   have b:=C3 (m:=bN (dV 2) "at") (k:=fP (fc (d2 zc ag (dV 3) zm) (fc (v7 zc (bN (dV 2) "there")) fg))) (env:=zap) (bx:=Bl bx zad EB qb EC av (wd++[wg (g,word ps K R g)])) (i:=bx.length+4) (d:=.tup [.int (aP g),.af (aA dP zad)]) (jw zw abb) Wx (gk [.int (aP g),.af (aA dP zad)] (fm (S8 g zw) (fm dc zw)) zB) Wx zd;rw[agk]at b;have bd:abf zap zo=.nx zap (Bl bx zad EB qb EC (av++[.tup [.int (aP g),.af (aA dP zad)]]) (wd++[wg (g,word ps K R g)])):=(fq (iV a)).trans (iV b);have g1:fe 3 (W.d (enc g)) [some (.d za),some (.d P),some (.m (ml bx.length)),x3] zo=some (zap,Bl bx (aq K R) ca go dr av wd):=rfl;let#[R',kF,go',dF,y3,e2,Q2]:=ao (cn ps K R g) (cz ps K R g) EB qb EC (av++[.tup [.int (aP g),.af (aA dP zad)]]) (wd++[wg (g,word ps K R g)]) (n+1) (m+1) (some zG) (J.nx g) Q1 zd zd zB zB;refine#[R',kF,go',dF,y3,?_,by rw[bg,show m+(gs.length+1)=m+1+gs.length by lia];exact Q2];rw[az,az,lm g1 bd,e2,D9,pK,az,rJ,rJ];rfl
theorem O4 (h:Hs rs ks ps hd) {qs:List Pg}(hl:qs.length<=16) (so:cV [.lst zg]=some (.lst (qs.map enc))) :
 ∃ th ca go dr,gN [.d za,.d ze] bx=.val (.m (ml bx.length)) (Bl bx th ca go dr (eS ps [] [] qs) (p9 ps qs)) /\ Lb (pF ps [] [] qs) ca go dr (0+qs.length):=by
 let#[R',kF,go',dF,y3,e,QQ]:=O3 (P:=.lst zg) (bx:=bx) h qs [] [] [] [] [] [] [] 0 0 zp xG #[rfl,(λ_ m=>nomatch m),au _,au _,au _] zd zd zB zB;refine#[aq (pF ps [] [] qs) R',kF,go',dF,?_,QQ];have b0:xD [("there",1),("came",1),("gone",1),("doors",2),("at",0),("words",0)] [some (.d za),some (.d ze),zp,zp] bx=.val (.m (ml bx.length)) (Bl bx (aq [] []) [] [] [] [] []):=by
  unfold xD;rw[if_pos #[by decide,by decide]];rfl
 have it:bB (dN zc cV zam) [some (.d za),some (.d ze),some (.m (ml bx.length)),zp] (Bl bx (aq [] []) [] [] [] [] [])=.val ((qs.map enc).map W.d) (Bl bx (aq [] []) [] [] [] [] []):=
  gL (oQ (r:=.lst (qs.map enc)) [.lst zg] (fm zw zw) so)
 have b:l9 [some (.d za),some (.d ze),zp,zp] bx=.rt (.m (ml bx.length)) (Bl bx (aq (pF ps [] [] qs) R') kF go' dF (eS ps [] [] qs) (p9 ps qs)):=by
  refine(fq (gc b0)).trans ((fq ((lj it).trans e)).trans ?_);rw[nz,nz];rfl
 show qV bx.length (qU (aZ l9 [some (.d za),some (.d ze),zp,zp] bx))=_;unfold aZ;rw[b];rfl
end
abbrev Kf (ft:List W->List Bx->O W):aj:=(fH (d2 zc fQ (dV 3) (fY zc [zp,some 0,some 4] (cM (fc (dV 4) fg)) (fe 0) (dB (d2 zc aJ (fu ft 2 (fc (dV 1) (fc zE fg))) zm)) (fP (fc (dV 0) zai)))) (fe 3))
theorem Jo (h:n<bx.length) (k:Nat) (hk:k<=4) (p:Int):∃ is:List Nat,∃ q,is.Sublist (List.range k) /\
 bq (fe 0) (dB (d2 zc aJ (fu K1.fj 2 (fc (dV 1) (fc zE fg))) zm)) (fP (fc (dV 0) zai)) (fO 0 k) [zp,xB n,xN k] zQ []=.val (is.map λ(i:Nat)=>dP ((i:Int),(k:Int))) (pt bx n q):=by
 have z2:(2:Nat)<=sizeLine:=by decide
 have sz:=bj
 let#[l',q,e,s]:=Mh (g:=fe 0) (tf:=dB (d2 zc aJ (fu K1.fj 2 (fc (dV 1) (fc zE fg))) zm)) (te:=fP (fc (dV 0) zai)) (λe=>∃ w,e=[w,xB n,xN k]) (λw=>.tup [match w with|.d x=>x|_=>.non,.int k]) (bx:=bx) (n:=n) (fO 0 k) [zp,xB n,xN k] p [] #[zp,rfl] (by
  intro w mw env p ⟨w0,je⟩;let#[i,_,rfl]:=bJ.mp mw;have t:=il h p 3 zf zf;exact#[[xN (0+(i:Int)),xB n,xN k],decide (p % 3=0),p / 3,by simp[je],#[_,rfl],by simp[t,aJ],by simp[z2]]) (by simp[fO];lia)
 unfold fO at s;let#[is,s1,rfl]:=List.sublist_map_iff.mp s;refine#[is,q,s1,?_];rw[e,nz,bw];congr 1;refine qm λi _=>?_;simp[dP]
theorem MD {ft:List W->List Bx->O W}{k:Nat}{p q:Int}(x1 x2:Option W) {is:List Nat}(hk:k<=4) (y:ps.length+is.length<=sizeLine)
 (e:bq (fe 0) (dB (d2 zc aJ (fu ft 2 (fc (dV 1) (fc zE fg))) zm)) (fP (fc (dV 0) zai)) (fO 0 k) [zp,xB n,xN k] zQ []=.val (is.map λ(i:Nat)=>dP ((i:Int),(k:Int))) (pt bx n q)) :
 Kf ft [xB n,x1,x2,xP ps,xN (k:Int)] zQ=.nx [xB n,x1,x2,xP (ps++is.map λ(i:Nat)=>((i:Int),(k:Int))),xN (k:Int)] (pt bx n q):=by
 have rg:=oX (env:=[xB n,x1,x2,xP ps,xN (k:Int)]) (bx:=pt bx n p) (k:=k) (m:=fc (dV 4) fg) zq zd;have ad:fQ (.lst (ps.map dP)) (.lst (is.map λ(i:Nat)=>dP ((i:Int),(k:Int))))=some (.lst ((ps++is.map λ(i:Nat)=>((i:Int),(k:Int))).map dP)):=by
  refine(if_pos (by rw[aY,aY];exact y)).trans ?_;rw[Qh,bw];rfl
 unfold Kf;rw[mm,OA,show dV 3 [xB n,x1,x2,xP ps,xN (k:Int)] zQ=.val (.d (.lst (ps.map dP))) zQ from rfl,fR,lM,rg,fR,
  show dE [zp,some 0,some 4] [some (W.b n),x1,x2,some (W.d (.lst (ps.map dP))),some (W.d (.int (k:Int)))]=[zp,xB n,xN k] from rfl,e,fR,gS,fR,ji,Br,Br,cj,cj,ad,gS,ji,ik,mP]
 rfl
theorem ME (h:n<bx.length) (x1 x2:Option W):∀ (c k:Nat) (p:Int) (ps:List (Int×Int)) (w:Option W),k+c<=4->Ex k ps ->
 ∃ sj w' q,cC (fe 4) (Kf K1.fj) ((List.range' k c).map λ(i:Nat)=>W.d (.int (0+(i:Int)))) [xB n,x1,x2,xP ps,w] zQ=.nx [xB n,x1,x2,xP sj,w'] (pt bx n q) /\ Ex (k+c) sj:=by
 intro c;induction c with
 |zero=>intro k p ps w _ s;exact#[ps,w,p,rfl,s]
 |succ c ih=>
   intro k p ps w hk s;let#[is,q,s1,e]:=Jo h k zd p;have li:is.length<=k:=by have:=s1.length_le;simpa using this
   have s':=s.more s1 zd;let#[sj,w',q',e2,s2]:=ih (k+1) q _ (xN (k:Int)) zd s';refine#[sj,w',q',?_,by rw[show k+(c+1)=k+1+c by lia];exact s2];have sz:=bj;have pl:=s.l;have st:=MD x1 x2 (ps:=ps) (is:=is) zd zd e;have g1:fe 4 (W.d (.int (0+(k:Int)))) [xB n,x1,x2,xP ps,w] zQ=some ([xB n,x1,x2,xP ps,xN (k:Int)],pt bx n p):=by
    rw[YR];rfl
   rw[List.range'_succ,az,lm g1 st];exact e2
theorem MF (h:n<bx.length) (p:Int):∃ rs ks ps hd q,iP [.b n] zQ=.val (.d za) (pt bx n q) /\ Hs rs ks ps hd:=by
 let#[rs,q1,hr,e1]:=Mk h p zp zp zp zp;let#[ks,q2,hk,lk,e2]:=Ml h q1 (some (.d (.tup rs))) zp zp zp;let#[ps,w',q3,e3,s3]:=ME h (some (.d (.tup rs))) (some (.d (.tup ks))) ks.length 0 q2 [] zp zd #[.nil,(λp m=>nomatch m),au _];rw[K9]at s3;have pl:=s3.l;let#[qs,pq,so,e4]:=OM ps zd;let#[hd,q4,hh,e5]:=ON h q3 (some (.d (.tup rs))) (some (.d (.tup ks))) (xP ps) w';have hb:∀ p∈qs,0<=p.1 /\ p.1<p.2 /\ p.2<(ks.length:Int):=λp m=>s3.b p (pq.mem_iff.mp m);have lq:qs.length<=16:=by rw[pq.length_eq];lia
 erw[rooms,aD]at hr;have n1:=mz hr.1;have qx:=hk;erw[kinds,aD]at qx;have n2:=mz qx.1;refine#[rs,ks,qs,hd,q4,Bs ?_ (by rw[gK,gK];exact au _),#[by lia,by lia,by lia,by lia,λp m=>(hb p m).2.1,by lia,?_]]
 .have sz:=bj;have z4:(4:Nat)<=sizeLine:=by lia
  have z0:(0:Nat)<=sizeLine:=by lia
  show j6 [xB n,zp,zp,zp,zp] zQ=_;have e0:fH (gx zc fg) (fe 3) [xB n,some (.d (.tup rs)),some (.d (.tup ks)),zp,zp] (pt bx n q2)=.nx [xB n,some (.d (.tup rs)),some (.d (.tup ks)),xP ([]:List (Int×Int)),zp] (pt bx n q2):=by
   exact gc (lh [] zw z0)
  have rg:=oX (env:=[xB n,some (.d (.tup rs)),some (.d (.tup ks)),xP ([]:List (Int×Int)),zp]) (bx:=pt bx n q2) (k:=ks.length) (m:=fc (dN zc bM zai) fg) (by simp[bM]) zd;have e6:iG (cM (fc (dN zc bM zai) fg)) (fe 4) (Kf K1.fj) [xB n,some (.d (.tup rs)),some (.d (.tup ks)),xP ([]:List (Int×Int)),zp] (pt bx n q2)=.nx [xB n,some (.d (.tup rs)),some (.d (.tup ks)),xP ps,w'] (pt bx n q3):=by
   rw[LW,rg,ik];unfold fO;rw[List.range_eq_range'];exact e3
  unfold j6;have e7:dN zc qA (fc (dN zc cV (fc (dV 3) fg)) fg) [xB n,some (.d (.tup rs)),some (.d (.tup ks)),xP ps,w'] (pt bx n q3)=.val (.d (.tup (qs.map dP))) (pt bx n q3):=
   oQ (r:=.tup (qs.map dP)) [.lst (qs.map dP)] (fm (oQ (r:=.lst (qs.map dP)) [.lst (ps.map dP)] (fm zw zw) e4) zw) zw
  rw[fq e1,fq e2,fq e0,fq e6];exact gU (gk [.tup rs,.tup ks,.tup (qs.map dP),hd] (fm zw (fm zw (fm e7 (fm e5 zw)))) z4)
 .have a:apart (ks.length:Int) (.tup (qs.map dP))=zu:=by
   have b1:(qs.map dP).all (kE (ks.length:Int))=zu:=by
    rw[vg,cS];intro p m;have:=hb p m;simp[kE,tl];lia
   have b2:sr qs=zu:=F8 so (pq.nodup_iff.mpr s3.nd);show (((qs.map dP).all (kE (ks.length:Int)))&&sr ((qs.map dP).filterMap IU))=zu;rw[FX,b1,b2];rfl
  have ago:rooms (.tup rs)=zu:=by erw[rooms,hr,yo]
  erw[house,lenOf,ago,hk,a,hh,yo]
theorem AO {α:Type}:∀ {l:List α}{c:Nat}(h:c<l.length),(l[c]::l.eraseIdx c).Perm l
 |a::l,0,_=>.refl _
 | a::l,c+1,h=>by
   have h':c<l.length:=Nat.lt_of_succ_lt_succ h;show (l[c]::a::l.eraseIdx c).Perm (a::l);exact(List.Perm.swap _ _ _).trans ((AO h').cons a)
abbrev agp:DE W:=vU (dV 2) (fu K1.fj 2 (fc (dV 1) (fc (dN zc bM zai) fg)))
theorem Fa (h:n<bx.length):∀ (l:List W) (left:List D) (w:Option W) (p:Int) (acc:List D),left.length=l.length->left.length<=1000->acc.length+l.length<=sizeLine ->
 ∃ ds q,bq (fe 0) f7 agp l [w,xB n,xB bx.length] (pt (bx++[.lst left]) n p) acc=.val (acc++ds) (pt (bx++[.lst []]) n q) /\ ds.Perm left:=by
 intro l_;induction l_ with
 |nil=>
   intro left w p acc hl _ _;cases left with
   |nil=>exact#[[],p,by simp[bq],.refl _]
   |cons a b=>simp at hl
 |cons u l ao=>
   intro left w p acc hl aiK z;have h1:n<(bx++[Bx.lst left]).length:=by simp;lia
   have b0:=oY (p:=p) (x:=.lst left) h;have ln:dN zc bM zai [some u,xB n,xB bx.length] (pt (bx++[.lst left]) n p)=.val (.d (.int left.length)) (pt (bx++[.lst left]) n p):=SU zw b0;have lp:0<left.length:=by rw[hl];simp
   let#[r,q,t,r0,r1]:=mC h1 (env:=[some u,xB n,xB bx.length]) (i:=1) zw ln zd zd;let#[c,rfl]:=Hk r0;have hc:c<left.length:=by lia
   have b1:=oY (p:=q) (x:=.lst left) h;have pv:=OR (m:=dV 2) zw b0 t b1 #[by lia,by lia] (OT hc) (pM hc);rw[Ga h]at pv;have z':acc.length<sizeLine:=by erw[bg]at z;lia
   have el:(left.eraseIdx c).length=l.length:=by rw[List.length_eraseIdx_of_lt hc,hl];simp
   let#[ds,q',e3,e4]:=ao (left.eraseIdx c) (some u) q (acc++[left[c]]) el (by rw[el];simp at hl;lia) (by erw[dj,bg,kJ]at z ⊢;lia);refine#[left[c]::ds,q',?_,?_]
   .have g0:fe 0 u [w,xB n,xB bx.length] (pt (bx++[.lst left]) n p)=some ([some u,xB n,xB bx.length],pt (bx++[.lst left]) n p):=rfl;erw[bq,g0,FT,oP,pv,if_pos z',e3];simp
   .exact(e4.cons _).trans (AO hc)
theorem O5 (h:n<bx.length) (p:Int) (l:List D) (hl:l.length<=1000):∃ ds q,jI [.b n,.d (.lst l)] zQ=.val (.d (.lst ds)) (pt bx n q) /\ ds.Perm l:=by
 have sz:=bj;let#[ds,q,e1,e2]:=Fa h (l.map W.d) l zp p [] zq hl zB;rw[nz]at e1;have s1:fH (dN zu xn zam) (fe 2) [xB n,some (.d (.lst l)),zp] zQ=.nx [xB n,some (.d (.lst l)),xB bx.length] (pt (bx++[.lst l]) n p):=by
  have a:dN zu xn zam [xB n,some (.d (.lst l)),zp] zQ=.val (.b bx.length) (pt (bx++[.lst l]) n p):=by
   rw[DW,fm (w:=.d (.lst l)) (l:=[]) rfl rfl,fR,<-lu h];have:=gK (bx:=bx) (n:=n) (p:=p);show O.val (W.b (pt bx n p).length) _=_;rw[this]
  exact gc a
 have M:j7 [xB n,some (.d (.lst l)),zp] zQ=.rt (.d (.lst ds)) (pt (bx++[.lst []]) n q):=by
  unfold j7;exact(fq s1).trans (gU (lN (gL zw) zw e1))
 refine#[ds,q,(oz M).trans ?_,e2];rw[gK,C5 h]
section
variable {rs ks:List D} 
theorem S9 (h:env[i]?=some (some (.d za))):dN zc bM (fc (d2 zc ag (dV i) zm) fg) env B=.val (.d (.int (rs.length:Int))) B:=by
 have v:dV i env B=.val (.d za) B:=by unfold dV;rw[h]
 exact oQ (r:=.old (.int (rs.length:Int))) [.tup rs] (fm (fV (r:=.old (.tup rs)) v zw zw) zw) (by simp[bM])
theorem Ta (h:env[i]?=some (some (.d za))):dN zc bM (fc (d2 zc ag (dV i) zj) fg) env B=.val (.d (.int (ks.length:Int))) B:=by
 have v:dV i env B=.val (.d za) B:=by unfold dV;rw[h]
 exact oQ (r:=.old (.int (ks.length:Int))) [.tup ks] (fm (fV (r:=.old (.tup ks)) v zw zw) zw) (by simp[bM])
theorem O6 (h:n<bx.length) (H:Hs rs ks ps hd) (p near:Int) (h0:0<near) (h1:near<=40):∃ g q,g6 [.b n,.d za,.d (.int near)] zQ=.val zG (pt bx n q) /\ tZ rs.length ks.length g /\ aP g<near:=by
 have sz:=bj;have r1:=H.r1;have r5:=H.r5;have k1:=H.k1;have k4:=H.k4;let#[a,q1,t1,a0,a1]:=mC h (p:=p) (p1:=p) (env:=[xB n,some (.d za),xN near,zp,zp,zp,zp,zp]) (i:=0) (m:=dV 2) (k:=near) zw zw h0 zd;let#[v,q2,t2,mv]:=Mq h q1 (env:=[xB n,some (.d za),xN near,zp,zp,zp,zp,zp]) (i:=0) zw [3,10] (ks:=fc zE (fc (dC (.int 10)) fg)) (λ_ _=>rfl) (k:=2) zw (by decide) zf;have hv:0<v /\ v<=10:=by simp at mv;lia
 let#[l,q3,t3,l0,l1]:=mC h (env:=[xB n,some (.d za),xN near,zp,zp,zp,zp,zp]) (i:=0) zw t2 hv.1 zd;have s1:=C6 (i:=3) (j:=4) t1 t3;let#[r,q4,t4,c0,c1]:=mC h (p:=q3) (p1:=q3) (env:=[xB n,some (.d za),xN near,xN a,xN l,zp,zp,zp]) (i:=0) (m:=dN zc bM (fc (d2 zc ag (dV 1) zm) fg)) (k:=(rs.length:Int)) zw (S9 zw) zd zd;let#[w,q5,t5,w0,w1]:=we h q4 (env:=[xB n,some (.d za),xN near,xN a,xN l,zp,zp,zp]) (i:=0) zw 5 zf zf;have s2:=C6 (i:=5) (j:=6) t4 t5;have fin:∀ {g:Pg}{q:Int},AB [xB n,some (.d za),xN near,zp,zp,zp,zp,zp] zQ=.rt zG (pt bx n q)->g6 [.b n,.d za,.d (.int near)] zQ=.val zG (pt bx n q):=λe=>Bs e (by rw[gK,gK];exact au _);have tz:dB (d2 zc aJ (dV 6) zm) zay (pt bx n q5)=.val (decide (w=0)) (pt bx n q5):=gI (fV (r:=.old (.bl (decide (w=0)))) (x:=.int w) (y:=.int 0) zw zw (by simp[aJ]));have tt:dB (d2 zc eQ (dV 6) zE) zay (pt bx n q5)=.val (decide (w<3)) (pt bx n q5):=gI (fV (r:=.old (.bl (decide (w<3)))) (x:=.int w) (y:=.int 3) zw zw (by simp[eQ]));by_cases abg:w=0
 .rw[decide_eq_true abg]at tz;refine#[.out a l,q5,fin ?_,#[a0,l0,by lia],a1];exact(fq s1).trans ((fq s2).trans (gJ ((io tz).trans (gU (gk [.int a,.str "out",.int l] zw zB)))))
 .rw[decide_eq_false abg]at tz;by_cases c2:w<3
  .rw[decide_eq_true c2]at tt;refine#[.to a l r,q5,fin ?_,#[a0,#[l0,by lia],c0,c1],a1];exact(fq s1).trans ((fq s2).trans ((fq ((gh tz).trans zw)).trans (gJ ((io tt).trans (gU (gk [.int a,.str "to",.int l,.int r] zw zB))))))
  .rw[decide_eq_false c2]at tt;let#[x,q6,t6,x0,x1]:=we h q5 (env:=zay) (i:=0) zw 9 zf zf;let#[y,q7,t7,y0,y1]:=we h q6 (env:=zay) (i:=0) zw 40 zf zf;let#[c,q8,t8,e0,e1]:=we h q7 (env:=zay) (i:=0) zw 4 zf zf;let#[d,ed,md]:=lO (l:=[D.int 0,.int x,.int y,.int 999]) e0 (by simpa using e1);obtain⟨z,rfl,z0,z1⟩:∃ z,d=.int z /\ 0<=z /\ z<=999:=by
    simp at md;rcases md with rfl|rfl|rfl|rfl
    .exact#[_,rfl,by lia,by lia]
    .exact#[_,rfl,by lia,by lia]
    .exact#[_,rfl,by lia,by lia]
    .exact#[_,rfl,by lia,by lia]
   have s5:fH (d2 zc ag (gx zc (fc zm (fc (fu K1.fj 2 (fc (dV 0) (fc (dC (.int 9)) fg))) (fc (fu K1.fj 2 (fc (dV 0) (fc (dC (.int 40)) fg))) (fc (dC (.int 999)) fg))))) (fu K1.fj 2 zR)) (fe 7) zay (pt bx n q5)=.nx [xB n,some (.d za),xN near,xN a,xN l,xN r,xN w,xN z] (pt bx n q8):=
    gc (fV (r:=.old (.int z)) (lh [.int 0,.int x,.int y,.int 999] (fm zw (fm t6 (fm t7 (fm zw zw)))) zB) t8 (by erw[ag,ed,nX]))
   let#[k,q9,t9,f0,f1]:=mC h (p:=q8) (p1:=q8) (env:=[xB n,some (.d za),xN near,xN a,xN l,xN r,xN w,xN z]) (i:=0) (m:=dN zc bM (fc (d2 zc ag (dV 1) zj) fg)) (k:=(ks.length:Int)) zw (Ta zw) zd zd;let#[u,qa,ta,u0,u1]:=we h q9 (env:=[xB n,some (.d za),xN near,xN a,xN l,xN r,xN w,xN z]) (i:=0) zw 100 zf zf;refine#[.aH a l k r z u,qa,fin ?_,#[a0,#[l0,by lia],#[f0,f1],#[c0,c1],#[z0,z1],u0,by lia],a1];exact(fq s1).trans ((fq s2).trans ((fq ((gh tz).trans zw)).trans ((fq ((gh tt).trans zw)).trans ((fq s5).trans (gU (gk [.int a,.str "in",.int l,.int k,.int r,.int z,.int u] (fm zw (fm zw (fm zw (fm t9 (fm zw (fm zw (fm ta zw))))))) zB))))))
end
noncomputable def di:Pg->List Key
 |.aH h l k r p w=>[.inl h,.inr "in",.inl l,.inl k,.inl r,.inl p,.inl w]
 |.to h l r=>[.inl h,.inr "to",.inl l,.inl r]
 |.out h l=>[.inl h,.inr "out",.inl l]
def ke (g:Pg):List Key×D:=(di g,.bl zu)
theorem Cc (g:Pg):D.tup ((di g).map IL)=enc g:=by cases g<;>rfl
theorem MG (g:Pg):∃ l,enc g=.tup l /\ vW l=some (di g):=by cases g<;>exact#[_,rfl,rfl]
theorem MH {a b:Pg}(h:di a=di b):a=b:=OJ (by rw[<-Cc,<-Cc,h])
theorem O7 (gs:List Pg):IM (gs.map ke)=gs.map enc:=by
 unfold IM;rw[bw];exact qm λg _=>Cc g
theorem Tb {g:Pg}:∃ g2:List Pg,uU (gs.map ke) (di g) (.bl zu)=g2.map ke /\ (gs.Nodup->g2.Nodup) /\ (∀ x∈g2,x∈gs \/ x=g) /\ g2.length<=gs.length+1:=by
 by_cases m:g∈gs
 .refine#[gs,?_,id,λx m=>.inl m,by lia];unfold uU;rw[if_pos]
  .rw[bw];refine qm λx _=>?_;show (if di x=di g then (di x,D.bl zu) else ke x)=ke x;split<;>rfl
  .exact rM.mpr #[ke g,uh m,by simp[ke]]
 .refine#[gs++[g],?_,λnd=>?_,λx mx=>?_,by simp]
  .unfold uU;rw[if_neg]
   .simp[ke]
   .intro z;let#[x,mx,e]:=rM.mp z;let#[y,my,rfl]:=bJ.mp mx;exact m (MH (of_decide_eq_true e)▸my)
  .rw[wI];exact#[nd,by simp,λa ma b mb=>by cases qo.mp mb;exact λz=>m (z▸ma)]
  .rcases List.mem_append.mp mx with z|z
   .exact .inl z
   .exact .inr (qo.mp z)
section
variable {rs ks:List D} 
abbrev gB:aj:=zU
noncomputable abbrev gE (n b:Nat) (H:D) (near:Int) (x5 x6:Option W):aN:=[some (.b n),some (.d H),some (.d (.int 16)),some (.d (.int near)),some (.b b),x5,x6]
def Gd (nr nk:Nat) (near:Int) (g:Pg):zy:=tZ nr nk g /\ aP g<near
theorem Vb (g:Pg) (near:Int) (h:env[6]?=some (some zG)):dB (d2 zc aJ (d2 zc ag (dV 6) zj) (dC (.str "in"))) env B=.val (decide (bu g="in")) B:=by
 refine gI (fV (r:=.old (.bl (decide (bu g="in")))) (x:=.str (bu g)) (y:=.str "in") ?_ zw (eq_str _ _));cases g<;>simp[h,enc,cU,bt,dS,ag,bf,bL,bu]
theorem O8 {h' l k r p w:Int}{near:Int}(x5:Option W) {H:D}{b:Nat}:fH (d2 zc fQ (fP (fc (d2 zc uF (d2 zc ag (dV 6) zm) zE) fg)) (pY zc (dV 6) (pX zj) pW)) (fe 6) (gE n b H near x5 (some (.d (enc zM)))) B=.nx (gE n b H near x5 (some (.d (enc (.aH (h' / 3) l k r p w))))) B:=by
 have z:sizeLine=16777216:=bj;have c:uq h' 3:=by unfold uq;lia
 simp[enc,cU,bt,dS,ag,bf,bL,uF,c,qX,DL.cutD,HT.aE,fQ,z]
theorem Vc (h:n<bx.length) (H:Hs rs ks ps hd) (near:Int) (h0:0<near) (h1:near<=40) (nd:gs.Nodup) (ok:∀ g∈gs,Gd rs.length ks.length near g) (hl:gs.length<=100) (q:Int) (x5 x6:Option W) :
 ∃ (g2:List Pg) (q':Int) (y6:Option W),gB (gE n bx.length za near x5 x6) (pt zaq n q)=.nx (gE n bx.length za near x5 y6) (pt (bx++[.dT (g2.map ke)]) n q') /\ g2.Nodup /\ (∀ g∈g2,Gd rs.length ks.length near g) /\ g2.length<=gs.length+1:=by
 have sz:=bj;have hn:n<(bx++[Bx.dT (gs.map ke)]).length:=by simp;lia
 let#[g,q1,e,og,hg]:=O6 hn H q near h0 h1;have s1:fH (fu aB.g6 3 (fc (dV 0) (fc (dV 1) (fc (dV 3) fg)))) (fe 6) (gE n bx.length za near x5 x6) (pt zaq n q)=.nx (gE n bx.length za near x5 (some zG)) (pt zaq n q1):=
  gc (fK (l:=[.b n,.d za,.d (.int near)]) zw zw e)
 have pu:∀ (g:Pg) (q2:Int),Gd rs.length ks.length near g->∃ g2:List Pg,rq (dV 4) (dV 6) (dC (.bl zu)) (gE n bx.length za near x5 (some zG)) (pt zaq n q2)=.nx (gE n bx.length za near x5 (some zG)) (pt (bx++[.dT (g2.map ke)]) n q2) /\ g2.Nodup /\ (∀ g∈g2,Gd rs.length ks.length near g) /\ g2.length<=gs.length+1:=λg q2 og=>by
  let#[g2,e2,n2,m2,l2]:=Tb (gs:=gs) (g:=g);let#[l,el,kl]:=MG g;refine#[g2,?_,n2 nd,λx mx=>(m2 x mx).elim (ok x) (λz=>z▸og),l2];have b1:=oY (p:=q2) (x:=.dT (gs.map ke)) h;unfold rq;have v6:dV 6 (gE n bx.length za near x5 (some zG)) (pt zaq n q2)=.val (.d (.tup l)) (pt zaq n q2):=by rw[<-el];rfl
  have v4:dV 4 (gE n bx.length za near x5 (some zG)) (pt zaq n q2)=.val (.b bx.length) (pt zaq n q2):=rfl;rw[Ug,ik,v4,ik,v6,ik];erw[b1,kl];rw[if_pos zB,e2,Ga h]
 have tg:=Vb g near (env:=gE n bx.length za near x5 (some zG)) (B:=pt zaq n q1) zw;by_cases c:bu g="in"
 .rw[decide_eq_true c]at tg;let#[r,q2,t,r0,r1]:=we hn q1 (env:=gE n bx.length za near x5 (some zG)) (i:=0) zw 3 zf zf;have tt:=ou tg (gI (fV (g:=nJ) (r:=.old (.bl (decide (0<r)))) (x:=.int r) (y:=.int 0) (m:=fu K1.fj 2 (fc (dV 0) (fc zE fg))) (k:=dC (.int 0)) t zw (by simp[nJ])));by_cases d:0<r
  .rw[decide_eq_true d]at tt;cases g with
   |aH h' l k r' p w=>
     let#[o1,o2]:=og;have Ih:h'<near:=hg;let#[g2,e2,n2,m2,l2]:=pu (.aH (h' / 3) l k r' p w) q2 #[#[by lia,o2],by show h' / 3<near;lia];exact#[g2,q2,_,(fq s1).trans ((fq ((io tt).trans (O8 x5))).trans e2),n2,m2,l2]
   |to _ _ _=>exact absurd c (by show ¬ ("to":Str)="in";rw[D6];exact id)
   |out _ _=>exact absurd c (by show ¬ ("out":Str)="in";rw[Jl];exact id)
  .rw[decide_eq_false d]at tt;let#[g2,e2,n2,m2,l2]:=pu g q2 #[og,hg];exact#[g2,q2,_,(fq s1).trans ((fq ((gh tt).trans zw)).trans e2),n2,m2,l2]
 .rw[decide_eq_false c]at tg;let#[g2,e2,n2,m2,l2]:=pu g q1 #[og,hg];exact#[g2,q1,_,(fq s1).trans ((fq ((gh (oq tg)).trans zw)).trans e2),n2,m2,l2]
theorem MI (h:n<bx.length) (H:Hs rs ks ps hd) (p near:Int) (h0:0<near) (h1:near<=40):∃ (gs:List Pg) (q:Int),gF [.b n,.d za,.d (.int 16),.d (.int near)] zQ=.val (.d ze) (pt bx n q) /\ gs.Nodup /\ (∀ g∈gs,Gd rs.length ks.length near g) /\ gs.length<=16:=by
 have sz:=bj;have hn:n<(bx++[Bx.dT []]).length:=by simp;lia
 have s1:fH xy (fe 4) [xB n,some (.d za),xN 16,xN near,zp,zp,zp] zQ=.nx (gE n bx.length za near zp zp) (pt (bx++[.dT (([]:List Pg).map ke)]) n p):=by
  have:xy [xB n,some (.d za),xN 16,xN near,zp,zp,zp] zQ=.val (.b bx.length) (pt (bx++[.dT []]) n p):=by
   unfold xy;rw[gK,lu h]
  exact gc this
 let#[c,q1,t,c0,c1]:=mC hn (p:=p) (p1:=p) (env:=gE n bx.length za near zp zp) (i:=0) (m:=d2 zc fQ (dV 2) zj) (k:=17) zw (fV (r:=.old (.int 17)) (x:=.int 16) (y:=.int 1) zw zw (by simp[fQ])) zf zf;let#[c,rfl]:=Hk c0;have rg:cM (fc (fu K1.fj 2 (fc (dV 0) (fc (d2 zc fQ (dV 2) zj) fg))) fg) (gE n bx.length za near zp zp) (pt (bx++[.dT []]) n p)=.val (fO 0 c) (pt (bx++[.dT []]) n q1):=by
  rw[mB (fm t rfl) zd,ui]
 let#[ax,bx',e,gs,q,w5,w6,rfl,rfl,nd,ok,l]:=jL (g:=fe 5) (body:=gB) (λi env b=>∃ (gs:List Pg) (q:Int) (w5 w6:Option W),env=gE n bx.length za near w5 w6 /\ b=pt zaq n q /\ gs.Nodup /\ (∀ g∈gs,Gd rs.length ks.length near g) /\ gs.length<=i) (fO 0 c) 0 (gE n bx.length za near zp zp) (pt (bx++[.dT (([]:List Pg).map ke)]) n q1) #[[],q1,zp,zp,rfl,rfl,.nil,(λg m=>nomatch m),au _] (by
  rintro i w env b hw ⟨gs,q,w5,w6,rfl,rfl,nd,ok,l⟩;let#[_,hi]:=D4 hw;let#[g2,q',y6,e2,n2,m2,l2]:=Vc h H near h0 h1 nd ok zd q (some w) w6;exact#[gE n bx.length za near (some w) w6,_,gE n bx.length za near (some w) y6,_,rfl,e2,g2,q',_,y6,rfl,rfl,n2,m2,by lia])
 have lr:(fO 0 c).length=c:=by simp[fO]
 rw[lr]at l;let#[ds,q2,e3,pm]:=O5 (bx:=bx++[.dT (gs.map ke)]) (n:=n) zB q zg zB;let#[g2,rfl,pg]:=IH pm zw;have lt:Es zc (dV 4) (gE n bx.length za near w5 w6) (pt zaq n q)=.val (.d ze) (pt zaq n q):=by
  have b1:=oY (p:=q) (x:=.dT (gs.map ke)) h;have v4:dV 4 (gE n bx.length za near w5 w6) (pt zaq n q)=.val (.b bx.length) (pt zaq n q):=rfl;unfold Es;rw[v4,fR];erw[b1,O7];rfl
 refine#[g2,q2,?_,pg.nodup_iff.mpr nd,λg m=>ok g (pg.mem_iff.mp m),by rw[pg.length_eq];lia];have M:oJ [xB n,some (.d za),xN 16,xN near,zp,zp,zp] zQ=.rt (.d (.lst (g2.map enc))) (pt zaq n q2):=
  (fq s1).trans ((fq ((lj rg).trans e)).trans (gU (fK (l:=[.b n,.d ze]) (fm zw (fm lt zw)) zw e3)))
 refine(oz (ws:=[.b n,.d za,.d (.int 16),.d (.int near)]) M).trans ?_;rw[gK,C5 h]
end
noncomputable def sh (c:Int):Pg->Pg
 |.aH h l k r p w=>.aH (h+c) l k r p w
 |.to h l r=>.to (h+c) l r
 |.out h l=>.out (h+c) l
theorem Tc {c:Int}{a b:Pg}(h:sh c a=sh c b):a=b:=by
 cases a<;>cases b<;>simp[sh]at h<;>simp_all
def Lt (nr nk:Nat) (g:Pg):zy:=tZ nr nk g /\ (aP g).natAbs<=10 ^ 40
theorem UD {nr nk:Nat}{c near:Int}{g:Pg}(h:Gd nr nk near g) (c0:0<=c) (c1:c<=10 ^ 39) (hn:near<=40):Lt nr nk (sh c g):=by
 let#[o,t]:=h;cases g with
 |aH h l k r p w=>
   let#[o1,o2]:=o;have t':h<near:=t;exact#[#[by lia,o2],by show (h+c).natAbs<=_;lia]
 |to h l r=>
   let#[o1,o2]:=o;have t':h<near:=t;exact#[#[by lia,o2],by show (h+c).natAbs<=_;lia]
 |out h l=>
   let#[o1,o2]:=o;have t':h<near:=t;exact#[#[by lia,o2],by show (h+c).natAbs<=_;lia]
theorem UE (c:Int) (g:Pg) (B:List Bx):d2 zc fQ (fP (fc (d2 zc fQ (d2 zc ag (dV 0) zm) (dV 1)) fg)) (pY zc (dV 0) (pX zj) pW) [some zG,xN c] B=.val (.d (enc (sh c g))) B:=by
 have z:sizeLine=16777216:=bj;cases g<;>simp[enc,cU,bt,dS,ag,bf,bL,qX,DL.cutD,HT.aE,fQ,z,sh]
theorem Td (h:n<bx.length) (p:Int) (hl:gs.length<=100):∃ c q,K2.iz [.b n,.d (.tup []),.d ze] zQ=.val (.d (.tup [.tup [],.lst ((gs.map (sh c)).map enc),.int c])) (pt bx n q) /\ 0<=c /\ c<=10 ^ 39:=by
 have sz:=bj;let#[r4,q,t4,k0,k1]:=B7 h p 4 zf zf;let#[y,ey,my]:=lO (l:=[D.int 0,.int 0,.int (10 ^ 6),.int (10 ^ 39)]) k0 (by show _<(4:Int);exact k1);obtain⟨c,rfl,c0,c1⟩:∃ c:Int,y=.int c /\ 0<=c /\ c<=10 ^ 39:=by
  erw[bA,qJ,or_false]at my;rcases my with rfl|rfl|rfl|rfl
  .exact#[_,rfl,by decide,by decide]
  .exact#[_,rfl,by decide,by decide]
  .exact#[_,rfl,by decide,by decide]
  .exact#[_,rfl,by decide,by decide]
 have p6:∀ e b,d2 zc dg (dC (.int 10)) (dC (.int 6)) e b=.val (.d (.int (10 ^ 6))) b:=λe b=>fV (r:=.old _) zw zw (C4 zf);have agq:∀ e b,d2 zc dg (dC (.int 10)) (dC (.int 39)) e b=.val (.d (.int (10 ^ 39))) b:=λe b=>fV (r:=.old _) zw zw (C4 zf);have e1:fH (d2 zc ag (gx zc (fc zm (fc zm (fc (d2 zc dg (dC (.int 10)) (dC (.int 6))) (fc (d2 zc dg (dC (.int 10)) (dC (.int 39))) fg))))) (fu K1.fj 2 zR)) (fe 3) [xB n,some (.d (.tup [])),some (.d ze),zp,zp] zQ=.nx [xB n,some (.d (.tup [])),some (.d ze),xN c,zp] (pt bx n q):=by
  generalize pt bx n p=B at t4 ⊢;generalize pt bx n q=B' at t4 ⊢;have a1:gx zc (fc zm (fc zm (fc (d2 zc dg (dC (.int 10)) (dC (.int 6))) (fc (d2 zc dg (dC (.int 10)) (dC (.int 39))) fg)))) [xB n,some (.d (.tup [])),some (.d ze),zp,zp] B=.val (.d (.lst [.int 0,.int 0,.int (10 ^ 6),.int (10 ^ 39)])) B:=lh [.int 0,.int 0,.int (10 ^ 6),.int (10 ^ 39)] (fm zw (fm zw (fm (p6 _ _) (fm (agq _ _) zw)))) (show (4:Nat)<=sizeLine by lia);have a2:fu K1.fj 2 zR [xB n,some (.d (.tup [])),some (.d ze),zp,zp] B=.val (.d (.int r4)) B':=fK (fm zw (fm zw zw)) zw t4;exact gc (fV (r:=.old (.int c)) a1 a2 (by erw[ag,ey,nX]))
 refine#[c,q,?_,c0,c1];have c2:fY zc [zp,some 3] (bB (dV 2)) (fe 0) f7 (d2 zc fQ (fP (fc (d2 zc fQ (d2 zc ag (dV 0) zm) (dV 1)) fg)) (pY zc (dV 0) (pX zj) pW)) [xB n,some (.d (.tup [])),some (.d ze),xN c,some (.d (.tup []))] (pt bx n q)=.val (.d (.lst (gs.map λg=>enc (sh c g)))) (pt bx n q):=
  Ws (enc:=enc) (r:=[xN c]) _ (gL zw) zw (by lia) λg _=>UE c g _
 have M:K2.Bq [xB n,some (.d (.tup [])),some (.d ze),zp,zp] zQ=.rt (.d (.tup [.tup [],.lst ((gs.map (sh c)).map enc),.int c])) (pt bx n q):=by
  refine(fq e1).trans ?_;refine(fq (gc (oQ (r:=.tup []) [.lst []] (fm (lN (OI (ds:=[]) zw) zw zw) zw) zw))).trans ?_;rw[bw];exact gU (gk [.tup [],.lst (gs.map λg=>enc (sh c g)),.int c] (fm zw (fm c2 (fm zw zw))) (show (3:Nat)<=sizeLine by lia))
 exact Bs M (by rw[gK,gK];exact au _)
theorem O9 {B nr nk:Nat}(hB:999<=B) (r5:nr<=5) (k4:nk<=4) {g:Pg}(o:tZ nr nk g) (t:(aP g).natAbs<=B):Sm B 1 14000 (enc g):=by
 have li:(reprText ("in":Str)).length<=20:=by decide +kernel
 have lt:(reprText ("to":Str)).length<=20:=by decide +kernel
 have lo:(reprText ("out":Str)).length<=20:=by decide +kernel
 have si:=Sm.str (B:=B) (a:=0) (x:="in");have st:=Sm.str (B:=B) (a:=0) (x:="to");have so:=Sm.str (B:=B) (a:=0) (x:="out");have it:∀ {i:Int},i.natAbs<=B->Sm B 0 1921 (.int i):=λh=>Sm.int h;generalize (reprText ("in":Str)).length=L1 at li si;generalize (reprText ("to":Str)).length=L2 at lt st;generalize (reprText ("out":Str)).length=L3 at lo so;cases g with
 |aH h l k r p w=>
   let#[o1,o2,o3,o4,o5,o6]:=o;have z:=Sm.tup (bZ.cons (it t) (bZ.cons si (bZ.cons (it (i:=l) zd) (bZ.cons (it (i:=k) zd) (bZ.cons (it (i:=r) zd) (bZ.cons (it (i:=p) zd) (bZ.cons (it (i:=w) zd) bZ.nil)))))));exact z.mono (au _) zd
 |to h l r=>
   let#[o1,o2,o3]:=o;have z:=Sm.tup (bZ.cons (it t) (bZ.cons st (bZ.cons (it (i:=l) zd) (bZ.cons (it (i:=r) zd) bZ.nil))));exact z.mono (au _) zd
 |out h l=>
   let#[o1,o2]:=o;have z:=Sm.tup (bZ.cons (it t) (bZ.cons so (bZ.cons (it (i:=l) zd) bZ.nil)));exact z.mono (au _) zd
theorem Te {nr nk:Nat}(r5:nr<=5) (k4:nk<=4) {g:Pg}(h:Lt nr nk g):Sm (10 ^ 40) 1 14000 (enc g):=O9 zf r5 k4 h.1 h.2
theorem Bu {nr nk:Nat}(r5:nr<=5) (k4:nk<=4) (h:∀ g∈gs,Lt nr nk g) (hl:gs.length<=16):uJ ze=zu:=by
 have sz:=bj;have s:=bZ.of (B:=10 ^ 40) (a:=1) (b:=14000) (l:=gs.map enc) λd m=>by
  let#[g,mg,rfl]:=bJ.mp m;exact Te r5 k4 (h g mg)
 rw[aY]at s;exact AJ (Sm.lst s) zf zf zd
end aB
namespace K12
open L2 L2.DL K1 ny kD aB
def pre (h:Int) (ps:Al):Al->Al->List Pg->Al×Al
 |K,R,[]=>(K,R)
 |K,R,g::gs=>if aP g<=h then pre h ps (cn ps K R g) (cz ps K R g) gs else (K,R)
abbrev wj (gs:List Pg):zy:=gs.Pairwise λa b=>aP a<=aP b
theorem Tf (r:IW gs):wj gs:=by
 refine r.imp λ{a b} h=>?_;have:∀ {l m:List HT.ay}{i j:Int},HT.cu (.i i::l) (.i j::m)=zu->i<=j:=λ{l m i j} h=>by
  unfold HT.cu at h;split at h
  .ext e;cases e;exact YS _
  .have:decide (i<j)=zu:=h;simp at this;lia
 cases a<;>cases b<;>exact this h
theorem MJ {h:Int}{ps K R:Al}:∀ {gs:List Pg},(∀ g∈gs,¬ aP g<=h)->pre h ps K R gs=(K,R)
 |[],_=>rfl
 |g::gs,l=>by unfold pre;rw[if_neg (l g (bF ..))]
def wm (ps:Al):Al->Al->List Pg->List (Int×At)
 |_,_,[]=>[]
 |K,R,g::gs=>(aP g,aq (cn ps K R g) (cz ps K R g))::wm ps (cn ps K R g) (cz ps K R g) gs
abbrev abh (e:Int×At):D:=.tup [.int e.1,.af (aA dP e.2)]
theorem Gh (ps:Al):∀ (K R:Al) (gs:List Pg),eS ps K R gs=(wm ps K R gs).map abh
 |_,_,[]=>rfl
 |K,R,g::gs=>by unfold eS wm;rw[az,Gh ps _ _ gs]
theorem De {ps:Al}{e:Int×At}:∀ {K R:Al}{gs:List Pg},e∈wm ps K R gs->∃ g∈gs,aP g=e.1
 |_,_,[],m=>nomatch m
 | K,R,g::gs,m=>by
   unfold wm at m;rcases bA.mp m with rfl|m
   .exact#[g,bF ..,rfl]
   .let#[g',m',e']:=De m;exact#[g',bD _ m',e']
noncomputable abbrev qf (h:Int) (acc:At) (e:Int×At):At:=if e.1<=h then e.2 else acc
theorem Jp {h:Int}{acc:At}:∀ {l:List (Int×At)},(∀ e∈l,¬ e.1<=h)->l.foldl (qf h) acc=acc:=by
 intro l_;induction l_ with
 |nil=>exact λ_=>rfl
 |cons e l ao=>
   intro q;rw[Yo];show l.foldl (qf h) (if e.1<=h then e.2 else acc)=acc;rw[if_neg (q e (bF ..))];exact ao λe m=>q e (bD _ m)
theorem Df {h:Int}{ps:Al}:∀ {K R:Al}{gs:List Pg},wj gs->(wm ps K R gs).foldl (qf h) (aq K R)=aq (pre h ps K R gs).1 (pre h ps K R gs).2
 |_,_,[],_=>rfl
 | K,R,g::gs,s=>by
   let#[s1,s2]:=List.pairwise_cons.mp s;unfold wm pre;rw[Yo];by_cases c:aP g<=h
   .rw[if_pos c,show qf h (aq K R) (aP g,aq (cn ps K R g) (cz ps K R g))=aq (cn ps K R g) (cz ps K R g) from if_pos c];exact Df s2
   .rw[if_neg c,show qf h (aq K R) (aP g,aq (cn ps K R g) (cz ps K R g))=aq K R from if_neg c];refine Jp λe m=>?_;let#[g',m',e']:=De m;have:=s1 g' m';lia
def taken (ps:Al):Al->Al->List Pg->List Pg
 |_,_,[]=>[]
 |K,R,g::gs=>if word ps K R g="takes" then g::taken ps (stK K g) (rC R g) gs else taken ps K R gs
theorem MK {ps:Al}:∀ {gs:List Pg}{K R:Al}{T:List (Pg×Str×D×D)},T.map (λx=>(x.1,x.2.1))=gs.zip (aB.wordsOf ps K R gs)->T.map (λx=>x.2.2.2)=uX ps K R gs ->
 (T.filter λx=>decide (x.2.1=("takes":Str))).map (λx=>(x.1,x.2.2.2))=(taken ps K R gs).map λg=>(g,cX g):=by
 intro l_;induction l_ with
 |nil=>
   intro K R T h _;have:T=[]:=List.map_eq_nil_iff.mp h;subst this;rfl
 |cons g gs ao=>
   intro K R T h1 h2;unfold aB.wordsOf at h1;unfold uX at h2;cases T with
   |nil=>rw[pK]at h1;cases h1
   |cons x T=>
     rw[az,pK]at h1;injection h1 with a b;let#[a1,a2]:=Prod.mk.inj a;unfold taken;by_cases c:word ps K R g="takes"
     .rw[if_pos c]at b h2 ⊢;rw[az]at h2;injection h2 with c1 c2;rw[vf (by rw[a2,c];decide),az,az,ao b c2,a1,c1]
     .rw[if_neg c]at b h2 ⊢;rw[az]at h2;injection h2 with c1 c2;rw[ve (by rw[a2];simpa using c),ao b c2]
theorem Fb {R:Al}(nd:(R.map (·.1)).Nodup):nP (R.map λq=>[q.1,q.2])=(sortI (R.map (·.1))).map λl=>[l,(look R l).getD 0]:=by
 have p:=gw (R.map (·.1));have e:(R.map λq=>[q.1,q.2])=(R.map (·.1)).map λl=>[l,(look R l).getD 0]:=by
  rw[bw];refine qm λq m=>?_;show [q.1,q.2]=[q.1,(look R q.1).getD 0];rw[lw nd m];rfl
 refine lZ ((jC _).trans (by rw[e];exact(p.map _).symm)) (iM _) ?_;rw[nW];have s:=iL (R.map (·.1));have n2:(sortI (R.map (·.1))).Nodup:=p.nodup_iff.mpr nd;refine List.Pairwise.imp₂ (λ{a b}(x:a<=b) (y:a≠b)=>?_) s n2;rw[HT.fM,if_neg (λz=>y z.symm)];exact decide_eq_false zd
def NC (ps K R:Al):zy:=∀ a∈R,∀ b∈R,a.2=b.2->(kk K a.1,kk K b.1)∉ps
theorem iB {a:Int×Int}{K:Al}{x:Int}:look (a::K) x=if a.1=x then some a.2 else look K x:=by
 unfold look;rw[kZ];by_cases h:a.1=x
 .rw[decide_eq_true h,if_pos h];rfl
 .rw[decide_eq_false h,if_neg h]
theorem ML {l k x:Int}:∀ {K:Al},look (K.map λq=>if q.1=l then (q.1,k) else q) x=if x=l /\ (K.any λq=>decide (q.1=l))=zu then some k else look K x:=by
 intro l_;induction l_ with
 |nil=>(simp[look])
 |cons a K ao=>
   rw[az,iB,ao,iB,qI];by_cases h:a.1=l
   .rw[if_pos h,decide_eq_true h,Yr];by_cases e:a.1=x
    .rw[if_pos e,if_pos #[by lia,rfl]]
    .rw[if_neg e,if_neg (λz=>e zd),if_neg (λz=>e zd),if_neg e]
   .rw[if_neg h,decide_eq_false h,Ql];by_cases e:a.1=x
    .rw[if_pos e,if_pos e,if_neg (λz=>h zd)]
    .rw[if_neg e,if_neg e]
theorem MM {k l x:Int}:∀ {K:Al},(K.any λq=>decide (q.1=l))=zc->look (K++[(l,k)]) x=if x=l then some k else look K x:=by
 intro l_;induction l_ with
 |nil=>
   intro _;rw[nz,iB];by_cases e:x=l
   .rw[if_pos e,if_pos e.symm]
   .rw[if_neg e,if_neg (λz=>e z.symm)]
 |cons a K ao=>
   intro h;rw[qI,Ys,decide_eq_false_iff_not]at h;rw[EV,iB,ao h.2,iB];by_cases e:a.1=x
   .rw[if_pos e,if_pos e,if_neg (λz=>h.1 zd)]
   .rw[if_neg e,if_neg e]
theorem Dg {K:Al}{l k x:Int}:look (put K l k) x=if x=l then some k else look K x:=by
 unfold put;split
 .ext c;rw[ML];by_cases e:x=l
  .rw[if_pos #[e,c],if_pos e]
  .rw[if_neg (λz=>e z.1),if_neg e]
 .ext c;exact MM (Bool.eq_false_iff.mpr c)
theorem oA {K:Al}{l k x:Int}:kk (put K l k) x=if x=l then k else kk K x:=by
 unfold kk;rw[Dg];split<;>rfl
theorem mU {ps K R:Al}{k r:Int}(h:eF ps K R k r=zc) {q:Int×Int}(m:q∈R) (e:q.2=r):(k,kk K q.1)∉ps /\ (kk K q.1,k)∉ps:=by
 unfold eF at h;rw[Qa]at h;have:=h q m;rw[decide_eq_true e,Qm]at this;unfold cW at this;erw[vi,decide_eq_true_eq,not_or]at this;exact this
theorem Gi {ps:Al}(b:∀ p∈ps,p.1<p.2) (k:Int):(k,k)∉ps:=λm=>by have:=b _ m;simp at this
theorem UF {ps K R:Al}{g:Pg}{x:Int}(h:(look K x).isSome=zu):kk (cn ps K R g) x=kk K x /\ (look (cn ps K R g) x).isSome=zu:=by
 by_cases c:word ps K R g="takes"
 .rw[(iA c).1];cases g with
  |aH h' l k r p w=>
    have hl:(look K l).isSome=zc:=by
     erw[word]at c;split at c
     .exact absurd c zf
     .ext z;simpa using z
    have ne:x≠l:=λz=>by rw[z,hl]at h;cases h
    show kk (put K l k) x=_ /\ (look (put K l k) x).isSome=zu;rw[oA,Dg,if_neg ne,if_neg ne];exact#[rfl,h]
  |to h' l r=>exact#[rfl,h]
  |out h' l=>exact#[rfl,h]
 .rw[(iI c).1];exact#[rfl,h]
theorem NC.step {ps K R:Al}(b:∀ p∈ps,p.1<p.2) (J:cK K R n) (N:NC ps K R) (g:Pg):NC ps (cn ps K R g) (cz ps K R g):=by
 by_cases c:word ps K R g="takes"
 .rw[(iA c).1,(iA c).2];cases g with
  |aH h' l k r p w=>
    have cl:(look K l).isSome=zc /\ eF ps K R k r=zc:=by
     erw[word]at c;split at c
     .exact absurd c zf
     .ext z;split at c
      .exact absurd c zf
      .ext z2;exact#[by simpa using z,by simpa using z2]
    have ol:∀ q∈R,q.1≠l:=λq m e=>by
     have:=J.sub q m;rw[e,cl.1]at this;cases this
    intro x mx y my e;show (kk (put K l k) x.1,kk (put K l k) y.1)∉ps;rw[oA,oA];rcases im mx with mx|mx
    .rcases im my with my|my
     .rw[if_pos mx.1,if_pos my.1];exact Gi b k
     .rw[if_pos mx.1,if_neg (ol y my)];exact(mU cl.2 my (by rw[<-e,mx.2])).1
    .rcases im my with my|my
     .rw[if_neg (ol x mx),if_pos my.1];exact(mU cl.2 mx (by rw[e,my.2])).2
     .rw[if_neg (ol x mx),if_neg (ol y my)];exact N x mx y my e
  |to h' l r=>
    have cl:eF ps K R (kk K l) r=zc:=by
     erw[word]at c;split at c
     .exact absurd c zf
     .split at c
      .exact absurd c zf
      .split at c
       .exact absurd c zf
       .ext z2;simpa using z2
    intro x mx y my e;show (kk K x.1,kk K y.1)∉ps;rcases im mx with mx|mx
    .rcases im my with my|my
     .rw[mx.1,my.1];exact Gi b _
     .rw[mx.1];exact(mU cl my (by rw[<-e,mx.2])).1
    .rcases im my with my|my
     .rw[my.1];exact(mU cl mx (by rw[e,my.2])).2
     .exact N x mx y my e
  |out h' l=>
    intro x mx y my e;exact N x (qK.mp mx).1 y (qK.mp my).1 e
 .rw[(iI c).1,(iI c).2];exact N
theorem Fc {h:Int}{ps:Al}(b:∀ p∈ps,p.1<p.2):∀ {gs:List Pg}{K R:Al}{n:Nat},cK K R n->NC ps K R->cK (pre h ps K R gs).1 (pre h ps K R gs).2 (n+gs.length) /\ NC ps (pre h ps K R gs).1 (pre h ps K R gs).2:=by
 intro l_;induction l_ with
 |nil=>(intro _ _ _ J N;exact#[J,N])
 |cons g gs ao=>
   intro K R n J N;unfold pre;split
   .let#[a,c]:=ao (J.nx (ps:=ps) g) (N.step b J g);exact#[by rw[bg,show n+(gs.length+1)=n+1+gs.length by lia];exact a,c]
   .exact#[#[J.nd,J.sub,bU J.lk (vb _ _),bU J.lr (vb _ _)],N]
theorem MN {ps:Al}{x:Int}:∀ {gs:List Pg}{K R:Al},(look K x).isSome=zu->kk (pF ps K R gs) x=kk K x /\ (look (pF ps K R gs) x).isSome=zu
 |[],_,_,h=>#[rfl,h]
 | g::gs,K,R,h=>by
   let#[a,c]:=UF (ps:=ps) (R:=R) (g:=g) h;let#[d,e]:=MN (ps:=ps) (gs:=gs) (R:=cz ps K R g) c;exact#[d.trans a,e]
theorem Tg {h:Int}{ps:Al}{x:Int}:∀ {gs:List Pg}{K R:Al},(look (pre h ps K R gs).1 x).isSome=zu->kk (pF ps K R gs) x=kk (pre h ps K R gs).1 x /\ (look (pF ps K R gs) x).isSome=zu:=by
 intro l_;induction l_ with
 |nil=>(intro _ _ q;exact#[rfl,q])
 |cons g gs ao=>
   intro K R q;by_cases c:aP g<=h
   .rw[show pre h ps K R (g::gs)=pre h ps (cn ps K R g) (cz ps K R g) gs from if_pos c]at q ⊢;exact ao q
   .rw[show pre h ps K R (g::gs)=(K,R) from if_neg c]at q ⊢;exact MN (gs:=g::gs) q
theorem Dh {k:Nat}{g:DG}{body:aj}{B:List Bx}{l:List D}(hb:B[k]?=some (.lst l)) (P:Nat->aN->zy)
 (step:∀ i x env,l[i]?=some x->P i env->∃ aK a7,g (.d x) env B=some (aK,B) /\ body aK B=.nx a7 B /\ P (i+1) a7) :
 ∀ (f i:Nat) (env:aN),P i env->i<=l.length->l.length<i+f->∃ ax,forL k g body f i env B=.nx ax B /\ P l.length ax
 |0,i,env,_,h1,h2=>by lia
 | f+1,i,env,p,h1,h2=>by
   unfold forL;erw[hb];cases e:l[i]? with
   |none=>
     have:=List.getElem?_eq_none_iff.mp e;have:i=l.length:=by lia
     subst this;exact#[env,rfl,p]
   |some x=>
     have:=(List.getElem?_eq_some_iff.mp e).1;let#[aK,a7,a,b,p2]:=step i x env e p;let#[ax,c,d]:=Dh hb P step f (i+1) a7 p2 zd zd;erw[a,b];exact#[ax,c,d]
theorem Fd {g:DG}{body:aj}{B0:List Bx}{k:Nat}(hm:m env B0=.val (.b k) B) (hb:B[k]?=some (.lst l)) (P:Nat->aN->zy) (p0:P 0 env)
 (step:∀ i x env,l[i]?=some x->P i env->∃ aK a7,g (.d x) env B=some (aK,B) /\ body aK B=.nx a7 B /\ P (i+1) a7):∃ ax,tY m g body env B0=.nx ax B /\ P l.length ax:=by
 unfold tY;rw[hm,ik];have:Wi B k=l.length:=by unfold Wi;rw[hb]
 erw[this];exact Dh hb P step (l.length+1) 0 env p0 (kI _) zd
abbrev pC:aj:=(aF (dB (d2 zc pz (dV 3) (dV 1))) (fH (dV 4) (fe 2)) aS)
theorem Pa {h:Int}{E:List (Int×At)}(hb:B[n+4]?=some (.lst (E.map abh))) :
 gH [.m (ml n),.d (.int h)] B=.val (.d (.af (aA dP (E.foldl (qf h) [])))) B:=by
 refine gC ?_;show lf [some (.m (ml n)),xN h,zp,zp,zp] B=_;refine(fq (gc (w:=.d (.af (aA dP []))) zw)).trans ?_;let#[ax,e,y3,y4,rfl]:=Fd (m:=bN (dV 0) "at") (g:=gn 2 (fE (fe 3) (fE (fe 4) gz))) (body:=pC) (env:=[some (.m (ml n)),xN h,some (.d (.af (aA dP []))),zp,zp]) (jw zw abb) hb
  (λi env=>∃ y3 y4,env=[some (.m (ml n)),xN h,some (.d (.af (aA dP ((E.take i).foldl (qf h) [])))),y3,y4]) #[zp,zp,rfl] (by
  rintro i x env hx ⟨y3,y4,rfl⟩;rw[nU]at hx;let#[e,he,rfl]:=Option.map_eq_some_iff.mp hx;have tk:E.take (i+1)=E.take i++[e]:=by rw[List.take_add_one,he];rfl
  have t:dB (d2 zc pz (dV 3) (dV 1)) [some (.m (ml n)),xN h,some (.d (.af (aA dP ((E.take i).foldl (qf h) [])))),xN e.1,some (.d (.af (aA dP e.2)))] B=.val (decide (e.1<=h)) B:=gI (fV (r:=.old (.bl (decide (e.1<=h)))) zw zw (by simp[pz]));rw[tk,List.foldl_append];by_cases c:e.1<=h
  .rw[decide_eq_true c]at t;exact#[_,_,rfl,(io t).trans (gc zw),xN e.1,some (.d (.af (aA dP e.2))),by rw[show ([e].foldl (qf h) ((E.take i).foldl (qf h) []))=e.2 from if_pos c];rfl]
  .rw[decide_eq_false c]at t;exact#[_,_,rfl,(gh t).trans zw,xN e.1,some (.d (.af (aA dP e.2))),by rw[show ([e].foldl (qf h) ((E.take i).foldl (qf h) []))=(E.take i).foldl (qf h) [] from if_neg c]])
 rw[aY,wG]at e;exact(fq e).trans (gU zw)
abbrev WA:aj:=(fB (aF (dB (d2 zc nJ (d2 zc ag (dV 3) zm) (dV 1))) Ij aS) (aF (dB (vV zc (dV 5))) (tX (dV 2) (d2 zc ag (dV 3) zO)) (kS (dV 2) (d2 zc ag (dV 3) zO) (dV 5))))
abbrev rD (q:Pg×D):D:=.tup [enc q.1,q.2,cX q.1]
abbrev g3:DG:=gn 3 (fE (fe 3) (fE (fe 4) (fE (fe 5) gz)))
theorem WB (g:Pg) (h:env[3]?=some (some zG)):d2 zc ag (dV 3) zO env B=.val (.d (.int (bb g))) B:=by
 cases g<;>simp[h,enc,cU,bt,dS,ag,bf,bL,bb]
theorem Th {aK a7:aN}{ah:List Bx}{w:W}{l:List W}{g:DG}{body:aj}(h1:g w env bx=some (aK,bx1)) (h2:body aK bx1=.bk a7 ah):cC g body (w::l) env bx=.nx a7 ah:=by
 rw[cC,h1];erw[h2]
theorem Ti {a b:aj}{aK:aN}(h:a env bx=.bk aK bx1):fB a b env bx=.bk aK bx1:=by rw[oj,h]
section
variable {ps:Al} {h:Int} {x0:Option W}
theorem Tj {K R:Al}(J:cK K R n) (hn:n<=100) {g:Pg}(c:word ps K R g="takes") (t:aP g<=h) (x:D) :
 WA [x0,xN h,xB bx.length,some zG,some (.d x),some (.d (cX g))] (bx++[.af (aV R)])=.nx [x0,xN h,xB bx.length,some zG,some (.d x),some (.d (cX g))] (bx++[.af (aV (rC R g))]):=by
 have lr:=J.lr;have tt:dB (d2 zc nJ (d2 zc ag (dV 3) zm) (dV 1)) [x0,xN h,xB bx.length,some zG,some (.d x),some (.d (cX g))] (bx++[.af (aV R)])=.val zc (bx++[.af (aV R)]):=
  gI (fV (r:=.old (.bl zc)) (x:=.int (aP g)) (y:=.int h) (S8 g zw) zw (by simp[nJ];lia))
 refine(fq ((gh tt).trans zw)).trans ?_;have b0:(bx++[Bx.af (aV R)])[bx.length]?=some (.af (aV R)):=by simp
 have st:∀ L:Al,(bx++[Bx.af (aV R)]).set bx.length (.af (aV L))=bx++[.af (aV L)]:=λL=>by simp
 cases g with
 |aH h' l k r p w=>
   have p2:=Dc (L:=R) (m:=dV 2) (k:=d2 zc ag (dV 3) zO) (v:=dV 5) (x:=r) (l:=l) (i:=bx.length) (B:=bx++[.af (aV R)]) (env:=[x0,xN h,xB bx.length,some (.d (enc zM)),some (.d x),some (.d (cX zM))]) zw zw (WB zM zw) b0 zd;rw[st]at p2;exact(gh (t:=dB (vV zc (dV 5))) zw).trans p2
 |to h' l r=>
   have p2:=Dc (L:=R) (m:=dV 2) (k:=d2 zc ag (dV 3) zO) (v:=dV 5) (x:=r) (l:=l) (i:=bx.length) (B:=bx++[.af (aV R)]) (env:=[x0,xN h,xB bx.length,some (.d (enc zaf)),some (.d x),some (.d (cX zaf))]) zw zw (WB zaf zw) b0 zd;rw[st]at p2;exact(gh (t:=dB (vV zc (dV 5))) zw).trans p2
 |out h' l=>
   have p2:=P7 (L:=R) (m:=dV 2) (k:=d2 zc ag (dV 3) zO) (l:=l) (i:=bx.length) (B:=bx++[.af (aV R)]) (env:=[x0,xN h,xB bx.length,some (.d (enc (.out h' l))),some (.d x),some (.d (cX (.out h' l)))]) zw (WB (.out h' l) zw) b0 (Dd c);rw[st]at p2;exact(io (t:=dB (vV zc (dV 5))) zw).trans p2
theorem Pb:∀ (gs:List Pg) (K R:Al) (n:Nat) (S:List (Pg×D)) (y3 y4 y5:Option W),wj gs->cK K R n->n+gs.length<=100->S.map (·.1)=taken ps K R gs ->
 ∃ z3 z4 z5,cC g3 WA ((S.map rD).map W.d) [x0,xN h,xB bx.length,y3,y4,y5] (bx++[.af (aV R)])=.nx [x0,xN h,xB bx.length,z3,z4,z5] (bx++[.af (aV (pre h ps K R gs).2)]):=by
 intro l_;induction l_ with
 |nil=>
   intro K R n S y3 y4 y5 _ _ _ e;have:S=[]:=List.map_eq_nil_iff.mp e;subst this;exact#[y3,y4,y5,rfl]
 |cons g gs ao=>
   intro K R n S y3 y4 y5 s J hn e;let#[s1,s2]:=List.pairwise_cons.mp s;rw[bg]at hn;by_cases c:word ps K R g="takes"
   .rw[show taken ps K R (g::gs)=g::taken ps (stK K g) (rC R g) gs from if_pos c]at e;cases S with
    |nil=>cases e
    |cons q S=>
      let#[q1,x]:=q;rw[az]at e;injection e with e1 e2;have nG:q1=g:=e1;subst nG;have g1:g3 (W.d (rD (q1,x))) [x0,xN h,xB bx.length,y3,y4,y5] (bx++[.af (aV R)])=some ([x0,xN h,xB bx.length,some (.d (enc q1)),some (.d x),some (.d (cX q1))],bx++[.af (aV R)]):=rfl;by_cases t:aP q1<=h
      .let#[z3,z4,z5,ih]:=ao (stK K q1) (rC R q1) (n+1) S (some (.d (enc q1))) (some (.d x)) (some (.d (cX q1))) s2 (J.step c) zd e2;refine#[z3,z4,z5,?_];rw[az,az,lm g1 (Tj J zd c t x),ih,show pre h ps K R (q1::gs)=pre h ps (cn ps K R q1) (cz ps K R q1) gs from if_pos t,(iA c).1,(iA c).2]
      .have tt:dB (d2 zc nJ (d2 zc ag (dV 3) zm) (dV 1)) [x0,xN h,xB bx.length,some (.d (enc q1)),some (.d x),some (.d (cX q1))] (bx++[.af (aV R)])=.val zu (bx++[.af (aV R)]):=
        gI (fV (r:=.old (.bl zu)) (x:=.int (aP q1)) (y:=.int h) (S8 q1 zw) zw (by simp[nJ];lia))
       refine#[some (.d (enc q1)),some (.d x),some (.d (cX q1)),?_];have bk:WA [x0,xN h,xB bx.length,some (.d (enc q1)),some (.d x),some (.d (cX q1))] (bx++[.af (aV R)])=.bk [x0,xN h,xB bx.length,some (.d (enc q1)),some (.d x),some (.d (cX q1))] (bx++[.af (aV R)]):=Ti ((io tt).trans zw);rw[az,az,Th g1 bk,show pre h ps K R (q1::gs)=(K,R) from if_neg t]
   .rw[show taken ps K R (g::gs)=taken ps K R gs from if_neg c]at e;let#[z3,z4,z5,ih]:=ao K R n S y3 y4 y5 s2 J zd e;refine#[z3,z4,z5,ih.trans ?_];by_cases t:aP g<=h
    .rw[show pre h ps K R (g::gs)=pre h ps (cn ps K R g) (cz ps K R g) gs from if_pos t,(iI c).1,(iI c).2]
    .rw[show pre h ps K R (g::gs)=(K,R) from if_neg t,MJ λg' m=>by have:=s1 g' m;lia]
end
theorem UG {k:Nat}{l:List (Key×D)}(h:env[k]?=some (xB i)) (hb:bx[i]?=some (.af l)):rZ k env bx=.val (.d (.af l)) (bx.set i .dead):=by
 unfold rZ;erw[h,hb]
section
variable {rs ks:List D} 
theorem Pc {h:Int}{qs:List Pg}{S:List (Pg×D)}(s:wj qs) (hl:qs.length<=16) (e:S.map (·.1)=taken ps [] [] qs) :
 iH [.d (.lst (S.map rD)),.d (.int h)] bx=.val (.d (.af (aV (pre h ps [] [] qs).2))) bx:=by
 let#[z3,z4,z5,f]:=Pb (ps:=ps) (bx:=bx) (h:=h) (x0:=some (.d (.lst (S.map rD)))) qs [] [] 0 S zp zp zp s xG zd e;have s1:fH (nN zu []) (fe 2) [some (.d (.lst (S.map rD))),xN h,zp,zp,zp,zp] bx=.nx [some (.d (.lst (S.map rD))),xN h,xB bx.length,zp,zp,zp] (bx++[.af (aV [])]):=by
  have:nN zu [] [some (.d (.lst (S.map rD))),xN h,zp,zp,zp,zp] bx=.val (.b bx.length) (bx++[.af (aV [])]):=by simp[nN,bX,aA]
  exact gc this
 have b:lg [some (.d (.lst (S.map rD))),xN h,zp,zp,zp,zp] bx=.rt (.d (.af (aV (pre h ps [] [] qs).2))) ((bx++[Bx.af (aV (pre h ps [] [] qs).2)]).set bx.length .dead):=
  (fq s1).trans ((fq ((lj (gL zw)).trans f)).trans (gU (UG zw zq)))
 refine(oz (ws:=[.d (.lst (S.map rD)),.d (.int h)]) b).trans ?_;simp[Yn]
theorem agr:∀ (T:List (Pg×Str×D×D)) (w0 w1 w2 w3:Option W) (acc:List D),acc.length+T.length<=1000 ->
 bq g4 (dB (d2 zc aJ (dV 1) (dC (.str "takes")))) (fP (fc (dV 0) (fc (dV 2) (fc (dV 3) fg)))) ((T.map tq).map W.d) [w0,w1,w2,w3] B acc=.val (acc++(T.filter λx=>decide (x.2.1=("takes":Str))).map λx=>.tup [enc x.1,x.2.2.1,x.2.2.2]) B:=by
 intro l_;induction l_ with
 |nil=>(intro _ _ _ _ acc _;simp[bq])
 |cons x T ao=>
   intro w0 w1 w2 w3 acc hl;have z:sizeLine=16777216:=bj;rw[bg]at hl;have e0:g4 (W.d (tq x)) [w0,w1,w2,w3] B=some ([some (.d (enc x.1)),some (.d (.str x.2.1)),some (.d x.2.2.1),some (.d x.2.2.2)],B):=rfl;have t:dB (d2 zc aJ (dV 1) (dC (.str "takes"))) [some (.d (enc x.1)),some (.d (.str x.2.1)),some (.d x.2.2.1),some (.d x.2.2.2)] B=.val (decide (x.2.1="takes")) B:=gI (fV (r:=.old (.bl (decide (x.2.1="takes")))) zw zw (eq_str _ _));have e1:fP (fc (dV 0) (fc (dV 2) (fc (dV 3) fg))) [some (.d (enc x.1)),some (.d (.str x.2.1)),some (.d x.2.2.1),some (.d x.2.2.2)] B=.val (.d (.tup [enc x.1,x.2.2.1,x.2.2.2])) B:=gk [enc x.1,x.2.2.1,x.2.2.2] zw zB;by_cases c:x.2.1=("takes":Str)
   .have ih:=ao (some (.d (enc x.1))) (some (.d (.str x.2.1))) (some (.d x.2.2.1)) (some (.d x.2.2.2)) (acc++[.tup [enc x.1,x.2.2.1,x.2.2.2]]) zB;rw[decide_eq_true c]at t;erw[az,bq,e0,t,oP,e1];rw[if_pos zd,ih,vf (by simpa using c)];simp
   .have ih:=ao (some (.d (enc x.1))) (some (.d (.str x.2.1))) (some (.d x.2.2.1)) (some (.d x.2.2.2)) acc zd;rw[decide_eq_false c]at t;erw[az,bq,e0,t,oP];rw[ih,ve (by simpa using c)]
theorem Pd (H:Hs rs ks ps hd) {qs:List Pg}(hl:qs.length<=16) (so:cV [.lst zg]=some (.lst (qs.map enc))) :
 ∃ S:List (Pg×D),iU [.d za,.d ze] bx=.val (.d (.lst (S.map rD))) bx /\ S.map (·.1)=taken ps [] [] qs:=by
 let#[T',e,z,z2]:=S5 (bx:=bx) H hl so;have tl:T'.length<=16:=by
  have:=congrArg List.length z;rw[aY,List.length_zip]at this;lia
 have c:=agr (B:=bx) T' zp zp zp zp [] zB;have tk:=MK z z2;generalize hF:(T'.filter λx=>decide (x.2.1=("takes":Str)))=F at c tk;refine#[F.map λx=>(x.1,x.2.2.1),gC (gU (lN (gL (fK (l:=[.d za,.d ze]) zw zw e)) zw (c.trans ?_))),?_]
 .rw[nz,bw];congr 1;refine qm λx m=>?_;have:(x.1,x.2.2.2)∈(taken ps [] [] qs).map λg=>(g,cX g):=by rw[<-tk];exact bJ.mpr #[x,m,rfl]
  let#[g,_,eg]:=bJ.mp this;let#[e1,e2]:=Prod.mk.inj eg;show D.tup [enc x.1,x.2.2.1,x.2.2.2]=D.tup [enc x.1,x.2.2.1,cX x.1];rw[<-e2,e1]
 .have:=congrArg (List.map (·.1)) tk;rw[bw,bw]at this;rw[bw];refine this.trans ?_;exact List.map_id' _
theorem Di (h:Hs rs ks ps hd):K2.jm [.d za] bx=.val (.d .non) bx:=by
 have e:=Mb za (OW h) bx;rw[h.hh]at e;exact Mp ((gh (AK (gI (fK (l:=[.d za]) zw zw e)))).trans zw)
theorem oN (h:Hs rs ks ps hd) (G:Gs rs.length ks.length gs):K12.jn [.d za,.d ze] bx=.val (.d .non) bx:=
 Mp ((fq (iV (fK (l:=[.d za]) zw zw (Di h)))).trans ((gh (AK (gI (fK (l:=[.d za,.d ze]) zw zw (OX G))))).trans zw))
theorem Bv:∀ R:Al,wa (aV R)=some R
 |[]=>rfl
 | (k,v)::R=>by
   show (wa (aV R)).map ((k,v)::·)=_;rw[Bv R];rfl
theorem Bw {α:Type}{e:α->D}:∀ R:List (Int×α),v8 (aA e R)=some (R.map (·.1))
 |[]=>rfl
 | (k,v)::R=>by
   show (v8 (aA e R)).map (k::·)=_;rw[Bw R];rfl
abbrev bR (R:Al):List D:=rl (nP (R.map λq=>[q.1,q.2]))
theorem MO (H:Hs rs ks ps hd) {qs:List Pg}(G:Gs rs.length ks.length gs) (hl:qs.length<=16) (so:cV [.lst zg]=some (.lst (qs.map enc))) (s:wj qs) {h:Int}(h0:0<=h) :
 lK [.d za,.d ze,.d (.int h)] bx=.val (.b bx.length) (bx++[.lst (bR (pre h ps [] [] qs).2)]):=by
 let#[S,e1,e2]:=Pd (bx:=bx) H hl so;have r:=Pc (bx:=bx) (h:=h) s hl e2;have nh:K2.ig [.d (.int h)] bx=.val (.d .non) bx:=by
  rw[K2.oM,if_pos (show K2.hr (.int h)=true from decide_eq_true h0)]
 have lr:(pre h ps [] [] qs).2.length<64:=by
  have:=(Fc (h:=h) (ps:=ps) H.b (gs:=qs) xG (λa m=>nomatch m)).1.lr;lia
 have b:AC [some (.d za),some (.d ze),xN h,zp] bx=.rt (.b bx.length) (bx++[.lst (bR (pre h ps [] [] qs).2)]):=by
  refine(fq (iV (fK (l:=[.d za,.d ze]) zw zw (oN H G)))).trans ?_;refine(fq (iV (fK (l:=[.d (.int h)]) zw zw nh))).trans ?_;refine(fq (gc (fK (l:=[.d (.lst (S.map rD)),.d (.int h)]) (fm (fK (l:=[.d za,.d ze]) zw zw e1) (fm zw zw)) zw r))).trans ?_;refine gU ?_;unfold IQ;rw[show dV 3 ([some (.d za),some (.d ze),xN h,none].set 3 (some (.d (.af (aV (pre h ps [] [] qs).2))))) bx=.val (.d (.af (aV (pre h ps [] [] qs).2))) bx from rfl,fR];rw[show (nR bx (.d (.af (aV (pre h ps [] [] qs).2)))).bind wa=some (pre h ps [] [] qs).2 from Bv _];erw[if_pos lr];rfl
 show qV bx.length (qU (AC [some (.d za),some (.d ze),xN h,zp] bx))=_;rw[b];rfl
theorem MP (H:Hs rs ks ps hd) (G:Gs rs.length ks.length gs) {t:D}(ht:K2.hr t=zc) :
 lK [.d za,.d ze,.d t] bx=.exc 3 bx:=by
 have nh:K2.ig [.d t] bx=.exc 3 bx:=by rw[K2.oM,ht];rfl
 exact P3 ((fq (iV (fK (l:=[.d za,.d ze]) zw zw (oN H G)))).trans (Uo (SS (F9 (l:=[.d t]) zw zw nh))))
theorem Tk (H:Hs rs ks ps hd) {qs:List Pg}(G:Gs rs.length ks.length gs) (hl:qs.length<=16) (so:cV [.lst zg]=some (.lst (qs.map enc))) (s:wj qs) {h:Int}(h0:0<=h) :
 gu [.d za,.d ze,.d (.int h)] bx=.val (.b bx.length) (bx++[.lst (bR (pre h ps [] [] qs).2)]):=by
 have b:mj [some (.d za),some (.d ze),xN h,zp] bx=.rt (.b bx.length) (bx++[.lst (bR (pre h ps [] [] qs).2)]):=
  ST (gU (fK (l:=[.d za,.d ze,.d (.int h)]) zw zw (MO H G hl so s h0)))
 show qV bx.length (qU (aZ mj [some (.d za),some (.d ze),xN h,zp] bx))=_;unfold aZ;rw[b];rfl
theorem Tl (H:Hs rs ks ps hd) (G:Gs rs.length ks.length gs) {t:D}(ht:K2.hr t=zc) :
 gu [.d za,.d ze,.d t] bx=.val (.d (.str "hour")) bx:=
 gC (Uq (c:=3) (Um (F9 (l:=[.d za,.d ze,.d t]) zw zw (MP H G ht))) zf)
end
theorem Rb {R:Al}(nd:(R.map (·.1)).Nodup):bR R=(sortI (R.map (·.1))).map λl=>D.tup [.int l,.int ((look R l).getD 0)]:=by
 show rl _=_;rw[Fb nd];unfold rl;rw[bw];rfl
theorem Gj {R:Al}(nd:(R.map (·.1)).Nodup):∃ rows:Al,bR R=rows.map dP /\ ∀ q∈rows,q∈R:=by
 refine#[(sortI (R.map (·.1))).map λl=>(l,(look R l).getD 0),by rw[Rb nd,bw];rfl,λq m=>?_];let#[l,ml,rfl]:=bJ.mp m;let#[p,mp,rfl]:=bJ.mp ((gw _).mem_iff.mp ml);rw[lw nd mp];exact mp
abbrev WC:DE W:=fY zc [zp,some 12] (bB (xF zc (dV 12))) (fe 0) f7 (fP (fc (dV 0) (fc (d2 zc ag (bQ (dV 1) (dV 0)) zj) fg)))
theorem UH {K R:Al}(J:cK K R n) (hn:n<=50) (abi:env[12]?=some (some (.d (.af zax)))):WC env B=.val (.d (.lst (bR R))) B:=by
 have sz:=bj;have lr:=J.lr;have ags:dV 12 env B=.val (.d (.af zax)) B:=by unfold dV;rw[abi]
 have sk:xF zc (dV 12) env B=.val (.d (.lst ((sortI (R.map (·.1))).map D.int))) B:=by
  unfold xF;rw[ags,fR,show (nR B (.d (.af zax))).bind v8=some ((aq K R).map (·.1)) from Bw _,AM];erw[if_pos (show (R.map (·.1)).length<64 by rw[aY];lia)];rfl
 rw[Rb J.nd];refine Ws (enc:=D.int) (r:=[some (.d (.af zax))]) (λl=>D.tup [.int l,.int ((look R l).getD 0)]) (gL sk) (by simp[abi]) (by rw[(gw _).length_eq,aY];lia) λl ml=>?_;let#[p,mp,rfl]:=bJ.mp ((gw _).mem_iff.mp ml);have lk:=lw J.nd mp;have g:bQ (dV 1) (dV 0) [xN p.1,some (.d (.af zax))] B=.val (.d (dP (kk K p.1,p.2))) B:=by
  unfold bQ;rw[show dV 1 [some (W.d (D.int p.1)),some (.d (.af zax))] B=.val (.d (.af zax)) B from rfl,fR,show dV 0 [some (W.d (D.int p.1)),some (.d (.af zax))] B=.val (.d (.int p.1)) B from rfl,fR];show (match eE zax (.inl p.1) with|some u=>O.val (W.d u) B|none=>.bad)=_;rw[lQ,mT,lk];rfl
 rw[lk];exact gk [.int p.1,.int p.2] (fm zw (fm (fV (r:=.old (.int p.2)) g zw (by simp[ag,bf,bL])) zw)) (show (2:Nat)<=sizeLine by lia)
abbrev abj:aj:=zau
abbrev gQ (i j:Nat):DG:=gn 2 (fE (fe i) (fE (fe j) gz))
section
variable {rs ks:List D} {K':Al}
theorem UI {k:DE W}{l:Int}(hc:B[n+1]?=some (.af (aA enc ca))) (hk:pE ca=K') (hi:∀ q∈ca,isIn q.2=zu) (hl:(look K' l).isSome=zu) (h1:env[1]?=some (some (.m (ml n)))) (h2:k env B=.val (.d (.int l)) B) :
 d2 zc ag (bQ (bN (dV 1) "came") k) zE env B=.val (.d (.int (kk K' l))) B:=by
 subst hk;have v1:dV 1 env B=.val (.m (ml n)) B:=by unfold dV;rw[h1]
 have f:∀ {c:List (Int×Pg)},(∀ q∈c,isIn q.2=zu)->(look (pE c) l).isSome=zu->∃ h a k r p w,(c.find? λq=>decide (q.1=l)).map (·.2)=some (.aH h a k r p w) /\ kk (pE c) l=k:=by
  intro c;induction c with
  |nil=>intro _ z;cases z
  |cons q c ih=>
    intro hi z;have z':(look ((q.1,Ke q.2)::pE c) l).isSome=zu:=z;rw[iB]at z';rw[kZ];show ∃ h a k r p w,_ /\ (look ((q.1,Ke q.2)::pE c) l).getD 0=k;rw[iB];by_cases e:q.1=l
    .rw[decide_eq_true e,if_pos e];have:=hi q (bF ..);let#[a,g]:=q;cases g with
     |aH h a k r p w=>exact#[h,a,k,r,p,w,rfl,rfl]
     |to h a r=>cases this
     |out h a=>cases this
    .rw[if_neg e]at z' ⊢;rw[decide_eq_false e];exact ih (λq m=>hi q (bD _ m)) z'
 let#[h,a,k',r,p,w,e1,e2]:=f hi hl;have g:=ly (e:=enc) (L:=ca) (k:=k) (m:=bN (dV 1) "came") (env:=env) (bx:=B) (l:=l) h2 (jw v1 Wz) (lz hc) e1;rw[e2];exact fV (r:=.old (.int k')) g zw (by simp[enc,cU,bt,dS,ag,bf,bL])
theorem Pe {K R rows:Al}{m:Nat}(N:NC ps K R) (J:cK K R m) (hr:∀ q∈rows,q∈R) (hb:B[j]?=some (.lst (rows.map dP))) (hc:B[n+1]?=some (.af (aA enc ca))) (hk:pE ca=K') (hi:∀ q∈ca,isIn q.2=zu)
 (hK:∀ q∈R,kk K' q.1=kk K q.1 /\ (look K' q.1).isSome=zu) :
 gj [.d za,.m (ml n),.b j] B=.val (.d (.bl zu)) B:=by
 have sz:=bj;refine gC ?_;show jh [some (.d za),some (.m (ml n)),xB j,zp,zp,zp,zp,zp] B=_;have abk:∀ {i:Nat}{x:D},(rows.map dP)[i]?=some x->∃ q∈R,x=dP q:=λ{i x} hx=>by
  rw[nU]at hx;let#[q,hq,rfl]:=Option.map_eq_some_iff.mp hx;exact#[q,hr q (vc hq),rfl]
 let#[ax,e,y3,y4,y5,y6,y7,rfl]:=Fd (m:=dV 2) (g:=gQ 3 4) (body:=tY (dV 2) (gQ 5 6) abj) (env:=[some (.d za),some (.m (ml n)),xB j,zp,zp,zp,zp,zp]) (B0:=B) zw hb
  (λi env=>∃ y3 y4 y5 y6 y7,env=[some (.d za),some (.m (ml n)),xB j,y3,y4,y5,y6,y7]) #[zp,zp,zp,zp,zp,rfl] (by
  rintro i x env hx ⟨y3,y4,y5,y6,y7,rfl⟩;let#[a,ma,rfl]:=abk hx;let#[a7,e2,z5,z6,z7,rfl]:=Fd (m:=dV 2) (g:=gQ 5 6) (body:=abj) (env:=[some (.d za),some (.m (ml n)),xB j,xN a.1,xN a.2,y5,y6,y7]) (B0:=B) zw hb
   (λi env=>∃ z5 z6 z7,env=[some (.d za),some (.m (ml n)),xB j,xN a.1,xN a.2,z5,z6,z7]) #[y5,y6,y7,rfl] (by
   rintro i2 x2 env VJ ⟨z5,z6,z7,rfl⟩;let#[b,mb,rfl]:=abk VJ;have k1:=UI (k:=dV 3) (l:=a.1) (env:=[some (.d za),some (.m (ml n)),xB j,xN a.1,xN a.2,xN b.1,xN b.2,z7]) hc hk hi (hK a ma).2 zw zw;have k2:=UI (k:=dV 5) (l:=b.1) (env:=[some (.d za),some (.m (ml n)),xB j,xN a.1,xN a.2,xN b.1,xN b.2,z7]) hc hk hi (hK b mb).2 zw zw;rw[(hK a ma).1]at k1;rw[(hK b mb).1]at k2;have s1:fH (fP (fc (d2 zc ag (bQ (bN (dV 1) "came") (dV 3)) zE) (fc (d2 zc ag (bQ (bN (dV 1) "came") (dV 5)) zE) fg))) (fe 7) [some (.d za),some (.m (ml n)),xB j,xN a.1,xN a.2,xN b.1,xN b.2,z7] B=.nx [some (.d za),some (.m (ml n)),xB j,xN a.1,xN a.2,xN b.1,xN b.2,some (.d (dP (kk K a.1,kk K b.1)))] B:=
    gc (gk [.int (kk K a.1),.int (kk K b.1)] (fm k1 (fm k2 zw)) (show (2:Nat)<=sizeLine by lia))
   have t:kN (dB (d2 zc aJ (dV 4) (dV 6))) (dB (d2 zc (inD zc) (dV 7) (d2 zc ag (dV 0) zO))) [some (.d za),some (.m (ml n)),xB j,xN a.1,xN a.2,xN b.1,xN b.2,some (.d (dP (kk K a.1,kk K b.1)))] B=.val zc B:=by
    have t1:dB (d2 zc aJ (dV 4) (dV 6)) [some (.d za),some (.m (ml n)),xB j,xN a.1,xN a.2,xN b.1,xN b.2,some (.d (dP (kk K a.1,kk K b.1)))] B=.val (decide (a.2=b.2)) B:=gI (fV (r:=.old (.bl (decide (a.2=b.2)))) (x:=.int a.2) (y:=.int b.2) zw zw (by simp[aJ]));by_cases c:a.2=b.2
    .rw[decide_eq_true c]at t1;refine ou t1 (gI (fV (r:=.old (.bl zc)) (x:=dP (kk K a.1,kk K b.1)) (y:=.tup (ps.map dP)) zw (fV (r:=.old (.tup (ps.map dP))) (x:=hs rs ks ps hd) (y:=.int 2) zw zw (by simp[ag,bf,bL])) ?_));rw[AL,if_neg zf,decide_eq_false (N a ma b mb c)]
    .rw[decide_eq_false c]at t1;exact oq t1
   exact#[[some (.d za),some (.m (ml n)),xB j,xN a.1,xN a.2,xN b.1,xN b.2,z7],_,rfl,(fq s1).trans ((gh t).trans zw),_,_,_,rfl])
  exact#[[some (.d za),some (.m (ml n)),xB j,xN a.1,xN a.2,y5,y6,y7],_,rfl,e2,_,_,_,_,_,rfl])
 exact(fq e).trans (gU zw)
end
end K12
namespace aB
open L2 L2.DL K1 ny kD
theorem agt {B0:List Bx}(h:m env B0=.val (.b j) B) (g:B[j]?=some (.lst l)) (c:uJ (.lst l)=zu):kC m env B0=.val (.d (.str (toPy (.lst l)).shown)) B:=by
 unfold kC;have r:bT B (.b j)=some (.lst l):=by erw[bT,g]
 rw[h,fR,r];exact if_pos c
theorem UJ (j:Nat) (hj:j<=100) (env:aN) (b:List Bx):cM (fc (dC (.int (j:Nat))) fg) env b=.val (fO 0 j) b:=mB (j:=j) (bx1:=b) zq zd
section
variable {rs ks:List D} 
abbrev kT (d:D):D:=.str (toPy d).shown
end
theorem agu (l:List Int) (hl:l.length<=1000) (bx:List Bx) (xs:aN):∃ c:Nat,cM (fc (dN zc maxD (fc zj (fc (dN zc minD (fc (rf (dV 0)) (fc (dC (.int 6)) fg))) fg))) fg) (some (.s l)::xs) bx=.val (fO 0 c) bx:=by
 have e1:rf (dV 0) (some (.s l)::xs) bx=.val (.d (.int l.length)) bx:=rfl;have e2:dN zc minD (fc (rf (dV 0)) (fc (dC (.int 6)) fg)) (some (.s l)::xs) bx=.val (.d (.int (if (6:Int)<l.length then 6 else l.length))) bx:=oQ (r:=.old _) [.int l.length,.int 6] (fm e1 (fm zw zw)) zw;have e3:dN zc maxD (fc zj (fc (dN zc minD (fc (rf (dV 0)) (fc (dC (.int 6)) fg))) fg)) (some (.s l)::xs) bx=.val (.d (.int (if (if (6:Int)<l.length then (6:Int) else l.length)>1 then (if (6:Int)<l.length then 6 else l.length) else 1))) bx:=oQ (r:=.old _) [.int 1,.int (if (6:Int)<l.length then 6 else l.length)] (fm zw (fm e2 zw)) zw;generalize hz:(if (if (6:Int)<l.length then (6:Int) else l.length)>1 then (if (6:Int)<l.length then (6:Int) else l.length) else 1)=z at e3;have zb:0<=z /\ z<=6:=by
  rw[<-hz];split<;>split<;>lia
 exact#[z.toNat,mB (fm e3 zw) zd]
end aB
namespace K12
open L2 L2.DL K1 ny kD aB
def RB (R:Al):zy:=∀ q∈R,q.1.natAbs<=999 /\ q.2.natAbs<=999
theorem UK {nr nk:Nat}(r5:nr<=5) {ps K R:Al}{g:Pg}(ok:tZ nr nk g) (h:RB R):RB (cz ps K R g):=by
 by_cases c:word ps K R g="takes"
 .rw[(iA c).2];cases g with
  |aH h' l k r p w=>
    let#[_,o2,_,o4,_]:=ok;intro q m;rcases im m with m|m
    .rw[m.1,m.2];lia
    .exact h q m
  |to h' l r=>
    let#[_,o2,o3]:=ok;intro q m;rcases im m with m|m
    .rw[m.1,m.2];lia
    .exact h q m
  |out h' l=>exact λq m=>h q (qK.mp m).1
 .rw[(iI c).2];exact h
theorem Tm {nr nk:Nat}(r5:nr<=5) {ps:Al}{h:Int}:∀ {gs:List Pg}{K R:Al},(∀ g∈gs,tZ nr nk g)->RB R->RB (pre h ps K R gs).2:=by
 intro l_;induction l_ with
 |nil=>(intro _ _ _ b;exact b)
 |cons g gs ao=>
   intro K R ok b;unfold pre;split
   .exact ao (λg m=>ok g (bD _ m)) (UK r5 (ok g (bF ..)) b)
   .exact b
theorem MQ {R:Al}:(bR R).length=R.length:=by
 show (rl _).length=_;unfold rl;rw[aY,(jC _).length_eq,aY]
theorem Pf {R:Al}(nd:(R.map (·.1)).Nodup) (b:RB R) (hl:R.length<=50):uJ (.lst (bR R))=zu:=by
 have sz:=bj;let#[rows,e,m]:=Gj nd;have l:=MQ (R:=R);have s:=bZ.of (B:=999) (a:=1) (b:=4000) (l:=bR R) λd md=>by
  rw[e]at md;let#[q,mq,rfl]:=bJ.mp md;let#[b1,b2]:=b q (m q mq);have z:=Sm.tup (bZ.cons (Sm.int (B:=999) (a:=0) b1) (bZ.cons (Sm.int (B:=999) (a:=0) b2) bZ.nil));exact z.mono (au _) zd
 have:(bR R).length*(4000+2)<=50*4002:=Nat.mul_le_mul zd (au _);exact AJ (Sm.lst s) zf zf zd
theorem UL {k q:DE W}{d:D}(h1:m env B=.val (.b i) B) (hb:B[i]?=some (.lst l)) (h2:k env B=.val (.d (.int 0)) B) (h3:q env B=.val (.d d) B) (hl:l.length<sizeLine):vX m k q env B=.val (.d .non) (B.set i (.lst (d::l))):=by
 unfold vX;rw[h1,fR];erw[hb,h2,fR,h3];rw[if_pos #[YS _,by lia,hl]];simp
theorem oZ {g:List Bx}{x:Bx}(h:B[i]?=some x):(B++g)[i]?=some x:=by
 rw[dJ (List.getElem?_eq_some_iff.mp h).1];exact h
theorem C6 {m:DE (List W)}{B1:List Bx}{x y:W}(h:m env B=.val [x,y] B1):dR i j m env B=.nx ((env.set i (some x)).set j (some y)) B1:=by
 unfold dR;rw[h,ik]
abbrev WD:aj:=zY
abbrev Kg:aj:=(fB (dR 12 13 (fc (fu K12.gH 2 (fc (dV 8) (fc (dV 11) fg))) (fc (kC (dV 6)) fg))) (fB (fH WC (fe 14)) (iG (cM (fc zO fg)) (fe 15) WD)))
abbrev Kh:aj:=(aF (dB (d2 zc cP (fu K12.gu 3 (fc (dV 3) (fc (dV 6) (fc (dV 17) fg)))) (dC (.str "hour")))) (fN (dC (.bl zc))) aS)
section
variable {rs ks:List D} 
structure Tn (rs ks:List D) (ps:List (Int×Int)) (hd:D) (gs qs:List Pg) (ca:List (Int×Pg)):zy where
 H:Hs rs ks ps hd
 G:Gs rs.length ks.length gs
 so:cV [.lst zg]=some (.lst (qs.map enc))
 l:qs.length<=16
 t:∀ g∈qs,Lt rs.length ks.length g
 tg:∀ g∈gs,Lt rs.length ks.length g
 s:wj qs
 k:pE ca=pF ps [] [] qs
 i:∀ q∈ca,isIn q.2=zu
abbrev lE (x0 x1 x2 x4 x5 x7:Option W) (hs:D) (P:D) (N:Nat) (x9 aG bc aO a6 a5 aL aX aM:Option W):aN:=[x0,x1,x2,some (.d hs),x4,x5,some (.d P),x7,some (.m (ml N)),x9,aG,bc,aO,a6,a5,aL,aX,aM]
variable {qs:List Pg} {N:Nat}
theorem UM (T:Tn rs ks ps hd gs qs ca) (hc:B[N+1]?=some (.af (aA enc ca))) {h:Int}(h0:0<=h) (x0 x1 x2 x4 x5 x7 x9 aG aO aL aX aM:Option W) :
 ∃ z g,WD (lE x0 x1 x2 x4 x5 x7 za ze N x9 aG (xN h) aO (some (.d (kT ze))) (some (.d (.lst (bR (pre h ps [] [] qs).2)))) aL aX aM) B =
  .nx (lE x0 x1 x2 x4 x5 x7 za ze N x9 aG (xN h) aO (some (.d (kT ze))) (some (.d (.lst (bR (pre h ps [] [] qs).2)))) aL z aM) (B++[g]):=by
 have sz:=bj;have ql:=T.l;let#[J,N0]:=Fc (h:=h) (ps:=ps) T.H.b (gs:=qs) xG (λa m=>nomatch m);have rb:=Tm (h:=h) (ps:=ps) T.H.r5 (gs:=qs) (K:=[]) (R:=[]) (λg m=>(T.t g m).1) (λq m=>nomatch m);have pk:∀ q∈(pre h ps [] [] qs).2,kk (pF ps [] [] qs) q.1=kk (pre h ps [] [] qs).1 q.1 /\ (look (pF ps [] [] qs) q.1).isSome=zu:=λq m=>Tg (J.sub q m);have tv:=Tk (bx:=B) T.H T.G T.l T.so T.s h0;generalize (pre h ps [] [] qs).2=R at *;generalize (pre h ps [] [] qs).1=K at *;have lr:=J.lr;have cs:=Pf J.nd rb zd;have pl:=MQ (R:=R);let#[rows,e,m]:=Gj J.nd;have b0:(B++[Bx.lst (bR R)])[B.length]?=some (.lst (bR R)):=by simp
 have s1:fH (fu K12.gu 3 (fc (dV 3) (fc (dV 6) (fc (dV 11) fg)))) (fe 16) (lE x0 x1 x2 x4 x5 x7 za ze N x9 aG (xN h) aO (some (.d (kT ze))) (some (.d (.lst (bR R)))) aL aX aM) B=.nx zZ (B++[.lst (bR R)]):=
  gc (fK (l:=[.d za,.d ze,.d (.int h)]) zw zw tv)
 have t1:dB (d2 zc cP (kC (dV 16)) (kC (dV 14))) zZ (B++[.lst (bR R)])=.val zc (B++[.lst (bR R)]):=by
  refine gI (fV (r:=.old (.bl zc)) (x:=kT (.lst (bR R))) (y:=kT (.lst (bR R))) (agt zw b0 cs) (B4 zw cs) ?_);rw[aB.ne_str,decide_eq_true rfl];rfl
 have t2:dB (d2 zc cP (kC (dV 6)) (dV 13)) zZ (B++[.lst (bR R)])=.val zc (B++[.lst (bR R)]):=by
  refine gI (fV (r:=.old (.bl zc)) (x:=kT ze) (y:=kT ze) (B4 zw (Bu T.H.r5 T.H.k4 T.tg T.G.l)) zw ?_);rw[aB.ne_str,decide_eq_true rfl];rfl
 have ap:=Pe (rs:=rs) (ks:=ks) (hd:=hd) (n:=N) (j:=B.length) (B:=B++[.lst (bR R)]) N0 J m (by rw[b0,e]) (oZ hc) T.k T.i pk;have t3:eN (dB (fu K12.gj 3 (fc (dV 3) (fc (dV 8) (fc (dV 16) fg))))) zZ (B++[.lst (bR R)])=.val zc (B++[.lst (bR R)]):=
  AK (gI (fK (l:=[.d za,.m (ml N),.b B.length]) zw zw ap))
 have a:=UL (m:=dV 16) (k:=dC (.int 0)) (q:=fP (fc (dC (.int 9)) (fc (dC (.int 9)) fg))) (env:=lE x0 x1 x2 x4 x5 x7 za ze N x9 aG (xN h) aO (some (.d (kT ze))) (some (.d (.lst (bR R)))) aL (xB B.length) aM) (B:=B++[.lst (bR R)]) (i:=B.length) (d:=.tup [.int 9,.int 9]) zw b0 zw (gk [.int 9,.int 9] zw (show (2:Nat)<=sizeLine by lia)) zd;rw[show (B++[Bx.lst (bR R)]).set B.length (.lst (.tup [.int 9,.int 9]::bR R))=B++[.lst (.tup [.int 9,.int 9]::bR R)] by simp]at a;exact#[_,_,(fq s1).trans ((fq ((gh (Md t1 (Md t2 t3))).trans zw)).trans (iV a))]
theorem To (T:Tn rs ks ps hd gs qs ca) (hc:B[N+1]?=some (.af (aA enc ca))) (ha:B[N+4]?=some (.lst (eS ps [] [] qs))) {h:Int}(h0:0<=h) (x0 x1 x2 x4 x5 x7 x9 aG aO a6 a5 aL aX aM:Option W) :
 ∃ cR dG dH cQ cG g,Kg (lE x0 x1 x2 x4 x5 x7 za ze N x9 aG (xN h) aO a6 a5 aL aX aM) B=.nx (lE x0 x1 x2 x4 x5 x7 za ze N x9 aG (xN h) cR dG dH cQ cG aM) (B++g):=by
 have ql:=T.l;let#[J,_]:=Fc (h:=h) (ps:=ps) T.H.b (gs:=qs) xG (λa m=>nomatch m);rw[Gh]at ha;have th:=Pa (h:=h) ha;rw[show ([]:At)=aq [] [] from rfl,Df T.s]at th;have s1:dR 12 13 (fc (fu K12.gH 2 (fc (dV 8) (fc (dV 11) fg))) (fc (kC (dV 6)) fg)) (lE x0 x1 x2 x4 x5 x7 za ze N x9 aG (xN h) aO a6 a5 aL aX aM) B=.nx (lE x0 x1 x2 x4 x5 x7 za ze N x9 aG (xN h) (some (.d (.af (aA dP (aq (pre h ps [] [] qs).1 (pre h ps [] [] qs).2))))) (some (.d (kT ze))) a5 aL aX aM) B:=
  C6 (fm (fK (l:=[.m (ml N),.d (.int h)]) zw zw th) (fm (B4 zw (Bu T.H.r5 T.H.k4 T.tg T.G.l)) zw))
 have s2:fH WC (fe 14) (lE x0 x1 x2 x4 x5 x7 za ze N x9 aG (xN h) (some (.d (.af (aA dP (aq (pre h ps [] [] qs).1 (pre h ps [] [] qs).2))))) (some (.d (kT ze))) a5 aL aX aM) B=.nx (lE x0 x1 x2 x4 x5 x7 za ze N x9 aG (xN h) (some (.d (.af (aA dP (aq (pre h ps [] [] qs).1 (pre h ps [] [] qs).2))))) (some (.d (kT ze))) (some (.d (.lst (bR (pre h ps [] [] qs).2)))) aL aX aM) B:=
  gc (UH J zd zw)
 generalize some (W.d (.af (aA dP (aq (pre h ps [] [] qs).1 (pre h ps [] [] qs).2))))=cR at s1 s2;let#[ax,b',e,cQ,cG,g,rfl,rfl]:=jL (g:=fe 15) (body:=WD) (λ_ env b=>∃ cQ cG g,env=lE x0 x1 x2 x4 x5 x7 za ze N x9 aG (xN h) cR (some (.d (kT ze))) (some (.d (.lst (bR (pre h ps [] [] qs).2)))) cQ cG aM /\ b=B++g) (fO 0 2) 0 _ B #[aL,aX,[],rfl,by simp] (by
  rintro i w env b hw ⟨cQ,cG,g,rfl,rfl⟩;let#[z,g',e]:=UM (B:=B++g) T (oZ hc) h0 x0 x1 x2 x4 x5 x7 x9 aG cR (some w) cG aM;exact#[lE x0 x1 x2 x4 x5 x7 za ze N x9 aG (xN h) cR (some (.d (kT ze))) (some (.d (.lst (bR (pre h ps [] [] qs).2)))) (some w) cG aM,B++g,_,_,rfl,e,some w,z,g++[g'],rfl,by rw[rJ]])
 exact#[_,_,_,cQ,cG,g,(fq s1).trans ((fq s2).trans ((lj (UJ 2 zf _ _)).trans e))]
theorem Ph (T:Tn rs ks ps hd gs qs ca) {t:D}(ht:K2.hr t=zc) (x0 x1 x2 x4 x5 x7 x9 aG bc aO a6 a5 aL aX:Option W) :
 Kh (lE x0 x1 x2 x4 x5 x7 za ze N x9 aG bc aO a6 a5 aL aX (some (.d t))) B=.nx (lE x0 x1 x2 x4 x5 x7 za ze N x9 aG bc aO a6 a5 aL aX (some (.d t))) B:=by
 have tx:=Tl (bx:=B) T.H T.G ht;have c:dB (d2 zc cP (fu K12.gu 3 (fc (dV 3) (fc (dV 6) (fc (dV 17) fg)))) (dC (.str "hour"))) (lE x0 x1 x2 x4 x5 x7 za ze N x9 aG bc aO a6 a5 aL aX (some (.d t))) B=.val zc B:=by
  refine gI (fV (r:=.old (.bl zc)) (x:=.str "hour") (y:=.str "hour") (fK (l:=[.d za,.d ze,.d t]) zw zw tx) zw ?_);rw[aB.ne_str,decide_eq_true rfl];rfl
 exact(gh c).trans zw
end
abbrev WE:aj:=(fH (d2 zc fQ (dV 9) (gx zc zH)) (fe 9))
abbrev agv:DE (List W):=bB (dV 9)
abbrev WG:DE (List W):=bB (gx zc (fc (yX zj) (fc (dC (.bl zu)) (fc (dC .non) (fc (dC (.str "3")) (fc (gx zc (fc zE fg)) (fc (fP (fc zE fg)) (fc (d2 zc cD zm (d2 zc dg (dC (.int 10)) (dC (.int 30)))) fg))))))))
abbrev Ki:aj:=(fB (fH (fu K2.iz 3 (fc (dV 2) (fc (fP fg) (fc (fu aB.gF 4 zr) fg)))) (gn 3 (fE (fe 5) (fE (fe 6) (fE (fe 7) gz))))) (fB (dR 8 9 (fc (fu aB.gN 2 (fc (dV 3) (fc (dV 6) fg))) (fc (gx zc zt) fg))) (fB (iG (bB (dV 6)) (fe 10) WE) (fB (iG agv (fe 11) Kg) (iG WG (fe 17) Kh)))))
abbrev WH:aj:=(fB (fH (fu K1.jH 1 (fc (fu K1.ie 2 (fc (dV 0) zam)) fg)) (fe 2)) (fB (fH (fu aB.iP 1 zai) (fe 3)) (iG (cM (fc zE fg)) (fe 4) Ki)))
theorem Tp:LT=(fB (iG (cM (fc (dN zc maxD (fc zj (fc (dN zc minD (fc (rf (dV 0)) (fc (dC (.int 6)) fg))) fg))) fg)) (fe 1) WH) (fN (dC (.bl zu)))):=rfl
section
variable {rs ks:List D} {qs:List Pg} {N:Nat}
theorem MR {nr nk:Nat}{g:Pg}(o:tZ nr nk g):0<=aP g:=by cases g<;>exact o.1
theorem Tq {P:D}(x0 x1 x2 x4 x5 x7 bc aO a6 a5 aL aX aM:Option W) {hs:D}{hrs:List Int}(g:Pg) (h0:0<=aP g) (hl:hrs.length<=200) :
 ∃ m:Int,0<=m /\ WE (lE x0 x1 x2 x4 x5 x7 hs P N (xJ hrs) (some zG) bc aO a6 a5 aL aX aM) B=.nx (lE x0 x1 x2 x4 x5 x7 hs P N (xJ (hrs++[aP g,m,aP g+1])) (some zG) bc aO a6 a5 aL aX aM) B:=by
 have sz:=bj;refine#[if aP g-1>0 then aP g-1 else 0,by split<;>lia,?_];generalize hE:lE x0 x1 x2 x4 x5 x7 hs P N (xJ hrs) (some zG) bc aO a6 a5 aL aX aM=E;have v9:dV 9 E B=.val (.d (.lst (hrs.map D.int))) B:=by subst hE;rfl
 have h:d2 zc ag (dV 10) zm E B=.val (.d (.int (aP g))) B:=by
  subst hE;cases g<;>simp[enc,cU,bt,dS,ag,bf,bL,aP]
 have s:d2 zc cD (d2 zc ag (dV 10) zm) zj E B=.val (.d (.int (aP g-1))) B:=fV (r:=.old _) h zw zw;have mx:dN zc maxD (fc zm (fc (d2 zc cD (d2 zc ag (dV 10) zm) zj) fg)) E B=.val (.d (.int (if aP g-1>0 then aP g-1 else 0))) B:=oQ (r:=.old _) [.int 0,.int (aP g-1)] (fm zw (fm s zw)) zw;have a:d2 zc fQ (d2 zc ag (dV 10) zm) zj E B=.val (.d (.int (aP g+1))) B:=fV (r:=.old _) h zw zw;have l:gx zc zH E B=.val (.d (.lst [.int (aP g),.int (if aP g-1>0 then aP g-1 else 0),.int (aP g+1)])) B:=lh [.int (aP g),.int (if aP g-1>0 then aP g-1 else 0),.int (aP g+1)] (fm h (fm mx (fm a zw))) (show (3:Nat)<=sizeLine by lia);have r:d2 zc fQ (dV 9) (gx zc zH) E B=.val (.d (.lst ((hrs++[aP g,if aP g-1>0 then aP g-1 else 0,aP g+1]).map D.int))) B:=
  fV (r:=.lst ((hrs++[aP g,if aP g-1>0 then aP g-1 else 0,aP g+1]).map D.int)) v9 l (by simp[fQ,sz];lia)
 exact(gc r).trans (by subst hE;rfl)
theorem Pi {P:D}(x0 x1 x2 x4 x5 x7 bc aO a6 a5 aL aX aM:Option W) {hs:D}:∀ (gs:List Pg) (hrs:List Int) (aG:Option W),(∀ g∈gs,0<=aP g)->(∀ h∈hrs,0<=h)->hrs.length+3*gs.length<=200 ->
 ∃ (ED:List Int) (kU:Option W),(∀ h∈ED,0<=h) /\ ED.length<=200 /\ cC (fe 10) WE ((gs.map enc).map W.d) (lE x0 x1 x2 x4 x5 x7 hs P N (xJ hrs) aG bc aO a6 a5 aL aX aM) B=.nx (lE x0 x1 x2 x4 x5 x7 hs P N (xJ ED) kU bc aO a6 a5 aL aX aM) B:=by
 intro l_;induction l_ with
 |nil=>exact λhrs aG _ h l=>#[hrs,aG,h,by lia,rfl]
 |cons g gs ao=>
   intro hrs aG hg h l;rw[bg]at l;have h0:=hg g (bF ..);let#[m,m0,e]:=Tq (P:=P) (N:=N) (B:=B) x0 x1 x2 x4 x5 x7 bc aO a6 a5 aL aX aM (hs:=hs) (hrs:=hrs) g h0 zd;let#[ED,kU,a,b,e2]:=ao (hrs++[aP g,m,aP g+1]) (some zG) (λg m=>hg g (bD _ m)) (λh' m'=>by
    rcases List.mem_append.mp m' with m'|m'
    .exact h h' m'
    .erw[bA,qJ,or_false]at m';rcases m' with rfl|rfl|rfl<;>lia) zB
   exact#[ED,kU,a,b,(lm zw e).trans e2]
theorem Pj (T:Tn rs ks ps hd gs qs ca) (hc:B[N+1]?=some (.af (aA enc ca))) (ha:B[N+4]?=some (.lst (eS ps [] [] qs))) {hrs:List Int}(h0:∀ h∈hrs,0<=h) (x0 x1 x2 x4 x5 x7 x9 aG bc aO a6 a5 aL aX aM:Option W) :
 ∃ kn cR dG dH cQ cG g,cC (fe 11) Kg ((hrs.map D.int).map W.d) (lE x0 x1 x2 x4 x5 x7 za ze N x9 aG bc aO a6 a5 aL aX aM) B=.nx (lE x0 x1 x2 x4 x5 x7 za ze N x9 aG kn cR dG dH cQ cG aM) (B++g):=by
 let#[ax,b',e,kn,cR,dG,dH,cQ,cG,g,rfl,rfl]:=jL (g:=fe 11) (body:=Kg) (λ_ env b=>∃ kn cR dG dH cQ cG g,env=lE x0 x1 x2 x4 x5 x7 za ze N x9 aG kn cR dG dH cQ cG aM /\ b=B++g) ((hrs.map D.int).map W.d) 0 (lE x0 x1 x2 x4 x5 x7 za ze N x9 aG bc aO a6 a5 aL aX aM) B #[bc,aO,a6,a5,aL,aX,[],rfl,by simp] (by
  rintro i w env b hw ⟨kn,cR,dG,dH,cQ,cG,g,rfl,rfl⟩;let#[d,md,rfl]:=bJ.mp (vc hw);let#[h,mh,rfl]:=bJ.mp md;let#[WI,WJ,WK,WL,WM,g',e]:=To (B:=B++g) T (oZ hc) (oZ ha) (h0 h mh) x0 x1 x2 x4 x5 x7 x9 aG cR dG dH cQ cG aM;exact#[lE x0 x1 x2 x4 x5 x7 za ze N x9 aG (xN h) cR dG dH cQ cG aM,B++g,_,_,rfl,e,_,WI,WJ,WK,WL,WM,g++g',rfl,by rw[rJ]])
 exact#[kn,cR,dG,dH,cQ,cG,g,e]
theorem Pk (T:Tn rs ks ps hd gs qs ca) (x0 x1 x2 x4 x5 x7 x9 aG bc aO a6 a5 aL aX aM:Option W) :
 ∃ kG,iG WG (fe 17) Kh (lE x0 x1 x2 x4 x5 x7 za ze N x9 aG bc aO a6 a5 aL aX aM) B=.nx (lE x0 x1 x2 x4 x5 x7 za ze N x9 aG bc aO a6 a5 aL aX kG) B:=by
 have sz:=bj;have agw:∀ e b,d2 zc dg (dC (.int 10)) (dC (.int 30)) e b=.val (.d (.int (10 ^ 30))) b:=λe b=>fV (r:=.old _) zw zw (C4 zf);have it:WG (lE x0 x1 x2 x4 x5 x7 za ze N x9 aG bc aO a6 a5 aL aX aM) B=.val ([D.int (-1),.bl zu,.non,.str "3",.lst [.int 3],.tup [.int 3],.int (0-10 ^ 30)].map W.d) B:=
  gL (lh [D.int (-1),.bl zu,.non,.str "3",.lst [.int 3],.tup [.int 3],.int (0-10 ^ 30)] (fm zw (fm zw (fm zw (fm zw (fm (lh [.int 3] zw (show (1:Nat)<=sizeLine by lia)) (fm (gk [.int 3] zw (show (1:Nat)<=sizeLine by lia)) (fm (fV (r:=.old _) zw (agw _ _) zw) zw))))))) (show (7:Nat)<=sizeLine by lia))
 let#[ax,b',e,kG,rfl,rfl]:=jL (g:=fe 17) (body:=Kh) (λ_ env b=>∃ kG,env=lE x0 x1 x2 x4 x5 x7 za ze N x9 aG bc aO a6 a5 aL aX kG /\ b=B) ([D.int (-1),.bl zu,.non,.str "3",.lst [.int 3],.tup [.int 3],.int (0-10 ^ 30)].map W.d) 0 (lE x0 x1 x2 x4 x5 x7 za ze N x9 aG bc aO a6 a5 aL aX aM) B #[aM,rfl,rfl] (by
  rintro i w env b hw ⟨kG,rfl,rfl⟩;let#[d,md,rfl]:=bJ.mp (vc hw);have ht:K2.hr d=zc:=by
   erw[bA,qJ,or_false]at md;rcases md with rfl|rfl|rfl|rfl|rfl|rfl|rfl
   .rfl
   .rfl
   .rfl
   .rfl
   .rfl
   .rfl
   .show decide ((0:Int)<=0-10 ^ 30)=zc;decide
  exact#[lE x0 x1 x2 x4 x5 x7 za ze N x9 aG bc aO a6 a5 aL aX (some (.d d)),b,_,_,rfl,Ph T ht x0 x1 x2 x4 x5 x7 x9 aG bc aO a6 a5 aL aX,_,rfl,rfl])
 exact#[kG,(lj it).trans e]
theorem UN (H:Hs rs ks ps hd) {A:List Bx}(hn:n<A.length) (q:Int) (x0 x1 x4 x5 x6 x7 x8 x9 aG bc aO a6 a5 aL aX aM:Option W) :
 ∃ A' q' y5 y6 y7 y8 y9 kU kn cR dG dH cQ cG kG,n<A'.length /\ Ki zab (pt A n q)=.nx [x0,x1,xB n,some (.d za),x4,y5,y6,y7,y8,y9,kU,kn,cR,dG,dH,cQ,cG,kG] (pt A' n q'):=by
 have sz:=bj;let#[near,q1,t1,mn]:=Mq hn q (env:=zab) (i:=2) zw [6,40] (ks:=fc (dC (.int 6)) (fc (dC (.int 40)) fg)) (λ_ _=>rfl) (k:=2) zw (by decide) zf;have WN:0<near /\ near<=40:=by simp at mn;lia
 let#[gs,q2,e2,nd,ok,gl]:=MI hn H q1 near WN.1 WN.2;let#[c,q3,e3,c0,c1]:=Td hn q2 (gs:=gs) zd;generalize hg:gs.map (sh c)=g1 at e3;have l1:g1.length<=16:=by rw[<-hg,aY];exact gl
 have o1:∀ g∈g1,Lt rs.length ks.length g:=λg m=>by
  rw[<-hg]at m;let#[g0,m0,rfl]:=bJ.mp m;exact UD (ok g0 m0) c0 c1 WN.2
 have n1:g1.Nodup:=by
  rw[<-hg];exact nW.mpr (nd.imp λh z=>h (Tc z))
 let#[qs,pq,agx,so]:=F6 n1 zd;have lq:qs.length<=16:=by rw[pq.length_eq];exact l1
 let#[th,ca,go,dr,e4,Q]:=O4 (bx:=pt A n q3) H lq (so g1 (.refl _));have T:Tn rs ks ps hd g1 qs ca:=#[H,#[λg m=>(o1 g m).1,n1,l1],so g1 (.refl _),lq,λg m=>o1 g (pq.mem_iff.mp m),o1,Tf agx,Q.k,Q.i];have s1:fH (fu K2.iz 3 (fc (dV 2) (fc (fP fg) (fc (fu aB.gF 4 zr) fg)))) (gn 3 (fE (fe 5) (fE (fe 6) (fE (fe 7) gz)))) zab (pt A n q)=.nx zX (pt A n q3):=by
  have cp:fu aB.gF 4 zr zab (pt A n q)=.val (.d ze) (pt A n q2):=
   fK (l:=[.b n,.d za,.d (.int 16),.d (.int near)]) (fm zw (fm zw (fm zw (fm t1 zw)))) zw e2
  have cc:fu K2.iz 3 (fc (dV 2) (fc (fP fg) (fc (fu aB.gF 4 zr) fg))) zab (pt A n q)=.val (.d (.tup [.tup [],.lst (g1.map enc),.int c])) (pt A n q3):=
   fK (l:=[.b n,.d (.tup []),.d ze]) (fm zw (fm (gk [] zw (kI _)) (fm cp zw))) zw e3
  rw[mm,cc];rfl
 have BL:∀ q,Bl (pt A n q) th ca go dr (eS ps [] [] qs) (p9 ps qs)=pt (A++[.af (aA dP th),.af (aA enc ca),.af (aV go),.dT dr,.lst (eS ps [] [] qs),.lst (p9 ps qs)]) n q:=λq=>by unfold Bl;rw[lu hn]
 have abl:n<(A++[Bx.af (aA dP th),.af (aA enc ca),.af (aV go),.dT dr,.lst (eS ps [] [] qs),.lst (p9 ps qs)]).length:=by simp;lia
 let#[EE,q4,abm,r0,r1]:=B7 abl q3 50 zf zf;rw[<-BL,<-BL]at abm;have agy:∀ e b,d2 zc dg (dC (.int 10)) (dC (.int 40)) e b=.val (.d (.int (10 ^ 40))) b:=λe b=>fV (r:=.old _) zw zw (C4 zf);have s2:dR 8 9 (fc (fu aB.gN 2 (fc (dV 3) (fc (dV 6) fg))) (fc (gx zc zt) fg)) zX (pt A n q3)=.nx (lE x0 x1 (xB n) x4 (some (.d (.tup []))) (xN c) za (.lst (g1.map enc)) (pt A n q4).length (xJ ([0,c,c+EE,10 ^ 40-1]:List Int)) aG bc aO a6 a5 aL aX aM) (Bl (pt A n q4) th ca go dr (eS ps [] [] qs) (p9 ps qs)):=by
  have rd:fu aB.gN 2 (fc (dV 3) (fc (dV 6) fg)) zX (pt A n q3)=.val (.m (ml (pt A n q3).length)) (Bl (pt A n q3) th ca go dr (eS ps [] [] qs) (p9 ps qs)):=fK (l:=[.d za,.d (.lst (g1.map enc))]) (fm zw (fm zw zw)) zw e4;have ls:gx zc zt zX (Bl (pt A n q3) th ca go dr (eS ps [] [] qs) (p9 ps qs))=.val (.d (.lst (([0,c,c+EE,10 ^ 40-1]:List Int).map D.int))) (Bl (pt A n q4) th ca go dr (eS ps [] [] qs) (p9 ps qs)):=
   lh [.int 0,.int c,.int (c+EE),.int (10 ^ 40-1)] (fm zw (fm zw (fm (fV (r:=.old _) (x:=.int c) (y:=.int EE) zw (fK (l:=[.b n,.d (.int 50)]) zw zw abm) zw) (fm (fV (r:=.old _) (x:=.int (10 ^ 40)) (y:=.int 1) (agy _ _) zw zw) zw)))) (show (4:Nat)<=sizeLine by lia)
  have:=C6 (i:=8) (j:=9) (m:=fc (fu aB.gN 2 (fc (dV 3) (fc (dV 6) fg))) (fc (gx zc zt) fg)) (fm rd (fm ls zw));rw[gK]at this ⊢;exact this
 let#[hrs,kU,h0,hl,e5]:=Pi (P:=.lst (g1.map enc)) (N:=(pt A n q4).length) (B:=Bl (pt A n q4) th ca go dr (eS ps [] [] qs) (p9 ps qs)) x0 x1 (xB n) x4 (some (.d (.tup []))) (xN c) bc aO a6 a5 aL aX aM (hs:=hs rs ks ps hd) g1 [0,c,c+EE,10 ^ 40-1] aG (λg m=>MR (o1 g m).1) (λh m=>by
  erw[bA,qJ,or_false]at m;rcases m with rfl|rfl|rfl|rfl
  .lia
  .exact c0
  .lia
  .decide) zB
 let#[kn,cR,dG,dH,cQ,cG,g,e6]:=Pj (B:=Bl (pt A n q4) th ca go dr (eS ps [] [] qs) (p9 ps qs)) (N:=(pt A n q4).length) T Ww Wx h0 x0 x1 (xB n) x4 (some (.d (.tup []))) (xN c) (xJ hrs) kU bc aO a6 a5 aL aX aM;let#[kG,e7]:=Pk (B:=Bl (pt A n q4) th ca go dr (eS ps [] [] qs) (p9 ps qs)++g) (N:=(pt A n q4).length) T x0 x1 (xB n) x4 (some (.d (.tup []))) (xN c) (xJ hrs) kU kn cR dG dH cQ cG aM;have fin:Ki zab (pt A n q)=.nx (lE x0 x1 (xB n) x4 (some (.d (.tup []))) (xN c) za (.lst (g1.map enc)) (pt A n q4).length (xJ hrs) kU kn cR dG dH cQ cG kG) (Bl (pt A n q4) th ca go dr (eS ps [] [] qs) (p9 ps qs)++g):=(fq s1).trans ((fq s2).trans ((fq ((lj (gL zw)).trans e5)).trans ((fq ((lj (gL zw)).trans e6)).trans e7)));rw[BL,lu abl]at fin;exact#[_,q4,_,_,_,_,_,kU,kn,cR,dG,dH,cQ,cG,kG,by rw[dj];lia,fin]
end
theorem UO (l:List Int) (k:Nat) (bx:List Bx) (x2 x3 x4 x5 x6 x7 x8 x9 aG bc aO a6 a5 aL aX aM:Option W):∃ (ys:aN) (bx':List Bx),ys.length=17 /\ WH [some (.s l),xN (k:Int),x2,x3,x4,x5,x6,x7,x8,x9,aG,bc,aO,a6,a5,aL,aX,aM] bx=.nx (some (.s l)::ys) bx':=by
 let#[c,ec]:=SR l k bx;let#[p,ep]:=Ul c bx;obtain⟨A,hn,pA⟩:∃ A:List Bx,bx.length<A.length /\ bx++[Bx.lst [D.int p]]=pt A bx.length p:=
  #[bx++[.lst [.int p]],by simp,by unfold pt;simp]
 rw[pA]at ep;let#[rs,ks,ps,hd,q,eh,H]:=aB.MF hn p;let#[ax,bx',e,A',q',y4,y5,y6,y7,y8,y9,kU,kn,cR,dG,dH,cQ,cG,kG,rfl,rfl,_]:=jL (g:=fe 4) (body:=Ki) (λ_ env b=>∃ A q y4 y5 y6 y7 y8 y9 kU kn cR dG dH cQ cG kG,env=[some (.s l),xN (k:Int),xB bx.length,some (.d za),y4,y5,y6,y7,y8,y9,kU,kn,cR,dG,dH,cQ,cG,kG] /\ b=pt A bx.length q /\ bx.length<A.length) (fO 0 3) 0 [some (.s l),xN (k:Int),xB bx.length,some (.d za),x4,x5,x6,x7,x8,x9,aG,bc,aO,a6,a5,aL,aX,aM] (pt A bx.length q) #[A,q,x4,x5,x6,x7,x8,x9,aG,bc,aO,a6,a5,aL,aX,aM,rfl,rfl,hn] (by
  rintro i w env b hw ⟨A,q,y4,y5,y6,y7,y8,y9,kU,kn,cR,dG,dH,cQ,cG,kG,rfl,rfl,hA⟩;let#[A',q',z5,z6,z7,z8,z9,agz,agA,WI,WJ,WK,WL,WM,agB,agC,e]:=UN H hA q (some (.s l)) (xN (k:Int)) (some w) y5 y6 y7 y8 y9 kU kn cR dG dH cQ cG kG;exact#[[some (.s l),xN (k:Int),xB bx.length,some (.d za),some w,y5,y6,y7,y8,y9,kU,kn,cR,dG,dH,cQ,cG,kG],pt A bx.length q,_,_,rfl,e,A',q',some w,z5,z6,z7,z8,z9,agz,agA,WI,WJ,WK,WL,WM,agB,rfl,rfl,agC])
 refine#[[xN (k:Int),xB bx.length,some (.d za),y4,y5,y6,y7,y8,y9,kU,kn,cR,dG,dH,cQ,cG,kG],pt A' bx.length q',rfl,?_];exact(fq (gc (fK (fm (fK (fm zw (fm zw zw)) zw ec) zw) zw ep))).trans ((fq (gc (fK (fm zw zw) zw eh))).trans ((lj (UJ 3 zf _ _)).trans e))
theorem law_true (l:List Int) (hl:l.length<=1000):∃ bx',BT [.s l] []=.val (.d (.bl zu)) bx':=by
 let#[c,ec]:=agu l hl [] [zp,zp,zp,zp,zp,zp,zp,zp,zp,zp,zp,zp,zp,zp,zp,zp,zp];let#[ax,bx',e,ys,rfl,hy]:=jL (g:=fe 1) (body:=WH) (λ_ env b=>∃ ys:aN,env=some (.s l)::ys /\ ys.length=17) (fO 0 c) 0 [some (.s l),zp,zp,zp,zp,zp,zp,zp,zp,zp,zp,zp,zp,zp,zp,zp,zp,zp] [] #[_,rfl,rfl] (by
  rintro i w env b hw ⟨ys,rfl,hy⟩;let#[k,_,rfl]:=bJ.mp (vc hw);match ys,hy with
  |[x1,x2,x3,x4,x5,x6,x7,x8,x9,aG,bc,aO,a6,a5,aL,aX,aM],_=>
    let#[zs,bx',hz,e]:=UO l k b x2 x3 x4 x5 x6 x7 x8 x9 aG bc aO a6 a5 aL aX aM;refine#[[some (.s l),xN (k:Int),x2,x3,x4,x5,x6,x7,x8,x9,aG,bc,aO,a6,a5,aL,aX,aM],b,_,_,by rw[YR];rfl,e,zs,rfl,hz])
 refine#[_,oz (bx':=bx') ?_];show LT [some (.s l),zp,zp,zp,zp,zp,zp,zp,zp,zp,zp,zp,zp,zp,zp,zp,zp,zp] []=_;rw[Tp];refine(fq ((lj ec).trans e)).trans ?_;exact gU zw
end K12
namespace L2.DL
open PySem.W
structure Cf where
 N:List Str
 nm:List (Str×NameKind)
 f:Bool
 bx:List Str
 dc:List Str
 wk:List (Str×Nat)   -- 1: a tuple of aiL,2: a box that is walked,3: a dict with tuple keys
 Kj:Str
 fs:List (Str×(Nat×(List W->List Bx->O W)))
 gl:List (Str×Int)
 bl:List Str
 rb:Bool
 rx:Bool
 tr:Bool
 ow:List Str
structure cb (c:Cf) (k:Nat) (X:Cx) (Z:Xs):zy where
 N:X.N=c.N
 nm:X.env.scope.names=c.nm
 kd:X.env.scope.kind=.function
 calm:X.calm=zu
 fn:c.f=zu->∀ x,X.fn x=zu
 ow:∀ x,x∈c.ow->X.fn x=zu
 nd:c.N.Nodup
 room:cx k X.A
 fs:∀ x n fn,c.fs.lookup x=some (n,fn)->∃ kk ps,pB X.prog X.w X.K X.mg X.base Z.cl kk x ps fn /\ ps.length=n /\ kk<=k
 gl:∀ x v,c.gl.lookup x=some v->∃ t,X.mg x=some (.int v t)
 bl:∀ x,x∈c.bl->X.mg x=zp
 agD:Passes (hJ X.prog X.w) X Z.E
 ti:pV X.K "int"
 tb:pV X.K "bool"
 tt:pV X.K "tuple"
 tl:pV X.K "list"
 own:c.rx=zc->PassesOwn zh X.A X.env X.xe
 agE:c.rx=zu->uB X Z.E /\ ∃ R,kR X.K X.mg R Z.cl
 abn:c.tr=zu->(∃ R,kR X.K X.mg R Z.cl) /\ En X.prog X.w X.K X.mg X.base Z.cl /\ 1<=k /\ X.stack=X.env::X.outer /\ X.env.frame=some X.env.locals
noncomputable def aI:DE α:=λ_ _=>.bad
section
variable {o:Option Expr}
theorem fI:PD X T Z e aI:=λ_ _ _ _ _ _ h=>by
 let#[_,_,_,_,_,h]:=h;exact h.elim
theorem jM:hV X T Z e aI:=λ_ _ _ _ _ _ h=>by
 let#[_,_,_,_,_,h]:=h;exact h.elim
theorem Gk:rW X T Z e aI:=λ_ _ _ _ _ _ _ h=>by
 let#[_,_,_,_,_,h]:=h;exact h.elim
theorem Pl:dQ X T Z es aI:=λ_ _ _ _ _ _ _ h=>by
 let#[_,_,_,_,_,h]:=h;exact h.elim
theorem Cd:tF X T Z tg e aI:=λ_ _ _ _ _ _ h=>by
 let#[_,_,_,_,_,h]:=h;exact h.elim
noncomputable def wo:DG:=λ_ _ _=>zp
noncomputable def abo:ph:=λ_ _ _=>zp
theorem lR:kP X T e wo:=λ_ _ _ _ _ _ _ _ _ h=>by
 let#[_,_,_,_,_,_,_,h]:=h;exact h.elim
theorem MS:tm X T es abo:=λ_ _ _ _ _ _ _ _ _ h=>by
 let#[_,_,_,_,_,_,_,h]:=h;exact h.elim
end
noncomputable def Cf.kd (c:Cf) (x:Str) (n:Nat):Bool:=match c.wk.lookup x with|some k=>k==n|none=>zc
def WO (c:Cf) (n:Nat):Expr->Bool
 |.Name x _=>c.kd x n
 |.Subscript _ (.Constant (.str x) _ _) _=>c.kd x n
 |_=>zc
noncomputable def wq (c:Cf):Expr->Bool
 |.Name x _=>c.dc.contains x
 |.Subscript _ (.Constant (.str x) _ _) _=>c.dc.contains x
 |_=>zc
noncomputable def Cf.ix (c:Cf) (x:Str):Option Nat:=c.N.findIdx? λy=>decide (y=x)
theorem Cf.WQ {c:Cf}(h:c.ix x=some i):c.N[i]?=some x:=by
 let#[h1,h2,_]:=List.findIdx?_eq_some_iff_getElem.mp h;rw[pM h1,of_decide_eq_true h2]
noncomputable def Cf.EF (c:Cf) (x:Str):Bool:=(decide (c.nm.lookup x=some .local)||decide (c.nm.lookup x=some .cell)||decide (c.nm.lookup x=some .free))&&!(x==("__debug__":Str))&&!(x==("__classdict__":Str))
noncomputable def Cf.uY (c:Cf) (x:Str):Bool:=decide (c.nm.lookup x=some .globalImplicit)&&!(x==("__debug__":Str))&&decide (x≠("__name__":Str))
noncomputable def Cf.xH (c:Cf) (x:Str):Bool:=(decide (c.nm.lookup x=some .local)||decide (c.nm.lookup x=some .cell))&&(c.f||decide (x∈c.ow)||decide (c.nm.lookup x=some .local))
def Cf.pG (c:Cf) (x:Str):Bool:=c.uY x&&decide (x∈c.bl)
section
variable {c:Cf} {k:Nat} 
theorem cb.WR (O:cb c k X Z) (h:c.EF x=zu):sO X.env.scope x /\ (x==("__debug__":Str))=zc /\ (x==("__classdict__":Str))=zc:=by
 erw[Cf.EF,aD,vi,decide_eq_true_eq,pO]at h;unfold sO;rw[O.nm];exact#[or_assoc.mp h.1.1,h.1.2,h.2]
theorem cb.gb (O:cb c k X Z) (h:c.uY x=zu):Gl X x /\ (x==("__debug__":Str))=zc /\ x≠("__name__":Str):=by
 erw[Cf.uY,aD,decide_eq_true_eq,pO]at h;unfold Gl Env.kindOf;rw[O.nm];exact#[h.1.1,h.1.2,h.2]
theorem cb.lo (O:cb c k X Z) (h:c.xH x=zu):Loc X.env.scope x /\ (X.fn x=zu \/ X.env.scope.names.lookup x=some .local):=by
 erw[Cf.xH,aD,vi,decide_eq_true_eq]at h;unfold Loc;rw[O.nm];exact#[h.1,h.2.imp (λz=>z.elim (λz=>O.fn z x) (O.ow x)) id]
theorem cb.blt (O:cb c k X Z) (h:c.pG x=zu):Gl X x /\ (x==("__debug__":Str))=zc /\ x≠("__name__":Str) /\ X.mg x=zp:=by
 erw[Cf.pG,aD,decide_eq_true_eq]at h;let#[a,b,d]:=O.gb h.1;exact#[a,b,d,O.bl x h.2]
theorem cb.at (O:cb c k X Z) (h:c.ix x=some i):X.N[i]?=some x:=by rw[O.N];exact c.WQ h
theorem cb.wu (O:cb c k X Z):X.N.Nodup:=by rw[O.N];exact O.nd
theorem cb.u0 (O:cb c k X Z):X.A.units+100<cLine:=by have:=O.room.un;lia
theorem cb.u1 (O:cb c k X Z):X.A.units+1<cLine:=by have:=O.room.un;lia
def WS (c:Cf) (fz:Bool) (x:Str):DE W:=match c.ix x with
 |some i=>if c.EF x then (if fz&&c.bx.contains x then rZ i else dV i) else aI
 | none=>match c.gl.lookup x with
   |some v=>if c.uY x then dC (.int v) else aI
   |none=>aI
theorem MT (O:cb c k X Z) (fz:Bool):PD X T Z (.Name x pos) (WS c fz x):=by
 unfold WS;split
 .ext i e;split
  .ext h;let#[a,b,d]:=O.WR h;split
   .exact Sh i (O.at e) a b d
   .exact J1 i (O.at e) a b d
  .exact fI
 .split
  .ext v e;split
   .ext h;let#[a,b,_]:=O.gb h;exact N2 a (O.gl x v e) b
   .exact fI
  .exact fI
end
section
variable {c:Cf} {k:Nat} {f:Expr -> DE W} {t:Expr -> DE Bool} {g:Expr -> DG}
def wx (f:Expr->DE W):List Expr->DE (List W)
 |[]=>fg
 |e::es=>if br e then fc (f e) (wx f es) else aI
theorem oB (h:∀ e,PD X T Z e (f e)):∀ es,dQ X T Z es (wx f es)
 |[]=>mH
 | e::es=>by
   unfold wx;split
   .ext n;exact oG (h e) (oB h es) n
   .exact Pl
def WT (f:Expr->DE W):List Expr->DE W
 |[]=>aI
 |[a]=>f a
 |a::r=>ia (f a) (WT f r)
theorem Gm (h:∀ e,PD X T Z e (f e)):∀ es,PD X T Z (.BoolOp .And es pos) (WT f es)
 |[]=>fI
 |[a]=>RV (h a)
 |a::b::r=>RW (h a) (Gm h (b::r))
def WU (f:Expr->DE Bool):List Expr->DE Bool
 |[]=>aI
 |[a]=>f a
 |a::r=>kN (f a) (WU f r)
theorem Dj (h:∀ e,hV X T Z e (t e)):∀ es,rW X T Z (.BoolOp .And es pos) (WU t es)
 |[]=>Gk
 |[a]=>J4 (h a)
 |a::b::r=>Nw (h a) (Dj h (b::r))
def WV (f:Expr->DE Bool):List Expr->DE Bool
 |[]=>aI
 |[a]=>f a
 |a::r=>kO (f a) (WV f r)
theorem Gn (h:∀ e,hV X T Z e (t e)):∀ es,rW X T Z (.BoolOp .Or es pos) (WV t es)
 |[]=>Gk
 |[a]=>Nv (h a)
 |a::b::r=>RU (h a) (Gn h (b::r))
def Kk (g:Expr->DG):List Expr->ph
 |[]=>gz
 |e::es=>if br e then fE (g e) (Kk g es) else abo
theorem MU (h:∀ e,kP X T e (g e)):∀ es,tm X T es (Kk g es)
 |[]=>La
 | e::es=>by
   unfold Kk;split
   .ext n;exact Ss (h e) (MU h es) n
   .exact MS
end
def abp:Operator->Option (D->D->Option Res)
 |.Add=>some fQ|.Sub=>some cD|.Mult=>some km|.FloorDiv=>some uF|.Mod=>some pj|.Pow=>some dg
 |_=>zp
def EG:CmpOp->Option (D->D->Option Res)
 |.Eq=>some aJ|.NotEq=>some cP|.Lt=>some eQ|.LtE=>some pz|.Gt=>some nJ|.GtE=>some vL|.In=>some (inD zc)|.NotIn=>some (inD zu)
 |_=>zp
theorem Pm {op:Operator}(h:abp op=some g):∃ q,ba X (binaryOp op) q /\ cB q g:=by
 cases op<;>cases h
 .exact#[_,NK,aeS]
 .exact#[_,Ru,aeT]
 .exact#[_,NW,afj]
 .exact#[_,Rw,aeV]
 .exact#[_,Rx,aeW]
 .exact#[_,Na,aeU]
theorem o7 (hu:X.A.units+100<cLine) (h:EG op=some g):∃ q,ba X (compareOp op) q /\ cB q g:=by
 cases op<;>cases h
 .exact#[_,Se hu,afh]
 .exact#[_,Sf hu,afi]
 .exact#[_,SE zd,af9]
 .exact#[_,Sg zd,afk]
 .exact#[_,TR,aeX]
 .exact#[_,TU,aeY]
 .exact#[_,GC.or (Su hu),okIn zc]
 .exact#[_,BF.or (GZ hu),okIn zu]
def WW:List (Str×(Bool×(String×(List D->Option Res)))):=
 [("len",zc, "len",bM),("all",zc, "all",dh),("sorted",zc, "sorted",cV),("max",zc, "max",maxD),("min",zc, "min",minD),
  ("tuple",zu, "tuple",qA),("list",zu, "list",xn)]
def abq (X:Cx) (x:Str) (p:Bool×(String×(List D->Option Res))):zy:=
 match p with
 |(false,id,g)=>bootBuiltins x=some (.builtin id) /\ ∃ q,dY X (.builtin id) q /\ k9 q g
 |(true,id,g)=>bootBuiltins x=some (.type id) /\ ∃ q,dY X (.type id) q /\ k9 q g
theorem iY {α:Type}{P:Str->α->zy}:∀ {l:List (Str×α)}{x:Str}{a:α},(∀ p∈l,P p.1 p.2)->l.lookup x=some a->P x a
 |[],_,_,_,e=>by cases e
 | (y,b)::r,x,a,h,e=>by
   rw[eW]at e;cases hx:x==y with
   |true=>
     rw[hx]at e;cases e;have:x=y:=by simpa using hx
     subst this;exact h _ (bF ..)
   |false=>
     rw[hx]at e;exact iY (λp m=>h p (bD _ m)) e
theorem Pn (hc:X.calm=zu) (hu:X.A.units+100<cLine) {p:Bool×(String×(List D->Option Res))}(h:WW.lookup x=some p):abq X x p:=by
 refine iY (P:=abq X) (λp m=>?_) h;erw[WW,bA,qJ,or_false]at m;rcases m with rfl|rfl|rfl|rfl|rfl|rfl|rfl
 .exact#[by decide +kernel,_,mF,ae0]
 .exact#[by decide +kernel,_,GJ hc,ae2]
 .exact#[by decide +kernel,_,DU hu,afK]
 .exact#[by decide +kernel,_,Gx hc,ae5]
 .exact#[by decide +kernel,_,Gy hc,ae6]
 .exact#[by decide +kernel,_,AU,ae3]
 .exact#[by decide +kernel,_,BG,ae4]
noncomputable def WX:List (Str×String):=[("int","int"),("bool","bool"),("tuple","tuple"),("list","list")]
theorem MV {c:Cf}{k:Nat}(O:cb c k X Z) {n:String}(h:WX.lookup x=some n):pV X.K n /\ bootBuiltins x=some (.type n):=by
 refine iY (P:=λx n=>pV X.K n /\ bootBuiltins x=some (.type n)) (λp m=>?_) h;erw[WX,bA,qJ,or_false]at m;rcases m with rfl|rfl|rfl|rfl
 .exact#[O.ti,by decide +kernel]
 .exact#[O.tb,by decide +kernel]
 .exact#[O.tt,by decide +kernel]
 .exact#[O.tl,by decide +kernel]
end L2.DL
variable {c:L2.DL.Cf}
namespace L2.DL
open PySem.W
noncomputable def Kl:Expr->Bool
 |.Call ..=>zc
 |_=>zu
theorem iS {o:Expr}{a:Str}{env:Env}{whole:Sem zx}(h:Kl o=zu):attributeBase o a env whole=whole:=by
 cases o<;>first|rfl|cases h
noncomputable def plainT:Expr->Bool
 |.BoolOp ..|.UnaryOp ..|.IfExp ..|.Compare ..=>zc
 |_=>zu
theorem Jq {env:Env}(h:plainT e=zu) (whole:Sem zx):PySem.isTrue e env whole=(do let v <-whole;standAt e.pos;holding [v] (truthy v)):=by
 cases e<;>first|rfl|cases h
noncomputable def Km:Expr->Bool
 |.Set ..=>zc
 |_=>zu
theorem jx {env:Env}(h:Km e=zu) (x:zx):foldedSetIterable e env x=pure x:=by
 cases e<;>first|rfl|cases h
noncomputable def xI:Expr->Bool
 |.ListComp ..|.SetComp ..|.DictComp ..=>zu
 |_=>zc
theorem lA {t:Option Expr}{l:Nat}{env:Env}(h:xI e=zc):swapsWith e t l env=pure zc:=by
 cases e<;>first|rfl|cases h
noncomputable def Kn:Expr->Bool
 |.Slice ..=>zc
 |_=>zu
section
variable {a b o:Expr} {mc:DE W} {p:Pos}
theorem AQ (h:Kn b=zu):HR b:=λ_ _=>by
 cases b<;>first|rfl|cases h
theorem Po (h:Kn b=zu):Iq b:=λ_ _=>by
 cases b<;>first|rfl|cases h
theorem Ko {env:Env}(h:br e=zu):((backTo pos (starEach [e] env)).all (λx=>!x.1)&&(backToKw pos (keywordEach [] env)).all (λx=>x.1.isSome)&&decide ([e].length+([]:List Keyword).length+(if ([]:List Keyword).isEmpty then 0 else 1)<30))=zu:=by
 rw[fF h];rfl
theorem agF {env:Env}{f:Expr}(h:br e=zu) (hf:br f=zu):((backTo pos (starEach [e,f] env)).all (λx=>!x.1)&&(backToKw pos (keywordEach [] env)).all (λx=>x.1.isSome)&&decide ([e,f].length+([]:List Keyword).length+(if ([]:List Keyword).isEmpty then 0 else 1)<30))=zu:=by
 rw[fF h,fF hf];rfl
theorem UP {Q:VK}(h:tD T Z (vV zc ma) σ H Q):Zt (tD T Z ma) σ H Q:=by
 let#[F,r,env,bx,R,h]:=h;refine#[F,r,env,bx,R,End.bind h λx bx1 F1 r1 v H1 g1 R1 d1 h1=>?_];cases x with
 |d d=>
   rw[Of (show Den F1 d v from d1)];cases d<;>exact h1 F1 r1 _ H1 zat R1 zw
 |_=>exact h1.elim
theorem Pp (hu:X.A.units+1<cLine) (hi:PD X T Z e mb) (ho:PD X T Z o ma) (hm:behindInMarks .In o=zc):hV X T Z (.Compare e [.In] [o] pos) (dB (eP zc mb ma)):=
 PT.imp (Dp (Lj hu hi ho) hm) λσ H Q h=>PX (Nq h)
theorem MW (hu:X.A.units+1<cLine) (hi:PD X T Z e mb) (ho:PD X T Z o ma) (hm:behindInMarks .NotIn o=zc):hV X T Z (.Compare e [.NotIn] [o] pos) (dB (eP zu mb ma)):=
 PT.imp (Dp (Bf hu hi ho) hm) λσ H Q h=>LC (Nq h)
end
section
variable {k:Nat} {p:Pos} {f:Expr -> DE W} {o:Expr}
def EH (c:Cf) (f:Expr->DE W) (bo:Bool) (x:Str) (es:List Expr):DE W:=
 match c.fs.lookup x with
 | some (n,fn)=>(match es with
   |[]=>aI
   |e::es=>if c.uY x&&nj (e::es) then fu fn n (wx f (e::es)) else aI)
 | none=>match WW.lookup x with
   | some (_,_,g)=>(match es with
     |[]=>aI
     |e::es=>if c.pG x&&nj (e::es) then dN bo g (wx f (e::es)) else aI)
   |none=>aI
theorem Ce (O:cb c k X Z) (h:∀ e,PD X T Z e (f e)) (bo:Bool) (es:List Expr):PD X T Z (.Call (.Name x p) es [] pos) (EH c f bo x es):=by
 unfold EH;split
 .ext n fn e;split
  .exact fI
  .split
   .ext a as q;rw[aD]at q;let#[g1,g2,_]:=O.gb q.1;let#[kk,ps,hh,hn,hk]:=O.fs x n fn e;exact Ua hh O.room hk g1 O.agD (oB h _) q.2 hn g2
   .exact fI
 .split
  .ext ty id g e;split
   .exact fI
   .split
    .ext a as q;rw[aD]at q;let#[g1,g2,g3,g4]:=O.blt q.1;have b:=Pn O.calm O.u0 e;cases ty with
     |false=>
       let#[b1,qq,b2,b3]:=b;exact T9 bo b2 b3 g1 g4 b1 (oB h _) q.2 g3 g2
     |true=>
       let#[b1,qq,b2,b3]:=b;exact Sr bo b2 b3 g1 g4 b1 (oB h _) q.2 g3 g2
    .exact fI
  .exact fI
noncomputable def abr (c:Cf):Expr->Bool
 |.Name x _=>decide (x=c.Kj)
 |_=>zc
def WY (c:Cf) (f:Expr->DE W) (bo:Bool) (x:Str) (es:List Expr):DE W:=
 if x="isinstance" then (match es with
  | [a,.Name t _]=>(match WX.lookup t with
    |some n=>if c.pG "isinstance"&&c.pG t&&br a then jP n (f a) else aI
    |none=>aI)
  |_=>aI)
 else if x="repr" then (match es with
  |[a]=>if c.pG "repr"&&br a then kC (f a) else aI
  |_=>aI)
 else match es with
  |[.Call (.Attribute o n ap) [] [] cp]=>if x="sorted" /\ n="items" then (if c.pG "sorted"&&Kl o&&(ap.endLine==cp.line) then IQ bo (f o) else aI) else EH c f bo x es
  | [a]=>if x="len" /\ abr c a=zu then (if c.pG "len"&&br a then rf (f a) else aI) else if x="list" /\ WO c 3 a=zu then (if c.pG "list"&&br a then Es bo (f a) else aI) else if x="dict" then (if c.pG "dict"&&br a then v7 bo (f a) else aI)
    else if x="sorted" /\ wq c a=zu then (if c.pG "sorted"&&br a then xF bo (f a) else aI) else EH c f bo x es
  |_=>EH c f bo x es
theorem MX (O:cb c k X Z) (h:∀ e,PD X T Z e (f e)) (bo:Bool) (es:List Expr):PD X T Z (.Call (.Name x p) es [] pos) (WY c f bo x es):=by
 unfold WY;split
 .ext hx;subst hx;split
  .ext a t tp;split
   .ext n e;split
    .ext q;erw[aD]at q;let#[g1,g2,g3,g4]:=O.blt q.1.1;let#[j1,j2,j3,j4]:=O.blt q.1.2;let#[y1,y2]:=MV O e;exact Ub y1 g1 g4 j1 j4 y2 (h a) q.2 j3 j2
    .exact fI
   .exact fI
  .exact fI
 .split
  .ext hx;subst hx;split
   .ext a;split
    .ext q;rw[aD]at q;let#[g1,g2,g3,g4]:=O.blt q.1;exact NV O.room g1 g4 (h a) (fF q.2 _ _)
    .exact fI
   .exact fI
  .split
   .ext o n ap cp;split
    .ext hx;let#[rfl,rfl]:=hx;split
     .ext q;erw[aD]at q;let#[g1,g2,g3,g4]:=O.blt q.1.1;exact Jb bo O.calm g1 g4 (h o) (iS q.1.2) q.2
     .exact fI
    .exact Ce O h bo _
   .rename_i a _;split
    .ext hx;let#[rfl,_]:=hx;split
     .ext q;rw[aD]at q;let#[g1,g2,g3,g4]:=O.blt q.1;exact NY g1 g4 (h a) (fF q.2 _ _)
     .exact fI
    .split
     .ext hx;let#[rfl,_]:=hx;split
      .ext q;rw[aD]at q;let#[g1,g2,g3,g4]:=O.blt q.1;exact LM bo O.calm g1 g4 (h a) q.2
      .exact fI
     .split
      .ext hx;subst hx;split
       .ext q;rw[aD]at q;let#[g1,g2,g3,g4]:=O.blt q.1;exact G4 bo g1 g4 (h a) q.2
       .exact fI
      .split
       .ext hx;let#[rfl,_]:=hx;split
        .ext q;rw[aD]at q;let#[g1,g2,g3,g4]:=O.blt q.1;exact LQ bo O.calm g1 g4 (h a) q.2
        .exact fI
       .exact Ce O h bo _
   .exact Ce O h bo _
def WZ (dd:Bool) (f:Expr->DE W) (o:Expr) (m:Str) (es:List Expr):DE W:=match es with
 |[e]=>if br e then (if dd then (if m="get" then uP (f o) (f e) else if m="pop" then xA (f o) (f e) else aI) else if m="append" then nK (f o) (f e) else if m="pop" then vU (f o) (f e) else aI) else aI
 |[e,g]=>if br e&&br g then (if m="insert" then vX (f o) (f e) (f g) else aI) else aI
 |_=>aI
theorem Pq (hu:X.A.units+1<cLine) (dd:Bool) (h:∀ e,PD X T Z e (f e)) {m:Str}(es:List Expr) (hb:Kl o=zu) (hl:(apos.endLine==pos.line)=zu):PD X T Z (.Call (.Attribute o m apos) es [] pos) (WZ dd f o m es):=by
 unfold WZ;split
 .ext e;split
  .ext n;split
   .split
    .ext z;subst z;exact LF hu (h o) (h e) #[iS hb,Ko n,hl,by rw[fF n];rfl]
    .split
     .ext z;subst z;exact Oj (h o) (h e) #[iS hb,Ko n,hl,by rw[fF n];rfl]
     .exact fI
   .split
    .ext z;subst z;exact GQ (h o) (h e) (iS hb) (Ko n) hl (fF n _ _)
    .split
     .ext z;subst z;exact LA (h o) (h e) n (iS hb) (Ko n) hl
     .exact fI
  .exact fI
 .ext e g;split
  .ext q;rw[aD]at q;let#[n1,n2]:=q;split
   .ext z;subst z;exact Sy (h o) (h e) (h g) (iS hb) (agF n1 n2) hl n1 n2
   .exact fI
  .exact fI
 .exact fI
end
noncomputable def W0 (on names:List (Str×NameKind)):List (Str×NameKind):=names.map λ(n,k)=>if k==NameKind.free&&on.lookup n==some .cell then (n,NameKind.cell) else (n,k)
noncomputable def Kp:Nat->Expr->List Str
 |_,.Name x _=>[x]
 |n+1,.Tuple es _ _=>es.flatMap (Kp n)
 |_,_=>[]
def Cf.cN (c:Cf) (tg:Expr) (sc:Scope):List Str:=Kp 4 tg++c.N.filter λx=>decide (sc.names.lookup x=some .free)
def Cf.src (c:Cf) (tg:Expr) (sc:Scope):List (Option Nat):=(Kp 4 tg).map (λ_=>zp)++(c.N.filter λx=>decide (sc.names.lookup x=some .free)).map c.ix
def Cf.inner (c:Cf) (tg:Expr) (sc:Scope):Cf:={ c with N:=c.cN tg sc,nm:=W0 c.nm sc.names,f:=zc,bx:=[],rx:=zc,tr:=zc,ow:=(Kp 4 tg).filter λx=>decide (sc.names.lookup x=some .cell) }
def Cf.Kq (c:Cf) (tg:Expr) (sc:Scope):Bool:=Wb c.N { kind:=.function,names:=c.nm,isGenerator:=zc,isCoroutine:=zc } sc (c.cN tg sc) (c.src tg sc)&&decide (c.cN tg sc).Nodup
section
variable {k:Nat} {sc:Scope}
theorem cb.inner (O:cb c k X Z) (h:c.Kq tg sc=zu):qQ X (c.cN tg sc) (c.src tg sc) sc /\ ∀ cl s H C fp,cb (c.inner tg sc) k (X.comp (c.cN tg sc) sc cl s H C fp) #[E0,Z.cl]:=by
 unfold Cf.Kq at h;rw[aD,decide_eq_true_eq]at h;have S:qQ X (c.cN tg sc) (c.src tg sc) sc:=DO (XN:=c.N) (sc:={ kind:=.function,names:=c.nm,isGenerator:=zc,isCoroutine:=zc }) (λx=>by unfold Env.kindOf;rw[O.nm]) O.N h.1;refine#[S,λcl s H C fp=>#[rfl,?_,S.kind,O.calm,λz=>(by cases z),λx m=>(qK.mp m).2,h.2,O.room,O.fs,O.gl,O.bl,Fz,O.ti,O.tb,O.tt,O.tl,λ_=>PassesOwn.never,λz=>(by cases z),λz=>(by cases z)]];show (relabel sc X.env).names=W0 c.nm sc.names;unfold relabel W0 Env.kindOf;rw[O.kd,O.nm];simp
end
structure Cm where
 e:Cf->Bool->Bool->Expr->DE W
 t:Cf->Expr->DE Bool
 g:Cf->Expr->DG
 s:Cf->Stmt->aj
structure Good (m:Cm):zy where
 e:∀ {c:Cf}{k:Nat}{X:Cx}{Z:Xs},cb c k X Z->∀ {T:Fr}(bo fz:Bool) (e:Expr),PD X T Z e (m.e c bo fz e)
 t:∀ {c:Cf}{k:Nat}{X:Cx}{Z:Xs},cb c k X Z->∀ {T:Fr}(e:Expr),hV X T Z e (m.t c e)
 g:∀ {c:Cf}{k:Nat}{X:Cx}{Z:Xs},cb c k X Z->∀ {T:Fr}(e:Expr),kP X T e (m.g c e)
 s:∀ {c:Cf}{k:Nat}{X:Cx}{Z:Xs},cb c k X Z->∀ {T:Fr}(st:Stmt),cL X T Z st (m.s c st)
section
variable (m:Cm) (c:Cf)
def cI (tg it:Expr):DE (List W):=match it with
 |.Call (.Name x _) [a] [] _=>
   if x="range" then (if c.pG "range"&&br a then cM (fc zV fg) else aI)
   else bB (m.e c zc zu it)
 |.Call (.Name x _) [a,b] [] _=>
   if x="range" then (if c.pG "range"&&br a&&br b then vK (fc zV (fc (m.e c zc zc b) fg)) else aI)
   else if x="zip" then (if c.pG "zip"&&br a&&br b then uM (fc zV (fc (m.e c zc zc b) fg)) else aI)
   else bB (m.e c zc zu it)
 |_=>bB (m.e c zc zu it)
def cF (ifs:List Expr):DE Bool:=match ifs with
 |[]=>f7
 |[t]=>m.t c t
 |_=>aI
def Kr (e:Expr):Option Nat:=match e with
 |.Name x _=>if c.dc.contains x&&c.EF x then c.ix x else zp
 |_=>zp
def W2 (bo:Bool) (elt tg it:Expr) (ifs:List Expr) (sc:Scope):DE W:=
 if c.Kq tg sc&&Km it then fY bo (c.src tg sc) (cI m c tg it) (m.g (c.inner tg sc) tg) (cF m (c.inner tg sc) ifs) (m.e (c.inner tg sc) zc zc elt) else aI
def cO (o:Option Expr):DE (Option Int):=match o with
 |none=>pW
 |some e=>pX (m.e c zc zc e)
def EI (a:Expr) (op:CmpOp) (b:Expr):DE W:=
 if wq c b then (match op with
  |.In=>if behindInMarks .In b=zc then eP zc zV (m.e c zc zc b) else aI
  |.NotIn=>if behindInMarks .NotIn b=zc then eP zu zV (m.e c zc zc b) else aI
  |_=>aI)
 else match EG op with
  |some g=>if behindInMarks op b=zc then d2 zc g zV (m.e c zc zc b) else aI
  |none=>aI
def W3 (a:Expr) (op nE:CmpOp) (b d:Expr):DE W:=match EG op,EG nE with
 |some g,some g'=>if lastMarks [op,nE] [b,d]=zc then d3 g g' zV (m.e c zc zc b) (m.e c zc zc d) else aI
 |_,_=>aI
def W4 (bo:Bool) (a b:Expr):DE W:=match b with
 |.Slice lo hi none _=>pY bo zV (cO m c lo) (cO m c hi)
 |.Slice none none (some (.UnaryOp .USub (.Constant (.int i) _ _) _)) _=>if i=1 then Ip bo zV else aI
 |.Constant (.str k) _ _=>bN zV k
 |b=>if Kn b then (if abr c a then Iv zV (m.e c zc zc b) else if wq c a then bQ zV (m.e c zc zc b) else d2 zc ag zV (m.e c zc zc b)) else aI
def W5 (bo:Bool) (ks:List (Option Expr)) (vs:List Expr):DE W:=match ks,vs with
 |[],[]=>nN bo []
 | ks,vs=>match Et (λk=>c.kd k 3) ks vs with
   |some l=>if !ks.isEmpty&&decide (ks.length<=15) then xD l else aI
   |none=>aI
def W6 (v:Const):DE W:=match v with
 |.int i=>dC (.int i)
 |.bool b=>dC (.bl b)
 |.none=>dC .non
 |.str x=>dC (.str x)
 |_=>aI
def W7 (op:UnaryOp) (a:Expr):DE W:=match op with
 |.USub=>yX zV
 |.Not=>Ii zV
 |_=>aI
def W8 (op:BoolOp) (es:List Expr):DE W:=match op with
 |.And=>WT (m.e c zc zc) es
 |.Or=>aI
def W9 (a:Expr) (ops:List CmpOp) (bs:List Expr):DE W:=match ops,bs with
 |[op],[b]=>EI m c a op b
 |[op,nE],[b,d]=>W3 m c a op nE b d
 |_,_=>aI
def Xa (bo:Bool) (f:Expr) (es:List Expr) (ks:List Keyword) (pos:Pos):DE W:=match f with
 | .Name x _=>(match ks with
   |[]=>WY c (m.e c zc zc) bo x es
   |_::_=>aI)
 | .Attribute o n apos=>(match ks with
   |[]=>if Kl o&&(apos.endLine==pos.line) then WZ (wq c o) (m.e c zc zc) o n es else aI
   |_::_=>aI)
 |_=>aI
def Xb (bo:Bool) (elt:Expr) (gs:List Comprehension) (sc:Scope):DE W:=match gs with
 |[⟨tg,it,ifs,0⟩]=>W2 m c bo elt tg it ifs sc
 |_=>aI
def sE (bo fz:Bool) (e:Expr):DE W:=match e with
 |.Constant v _ _=>W6 v
 |.Name x _=>WS c fz x
 |.Tuple es _ _=>fP (wx (m.e c zc zc) es)
 |.List es _=>gx bo (wx (m.e c zc zc) es)
 |.Dict ks vs _=>W5 c bo ks vs
 | .BinOp a op b _=>(match abp op with
   |some g=>d2 bo g zV (m.e c zc zc b)
   |none=>aI)
 |.UnaryOp op a _=>W7 m c op a
 |.BoolOp op es _=>W8 m c op es
 |.Compare a ops bs _=>W9 m c a ops bs
 |.IfExp t a b _=>uD (m.t c t) zV (m.e c zc zc b)
 |.Subscript a b _=>W4 m c bo a b
 |.Call f es ks pos=>Xa m c bo f es ks pos
 |.ListComp elt gs sc _=>Xb m c bo elt gs sc
 |_=>aI
def sT (e:Expr):DE Bool:=match e with
 |.BoolOp .And es _=>WU (m.t c) es
 |.BoolOp .Or es _=>WV (m.t c) es
 |.UnaryOp .Not a _=>eN (m.t c a)
 | .Compare a [op] [b] _=>if wq c b then dB (EI m c a op b) else (match op,b with
   |.Is,.Constant .none _ _=>dB (vV zc zV)
   | _,_=>match EG op with
     |some g=>if behindInMarks op b=zc then dB (d2 zc g zV (m.e c zc zc b)) else aI
     |none=>aI)
 |e=>if plainT e then dB (m.e c zc zc e) else aI
def sG (tg:Expr):DG:=match tg with
 | .Name x _=>(match c.ix x with
   |some i=>if c.xH x then fe i else wo
   |none=>wo)
 |.Tuple es _ _=>if nj es then gn es.length (Kk (m.g c) es) else wo
 |.Subscript o i _=>if Kn i then Ea (m.e c zc zc o) (m.e c zc zc i) else wo
 |_=>wo
end
section
variable {m:Cm} {k:Nat} (G:Good m) (O:cb c k X Z)
include G O
theorem MY (tg it:Expr):tF X T Z tg it (cI m c tg it):=by
 unfold cI;split
 .ext x p a pos;split
  .ext z;subst z;split
   .ext q;rw[aD]at q;let#[g1,g2,g3,g4]:=O.blt q.1;exact DB g1 g4 (oG (G.e O _ _ a) mH q.2) (fF q.2 _ _)
   .exact Cd
  .exact BM zak
 .ext x p a b pos;split
  .ext z;subst z;split
   .ext q;erw[aD]at q;let#[#[q,n1],n2]:=q;let#[g1,g2,g3,g4]:=O.blt q;exact DC g1 g4 (oG (G.e O _ _ a) (oG (G.e O _ _ b) mH n2) n1) (by rw[fF n1,fF n2];rfl) (fF n2 _ _)
   .exact Cd
  .split
   .ext z;subst z;split
    .ext q;erw[aD]at q;let#[#[q,n1],n2]:=q;let#[g1,g2,g3,g4]:=O.blt q;exact N1 g1 g4 (oG (G.e O _ _ a) (oG (G.e O _ _ b) mH n2) n1) (by rw[fF n1,fF n2];rfl) (fF n2 _ _)
    .exact Cd
   .exact BM zak
 .exact BM zak
theorem MZ (ifs:List Expr):PF X ifs (rV T Z (cF m c ifs)):=by
 unfold cF;split
 .exact NI
 .exact NJ (G.t O _)
 .exact λ_ _ _ _ _ _ h=>by let#[_,_,_,_,_,h]:=h;exact h.elim
omit G in
theorem Go (h:Kr c e=some i):PD X T Z e (dV i):=by
 unfold Kr at h;split at h
 .split at h
  .ext q;rw[aD]at q;let#[a,b,d]:=O.WR q.2;exact J1 i (O.at h) a b d
  .cases h
 .cases h
theorem M0 (bo:Bool) (elt tg it:Expr) (ifs:List Expr) (sc:Scope) (pos:Pos):PD X T Z (.ListComp elt [#[tg,it,ifs,0]] sc pos) (W2 m c bo elt tg it ifs sc):=by
 unfold W2;split
 .ext q;rw[aD]at q;let#[S,OO]:=O.inner q.1;exact NH bo O.calm S (MY G O tg it) (λ_ _ _ _ _ _=>G.g (OO _ _ _ _ _) tg) (λ_ _ _ _ _ _=>MZ G (OO _ _ _ _ _) ifs) (λ_ _ _ _ _ _=>G.e (OO _ _ _ _ _) _ _ elt) (λx=>jx q.2 x)
 .exact fI
theorem M2 (a:Expr) (op:CmpOp) (b:Expr) (pos:Pos):PD X T Z (.Compare a [op] [b] pos) (EI m c a op b):=by
 unfold EI;split
 .split
  .split
   .ext q;exact Sw O.u1 (G.e O _ _ a) (G.e O _ _ b) q
   .exact fI
  .split
   .ext q;exact Oe O.u1 (G.e O _ _ a) (G.e O _ _ b) q
   .exact fI
  .exact fI
 .split
  .ext g e;let#[q,h1,h2]:=o7 O.u0 e;split
   .ext z;exact RT h1 h2 (G.e O _ _ a) (G.e O _ _ b) z
   .exact fI
  .exact fI
theorem M3 (a:Expr) (op nE:CmpOp) (b d:Expr) (pos:Pos):PD X T Z (.Compare a [op,nE] [b,d] pos) (W3 m c a op nE b d):=by
 unfold W3;split
 .ext g g' e e';let#[q,h1,h2]:=o7 O.u0 e;let#[q',agG,agH]:=o7 O.u0 e';split
  .ext z;exact J3 h1 agG h2 agH (G.e O _ _ a) (G.e O _ _ b) (G.e O _ _ d) z
  .exact fI
 .exact fI
theorem Rc (o:Option Expr):yW X T Z o (cO m c o):=by
 unfold cO;split
 .exact R9
 .exact Lg zak
theorem Pr (bo:Bool) (a b:Expr) (pos:Pos):PD X T Z (.Subscript a b pos) (W4 m c bo a b):=by
 unfold W4;split
 .exact Lh bo (G.e O _ _ a) (Rc G O _) (Rc G O _)
 .split
  .ext z;subst z;exact Sb bo (G.e O _ _ a)
  .exact fI
 .exact SC O.u1 (G.e O _ _ a)
 .split
  .ext n;split
   .exact Si (G.e O _ _ a) zak (AQ n)
   .split
    .exact Od O.u1 (G.e O _ _ a) zak (Po n)
    .exact TW RG aeZ (G.e O _ _ a) zak (AQ n)
  .exact fI
omit G O in
theorem Ps (bo:Bool) (ks:List (Option Expr)) (vs:List Expr) (pos:Pos):PD X T Z (.Dict ks vs pos) (W5 c bo ks vs):=by
 unfold W5;split
 .exact NZ bo
 .split
  .ext l e;split
   .ext q;rw[aD,decide_eq_true_eq]at q;let#[a,b,d,_]:=Ou (X:=X) (pos:=pos) e;exact LN a b d (λz=>by rw[z]at q;exact absurd q.1 zf) q.2
   .exact fI
  .exact fI
omit G O in
theorem Pt (v:Const) (k:Nat) (pos:Pos):PD X T Z (.Constant v k pos) (W6 v):=by
 unfold W6;split
 .exact RP
 .exact TV
 .exact RQ
 .exact RR
 .exact fI
theorem Tr (op:UnaryOp) (a:Expr) (pos:Pos):PD X T Z (.UnaryOp op a pos) (W7 m c op a):=by
 unfold W7;split
 .exact Sc zak
 .exact RX zak
 .exact fI
theorem Ts (op:BoolOp) (es:List Expr) (pos:Pos):PD X T Z (.BoolOp op es pos) (W8 m c op es):=by
 unfold W8;split
 .exact Gm (G.e O _ _) _
 .exact fI
theorem Tt (a:Expr) (ops:List CmpOp) (bs:List Expr) (pos:Pos):PD X T Z (.Compare a ops bs pos) (W9 m c a ops bs):=by
 unfold W9;split
 .exact M2 G O _ _ _ _
 .exact M3 G O _ _ _ _ _ _
 .exact fI
theorem Tu (bo:Bool) (f:Expr) (es:List Expr) (ks:List Keyword) (pos:Pos):PD X T Z (.Call f es ks pos) (Xa m c bo f es ks pos):=by
 unfold Xa;split
 .split
  .exact MX O (G.e O _ _) bo _
  .exact fI
 .split
  .split
   .ext q;rw[aD]at q;exact Pq O.u1 _ (G.e O _ _) _ q.1 q.2
   .exact fI
  .exact fI
 .exact fI
theorem Tv (bo:Bool) (elt:Expr) (gs:List Comprehension) (sc:Scope) (pos:Pos):PD X T Z (.ListComp elt gs sc pos) (Xb m c bo elt gs sc):=by
 unfold Xb;split
 .exact M0 G O bo _ _ _ _ _ _
 .exact fI
theorem UQ (bo fz:Bool) (e:Expr):PD X T Z e (sE m c bo fz e):=by
 unfold sE;split
 .exact Pt _ _ _
 .exact MT O fz
 .exact RZ (oB (G.e O _ _) _)
 .exact R0 bo (oB (G.e O _ _) _)
 .exact Ps bo _ _ _
 .split
  .ext g e;let#[q,h1,h2]:=Pm (X:=X) e;exact RS bo h1 h2 zak zak
  .exact fI
 .exact Tr G O _ _ _
 .exact Ts G O _ _ _
 .exact Tt G O _ _ _ _
 .exact RY (G.t O _) zak zak
 .exact Pr G O bo _ _ _
 .exact Tu G O bo _ _ _ _
 .exact Tv G O bo _ _ _ _
 .exact fI
theorem UR (e:Expr):hV X T Z e (sT m c e):=by
 unfold sT;split
 .exact PR (Dj (G.t O) _)
 .exact PR (Gn (G.t O) _)
 .exact Nx (G.t O _)
 .split
  .ext a op b pos h;unfold EI;rw[if_pos h];split
   .split
    .ext q;exact Pp O.u1 (G.e O _ _ a) (G.e O _ _ b) q
    .exact jM
   .split
    .ext q;exact MW O.u1 (G.e O _ _ a) (G.e O _ _ b) q
    .exact jM
   .exact jM
  .split
   .exact PT.imp (Dp (Rk zak) zw) λσ H Q h=>UP (Nq h)
   .split
    .ext g e;let#[q,h1,h2]:=o7 O.u0 e;split
     .ext z;exact Nt h1 h2 zak zak z
     .exact jM
    .exact jM
 .split
  .ext h;exact Nr zak (λw=>Jq h w)
  .exact jM
theorem US (tg:Expr):kP X T tg (sG m c tg):=by
 unfold sG;split
 .split
  .ext i e;split
   .ext h;let#[a,b]:=O.lo h;exact J9 i O.wu (O.at e) a b
   .exact lR
  .exact lR
 .split
  .ext h;exact Uc O.calm (MU (G.g O) _) h zw
  .exact lR
 .split
  .ext o i pos h;exact NX (Z:=Z) (G.e O _ _ o) (G.e O _ _ i) (λv=>by cases i<;>first|rfl|cases h)
  .exact lR
 .exact lR
end
end L2.DL
namespace L2
end L2
namespace L2.DL
open PySem.W
section
variable {m:aj}
end
section
variable {env:Env} {y:Str} {px py pt k7:Pos} {kt k2:Nat} {a b:Expr}
theorem Pu (hk:env.blockKind=.function) (hx:env.kindOf x=some .local) (hy:env.kindOf y=some .local) (hl:(px.line==py.line)=zu) (uK:x≠y) (na:br a=zu) (nb:br b=zu)
 (nf:([a,b].all (foldedForSure 8))=zc) (nc:([a,b].all (constantsAlone 8))=zc) :
 swappedStores [.Tuple [.Name x px,.Name y py] kt pt] (.Tuple [a,b] k2 k7) env=pure (some [x,y]):=by
 have kg:px.line=py.line:=by simpa using hl
 have hd:([x,y]:List Str).eraseDups.length=2:=by
  have:(y==x)=zc:=by simpa using Ne.symm uK
  simp[List.eraseDups_cons,this]
 unfold swappedStores;erw[hk,hx,hy,kg,qI,Yp,qj,Qk,bg,kJ,Yq,nX,Qq,Expr.pos,nf,nc];simp[kg,hd,qj,hx,hy,nf,nc];rintro(h|h)
 .cases a<;>first|(cases h;done)|cases na
 .cases b<;>first|(cases h;done)|cases nb
theorem Pv (hk:env.blockKind=.function) (na:br a=zu) (nb:br b=zu) (h:(env.kindOf x==some .local&&env.kindOf y==some .local)=zc) :
 swappedStores [.Tuple [.Name x px,.Name y py] kt pt] (.Tuple [a,b] k2 k7) env=pure zp:=by
 unfold swappedStores;erw[hk,qI,Yp,bg,kJ,Yq,nX,Qq,Expr.pos];rw[Yt]at h;rcases h with h|h
 .erw[qj,Qk,h,E5];by_cases q:(env.kindOf y==some .local&&py.line==px.line)=zu
  .simp[q]
  .simp[q]
 .erw[qj,Qk,h,E5];by_cases z:env.kindOf x=some .local<;>simp[z]
end
def ub (f:Stmt->aj):List Stmt->aj
 |[]=>aS
 |[s]=>f s
 |s::r=>fB (f s) (ub f r)
theorem jN {X:Cx}{Z:Xs}{T:Fr}{f:Stmt->aj}(h:∀ s,cL X T Z s (f s)):∀ b,nI X T Z b (ub f b)
 |[]=>Nz
 |[s]=>NA (h s)
 |s::a::r=>J6 (h s) (jN h (a::r))
noncomputable def abt:Expr->Expr->Bool
 |.Tuple ..,.Tuple ..|.List ..,.Tuple ..=>zc
 |_,_=>zu
theorem Re {env:Env}(h:abt tg e=zu):swappedStores [tg] e env=pure zp:=by
 cases tg with
 |Tuple es n p=>cases e<;>first|rfl|cases h
 |List es p=>cases e<;>first|rfl|cases h
 |_=>rfl
noncomputable def Xc (c:Cf) (x:Str) (tp cp:Pos) (sc:Scope):Bool:=c.nm.lookup x==some .local&&tp.line==cp.line&&!(sc.names.any λ(n,k)=>n==x&&(k==.local||k==.cell))
section
variable {k:Nat} 
theorem cb.block (O:cb c k X Z):X.env.blockKind=.function:=by unfold Env.blockKind;rw[O.kd];rfl
theorem Pw (O:cb c k X Z) {elt:Expr}{gs:List Comprehension}{sc:Scope}{cp tp:Pos}{l:Nat}:swapsWith (.ListComp elt gs sc cp) (some (.Name x tp)) l X.env=pure (Xc c x tp cp sc):=by
 have h:swapsWith (.ListComp elt gs sc cp) (some (.Name x tp)) l X.env=pure (X.env.blockKind==.function&&X.env.kindOf x==some .local&&tp.line==cp.line&&!(sc.names.any λ(n,k)=>n==x&&(k==.local||k==.cell))):=rfl;rw[h,O.block];unfold Env.kindOf Xc;rw[O.nm];rfl
noncomputable def Cf.qR (c:Cf):Cf:={ c with rx:=zu,tr:=zc }
theorem cb.qR (O:cb c k X Z) (h:c.tr=zu) (pn:List (Addr×Obj)) (E:XK):cb c.qR k (X.qR pn E) #[E,Z.cl]:=
 #[O.N,O.nm,O.kd,O.calm,O.fn,O.ow,O.nd,O.room,O.fs,O.gl,O.bl,Bd.passes,O.ti,O.tb,O.tt,O.tl,λz=>(by cases z),λ_=>#[Bd,(O.abn h).1],λz=>(by cases z)]
end
theorem jO {t:Expr}{l:Nat}{env:Env}(h:xI e=zc):swapsWithSole [t] e l env=pure zc:=lA (t:=some t) h
section
variable (m:Cm) (c:Cf)
noncomputable def Xd:Expr->Bool
 |.Dict [] [] _=>zu
 |_=>zc
def Xe (x:Str) (tp:Pos) (e:Expr):aj:=match c.ix x with
 | some i=>if c.xH x then (match e with
   | .ListComp elt [⟨tg,it,ifs,0⟩] sc cp=>if c.Kq tg sc&&Km it&&Xc c x tp cp sc then (match Kr c it with
     |some j=>fH (vZ (c.bx.contains x) (c.src tg sc) j (m.g (c.inner tg sc) tg) (cF m (c.inner tg sc) ifs) (m.e (c.inner tg sc) zc zc elt)) (fe i)
     |none=>fH (fY (c.bx.contains x) (c.src tg sc) (cI m c tg it) (m.g (c.inner tg sc) tg) (cF m (c.inner tg sc) ifs) (m.e (c.inner tg sc) zc zc elt)) (fe i)) else eD
   |e=>if xI e then eD else fH (if c.kd x 3&&Xd e then xy else m.e c (c.bx.contains x) zc e) (fe i)) else eD
 |none=>eD
def abu (c:Cf) (x y:Str) (px py:Pos) (a b:Expr):Bool:=br a&&br b&&decide (x≠y)&&c.xH x&&c.xH y&&(if c.nm.lookup x==some .local&&c.nm.lookup y==some .local then px.line==py.line&&!([a,b].all (foldedForSure 8))&&!([a,b].all (constantsAlone 8)) else zu)
def Xf (x y:Str) (px py:Pos) (a b:Expr):aj:=match c.ix x,c.ix y with
 |some i,some j=>if abu c x y px py a b then dR i j (fc (m.e c (c.bx.contains x) zc a) (fc (m.e c (c.bx.contains y) zc b) fg)) else eD
 |_,_=>eD
def Xg (tg e:Expr):aj:=match tg,e with
 |.Name x tp,e=>Xe m c x tp e
 |.Tuple [.Name x px,.Name y py] _ _,.Tuple [a,b] _ _=>Xf m c x y px py a b
 |.Subscript o i p,e=>if xI e then eD else if WO c 3 o then rq (m.e c zc zc o) (m.e c zc zc i) (m.e c zc zc e) else if wq c o then kS (m.e c zc zc o) (m.e c zc zc i) (m.e c zc zc e) else fH (m.e c zc zc e) (m.g c (.Subscript o i p))
 |tg,e=>if !xI e&&br tg&&abt tg e then fH (m.e c zc zc e) (m.g c tg) else eD
def abv (e:Option Expr):aj:=match e with
 | some (.Call (.Name x _) [a] [] _)=>(match Em.findIdx? λy=>decide (y=x) with
   |some i=>if c.rx&&decide (i<17)&&br a&&c.uY x then vS i zV else eD
   |none=>eD)
 |_=>eD
def abw (body:List Stmt) (hs:List ExceptHandler):aj:=match hs with
 | [.ExceptHandler (some (.Name r _)) (some n) [.Return (some (.Call (.Name w _) [.Name n' _] [] _)) _] _]=>(match c.ix n with
   |some i=>if c.tr&&decide (r="RimeError")&&decide (w="_law_word")&&decide (n=n')&&c.uY "RimeError"&&c.uY "_law_word"&&c.EF n&&decide (c.nm.lookup n=some .local) then tV (ub (m.s c.qR) body) else eD
   |none=>eD)
 |_=>eD
def sS (st:Stmt):aj:=match st with
 |.Assign [tg] e _=>Xg m c tg e
 |.Return (some e) _=>fN (m.e c c.rb (!c.rb) e)
 |.Expr e _=>if xI e then eD else gT (m.e c zc zc e)
 |.If t a b _=>aF (m.t c t) (ub (m.s c) a) (ub (m.s c) b)
 | .For tg it body [] _=>if Km it then (if c.rx then eD else match Kr c it with
   |some j=>vY j (m.g c tg) (ub (m.s c) body)
   |none=>if WO c 2 it then tY (m.e c zc zc it) (m.g c tg) (ub (m.s c) body) else iG (cI m c tg it) (m.g c tg) (ub (m.s c) body)) else eD
 |.Raise e none _=>abv m c e
 |.Try body hs [] [] _=>abw m c body hs
 |.Delete [.Subscript o i _] _=>if wq c o then tX (m.e c zc zc o) (m.e c zc zc i) else eD
 |.Break _=>Ij
 |.Continue _=>Ik
 |_=>eD
end
section
variable {m:Cm} {k:Nat} (G:Good m) (O:cb c k X Z)
include G O
theorem Px (x:Str) (e:Expr) (tp pos:Pos):cL X T Z (.Assign [.Name x tp] e pos) (Xe m c x tp e):=by
 unfold Xe;split
 .ext i hi;split
  .ext hl;let#[l1,l2]:=O.lo hl;split
   .ext elt tg it ifs sc cp;split
    .ext q;rw[aD,aD]at q;let#[S,OO]:=O.inner q.1.1;have sw:=Pw O (elt:=elt) (gs:=[#[tg,it,ifs,0]]) (sc:=sc) (cp:=cp) (tp:=tp) (x:=x) (l:=pos.line);rw[q.2]at sw;split
     .exact G2 i _ O.calm S (Go O (by assumption)) (λ_ _ _ _ _ _=>G.g (OO _ _ _ _ _) tg) (λ_ _ _ _ _ _=>MZ G (OO _ _ _ _ _) ifs) (λ_ _ _ _ _ _=>G.e (OO _ _ _ _ _) _ _ elt) O.wu (O.at hi) l1 sw l2 (λx=>jx q.1.2 x)
     .exact Lz i _ O.calm S (MY G O tg it) (λ_ _ _ _ _ _=>G.g (OO _ _ _ _ _) tg) (λ_ _ _ _ _ _=>MZ G (OO _ _ _ _ _) ifs) (λ_ _ _ _ _ _=>G.e (OO _ _ _ _ _) _ _ elt) O.wu (O.at hi) l1 sw l2 (λx=>jx q.1.2 x)
    .exact ge
   .split
    .exact ge
    .ext h;refine NE i ?_ O.wu (O.at hi) l1 (lA (by simpa using h)) l2;split
     .ext q;rw[aD]at q;revert q;cases e with
      |Dict ks vs p=>cases ks<;>cases vs<;>first|(intro _;exact Oh)|(intro q;exact absurd q.2 (by simp[Xd]))
      |_=>intro q;exact absurd q.2 (by simp[Xd])
     .exact G.e O _ _ _
  .exact ge
 .exact ge
theorem Py (x y:Str) (a b:Expr) (px py pt k7 pos:Pos) (kt k2:Nat):cL X T Z (.Assign [.Tuple [.Name x px,.Name y py] kt pt] (.Tuple [a,b] k2 k7) pos) (Xf m c x y px py a b):=by
 unfold Xf;split
 .ext i j hi hj;split
  .ext q;unfold abu at q;rw[aD,aD,aD,aD,aD,decide_eq_true_eq]at q;let#[#[#[#[#[na,nb],uK],hx],hy],q]:=q;have ps:dQ X T Z [a,b] (fc (m.e c (c.bx.contains x) zc a) (fc (m.e c (c.bx.contains y) zc b) fg)):=oG (G.e O _ _ a) (oG (G.e O _ _ b) mH nb) na;have kx:X.env.kindOf x=c.nm.lookup x:=by unfold Env.kindOf;rw[O.nm]
   have ky:X.env.kindOf y=c.nm.lookup y:=by unfold Env.kindOf;rw[O.nm]
   by_cases h:(c.nm.lookup x==some NameKind.local&&c.nm.lookup y==some NameKind.local)=zu
   .rw[if_pos h]at q;erw[aD,pO]at q;rw[aD]at h;have h1:c.nm.lookup x=some .local:=by simpa using h.1
    have h2:c.nm.lookup y=some .local:=by simpa using h.2
    refine Ob i j O.calm O.wu ps (O.at hi) (O.at hj) (λz=>?_) (by rw[O.nm];exact h1) (by rw[O.nm];exact h2) (Pu O.block (kx.trans h1) (ky.trans h2) q.1.1 uK na nb q.1.2 q.2) (jO zw);subst z;have:=(c.WQ hi).symm.trans (c.WQ hj);exact uK (Option.some.inj this)
   .let#[l1,l2]:=O.lo hx;let#[l3,l4]:=O.lo hy;refine LE i j O.calm O.wu ps (O.at hi) (O.at hj) l1 l3 l2 l4 (jO zw) (Pv O.block na nb ?_) zw zw zw zw zw;rw[kx,ky];simpa using h
  .exact ge
 .exact ge
theorem Pz (tg e:Expr) (pos:Pos):cL X T Z (.Assign [tg] e pos) (Xg m c tg e):=by
 unfold Xg;split
 .exact Px G O _ _ _ _
 .exact Py G O _ _ _ _ _ _ _ _ _ _ _
 .split
  .exact ge
  .ext h;split
   .exact G5 O.u1 zak zak zak (lA (by simpa using h))
   split
   .exact LD O.u1 zak zak zak (lA (by simpa using h))
   .exact Fw zak (G.g O _) (jO (by simpa using h)) (Re zw) zw
 .split
  .ext q;erw[aD,pO]at q;exact Fw zak (G.g O _) (jO q.1.1) (Re q.2) (by rw[j0 q.1.2];rfl)
  .exact ge
theorem UT (st:Stmt):cL X T Z st (sS m c st):=by
 unfold sS;split
 .exact Pz G O _ _ _
 .exact NB zak
 .split
  .exact ge
  .ext h;exact J8 zak (lA (by simpa using h))
 .exact R7 (G.t O _) (jN (G.s O) _) (jN (G.s O) _)
 .split
  .ext h;split
   .exact ge
   .ext q;split
    .exact LJ (O.own (by simpa using q)) O.calm (Go O (by assumption)) (G.g O _) (jN (G.s O) _) (λx=>jx h x)
    .split
     .exact LR (O.own (by simpa using q)) O.calm zak (G.g O _) (jN (G.s O) _) (λx=>jx h x)
     .exact NG (O.own (by simpa using q)) O.calm (MY G O _ _) (G.g O _) (jN (G.s O) _) (λx=>jx h x)
  .exact ge
 .unfold abv;split
  .split
   .ext i hi;split
    .ext q;erw[aD,decide_eq_true_eq]at q;let#[#[#[q1,q2],q3],q4]:=q;let#[l,R,E]:=O.agE q1;let#[g1,g2,_]:=O.gb q4;let#[h1,h2,_]:=List.findIdx?_eq_some_iff_getElem.mp hi;refine GY i E O.calm l g1 (by rw[pM h1,of_decide_eq_true h2]) zak q2 ?_ g2;simp[nj,q3]
    .exact ge
   .exact ge
  .exact ge
 .unfold abw;split
  .split
   .ext i hi;split
    .ext q;erw[aD,decide_eq_true_eq]at q;let#[#[#[#[#[#[#[q1,rfl],rfl],rfl],q5],q6],q7],q8]:=q;let#[#[R,E],W,hk,qu,eK]:=O.abn q1;let#[v1,v2,v3]:=O.WR q7;exact N9 i E W O.room hk qu eK zw (O.gb q5).1 (O.gb q6).1 O.wu (O.at hi) (by unfold Env.kindOf;rw[O.nm];exact q8) (λpn E=>jN (G.s (O.qR q1 pn E)) _) v1 v2 v3
    .exact ge
   .exact ge
  .exact ge
 .split
  .exact Ol zak zak
  .exact ge
 .exact GH
 .exact J7
 .exact ge
end
def agI (m:Cm):Cm:=#[λc bo fz e=>sE m c bo fz e,λc e=>sT m c e,λc e=>sG m c e,λc st=>sS m c st]
def cm:Nat->Cm
 |0=>#[λ_ _ _ _=>aI,λ_ _=>aI,λ_ _=>wo,λ_ _=>eD]
 |n+1=>agI (cm n)
theorem lS:∀ n,Good (cm n)
 |0=>#[λ_ _ _ _ _=>fI,λ_ _ _=>jM,λ_ _ _=>lR,λ_ _ _=>ge]
 |n+1=>#[λO _ bo fz e=>UQ (lS n) O bo fz e,λO _ e=>UR (lS n) O e,λO _ e=>US (lS n) O e,λO _ st=>UT (lS n) O st]
structure FI where
 x:Str
 ps:List Str
 N:List Str
 bx:List Str
 dc:List Str
 wk:List (Str×Nat)
 fl:Nat   -- 1: its list is a box as it is returned,2: may raise,4: has a try,8: calls itself
 st:Stmt
 fn:List W->List Bx->O W
structure Tx where
 Kj:Str
 gl:List (Str×Int)
 bl:List Str
noncomputable def FI.b (f:FI) (i:Nat):Bool:=f.fl / i % 2==1
noncomputable def Ks (r:List FI):List (Str×(Nat×(List W->List Bx->O W))):=r.map λg=>(g.x,(g.ps.length,g.fn))
def FI.cf (t:Tx) (fs:List (Str×(Nat×(List W->List Bx->O W)))) (f:FI):Cf:=
 { N:=f.N,nm:=(fG f.st).names,f:=zu,bx:=f.bx,dc:=f.dc,wk:=f.wk,Kj:=t.Kj,fs:=fs,gl:=t.gl,bl:=t.bl,rb:=f.b 1,rx:=f.b 2,tr:=f.b 4,ow:=[] }
def FI.body (t:Tx) (fs:List (Str×(Nat×(List W->List Bx->O W)))) (f:FI):List W->List Bx->O W:=
 let m:=ub ((cm 40).s (f.cf t fs)) (gm f.st)
 aR f.N.length (if f.b 2 then m else aZ m)
def FI.ok (f:FI):Bool:=decide ((fG f.st).kind=.function)&&!(fG f.st).isCoroutine&&!(fG f.st).isGenerator&&decide f.N.Nodup&&decide (f.N.take f.ps.length=f.ps) &&
 f.ps.all (λx=>decide ((fG f.st).names.lookup x=some .local)||decide ((fG f.st).names.lookup x=some .cell))&&(fG f.st).names.all λy=>decide (y.2≠.free)
theorem FI.scope {f:FI}(h:f.ok=zu):qv f.N f.ps (fG f.st):=by
 erw[FI.ok,aD,decide_eq_true_eq,cS,vi,pO]at h;let#[#[#[#[#[#[h1,h2],h3],h4],h5],h6],h7]:=h;exact#[h1,h2,h3,h4,h5,h6,λy m=>h7 y m]
def FI.Is (t:Tx) (r:List FI) (f:FI):zy:=
 (f.b 8=zc /\ f.fn=f.body t (Ks r)) \/
 (f.b 8=zu /\ ∃ g:Nat->List W->List Bx->O W,(g 0=λ_ _=>.bad) /\ (∀ i,g (i+1)=f.body t ((f.x,(f.ps.length,g i))::Ks r)) /\ f.fn=g 12)
noncomputable def Xh (t:Tx):List FI->zy
 |[]=>True
 |f::r=>f.Is t r /\ Xh t r
def qh:List FI->Nat
 |[]=>0
 |f::r=>qh r+(if f.b 8 then 13 else 1)
structure Xi (P:Program) (w:World) (K:PySem.W.Frag) (mg:Str->Option zx) (base:Heap) (cl:Nat->Addr) (t:Tx) (ex tr:Bool):zy where
 gl:∀ x v,t.gl.lookup x=some v->∃ u,mg x=some (.int v u)
 bl:∀ x,x∈t.bl->mg x=zp
 ti:pV K "int"
 tb:pV K "bool"
 tt:pV K "tuple"
 tl:pV K "list"
 ext:ex=zu->∃ R,kR K mg R cl
 hw:tr=zu->En P w K mg base cl
theorem Dk {t:Tx}{ex tr:Bool}(B:Xi P w K mg base cl t ex tr) {f:FI}(d:Def K mg f.x f.st f.ps) (ho:f.ok=zu) (hex:f.b 2=zu \/ f.b 4=zu->ex=zu) (Kt:f.b 4=zu->tr=zu) (uv:f.b 2=zu->f.b 4=zc) {k:Nat}(hk:f.b 4=zu->1<=k)
 {fs:List (Str×(Nat×(List W->List Bx->O W)))}(F:∀ x n fn,fs.lookup x=some (n,fn)->∃ kk ps,pB P w K mg base cl kk x ps fn /\ ps.length=n /\ kk<=k):pB P w K mg base cl (k+1) f.x f.ps (f.body t fs):=by
 have S:=FI.scope ho;unfold FI.body;cases h2:f.b 2 with
 |false=>
   refine Sn (k:=k) d S (λfa cdv A outer s H E n F0 hr=>jN ((lS 40).s (k:=k) ?_) _);exact#[rfl,rfl,S.kind,rfl,λ_ _=>rfl,(λx m=>nomatch m),S.nd,hr,F,B.gl,B.bl,Fz,B.ti,B.tb,B.tt,B.tl,λ_=>PassesOwn.never,λz=>absurd (h2.symm.trans z) zf,λz=>#[B.ext (hex (.inr z)),B.hw (Kt z),hk z,rfl,rfl]]
 |true=>
   refine Oa (k:=k) d S (λfa cdv A outer s H E n F0 hr=>jN ((lS 40).s (k:=k) ?_) _);exact#[rfl,rfl,S.kind,rfl,λ_ _=>rfl,(λx m=>nomatch m),S.nd,hr,F,B.gl,B.bl,Cr.passes,B.ti,B.tb,B.tt,B.tl,λz=>absurd (h2.symm.trans z) zf,λ_=>#[Cr,B.ext (hex (.inl h2))],λz=>absurd ((uv h2).symm.trans z) zf]
def Xj (ex tr:Bool) (r:List FI) (f:FI):Bool:=f.ok&&(!(f.b 2||f.b 4)||ex)&&(!f.b 4||tr)&&!(f.b 2&&f.b 4)&&(!f.b 4||decide (1<=qh r))
def Ku (ex tr:Bool):List FI->Bool
 |[]=>zu
 |f::r=>Xj ex tr r f&&Ku ex tr r
theorem PB {t:Tx}{ex tr:Bool}(B:Xi P w K mg base cl t ex tr):∀ (l:List FI),Xh t l->Ku ex tr l=zu->(∀ f∈l,Def K mg f.x f.st f.ps)->∀ f∈l,∃ kk,pB P w K mg base cl kk f.x f.ps f.fn /\ kk<=qh l:=by
 intro l_;induction l_ with
 |nil=>exact λ_ _ _=>λf m=>nomatch m
 |cons f r ao=>
   intro A C D;let#[A1,A2]:=A;have C':(Xj ex tr r f&&Ku ex tr r)=zu:=C;rw[aD]at C';have ih:=ao A2 C'.2 λg m=>D g (bD _ m);have F:∀ x n fn,(Ks r).lookup x=some (n,fn)->∃ kk ps,pB P w K mg base cl kk x ps fn /\ ps.length=n /\ kk<=qh r:=λx n fn e=>by
    refine iY (P:=λx (p:Nat×(List W->List Bx->O W))=>∃ kk ps,pB P w K mg base cl kk x ps p.2 /\ ps.length=p.1 /\ kk<=qh r) (l:=Ks r) (λp m=>?_) e;let#[g,agJ,rfl]:=bJ.mp m;let#[kk,h1,h2]:=ih g agJ;exact#[kk,g.ps,h1,rfl,h2]
   have c1:=C'.1;erw[Xj,aD,vi,pO,Ys,Yt,decide_eq_true_eq]at c1;let#[#[#[#[o1,o2],o3],o4],o5]:=c1;have hex:f.b 2=zu \/ f.b 4=zu->ex=zu:=λz=>by
    rcases o2 with⟨a,b⟩|a
    .rcases z with z|z
     .rw[a]at z;cases z
     .rw[b]at z;cases z
    .exact a
   have Kt:f.b 4=zu->tr=zu:=λz=>by
    rcases o3 with a|a
    .rw[a]at z;cases z
    .exact a
   have uv:f.b 2=zu->f.b 4=zc:=λz=>by
    rcases o4 with a|a
    .rw[a]at z;cases z
    .exact a
   have hk:f.b 4=zu->1<=qh r:=λz=>by
    rcases o5 with a|a
    .rw[a]at z;cases z
    .exact a
   have df:=D f (bF ..);intro g m;rcases bA.mp m with rfl|m
   .rcases A1 with⟨a1,a2⟩|⟨a1,q,a2,a3,a4⟩
    .refine#[qh r+1,a2▸Dk B df o1 hex Kt uv hk F,?_];show _<=qh r+(if g.b 8 then 13 else 1);split<;>lia
    .have hg:∀ i,pB P w K mg base cl (qh r+i+1) g.x g.ps (q i):=λi=>by
      induction i with
      |zero=>rw[a2];exact N3 df
      |succ i hi=>
        rw[a3];refine Dk (k:=qh r+(i+1)) B df o1 hex Kt uv (λz=>by lia) λx n fn e=>?_;rw[eW]at e;cases hx:x==g.x with
        |true=>
          rw[hx]at e;cases e;have:x=g.x:=by simpa using hx
          subst this;exact#[_,_,hi,rfl,by lia]
        |false=>
          rw[hx]at e;let#[kk,ps,h1,h2,h3]:=F x n fn e;exact#[kk,ps,h1,h2,by lia]
     refine#[qh r+12+1,a4▸hg 12,?_];show _<=qh r+(if g.b 8 then 13 else 1);rw[a1,if_pos rfl];lia
   .let#[kk,h1,h2]:=ih g m;refine#[kk,h1,bU h2 ?_];show _<=qh r+(if f.b 8 then 13 else 1);lia
noncomputable def abx (o:Obj):Bool:=match o.cls with|.type n=>n == "list"|_=>zc
def Kv (K:PySem.W.Frag):Bool:=K.all λp=>!abx p.2
theorem Jr (h:Kv K=zu) {o:Obj}(e:K.lookup a=some o):o.cls≠.type "list":=by
 intro c;unfold Kv at h;rw[cS]at h;have m:(a,o)∈K:=by
  clear h;induction K with
  |nil=>cases e
  |cons p K ih=>
    rw[eW]at e;cases q:a==p.1 with
    |true=>
      rw[q]at e;cases e;have:a=p.1:=by simpa using q
      subst this;exact bF ..
    |false=>
      rw[q]at e;exact bD _ (ih e)
 have:=h _ m;simp[abx,c]at this
theorem ZV (nl:Kv K=zu) (hO:Vx H) (hS:bO K H a (ns.map V.int)) (hf:∃ bx',fn [.s ns] []=.val (.d (.bl zu)) bx') :
 rX cl 1 fn [.ref a] H (λv _=>v=.bl zu) λ_ _ _=>False:=by
 rcases hS with hS|⟨o,its,n,e1,e2,_⟩
 .rcases hS with hS|⟨o,hS⟩
  .rcases hO a with z|⟨o,xs,z⟩
   .rw[hS]at z;cases z
   .rw[hS]at z;cases z
  .let#[bx',hf]:=hf;refine#[H,[],[.s ns],[],#[Sub.refl H,λi w e=>by simp at e,rfl,.nil,λn c a e=>by simp at e,λa u e _=>e,λn a _ e=>by simp at e,au _,au _,λa u e=>.inr (.inl e)],#[.ref a,[],rfl,#[a,o,rfl,hS],rfl],rfl,?_];rw[hf];intro F' r' v H' _ _ d;exact d
 .exact absurd e2 (Jr nl e1)
noncomputable def tys:List String:=["NoneType","bool","int","str","tuple","list","dict"]
def Kw (K:PySem.W.Frag):Bool:=tys.all λS=>["int","bool","tuple","list"].all λT=>PySem.W.kitOne K (.type S) (.type T)==some (uG S T)
theorem Cg (h:Kw K=zu) {T:String}(m:T∈["int","bool","tuple","list"]):pV K T:=by
 intro d;unfold Kw at h;rw[cS]at h;have m1:qW d∈tys:=by cases d<;>simp[qW,tys]
 have z:=h _ m1;rw[cS]at z;exact beq_iff_eq.mp (z _ m)
theorem Tw {h:Heap}{ps:List Str}{f:Addr}{oc:zx}{od an:Option Addr}{kV doc pm cdv ct:zx}(X:K.In h) (G:h.Ns mainGlobals mg)
 (a:PySem.W.nsIn K mainGlobals x=some (some (.ref f))) (l:K.lookup f=some #[oc,od,.func (PySem.W.fnOf x x (iJ st) (gm st) (fG st) .none kV doc pm an cdv ct),pH])
 (c:PySem.W.codeIn K cdv x=zu) (k:PySem.W.keepIn K (.ref f)=zu) (hb:∀ fd,kB K x x st f fd->Binds K fd ps []):Def K mg x st ps:=
 #[f,_,Dy l c k,YO X G a,hb _ (Dy l c k)]
theorem Ty {l:PySem.W.OpenLaw}{fa:Addr}{k:Nat}(cl:Nat->Addr) (xK:mg "law"=some (.ref fa)) (D:Def K mg "law" st ["_law_script"])
 (hB:∀ (fd:FuncData) (f:Addr),kB K "law" "law" st f fd->∀ (s:Shared) (u:zx),BindsTo s fd #[[u],[]] [("_law_script",u)])
 (H:∀ base:Heap,K.In base->base.Ns mainGlobals mg->pB l.prog w K mg base cl k "law" ["_law_script"] fn) :
 ∃ (cl:Nat->Addr) (fd:FuncData),(∀ (s:Shared) (u:zx),BindsTo s fd #[[u],[]] [("_law_script",u)]) /\ ∀ base:Heap,K.In base->base.Ns mainGlobals mg->eZ l.prog w K mg base (hJ l.prog w) k fa fd ["_law_script"] (rX cl 1 fn):=by
 let#[f,fd,F,hm,_]:=D;rw[xK]at hm;cases hm;refine#[cl,fd,hB fd fa F,λbase hK hN=>?_];let#[f',aiM,ok,Ic,_,_,o,hl,hd]:=H base hK hN;rw[xK]at Ic;cases Ic;let#[o2,vA,hd2]:=F.obj;rw[hl]at vA;cases vA;rw[hd]at hd2;cases hd2;exact ok
theorem walk_d {l:PySem.W.OpenLaw}{q:Program}{loose:List Str}{XP:(Str->Option zx)->Heap->zy}{YP:World->Heap->zy}{d:DefRec}{K:Params->PySem.W.Frag}{k:Nat}{fn:List W->List Bx->O W}(hk:cx k callerA) (hn:l.most=some 63) (Vv:d.params.defaults=[])
 (hY:∀ (w:World) (h:Heap),YP w h->(K w.params).In h) (nl:∀ w:World,Kv (K w.params)=zu) (hf:∀ ns:List Int,ns.length<=63->∃ bx',fn [.s ns] []=.val (.d (.bl zu)) bx')
 (F:∀ (w:World) (mg:Str->Option zx) (fa:Addr) (h:Heap),(K w.params).In h->h.Ns mainGlobals mg->mg d.name=some (.ref fa) ->
  ∃ (cl:Nat->Addr) (fd:FuncData),(∀ (s:Shared) (u:zx),BindsTo s fd #[[u],[]] [("_law_script",u)]) /\ ∀ base:Heap,(K w.params).In base->base.Ns mainGlobals mg->eZ l.prog w (K w.params) mg base (hJ l.prog w) k fa fd ["_law_script"] (rX cl 1 fn)) :
 PySem.W.WalkO q loose XP YP l.row.toRowW d [] (λf vs=>PySem.call f vs):=by
 refine ZS.ad5 hn Vv λw s0 s1 mg mb fa o pm cd doc a vs ns G Y ho hd dA hmg Vw hints hlen hg=>?_;have KX:=hY w _ Y;let#[cl,fd,hb,hF]:=F w mg fa _ KX G.T.g hmg;exact JR KX G.T.g G.T.b G.T.builtins G.T.nolimit hg Vw hints (bU hlen zf) hk hF hb (λH hO hS=>ZV (nl w) hO hS (hf ns hlen)) λH e s' z=>by
  let#[_,_,_,_,_,_,_,_,_,_,_,_,_,z]:=z;exact z
open PySem.W in
def Kx (K:Frag) (R C:Addr):Bool:=excIn K C VN "ValueError.__new__"&&(findIn K (.ref C) "__getattribute__"==some (some (.builtin "BaseException.__getattribute__")))&&(findIn K (.ref C) "__getattr__"==some zp) &&
 (findIn K (.ref C) "__class__"==some (some (.builtin "object.__class__")))&&(mroIn K C (.type "object")==some zu)&&(mroIn K C (.type "BaseException")==some zu)&&(clsIn K C).isSome&&(kitOne K (.ref C) (.type "ValueError")==some zu)&&(kitCls K (.ref C) (.ref R)==some zu)
open PySem.W in
noncomputable def Xk (K:Frag) (cs:List Addr):Bool:=(List.range 17).all λi=>(List.range 17).all λj=>kitOne K (.ref (cs.getD i 0)) (.ref (cs.getD j 0))==some (decide (i=j))
open PySem.W in
noncomputable def Xl (K:Frag) (R:Addr):Bool:=(mroIn K R (.type "BaseException")==some zu)&&(specialIn K (.builtin "object.__class__") "__get__"==some (some (.builtin "getset_descriptor.__get__")))&&(takesIn K (.builtin "object.__class__")==some zu)
theorem M4 {l:List Addr}(h:i<l.length):l.getD i 0∈l:=by
 rw[List.getD,pM h];exact EW h
open PySem.W in
theorem Tz {h:Heap}{R:Addr}{cs:List Addr}(X:K.In h) (G:h.Ns mainGlobals mg) (hl:cs.length=17) (eR:nsIn K mainGlobals "RimeError"=some (some (.ref R)))
 (e:∀ i x,Em[i]?=some x->nsIn K mainGlobals x=some (some (.ref (cs.getD i 0)))) (zi:nsIn K mainGlobals "isinstance"=some zp) (zv:nsIn K mainGlobals "ValueError"=some zp)
 (h1:cs.all (Kx K R)=zu) (h2:Xk K cs=zu) (h3:Xl K R=zu):kR K mg R (λi=>cs.getD i 0):=by
 unfold Xl at h3;erw[aD,beq_iff_eq]at h3;let#[#[q1,q3],q4]:=h3;have hc:∀ i,i<17->Kx K R (cs.getD i 0)=zu:=λi hi=>by
  rw[cS]at h1;exact h1 _ (M4 (by rw[hl];exact hi))
 erw[Kx,aD,beq_iff_eq]at hc;refine#[λi x hx=>mg_of X G (e i x hx),mg_of X G eR,QF X G zi,QF X G zv,λi hi=>(hc i hi).1.1.1.1.1.1.1.1,λi hi=>?_,λi j hi hj=>?_,λi hi=>(hc i hi).1.2,λi hi=>(hc i hi).2,q1]
 .let#[#[#[#[#[#[#[#[_,y2],y3],y4],y5],y6],y7],_],_]:=hc i hi;exact#[y2,y3,y4,q3,q4,y5,y6,y7]
 .unfold Xk at h2;rw[cS]at h2;have z:=h2 i (List.mem_range.mpr hi);rw[cS]at z;exact beq_iff_eq.mp (z j (List.mem_range.mpr hj))
noncomputable def Ky (K:Frag) (bl:List Str):Bool:=bl.all λx=>match nsIn K mainGlobals x with|some none=>zu|_=>zc
noncomputable def Kz (K:Frag) (gl:List (Str×Int)):Bool:=gl.all λp=>match nsIn K mainGlobals p.1 with|some (some (.int v _))=>v==p.2|_=>zc
theorem Fe {h:Heap}{bl:List Str}(X:K.In h) (G:h.Ns mainGlobals mg) (c:Ky K bl=zu):∀ x,x∈bl->mg x=zp:=λx m=>by
 unfold Ky at c;rw[cS]at c;have z:=c x m;split at z
 .next e=>exact QF X G e
 .cases z
theorem M5 {h:Heap}{gl:List (Str×Int)}(X:K.In h) (G:h.Ns mainGlobals mg) (c:Kz K gl=zu):∀ x v,gl.lookup x=some v->∃ u,mg x=some (.int v u):=λx v e=>by
 unfold Kz at c;rw[cS]at c;refine iY (P:=λx (v:Int)=>∃ u,mg x=some (.int v u)) (l:=gl) (λp m=>?_) e;have z:=c p m;split at z
 .next v u e=>
  have:v=p.2:=by simpa using z
  subst this;exact#[u,mg_of X G e]
 .cases z
theorem UU {h:Heap}{t:Tx}{ex tr:Bool}(X:K.In h) (G:h.Ns mainGlobals mg) (z:Ky K t.bl=zu) (g:Kz K t.gl=zu) (y:Kw K=zu)
 (e:ex=zu->∃ R,kR K mg R cl) (hw:tr=zu->En P w K mg base cl):Xi P w K mg base cl t ex tr:=
 #[M5 X G g,Fe X G z,Cg y zq,Cg y zq,Cg y zq,Cg y zq,e,hw]
theorem PH {l:PySem.W.OpenLaw}{fa:Addr}{k:Nat}(cl:Nat->Addr) (xK:mg "law"=some (.ref fa)) (D:Def K mg "law" st ["_law_script"])
 (hB:∀ (fd:FuncData) (f:Addr),kB K "law" "law" st f fd->∀ (s:Shared) (u:zx),BindsTo s fd #[[u],[]] [("_law_script",u)])
 (H:∀ base:Heap,K.In base->base.Ns mainGlobals mg->∃ kk,pB l.prog w K mg base cl kk "law" ["_law_script"] fn /\ kk<=k) :
 ∃ (cl:Nat->Addr) (fd:FuncData),(∀ (s:Shared) (u:zx),BindsTo s fd #[[u],[]] [("_law_script",u)]) /\ ∀ base:Heap,K.In base->base.Ns mainGlobals mg->eZ l.prog w K mg base (hJ l.prog w) k fa fd ["_law_script"] (rX cl 1 fn):=
 Ty cl xK D hB λbase a b=>by
  let#[kk,#[f,fd,ok,r],le]:=H base a b;exact#[f,fd,ok.mono le,r]
def bC (K:Frag) (x:Str) (st:Stmt):zy:=∃ (f:Addr) (oc:zx) (od:Option Addr) (kV dc pm:zx) (an:Option Addr) (cd ct:zx) (sl:Array (Option zx)),nsIn K mainGlobals x=some (some (.ref f)) /\
 K.lookup f=some #[oc,od,.func (fnOf x x (iJ st) (gm st) (fG st) .none kV dc pm an cd ct),sl] /\ codeIn K cd x=zu /\ keepIn K (.ref f)=zu
theorem dIn_mk {K:Frag}{x:Str}{st:Stmt}{f:Addr}{oc:zx}{od:Option Addr}{kV dc pm:zx}{an:Option Addr}{cd ct:zx}{sl:Array (Option zx)}(a:nsIn K mainGlobals x=some (some (.ref f)))
 (l:K.lookup f=some #[oc,od,.func (fnOf x x (iJ st) (gm st) (fG st) .none kV dc pm an cd ct),sl]) (c:codeIn K cd x=zu) (k:keepIn K (.ref f)=zu):bC K x st:=#[f,oc,od,kV,dc,pm,an,cd,ct,sl,a,l,c,k]
noncomputable def Xm (a:Arguments) (ps:List Str):Bool:=a.posonlyargs.isEmpty&&a.vararg.isNone&&a.kwonlyargs.isEmpty&&a.kwarg.isNone&&decide (a.args.map (·.arg)=ps)&&decide ps.Nodup
theorem Ai {β:Type}{f g:Str->Option β}:∀ {l:List Str},(∀ n∈l,f n=g n)->l.filterMap f=l.filterMap g:=by
 intro l_;induction l_ with
 |nil=>exact λ_=>rfl
 |cons n l ao=>(intro h;rw[qj,qj,h n (bF ..),ao λm q=>h m (bD _ q)])
theorem Dl:∀ {ps:List Str}{us:List zx},us.length=ps.length->ps.Nodup->(∀ n∈ps,((ps.zip us).lookup n).isNone=zc) /\ ps.filterMap (λn=>((ps.zip us).lookup n).map (n,·))=ps.zip us
 |[],_,_,_=>#[(λ_ h=>nomatch h),rfl]
 |p::ps,[],h,_=>by cases h
 | p::ps,u::us,h,nd=>by
   let#[n1,n2]:=rL.mp nd;let#[a,b]:=Dl (ps:=ps) (us:=us) (by simpa using h) n2;have ne:∀ n∈ps,(n==p)=zc:=λn m=>beq_eq_false_iff_ne.mpr λz=>n1 (z▸m);refine#[λn m=>?_,?_]
   .rw[pK,eW];cases q:n==p with
    |true=>rfl
    |false=>
      rcases bA.mp m with z|z
      .rw[z]at q;simp at q
      .exact a n z
   .rw[pK,List.filterMap_cons_some (b:=(p,u)) (by simp[eW])];congr 1;refine Eq.trans ?_ b;exact Ai λn m=>by rw[eW,ne n m]
theorem Ff {a:Arguments}{b:List Stmt}{sc:Scope}{ps:List Str}(h:Xm a ps=zu) (kV doc pm:zx) (an:Option Addr) (cdv ct:zx) (us:List zx) (hl:us.length=ps.length) :
 bindArgs (fnOf x x a b sc .none kV doc pm an cdv ct) #[us,[]]=pure (ps.zip us):=by
 let#[po,ar,va,ko,kd,kw,df]:=a;erw[Xm,aD,decide_eq_true_eq,List.isEmpty_iff,Option.isNone_iff_eq_none]at h;let#[#[#[#[#[rfl,rfl],rfl],rfl],rfl],nd]:=h;let#[z1,z2]:=Dl hl nd;erw[bindArgs,fnOf];have m0:∀ l:List Str,(∀ n∈l,n∈ar.map (·.arg))->l.filter (λn=>(((ar.map (·.arg)).zip us).lookup n).isNone)=[]:=λl h=>List.filter_eq_nil_iff.mpr λn m=>by rw[z1 n (h n m)];decide
 have n0:(do notAStandIn Value.none;pure (zp:Option (Array zx)))=pure zp:=rfl;erw[ug,nz,sC,sF,pure_bind,seqItems?,n0,hl,gt_iff_lt,eU,decide_false,E5,E6,if_false,Qp,List.drop_nil,kJ,K8,wG,List.drop_length,yj,m0 _ λ_ h=>h,List.isEmpty_nil,Bool.not_true,z2]
noncomputable def AllIn (K:Frag):List FI->zy
 |[]=>True
 |f::r=>bC K f.x f.st /\ AllIn K r
theorem aby {K:Frag}{h:Heap}{mg:Str->Option zx}(X:K.In h) (G:h.Ns mainGlobals mg):∀ {l:List FI},AllIn K l->(l.all λf=>Xm (iJ f.st) f.ps)=zu->∀ f∈l,Def K mg f.x f.st f.ps
 |[],_,_=>λ_ m=>nomatch m
 | g::r,d,q=>λf m=>by
   rw[qk,aD]at q;rcases bA.mp m with rfl|m
   .let#[f,oc,od,kV,dc,pm,an,cd,ct,sl,a,l,c,k]:=d.1;exact Tw X G a l c k λfd F=>F.binds (Ff q.1)
   .exact aby X G d.2 q.2 f m
end L2.DL
namespace K12
open L2 L2.DL
def top (i:Nat):Stmt:=PySem.Challenge.pw_rimehold_k12_who_is_where.main.body.getD i (.Pass #[0,0,0,0])
noncomputable def tx:L2.DL.Tx:=#["_law_script",[("COLDEST",3),("MOST_PAGES",16),("LAST_LOT",9)],["all","bool","dict","int","isinstance","len","list","max","min","range","repr","sorted","tuple","zip"]]
def i0:FI:=#["_law_pot",["_law_cell"],["_law_cell","_law_number","_law_j","_law_more"],[],[],[],1,top 52,K1.jH]
def i1:FI:=#["_law_take",["_law_pot_here","_law_far_here"],["_law_pot_here","_law_far_here","_law_found"],[],[],[],0,top 53,K1.fj]
def i2:FI:=#["_law_kind_of",["_law_pot_here"],["_law_pot_here","_law_top","_law_rates"],[],[],[],0,top 55,K1.gM]
def i3:FI:=#["_law_house",["_law_pot_here"],["_law_pot_here","_law_rooms","_law_kinds","_law_pairs","_law_other"],[],[],[],0,top 56,aB.iP]
def i4:FI:=#["_law_cell_at",["_law_script","_law_k"],["_law_script","_law_k"],[],[],[],0,top 51,K1.ie]
def i5:FI:=#["_law_far",["_law_pot_here","_law_outs","_law_pages_here"],["_law_pot_here","_law_outs","_law_pages_here","_law_by","_law_later"],[],[],[],0,top 59,K2.iz]
def i6:FI:=#["_law_mixed",["_law_pot_here","_law_some"],["_law_pot_here","_law_some","_law_left"],["_law_left"],[],[],0,top 54,aB.jI]
def i7:FI:=#["_law_page",["_law_pot_here","_law_house_here","_law_near"],["_law_pot_here","_law_house_here","_law_near","_law_hour","_law_lot","_law_room","_law_way","_law_ripe"],[],[],[],0,top 57,aB.g6]
def i8:FI:=#["_law_pages",["_law_pot_here","_law_house_here","_law_most","_law_near"],["_law_pot_here","_law_house_here","_law_most","_law_near","_law_found","_law_turn","_law_page_here"],["_law_found"],[],[("_law_found",3)],0,top 58,aB.gF]
def i9:FI:=#["_law_mates",["_law_house_here","_law_there","_law_kind"],["_law_house_here","_law_there","_law_kind","_law_found","_law_lot","_law_other"],["_law_found"],["_law_there"],[],0,top 61,aB.gq]
def abz:FI:=#["_law_read_one",["_law_house_here","_law_box","_law_page_here"],["_law_house_here","_law_box","_law_page_here","_law_hour","_law_word_here","_law_lot","_law_there","_law_kind","_law_room"],["_law_there"],["_law_there","came","gone","there"],[("doors",3)],0,top 62,aB.gG]
def abA:FI:=#["_law_read",["_law_house_here","_law_pages_here"],["_law_house_here","_law_pages_here","_law_box","_law_page_here"],[],["_law_box"],[("doors",3)],0,top 63,aB.gN]
def i12:FI:=#["_law_there_at",["_law_box","_law_hour"],["_law_box","_law_hour","_law_found","_law_when","_law_there"],[],["_law_found"],[("at",2)],0,top 64,K12.gH]
def abB:FI:=#["is_tuple",["thing","fewest","most"],["thing","fewest","most"],[],[],[],0,top 23,K1.gp]
def abC:FI:=#["is_whole",["thing"],["thing"],[],[],[],0,top 20,K1.jb]
def abD:FI:=#["is_within",["thing","least","greatest"],["thing","least","greatest"],[],[],[],0,top 21,K1.f9]
def abE:FI:=#["are_rooms",["thing"],["thing"],[],[],[],0,top 29,K1.iN]
def abF:FI:=#["are_rates",["thing"],["thing"],[],[],[],0,top 32,K1.jF]
def abG:FI:=#["is_kind",["thing"],["thing"],[],[],[],0,top 31,K1.l8]
def abH:FI:=#["are_kinds",["thing"],["thing"],[],[],[],0,top 30,K1.iO]
def abI:FI:=#["is_rising",["things"],["things"],[],[],[],0,top 24,K1.ic]
def abJ:FI:=#["is_pair_apart",["thing","many"],["thing","many"],[],[],[],0,top 34,K1.gR]
def abK:FI:=#["are_apart",["thing","many"],["thing","many"],[],[],[],0,top 33,K1.gD]
def abL:FI:=#["is_house",["thing"],["thing","rooms","kinds","apart","hold"],[],[],[],0,top 28,K1.j5]
def abM:FI:=#["need_house",["thing"],["thing"],[],[],[],2,top 35,K2.jm]
def abN:FI:=#["greatest_parts",["house","word"],["house","word","last_kind","last_room"],[],[],[],0,top 40,aB.ij]
def abO:FI:=#["is_hour",["thing"],["thing"],[],[],[],0,top 22,K2.iT]
def abP:FI:=#["is_page",["house","thing"],["house","thing","greatest"],[],[],[],0,top 41,aB.jJ]
def abQ:FI:=#["are_pages",["house","thing"],["house","thing"],[],[],[],0,top 42,aB.jK]
def abR:FI:=#["need_pages",["house","thing"],["house","thing"],[],[],[],2,top 43,K12.jn]
def abS:FI:=#["need_hour",["thing"],["thing"],[],[],[],2,top 25,K2.ig]
def abT:FI:=#["rooms_behind",["steps","hour"],["steps","hour","rooms","page","left","entered"],["rooms"],["rooms"],[],0,top 49,K12.iH]
def abU:FI:=#["room_entered",["page"],["page"],[],[],[],0,top 46,aB.fL]
def abV:FI:=#["may_share",["house","kind","other"],["house","kind","other"],[],[],[],0,top 36,aB.iQ]
def abW:FI:=#["word_for",["house","kinds","rooms","page"],["house","kinds","rooms","page","deed","lot","room","kind","neighbours"],[],["kinds","rooms"],[],0,top 47,aB.iF]
def abX:FI:=#["read",["house","pages"],["house","pages","told","kinds","rooms","page","lot","word"],["kinds","rooms","told"],["kinds","rooms"],[],0,top 45,aB.BR]
def abY:FI:=#["steps_taken",["house","pages"],["house","pages"],[],[],[],0,top 48,K12.iU]
def abZ:FI:=#["places",["house","pages","hour"],["house","pages","hour","rooms"],[],[],[],3,top 44,K12.lK]
def ab0:FI:=#["_law_told",["_law_house_here","_law_pages_here","_law_hour"],["_law_house_here","_law_pages_here","_law_hour","_law_e"],[],[],[],5,top 65,K12.gu]
def ab1:FI:=#["_law_apart_right",["_law_house_here","_law_box","_law_rows"],["_law_house_here","_law_box","_law_rows","_law_lot","_law_room","_law_other","_law_where","_law_pair"],[],["came"],[("_law_rows",2)],0,top 66,K12.gj]
def KA:FI:=#["law",["_law_script"],["_law_script","_law_k","_law_pot_here","_law_house_here","_law_turn","_law_outs","_law_pages_here","_law_by","_law_box","_law_hours","_law_page_here","_law_hour","_law_there","_law_kept","_law_due","_law_lap","_law_found","_law_bad"],["_law_found"],["_law_there"],[],0,top 67,K12.BT]
noncomputable def r0:List FI:=[]
def r1:List FI:=i0::r0
def r2:List FI:=i1::r1
def r3:List FI:=i2::r2
def r4:List FI:=i3::r3
def r5:List FI:=i4::r4
def r6:List FI:=i5::r5
def r7:List FI:=i6::r6
def r8:List FI:=i7::r7
def r9:List FI:=i8::r8
def Iw:List FI:=i9::r9
def ab2:List FI:=abz::Iw
def ab3:List FI:=abA::ab2
def ab4:List FI:=i12::ab3
def ab5:List FI:=abB::ab4
def ab6:List FI:=abC::ab5
def ab7:List FI:=abD::ab6
def ab8:List FI:=abE::ab7
def ab9:List FI:=abF::ab8
def aca:List FI:=abG::ab9
def acb:List FI:=abH::aca
def acd:List FI:=abI::acb
def ace:List FI:=abJ::acd
def acf:List FI:=abK::ace
def acg:List FI:=abL::acf
def ach:List FI:=abM::acg
def aci:List FI:=abN::ach
def acj:List FI:=abO::aci
def ack:List FI:=abP::acj
def acm:List FI:=abQ::ack
def acn:List FI:=abR::acm
def aco:List FI:=abS::acn
def acp:List FI:=abT::aco
def acq:List FI:=abU::acp
def acr:List FI:=abV::acq
def acs:List FI:=abW::acr
def acu:List FI:=abX::acs
def acv:List FI:=abY::acu
def acw:List FI:=abZ::acv
def acx:List FI:=ab0::acw
def acy:List FI:=ab1::acx
def KC:List FI:=KA::acy
theorem q0:i0.Is tx r0:=.inl #[rfl,by kernel_rfl]
theorem q1:i1.Is tx r1:=.inl #[rfl,by kernel_rfl]
theorem q2:i2.Is tx r2:=.inl #[rfl,by kernel_rfl]
theorem q3:i3.Is tx r3:=.inl #[rfl,by kernel_rfl]
theorem q4:i4.Is tx r4:=.inl #[rfl,by kernel_rfl]
theorem q5:i5.Is tx r5:=.inl #[rfl,by kernel_rfl]
theorem q6:i6.Is tx r6:=.inl #[rfl,by kernel_rfl]
theorem q7:i7.Is tx r7:=.inl #[rfl,by kernel_rfl]
theorem q8:i8.Is tx r8:=.inl #[rfl,by kernel_rfl]
theorem q9:i9.Is tx r9:=.inl #[rfl,by kernel_rfl]
theorem agK:abz.Is tx Iw:=.inl #[rfl,by kernel_rfl]
theorem agL:abA.Is tx ab2:=.inl #[rfl,by kernel_rfl]
theorem agM:i12.Is tx ab3:=.inl #[rfl,by kernel_rfl]
theorem agN:abB.Is tx ab4:=.inl #[rfl,by kernel_rfl]
theorem agO:abC.Is tx ab5:=.inl #[rfl,by kernel_rfl]
theorem agP:abD.Is tx ab6:=.inl #[rfl,by kernel_rfl]
theorem agQ:abE.Is tx ab7:=.inl #[rfl,by kernel_rfl]
theorem agR:abF.Is tx ab8:=.inl #[rfl,by kernel_rfl]
theorem agS:abG.Is tx ab9:=.inl #[rfl,by kernel_rfl]
theorem agT:abH.Is tx aca:=.inl #[rfl,by kernel_rfl]
theorem agU:abI.Is tx acb:=.inl #[rfl,by kernel_rfl]
theorem agV:abJ.Is tx acd:=.inl #[rfl,by kernel_rfl]
theorem agW:abK.Is tx ace:=.inl #[rfl,by kernel_rfl]
theorem agX:abL.Is tx acf:=.inl #[rfl,by kernel_rfl]
theorem agY:abM.Is tx acg:=.inl #[rfl,by kernel_rfl]
theorem agZ:abN.Is tx ach:=.inl #[rfl,by kernel_rfl]
theorem ag0:abO.Is tx aci:=.inl #[rfl,by kernel_rfl]
theorem ag1:abP.Is tx acj:=.inl #[rfl,by kernel_rfl]
theorem ag2:abQ.Is tx ack:=.inl #[rfl,by kernel_rfl]
theorem ag3:abR.Is tx acm:=.inl #[rfl,by kernel_rfl]
theorem ag4:abS.Is tx acn:=.inl #[rfl,by kernel_rfl]
theorem ag5:abT.Is tx aco:=.inl #[rfl,by kernel_rfl]
theorem ag6:abU.Is tx acp:=.inl #[rfl,by kernel_rfl]
theorem ag7:abV.Is tx acq:=.inl #[rfl,by kernel_rfl]
theorem ag8:abW.Is tx acr:=.inl #[rfl,by kernel_rfl]
theorem ag9:abX.Is tx acs:=.inl #[rfl,by kernel_rfl]
theorem aha:abY.Is tx acu:=.inl #[rfl,by kernel_rfl]
theorem ahb:abZ.Is tx acv:=.inl #[rfl,by kernel_rfl]
theorem ahc:ab0.Is tx acw:=.inl #[rfl,by kernel_rfl]
theorem ahd:ab1.Is tx acx:=.inl #[rfl,by kernel_rfl]
theorem ahe:KA.Is tx acy:=.inl #[rfl,by kernel_rfl]
theorem TB:Xh tx KC:=#[ahe,#[ahd,#[ahc,#[ahb,#[aha,#[ag9,#[ag8,#[ag7,#[ag6,#[ag5,#[ag4,#[ag3,#[ag2,#[ag1,#[ag0,#[agZ,#[agY,#[agX,#[agW,#[agV,#[agU,#[agT,#[agS,#[agR,#[agQ,#[agP,#[agO,#[agN,#[agM,#[agL,#[agK,#[q9,#[q8,#[q7,#[q6,#[q5,#[q4,#[q3,#[q2,#[q1,#[q0,trivial]]]]]]]]]]]]]]]]]]]]]]]]]]]]]]]]]]]]]]]]]
theorem TC:Ku zu zu KC=zu:=by kernel_rfl
end K12
namespace K12.Wd
open L2 L2.DL PySem.W
abbrev uc:Stmt:=PySem.Challenge.pw_rimehold_k12_who_is_where.main.body.getD 60 (.Pass #[0,0,0,0])
theorem M6 {l:Addr}(h:H l=zp):eJ H (upd H l o):=λb u e=>by rw[fw (fJ e h)];exact e
noncomputable def ud (i n:Nat):List V:=(List.range n).map λj=>V.bl (decide (i=j))
theorem Dm (i n:Nat):(ud i n).all eI=zu:=by
 rw[cS];intro x hx;let#[j,_,rfl]:=bJ.mp hx;rfl
theorem Js:∀ i,i<17->(ud i 17).countP (λz=>ez z (.bl zu))=1:=by decide
theorem TD:∀ i,i<17->(ud i 17)[i]?=some (.bl zu):=by decide
theorem TF:∀ i,i<17->∀ m,m<i->(ud i 17)[m]?=some (.bl zc):=by decide
theorem xM:qv ["_law_e","_law_some","_law_words"] ["_law_e"] (fG uc):=#[rfl,rfl,rfl,by decide +kernel,rfl,by decide +kernel,by decide +kernel]
theorem Jt:bootBuiltins "ValueError"=some (.type "ValueError"):=by decide +kernel
def cZ (i:Nat):Stmt:=(gm uc).getD i (.Pass #[0,0,0,0])
theorem Fg {env:Env}(es:List Expr) (p pos':Pos) (line:Nat):swapsWith (.List es p) (some (.Name x pos')) line env=pure zc:=by rfl
section
variable {R:Addr} {c:Nat -> Addr} {f:Addr} {cdv:zx} {Hx:Hp} {E:XK}
abbrev XW (P:Program) (w:World) (K:Frag) (mg:Str->Option zx) (base:Heap) (f:Addr) (cdv:zx) (A:Around) (outer:List Env) (s:Shared) (H:Hp) (E:XK):Cx:=(yT qP P w K mg base ["_law_e","_law_some","_law_words"] "_law_word" (fG uc) f cdv A outer s H E).sR
theorem iD {l:Addr}(s:eJ H0 H) (h:H0 l=zp):eJ H0 (upd H l o):=λb u e=>by rw[fw (fJ e h)];exact s b u e
theorem w0 (T:kR K mg R c) (hi:i<17) (ha:H0 a=some (.ext (eL a (c i)))):∃ t,PS zav (cZ 0) t /\ ∀ D,
 (∀ l H',H0 l=zp->eJ H0 H'->H' l=some (.lst [.bl (decide (i=0)),.bl (decide (i=1)),.bl (decide (i=2)),.bl (decide (i=3))])->D.nx zaw H')->t D [some (.ref a),zp,zp] H0:=by
 refine#[_,mV (i:=1) xM.nd zw (Or.inl zw) (jR (fA (fU fT (by rfl) T.inst kq (fA (pv 0) (fA (gf (v:=.ref (c 0)) zw (T.m 0 _ zw) zw) fS))) (fA (fU fT (by rfl) T.inst kq (fA (pv 0) (fA (gf (v:=.ref (c 1)) zw (T.m 1 _ zw) zw) fS))) (fA (fU fT (by rfl) T.inst kq (fA (pv 0) (fA (gf (v:=.ref (c 2)) zw (T.m 2 _ zw) zw) fS))) (fA (fU fT (by rfl) T.inst kq (fA (pv 0) (fA (gf (v:=.ref (c 3)) zw (T.m 3 _ zw) zw) fS))) fS))))),λD k=>?_];exact#[_,rfl,_,_,_,_,_,rfl,.exc ha (T.ek i hi),rfl,T.kt i 0 hi zf,_,rfl,_,_,_,_,_,rfl,.exc ha (T.ek i hi),rfl,T.kt i 1 hi zf,_,rfl,_,_,_,_,_,rfl,.exc ha (T.ek i hi),rfl,T.kt i 2 hi zf,_,rfl,_,_,_,_,_,rfl,.exc ha (T.ek i hi),rfl,T.kt i 3 hi zf,by show 4<=sizeLine;decide,λl n=>k l _ n (M6 n) fv]
theorem w1 (T:kR K mg R c) (hi:i<17) (ha:H0 a=some (.ext (eL a (c i)))):∃ t,PS zav (cZ 1) t /\ ∀ D H l xs,eJ H0 H->H0 l=zp->H l=some (.lst xs)->xs.length<=100 ->
 (∀ p H',H0 p=zp->eJ H0 H'->H' p=some (.lst (xs++[.bl (decide (i=4)),.bl (decide (i=5)),.bl (decide (i=6)),.bl (decide (i=7))]))->D.nx [some (.ref a),some (.ref p),zp] H')->t D zaw H:=by
 refine#[_,mV (i:=1) xM.nd zw (Or.inl zw) (Cl Ad (pv 1) (jR (fA (fU fT (by rfl) T.inst kq (fA (pv 0) (fA (gf (v:=.ref (c 4)) zw (T.m 4 _ zw) zw) fS))) (fA (fU fT (by rfl) T.inst kq (fA (pv 0) (fA (gf (v:=.ref (c 5)) zw (T.m 5 _ zw) zw) fS))) (fA (fU fT (by rfl) T.inst kq (fA (pv 0) (fA (gf (v:=.ref (c 6)) zw (T.m 6 _ zw) zw) fS))) (fA (fU fT (by rfl) T.inst kq (fA (pv 0) (fA (gf (v:=.ref (c 7)) zw (T.m 7 _ zw) zw) fS))) fS)))))),λD H l xs sm hn hl hx k=>?_];have nv:=sm _ _ ha;refine#[_,rfl,_,rfl,_,_,_,_,_,rfl,.exc nv (T.ek i hi),rfl,T.kt i 4 hi zf,_,rfl,_,_,_,_,_,rfl,.exc nv (T.ek i hi),rfl,T.kt i 5 hi zf,_,rfl,_,_,_,_,_,rfl,.exc nv (T.ek i hi),rfl,T.kt i 6 hi zf,_,rfl,_,_,_,_,_,rfl,.exc nv (T.ek i hi),rfl,T.kt i 7 hi zf,by show 4<=sizeLine;decide,λl2 n2=>?_];refine#[l,l2,xs,_,rfl,rfl,by rw[fw (fJ hl n2)];exact hl,fv,HY zB |> eV,λp np=>?_];have m2:H0 l2=zp:=sm.free n2;have s2:=iD (o:=.lst [.bl (decide (i=4)),.bl (decide (i=5)),.bl (decide (i=6)),.bl (decide (i=7))]) sm m2;have mp:H0 p=zp:=s2.free np;exact k p _ mp (iD s2 mp) fv
theorem w2 (T:kR K mg R c) (hi:i<17) (ha:H0 a=some (.ext (eL a (c i)))):∃ t,PS zav (cZ 2) t /\ ∀ D H l xs,eJ H0 H->H0 l=zp->H l=some (.lst xs)->xs.length<=100 ->
 (∀ p H',H0 p=zp->eJ H0 H'->H' p=some (.lst (xs++[.bl (decide (i=8)),.bl (decide (i=9)),.bl (decide (i=10)),.bl (decide (i=11))]))->D.nx [some (.ref a),some (.ref p),zp] H')->t D zaw H:=by
 refine#[_,mV (i:=1) xM.nd zw (Or.inl zw) (Cl Ad (pv 1) (jR (fA (fU fT (by rfl) T.inst kq (fA (pv 0) (fA (gf (v:=.ref (c 8)) zw (T.m 8 _ zw) zw) fS))) (fA (fU fT (by rfl) T.inst kq (fA (pv 0) (fA (gf (v:=.ref (c 9)) zw (T.m 9 _ zw) zw) fS))) (fA (fU fT (by rfl) T.inst kq (fA (pv 0) (fA (gf (v:=.ref (c 10)) zw (T.m 10 _ zw) zw) fS))) (fA (fU fT (by rfl) T.inst kq (fA (pv 0) (fA (gf (v:=.ref (c 11)) zw (T.m 11 _ zw) zw) fS))) fS)))))),λD H l xs sm hn hl hx k=>?_];have nv:=sm _ _ ha;refine#[_,rfl,_,rfl,_,_,_,_,_,rfl,.exc nv (T.ek i hi),rfl,T.kt i 8 hi zf,_,rfl,_,_,_,_,_,rfl,.exc nv (T.ek i hi),rfl,T.kt i 9 hi zf,_,rfl,_,_,_,_,_,rfl,.exc nv (T.ek i hi),rfl,T.kt i 10 hi zf,_,rfl,_,_,_,_,_,rfl,.exc nv (T.ek i hi),rfl,T.kt i 11 hi zf,by show 4<=sizeLine;decide,λl2 n2=>?_];refine#[l,l2,xs,_,rfl,rfl,by rw[fw (fJ hl n2)];exact hl,fv,HY zB |> eV,λp np=>?_];have m2:H0 l2=zp:=sm.free n2;have s2:=iD (o:=.lst [.bl (decide (i=8)),.bl (decide (i=9)),.bl (decide (i=10)),.bl (decide (i=11))]) sm m2;have mp:H0 p=zp:=s2.free np;exact k p _ mp (iD s2 mp) fv
theorem w3 (T:kR K mg R c) (hi:i<17) (ha:H0 a=some (.ext (eL a (c i)))):∃ t,PS zav (cZ 3) t /\ ∀ D H l xs,eJ H0 H->H0 l=zp->H l=some (.lst xs)->xs.length<=100 ->
 (∀ p H',H0 p=zp->eJ H0 H'->H' p=some (.lst (xs++[.bl (decide (i=12)),.bl (decide (i=13)),.bl (decide (i=14)),.bl (decide (i=15))]))->D.nx [some (.ref a),some (.ref p),zp] H')->t D zaw H:=by
 refine#[_,mV (i:=1) xM.nd zw (Or.inl zw) (Cl Ad (pv 1) (jR (fA (fU fT (by rfl) T.inst kq (fA (pv 0) (fA (gf (v:=.ref (c 12)) zw (T.m 12 _ zw) zw) fS))) (fA (fU fT (by rfl) T.inst kq (fA (pv 0) (fA (gf (v:=.ref (c 13)) zw (T.m 13 _ zw) zw) fS))) (fA (fU fT (by rfl) T.inst kq (fA (pv 0) (fA (gf (v:=.ref (c 14)) zw (T.m 14 _ zw) zw) fS))) (fA (fU fT (by rfl) T.inst kq (fA (pv 0) (fA (gf (v:=.ref (c 15)) zw (T.m 15 _ zw) zw) fS))) fS)))))),λD H l xs sm hn hl hx k=>?_];have nv:=sm _ _ ha;refine#[_,rfl,_,rfl,_,_,_,_,_,rfl,.exc nv (T.ek i hi),rfl,T.kt i 12 hi zf,_,rfl,_,_,_,_,_,rfl,.exc nv (T.ek i hi),rfl,T.kt i 13 hi zf,_,rfl,_,_,_,_,_,rfl,.exc nv (T.ek i hi),rfl,T.kt i 14 hi zf,_,rfl,_,_,_,_,_,rfl,.exc nv (T.ek i hi),rfl,T.kt i 15 hi zf,by show 4<=sizeLine;decide,λl2 n2=>?_];refine#[l,l2,xs,_,rfl,rfl,by rw[fw (fJ hl n2)];exact hl,fv,HY zB |> eV,λp np=>?_];have m2:H0 l2=zp:=sm.free n2;have s2:=iD (o:=.lst [.bl (decide (i=12)),.bl (decide (i=13)),.bl (decide (i=14)),.bl (decide (i=15))]) sm m2;have mp:H0 p=zp:=s2.free np;exact k p _ mp (iD s2 mp) fv
theorem w4 (T:kR K mg R c) (hi:i<17) (ha:H0 a=some (.ext (eL a (c i)))):∃ t,PS zav (cZ 4) t /\ ∀ D H l xs,eJ H0 H->H0 l=zp->H l=some (.lst xs)->xs.length<=100 ->
 (∀ H',eJ H0 H'->H' l=some (.lst (xs++[.bl (decide (i=16))]))->D.nx zaw H')->t D zaw H:=by
 refine#[_,Fj (Ba wM Y0 Y1 lB (pv 1) (fA (fU fT (by rfl) T.inst kq (fA (pv 0) (fA (gf (v:=.ref (c 16)) zw (T.m 16 _ zw) zw) fS))) fS)),λD H l xs sm hn hl hx k=>?_];exact#[_,rfl,.inl #[rfl,_,bO.of hl],_,rfl,_,_,_,_,_,rfl,.exc (sm _ _ ha) (T.ek i hi),rfl,T.kt i 16 hi zf,l,xs,_,rfl,rfl,hl,HY zd,k _ (iD sm hn) fv]
theorem w5 (T:kR K mg R c) (hi:i<17) (ha:H0 a=some (.ext (eL a (c i)))):∃ t,PS zav (cZ 5) t /\ ∀ D H l,eJ H0 H->H l=some (.lst (ud i 17)) ->
 D.nx zaw H->t D zaw H:=by
 refine#[_,(PL (PW.pt (PK (Fp PN (Ba wM PySem.F.slot_list_count PySem.F.type_list_count JZ (pv 1) (fA Jv fS)) Do (adO _)) (Jy (Jz (Jx (fU fT (by rfl) T.inst kq (fA (pv 0) (fA (Fh (v:=.ty "ValueError") zw T.afN Jt zw) fS)))))))) (oS (Bz lV)) Fi),λD H l sm hl k=>?_];refine#[_,rfl,.inl #[rfl,_,bO.of hl],l,_,_,rfl,rfl,hl,Dm i 17,rfl,rfl,_,rfl,?_];rw[Js i hi];refine ZW ?_;exact#[_,rfl,_,_,_,_,_,rfl,.exc (sm _ _ ha) (T.ek i hi),rfl,T.kv i hi,_,rfl,ZW k]
theorem w6 (T:kR K mg R c):∃ t,PS zav (cZ 6) t /\ ∀ D H l,eJ H0 H ->
 (∀ l2 H',H l2=zp->H'=upd H l2 (.lst ((rm.take 12).map V.str))->D.nx [some (.ref a),some (.ref l),some (.ref l2)] H')->t D zaw H:=by
 have e:∃ p es q r,cZ 6=.Assign [.Name "_law_words" p] (.List es q) r /\ es.map aaa=(rm.take 12).map some:=#[_,_,_,_,rfl,rfl];let#[p,es,q,r,h,he]:=e;rw[h];refine#[_,mV (i:=2) (x:="_law_words") xM.nd zw (Or.inl zw) (jR (BI he)) (Fg _ _ _ _),λD H l sm k=>?_];exact#[by decide,λl2 n2=>k l2 _ n2 zw]
theorem w7 (T:kR K mg R c) (hi:i<17):∃ t,PS zav (cZ 7) t /\ ∀ D H l l2,eJ H0 H->H l=some (.lst (ud i 17))->H l2=some (.lst ((rm.take 12).map V.str)) ->
 (∀ H',eJ H0 H'->D.rt (.str (wordOf i)) H')->t D [some (.ref a),some (.ref l),some (.ref l2)] H:=by
 refine#[_,(Bz (JM BD (Cl Ad (pv 2) (jR (BI (xs:=rm.drop 12) zw))) (Ba wM PySem.F.slot_list_index PySem.F.type_list_index J0 (pv 1) (fA Jv fS)) (λ_ _=>rfl))),λD H l l2 sm hl h2 k=>?_];refine#[_,rfl,by decide,λl3 n3=>?_];refine#[l2,l3,_,_,rfl,rfl,by rw[fw (fJ h2 n3)];exact h2,fv,by decide,λp np=>?_];have m3:H0 l3=zp:=sm.free n3;have s3:=iD (o:=.lst ((rm.drop 12).map V.str)) sm m3;have mp:H0 p=zp:=s3.free np;have lp:l≠p:=by
  intro z;rw[<-z,fw (fJ hl n3),hl]at np;cases np
 have kg:(upd (upd H l3 (.lst ((rm.drop 12).map V.str))) p (.lst ((rm.take 12).map V.str++(rm.drop 12).map V.str))) l=some (.lst (ud i 17)):=by rw[fw lp,fw (fJ hl n3)];exact hl
 refine#[_,rfl,.inl #[rfl,_,bO.of kg],l,_,_,i,rfl,rfl,kg,Dm i 17,rfl,?_,?_,?_,p,_,_,_,rfl,rfl,bO.of fv,Fs (j:=i) (v:=.str (wordOf i)) ?_,k _ (iD s3 mp)]
 .exact hi
 .intro z e;rw[TD i hi]at e;cases e;rfl
 .intro m z hm e;rw[TF i hi m hm]at e;cases e;rfl
 .have:∀ i,i<17->((rm.take 12).map V.str++(rm.drop 12).map V.str)[i]?=some (.str (wordOf i)):=by decide
  exact this i hi
theorem ahf:gm uc=[cZ 0,cZ 1,cZ 2,cZ 3,cZ 4,cZ 5,cZ 6,cZ 7]:=rfl
end
section
variable {R:Addr} {c:Nat -> Addr} {f:Addr}
theorem ahg (i:Nat):(([.bl (decide (i=0)),.bl (decide (i=1)),.bl (decide (i=2)),.bl (decide (i=3))]++[.bl (decide (i=4)),.bl (decide (i=5)),.bl (decide (i=6)),.bl (decide (i=7))]++[.bl (decide (i=8)),.bl (decide (i=9)),.bl (decide (i=10)),.bl (decide (i=11))]++[.bl (decide (i=12)),.bl (decide (i=13)),.bl (decide (i=14)),.bl (decide (i=15))]++[.bl (decide (i=16))]:List V))=ud i 17:=rfl
theorem PJ (F:kB K "_law_word" "_law_word" uc f fd) (T:kR K mg R c):yS P w K mg base qP 1 f fd ["_law_e"] (aaP c):=by
 refine F.yU xM (λvs H Q E h=>?_) (λcdv A outer s H vs Q E hr h=>?_)
 .let#[a,i,rfl,_]:=h;rfl
 .let#[a,i,rfl,hi,ha,q]:=h;rw[ahf];let#[t0,p0,r0]:=w0 (P:=P) (w:=w) (K:=K) (mg:=mg) (base:=base) (f:=f) (cdv:=cdv) (A:=A) (outer:=outer) (s:=s) (Hx:=H) (E:=E) T hi ha;let#[t1,p1,r1]:=w1 (P:=P) (w:=w) (K:=K) (mg:=mg) (base:=base) (f:=f) (cdv:=cdv) (A:=A) (outer:=outer) (s:=s) (Hx:=H) (E:=E) T hi ha;let#[t2,p2,r2]:=w2 (P:=P) (w:=w) (K:=K) (mg:=mg) (base:=base) (f:=f) (cdv:=cdv) (A:=A) (outer:=outer) (s:=s) (Hx:=H) (E:=E) T hi ha;let#[t3,p3,r3]:=w3 (P:=P) (w:=w) (K:=K) (mg:=mg) (base:=base) (f:=f) (cdv:=cdv) (A:=A) (outer:=outer) (s:=s) (Hx:=H) (E:=E) T hi ha;let#[t4,p4,r4]:=w4 (P:=P) (w:=w) (K:=K) (mg:=mg) (base:=base) (f:=f) (cdv:=cdv) (A:=A) (outer:=outer) (s:=s) (Hx:=H) (E:=E) T hi ha;let#[t5,p5,r5]:=w5 (P:=P) (w:=w) (K:=K) (mg:=mg) (base:=base) (f:=f) (cdv:=cdv) (A:=A) (outer:=outer) (s:=s) (Hx:=H) (E:=E) T hi ha;let#[t6,p6,r6]:=w6 (P:=P) (w:=w) (K:=K) (mg:=mg) (base:=base) (f:=f) (cdv:=cdv) (A:=A) (outer:=outer) (s:=s) (Hx:=H) (E:=E) (a:=a) (H0:=H) T;let#[t7,p7,r7]:=w7 (P:=P) (w:=w) (K:=K) (mg:=mg) (base:=base) (f:=f) (cdv:=cdv) (A:=A) (outer:=outer) (s:=s) (Hx:=H) (E:=E) (a:=a) (H0:=H) T hi;generalize cZ 0=x0 at p0 ⊢;generalize cZ 1=x1 at p1 ⊢;generalize cZ 2=x2 at p2 ⊢;generalize cZ 3=x3 at p3 ⊢;generalize cZ 4=x4 at p4 ⊢;generalize cZ 5=x5 at p5 ⊢;generalize cZ 6=x6 at p6 ⊢;generalize cZ 7=x7 at p7 ⊢;refine#[_,iE p0 (iE p1 (iE p2 (iE p3 (iE p4 (iE p5 (iE p6 (oS p7))))))),?_];refine r0 _ λl1 H1 n1 s1 e1=>?_;refine r1 _ _ _ _ s1 n1 e1 zq λl2 H2 n2 s2 e2=>?_;refine r2 _ _ _ _ s2 n2 e2 zq λl3 H3 n3 s3 e3=>?_;refine r3 _ _ _ _ s3 n3 e3 zq λl4 H4 n4 s4 e4=>?_;refine r4 _ _ _ _ s4 n4 e4 zq λH5 s5 e5=>?_;have Xn:H5 l4=some (.lst (ud i 17)):=by rw[<-ahg i];exact e5
  refine r5 _ _ _ s5 Xn ?_;refine r6 _ _ _ s5 λl6 H6 n6 e6=>?_;subst e6;have m6:H l6=zp:=s5.free n6;refine r7 _ _ _ _ (iD s5 m6) (by rw[fw (fJ Xn n6)];exact Xn) fv λH7 s7=>q H7 s7
end
end K12.Wd
namespace K12
open L2 L2.DL PySem.W
theorem TH {l:PySem.W.OpenLaw}{w:World}{K:Frag}{h:Heap}{mg:Str->Option zx}{fa:Addr}(X:K.In h) (G:h.Ns mainGlobals mg) (xK:mg "law"=some (.ref fa))
 (z0:Ky K tx.bl=zu) (g0:Kz K tx.gl=zu) (y1:Kw K=zu)
 (d0:bC K "_law_pot" (top 52))
 (d1:bC K "_law_take" (top 53))
 (d2:bC K "_law_kind_of" (top 55))
 (d3:bC K "_law_house" (top 56))
 (d4:bC K "_law_cell_at" (top 51))
 (d5:bC K "_law_far" (top 59))
 (d6:bC K "_law_mixed" (top 54))
 (d7:bC K "_law_page" (top 57))
 (d8:bC K "_law_pages" (top 58))
 (d9:bC K "_law_mates" (top 61))
 (ahh:bC K "_law_read_one" (top 62))
 (ahi:bC K "_law_read" (top 63))
 (ahj:bC K "_law_there_at" (top 64))
 (ahk:bC K "is_tuple" (top 23))
 (ahl:bC K "is_whole" (top 20))
 (ahm:bC K "is_within" (top 21))
 (ahn:bC K "are_rooms" (top 29))
 (aho:bC K "are_rates" (top 32))
 (ahp:bC K "is_kind" (top 31))
 (ahq:bC K "are_kinds" (top 30))
 (ahr:bC K "is_rising" (top 24))
 (ahs:bC K "is_pair_apart" (top 34))
 (aht:bC K "are_apart" (top 33))
 (ahu:bC K "is_house" (top 28))
 (ahv:bC K "need_house" (top 35))
 (ahw:bC K "greatest_parts" (top 40))
 (ahx:bC K "is_hour" (top 22))
 (ahy:bC K "is_page" (top 41))
 (ahz:bC K "are_pages" (top 42))
 (ahA:bC K "need_pages" (top 43))
 (ahB:bC K "need_hour" (top 25))
 (ahC:bC K "rooms_behind" (top 49))
 (ahD:bC K "room_entered" (top 46))
 (ahE:bC K "may_share" (top 36))
 (ahF:bC K "word_for" (top 47))
 (ahG:bC K "read" (top 45))
 (ahH:bC K "steps_taken" (top 48))
 (ahI:bC K "places" (top 44))
 (ahJ:bC K "_law_told" (top 65))
 (ahK:bC K "_law_apart_right" (top 66))
 (ahL:bC K "law" (top 67))
 {R c0 c1 c2 c3 c4 c5 c6 c7 c8 c9 xO xQ xR xS xT xV xW:Addr}
 (eR:nsIn K mainGlobals "RimeError"=some (some (.ref R)))
 (e0:nsIn K mainGlobals "NoHouse"=some (some (.ref c0)))
 (e1:nsIn K mainGlobals "NoOuts"=some (some (.ref c1)))
 (e2:nsIn K mainGlobals "NoRoom"=some (some (.ref c2)))
 (e3:nsIn K mainGlobals "NoHour"=some (some (.ref c3)))
 (e4:nsIn K mainGlobals "NoPages"=some (some (.ref c4)))
 (e5:nsIn K mainGlobals "NoLot"=some (some (.ref c5)))
 (e6:nsIn K mainGlobals "NoAsks"=some (some (.ref c6)))
 (e7:nsIn K mainGlobals "NoNumber"=some (some (.ref c7)))
 (e8:nsIn K mainGlobals "NoMoves"=some (some (.ref c8)))
 (e9:nsIn K mainGlobals "NoEach"=some (some (.ref c9)))
 (ahM:nsIn K mainGlobals "NoOrder"=some (some (.ref xO)))
 (ahN:nsIn K mainGlobals "NoPage"=some (some (.ref xQ)))
 (ahO:nsIn K mainGlobals "NoOut"=some (some (.ref xR)))
 (ahP:nsIn K mainGlobals "Twice"=some (some (.ref xS)))
 (ahQ:nsIn K mainGlobals "Missing"=some (some (.ref xT)))
 (ahR:nsIn K mainGlobals "TooMany"=some (some (.ref xV)))
 (ahS:nsIn K mainGlobals "NoDeed"=some (some (.ref xW)))
 (zi:nsIn K mainGlobals "isinstance"=some zp) (zv:nsIn K mainGlobals "ValueError"=some zp)
 (h1:([c0,c1,c2,c3,c4,c5,c6,c7,c8,c9,xO,xQ,xR,xS,xT,xV,xW]:List Addr).all (Kx K R)=zu) (h2:Xk K ([c0,c1,c2,c3,c4,c5,c6,c7,c8,c9,xO,xQ,xR,xS,xT,xV,xW]:List Addr)=zu) (h3:Xl K R=zu)
 {fW:Addr}{ahT ahU:Option Addr}{ahV:Array (Option zx)}{ahW ahX ahY ahZ acz ah0:zx}(aW:nsIn K mainGlobals "_law_word"=some (some (.ref fW))) (lW:K.lookup fW=some #[ahW,ahT,.func (fnOf "_law_word" "_law_word" (iJ Wd.uc) (gm Wd.uc) (fG Wd.uc) .none ahX ahY ahZ ahU acz ah0),ahV]) (gW:codeIn K acz "_law_word"=zu) (kW:keepIn K (.ref fW)=zu) :
 ∃ (cl:Nat->Addr) (fd:FuncData),(∀ (s:Shared) (u:zx),BindsTo s fd #[[u],[]] [("_law_script",u)]) /\ ∀ base:Heap,K.In base->base.Ns mainGlobals mg->eZ l.prog w K mg base (hJ l.prog w) 41 fa fd ["_law_script"] (rX cl 1 K12.BT):=by
 have DF:=aby X G (l:=KC) #[ahL,ahK,ahJ,ahI,ahH,ahG,ahF,ahE,ahD,ahC,ahB,ahA,ahz,ahy,ahx,ahw,ahv,ahu,aht,ahs,ahr,ahq,ahp,aho,ahn,ahm,ahl,ahk,ahj,ahi,ahh,d9,d8,d7,d6,d5,d4,d3,d2,d1,d0,trivial] (by kernel_rfl);refine PH (λi=>([c0,c1,c2,c3,c4,c5,c6,c7,c8,c9,xO,xQ,xR,xS,xT,xV,xW]:List Addr).getD i 0) xK (DF KA (bF ..)) (λfd f F s u=>?_) λbase _ _=>?_
 .let#[#[oc,od,kV,doc,pm,an,cdv,ct,pH,rfl,_,_],_]:=F;exact .of_eq zw
 .have ext:kR K mg R (λi=>([c0,c1,c2,c3,c4,c5,c6,c7,c8,c9,xO,xQ,xR,xS,xT,xV,xW]:List Addr).getD i 0):=Tz X G zw eR (λi x hx=>by
   match i,hx with
   |0,hx=>cases hx;exact e0
   |1,hx=>cases hx;exact e1
   |2,hx=>cases hx;exact e2
   |3,hx=>cases hx;exact e3
   |4,hx=>cases hx;exact e4
   |5,hx=>cases hx;exact e5
   |6,hx=>cases hx;exact e6
   |7,hx=>cases hx;exact e7
   |8,hx=>cases hx;exact e8
   |9,hx=>cases hx;exact e9
   |10,hx=>cases hx;exact ahM
   |11,hx=>cases hx;exact ahN
   |12,hx=>cases hx;exact ahO
   |13,hx=>cases hx;exact ahP
   |14,hx=>cases hx;exact ahQ
   |15,hx=>cases hx;exact ahR
   |16,hx=>cases hx;exact ahS
   |n+17,hx=>simp[Em]at hx) zi zv h1 h2 h3
  have hw:En l.prog w K mg base (λi=>([c0,c1,c2,c3,c4,c5,c6,c7,c8,c9,xO,xQ,xR,xS,xT,xV,xW]:List Addr).getD i 0):=by
   have F:=Dy (st:=Wd.uc) lW gW kW;exact#[fW,_,Wd.PJ F ext,mg_of X G aW,kW,F.binds (ps:=["_law_e"]) λ_ _ _ _ _ _ us hl=>match us,hl with|[_],_=>rfl]
  exact PB (UU X G z0 g0 y1 (λ_=>#[R,ext]) (λ_=>hw)) KC TB TC DF KA (bF ..)
end K12
end
structure PySem.W.Fast:Prop where(tw10816653931193202776 tw6989732146980215142 tw4714460574168208382 tw3103765497656739658 tw16702984872167802347 tw16462319366751903628 tw6854392709057493162 tw6451920141180518288 tw6586192088400630075 tw6664574363270151353 tw112708928746391571 tw16788756184949972862 tw8526800198345337011 tw14794645321574214581 tw14000518463413735345 tw14086387758425872340 tw13391133866430051062 tw11697259679580560695 tw5074287540490761868 tw938385320085512434 tw7268529890331270901 tw7755511728799192073 tw4711733398735910734 tw5920394682982618044 tw15757690977295484510 tw16623241588445034312 tw15665037318545745917 tw14713980505567852381 tw10156285581596107344 tw7341555001131261336 tw226800429566711952 tw11258932296767128626 tw2388253090912002010 tw18175588407452440925 tw8702812442036120971 tw10117979744950417868 tw1795608548262675552 tw9846690479767550950 tw2759751956245729528 tw6051733521660229262 tw15415377267606096556 tw12697926436333721948 tw8799419610264013556 tw5154432258790020243 tw8442682437797442886 tw3377409856625604868 tw2257908500763160761 tw16506273515261996275 tw6311497411081413236 tw16354102014102953604 tw9513954155321168302 tw2431219369727316578 tw7894719577861306418 tw8669700515139835766 tw17634260882503870127 tw6508171259481067693 tw5323042180205941741 tw10448508810300788538 tw4027146249238366429 tw16336455364600864486 tw9333682138755355074 tw5577420469082567528 tw18250945926726170910 tw2085948521977833694 tw16979980258674201895 tw16540280098611913071 tw15066970727977809766 tw16711704476626044811 tw16948359983094531904 tw2572809926418344185 tw10940964318303905790 tw14652808156355255152 tw2176737012032551764 tw14516673656674051289 tw13243420135482825395 tw16631637250831485682 tw1661394692913986742 tw9515276075768483121 tw14626520994545159878 tw14064583194640123636 tw15013372201761348162 tw15328588273970242114 tw522920121076897567 tw12737213357848507545 tw160455946493034147 tw1092230082003510033 tw460500535897870918 tw1672083629250205894 tw5397557764370447024 tw17932005697717218253 tw17945249283110695801 tw1373493619848096730 tw17571457277467021671 tw8604772948932667859 tw17931193238841294971 tw11781236045819626279 tw6653345752917535245 tw1608077719478941907 tw18075657863662157637 tw9626549565316119437 tw8665178936872452441 tw17894104873342153073 tw14762030113075197197 tw4754139116652816802 tw13437434724650832218 tw10424224056739235195 tw6654315753056756656 tw14468376920697363234 tw760297051152229260 tw17150791550549383412 tw12134228605241018338 tw17138622511096147162 tw14407071141386708471 tw4691786574531549038 tw7060864202887782349 tw12470012510037401192 tw6751864876110356521 tw17884927685160642055 tw15969141965073419249 tw7801231873578278788 tw4304293932809525787 tw16909746517958471660 tw9236071071168093413 tw1399232472119737631 tw2408172086463654435 tw2376231450950156918 tw197390783840949521 tw4494620424150345707 tw16200079462889232770 tw14387202086614922544 tw13413300758211863948 tw10895186260277952139 tw3356382866493935590 tw15323042139234382691 tw8400647096898420113 tw10840289153616345747 tw7290813190382783634 tw16585481887675447899 tw8708470885096054056 tw11672196674131842976 tw3877297074601421469 tw1779190941961088813 tw7690160634599294717 tw6539308271349489795 tw858381366125467728 tw17115204561305770491 tw10503816281134635817 tw7639342837202656534 tw17412983237657220961 tw3166906245032712450 tw17087050813202845438 tw2308817929683082316 tw16189455589479950188 tw2218574332393666521 tw18028044619257391293 tw1771821970075898274 tw9708176475608367246 tw12992268064068709007 tw16075585311716405641 tw16361888517898930203 tw7378503998231222090 tw5872863431071146568 tw6165934472842499452 tw12471028098056065955 tw1233293656598110332 tw10231644045409319020 tw7545291994048949901 tw16494672979461921869 tw2373711924632484673 tw4314085943326141484 tw8909089284578542788 tw18003590535875450716 tw11566808191980222387 tw13166052784783199794 tw14880305410669408900 tw8035508120386736874 tw1941424154812364333 tw18125003569152699291 tw843541582368000598 tw14026891575439349674 tw7344057680145538383 tw1533333989237826139 tw10871086078188496893 tw15856475022020479555 tw13840276944177211472 tw17699943598510641185 tw10460810666116833519 tw15372904067368894861 tw5887720483655412488 tw17690919935705124479 tw2631378793951538959 tw6991335776550820608 tw7216122472386777947 tw4790107620908731467 tw6034778115879329015 tw1613102701683365479 tw3563533592873486977 tw6327534327891686941 tw5694763710155883738 tw11303288584821393834 tw7496105137380370438 tw14774065086007409469 tw18280868955723471913 tw1565378551869117237 tw16775315141366590507 tw13254974934941993883 tw1966529787486035590 tw16057960972560377005 tw5310672997704982070 tw18074574863595342315 tw16428638409478974574 tw18020406779384732885 tw3773170593955923367 tw15648287190669713394 tw2108585536613294940 tw12805009468876052689 tw12384934849125478740 tw14934733056243854840 tw5938220337537284106 tw8814640802047698570 tw14025102325334416701 tw11951551628648792863 tw9715152331151273275 tw7050845678213364266 tw6384175656768935101 tw15009661911244461503 tw13846526357772708387 tw15283668953931653965 tw14114077504277378901 tw15502160290152284983 tw912197382282397492 tw5364771664588187005 tw12622532306628858710 tw3072663272158059294 tw17253468789974300970 tw15838346753517605630 tw17607294744213012039 tw11867626263825598246 tw15220668762171762639 tw5486602989747685825 tw9554794912566247015 tw1212705007020540470 tw12917654555341982199 tw6693175253370885545 tw12181429133462730 tw3342655301690895304 tw10159229405006468856 tw3018514469458416596 tw10035008410174978714 tw501141010231325439 tw12642867640005339362 tw2895344210039479273 tw17350555077439600253 tw6854855673400553834 tw13430322623043751960 tw13482656276405604204 tw15244967360376536459 tw17667454301384337587 tw15652290206070481572 tw14646462928534993305 tw17138794855374610216 tw14623763621628815430 tw11166689432269519155 tw14984125787233236406 tw4351953696529010073 tw1412825623557434838 tw13142601537587694857 tw16314962741977761783 tw131399858543179493 tw13062097567565757213 tw13130552606241063143 tw5167348433644573855 tw4095519243646353347 tw13114688855416383520 tw2068610081974192324 tw13732060705077441032 tw6741361134583882634 tw267113556237575312 tw3952506614139890137 tw4717842859686512942 tw827047388206534198 tw10488091098173959097 tw14362491562663883843 tw5176638624278427963 tw2270386568032802137 tw11345390346695941948 tw3143135323505991461 tw17368335936925897237 tw17980874768031754690 tw5721124992071770907 tw308577736713317070 tw4161842601197213261 tw5719335163694320803 tw2713118259939956685 tw8922378945598157244 tw8538024918514193302 tw12009664181401234121 tw5629625998201730961 tw6206892109622446194 tw12045080922043774765 tw4755995101432631907 tw1211756297432065423 tw14845083759456418527 tw4106160529028738765 tw11250387291033968077 tw15980631691861622437 tw7141356849716445760 tw11981875027366746876 tw6512249077033877429 tw16675651694122758540 tw15377023565061905445 tw8052798245233277115 tw8942037564098180538 tw12690654144600941182 tw12106628756620361740 tw473217278732237205 tw14113081263693902164 tw517054622988202363 tw14622156859385416931 tw6421763514382653224 tw10438445333806308677 tw6142328651519717752 tw12880415420216176550 tw18333896926818150916 tw17672793598725808998 tw11020790028251994652 tw12808034459770559591 tw936346412742920372 tw547502937999162223 tw6418284255889397138 tw16417227212767407145 tw5008413282372250118 tw13368776305962607370 tw5765269989822328938 tw14595547635464827923 tw651399546083808817 tw13943771013160426770 tw6875658492371779676 tw7673166605318744052 tw16008242057668619288 tw2878610503875184481 tw17105089913078335179 tw13409516535821384699 tw6315798614967804352 tw8493472809980078337 tw4530990512457921073 tw5928364529326458738 tw8389884956335107768 tw17915232362506709541 tw16343660069449264427 tw3792697224037355744 tw15315422431764936396 tw13380514406438194962 tw9343360409777780251 tw11471990332730929924 tw2418548667186524823 tw9384474468102936423 tw11076664091450452454 tw18054329995818107131 tw3078567858489200008 tw12104402581605558329 tw377684945949948453 tw3971462815852498255 tw17361990528524682717 tw2100674614471476425 tw12831102780131917426 tw331680619255990931 tw3725744904745393738 tw4648530197588075177 tw13414983185451304286 tw18248336145517179045 tw15942633314254981275 tw6129307786063425522 tw950684459609491938 tw6720869524397672071 tw11486883318905080423 tw2439533694968761050 tw12317059470376143573 tw3518211395102990109 tw6007906613751389248 tw2665343574133049875 tw1443318989139310526 tw6068920149985185891 tw15607043241312615679 tw16757607501790456048 tw11438541166367851204 tw5552941610874623253 tw3122541348107208436 tw17614631520636304825 tw17510531309848594383 tw2918648762652476053 tw17637683043397168636 tw3180796228833525414 tw16540019068773153686 tw11819292592914496935 tw10748519257182102094 tw14685733275574128993 tw8125268789419971982 tw7423168037441948231 tw6815151014361735299 tw2423749041789022116 tw17993812366128682776 tw8190484518854074024 tw7310419361895203546 tw17238254861029933768 tw14378331584837389197 tw14881011827556534250 tw16417518951001965254 tw4157562703721843298 tw2513478241114481138 tw6683210295075168013 tw17309506737936846852 tw11635559792264256738 tw10612436449137219734 tw14842675321365413984 tw15739529653169404807 tw14549060123564643341 tw16718549358456470576 tw8738639093033433603 tw6430684457138913904 tw10108603826990548219 tw1049619328196642171 tw15113316873720794715 tw3981104152487791755 tw16252093779082551710 tw1902838202769816534 tw5970286399039362120 tw10142279097871058015 tw9812049923443865958 tw7504952910165551057 tw14088002919822704514 tw16873341389934488691 tw15398250767291997022 tw10565364847218764979 tw11512687732783970854 tw18081947202663050493 tw4273113181667249883 tw10653087536249096195 tw6313246210128175095 tw18246627154732859199 tw8065494721012337878 tw5985583461418649835 tw2028545961707642513 tw15613920014119804195 tw7196892729420050188 tw15091260914209097044 tw6652937819248805331 tw2136344449853306531 tw2750108951950755911 tw2553830580920573260 tw15140407834294552909 tw5054259215365093611 tw12068517143320438520 tw11577361366356250308 tw17417193082032635111 tw14229843747088418641 tw185111719794707290 tw18076200671354760193 tw8856267971642290675 tw9128114747071978949 tw12146707910769038680 tw8563542836684274555 tw15216460830683023554 tw5830649858276207346 tw10516722328782253485 tw920526120283644684 tw8474307315025780486 tw17881383255414269278 tw18255955371873555283 tw18348509211212886750 tw3454496623752910024 tw14951413230831436716 tw10387928873597412093 tw12449288814329207874 tw13291311220302661897 tw1804967737876707834 tw11401336550202818194 tw17150499608193870451 tw16074965628643109168 tw17324297509043856328 tw10609884942118157174 tw15632729038520959416 tw4327063757964241878 tw7631709766569991925 tw12582232137938052215 tw2011782274957071089 tw4957235284647252046 tw5231055579496112971 tw8493989758373169243 tw11372388423596752485 tw1895866465288424629 tw6138444177453317946 tw17422014508242709735 tw9129962745679982747 tw5668565522537755878 tw16954756057635060702 tw11761808764977968244 tw4569354739346558203 tw14084832030115976227 tw11854017728311686368 tw8754168269901535289 tw12731218628334074098 tw6739773972032667682 tw10209801427841422352 tw9656714317179578106 tw17711110622451715879 tw15233816164022017156 tw16118680808999786572 tw17763883709871331268 tw17302086138296587033:True)
open_top hdk12 for PySem.Challenge.rw_rimehold_k12_who_is_where

set_option maxRecDepth 100000 in
set_option maxHeartbeats 0 in
theorem PySem.Challenge.cw_rimehold_k12_who_is_where_holds : PySem.Challenge.rw_rimehold_k12_who_is_where.Holds :=
 hdk12 (by
 k_fill
 refine L2.DL.walk_d (l:=PySem.Challenge.rw_rimehold_k12_who_is_where) (k:=41) (fn:=K12.BT) ⟨rfl,by decide,by decide,rfl⟩ rfl rfl (λw h Y=>PySem.W.kIn_of Y) ?kq_nl (λns h=>K12.law_true ns (by lia)) ?kq_F
 case kq_nl =>
  intro w;kernel_rfl
 case kq_F =>
  intro w mg fa h KX G hmg
  refine' K12.TH KX G hmg ?kq_z0 ?kq_g0 ?kq_y1 ?_ ?_ ?_ ?_ ?_ ?_ ?_ ?_ ?_ ?_ ?_ ?_ ?_ ?_ ?_ ?_ ?_ ?_ ?_ ?_ ?_ ?_ ?_ ?_ ?_ ?_ ?_ ?_ ?_ ?_ ?_ ?_ ?_ ?_ ?_ ?_ ?_ ?_ ?_ ?_ ?_ ?kq_eR ?kq_e0 ?kq_e1 ?kq_e2 ?kq_e3 ?kq_e4 ?kq_e5 ?kq_e6 ?kq_e7 ?kq_e8 ?kq_e9 ?kq_e10 ?kq_e11 ?kq_e12 ?kq_e13 ?kq_e14 ?kq_e15 ?kq_e16 ?kq_zi ?kq_zv ?kq_h1 ?kq_h2 ?kq_h3 ?kq_aW ?kq_lW ?kq_gW ?kq_kW
  (case kq_z0=>kernel_rfl)
  (case kq_g0=>kernel_rfl)
  (case kq_y1=>kernel_rfl)
  (case kq_eR=>k_is)
  (case kq_e0=>k_is)
  (case kq_e1=>k_is)
  (case kq_e2=>k_is)
  (case kq_e3=>k_is)
  (case kq_e4=>k_is)
  (case kq_e5=>k_is)
  (case kq_e6=>k_is)
  (case kq_e7=>k_is)
  (case kq_e8=>k_is)
  (case kq_e9=>k_is)
  (case kq_e10=>k_is)
  (case kq_e11=>k_is)
  (case kq_e12=>k_is)
  (case kq_e13=>k_is)
  (case kq_e14=>k_is)
  (case kq_e15=>k_is)
  (case kq_e16=>k_is)
  (case kq_zi=>k_is)
  (case kq_zv=>k_is)
  (case kq_h1=>kernel_rfl)
  (case kq_h2=>kernel_rfl)
  (case kq_h3=>kernel_rfl)
  (case kq_aW=>k_is)
  (case kq_lW=>k_is)
  (case kq_gW=>k_is)
  (case kq_kW=>k_is)
  any_goals exact L2.DL.dIn_mk (by k_is) (by k_is) (by k_is) (by k_is)
 )
