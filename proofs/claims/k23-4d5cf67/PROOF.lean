import PyProof.Rows.All
import Wide.All
import OpenK.AllK
import Wide.FinOn
import Lean
import PyProof.EqAt
import PyProof.EqKinds
import PyProof.TupleCall
import PyProof.LongRange
import PyProof.Walks
import PyProof.ListMulRoad
import PyProof.ReprRoads
import PyProof.NeData
import PyProof.P3In
import PyProof.ZipIter
import PyProof.Draws
import PyProof.TupleIter
import PyProof.Rows.StrRules
import PyProof.CompUse
import PyProof.ListRange
import KE.KDictLaws
import PyProof.EnumFor
import PyProof.EnumMake
import PyProof.EnumStmt
import PyProof.ConsumeWalk
import KE.KMinKey
import PyProof.ListNew
import PyProof.Rows.SetFrom
import PyProof.WalksMore
import KE.KDictList
import PyProof.DictWalks
import KE.KDictOf
import PySem.Challenge.RW_rimehold_k23_when_it_is_spoilt
set_option Elab.async false
set_option linter.all false
set_option maxRecDepth 100000
set_option maxHeartbeats 4000000
set_option exponentiation.threshold 3000
set_option hygiene false
set_option compiler.extract_closed false
local macro_rules|`(zB)=>`((.d (enc g)))
local macro_rules|`(zA)=>`((fu (fE (d2 af nY (d2 af cC (d2 af fI (d2 af fI (d2 af nY (dV 0) (dC (.int 2147483629))) (d2 af cC (dC (.int 7919)) (dV 2))) zd) (dC (.int 48271))) (dC (.int 2147483647))) (fe 3)) (fu (fE (d2 af nY (d2 af fI (d2 af fI (d2 af cC (dV 3) (dV 3)) (d2 af cC (dC (.int 69621)) (dV 2))) (dC (.int 7))) (dC (.int 2147483587))) (fe 3)) (fE (d2 af fI (d2 af cC (dV 1) (dC (.int 2147483587))) (dV 3)) (fe 1)))))
local macro_rules|`(zz)=>`((m env bx))
local macro_rules|`(zy)=>`((bS rl hold op q.2 ps qs l))
local macro_rules|`(zw)=>`((.ListComp elt [⟨tg,iter,ifs,0⟩] scope pos))
local macro_rules|`(zr)=>`((dC (.int 2)))
local macro_rules|`(zq)=>`((k==NameKind.free&&env.scope.kind==.function&&env.kindOf n==ae .cell))
local macro_rules|`(zp)=>`((.aF h0 l k r p w))
local macro_rules|`(zo)=>`((dC (.int 3)))
local macro_rules|`(zm)=>`((.tup (op.map dP)))
local macro_rules|`(zk)=>`((.lst (gs.map enc)))
local macro_rules|`(zj)=>`((by simp))
local macro_rules|`(zi)=>`((model prog w))
local macro_rules|`(zh)=>`((by simp;lia))
local macro_rules|`(zg)=>`((dC (.int 0)))
local macro_rules|`(zf)=>`((model X.prog X.w))
local macro_rules|`(ze)=>`((by decide))
local macro_rules|`(zd)=>`((dC (.int 1)))
local macro_rules|`(zb)=>`((hs rs ks ps hd))
local macro_rules|`(za)=>`((by lia))
local macro_rules|`(zc)=>`(rfl)
local macro_rules|`(zt)=>`(Prop)
open Lean Parser.Tactic in
def zP:Nat->Syntax->MacroM (TSyntax `rcasesPat)
|0,_=>Macro.throwUnsupported
|n+1,s=>match s with
|`(#[$xs,*])=>do
  let ys<-xs.getElems.mapM fun x=>do`(rcasesPatLo|$(<-zP n x):rcasesPat)
  `(rcasesPat|⟨$ys,*⟩)
|`(_)=>`(rcasesPat|_)
|`($i:ident)=>if i.getId==`rfl then`(rcasesPat|rfl)else`(rcasesPat|$i:ident)
|_=>Macro.throwUnsupported
local macro_rules|`(tactic|let#[$xs,*]:=$e)=>do let p<-zP 9 (<-`(#[$xs,*]));`(tactic|obtain $p:rcasesPat:=$e)
local macro_rules|`(#[$x,$xs,*])=>`(⟨$x,$xs,*⟩)
local macro_rules|`(tactic|erw[$[$r:term],*]$[$l:location]?)=>`(tactic|simp only[$[$r:term],*]$[$l]?)
local macro_rules|`(tactic|ext $[$r:ident]*)=>`(tactic|rename_i $[$r:ident]*)
set_option hygiene true
noncomputable section
local macro_rules|`(tactic|show $a:term)=>`(tactic|exact $a)
variable {a it p:PySem.Addr}{o:PySem.Obj}{u:PySem.Value}{P prog:PySem.Program}{w:PySem.World}{h h' base:PySem.Heap}{x:PySem.Str}{e tg iter:PySem.Expr}{pins:List (PySem.Addr × PySem.Obj)}{t' j n ep:Nat}{ch fp r:List PySem.Addr}{N:List PySem.Str}{M:PySem.Model}{A:PySem.Around}{E Q:PySem.Value -> PySem.Shared -> zt}{t:PySem.SetTable}{α:Type}{R:PySem.Result -> PySem.Shared -> zt}{pos pos' apos:PySem.Pos}{op:PySem.CmpOp}{K:PySem.W.Frag}{st:PySem.Stmt}{es ifs:List PySem.Expr}{vs us:List PySem.Value}{f:PySem.Value -> PySem.Value -> PySem.Sem PySem.Value}{mA mg:PySem.Str -> Option PySem.Value}{fd:PySem.FuncData}{ps:List (Int × Int)}{qy:Array (Option PySem.Value)}{items:Array PySem.Value}{ns rl:List Int}{q:Int × List Int}{XP:(PySem.Str -> Option PySem.Value) -> PySem.Heap -> zt}{cl:Nat -> PySem.Addr}{bo:Bool}{hold:Int}{kl:List (Int × List Int)}
open PySem renaming wpAny_bind->aj,wpAny_pure->aA,sizeLine_eq->bp,wpAny_holding->eQ,wpAny_newObj_type->eR,wpAny_call_entry->eS,wpAny_mono->kO,wpAny_field->kP,mem_of_lookup->nK,wpAny_truthy_bool->pB,strLen_append->pC,wpAny_rule->pW,wpAny_callSpecial?_slot->qz,wpAny_setField->rM,wpAny_Call_Name_kw->uv,codeAny_builtin->uw,wpAny_seqItems->ux,wpAny_setField_rec->uz,wpAny_attempt->uA,wpAny_askSetting->uB,wpAny_typeOf->vf,wpAny_setState_of->vg,wpAny_load->wH,codeAny_mono->wI,not_mem_of_deeper->wJ,wpAny_fieldsOf->wK,wpAny_pyIter_list->yn,wpAny_passesOwn->yo,call_meets->yp,wpAny_newList->yq,tupleKind_room_in1->yr,wpAny_of_eq->yt,wpAny_onRaise->yu,wpAny_pyIter_slot->yw,wpAny_isInstance->yx,intKind_is->yy,wpAny_setEntries_of->yz,wpAny_standAt->EZ,pushCells_keeps->E2,call_meetsIn->E3,wpAny_handled->E4,wpAny_throw->E5,isSubtype_stop->E6,plainId_quiet->E7,wpAny_Name->Qx,wpAny_execs_nil->Qy,concat_meets->Qz,noFill_tuple_add->QA,seq_tuple_add->QB,seqIndex_of->QC,typeIs_int->QD,wpAny_runValue->QE,call_repr_slot->QF,wpAny_updateSeq_pair->QG,wpAny_letGo->QH,wpAny_newTuple->QI,wpAny_pyIter_tuple->QJ,fits_of_scanBound->QK,wpAny_typeNameOfWhole_keyiter->QL,wpAny_typeNameOf_keyiter->QM,wpAny_isOneOf_keyiter->QN,piled_cons->QO,wpAny_eqBool_int->aab,wpAny_loadName_local->aac,wpAny_loadName_cell->aad,wpAny_Compare1->aae,wpAny_isTrue_Compare1->aaf,wpAny_execs_cons->aag,wpAny_assign_Name->aah,wpAny_bindName->aai,wpAny_pyIter_range->aaj,rangeSize_one->aak,intBits_le_64->aal,name_of_addr->aam,wpAny_sequenceKey->aan,wpAny_Slice->aao,wpAny_getItem_list_slice->aap,call_list_seq->aaq,fitsIndex_both->aar,wpAny_alloc->aas,wpAny_comprehension_free->aat,codeAny_compStart_list->aau,wpAny_specialOf->aav,wpAny_Dict_empty->aaw,wpAny_Call_method->aax,tupleText_mem_le->aay,listText_mem_le->aaz,listText_nil->aaA,dictText_mem_le->aaB,wpAny_storeSet_of->aaC,codeAny_of_tree->aaD,sub_set_self->aaE,entryFor_alias->aaF,wpAny_setEpoch_of->aaG,wpAny_updateSeq->aaH,wpAny_pyIter_keyiter->aaI,wpAny_dictEntries->aaJ,wpAny_dictEpoch->aaK
open Nat renaming le_refl->aE,ne_of_lt->cw,le_trans->cx,zero_le->dM,lt_of_lt_of_le->eT,lt_irrefl->hZ,lt_succ_self->k8,le_of_lt->nL,le_succ->pX,lt_succ_of_lt->qA,sub_self->sZ,ne_of_gt->vh,le_of_not_lt->vi,le_of_eq->wL,le_add_right->wM,lt_or_ge->wN,lt_of_le_of_lt->yA,lt_trans->E8,le_succ_of_le->E9,sub_zero->QP,zero_add->QR,min_eq_left->QS,not_lt_zero->QT,lt_or_eq_of_le->QU,le_of_lt_succ->QV,succ_le_succ->aaL,succ_mul->aaM,max_eq_right->aaN,mod_lt->aaO,add_sub_cancel->aaP
open Bool renaming and_eq_true->aI,false_ne_true->c6,eq_iff_iff->kQ,not_eq_true'->tj,or_eq_true->wO,false_and->Ha,false_eq_true->Hb,and_self->Hc,false_or->QW,true_or->aaQ
open List renaming map_cons->aU,length_map->a5,mem_cons_of_mem->bu,mem_cons_self->bC,length_cons->bD,map_map->bJ,size_toArray->bX,length_append->cX,getElem?_eq_getElem->cY,getElem?_append_left->dZ,mem_append_right->eG,getElem?_map->kr,lookup_cons->ku,mem_cons->bq,getElem?_append_right->k9,nil_append->ng,all_eq_true->cZ,mem_of_getElem?->pD,prefix_refl->pE,getElem_mem->pF,mem_append_left->pY,getElem?_set_self->pZ,length_set->p5,length_nil->p6,not_mem_nil->p7,filterMap_cons->qB,append_assoc->qC,map_congr_left->qD,any_cons->rN,getElem?_eq_none->rO,find?_cons->rQ,mem_map_of_mem->rR,getElem?_set_ne->tm,all_cons->tu,filter_cons_of_neg->tF,filter_cons_of_pos->tH,append_nil->uC,zip_cons_cons->vj,all_map->vk,getD_eq_getElem?_getD->vm,forIn_cons->wQ,prefix_append->wR,nodup_append->vn,length_range->wU,ext_getElem?->wV,length_filter_le->wW,eq_nil_of_length_eq_zero->wX,any_eq_true->kz,map_append->wY,exists_cons_of_length_pos->wZ,length_take->yB,forIn_nil->yC,pairwise_map->tJ,mem_map->bA,any_eq_false->Hd,length_drop->He,reverse_cons->Hf,foldl_cons->Hg,cons_append->Hh,mem_singleton->eU,take_length->Hi,filter_cons->Hj,any_map->Hl,take_of_length_le->Hm,mem_filter->rS,mem_of_find?_eq_some->Hn,of_mem_zip->QX,length_replicate->QY,replicate_succ->QZ,nodup_cons->tK,zipIdx_cons->Q0,length_eraseIdx_of_lt->Q3,set_append_left->Q4,find?_some->Q5,find?_isSome->Q6,find?_append->Q7,getElem?_replicate->aaR,getElem?_take_of_lt->aaS,take_sublist->aaT,filterMap_map->aaU,flatten_cons->aaV,length_singleton->aaW,mergeSort_perm->aaX,pairwise_mergeSort->aaY,nodup_nil->aaZ,zipIdx_nil->aa0,forIn_toArray->aa1,map_snd_zip->aa2,mapM_toArray->aa3,getElem_of_mem->aa4,pairwise_lt_range->aa5,zip_nil_left->aa6,range_succ_eq_map->aa7,map_nil->aa8,getElem?_cons_zero->aa9,set_set->aba,map_id->abb,length_zip->abd,find?_map->abe,filter_map->abf,take_append->abg,find?_eq_none->abh,length_flatten->abi,sum_cons->abj,head?_cons->abk,filterMap_nil->abl
open PySem.Heap renaming get?_push_of_some->aW,lt_size->bf,get?_push_size->bE,get?_update_self->rT,size_push->tL,get?_update_other->Ho,get?_none_of_le->Q8,size_update->abm
open Option renaming bind_some->bY,isSome_map->pG,map_some->rV,getD_none->Q9
open PyProof.Rows renaming wpS_bind->cB,wpS_pure->dO,step_dedup->kR,size_push'->uD,listItems_at->xa,wpS_get->xb,wpS_forRange->xc,callWith_type1->Hq,slot_tuple_getitem->xf,listUpdate_at->Hr,mirror_perm->Ht,wpS_reverse->Hu,wpS_mono->Hv,assignInOrder_cons->Xa,tail_any->Xb,kind_sorted->Xc,plain_sorted->Xd,entry_sorted->Xe,args_sorted1->Xf,slot_list_sort->Xg,entry_list_sort->Xh,args_list_sort->Xi,wpS_lift->Xj,wpS_modify->Xk,mem_zip_self->Xl,seqEpoch_at->Xm,pairsOf_size->Xn,assignInOrder_nil->abn,slicePart_none->abo,entry_tuple_getitem->abp,args_tuple_getitem->abq,tupleItemsOf_->abr,subscriptTail_builtinR->abt,get?_update_seq->abu,list_sort_tree->abv,sortedAll_at->abw,sortedAll_old->abx,lt_int->aby,pairsOf_toList->abz,callWith_builtin1->afj
open Array renaming length_toList->nh,getElem?_toList->qH,toList_push->Xo,getElem?_eq_none->Xp,getElem_toList->abA,toList_extract->abB
open Int renaming toNat_natCast->nM,le_refl->uE,mul_one->xg,emod_lt_of_pos->Hw,eq_ofNat_of_zero_le->Hx,emod_nonneg->Xq,mul_ediv_add_emod->Xr,mul_le_mul_of_nonneg_left->Xt,sub_zero->Xu,ediv_nonneg->abC,zero_add->abD,mul_add->abE,lt_or_le->abF,mul_sub->abG
open PySem.Obj renaming data_mapFields->p8,isFreed_of_fields->xh,cls_mapFields->yD
open PySem.W renaming kia_one->qI,kitx_list->abH,kitx_dict->abI,cellsFrom_some->abJ
open PySem.Calls renaming spliced_nil->xi,spliced_cons->xj,callWith_builtin->Xv,evalArgs_plain->Xw,call_function_entry->Xx
open PyProof.Rows.KeyOrd renaming kle_refl->xk,kle_trans->Hy,kle_of_klt->Hz,kle_antisymm->abK
open PySem.F renaming slot_tuple_iterator_next->HC,slot_zip_next->yE,slot_tuple_add->Xy,entry_tuple_add->Xz,args_tuple_add_2->XA,slot_dict_get->XB,plainAttrs_list->XC,slot_int_rmul->abL,slot_dict_delitem->abM,slot_dict_pop->abN,entry_dict_get->abO,args_dict_get_2->abP,plainAttrs_dict->abQ,entry_tuple_iterator_next->abR,args_tuple_iterator_next_1->abS,slot_zip_iter->abT,entry_zip_next->abU,args_zip_next_1->abV,slot_set_iter->abW,plain_list_iadd->abX,slot_dict_iter->abY,slot_dict_keyiterator_next->XD
open PySem.SeqAt.EqAt renaming str_str->XE,int_str->abZ,str_int->ab0,int_int->ab1,none_bool->afk,none_int->afl,none_str->afm,bool_none->afn,bool_bool->afo,bool_int->afp,bool_str->afq,int_none->afr,int_bool->afs,str_none->aft,str_bool->afu
open PySem.PyData renaming shownKv_eq->XF
open PySem.Around renaming under_plainId->XG
open PyProof.Rows.LSm renaming kept_iter->ab2
open PySem.Code renaming quiet_builtin->ab3
open PySem.ReprEntriesK renaming of_two->ab4
open PyProof.Rows.F renaming entry_set_update_loop->ab5,plain_set_update_loop->ab6
open Function renaming comp_def->ab7
open PySem.EqNone renaming eq_none_none->afv,eq_none_bool->afw,eq_none_int->afx,eq_none_str->afy,eq_bool_none->afz,eq_int_none->afA,eq_str_none->afB,ne_none_none->afC,ne_none_bool->afD,ne_none_int->afE,ne_none_str->afF,ne_bool_none->afG,ne_int_none->afH,ne_str_none->afI
open PySem.EqMixed renaming eq_bool_str->afJ,eq_int_str->afK,eq_str_bool->afL,eq_str_int->afM,ne_bool_str->afN,ne_int_str->afO,ne_str_bool->afP,ne_str_int->afQ
open PySem.AutoSeq1 renaming list_extend_list_list_0->afR,sub_tuple_tuple->afS
open PySem.MeetsSeq renaming list_pop_at->afT
open PySem.AutoListH renaming list___mul___list_int_3->afU
open PySem.SeqAt.RcNeAt renaming lists_lengths->afV
open List.Pairwise renaming imp_of_mem->afW
open PySem.SetTable renaming fits_plain_off->afX
open List.Perm renaming append_left->afY,of_eq->afZ
open PySem.SeqAt renaming eqv_refl->af0
open Option renaming some->ae,none->ag
open Bool renaming true->ah,false->af
open PySem renaming Value->ai,Shared->ax,Heap->aK,Addr->ak,Expr->au,Around->eu,Stmt->b9,Program->c7,World->cn,Scope->bT,Pos->aM,Obj->aZ
open PySem PySem.Spec PyProof.Rows
namespace L2
noncomputable abbrev Key:=Sum Int Str
noncomputable def vo:Key->ai->Bool
 |.inl k,v=>Value.isInt k v
 |.inr x,v=>Value.isStrOf x v
noncomputable def af1 (w:cn):Key->Int
 |.inl k=>hashInt k
 |.inr x=>hashStr w x
theorem fZ:∀ {k:Key}{v:ai},vo k v=ah->(∃ i t,k=Sum.inl i /\ v=Value.int i t) \/ (∃ x t,k=Sum.inr x /\ v=Value.str x t)
 | .inl i,v,h=>by
   let#[t,e]:=Value.isInt_shape h;show .inl #[i,t,rfl,e]
 | .inr x,v,h=>by
   let#[t,e]:=Value.isStrOf_shape h;show .inr #[x,t,rfl,e]
theorem Jl (i:Int) (t:Tok):vo (.inl i) (.int i t)=ah:=by simp[vo,Value.isInt]
theorem Jm (x:Str) (t:Tok):vo (.inr x) (.str x t)=ah:=by simp[vo,Value.isStrOf]
theorem Td (a b:Int):decide ((Sum.inl a:Key)=Sum.inl b)=(a==b):=by
 by_cases e:a=b
 .subst e;simp
 .have h:¬ (Sum.inl a:Key)=Sum.inl b:=λq=>e<|Sum.inl.inj q;rw[decide_eq_false h];show(beq_eq_false_iff_ne.mpr e).symm
theorem Te (a b:Str):decide ((Sum.inr a:Key)=Sum.inr b)=decide (a=b):=by
 by_cases e:a=b
 .simp
 .have h:¬ (Sum.inr a:Key)=Sum.inr b:=λq=>e<|Sum.inr.inj q;rw[decide_eq_false h,decide_eq_false e]
theorem Tf (a:Int) (b:Str):decide ((Sum.inl a:Key)=Sum.inr b)=af:=decide_eq_false λq=>nomatch q
theorem Tg (a:Str) (b:Int):decide ((Sum.inr a:Key)=Sum.inl b)=af:=decide_eq_false λq=>nomatch q
def ez (prog:c7) (w:cn):PySem.KeyKind prog w Key where
 is:=vo
 hash:=af1 w
 inj:=λv a b ha hb=>by
  rcases fZ ha with⟨i,t,rfl,rfl⟩|⟨x,t,rfl,rfl⟩
  .rcases fZ hb with⟨j,u,rfl,e⟩|⟨y,u,rfl,e⟩
   .injection e with e1 _;rw[e1]
   .show nomatch e
  .rcases fZ hb with⟨j,u,rfl,e⟩|⟨y,u,rfl,e⟩
   .show nomatch e
   .injection e with e1 _;rw[e1]
 byValue:=λk v h=>by
  rcases fZ h with⟨i,t,rfl,rfl⟩|⟨x,t,rfl,rfl⟩<;>rfl
 pyHash:=λhv h=>by
  rcases fZ hv with⟨i,t,rfl,rfl⟩|⟨x,t,rfl,rfl⟩
  .show wpAny_pyHash_int h
  .show wpAny_pyHash_str h
 eqBool:=λhu hv h=>by
  rcases fZ hu with⟨i,t,rfl,rfl⟩|⟨x,t,rfl,rfl⟩
  .rcases fZ hv with⟨j,u,rfl,rfl⟩|⟨y,u,rfl,rfl⟩
   .rw[Td]at h;show aab h
   .rw[Tf]at h;show abZ i t y u _ _ _ _ h
  .rcases fZ hv with⟨j,u,rfl,rfl⟩|⟨y,u,rfl,rfl⟩
   .rw[Tg]at h;show ab0 x t j u _ _ _ _ h
   .rw[Te]at h;show wpAny_eqBool_str h
 «strs»:=λk x t v h=>by
  rcases fZ h with⟨i,u,rfl,e⟩|⟨y,u,rfl,e⟩
  .show nomatch e
  .injection e with e1 _;subst e1;cases v<;>rfl
theorem C1 (prog:c7) (w:cn) (i:Int) (t:Tok):(ez prog w).is (.inl i) (.int i t)=ah:=Jl i t
theorem C2 (prog:c7) (w:cn) (x:Str) (t:Tok):(ez prog w).is (.inr x) (.str x t)=ah:=Jm x t
end L2
variable {xs:List (List L2.Key × PySem.Addr × PySem.Value)}
namespace L2
inductive V where
 |non|bl (b:Bool)|int (i:Int)|str (x:Str)|pH (b:Array UInt8)|uF (b:UInt64)|ref (a:ak)|ty (n:String)
 deriving DecidableEq
noncomputable def RelV:V->ai->zt
 |.non,u=>u=Value.none
 |.bl b,u=>u=Value.bool b
 |.int i,u=>∃ t,u=Value.int i t
 |.str x,u=>∃ t,u=Value.str x t
 |.pH b,u=>∃ t,u=Value.bytes b t
 |.uF b,u=>∃ t,u=Value.float b t
 |.ref a,u=>u=Value.ref a
 |.ty n,u=>u=Value.type n
abbrev Vals:List V->List ai->zt:=Paired RelV
theorem Vals.length {xs:List V}{us:List ai}(r:Vals xs us):xs.length=us.length:=Paired.length r
theorem Vals.get:∀ {xs:List V}{us:List ai}{i:Nat}{x:V},Vals xs us->xs[i]?=ae x->∃ u,us[i]?=ae u /\ RelV x u
 |_,_,_,_,.nil,e=>by simp at e
 |_,_,0,_,.cons r _,e=>by simp at e;subst e;show#[_,rfl,r]
 | _,_,i+1,x,.cons _ t,e=>by
   let#[u,h1,h2]:=Vals.get t (by simpa using e);show#[u,by simpa using h1,h2]
theorem Vals.set {x:V}{u:ai}(r:RelV x u):∀ {xs:List V}{us:List ai}(i:Nat),Vals xs us->Vals (xs.set i x) (us.set i u)
 |_,_,_,.nil=>.nil
 |_,_,0,.cons _ t=>.cons r t
 |_,_,i+1,.cons q t=>.cons q<|Vals.set r i t
theorem Vals.append:∀ {xs ys:List V}{us ws:List ai},Vals xs us->Vals ys ws->Vals (xs++ys) (us++ws)
 |_,_,_,_,.nil,s=>s
 |_,_,_,_,.cons r t,s=>.cons r<|Vals.append t s
theorem Vals.take:∀ {xs:List V}{us:List ai}(n:Nat),Vals xs us->Vals (xs.take n) (us.take n)
 |_,_,0,_=>.nil
 |_,_,_+1,.nil=>.nil
 |_,_,n+1,.cons r t=>.cons r<|Vals.take n t
theorem Vals.drop:∀ {xs:List V}{us:List ai}(n:Nat),Vals xs us->Vals (xs.drop n) (us.drop n)
 |_,_,0,r=>r
 |_,_,_+1,.nil=>.nil
 |_,_,n+1,.cons _ t=>Vals.drop n t
def nN:Option V->Option ai->zt
 |some v,ae u=>RelV v u
 |none,ag=>True
 |_,_=>False
def KV {κ:Type}:List (κ×V)->List (κ×ai)->zt:=Paired λ(p:κ×V) (q:κ×ai)=>p.1=q.1 /\ RelV p.2 q.2
noncomputable def kV:Key->V
 |.inl i=>.int i
 |.inr x=>.str x
inductive HO where
 /-- a list -/
 |lst (xs:List V)
 /-- a tuple (never changes) -/
 |tup (xs:List V)
 /-- a dict whose keys are ints and texts;one whose keys are tuples of ints and texts (the empty one is both) -/
 |dK (ao:List<|Key×V)|dT (ao:List<|List Key×V)
 /-- a set of ints: its members,its size -/
 |set (S:Int->Bool) (n:Nat)
 /-- an instance of the class at C,its dict at dx,its attributes -/
 |ins (C dx:ak) (fs:List<|Str×V)
 /-- the dict of the instance at x -/
 |own (x:ak)
 /-- the dict of an exception -/
 |xd (fs:List<|Str×V)
 /-- a bound method,f of x -/
 |met (f x:ak)
 /-- a range object lo,lo+1,.. below hi -/
 |XH (lo hi:Int)
 /-- a thing that is known to the object (the akM;a dict while a loop walks it): read,never written while it is so -/
 |bK (o:aZ) (u:HO)
 /-- a code akN table -/
 |uG (ps:Array ai)
 /-- any other thing,by akO is ah of its one object (a def of akP own: akQ a S n:=HO.ext λh=>..) -/
 |ext (φ:aK->zt)
noncomputable abbrev Hp:=ak->Option HO
noncomputable def upd (H:Hp) (a:ak) (o:HO):Hp:=λb=>if b=a then ae o else H b
theorem fA {H:Hp}{o:HO}:upd H a o a=ae o:=by unfold upd;rw[if_pos rfl]
theorem fC {H:Hp}{b:ak}{o:HO}(h:b≠a):upd H a o b=H b:=by unfold upd;rw[if_neg h]
theorem VW {H:Hp}{b:ak}{o u:HO}(h:H a=ae o) (h':H b=ae u) (d:o≠u):a≠b:=by
 intro e;subst e;rw[h]at h';show d<|Option.some.inj h'
theorem f8 {H:Hp}{b:ak}{o:HO}(h:H a=ae o) (h':H b=ag):a≠b:=by
 intro e;subst e;rw[h]at h';cases h'
section
variable (P:c7) (w:cn)
noncomputable def cK (H:Hp) (h:aK) (a:ak):HO->zt
 |.lst xs=>xs.length<=sizeLine /\ ∃ (its:List ai) (n:Nat),Vals xs its /\ h.get? a=ae { cls:=.type "list",data:=.seq its.toArray n }
 |.tup xs=>xs.length<=sizeLine /\ ∃ its:List ai,Vals xs its /\ IsTup h a its.toArray
 |.dK ao=>ao.length<=sizeLine /\ (a==sysModules)=af /\ ∃ vs,KV ao vs /\ h.DictOf (ez P w) a vs
 |.dT ao=>ao.length<=sizeLine /\ (a==sysModules)=af /\ ∃ xs:List (List Key×ak×ai),
  Paired (λ(p:List Key×V) (q:List Key×ak×ai)=>p.1=q.1 /\ H q.2.1=ae (.tup<|p.1.map kV) /\ RelV p.2 q.2.2) ao xs /\
  ∃ o es ep,h.get? a=ae o /\ o.ExactDict /\ o.data=.dict es ep /\ es.toList=xs.map (entryOfKey<|tupleKind<|ez P w) /\ (xs.map (·.1)).Nodup
 |.set S n=>h.SetOf (intKind P w) a S n
 |.ins C dx fs=>H dx=ae (.own a) /\ fs.length<=1000 /\ dx≠a /\ h.get? a=ae (PySem.W.instObj C dx) /\
  ∃ mA,h.Ns1 dx mA /\ (∀ f,nN (fs.lookup f)<|mA f) /\ PySem.Within mA (fs.map (·.1))
 |.own _=>∃ o,h.get? a=ae o
 |.xd fs=>∃ mA,h.Ns1 a mA /\ ∀ f,nN (fs.lookup f) (mA f)
 |.XH lo hi=>∃ t u v,h.get? a=ae { cls:=.type "range",data:=.fields (List.toArray [.int lo t,.int hi u,.int 1 v]) }
 |.bK o u=>h.get? a=ae o /\ cK H h a u
 |.uG ps=>h.get? a=ae { cls:=.none,data:=.fields ps }
 |.met f x=>h.get? a=ae (PySem.W.methodObj (.ref f)<|.ref x)
 |.ext φ=>φ h /\ (∃ o,h.get? a=ae o) /\ ∀ h1 h2:aK,φ h1->(∀ o,h1.get? a=ae o->h2.get? a=ae o)->φ h2
def cG (H:Hp) (h:aK):zt:=∀ a o,H a=ae o->cK P w H h a o
end
section
variable {H H':Hp} {o:HO}
theorem cK.lt (x:cK P w H h a o):a<h.objs.size:=by
 cases o with
 |lst xs=>let#[_,_,_,_,e]:=x;show bf e
 |tup xs=>let#[_,_,_,p]:=x;show p.lt
 |dK ao=>let#[_,_,_,_,o,_,_,e,_]:=x;show bf e
 |dT ao=>let#[_,_,_,_,o,_,_,e,_]:=x;show bf e
 |set S n=>let#[o,_,_,_,e,_]:=x;show bf e
 |ins C dx fs=>let#[_,_,_,e,_]:=x;show bf e
 |own y=>let#[_,e]:=x;show bf e
 |xd fs=>let#[_,#[_,_,_,e,_],_]:=x;show bf e
 |XH lo hi=>let#[_,_,_,e]:=x;show bf e
 |bK ob u=>let#[e,_]:=x;show bf e
 |uG ps=>show bf<|x
 |met f y=>show bf<|x
 |ext φ=>let#[_,#[_,e],_]:=x;show bf e
theorem Paired.XI {α β:Type}{F G:α->β->zt}:∀ {l₁:List α}{l₂:List β},Paired F l₁ l₂->(∀ a b,F a b->G a b)->Paired G l₁ l₂
 |_,_,.nil,_=>.nil
 |_,_,.cons r t,f=>.cons (f _ _ r)<|Paired.XI t f
theorem cK.stay (x:cK P w H h a o) (k:∀ b u,(b=a \/ H b=ae (.own a))->h.get? b=ae u->h'.get? b=ae u)
 (ho:∀ b,H b=ae (.own a)->H' b=ae (.own a)) (ht:∀ b xs,H b=ae (.tup xs)->H' b=ae (.tup xs)):cK P w H' h' a o:=by
 induction o with
 |lst xs=>let#[z,its,n,r,e]:=x;show#[z,its,n,r,k _ _ (.inl zc) e]
 |tup xs=>let#[z,its,r,ob,e,c]:=x;show#[z,its,r,ob,k _ _ (.inl zc) e,c]
 |dK ao=>let#[z,y,vs,r,ob,es,ep,e,c]:=x;show#[z,y,vs,r,ob,es,ep,k _ _ (.inl zc) e,c]
 |dT ao=>
   let#[z,y,xs,r,ob,es,ep,e,c]:=x;show#[z,y,xs,Paired.XI r λp q z=>#[z.1,ht _ _ z.2.1,z.2.2],ob,es,ep,k _ _ (.inl zc) e,c]
 |set S n=>let#[ob,es,ep,t,e,c]:=x;show#[ob,es,ep,t,k _ _ (.inl zc) e,c]
 |ins C dx fs=>
   let#[d,z,ne,e,mA,#[od,es,ep,e2,c],r]:=x;show#[ho _ d,z,ne,k _ _ (.inl zc) e,mA,#[od,es,ep,k _ _ (.inr d) e2,c],r]
 |own y=>let#[ob,e]:=x;show#[ob,k _ _ (.inl zc) e]
 |xd fs=>let#[mA,#[od,es,ep,e,c],r]:=x;show#[mA,#[od,es,ep,k _ _ (.inl zc) e,c],r]
 |XH lo hi=>let#[t,u,v,e]:=x;show#[t,u,v,k _ _ (.inl zc) e]
 |bK ob u ih=>let#[e,q]:=x;show#[k _ _ (.inl zc) e,ih q]
 |uG ps=>
   show k a _ (.inl zc) x
 |met f y=>
   show k a _ (.inl zc) x
 |ext φ=>let#[p,#[o,e],st]:=x;show#[st _ _ p λo q=>k _ _ (.inl zc) q,#[o,k _ _ (.inl zc) e],st]
theorem cG.lt (x:cG P w H h) (e:H a=ae o):a<h.objs.size:=(x a o e).lt
theorem cG.fresh (x:cG P w H h) (e:h.objs.size<=a):H a=ag:=by
 cases q:H a with
 |none=>rfl
 |some u=>show absurd (eT (x.lt q) e)<|hZ _
theorem cG.kept (x:cG P w H h) (k:∀ b u,h.get? b=ae u->h'.get? b=ae u):cG P w H h':=λa o e=>
 (x a o e).stay (λb u _ q=>k b u q) (λ_ q=>q) λ_ _ q=>q
theorem cG.laid (x:cG P w H h) (k:∀ b u,h.get? b=ae u->h'.get? b=ae u) (hp:h.objs.size<=a) (new:cK P w (upd H a o) h' a o):cG P w (upd H a o) h':=λb u e=>by
 have hn:=x.fresh hp;by_cases hb:b=a
 .subst hb;rw[fA]at e;cases e;show new
 .rw[fC hb]at e;show(x b u e).stay (λc v _ q=>k c v q) (λc q=>by rw[fC<|f8 q hn];show q) λc xs q=>by rw[fC<|f8 q hn];show q
end
def Rd (H:Hp) (a:ak) (u:HO):zt:=H a=ae u \/ ∃ o,H a=ae (.bK o u)
theorem Rd.ok {H:Hp}{u:HO}(r:Rd H a u) (x:cG P w H h):cK P w H h a u:=by
 rcases r with r|⟨o,r⟩
 .show x a u r
 .let#[_,q]:=x a _ r;show q
noncomputable def yF:Option HO->zt
 |some (.lst _)=>True
 |some (.dK _)=>True
 |some (.dT _)=>True
 |some (.set _ _)=>True
 |some (.ins _ _ _)=>True
 |some (.ext _)=>True
 |_=>False
section
variable {H:Hp} {x e:ak} {o':HO}
theorem cG.write (ok:cG P w H h) (mu:yF<|H x) (he:e=x \/ H e=ae (.own x)) (k:∀ b u,b≠e->h.get? b=ae u->h'.get? b=ae u) (xl:∃ u,h'.get? e=ae u)
 (new:cK P w (upd H x o') h' x o'):cG P w (upd H x o') h':=λb u q=>by
 have ab8:∀ c y,H c=ae (.own y)->c≠x:=λc y r z=>by subst z;rw[r]at mu;show mu
 have af2:∀ c xs,H c=ae (.tup xs)->c≠x:=λc xs r z=>by subst z;rw[r]at mu;show mu
 by_cases hb:b=x
 .subst hb;rw[fA]at q;cases q;show new
 .rw[fC hb]at q;by_cases vp:b=e
  .have q':H b=ae (.own x):=by
    rcases he with z|z
    .show absurd (vp.trans z) hb
    .rw[vp];show z
   rw[q]at q';cases q';let#[v,hv]:=xl;show#[v,by rw[vp];show hv]
  .refine(ok b u q).stay (λc v hc r=>k c v ?_ r) (λc r=>by rw[fC<|ab8 c b r];show r) λc xs r=>by rw[fC<|af2 c xs r];show r
   rcases hc with rfl|hc
   .show vp
   .rintro rfl;rcases he with z|z
    .show ab8 c b hc z
    .rw[hc]at z;cases z;show hb zc
end
structure Un (fs ex:List ak) (H H':Hp) (h h':aK):zt where
 keep:∀ b o,h.get? b=ae o->H b=ag->b∉fs->b∉ex->h'.get? b=ae o
 slot:∀ b o,h.get? b=ae o->H b=ag->b∈fs->b∉ex->∃ sl,h'.get? b=ae { o with slots:=sl }
 free:∀ b o,h.get? b=ae o->H b=ag->b∉ex->H' b=ag
 there:∀ b o,h.get? b=ae o->b∉ex->∃ o',h'.get? b=ae o'
 nO:∀ b xs,H b=ae (.tup xs)->H' b=ae (.tup xs)
 pI:∀ b o u,H b=ae (.bK o u)->H' b=ae (.bK o u)
 qJ:∀ b ps,H b=ae (.uG ps)->∃ more,H' b=ae (.uG<|ps++more)
section
variable {fs af3 ex akR:List ak} {H H1 H2:Hp} {h1 h2:aK} {x e:ak} {o:HO}
theorem Un.any (u:Un fs ex H H1 h h1) {b:ak}{ob:aZ}(q:h.get? b=ae ob) (n:H b=ag) (hx:b∉ex):∃ sl,h1.get? b=ae { ob with slots:=sl }:=by
 by_cases hb:b∈fs
 .show u.slot b ob q n hb hx
 .show#[ob.slots,u.keep b ob q n hb hx]
theorem Un.kept (k:∀ b u,h.get? b=ae u->h'.get? b=ae u):Un fs ex H H h h' :=
 #[λb ob q _ _ _=>k b ob q,λb ob q _ _ _=>#[ob.slots,k b ob q],λ_ _ _ n _=>n,λb ob q _=>#[ob,k b ob q],λ_ _ q=>q,λ_ _ _ q=>q,λ_ ps q=>#[#[],by rw[q];simp]]
theorem Un.refl:Un fs ex H H h h:=Un.kept λ_ _ q=>q
theorem Un.laid (k:∀ b u,h.get? b=ae u->h'.get? b=ae u) (hp:h.objs.size<=a) (hn:H a=ag):Un fs ex H (upd H a o) h h' where
 keep:=λb u q _ _ _=>k b u q
 slot:=λb u q _ _ _=>#[u.slots,k b u q]
 free:=λb u q n _=>by rw[fC<|cw<|eT (bf q) hp];show n
 there:=λb u q _=>#[u,k b u q]
 nO:=λb xs q=>by rw[fC<|f8 q hn];show q
 pI:=λb u xs q=>by rw[fC<|f8 q hn];show q
 qJ:=λb ps q=>#[#[],by rw[fC<|f8 q hn,q];simp]
theorem Un.write (mu:yF<|H x) (he:e=x \/ H e=ae (.own x)) (k:∀ b u,b≠e->h.get? b=ae u->h'.get? b=ae u) (xl:∃ u,h'.get? e=ae u):Un fs ex H (upd H x o) h h':=by
 have hx:∀ b,H b=ag->b≠x:=λb n z=>by subst z;rw[n]at mu;show mu
 have hb:∀ b,H b=ag->b≠e:=λb n z=>by
  subst z;rcases he with r|r
  .show hx b n r
  .rw[n]at r;cases r
 have hm:∀ b u,H b=ae u->¬ yF (ae u)->b≠x:=λb u q nm z=>by subst z;rw[q]at mu;show nm mu
 refine#[λb u q n _ _=>k b u (hb b n) q,λb u q n _ _=>#[u.slots,k b u (hb b n) q],λb u q n _=>by rw[fC<|hx b n];show n,λb u q _=>?_,
  λb xs q=>by rw[fC<|hm b _ q λz=>z];show q,λb u xs q=>by rw[fC<|hm b _ q λz=>z];show q,λb ps q=>#[#[],by rw[fC<|hm b _ q λz=>z,q];simp]]
 by_cases vp:b=e
 .subst vp;show xl
 .show#[u,k b u vp q]
end
noncomputable def ab9 (h:aK) (H:Hp):List ak:=(List.range h.objs.size).filter λa=>(H a).isSome
def xm (h:aK) (H:Hp):aK:=PySem.W.hideAll h<|ab9 h H
theorem Jn (h:aK) (H:Hp):(xm h H).objs.size=h.objs.size:=PySem.W.hideAll_size _ _
theorem LA {H:Hp}{b:ak}(e:h.get? b=ae o) (n:H b=ag):(xm h H).get? b=ae o:=
 PySem.W.hideAll_get _ e λhm=>by
  have q:=(rS.mp hm).2;rw[n]at q;simp at q
theorem Oo {H:Hp}{b:ak}(e:(xm h H).get? b=ae o):h.get? b=ae o /\ H b=ag:=by
 have e':=PySem.W.of_hideAll _ e;refine#[e',?_];cases q:H b with
 |none=>rfl
 |some x=>
   have hm:b∈ab9 h H:=rS.mpr #[List.mem_range.mpr<|bf e',by simp[q]];have z:(xm h H).get? b=ag:=PySem.W.hideAll_none _ hm;rw[z]at e;cases e
end L2
variable {H H' F F':L2.Hp}{v:L2.V}{ao:List (List L2.Key × L2.V)}
namespace L2
structure Mod (K:PySem.W.Frag) (mg:Str->Option ai) (base:aK):zt where
 XJ:K.In base
 glob:base.Ns mainGlobals mg
 blt:∃ mb,base.Ns builtinsNs mb /\ ∀ x:Str,x ≠ "__name__"->mb x=bootBuiltins x
 nolimit:base.NoLimit
structure Cx where
 prog:c7
 w:cn
 K:PySem.W.Frag
 mg:Str->Option ai
 base:aK
 A:eu
 N:List Str
 s₀:ax
 H₀:Hp
 env:Env
 outer:List Env
 stack:List Env
 ex:List ak
 fn:Str->Bool
 calm:Bool
 pn:List (ak×aZ)
 xe:ai->ax->zt
noncomputable def pJ (l:List Env):List ak:=l.filterMap (·.frame)
abbrev Cx.fs (X:Cx):List ak:=pJ X.outer
def vq (sc:bT) (x:Str):zt:=sc.names.lookup x=ae .local \/ sc.names.lookup x=ae .cell \/ sc.names.lookup x=ae .free
def Loc (sc:bT) (x:Str):zt:=sc.names.lookup x=ae .local \/ sc.names.lookup x=ae .cell
def Look (env:Env) (h:aK) (m:Str->Option ai) (x:Str) (u:ai):zt:=
 (env.kindOf x=ae .local /\ m x=ae u) \/ ((env.kindOf x=ae .cell \/ env.kindOf x=ae .free) /\ ∃ c,env.cells.lookup x=ae c /\ h.IsCell c (ae u))
structure Cx.Ok (X:Cx):zt where
 mod:Mod X.K X.mg X.base
 kind:X.env.scope.kind=.function
 glob:X.env.globals=mainGlobals
 blt:X.env.builtins=builtinsNs
 above:X.s₀.heap.objs.size<=X.env.locals
 inj:∀ x y c,X.env.cells.lookup x=ae c->X.env.cells.lookup y=ae c->x=y
 has:∀ x,(X.env.kindOf x=ae .cell \/ X.env.kindOf x=ae .free)->∃ c,X.env.cells.lookup x=ae c
 yG:∀ x c,X.fn x=ah->X.env.cells.lookup x=ae c->X.s₀.heap.objs.size<=c
 hd:X.calm=ah->X.A.handled=ag
 frames:X.A.frames=ae X.stack
 HD:X.stack=X.outer \/ (X.stack=X.env::X.outer /\ X.env.frame=ae X.env.locals)
 xn:∀ b∈X.ex,b≠X.env.locals /\ ∀ x c,X.env.cells.lookup x=ae c->c≠b
 bs:∀ b o,X.base.get? b=ae o->X.s₀.heap.get? b=ae o /\ X.H₀ b=ag
 vt:X.base.objs.size<=X.s₀.heap.objs.size
 yH:∀ b o,X.base.get? b=ae o->b∉X.ex
 xo:∀ b∈X.ex,b∉X.fs
 qK:X.s₀.heap.FunFrames X.base X.outer
 xp:∀ b∈X.fs,X.H₀ b=ag
structure Inv (X:Cx) (pins:List<|ak×aZ) (σ:List<|Option V) (H:Hp) (s:ax):zt where
 ok:X.Ok
 os:s.os=X.s₀.os
 bare:AllBare s.gens
 base:Un X.fs X.ex X.H₀ H X.s₀.heap s.heap
 loc:∃ m,s.heap.Ns X.env.locals m /\ ∀ (i:Nat) (x:Str) (v:V),X.N[i]?=ae x->σ[i]?=ae (ae v)->vq X.env.scope x->∃ u,RelV v u /\ Look X.env s.heap m x u
 cell:∀ x c,X.env.cells.lookup x=ae c->∃ v,s.heap.IsCell c v
 free:H X.env.locals=ag
 qb:∀ x c,X.env.cells.lookup x=ae c->H c=ag
 pin:∀ p∈X.pn++pins,s.heap.get? p.1=ae p.2 /\ H p.1=ag /\ p.1≠X.env.locals /\ p.1∉X.fs /\ ∀ v,p.2.data≠.cell v
 aD:cG X.prog X.w H s.heap
 len:σ.length=X.N.length
section
variable {X:Cx} {σ:List (Option V)} {s:ax} 
theorem Cx.Ok.af4 (ok:X.Ok) {b:ak}(e:X.base.get? b=ae o):b∉X.fs:=λhb=>by
 have:=(ok.qK.mem hb).1;rw[e]at this;cases this
theorem Inv.bs (I:Inv X pins σ H s):∀ b o,X.base.get? b=ae o->s.heap.get? b=ae o /\ H b=ag:=λb o e=>
 #[I.base.keep b o (I.ok.bs b o e).1 (I.ok.bs b o e).2 (I.ok.af4 e)<|I.ok.yH b o e,I.base.free b o (I.ok.bs b o e).1 (I.ok.bs b o e).2<|I.ok.yH b o e]
theorem Inv.bk (I:Inv X pins σ H s):∀ b o,X.base.get? b=ae o->s.heap.get? b=ae o:=λb o e=>(I.bs b o e).1
theorem Inv.mod (I:Inv X pins σ H s):Mod X.K X.mg X.base:=I.ok.mod
theorem Inv.kA (I:Inv X pins σ H s):X.K.In s.heap:=I.ok.mod.XJ.keeps I.bk
theorem Inv.lt (I:Inv X pins σ H s):X.env.locals<s.heap.objs.size:=let ⟨_,hn,_⟩:=I.loc;hn.lt
theorem Inv.sz (I:Inv X pins σ H s):X.s₀.heap.objs.size<=s.heap.objs.size:=cx I.ok.above<|nL I.lt
theorem Inv.af5 (I:Inv X pins σ H s) (h:s.heap.objs.size<=a):a∉X.fs:=λhb=>by
 let#[_,o,ho,_]:=I.ok.qK.mem hb;show absurd (eT (bf ho)<|cx I.sz h)<|hZ _
theorem Inv.vv (I:Inv X pins σ H s):∀ x c,X.env.cells.lookup x=ae c->c≠X.env.locals:=λx c e z=>by
 let#[v,o,ho,hd]:=I.cell x c e;let#[m,#[o',es,ep,nj,af6,_],_]:=I.loc;rw[z,nj]at ho;cases ho;rw[af6]at hd;cases hd
theorem Inv.qK (I:Inv X pins σ H s):s.heap.FunFrames X.base X.outer:=by
 have all:∀ (l),(∀ b∈pJ l,b∈X.fs)->X.s₀.heap.FunFrames X.base l->s.heap.FunFrames X.base l:=by
  intro l;induction l with
  |nil=>intro _ _;trivial
  |cons env r ih=>
    intro hs hl;let#[hk,#[L,o,hf,hn,ho,hd],hr]:=hl;have hL:=hs L (by unfold pJ;rw[qB,hf];show bC);let#[sl,e]:=I.base.slot L o ho (I.ok.xp L hL) hL λz=>I.ok.xo L z hL;show#[hk,#[L,_,hf,hn,e,hd],ih (λb hb=>hs b (by unfold pJ;rw[qB,hf];show bu _ hb)) hr]
 show all X.outer (λ_ hb=>hb) I.ok.qK
theorem Inv.stack (I:Inv X pins σ H s):s.heap.FunFrames X.base X.stack:=by
 rcases I.ok.HD with e|⟨e,hf⟩
 .rw[e];show I.qK
 .rw[e];let#[m,hn,_]:=I.loc;refine .cons (by rw[I.ok.kind];decide) hf hn ?_ I.qK;show Q8<|cx I.ok.vt I.ok.above
theorem Inv.XM (I:Inv X pins σ H s):∀ b∈pJ X.stack,b∈X.env.locals::X.fs:=λb hb=>by
 rcases I.ok.HD with e|⟨e,hf⟩
 .rw[e]at hb;show bu _ hb
 .rw[e]at hb;unfold pJ at hb;rw[qB,hf]at hb;show hb
theorem Inv.aca (I:Inv X pins σ H s):∀ b∈pJ X.stack,H b=ag:=λb hb=>by
 rcases bq.mp (I.XM b hb) with e|hb
 .rw[e];show I.free
 .let#[_,o,ho,_]:=I.ok.qK.mem hb;show I.base.free b o ho (I.ok.xp b hb) λz=>I.ok.xo b z hb
theorem Inv.step {g':Array GenState}{d':Drawn}(I:Inv X pins σ H s)
 (rW:∀ b∈ch,(b∈X.ex \/ X.s₀.heap.objs.size<=b) /\ b≠X.env.locals /\ (∀ x c,X.env.cells.lookup x=ae c->c≠b) /\ ∀ p∈X.pn++pins,p.1≠b)
 (keep:∀ b o,b≠X.env.locals->b∉X.fs->b∉ch->s.heap.get? b=ae o->H b=ag->h'.get? b=ae o)
 (slot:∀ b o,b≠X.env.locals->b∈X.fs->b∉ch->s.heap.get? b=ae o->H b=ag->∃ sl,h'.get? b=ae { o with slots:=sl }) (free:∀ b o,b∉ch->s.heap.get? b=ae o->H b=ag->H' b=ag)
 (there:∀ b o,b∉ch->s.heap.get? b=ae o->∃ o',h'.get? b=ae o')
 (nO:∀ b xs,H b=ae (.tup xs)->H' b=ae (.tup xs)) (pI:∀ b o u,H b=ae (.bK o u)->H' b=ae (.bK o u)) (qJ:∀ b ps,H b=ae (.uG ps)->∃ more,H' b=ae (.uG<|ps++more))
 (ns:∀ m,s.heap.Ns X.env.locals m->h'.Ns X.env.locals m) (aD:cG X.prog X.w H' h') (hg:AllBare g') :
 Inv X pins σ H' { s with heap:=h',gens:=g',drawn:=d',toks:=t' }:=by
 have acb:∀ b o,X.s₀.heap.get? b=ae o->b≠X.env.locals:=λb o e=>cw<|eT (bf e) I.ok.above;have qf:∀ b o,X.s₀.heap.get? b=ae o->b∉X.ex->b∉ch:=λb o e hx hb=>by
  rcases(rW b hb).1 with z|z
  .show hx z
  .show absurd (eT (bf e) z)<|hZ _
 have cellK:∀ x c,X.env.cells.lookup x=ae c->∀ v,s.heap.IsCell c v->h'.IsCell c v:=λx c e v ⟨o,ho,hd⟩=>by
  have qL:=λz=>(rW c z).2.2.1 x c e zc;by_cases hc:c∈X.fs
  .let#[sl,q]:=slot c o (I.vv x c e) hc qL ho<|I.qb x c e;show#[_,q,hd]
  .show#[o,keep c o (I.vv x c e) hc qL ho<|I.qb x c e,hd]
 refine#[I.ok,I.os,hg,#[λb o e n hb hx=>?_,λb o e n hb hx=>?_,λb o e n hx=>?_,λb o e hx=>?_,λb xs e=>nO b xs<|I.base.nO b xs e,λb o xs e=>pI b o xs<|I.base.pI b o xs e,λb ps e=>?_],?_,λx c e=>?_,?_,λx c e=>?_,λp hp=>?_,aD,I.len]
 .show keep b o (acb b o e) hb (qf b o e hx) (I.base.keep b o e n hb hx)<|I.base.free b o e n hx
 .let#[sl,e1]:=I.base.slot b o e n hb hx;let#[af7,e2]:=slot b _ (acb b o e) hb (qf b o e hx) e1<|I.base.free b o e n hx;show#[af7,e2]
 .let#[o',e1]:=I.base.there b o e hx;show free b o' (qf b o e hx) e1<|I.base.free b o e n hx
 .let#[o',e1]:=I.base.there b o e hx;show there b o' (qf b o e hx) e1
 .let#[m1,e1]:=I.base.qJ b ps e;let#[m2,e2]:=qJ b _ e1;show#[m1++m2,by rw[e2,Array.append_assoc]]
 .let#[m,hn,hl]:=I.loc;refine#[m,ns m hn,λi x v e1 e2 e3=>?_];let#[u,r,l]:=hl i x v e1 e2 e3;refine#[u,r,?_];rcases l with l|⟨k,c,e,z⟩
  .show .inl l
  .show .inr #[k,c,e,cellK x c e _ z]
 .let#[v,z]:=I.cell x c e;show#[v,cellK x c e v z]
 .let#[m,#[o,_,_,ho,_],_]:=I.loc;show free _ o (λz=>(rW _ z).2.1 zc) ho I.free
 .let#[v,o,ho,hd]:=I.cell x c e;show free c o (λz=>(rW c z).2.2.1 x c e zc) ho<|I.qb x c e
 .let#[e,n,ne,nf,d]:=I.pin p hp;have qL:=λz=>(rW p.1 z).2.2.2 p hp zc;show#[keep p.1 p.2 ne nf qL e n,free p.1 p.2 qL e n,ne,nf,d]
theorem Inv.un (I:Inv X pins σ H s) (u:Un X.fs [] H H' s.heap h') (aD:cG X.prog X.w H' h'):Inv X pins σ H' { s with heap:=h',toks:=t' }:=by
 let#[m,#[o,es,ep,ho,r],_]:=id I.loc;let#[sl,hL]:=u.any ho I.free zj;show I.step (ch:=[]) (λ_ z=>nomatch z) (λb o _ hb _ e n=>u.keep b o e n hb zj) (λb o _ hb _ e n=>u.slot b o e n hb zj) (λb o _ e n=>u.free b o e n zj) (λb o _ e=>u.there b o e zj) u.nO u.pI u.qJ (λm' hm=>by
  let#[o',es',rX,nj,r']:=hm;rw[ho]at nj;cases nj;show#[_,es',rX,hL,r']) aD I.bare
theorem Inv.call {g':Array GenState}{d':Drawn}(I:Inv X pins σ H s) (u:Un (pJ X.stack) ch H H' s.heap h') (aD:cG X.prog X.w H' h') (hg:AllBare g')
 (rW:∀ b∈ch,(b∈X.ex \/ X.s₀.heap.objs.size<=b) /\ b≠X.env.locals /\ (∀ x c,X.env.cells.lookup x=ae c->c≠b) /\ ∀ p∈X.pn++pins,p.1≠b) :
 Inv X pins σ H' { s with heap:=h',gens:=g',drawn:=d',toks:=t' }:=by
 let#[m,#[o,es,ep,ho,r],_]:=id I.loc;let#[sl,hL]:=u.any ho I.free λz=>(rW _ z).2.1 zc;show I.step rW (λb o hL hb hc e n=>u.keep b o e n (λz=>(bq.mp<|I.XM b z).elim hL hb) hc) (λb o _ _ hc e n=>u.any e n hc) (λb o hc e n=>u.free b o e n hc) (λb o hc e=>u.there b o e hc) u.nO u.pI u.qJ (λm' hm=>by
  let#[o',es',rX,nj,r']:=hm;rw[ho]at nj;cases nj;show#[_,es',rX,hL,r']) aD hg
theorem Inv.turned (I:Inv X pins σ H s) (k:∀ b o,b≠it->s.heap.get? b=ae o->h'.get? b=ae o) (hn:H it=ag) (hL:it≠X.env.locals)
 (h1:it∈X.ex \/ X.s₀.heap.objs.size<=it) (h2:∀ x c,X.env.cells.lookup x=ae c->c≠it) (h3:∀ p∈X.pn++pins,p.1≠it):Inv X pins σ H { s with heap:=h',toks:=t' }:=by
 have acd:∀ b u,H b=ae u->b≠it:=λb u e z=>by rw[z,hn]at e;cases e
 refine I.step (ch:=[it]) (λb hb=>?_) (λb o _ _ hc e _=>k b o (λz=>hc (by simp[z])) e) (λb o _ _ hc e _=>#[o.slots,k b o (λz=>hc (by simp[z])) e]) (λ_ _ _ _ n=>n)
  (λb o hc e=>#[o,k b o (λz=>hc (by simp[z])) e]) (λ_ _ e=>e) (λ_ _ _ e=>e) (λb ps e=>#[#[],by rw[e];simp]) (λm hm=>?_) (λb u e=>?_) I.bare
 .have e:b=it:=by simpa using hb
  subst e;show#[h1,hL,h2,h3]
 .let#[o,es,ep,ho,r]:=hm;show#[o,es,ep,k _ o (Ne.symm hL) ho,r]
 .refine(I.aD b u e).stay (λc v hc q=>k c v ?_ q) (λ_ q=>q) λ_ _ q=>q;rcases hc with z|z
  .rw[z];show acd b u e
  .show acd c _ z
theorem Inv.tok (I:Inv X pins σ H s) (t:Nat):Inv X pins σ H { s with toks:=t }:=I.un Un.refl I.aD
theorem Inv.kept {t':Nat}(I:Inv X pins σ H s) (k:∀ b u,s.heap.get? b=ae u->h'.get? b=ae u):Inv X pins σ H { s with heap:=h',toks:=t' }:=I.un (Un.kept k)<|I.aD.kept k
theorem Inv.laid {a:ak}{o:HO}{t':Nat}(I:Inv X pins σ H s) (k:∀ b u,s.heap.get? b=ae u->h'.get? b=ae u) (hp:s.heap.objs.size<=a) (new:cK X.prog X.w (upd H a o) h' a o) :
 Inv X pins σ (upd H a o) { s with heap:=h',toks:=t' }:=I.un (Un.laid k hp<|I.aD.fresh hp)<|I.aD.laid k hp new
theorem Inv.write {x e:ak}{o:HO}{t':Nat}(I:Inv X pins σ H s) (mu:yF<|H x) (he:e=x \/ H e=ae (.own x)) (k:∀ b u,b≠e->s.heap.get? b=ae u->h'.get? b=ae u) (xl:∃ u,h'.get? e=ae u)
 (new:cK X.prog X.w (upd H x o) h' x o):Inv X pins σ (upd H x o) { s with heap:=h',toks:=t' }:=I.un (Un.write mu he k xl)<|I.aD.write mu he k xl new
theorem Inv.ace {acf:List (ak×aZ)}(I:Inv X pins σ H s) (h:∀ p∈acf,s.heap.get? p.1=ae p.2 /\ H p.1=ag /\ p.1≠X.env.locals /\ p.1∉X.fs /\ ∀ v,p.2.data≠.cell v):Inv X acf σ H s:=
 #[I.ok,I.os,I.bare,I.base,I.loc,I.cell,I.free,I.qb,λp hp=>(List.mem_append.mp hp).elim (λz=>I.pin p<|pY _ z)<|h p,I.aD,I.len]
theorem C3 (hN:N.Nodup) {i:Nat}(a:N[i]?=ae x) (b:N[j]?=ae x):i=j:=by
 let#[h1,e1]:=List.getElem?_eq_some_iff.mp a;let#[h2,e2]:=List.getElem?_eq_some_iff.mp b;show(List.getElem_inj hN).mp (e1.trans e2.symm)
theorem BJ {i:Nat}{Q:Unit->ax->zt}(I:Inv X pins σ H s) (hN:X.N.Nodup) (hi:X.N[i]?=ae x) (hx:Loc X.env.scope x) (r:RelV v u)
 (h:∀ s',Inv X pins (σ.set i<|ae v) H s'->(∃ a,Heap.SameBut a s.heap s'.heap /\ (a=X.env.locals \/ X.env.cells.lookup x=ae a))->Q () s') (hf:X.fn x=ah \/ X.env.scope.names.lookup x=ae .local:=by first|show .inl zc|show .inr zc|assumption):wpAny M A (storeName X.env x u) Q E s:=by
 let#[m,hn,hl]:=id I.loc;have af8:(X.env.scope.kind==.class||(X.env.scope.kind==.module&&X.env.locals != X.env.globals))=af:=by rw[I.ok.kind];rfl
 have acg:i<σ.length:=by rw[I.len];show(List.getElem?_eq_some_iff.mp hi).1
 have vv:=I.vv;have tracked:∀ {a}{h'},(∃ o,s.heap.get? a=ae o /\ H a=ag)->Heap.SameBut a s.heap h'->cG X.prog X.w H h':=λ{a h'} ha hs b ob e=>by
  let#[_,_,ach]:=ha;refine(I.aD b ob e).stay (λc w' hc q=>(hs.2 c ?_).trans q) (λ_ q=>q) λ_ _ q=>q;rintro rfl;rcases hc with rfl|hc
  .rw[ach]at e;cases e
  .rw[ach]at hc;cases hc
 rcases hx with hk|hk
 .refine wpAny_storeName_local hk hn (λh' af9 hs=>?_) af8;let#[oL,_,_,HE,_]:=id hn;refine h _ #[I.ok,I.os,I.bare,#[λb o e n hb hx=>?_,λb o e n hb hx=>?_,I.base.free,λb o e hx=>?_,I.base.nO,I.base.pI,I.base.qJ],#[_,af9,λj y v' e1 e2 e3=>?_],λy c e=>?_,I.free,I.qb,λp hp=>?_,tracked #[oL,HE,I.free] hs,by simpa using I.len] #[_,hs,.inl zc]
  .show(hs.2 b<|cw<|eT (bf e) I.ok.above).trans (I.base.keep b o e n hb hx)
  .let#[sl,e1]:=I.base.slot b o e n hb hx;show#[sl,(hs.2 b<|cw<|eT (bf e) I.ok.above).trans e1]
  .let#[o',e1]:=I.base.there b o e hx;show#[o',(hs.2 b<|cw<|eT (bf e) I.ok.above).trans e1]
  .by_cases hj:j=i
   .subst hj;rw[hi]at e1;cases e1;rw[pZ acg]at e2;cases e2;show#[u,r,.inl #[hk,by simp]]
   .rw[tm<|Ne.symm hj]at e2;let#[u',r',q]:=hl j y v' e1 e2 e3;refine#[u',r',?_];rcases q with⟨k,e⟩|⟨k,c,e,z⟩
    .refine .inl #[k,?_];have:y≠x:=λe=>hj<|C3 hN e1<|e▸hi;simp[this,e]
    .show .inr #[k,c,e,z.sameBut hs<|vv y c e]
  .let#[w',z]:=I.cell y c e;show#[w',z.sameBut hs<|vv y c e]
  .let#[e,n,ne,nf,d]:=I.pin p hp;show#[(hs.2 p.1 ne).trans e,n,ne,nf,d]
 .have XO:X.fn x=ah:=by
   rcases hf with z|z
   .show z
   .rw[z]at hk;cases hk
  let#[c,hc]:=I.ok.has x<|.inl hk;let#[w',z]:=I.cell x c hc;refine wpAny_storeName_cell I.ok.kind hk hc z λh' aci hs=>?_;let#[oc,acj,aga]:=id z;refine h { s with heap:=h' } #[I.ok,I.os,I.bare,#[λb o e n hb hx=>?_,λb o e n hb hx=>?_,I.base.free,λb o e hx=>?_,I.base.nO,I.base.pI,I.base.qJ],#[m,hn.sameBut hs<|Ne.symm<|vv x c hc,λj y v' e1 e2 e3=>?_],λy c' e=>?_,I.free,I.qb,λp hp=>?_,tracked #[oc,acj,I.qb x c hc] hs,by simpa using I.len] #[c,hs,.inr hc]
  .show(hs.2 b<|cw<|eT (bf e)<|I.ok.yG x c XO hc).trans (I.base.keep b o e n hb hx)
  .let#[sl,e1]:=I.base.slot b o e n hb hx;show#[sl,(hs.2 b<|cw<|eT (bf e)<|I.ok.yG x c XO hc).trans e1]
  .let#[o',e1]:=I.base.there b o e hx;show#[o',(hs.2 b<|cw<|eT (bf e)<|I.ok.yG x c XO hc).trans e1]
  .by_cases hj:j=i
   .subst hj;rw[hi]at e1;cases e1;rw[pZ acg]at e2;cases e2;show#[u,r,.inr #[.inl hk,c,hc,aci]]
   .rw[tm<|Ne.symm hj]at e2;let#[u',r',q]:=hl j y v' e1 e2 e3;refine#[u',r',?_];rcases q with q|⟨k,c',e,z'⟩
    .show .inl q
    .refine .inr #[k,c',e,z'.sameBut hs ?_];rintro rfl;show hj<|C3 hN e1<|I.ok.inj _ _ _ e hc▸hi
  .by_cases dD:c'=c
   .subst dD;show#[_,aci]
   .let#[w2,z2]:=I.cell y c' e;show#[w2,z2.sameBut hs dD]
  .let#[e,n,ne,nf,d]:=I.pin p hp;refine#[(hs.2 p.1 ?_).trans e,n,ne,nf,d];intro q;rw[q,acj]at e;show d w' (by rw[<-(Option.some.inj e)];show aga)
theorem lj {i:Nat}{Q:Unit->ax->zt}(I:Inv X pins σ H s) (hN:X.N.Nodup) (hi:X.N[i]?=ae x) (hx:Loc X.env.scope x) (r:RelV v u)
 (h:∀ s',Inv X pins (σ.set i<|ae v) H s'->Q () s') (hf:X.fn x=ah \/ X.env.scope.names.lookup x=ae .local:=by first|show .inl zc|show .inr zc|assumption):wpAny M A (storeName X.env x u) Q E s:=
 BJ I hN hi hx r (λs' I' _=>h s' I') hf
theorem Inv.ack {s':ax}(I:Inv X pins σ H s) (ho:s'.os=s.os) (u:Un (pJ X.stack) ch H H' s.heap s'.heap) (aD:cG X.prog X.w H' s'.heap) (hg:AllBare s'.gens)
 (rW:∀ b∈ch,(b∈X.ex \/ X.s₀.heap.objs.size<=b) /\ b≠X.env.locals /\ (∀ x c,X.env.cells.lookup x=ae c->c≠b) /\ ∀ p∈X.pn++pins,p.1≠b):Inv X pins σ H' s':=by
 let#[h',g',d',t',o']:=s';subst ho;show I.call u aD hg rW
end
abbrev XK:=ai->Option ak->Hp->zt
noncomputable abbrev St:=List<|Option V
abbrev VK:=V->Hp->zt
abbrev TE:=St->Hp->VK->zt
abbrev TT:=St->Hp->(Bool->Hp->zt)->zt
abbrev TA:=St->Hp->(List V->Hp->zt)->zt
structure Ends where
 nx:St->Hp->zt
 rt:VK
 bk:St->Hp->zt:=λ_ _=>False
 ct:St->Hp->zt:=λ_ _=>False
abbrev TS:=Ends->St->Hp->zt
def EP (X:Cx) (pins:List<|ak×aZ) (σ:St) (Q:VK) (u:ai) (s':ax):zt:=∃ v H',Inv X pins σ H' s' /\ RelV v u /\ Q v H'
def TP (X:Cx) (pins:List<|ak×aZ) (σ:St) (Q:Bool->Hp->zt) (b:Bool) (s':ax):zt:=∃ H',Inv X pins σ H' s' /\ Q b H'
def AP (X:Cx) (pins:List<|ak×aZ) (σ:St) (Q:List V->Hp->zt) (us:List ai) (s':ax):zt:=∃ vs H',Inv X pins σ H' s' /\ Vals vs us /\ Q vs H'
def SP (X:Cx) (pins:List<|ak×aZ) (D:Ends) (f:Flow) (s':ax):zt:=
 match f with
 |.next=>∃ σ' H',Inv X pins σ' H' s' /\ D.nx σ' H'
 |.brk=>∃ σ' H',Inv X pins σ' H' s' /\ D.bk σ' H'
 |.cont=>∃ σ' H',Inv X pins σ' H' s' /\ D.ct σ' H'
 |.ret u=>∃ v σ' H',Inv X pins σ' H' s' /\ RelV v u /\ D.rt v H'
def PE (X:Cx) (e:au) (t:TE):zt:=
 ∀ (pins:List<|ak×aZ) (s:ax) (σ:St) (H:Hp) (Q:VK),Inv X pins σ H s->t σ H Q->wpAny zf X.A (eval e X.env) (EP X pins σ Q) X.xe s
def PT (X:Cx) (e:au) (t:TT):zt:=
 ∀ (pins:List<|ak×aZ) (s:ax) (σ:St) (H:Hp) (Q:Bool->Hp->zt),Inv X pins σ H s->t σ H Q->wpAny zf X.A (isTrue e X.env<|eval e X.env) (TP X pins σ Q) X.xe s
def PW (X:Cx) (e:au) (t:TT):zt:=
 ∀ (whole:Sem ai) (pins:List<|ak×aZ) (s:ax) (σ:St) (H:Hp) (Q:Bool->Hp->zt),Inv X pins σ H s->t σ H Q->wpAny zf X.A (isTrue e X.env whole) (TP X pins σ Q) X.xe s
theorem PW.pt {X:Cx}{t:TT}(h:PW X e t):PT X e t:=h _
def PA (X:Cx) (es:List au) (t:TA):zt:=
 ∀ (pos:aM) (pins:List<|ak×aZ) (s:ax) (σ:St) (H:Hp) (Q:List V->Hp->zt),Inv X pins σ H s->t σ H Q->wpAny zf X.A (spliced<|backTo pos<|starEach es X.env) (AP X pins σ Q) X.xe s
def PS (X:Cx) (st:b9) (t:TS):zt:=
 ∀ (pins:List<|ak×aZ) (s:ax) (σ:St) (H:Hp) (D:Ends),Inv X pins σ H s->t D σ H->wpAny zf X.A (exec st X.env) (SP X pins D) X.xe s
def kg (X:Cx) (st:List b9) (t:TS):zt:=
 ∀ (pins:List<|ak×aZ) (s:ax) (σ:St) (H:Hp) (D:Ends),Inv X pins σ H s->t D σ H->wpAny zf X.A (execs st X.env) (SP X pins D) X.xe s
theorem cb {t:Sem α}{Q Q':α->ax->zt}{s:ax}(h:wpAny M A t Q E s) (hQ:∀ a s,Q a s->Q' a s):wpAny M A t Q' E s:=kO h hQ λ_ _ x=>x
theorem tE {X:Cx}{σ:St}{Q:VK}{t:Sem ai}{Q':ai->ax->zt}{s:ax}(h:wpAny M A t (EP X pins σ Q) E s) (k:∀ v s x H,Inv X pins σ H s->RelV x v->Q x H->Q' v s):wpAny M A t Q' E s:=cb h λv s ⟨x,H,I,r,q⟩=>k v s x H I r q
theorem tA {X:Cx}{σ:St}{Q:List V->Hp->zt}{t:Sem (List ai)}{Q':List ai->ax->zt}{s:ax}(h:wpAny M A t (AP X pins σ Q) E s) (k:∀ v s x H,Inv X pins σ H s->Vals x v->Q x H->Q' v s):wpAny M A t Q' E s:=cb h λv s ⟨x,H,I,r,q⟩=>k v s x H I r q
theorem tP {β:Type}{X:Cx}{σ:St}{Q:β->Hp->zt}{R:β->α->zt}{t:Sem α}{Q':α->ax->zt}{s:ax}(h:wpAny M A t (λv s=>∃ x H,Inv X pins σ H s /\ R x v /\ Q x H) E s) (k:∀ v s x H,Inv X pins σ H s->R x v->Q x H->Q' v s):wpAny M A t Q' E s:=cb h λv s ⟨x,H,I,r,q⟩=>k v s x H I r q
theorem tT {X:Cx}{σ:St}{Q:Bool->Hp->zt}{t:Sem Bool}{Q':Bool->ax->zt}{s:ax}(h:wpAny M A t (TP X pins σ Q) E s) (k:∀ v s H,Inv X pins σ H s->Q v H->Q' v s):wpAny M A t Q' E s:=cb h λv s ⟨H,I,q⟩=>k v s H I q
end L2
variable {X:L2.Cx}{σ:L2.St}
namespace L2
section
def agb (i:Nat):TE:=λσ H Q=>∃ v,σ[i]?=ae (ae v) /\ Q v H
def tC (v:V):TE:=λ_ H Q=>Q v H
theorem LB {i:Nat}(hN:X.N[i]?=ae x) (hv:vq X.env.scope x) (hd:(x==("__debug__":Str))=af:=by decide) (pK:(x==("__classdict__":Str))=af:=by decide):PE X (.Name x pos) (agb i):=by
 intro pins s σ H Q I h;let#[v,e,h]:=h;let#[m,hn,hl]:=I.loc;let#[u,r,l]:=hl i x v hN e hv;have fin:EP X pins σ Q u s:=#[v,H,I,r,h];rcases l with⟨hk,hm⟩|⟨hk,c,hc,xq⟩
 .show Qx (aac I.ok.kind hk hn hm fin) hd
 .rcases hk with hk|hk
  .show Qx (aad I.ok.kind hk hc xq fin) hd
  .show Qx (wpAny_loadName_free I.ok.kind hk hc xq fin pK) hd
theorem LC {i j pos}:PE X (.Constant (.int i) j pos) (tC<|.int i):=λ_ _ _ H _ I h=>wpAny_Constant_int #[.int i,H,I.tok _,#[_,rfl],h]
theorem VX {b j pos}:PE X (.Constant (.bool b) j pos) (tC<|.bl b):=λ_ _ _ H _ I h=>Constant_bool #[.bl b,H,I,rfl,h]
theorem Th {j pos}:PE X (.Constant .none j pos) (tC .non):=λ_ _ _ H _ I h=>Constant_none #[.non,H,I,rfl,h]
theorem Ax {x j pos}:PE X (.Constant (.str x) j pos) (tC<|.str x):=λ_ _ _ H _ I h=>Calls.Constant_str #[.str x,H,I.tok _,#[_,rfl],h]
def Gl (X:Cx) (x:Str):zt:=X.env.kindOf x=ae .globalImplicit
theorem Gg {s:ax}(I:Inv X pins σ H s) (hg:Gl X x) (hm:X.mg x=ae u) (h:Q u s)
 (hd:(x==("__debug__":Str))=af:=by decide):wpAny zf X.A (eval (.Name x pos) X.env) Q E s:=
 Calls.Name_function_global I.ok.kind hg (Calls.loadGlobal_global (by rw[I.ok.glob];show I.mod.glob.keeps I.bk) hm h) hd
theorem jx {s:ax}(I:Inv X pins σ H s) (hg:Gl X x) (hm:X.mg x=ag) (hv:bootBuiltins x=ae u) (h:Q u s)
 (hn:x ≠ "__name__":=by decide) (hd:(x==("__debug__":Str))=af:=by decide):wpAny zf X.A (eval (.Name x pos) X.env) Q E s:=by
 let#[mb,h1,h2]:=I.mod.blt;show Calls.Name_function_global I.ok.kind hg (Calls.loadGlobal_builtin (by rw[I.ok.glob];show I.mod.glob.keeps I.bk) hm (by rw[I.ok.blt];show h1.keeps I.bk) ((h2 x hn).trans hv) h) hd
theorem Op (hg:Gl X x) (hm:X.mg x=ae u) (r:RelV v u) (hd:(x==("__debug__":Str))=af:=by decide):PE X (.Name x pos) (tC v):=
 λ_ _ _ H _ I h=>Gg I hg hm #[v,H,I,r,h] hd
theorem Oq (hg:Gl X x) (hm:X.mg x=ag) (hv:bootBuiltins x=ae u) (r:RelV v u) (hn:x ≠ "__name__":=by decide) (hd:(x==("__debug__":Str))=af:=by decide):PE X (.Name x pos) (tC v):=
 λ_ _ _ H _ I h=>jx I hg hm hv #[v,H,I,r,h] hn hd
variable {a b:au} {ta tb:TE} 
def PC (X:Cx) (op:CmpOp) (a b:au) (t:TE):zt:=
 ∀ (pins:List<|ak×aZ) (s:ax) (σ:St) (H:Hp) (Q:VK),Inv X pins σ H s->t σ H Q ->
  wpAny zf X.A (eval a X.env) (λv s₁=>wpAny zf X.A (eval b X.env) (λu s₂=>wpAny zf X.A (compareOp op v u) (EP X pins σ Q) X.xe s₂) X.xe s₁) X.xe s
theorem acm (b:au) (h:op≠.In) (h2:op≠.NotIn):behindInMarks op b=af:=by
 have e1:(op==CmpOp.In)=af:=by cases op<;>first|rfl|show absurd zc h
 have e2:(op==CmpOp.NotIn)=af:=by cases op<;>first|rfl|show absurd zc h2
 cases b<;>simp[behindInMarks,e1,e2]
def acn (ta:TE):TE:=λσ H Q=>ta σ H λx H1=>Q (.bl<|decide (x=.non)) H1
def aco (ta:TE):TE:=λσ H Q=>ta σ H λx H1=>Q (.bl<|!decide (x=.non)) H1
theorem RelV.acp {x:V}{v:ai}(r:RelV x v):(v==Value.none)=decide (x=.non):=by
 cases x with
 |int _=>let#[t,rfl]:=r;rfl
 |str _=>let#[t,rfl]:=r;rfl
 |pH _=>let#[t,rfl]:=r;rfl
 |uF _=>let#[t,rfl]:=r;rfl
 |_=>cases r;rfl
theorem LD {j pos'}(ha:PE X a ta):PC X .Is a (.Constant .none j pos') (acn ta):=by
 intro pins s σ H Q I h;refine tE (ha pins s σ H _ I h) λv s1 x H1 I1 r1 q1=>?_;show Constant_none (is_none_gen #[.bl _,H1,I1,by rw[r1.acp];rfl,q1])
theorem Gh {j pos'}(ha:PE X a ta):PC X .IsNot a (.Constant .none j pos') (aco ta):=by
 intro pins s σ H Q I h;refine tE (ha pins s σ H _ I h) λv s1 x H1 I1 r1 q1=>?_;show Constant_none (isnot_none_gen #[.bl _,H1,I1,by rw[r1.acp];rfl,q1])
noncomputable def tB (t:TE):TT:=λσ H Q=>t σ H λx H1=>∃ c,x=.bl c /\ Q c H1
theorem Ay {t:TE}(h:PC X op a b t) (h1:behindInMarks op b=af:=by first|show acm _ (by decide) (by decide)|rfl):PE X (.Compare a [op] [b] pos) t:=λpins s σ H Q I hw=>aae (h pins s σ H Q I hw) h1
theorem Cg {t:TE}(h:PC X op a b t) (h1:behindInMarks op b=af:=by first|show acm _ ze ze|rfl):PT X (.Compare a [op] [b] pos) (tB t):=by
 intro pins s σ H Q I hw;refine aaf (cb (h pins s σ H _ I hw) λv s1 h1=>cb h1 λu s2 h2=>tE h2 λc s3 x H1 I1 r1 q1=>?_) h1;let#[d,rfl,q]:=q1;cases r1;show pB #[H1,I1,q]
theorem Ti {t:TE}(h:PE X e t) (he:∀ whole,isTrue e X.env whole=(do let v <-whole;standAt e.pos;holding [v] (truthy v)):=by intro _;rfl):PT X e (tB t):=by
 intro pins s σ H Q I hw;refine isTrue_plain (tE (h pins s σ H _ I hw) λv s1 x H1 I1 r1 q1=>?_)<|he _;let#[d,rfl,q]:=q1;cases r1;show pB #[H1,I1,q]
variable {tA HF:TT} {rest:List au}
noncomputable def agc (t u:TT):TT:=λσ H Q=>t σ H λc H1=>if c=ah then u σ H1 Q else Q af H1
noncomputable def agd (t u:TT):TT:=λσ H Q=>t σ H λc H1=>if c=ah then Q ah H1 else u σ H1 Q
noncomputable def age (t:TT):TT:=λσ H Q=>t σ H λc H1=>Q (!c) H1
theorem Os (ha:PT X a tA):PW X (.BoolOp .And [a] pos) tA:=by
 intro wh pins s σ H Q I h;refine isTrue_and<|cb (ha pins s σ H Q I h) λc s1 e=>?_;cases c with
 |true=>show isTrue_and_nil e
 |false=>show e
theorem Tj (ha:PT X a tA):PW X (.BoolOp .Or [a] pos) tA:=by
 intro wh pins s σ H Q I h;refine isTrue_or<|cb (ha pins s σ H Q I h) λc s1 e=>?_;cases c with
 |false=>show isTrue_or_nil e
 |true=>show e
theorem Tk (ha:PT X a tA) (hb:PW X (.BoolOp .And (b::rest) pos) HF):PW X (.BoolOp .And (a::b::rest) pos) (agc tA HF):=by
 intro wh pins s σ H Q I h;refine isTrue_and<|tT (ha pins s σ H _ I h) λc s1 H1 I1 q1=>?_;cases c with
 |true=>show hb wh pins s1 σ H1 Q I1 q1
 |false=>show#[H1,I1,q1]
theorem VY (ha:PT X a tA) (hb:PW X (.BoolOp .Or (b::rest) pos) HF):PW X (.BoolOp .Or (a::b::rest) pos) (agd tA HF):=by
 intro wh pins s σ H Q I h;refine isTrue_or<|tT (ha pins s σ H _ I h) λc s1 H1 I1 q1=>?_;cases c with
 |true=>show#[H1,I1,q1]
 |false=>show hb wh pins s1 σ H1 Q I1 q1
theorem Tl (ha:PT X a tA):PT X (.UnaryOp .Not a pos) (age tA):=by
 intro pins s σ H Q I h;show isTrue_not<|ha pins s σ H _ I h
def agf (ta tb:TE):TE:=λσ H Q=>ta σ H λx H1=>∃ c,x=.bl c /\ if c=ah then tb σ H1 Q else Q (.bl af) H1
def agg (ta tb:TE):TE:=λσ H Q=>ta σ H λx H1=>∃ c,x=.bl c /\ if c=ah then Q (.bl ah) H1 else tb σ H1 Q
def agh (ta:TE):TE:=λσ H Q=>ta σ H λx H1=>∃ c,x=.bl c /\ Q (.bl<|!c) H1
theorem Tn {op}{t:TE}(h:PE X a t):PE X (.BoolOp op [a] pos) t:=λpins s σ H Q I hw=>BoolOp_one<|h pins s σ H Q I hw
theorem To (ha:PE X a ta) (hb:PE X (.BoolOp .And (b::rest) pos) tb):PE X (.BoolOp .And (a::b::rest) pos) (agf ta tb):=by
 intro pins s σ H Q I h;refine BoolOp_and<|tE (ha pins s σ H _ I h) λv s1 x H1 I1 r1 q1=>?_;let#[c,rfl,q1]:=q1;cases r1;refine pB ?_;cases c with
 |true=>show hb pins s1 σ H1 Q I1 q1
 |false=>show#[.bl af,H1,I1,rfl,q1]
theorem VZ (ha:PE X a ta) (hb:PE X (.BoolOp .Or (b::rest) pos) tb):PE X (.BoolOp .Or (a::b::rest) pos) (agg ta tb):=by
 intro pins s σ H Q I h;refine BoolOp_or<|tE (ha pins s σ H _ I h) λv s1 x H1 I1 r1 q1=>?_;let#[c,rfl,q1]:=q1;cases r1;refine pB ?_;cases c with
 |false=>show hb pins s1 σ H1 Q I1 q1
 |true=>show#[.bl ah,H1,I1,rfl,q1]
theorem Tp (ha:PE X a ta):PE X (.UnaryOp .Not a pos) (agh ta):=by
 intro pins s σ H Q I h;refine UnaryOp_<|tE (ha pins s σ H _ I h) λv s1 x H1 I1 r1 q1=>?_;let#[c,rfl,q1]:=q1;cases r1;show not_of<|pB #[.bl<|!c,H1,I1,rfl,q1]
def agi (t:TT) (ta tb:TE):TE:=λσ H Q=>t σ H λc H1=>if c=ah then ta σ H1 Q else tb σ H1 Q
theorem LF {c:au}(hc:PT X c tA) (ha:PE X a ta) (hb:PE X b tb):PE X (.IfExp c a b pos) (agi tA ta tb):=by
 intro pins s σ H Q I h;refine wpAny_IfExp<|tT (hc pins s σ H _ I h) λd s1 H1 I1 q1=>?_;cases d with
 |true=>show ha pins s1 σ H1 Q I1 q1
 |false=>show hb pins s1 σ H1 Q I1 q1
end
def bN (K:PySem.W.Frag) (H:Hp) (a:ak) (xs:List V):zt:=
 Rd H a (.lst xs) \/
  ∃ (o:aZ) (its:Array ai) (n:Nat),K.lookup a=ae o /\ o.cls=.type "list" /\ o.dict=ag /\ o.data=.seq its n /\ its.size<=sizeLine /\ Vals xs its.toList
def cP (K:PySem.W.Frag) (H:Hp) (a:ak) (xs:List V):zt:=
 Rd H a (.tup xs) \/
  ∃ (o:aZ) (its:Array ai) (n:Nat),K.lookup a=ae o /\ o.cls=.type "tuple" /\ o.data=.seq its n /\ its.size<=sizeLine /\ Vals xs its.toList
noncomputable def agj:ai->Option V
 |.none=>ae .non
 |.bool b=>ae<|.bl b
 |.int i _=>ae<|.int i
 |.str x _=>ae<|.str x
 |.bytes b _=>ae<|.pH b
 |.float b _=>ae<|.uF b
 |.ref a=>ae<|.ref a
 |.type n=>ae<|.ty n
 |_=>ag
theorem RelV.abs {x:V}(r:RelV x u):agj u=ae x:=by
 cases x with
 |int _=>let#[t,rfl]:=r;rfl
 |str _=>let#[t,rfl]:=r;rfl
 |pH _=>let#[t,rfl]:=r;rfl
 |uF _=>let#[t,rfl]:=r;rfl
 |_=>cases r;rfl
theorem RelV.inj {x y:V}{u:ai}(r:RelV x u) (q:RelV y u):x=y:=Option.some.inj<|r.abs.symm.trans q.abs
theorem Vals.inj:∀ {xs ys:List V}{us:List ai},Vals xs us->Vals ys us->xs=ys
 |_,_,_,.nil,.nil=>rfl
 |_,_,_,.cons r t,.cons r' t'=>by rw[r.inj r',Vals.inj t t']
section
variable {s:ax} {xs ys:List V}
theorem bN.of (h:H a=ae (.lst xs)):bN K H a xs:=.inl<|.inl h
theorem cP.of (h:H a=ae (.tup xs)):cP K H a xs:=.inl<|.inl h
theorem Inv.list (I:Inv X pins σ H s) (h:bN X.K H a xs):∃ its:List ai,Vals xs its /\ PlainL s.heap a its.toArray /\ xs.length<=sizeLine:=by
 rcases h with h|⟨o,its,n,hk,hc,hd,hs,hz,r⟩
 .let#[z,its,n,r,e]:=h.ok I.aD;show#[its,r,#[_,n,e,rfl,rfl,rfl],z]
 .refine#[its.toList,r,#[o,n,I.kA a o hk,hc,hd,by simpa using hs],?_];have e:=r.length;simp[nh]at e;lia
theorem Inv.tuple (I:Inv X pins σ H s) (h:cP X.K H a xs):∃ its:List ai,Vals xs its /\ IsTup s.heap a its.toArray /\ xs.length<=sizeLine:=by
 rcases h with h|⟨o,its,n,hk,hc,hs,hz,r⟩
 .let#[z,its,r,p]:=h.ok I.aD;show#[its,r,p,z]
 .refine#[its.toList,r,#[o,I.kA a o hk,hc,n,by simpa using hs],?_];have e:=r.length;simp[nh]at e;lia
theorem Inv.acq (I:Inv X pins σ H s) (h:bN X.K H a xs) (h':bN X.K H a ys):xs=ys:=by
 let#[its,r,#[o,n,e,_,_,d],_]:=I.list h;let#[qh,r',#[o',n',e',_,_,d'],_]:=I.list h';rw[e]at e';cases e';rw[d]at d';injection d' with d1 _;have:its=qh:=by simpa using congrArg Array.toList d1
 subst this;show r.inj r'
theorem Inv.acr (I:Inv X pins σ H s) (h:cP X.K H a xs) (h':cP X.K H a ys):xs=ys:=by
 let#[its,r,#[o,e,_,n,d],_]:=I.tuple h;let#[qh,r',#[o',e',_,n',d'],_]:=I.tuple h';rw[e]at e';cases e';rw[d]at d';injection d' with d1 _;have:its=qh:=by simpa using congrArg Array.toList d1
 subst this;show r.inj r'
end
noncomputable abbrev Cx.rY (X:Cx) (E:ai->ax->zt):Cx:={ X with xe:=E }
abbrev Cx.xr (X:Cx):Cx:=X.rY λ_ _=>False
theorem Cx.Ok.rY {X:Cx}(ok:X.Ok) (E:ai->ax->zt):(X.rY E).Ok:=
 #[ok.mod,ok.kind,ok.glob,ok.blt,ok.above,ok.inj,ok.has,ok.yG,ok.hd,ok.frames,ok.HD,ok.xn,ok.bs,ok.vt,ok.yH,ok.xo,ok.qK,ok.xp]
theorem Cx.Ok.uH (ok:(X.rY E).Ok):X.Ok:=
 #[ok.mod,ok.kind,ok.glob,ok.blt,ok.above,ok.inj,ok.has,ok.yG,ok.hd,ok.frames,ok.HD,ok.xn,ok.bs,ok.vt,ok.yH,ok.xo,ok.qK,ok.xp]
section
variable {s:ax} 
theorem Inv.rY (I:Inv X pins σ H s) (E:ai->ax->zt):Inv (X.rY E) pins σ H s:=#[I.ok.rY E,I.os,I.bare,I.base,I.loc,I.cell,I.free,I.qb,I.pin,I.aD,I.len]
theorem Inv.uH (I:Inv (X.rY E) pins σ H s):Inv X pins σ H s:=#[I.ok.uH,I.os,I.bare,I.base,I.loc,I.cell,I.free,I.qb,I.pin,I.aD,I.len]
theorem SP.uH {D:Ends}{f:Flow}{s':ax}(h:SP (X.rY E) pins D f s'):SP X pins D f s':=by
 cases f with
 |ret u=>let#[v,σ',H',I,r,q]:=h;show#[v,σ',H',I.uH,r,q]
 |_=>let#[σ',H',I,q]:=h;show#[σ',H',I.uH,q]
theorem kg.xr {st:List b9}{t:TS}(h:kg X.xr st t):kg X st t:=λpins s σ H D I hw=>
 kO (h pins s σ H D (I.rY _) hw) (λ_ _ q=>q.uH) λ_ _ z=>False.elim z
end
section
variable {rest:List b9} {t u:TS} {te:TE} 
def agk:TS:=λD σ H=>D.nx σ H
def agl (t u:TS):TS:=λD σ H=>t { D with nx:=u D } σ H
theorem Ou:kg X [] agk:=λ_ _ σ H _ I h=>Qy #[σ,H,I,h]
theorem LG (h1:PS X st t) (h2:kg X rest u):kg X (st::rest) (agl t u):=by
 intro pins s σ H D I h;refine aag<|cb (h1 pins s σ H { D with nx:=u D } I h) λf s1 q=>?_;cases f with
 |next=>
   let#[σ',H',I',q]:=q;show h2 pins s1 σ' H' D I' q
 |ret v=>show q
 |_=>show q
theorem Ov (h1:PS X st t):kg X [st] t:=by
 intro pins s σ H D I h;refine aag<|cb (h1 pins s σ H D I h) λf s1 q=>?_;cases f with
 |next=>show Qy q
 |ret v=>show q
 |_=>show q
def agm:TS:=λD σ H=>D.bk σ H
def agn:TS:=λD σ H=>D.ct σ H
theorem LH:PS X (.Break pos) agm:=λ_ _ σ H _ I h=>wpAny_Break #[σ,H,I,h]
theorem C4:PS X (.Continue pos) agn:=λ_ _ σ H _ I h=>wpAny_Continue #[σ,H,I,h]
theorem Inv.quiet {s:ax}(I:Inv X pins σ H s):interactive X.env=af:=by simp[interactive,I.ok.kind]
def ago (te:TE):TS:=λD σ H=>te σ H λ_ H1=>D.nx σ H1
theorem Ow (he:PE X e te) (hs:swapsWith e ag pos.line X.env=pure af:=by rfl):PS X (.Expr e pos) (ago te):=by
 intro pins s σ H D I h;show wpAny_Expr_any (tE (he pins s σ H _ I h) λv s1 x H1 I1 r1 q1=>#[σ,H1,I1,q1]) I.quiet hs
def agp (te:TE):TS:=λD σ H=>te σ H D.rt
theorem Tq (he:PE X e te):PS X (.Return (ae e) pos) (agp te):=by
 intro pins s σ H D I h;show wpAny_Return_some<|tE (he pins s σ H _ I h) λv s1 x H1 I1 r1 q1=>#[x,σ,H1,I1,r1,q1]
def agq (c:TT) (t u:TS):TS:=λD σ H=>c σ H λb H1=>if b=ah then t D σ H1 else u D σ H1
theorem V0 {c:au}{a b:List b9}{tc:TT}(hc:PT X c tc) (ha:kg X a t) (hb:kg X b u):PS X (.If c a b pos) (agq tc t u):=by
 intro pins s σ H D I h;refine wpAny_If<|tT (hc pins s σ H _ I h) λd s1 H1 I1 q1=>?_;cases d with
 |true=>show ha pins s1 σ H1 D I1 q1
 |false=>show hb pins s1 σ H1 D I1 q1
end
abbrev TG:=V->St->Hp->(St->Hp->zt)->zt
abbrev tM:=List V->St->Hp->(St->Hp->zt)->zt
def PG (X:Cx) (target:au) (t:TG):zt:=
 ∀ (pins:List<|ak×aZ) (s:ax) (σ:St) (H:Hp) (v:V) (u:ai) (Q:St->Hp->zt),Inv X pins σ H s->RelV v u->t v σ H Q ->
  wpAny zf X.A (assign target X.env u) (λ_ s'=>∃ σ' H',Inv X pins σ' H' s' /\ Q σ' H') X.xe s
def rZ (X:Cx) (ts:List au) (t:tM):zt:=
 ∀ (pins:List<|ak×aZ) (s:ax) (σ:St) (H:Hp) (vs:List V) (us:List ai) (Q:St->Hp->zt),Inv X pins σ H s->Vals vs us->t vs σ H Q ->
  wpAny zf X.A (assignInOrder ((assignEach ts X.env).map (·.2)) us) (λ_ s'=>∃ σ' H',Inv X pins σ' H' s' /\ Q σ' H') X.xe s
abbrev XQ:=V->V->V->Hp->(Hp->zt)->zt
def acs (X:Cx) (t:XQ):zt:=
 ∀ (pins:List<|ak×aZ) (s:ax) (σ:St) (H:Hp) (o i v:V) (ov iv u:ai) (Q:Hp->zt),Inv X pins σ H s->RelV o ov->RelV i iv->RelV v u->t o i v H Q ->
  wpAny zf X.A (setItem ov iv u) (λ_ s'=>∃ H',Inv X pins σ H' s' /\ Q H') X.xe s
abbrev HG:=V->V->Hp->VK->zt
def XR (X:Cx) (op:Operator) (t:HG):zt:=
 ∀ (pins:List<|ak×aZ) (s:ax) (σ:St) (H:Hp) (x y:V) (v u:ai) (Q:VK),Inv X pins σ H s->RelV x v->RelV y u->t x y H Q ->
  wpAny zf X.A (inplaceOp op v u) (EP X pins σ Q) X.xe s
def XS (i:Nat):TG:=λv σ H Q=>Q (σ.set i<|ae v) H
theorem Ch {i:Nat}(hN:X.N.Nodup) (hi:X.N[i]?=ae x) (hx:Loc X.env.scope x) (hf:X.fn x=ah \/ X.env.scope.names.lookup x=ae .local:=by first|show .inl zc|show .inr zc|assumption):PG X (.Name x pos) (XS i):=by
 intro pins s σ H v u Q I r h;show aah<|lj I hN hi hx r (λs' I'=>#[_,H,I',h]) hf
noncomputable def agr:tM:=λvs σ H Q=>vs=[] /\ Q σ H
noncomputable def ags (t:TG) (u:tM):tM:=λvs σ H Q=>∃ v r,vs=v::r /\ t v σ H λσ' H'=>u r σ' H' Q
theorem Gi:rZ X [] agr:=by
 intro pins s σ H vs us Q I r h;let#[e,h]:=h;subst e;cases r;show abn #[σ,H,I,h]
theorem Az {t:TG}{u:tM}(h1:PG X e t) (h2:rZ X es u)
 (hs:(assignEach (e::es) X.env).map (·.2)=assign e X.env::(assignEach es X.env).map (·.2):=by rfl):rZ X (e::es) (ags t u):=by
 intro pins s σ H vs us Q I r h;let#[v,vr,e1,h]:=h;subst e1;cases r with
 |cons r rr=>
   rw[hs];refine Xa<|cb (h1 pins s σ H _ _ _ I r h) ?_;rintro _ s1 ⟨σ1,H1,I1,q1⟩;show h2 pins s1 σ1 H1 _ _ Q I1 rr q1
def agt (K:PySem.W.Frag) (n:Nat) (t:tM):TG:=λv σ H Q=>∃ a xs,v=.ref a /\ cP K H a xs /\ xs.length=n /\ t xs σ H Q
theorem LI {k:Nat}{t:tM}(hc:X.calm=ah) (h:rZ X es t)
 (hn:(assignEach es X.env).length=n:=by rfl) (yI:(assignEach es X.env).findIdx? (·.1)=ag:=by rfl):PG X (.Tuple es k pos) (agt X.K n t):=by
 intro pins s σ H v u Q I r hw;let#[a,xs,e1,hq,hl,hw]:=hw;subst e1;cases r;let#[its,rv,ht,hz]:=I.tuple hq;refine assign_Tuple_tuple (I.ok.hd hc) ht (by simp[hn,<-hl,rv.length]) yI λh' hx=>?_;have I1:Inv X pins σ H { s with heap:=h' }:=I.kept λb o e=>hx b o (cw<|bf e) e;show h pins _ σ H xs _ Q I1 (by simpa using rv) hw
def agu (to ti:TE) (t:XQ):TG:=λv σ H Q=>to σ H λo H1=>ti σ H1 λi H2=>t o i v H2 λH3=>Q σ H3
theorem Tr {o i:au}{to ti:TE}{t:XQ}(ho:PE X o to) (hi:PE X i ti) (hs:acs X t)
 (ha:∀ v,assign (.Subscript o i pos) X.env v=(do
  let ov <-holding [v] (eval o X.env)
  let iv <-holding [v,ov] (eval i X.env)
  standAt pos
  holding [v,ov,iv] (setItem ov iv v)
  release [v,ov,iv] []):=by intro _;rfl):PG X (.Subscript o i pos) (agu to ti t):=by
 intro pins s σ H v u Q I r h;refine aj<|eQ<|tE (ho pins s σ H _ I h) λov s1 x H1 I1 r1 q1=>?_;refine aj<|eQ<|tE (hi pins s1 σ H1 _ I1 q1) λiv s2 y H2 I2 r2 q2=>?_;refine aj<|EZ<|aj<|eQ<|cb (hs pins s2 σ H2 x y v ov iv u _ I2 r1 r2 r q2) ?_;rintro _ s3 ⟨H3,I3,q3⟩;show wpAny_release #[σ,H3,I3,q3]
def HI (te:TE) (g:TG):TS:=λD σ H=>te σ H λx H1=>g x σ H1 D.nx
theorem LJ {te:TE}{g:TG}(he:PE X e te) (hg:PG X tg g) (hs:swapsWithSole [tg] e pos.line X.env=pure af:=by rfl) (hw:swappedStores [tg] e X.env=pure ag:=by rfl)
 (h1:(assignEach [tg] X.env).map (·.2)=[assign tg X.env]:=by rfl):PS X (.Assign [tg] e pos) (HI te g):=by
 intro pins s σ H D I h;refine wpAny_Assign_stores (tE (he pins s σ H _ I h) λv s1 x H1 I1 r1 q1=>?_) hs hw;rw[h1];show cb (hg pins s1 σ H1 x v _ I1 r1 q1) λ_ s2 q=>q
theorem Ts {i:Nat}{te:TE}(hN:X.N.Nodup) (hi:X.N[i]?=ae x) (hx:Loc X.env.scope x) (he:PE X e te) (hs:swapsWith e (ae<|.Name x pos') pos.line X.env=pure af:=by rfl) (hf:X.fn x=ah \/ X.env.scope.names.lookup x=ae .local:=by first|show .inl zc|show .inr zc|assumption) :
 PS X (.Assign [.Name x pos'] e pos) (HI te<|XS i):=by
 intro pins s σ H D I h;refine wpAny_Assign_Name (tE (he pins s σ H _ I h) λv s1 y H1 I1 r1 q1=>?_) hs;show lj I1 hN hi hx r1 (λs2 I2=>#[_,H1,I2,q1]) hf
def acu (i j:Nat) (ta:TA):TS:=λD σ H=>ta σ H λvs H1=>∃ v w,vs=[v,w] /\ D.nx ((σ.set i<|ae v).set j<|ae w) H1
theorem Tt {i:Nat}{y:Str}{a b:au}{ta:TA}{px py pt:aM}{kt k2 kS}(hc:X.calm=ah) (hN:X.N.Nodup) (hi:X.N[i]?=ae x) (hj:X.N[j]?=ae y) (yJ:i≠j)
 (hx:X.env.scope.names.lookup x=ae .local) (hy:X.env.scope.names.lookup y=ae .local) (ha:PA X [a,b] ta)
 (hw:swappedStores [.Tuple [.Name x px,.Name y py] kt pt] (.Tuple [a,b] k2 kS) X.env=pure (ae [x,y]))
 (hs:swapsWithSole [.Tuple [.Name x px,.Name y py] kt pt] (.Tuple [a,b] k2 kS) pos.line X.env=pure af:=by rfl) :
 PS X (.Assign [.Tuple [.Name x px,.Name y py] kt pt] (.Tuple [a,b] k2 kS) pos) (acu i j ta):=by
 intro pins s σ H D I h;refine aj<|EZ ?_;refine aj<|aA ?_;refine aj<|Tuple_<|tA (ha _ pins s σ H _ I h) λus s1 vs H1 I1 r1 q1=>?_;let#[v,w,e1,q1]:=q1;subst e1;obtain⟨u1,u2,rfl,rv,eV⟩:∃ u1 u2,us=[u1,u2] /\ RelV v u1 /\ RelV w u2:=by
  cases r1 with
  |cons p q=>
    cases q with
    |cons p' q'=>
      cases q';show#[_,_,rfl,p,p']
 refine eR ?_ (by change 2<=sizeLine;decide);have I2:Inv X pins σ H1 { s1 with heap:=s1.heap.push { cls:=.type "tuple",data:=.seq [u1,u2].toArray } }:=I1.kept λb o e=>aW _ e;rw[hw];refine aj<|aA ?_;change wpAny _ X.A _ _ _ _;refine aj<|pW<|aj<|unpackItems_tuple (items:=(List.toArray [u1,u2])) (I.ok.hd hc) (IsTup.new s1.heap _) λh' agv=>?_;change wpAny _ _ _ _ _ _;refine aj<|Xa<|aai<|lj (I2.kept (t':=s1.toks) λb o e=>agv b o (cw<|bf e) e) hN hj (.inl hy) eV (λs2 I4=>?_)<|.inr hy;refine Xa<|aai<|lj I4 hN hi (.inl hx) rv (λs3 I5=>abn<|aA ?_)<|.inr hx;rw[List.set_comm _ _<|Ne.symm yJ]at I5;show#[_,H1,I5,q1]
def acv (i:Nat) (te:TE) (ti:HG):TS:=λD σ H=>∃ x,σ[i]?=ae (ae x) /\ te σ H λy H1=>ti x y H1 λz H2=>D.nx (σ.set i<|ae z) H2
theorem LK {i:Nat}{te:TE}{op:Operator}{ti:HG}(hN:X.N.Nodup) (hi:X.N[i]?=ae x) (hx:Loc X.env.scope x) (he:PE X e te) (ho:XR X op ti) (hf:X.fn x=ah \/ X.env.scope.names.lookup x=ae .local:=by first|show .inl zc|show .inr zc|assumption) :
 PS X (.AugAssign (.Name x pos') op e pos) (acv i te ti):=by
 intro pins s σ H D I h;let#[v,e1,h]:=h;let#[m,hn,hl]:=I.loc;have HJ:vq X.env.scope x:=by rcases hx with k|k;show .inl k;show .inr<|.inl k
 let#[u,r,l]:=hl i x v hi e1 HJ;refine wpAny_AugAssign_Name ?_;have go:wpAny zf X.A (eval e X.env) (λw s₂=>wpAny zf X.A (inplaceOp op u w) (λr s₃=>wpAny zf X.A (storeName X.env x r) (λ_=>SP X pins D .next) X.xe s₃) X.xe s₂) X.xe s:=by
  refine tE (he pins s σ H _ I h) λw s1 y H1 I1 r1 q1=>?_;refine tE (ho pins s1 σ H1 v y u w _ I1 r r1 q1) λz s2 zv H2 I2 r2 q2=>?_;show lj I2 hN hi hx r2 (λs3 I3=>#[_,H2,I3,q2]) hf
 rcases l with⟨hk,hm⟩|⟨hk,c,hc,xq⟩
 .show aac I.ok.kind hk hn hm go
 .rcases hk with hk|hk
  .show aad I.ok.kind hk hc xq go
  .rcases hx with k|k
   .have:X.env.scope.names.lookup x=ae .free:=hk;rw[k]at this;cases this
   .have:X.env.scope.names.lookup x=ae .free:=hk;rw[k]at this;cases this
noncomputable def XT (f:Int->Int->Int):HG:=λx y H Q=>∃ i j,x=.int i /\ y=.int j /\ Q (.int<|f i j) H
theorem Tu:XR X .Add (XT λi j=>i+j):=by
 intro pins s σ H x y v u Q I r1 r2 h;let#[i,j,e1,e2,q]:=h;subst e1;subst e2;let#[t,rfl]:=r1;let#[t',rfl]:=r2;show iadd_int #[.int _,H,I.tok _,#[_,rfl],q]
theorem Tv:XR X .Sub (XT λi j=>i-j):=by
 intro pins s σ H x y v u Q I r1 r2 h;let#[i,j,e1,e2,q]:=h;subst e1;subst e2;let#[t,rfl]:=r1;let#[t',rfl]:=r2;show isub_int #[.int _,H,I.tok _,#[_,rfl],q]
structure It where
 go:Nat->Hp->zt
 yK:Nat->Hp->V->Hp->zt
 stop:Nat->Hp->zt
def nP (X:Cx) (pins:List<|ak×aZ) (H:Hp) (b:ak):zt:=
 H b=ag /\ b≠X.env.locals /\ b∉X.fs /\ (b∈X.ex \/ X.s₀.heap.objs.size<=b) /\ (∀ x c,X.env.cells.lookup x=ae c->c≠b) /\ ∀ p∈X.pn++pins,p.1≠b
theorem Inv.vw {s:ax}{b:ak}(I:Inv X pins σ H s) (hb:s.heap.objs.size<=b) (hn:H' b=ag):nP X pins H' b:=by
 refine#[hn,vh<|eT I.lt hb,I.af5 hb,.inr<|cx I.sz hb,λx c e z=>?_,λp hp z=>?_]
 .let#[v,q]:=I.cell x c e;show absurd (eT q.lt (by rw[z];show hb))<|hZ _
 .show absurd (eT (bf (I.pin p hp).1) (by rw[z];show hb))<|hZ _
structure Turn (P:c7) (w:cn) (K:PySem.W.Frag) (tg:au) (J:It) (fp:List ak) (it:ak) (tn:Nat->aK->zt):zt where
 mem:it∈fp
 obj:∀ i h,tn i h->∀ b∈fp,∃ o,h.get? b=ae o /\ ∀ v,o.data≠.cell v
 keep:∀ i h h',tn i h->(∀ b∈fp,∀ o,h.get? b=ae o->h'.get? b=ae o)->tn i h'
 item:∀ (X:Cx),X.prog=P->X.w=w->X.K=K->X.calm=ah->∀ (i:Nat) (pins:List<|ak×aZ) (s:ax) (σ:St) (H:Hp) (E:ai->ax->zt),Inv X pins σ H s->(∀ b∈fp,nP X pins H b)->tn i s.heap->J.go i H ->
  wpAny (model P w) X.A (pyNext<|.ref it) (λr s1=>∃ u,r=ae u /\
   wpAny (model P w) X.A (letOwnedTupleGo tg (.ref it) u) (λ_ s2=>∃ x H',Inv X pins σ H' s2 /\ RelV x u /\ J.yK i H x H' /\ tn (i+1) s2.heap /\ ∀ b∈fp,H' b=ag) E s1) E s
 done:∀ (X:Cx),X.prog=P->X.w=w->X.K=K->X.calm=ah->∀ (i:Nat) (pins:List<|ak×aZ) (s:ax) (σ:St) (H:Hp) (E:ai->ax->zt),Inv X pins σ H s->(∀ b∈fp,nP X pins H b)->tn i s.heap->J.stop i H ->
  wpAny (model P w) X.A (pyNext<|.ref it) (λr s1=>r=ag /\ Inv X pins σ H s1) E s
 self:∀ (A:eu) (i:Nat) (s:ax) (Q:ai->ax->zt) (E:ai->ax->zt),tn i s.heap->Q (.ref it) s->wpAny (model P w) A (pyIter<|.ref it) Q E s
abbrev TI:=St->Hp->(It->Hp->zt)->zt
def XU (X:Cx) (pins:List<|ak×aZ) (σ:St) (tg:au) (R:It->Hp->zt) (HK:ai) (s2:ax):zt:=
 ∃ (it:ak) (fp:List ak) (tn:Nat->aK->zt) (J:It) (H':Hp),HK=.ref it /\ Inv X pins σ H' s2 /\ Turn X.prog X.w X.K tg J fp it tn /\ tn 0 s2.heap /\ (∀ b∈fp,nP X pins H' b) /\ R J H'
def PI (X:Cx) (tg iter:au) (wi:TI):zt:=
 ∀ (pins:List<|ak×aZ) (s:ax) (σ:St) (H:Hp) (R:It->Hp->zt),Inv X pins σ H s->wi σ H R ->
  wpAny zf X.A (eval iter X.env) (λv s1=>wpAny zf X.A (pyIter v) (XU X pins σ tg R) X.xe s1) X.xe s
theorem C5 {s:ax}{n:String}{vs:Array ai}{Q:Unit->ax->zt}(ho:s.heap.get? it=ae o) (hc:o.cls=.type n) (hd:o.data=.fields vs)
 (hn:["enumerate","zip","dict_itemiterator","dict_reverseitemiterator","odict_iterator","itertools.zip_longest","itertools.pairwise"].contains n=af) (hQ:Q () s):wpAny M A (letOwnedTupleGo tg (.ref it) u) Q E s:=by
 cases tg<;>first
  |show aA hQ
  |(cases u<;>first
   |show aA hQ
   | (refine aj (wH ho ?_)
      rw[hc,hd];change wpAny M A (if (["enumerate","zip","dict_itemiterator","dict_reverseitemiterator","odict_iterator","itertools.zip_longest","itertools.pairwise"].contains n&&vs[0]?==ae _)=ah then _ else _) Q E s;rw[if_neg (by intro h;rw[hn,Ha]at h;cases h)];show aA hQ))
noncomputable def HL (K:PySem.W.Frag) (a:ak):It:=
 #[λi H=>∃ xs x,bN K H a xs /\ xs[i]?=ae x,λi H x H'=>H'=H /\ ∀ xs,bN K H a xs->xs[i]?=ae x,λi H=>∃ xs,bN K H a xs /\ xs.length<=i]
noncomputable def XW (K:PySem.W.Frag) (a:ak):It:=
 #[λi H=>∃ xs x,cP K H a xs /\ xs[i]?=ae x,λi H x H'=>H'=H /\ ∀ xs,cP K H a xs->xs[i]?=ae x,λi H=>∃ xs,cP K H a xs /\ xs.length<=i]
noncomputable def vz (lo:Int) (n:Nat):It:=#[λi _=>i<n,λi H x H'=>H'=H /\ x=.int (lo+i),λi _=>n<=i]
theorem BK (a it:ak):Turn P w K tg (HL K a) [it] it (λi h=>h.IsListIter it a i) where
 mem:=by simp
 obj:=λi h st b hb=>by
  have e:b=it:=by simpa using hb
  subst e;let#[o,e,c,d]:=st;show#[o,e,λv z=>by rw[d]at z;cases z]
 keep:=λi h h' st k=>st.at λo e=>k it zj o e
 item:=by
  intro X hP hw hK hc i pins s σ H E I hf st hg;subst hP hw hK;let#[xs,x,hq,hx]:=hg;let#[its,rv,p,hz]:=I.list hq;let#[u,hu,ru]:=rv.get hx;let#[f0,f1,f2,f3,f4,f5]:=hf it zj;refine wpAny_pyNext_list_item st p.isList (by simpa using hu) λh' nQ sb=>?_;have I1:Inv X pins σ H { s with heap:=h' }:=I.turned (λb o hb e=>(sb.2 b hb).trans e) f0 f1 f3 f4 f5;let#[o,e,c,d]:=id nQ;show#[u,rfl,C5 e c d (rfl) #[x,H,I1,ru,#[rfl,λys hy=>by rw[I.acq hy hq];show hx],nQ,λb hb=>(hf b hb).1]]
 done:=by
  intro X hP hw hK hc i pins s σ H E I hf st hg;subst hP hw hK;let#[xs,hq,hx]:=hg;let#[its,rv,p,hz]:=I.list hq;let#[f0,f1,f2,f3,f4,f5]:=hf it zj;have hl:=rv.length;show wpAny_pyNext_list_end (I.ok.hd hc) st p.isList zh λh' eb=>#[rfl,I.turned (λb o hb e=>eb b o hb e) f0 f1 f3 f4 f5]
 self:=λ_ _ _ _ _ st h=>wpAny_pyIter_listiter st h
theorem Fo (a it:ak):Turn P w K tg (XW K a) [it] it (λi h=>h.IsTupleIter it a i) where
 mem:=by simp
 obj:=λi h st b hb=>by
  have e:b=it:=by simpa using hb
  subst e;let#[o,e,c,d]:=st;show#[o,e,λv z=>by rw[d]at z;cases z]
 keep:=λi h h' st k=>st.at λo e=>k it zj o e
 item:=by
  intro X hP hw hK hc i pins s σ H E I hf st hg;subst hP hw hK;let#[xs,x,hq,hx]:=hg;let#[its,rv,p,hz]:=I.tuple hq;let#[u,hu,ru]:=rv.get hx;let#[f0,f1,f2,f3,f4,f5]:=hf it zj;refine wpAny_pyNext_tuple_item st (p) (by simpa using hu) λh' nQ sb=>?_;have I1:Inv X pins σ H { s with heap:=h' }:=I.turned (λb o hb e=>(sb.2 b hb).trans e) f0 f1 f3 f4 f5;let#[o,e,c,d]:=id nQ;show#[u,rfl,C5 e c d (rfl) #[x,H,I1,ru,#[rfl,λys hy=>by rw[I.acr hy hq];show hx],nQ,λb hb=>(hf b hb).1]]
 done:=by
  intro X hP hw hK hc i pins s σ H E I hf st hg;subst hP hw hK;let#[xs,hq,hx]:=hg;let#[its,rv,p,hz]:=I.tuple hq;let#[f0,f1,f2,f3,f4,f5]:=hf it zj;have hl:=rv.length;show wpAny_pyNext_tuple_end (I.ok.hd hc) st (p) zh λh' eb=>#[rfl,I.turned (λb o hb e=>eb b o hb e) f0 f1 f3 f4 f5]
 self:=λ_ _ _ _ _ st h=>wpAny_pyIter_tupleiter st h
theorem AA (it:ak) (lo:Int) (n:Nat):Turn P w K tg (vz lo n) [it] it (λi h=>IsRangeIter h it (lo+(i:Nat)*1) ((n:Int)-(i:Nat)) 1) where
 mem:=by simp
 obj:=λi h st b hb=>by
  have e:b=it:=by simpa using hb
  subst e;show#[_,st,λv z=>by
   cases z]
 keep:=λi h h' st k=>k it zj _ st
 item:=by
  intro X hP hw hK hc i pins s σ H E I hf st hg;subst hP hw hK;let#[f0,f1,f2,f3,f4,f5]:=hf it zj;refine(Walks.range (prog:=X.prog) (w:=X.w) (I.ok.hd hc) it lo 1 n).item i s _ _ hg st λv h' tk hv nQ kk=>?_;let#[t,rfl]:=hv;have I1:Inv X pins σ H { s with heap:=h',toks:=tk }:=I.turned (λb o hb e=>kk b o (by simpa using hb) e) f0 f1 f3 f4 f5;refine#[_,rfl,C5 nQ zc zc (rfl) #[.int _,H,I1,#[t,?_],#[rfl,rfl],nQ,λb hb=>(hf b hb).1]];rw[xg]
 done:=by
  intro X hP hw hK hc i pins s σ H E I hf st hg;let#[f0,f1,f2,f3,f4,f5]:=hf it zj;show wpAny_pyNext_range_end (I.ok.hd hc) st (by have:n<=i:=hg;lia) λh' eb=>#[rfl,I.turned (λb o hb e=>eb b o hb e) f0 f1 f3 f4 f5]
 self:=λ_ _ _ _ _ st h=>wpAny_pyIter_rangeiter st h
def acw (K:PySem.W.Frag) (tl:TE):TI:=λσ H R=>tl σ H λx H1=>∃ a,x=.ref a /\ (∃ xs,bN K H1 a xs) /\ R (HL K a) H1
theorem Ox {l:au}{tl:TE}(hl:PE X l tl):PI X tg l (acw X.K tl):=by
 intro pins s σ H R I h;refine tE (hl pins s σ H _ I h) λv s1 x H1 I1 r1 q1=>?_;let#[a,e,#[xs,hq],q]:=q1;subst e;cases r1;let#[its,rv,p,hz]:=I1.list hq;refine yn p.isList ?_;refine#[s1.heap.objs.size,[s1.heap.objs.size],_,_,H1,rfl,I1.kept λb o e=>aW _ e,BK a _,#[_,bE _ zc,rfl,rfl],λb hb=>?_,q];have e:b=s1.heap.objs.size:=by simpa using hb
 subst e;show I1.vw (aE _)<|I1.aD.fresh<|aE _
theorem LL {s:ax}{R:It->Hp->zt}{lo hi:Int}{t u v:Tok}{tk:Nat}(I:Inv X pins σ H s) (h1:-(2 ^ 62)<=lo) (h2:lo<2 ^ 62) (h3:-(2 ^ 62)<=hi) (h4:hi<2 ^ 62)
 (q:R (vz lo (hi-lo).toNat) H):wpAny zf X.A (pyIter<|.ref s.heap.objs.size) (XU X pins σ tg R) E { s with heap:=s.heap.push { cls:=.type "range",data:=.fields (List.toArray [.int lo t,.int hi u,.int 1 v]) },toks:=tk }:=by
 refine aaj (IsRange.new ..) (small_one h1 h2 h3 h4) ?_;have I1:Inv X pins σ H { s with heap:=s.heap.push { cls:=.type "range",data:=.fields (List.toArray [.int lo t,.int hi u,.int 1 v]) },toks:=tk }:=I.kept λb o e=>aW _ e;refine#[(s.heap.push { cls:=.type "range",data:=.fields (List.toArray [.int lo t,.int hi u,.int 1 v]) }).objs.size,[(s.heap.push { cls:=.type "range",data:=.fields (List.toArray [.int lo t,.int hi u,.int 1 v]) }).objs.size],_,_,H,rfl,
  I1.kept λb o e=>aW _ e,AA _ lo (hi-lo).toNat,?_,λb hb=>?_,q]
 .have e1:lo+((0))*1=lo:=by simp
  have e2:(((hi-lo).toNat))-((0))=Builtin.Range.rangeSize lo hi 1:=by rw[aak];split<;>lia
  change IsRangeIter _ _ (lo+((0))*1) ((((hi-lo).toNat))-((0))) 1;rw[e1,e2];show bE _ zc
 .have e:b=(s.heap.push { cls:=.type "range",data:=.fields (List.toArray [.int lo t,.int hi u,.int 1 v]) }).objs.size:=by simpa using hb
  subst e;show I1.vw (aE _)<|I1.aD.fresh<|aE _
def agw (ta:TA):TI:=λσ H R=>ta σ H λvs H1=>∃ j:Int,vs=[.int j] /\ -(2 ^ 62)<=j /\ j<2 ^ 62 /\ R (vz 0 j.toNat) H1
theorem Jo {a:au}{ta:TA}{p:aM}(hg:Gl X "range") (hm:X.mg "range"=ag) (ha:PA X [a] ta) (hs:starEach [a] X.env=[(af,eval a X.env)]:=by rfl):PI X tg (.Call (.Name "range" p) [a] [] pos) (agw ta):=by
 intro pins s σ H R I h;refine Call_<|jx I hg hm boot_range<|Hq (tA (ha pos pins s σ H _ I h) λus s1 vs H1 I1 r1 q1=>?_) hs zc;let#[j,e,q1,q2,q]:=q1;subst e;cases r1 with
 |cons r rr=>
   cases rr;let#[t,rfl]:=r;show call_range_1<|LL I1 za za q1 q2 (by simpa using q)
def HM (wi:TI) (g:TG) (tb:TS):TS:=λD σ H=>wi σ H λJ H1=>∃ W:Nat->Nat->St->Hp->zt,(∃ m,W 0 m σ H1) /\ ∀ i m σ H,W i m σ H ->
 (J.stop i H /\ D.nx σ H) \/ (J.go i H /\ ∃ N:St->Hp->zt,(∀ σ' H',N σ' H'->∃ m',m'<m /\ W (i+1) m' σ' H') /\ ∀ x H',J.yK i H x H'->g x σ H' λσ2 H2=>tb { D with nx:=N,ct:=N,bk:=D.nx } σ2 H2)
noncomputable def yL (fp:List ak) (h:aK):List (ak×aZ):=fp.filterMap λb=>(h.get? b).map λo=>(b,o)
theorem iu {b:ak}(hb:b∈fp) (e:h.get? b=ae o):(b,o)∈yL fp h:=List.mem_filterMap.mpr #[b,hb,by rw[e];rfl]
theorem Jp {p:ak×aZ}(hp:p∈yL fp h):p.1∈fp /\ h.get? p.1=ae p.2:=by
 let#[b,hb,e]:=List.mem_filterMap.mp hp;cases q:h.get? b with
 |none=>rw[q]at e;cases e
 |some o=>
   rw[q]at e;have e':=Option.some.inj e;subst e';show#[hb,q]
theorem Inv.pinned {s:ax}(I:Inv X pins σ H s) (hf:∀ b∈fp,nP X pins H b) (ho:∀ b∈fp,∃ o,s.heap.get? b=ae o /\ ∀ v,o.data≠.cell v):Inv X (pins++yL fp s.heap) σ H s:=
 I.ace λp hp=>(List.mem_append.mp hp).elim (λz=>I.pin p<|eG _ z) λz=>by
  let#[hb,e]:=Jp z;let#[f0,f1,f2,_]:=hf p.1 hb;let#[o,e',d]:=ho p.1 hb;rw[e]at e';cases e';show#[e,f0,f1,f2,d]
theorem Inv.yM {pl:List (ak×aZ)}{s:ax}(I:Inv X (pins++pl) σ H s):Inv X pins σ H s:=I.ace λp hp=>I.pin p<|eG _<|pY _ hp
theorem Fp {body:List b9}{wi:TI}{g:TG}{tb:TS}(hp:PassesOwn zf X.A X.env X.xe) (hc:X.calm=ah) (hi:PI X tg iter wi) (hg:PG X tg g) (hb:kg X body tb)
 (hs:∀ x,foldedSetIterable iter X.env x=pure x:=by intro _;rfl):PS X (.For tg iter body [] pos) (HM wi g tb):=by
 intro pins s σ H D I h;refine wpAny_For (cb (hi pins s σ H _ I h) λv s1 h1=>cb h1 λHK s2 h2=>?_) hs;let#[it,fp,tn,J,H2,e,I2,T,vA,f2,W,#[m0,w0],turn]:=h2;subst e;have stat:∀ {H'},(∀ b∈fp,H' b=ag)->∀ b∈fp,nP X pins H' b:=λhn b hb=>#[hn b hb,(f2 b hb).2];refine codeAny_forLoop_any (λn s'=>∃ i σ' H',Inv X pins σ' H' s' /\ tn i s'.heap /\ (∀ b∈fp,H' b=ag) /\ W i n σ' H') ?_ m0 #[0,σ,H2,I2,vA,λb hb=>(f2 b hb).1,w0];rintro n s3 ⟨i,σ3,H3,I3,uI,acx,w3⟩;rcases turn i n σ3 H3 w3 with⟨stop,qn⟩|⟨go,N,hN,step⟩
 .refine yo hp<|cb (T.done X zc zc zc hc i pins s3 σ3 H3 X.xe I3 (stat acx) uI stop) ?_;rintro r s4 ⟨hr,I4⟩;subst hr;show Qy #[σ3,H3,I4,qn]
 .refine yo hp<|cb (T.item X zc zc zc hc i pins s3 σ3 H3 X.xe I3 (stat acx) uI go) ?_;rintro r s4 ⟨u,hr,h4⟩;subst hr;refine yo hp<|cb h4 ?_;rintro _ s5 ⟨x,H5,I5,r5,y5,tO,vB⟩;refine yo hp<|cb (hg _ s5 σ3 H5 x u _ (I5.pinned (stat vB)<|T.obj _ _ tO) r5<|step x H5 y5) ?_;rintro _ s6 ⟨σ6,H6,I6,q6⟩;refine yo hp<|cb (hb _ s6 σ6 H6 _ I6 q6) λf s7 q7=>?_;have again:∀ {σ7}{H7},Inv X _ σ7 H7 s7->N σ7 H7->∃ m,m<n /\ ∃ i σ' H',Inv X pins σ' H' s7 /\ tn i s7.heap /\ (∀ b∈fp,H' b=ag) /\ W i m σ' H':=λ{σ7 H7} I7 n7=>by
   let#[m',hm,w7]:=hN σ7 H7 n7;refine#[m',hm,i+1,σ7,H7,I7.yM,T.keep _ _ _ tO λb hb o e=>(I7.pin (b,o)<|eG _<|eG _<|iu hb e).1,λb hb=>?_,w7];let#[o,e,d]:=T.obj _ _ tO b hb;show(I7.pin (b,o)<|eG _<|eG _<|iu hb e).2.1
  cases f with
  |brk=>let#[σ7,H7,I7,q7]:=q7;show#[σ7,H7,I7.yM,q7]
  |ret v=>let#[x7,σ7,H7,I7,r7,q7]:=q7;show#[x7,σ7,H7,I7.yM,r7,q7]
  |_=>let#[σ7,H7,I7,n7]:=q7;show again I7 n7
abbrev R2:=V->V->Hp->VK->zt
def bc (X:Cx) (f:ai->ai->Sem ai) (r:R2):zt:=
 ∀ (pins:List<|ak×aZ) (s:ax) (σ:St) (H:Hp) (x y:V) (v u:ai) (Q:VK),Inv X pins σ H s->RelV x v->RelV y u->r x y H Q ->
  wpAny zf X.A (f v u) (EP X pins σ Q) X.xe s
def XX (X:Cx) (f:ai->Sem ai) (r:V->Hp->VK->zt):zt:=
 ∀ (pins:List<|ak×aZ) (s:ax) (σ:St) (H:Hp) (x:V) (v:ai) (Q:VK),Inv X pins σ H s->RelV x v->r x H Q ->
  wpAny zf X.A (f v) (EP X pins σ Q) X.xe s
def dQ (X:Cx) (f:ai) (r:List V->Hp->VK->zt):zt:=
 ∀ (pins:List<|ak×aZ) (s:ax) (σ:St) (H:Hp) (xs:List V) (us:List ai) (Q:VK),Inv X pins σ H s->Vals xs us->r xs H Q ->
  wpAny zf X.A (call f us) (EP X pins σ Q) X.xe s
def yN (r:R2) (ta tb:TE):TE:=λσ H Q=>ta σ H λx H1=>tb σ H1 λy H2=>r x y H2 Q
def agx (r:V->Hp->VK->zt) (ta:TE):TE:=λσ H Q=>ta σ H λx H1=>r x H1 Q
def rI (C:Int->Int->zt) (g:Int->Int->V):R2:=λx y H Q=>∃ i j,x=.int i /\ y=.int j /\ C i j /\ Q (g i j) H
def kB (g:Int->Int->V):R2:=λx y H Q=>∃ i j,x=.int i /\ y=.int j /\ Q (g i j) H
def rU (g:Int->V):V->Hp->VK->zt:=λx H Q=>∃ i,x=.int i /\ Q (g i) H
section
variable {a b c:au} {ta tb tc:TE} 
theorem XY (ha:PE X a ta) (hb:PE X b tb) {s:ax}{R:V->V->Hp->zt}(I:Inv X pins σ H s)
 (h:ta σ H λx H1=>tb σ H1 λy H2=>R x y H2) 
 (hf:∀ v u s2 x y H2,Inv X pins σ H2 s2->RelV x v->RelV y u->R x y H2->wpAny zf X.A (f v u) Q X.xe s2) :
 wpAny zf X.A (eval a X.env) (λv s₁=>wpAny zf X.A (eval b X.env) (λu s₂=>wpAny zf X.A (f v u) Q X.xe s₂) X.xe s₁) X.xe s:=by
 refine tE (ha pins s σ H _ I h) λv s1 x H1 I1 r1 q1=>?_;refine tE (hb pins s1 σ H1 _ I1 q1) λu s2 y H2 I2 r2 q2=>?_;show hf v u s2 x y H2 I2 r1 r2 q2
theorem V1 {op:Operator}{r:R2}(ho:bc X (binaryOp op) r) (ha:PE X a ta) (hb:PE X b tb):PE X (.BinOp a op b pos) (yN r ta tb):=by
 intro pins s σ H Q I h;show wpAny_BinOp<|XY ha hb I h λv u s2 x y H2 I2 rx ry q=>ho pins s2 σ H2 x y v u Q I2 rx ry q
theorem SG {op:UnaryOp}{r:V->Hp->VK->zt}(ho:XX X (unaryOp op) r) (ha:PE X a ta):PE X (.UnaryOp op a pos) (agx r ta):=by
 intro pins s σ H Q I h;show UnaryOp_<|tE (ha pins s σ H _ I h) λv s1 x H1 I1 r1 q1=>ho pins s1 σ H1 x v Q I1 r1 q1
theorem HN {C:Int->Int->zt}{g:Int->Int->Int}
 (rule:∀ (i j:Int) (t u:Tok) (s:ax) (Q:ai->ax->zt) (E:ai->ax->zt),C i j->Q (.int (g i j) s.toks) { s with toks:=s.toks+1 }->wpAny zf X.A (f (.int i t)<|.int j u) Q E s) :
 bc X f (rI C λi j=>.int<|g i j):=by
 intro pins s σ H x y v u Q I rx ry h;let#[i,j,rfl,rfl,hc,q]:=h;let#[t,rfl]:=rx;let#[t',rfl]:=ry;show rule i j t t' s _ _ hc #[.int _,H,I.tok _,#[_,rfl],q]
theorem acy {g:Int->Int->Int}
 (rule:∀ (i j:Int) (t u:Tok) (s:ax) (Q:ai->ax->zt) (E:ai->ax->zt),Q (.int (g i j) s.toks) { s with toks:=s.toks+1 }->wpAny zf X.A (f (.int i t)<|.int j u) Q E s) :
 bc X f (kB λi j=>.int<|g i j):=by
 intro pins s σ H x y v u Q I rx ry h;let#[i,j,rfl,rfl,q]:=h;let#[t,rfl]:=rx;let#[t',rfl]:=ry;show rule i j t t' s _ _ #[.int _,H,I.tok _,#[_,rfl],q]
theorem HP {g:Int->Int->Bool}
 (rule:∀ (i j:Int) (t u:Tok) (s:ax) (Q:ai->ax->zt) (E:ai->ax->zt),Q (.bool<|g i j) s->wpAny zf X.A (f (.int i t)<|.int j u) Q E s) :
 bc X f (kB λi j=>.bl<|g i j):=by
 intro pins s σ H x y v u Q I rx ry h;let#[i,j,rfl,rfl,q]:=h;let#[t,rfl]:=rx;let#[t',rfl]:=ry;show rule i j t t' s _ _ #[.bl _,H,I,rfl,q]
def uJ (i j:Int):zt:=0<j /\ j<1073741824
def xt (i j:Int):zt:=0<=j /\ j<=1000000 /\ i.natAbs<2 ^ 64
def vC (i j:Int):zt:=(-(2 ^ 64)<i /\ i<2 ^ 64) \/ (-(2 ^ 64)<j /\ j<2 ^ 64)
theorem vC.ok {i j:Int}(h:vC i j):IntMulOk i j:=by
 rcases h with⟨h1,h2⟩|⟨h1,h2⟩
 .show .of_left<|aal h1 h2
 .show .of_right<|aal h1 h2
theorem Tw:bc X (binaryOp .Add) (kB λi j=>.int<|i+j):=acy λ_ _ _ _ _ _ _ q=>add_int q
theorem Tz:bc X (binaryOp .Sub) (kB λi j=>.int<|i-j):=acy λ_ _ _ _ _ _ _ q=>sub_int q
theorem TB:bc X (binaryOp .Mult) (rI vC λi j=>.int<|i*j):=HN λ_ _ _ _ _ _ _ hc q=>mul_int q hc.ok
theorem Oy:bc X (binaryOp .FloorDiv) (rI uJ λi j=>.int<|i / j):=HN λi j _ _ _ _ _ hc q=>by
 have h1:=hc.1;have h2:=hc.2;show floordiv_int za (by rw[Int.fdiv_eq_ediv_of_nonneg i za];show q)<|.inl<|PyProof.noPylong_small za
theorem TC:bc X (binaryOp .Mod) (rI (λ_ j=>0<j) λi j=>.int<|i % j):=HN λi j _ _ _ _ _ hc q=>mod_int' za (by rw[Int.fmod_eq_emod_of_nonneg i za];show q)
theorem TD:bc X (binaryOp .Pow) (rI xt λi j=>.int<|i ^ j.toNat):=HN λ_ _ _ _ _ _ _ hc q=>pow_int_small hc.1 hc.2.1 hc.2.2 q
theorem agy {f:ai->Sem ai}{g:Int->Int}
 (rule:∀ (i:Int) (t:Tok) (s:ax) (Q:ai->ax->zt) (E:ai->ax->zt),Q (.int (g i) s.toks) { s with toks:=s.toks+1 }->wpAny zf X.A (f<|.int i t) Q E s) :
 XX X f (rU λi=>.int<|g i):=by
 intro pins s σ H x v Q I rx h;let#[i,rfl,q]:=h;let#[t,rfl]:=rx;show rule i t s _ _ #[.int _,H,I.tok _,#[_,rfl],q]
theorem LM:XX X (unaryOp .USub) (rU λi=>.int<|-i):=agy λ_ _ _ _ _ q=>neg_int q
end
noncomputable def acz:V->V->Bool
 |.non,.non=>ah|.non,.int _=>ah|.int _,.non=>ah|.non,.bl _=>ah|.bl _,.non=>ah|.non,.str _=>ah|.str _,.non=>ah
 |.int _,.int _=>ah|.bl _,.bl _=>ah|.str _,.str _=>ah|.pH _,.pH _=>ah
 |.int _,.str _=>ah|.str _,.int _=>ah|.bl _,.str _=>ah|.str _,.bl _=>ah
 |_,_=>af
def XZ:R2:=λx y H Q=>acz x y=ah /\ Q (.bl<|decide (x=y)) H
def acA:R2:=λx y H Q=>acz x y=ah /\ Q (.bl<|!decide (x=y)) H
theorem Gj {i j:Int}:decide (V.int i=V.int j)=(i==j):=by
 rw[kQ];simp
theorem LN {i j:Bool}:decide (V.bl i=V.bl j)=(i==j):=by
 rw[kQ];simp
theorem Gk {i j:Str}:decide (V.str i=V.str j)=(i==j):=by
 rw[kQ];simp
theorem Gm {i j:Array UInt8}:decide (V.pH i=V.pH j)=(i.toList==j.toList):=by
 rw[kQ];cases i;cases j;simp
section
variable {a b c:au} {ta tb tc:TE} 
theorem fW {s:ax}{Q:VK}{k k':Bool}(I:Inv X pins σ H s) (q:Q (.bl k) H) (e:k=k'):EP X pins σ Q (.bool k') s:=by
 subst e;show#[.bl k,H,I,rfl,q]
theorem V2:bc X (compareOp .Eq) XZ:=by
 intro pins s σ H x y v u Q I rx ry h;let#[hs,q]:=h;cases x with
 |non=>
   cases rx;cases y with
   |non=>cases ry;show afv<|fW I q<|rfl
   |bl j=>cases ry;show afw<|fW I q<|rfl
   |int j=>let#[t',rfl]:=ry;show afx<|fW I q<|rfl
   |str j=>let#[t',rfl]:=ry;show afy<|fW I q<|rfl
   |_=>show absurd (hs) c6
 |bl i=>
   cases rx;cases y with
   |non=>cases ry;show afz<|fW I q<|rfl
   |bl j=>cases ry;show eq_bool<|fW I q LN
   |str j=>let#[t',rfl]:=ry;show afJ<|fW I q<|rfl
   |_=>show absurd (hs) c6
 |int i=>
   let#[t,rfl]:=rx;cases y with
   |non=>cases ry;show afA<|fW I q<|rfl
   |int j=>let#[t',rfl]:=ry;show eq_int<|fW I q Gj
   |str j=>let#[t',rfl]:=ry;show afK<|fW I q<|rfl
   |_=>show absurd (hs) c6
 |str i=>
   let#[t,rfl]:=rx;cases y with
   |non=>cases ry;show afB<|fW I q<|rfl
   |bl j=>cases ry;show afL<|fW I q<|rfl
   |int j=>let#[t',rfl]:=ry;show afM<|fW I q<|rfl
   |str j=>let#[t',rfl]:=ry;show eq_str<|fW I q Gk
   |_=>show absurd (hs) c6
 |pH i=>
   let#[t,rfl]:=rx;cases y with
   |pH j=>let#[t',rfl]:=ry;show PySem.W.eq_bytes<|fW I q Gm
   |_=>show absurd (hs) c6
 |_=>cases y<;>show absurd (show af=ah from hs) c6
theorem V3:bc X (compareOp .NotEq) acA:=by
 intro pins s σ H x y v u Q I rx ry h;let#[hs,q]:=h;cases x with
 |non=>
   cases rx;cases y with
   |non=>cases ry;show afC<|fW I q<|rfl
   |bl j=>cases ry;show afD<|fW I q<|rfl
   |int j=>let#[t',rfl]:=ry;show afE<|fW I q<|rfl
   |str j=>let#[t',rfl]:=ry;show afF<|fW I q<|rfl
   |_=>show absurd (hs) c6
 |bl i=>
   cases rx;cases y with
   |non=>cases ry;show afG<|fW I q<|rfl
   |bl j=>cases ry;show ne_bool<|fW I q<|congrArg not LN
   |str j=>let#[t',rfl]:=ry;show afN<|fW I q<|rfl
   |_=>show absurd (hs) c6
 |int i=>
   let#[t,rfl]:=rx;cases y with
   |non=>cases ry;show afH<|fW I q<|rfl
   |int j=>let#[t',rfl]:=ry;show ne_int<|fW I q<|congrArg not Gj
   |str j=>let#[t',rfl]:=ry;show afO<|fW I q<|rfl
   |_=>show absurd (hs) c6
 |str i=>
   let#[t,rfl]:=rx;cases y with
   |non=>cases ry;show afI<|fW I q<|rfl
   |bl j=>cases ry;show afP<|fW I q<|rfl
   |int j=>let#[t',rfl]:=ry;show afQ<|fW I q<|rfl
   |str j=>let#[t',rfl]:=ry;show ne_str<|fW I q<|congrArg not Gk
   |_=>show absurd (hs) c6
 |pH i=>
   let#[t,rfl]:=rx;cases y with
   |pH j=>let#[t',rfl]:=ry;show PySem.W.ne_bytes<|fW I q<|congrArg not Gm
   |_=>show absurd (hs) c6
 |_=>cases y<;>show absurd (show af=ah from hs) c6
theorem V4:bc X (compareOp .Lt) (kB λi j=>.bl<|decide (i<j)):=HP λ_ _ _ _ _ _ _ q=>lt_int q
theorem V5:bc X (compareOp .LtE) (kB λi j=>.bl<|decide (i<=j)):=HP λ_ _ _ _ _ _ _ q=>le_int q
theorem V6:bc X (compareOp .Gt) (kB λi j=>.bl<|decide (j<i)):=HP λ_ _ _ _ _ _ _ q=>gt_int q
theorem V7:bc X (compareOp .GtE) (kB λi j=>.bl<|decide (j<=i)):=HP λ_ _ _ _ _ _ _ q=>ge_int q
theorem bc.or {r r':R2}(h:bc X f r) (h':bc X f r'):bc X f (λx y H Q=>r x y H Q \/ r' x y H Q):=by
 intro pins s σ H x y v u Q I rx ry q;rcases q with q|q
 .show h pins s σ H x y v u Q I rx ry q
 .show h' pins s σ H x y v u Q I rx ry q
theorem Oz {r:R2}(ho:bc X (compareOp op) r) (ha:PE X a ta) (hb:PE X b tb) (hm:behindInMarks op b=af):PE X (.Compare a [op] [b] pos) (yN r ta tb):=by
 intro pins s σ H Q I h;show aae (XY ha hb I h λv u s2 x y H2 I2 rx ry q=>ho pins s2 σ H2 x y v u Q I2 rx ry q) hm
noncomputable def acB (t:TE):TT:=λσ H Q=>t σ H λx H'=>∃ k,x=.bl k /\ Q k H'
theorem OA {r:R2}(ho:bc X (compareOp op) r) (ha:PE X a ta) (hb:PE X b tb) (hm:behindInMarks op b=af):PT X (.Compare a [op] [b] pos) (acB<|yN r ta tb):=by
 intro pins s σ H Q I h;refine aaf (tE (ha pins s σ H _ I h) λv s1 x H1 I1 r1 q1=>tE (hb pins s1 σ H1 _ I1 q1) λu s2 y H2 I2 r2 q2=>tE (ho pins s2 σ H2 x y v u _ I2 r1 r2 q2) λc s3 z H3 I3 r3 hh=>?_) hm;let#[k,e,q3]:=hh;subst e;cases r3;show pB #[H3,I3,q3]
def X0 (r r':R2) (ta tb tc:TE):TE:=λσ H Q=>ta σ H λx H1=>tb σ H1 λy H2=>r x y H2 λz H3=>∃ k,z=.bl k /\
 (if k=ah then tc σ H3 λw' H4=>r' y w' H4 Q else Q (.bl af) H3)
theorem LO {cS:CmpOp}{r r':R2}(ho:bc X (compareOp op) r) (nj:bc X (compareOp cS) r') (ha:PE X a ta) (hb:PE X b tb) (hc:PE X c tc)
 (hm:lastMarks [op,cS] [b,c]=af:=by with_unfolding_all rfl):PE X (.Compare a [op,cS] [b,c] pos) (X0 r r' ta tb tc):=by
 intro pins s σ H Q I h;refine Compare_chain (tE (ha pins s σ H _ I h) λv s1 x H1 I1 r1 q1=>chain_link<|tE (hb pins s1 σ H1 _ I1 q1) λu s2 y H2 I2 r2 q2=>tE (ho pins s2 σ H2 x y v u _ I2 r1 r2 q2) λd s3 z H3 I3 r3 hh=>?_) hm;let#[k,e,q3]:=hh;subst e;cases r3;refine pB ?_;cases k with
 |false=>show ite_ff #[.bl af,H3,I3,rfl,q3]
 |true=>show ite_tt<|chain_last<|tE (hc pins s3 σ H3 _ I3 q3) λw' s4 z' H4 I4 r4 q4=>nj pins s4 σ H4 y z' u w' Q I4 r2 r4 q4
theorem LP {cS:CmpOp}{r r':R2}(ho:bc X (compareOp op) r) (nj:bc X (compareOp cS) r') (ha:PE X a ta) (hb:PE X b tb) (hc:PE X c tc)
 (hm:lastMarks [op,cS] [b,c]=af:=by with_unfolding_all rfl):PT X (.Compare a [op,cS] [b,c] pos) (acB<|X0 r r' ta tb tc):=by
 intro pins s σ H Q I h;refine isTrue_chain (tE (ha pins s σ H _ I h) λv s1 x H1 I1 r1 q1=>test_link<|tE (hb pins s1 σ H1 _ I1 q1) λu s2 y H2 I2 r2 q2=>tE (ho pins s2 σ H2 x y v u _ I2 r1 r2 q2) λd s3 z H3 I3 r3 hh=>?_) hm;let#[k,e,q3]:=hh;subst e;cases r3;refine pB ?_;cases k with
 |false=>
   let#[k',e',q']:=q3;cases e';show ite_ff #[H3,I3,q']
 |true=>
   refine ite_tt<|test_last<|tE (hc pins s3 σ H3 _ I3 q3) λw' s4 z' H4 I4 r4 q4=>tE (nj pins s4 σ H4 y z' u w' _ I4 r2 r4 q4) λd' s5 z2 H5 I5 r5 hh=>?_;let#[k2,e2,q5]:=hh;subst e2;cases r5;show pB #[H5,I5,q5]
theorem yO:(sizeLine:Nat)<2 ^ 63:=by decide
theorem Fq:bc X (binaryOp .Add) (λx y H Q=>∃ i j,x=.str i /\ y=.str j /\ i.length+j.length<=sizeLine /\ Q (.str<|i++j) H):=by
 intro pins s σ H x y v u Q I rx ry h;let#[i,j,rfl,rfl,hz,q]:=h;let#[t,rfl]:=rx;let#[t',rfl]:=ry;show add_str (λt' tk=>#[.str _,H,I.tok _,#[_,rfl],q]) hz
theorem vals1 {x:V}(r:Vals [x] us):∃ u,us=[u] /\ RelV x u:=by
 cases r with
 |cons r1 r2=>cases r2;show#[_,rfl,r1]
theorem vals2 {x y:V}(r:Vals [x,y] us):∃ u w',us=[u,w'] /\ RelV x u /\ RelV y w':=by
 cases r with
 |cons r1 r2=>
   cases r2 with
   |cons r3 r4=>cases r4;show#[_,_,rfl,r1,r3]
theorem Jq (hc:X.calm=ah):dQ X (.builtin "max") (λxs H Q=>∃ i j,xs=[.int i,.int j] /\ Q (.int (if j>i then j else i)) H):=by
 intro pins s σ H xs us Q I r h;let#[i,j,rfl,q]:=h;let#[u,w',rfl,#[t,rfl],#[t',rfl]]:=vals2 r;refine max_two_ints (I.ok.hd hc) λh' tk k=>#[_,H,I.kept k,?_,q];by_cases hj:j>i
 .rw[if_pos hj,if_pos hj];show#[_,rfl]
 .rw[if_neg hj,if_neg hj];show#[_,rfl]
theorem Jr (hc:X.calm=ah):dQ X (.builtin "min") (λxs H Q=>∃ i j,xs=[.int i,.int j] /\ Q (.int (if j<i then j else i)) H):=by
 intro pins s σ H xs us Q I r h;let#[i,j,rfl,q]:=h;let#[u,w',rfl,#[t,rfl],#[t',rfl]]:=vals2 r;refine min_two_ints (I.ok.hd hc) λh' tk k=>#[_,H,I.kept k,?_,q];by_cases hj:j<i
 .rw[if_pos hj,if_pos hj];show#[_,rfl]
 .rw[if_neg hj,if_neg hj];show#[_,rfl]
theorem Js:dQ X (.type "int") (λxs H Q=>(∃ i,xs=[.int i] /\ Q (.int i) H) \/ ∃ k,xs=[.bl k] /\ Q (.int (if k then 1 else 0)) H):=by
 intro pins s σ H xs us Q I r h;rcases h with⟨i,rfl,q⟩|⟨k,rfl,q⟩
 .let#[u,rfl,t,rfl]:=vals1 r;show call_int_int #[.int i,H,I,#[_,rfl],q]
 .let#[u,rfl,r1]:=vals1 r;cases r1;show call_int_bool #[.int _,H,I.tok _,#[_,rfl],q]
end
structure X1 (h:aK) (x dx C:ak) (mA:Str->Option ai):zt where
 obj:h.get? x=ae (PySem.W.instObj C dx)
 ns:h.Ns1 dx mA
 ne:dx≠x
theorem Jt {dx:ak}(n:h.Ns1 dx mA):∃ od,h.get? dx=ae od /\ ∀ name,PySem.W.lookIn name od=ae (mA name):=by
 let#[o,es,ep,ho,hd,hk,_,hm]:=n;refine#[o,ho,λname=>?_];have e:=hm name;unfold nsFind findBy at e;rw[<-Array.find?_toList]at e;unfold PySem.W.lookIn;rw[hd];dsimp only;split
 .ext y q;rw[q]at e;show congrArg ae e
 .ext q;rw[q]at e;have a:es.toList.any (·.refKey)=af:=by
   rw[Hd];intro y hy;let#[z,t,X2]:=hk y<|Array.mem_toList_iff.mp hy;simp[DictEntry.refKey,X2]
  have a':¬ es.toList.any (·.refKey)=ah:=by rw[a];show c6
  rw[if_neg a'];show congrArg ae e
theorem X1.look {x dx C:ak}(I:X1 h x dx C mA):∃ od,PySem.W.InstAt h x (PySem.W.instObj C dx) C (ae od) /\ ∀ name,PySem.W.lookIn name od=ae (mA name):=
 let ⟨od,ho,hl⟩:=Jt I.ns
 #[od,#[I.obj,rfl,rfl,ho],hl]
section
variable {s:ax} {x dx C f:ak} {name:Str} {v:ai}
end
theorem nN.some_of {o:Option ai}(r:nN (ae v) o):∃ u,o=ae u /\ RelV v u:=by
 cases o with
 |none=>show(r).elim
 |some u=>show#[u,rfl,r]
section
variable {C dx:ak} {fs af3:List (Str × V)}
theorem OB (aD:cG P w H h) (e:H a=ae (.ins C dx fs)):∃ mA,X1 h a dx C mA /\ (∀ f,nN (fs.lookup f)<|mA f) /\ PySem.Within mA (fs.map (·.1)) /\ fs.length<=1000 /\ H dx=ae (.own a):=by
 let#[d,z,ne,ob,mA,n,r,q]:=(aD a _ e);show#[mA,#[ob,n,ne],r,q,z,d]
end
structure X3 (K:PySem.W.Frag) (C:ak):zt where
 pg:PySem.W.plainGet K C Str.empty=ah
 hd:PySem.W.hasDictIn K C=ah
 po:PySem.W.plainOver K C=ah
 sa:PySem.W.findIn K (.ref C) "__setattr__"=ae (ae<|.builtin "object.__setattr__")
theorem X3.get {C:ak}(c:X3 K C) (f:Str):PySem.W.plainGet K C f=ah:=c.pg
section
variable {s:ax} {C dx:ak} {fs:List (Str × V)} {f:Str} 
end
section
variable {o value:au} {f:Str} {HQ:aM} {ta tv:TE}
end
section
variable {s:ax} {c:ai} {b:Bool}
inductive nR (K:PySem.W.Frag) (H:Hp):V->ai->zt where
 |non:nR K H .non (.type "NoneType")
 |bl (x:Bool):nR K H (.bl x) (.type "bool")
 |int (i:Int):nR K H (.int i) (.type "int")
 |str (x:Str):nR K H (.str x) (.type "str")
 |uF (x:UInt64):nR K H (.uF x) (.type "float")
 |lst {a:ak}{xs:List V}(e:H a=ae (.lst xs)):nR K H (.ref a) (.type "list")
 |bK {a:ak}{o:aZ}{xs:List V}(e:H a=ae (.bK o<|.lst xs)):nR K H (.ref a) (.type "list")
 |tup {a:ak}{xs:List V}(e:H a=ae (.tup xs)):nR K H (.ref a) (.type "tuple")
 |dK {a:ak}{ao:List (Key×V)}(e:H a=ae (.dK ao)):nR K H (.ref a) (.type "dict")
 |dT {a:ak}{ao:List (List Key×V)}(e:H a=ae (.dT ao)):nR K H (.ref a) (.type "dict")
 |ins {a C dx:ak}{fs:List (Str×V)}(e:H a=ae (.ins C dx fs)) (cl:X3 K C) (ha:PySem.W.findIn K (.ref C) "__class__"=ae (ae<|.builtin "object.__class__"))
  (hn:PySem.W.specialIn K (.builtin "object.__class__") "__get__"=ae (ae<|.builtin "getset_descriptor.__get__")) (acC:PySem.W.takesIn K (.builtin "object.__class__")=ae ah)
  (hm:PySem.W.mroIn K C (.type "object")=ae ah):nR K H (.ref a) (.ref C)
theorem Ju {x:V}{t:ai}(I:Inv X pins σ H s) (rx:RelV x u) (ty:nR X.K H x t) (e:PySem.W.kitOne X.K t c=ae b) (h:∀ tk,Q (.bool b) { s with toks:=tk }) :
 wpAny zf A (call (.builtin "isinstance") [u,c]) Q E s:=by
 cases ty with
 |non=>cases (rx);show qI PySem.W.kitx_none I.kA True.intro e (λz=>nomatch z) h
 |bl y=>cases (rx);show qI PySem.W.kitx_bool I.kA True.intro e (λz=>nomatch z) h
 |int i=>let#[t,q]:=(rx);cases q;show qI PySem.W.kitx_int I.kA True.intro e (λz=>nomatch z) h
 |str y=>let#[t,q]:=(rx);cases q;show qI PySem.W.kitx_str I.kA True.intro e (λz=>nomatch z) h
 |uF y=>let#[t,q]:=(rx);cases q;show qI PySem.W.kitx_float I.kA True.intro e (λz=>nomatch z) h
 |@lst a xs ea=>
   cases (rx);let#[_,_,n,_,h1]:=(I.aD a _ ea);show qI abH I.kA #[_,h1,rfl] e (λz=>nomatch z) h
 |@bK a ob xs ea=>
   cases (rx);let#[_,_,_,n,_,h1]:=(I.aD a _ ea);show qI abH I.kA #[_,h1,rfl] e (λz=>nomatch z) h
 |@tup a xs ea=>
   cases (rx);let#[_,_,_,p]:=(I.aD a _ ea);let#[o,h1,h2,_]:=p;show qI PySem.W.kitx_tuple I.kA #[o,h1,h2] e (λz=>nomatch z) h
 |@dK a ao ea=>
   cases (rx);let#[_,_,vs,_,p]:=(I.aD a _ ea);let#[o,es,ep,h1,h2,_]:=p;show qI abI I.kA #[o,h1,h2.1] e (λz=>nomatch z) h
 |@dT a ao ea=>
   cases (rx);let#[_,_,xs,_,o,es,ep,h1,h2,_]:=(I.aD a _ ea);show qI abI I.kA #[o,h1,h2.1] e (λz=>nomatch z) h
 |@ins a C dx fs ea cl ha hn acC hm=>
   cases (rx);let#[mA,O,_]:=OB I.aD ea;let#[od,J,_]:=O.look;show qI (PySem.W.kitx_own (cl.get _) cl.hd ha hn acC hm) I.kA J e (λz=>nomatch z) h
end
structure c8 (k:Nat) (A:eu):zt where
 hd:A.handled=ag
 dp:A.depth+3*k+5<recursionLimit
 un:A.units+16*k+200<cLine
 gd:A.guards=ae []
theorem c8.mono {k:Nat}(r:c8 k A) (h:j<=k):c8 j A:=#[r.hd,by have:=r.dp;lia,by have:=r.un;lia,r.gd]
theorem c8.deeper {k:Nat}{A:eu}(r:c8 (k+1) A) (env:Env):c8 k (A.deeper env):=
 #[r.hd,by have:=r.dp;change A.depth+1+3*k+5<_;lia,by have:=r.un;change A.units+3+16*k+200<_;lia,by first|show r.gd|(first|rfl|simp[])]
theorem c8.depth {k:Nat}{A:eu}(r:c8 k A):A.depth<recursionLimit:=by have:=r.dp;lia
theorem c8.units {k:Nat}{A:eu}(r:c8 k A):A.units+64<cLine:=by have:=r.un;lia
def HR:TA:=λ_ H Q=>Q [] H
def HS (ta:TE) (tr:TA):TA:=λσ H Q=>ta σ H λx H1=>tr σ H1 λxs H2=>Q (x::xs) H2
section
variable {te:TE} {t:TA} 
theorem ls:PA X [] HR:=λ_ _ _ _ H Q I h=>xi #[[],H,I,.nil,h]
theorem ji (ha:PE X e te) (hr:PA X es t) (hs:starEach (e::es) X.env=(af,eval e X.env)::starEach es X.env:=by rfl):PA X (e::es) (HS te t):=by
 intro pos pins s σ H Q I h;rw[hs];change wpAny _ _ (spliced ((af,eval e X.env)::backTo pos _)) _ _ s;refine xj<|tE (ha pins s σ H _ I h) λu s1 x H1 I1 r1 q1=>?_;show tA (hr pos pins s1 σ H1 _ I1 q1) λus s2 xs H2 I2 r2 q2=>#[x::xs,H2,I2,.cons r1 r2,q2]
def agz (t:TA):TE:=λσ H Q=>t σ H λxs H1=>xs.length<=sizeLine /\ ∀ p,H1 p=ag->Q (.ref p) (upd H1 p<|.tup xs)
def agA (t:TA):TE:=λσ H Q=>t σ H λxs H1=>xs.length<=sizeLine /\ ∀ p,H1 p=ag->Q (.ref p) (upd H1 p<|.lst xs)
theorem LQ {x1}(h:PA X es t):PE X (.Tuple es x1 pos) (agz t):=by
 intro pins s σ H Q I hq;refine wpAny_Tuple_spliced (tA (h pos pins s σ H _ I hq) λus s1 xs H1 I1 r ⟨z,q⟩=>#[by rw[<-r.length];show z,?_]);refine#[.ref s1.heap.objs.size,upd H1 s1.heap.objs.size _,I1.laid (λb u e=>aW _ e) (aE _) ?_,rfl,q _<|I1.aD.fresh<|aE _];show#[z,us,r,#[_,bE _ zc,rfl,_,rfl]]
theorem LR (h:PA X es t):PE X (.List es pos) (agA t):=by
 intro pins s σ H Q I hq;refine wpAny_List_spliced (tA (h pos pins s σ H _ I hq) λus s1 xs H1 I1 r ⟨z,q⟩=>#[by rw[<-r.length];show z,?_]);refine#[.ref s1.heap.objs.size,upd H1 s1.heap.objs.size _,I1.laid (λb u e=>aW _ e) (aE _) ?_,rfl,q _<|I1.aD.fresh<|aE _];show#[z,us,0,r,bE _ zc]
end
abbrev Sp:=List V->Hp->VK->XK->zt
abbrev qi:=List Env->Hp->ax->XK->ai->ax->zt
structure HU (P:c7) (w:cn) (K:PySem.W.Frag) (mg:Str->Option ai) (base:aK) (A:eu) (outer:List Env) (s:ax) (H:Hp):zt where
 frames:A.frames=ae outer
 mod:Mod K mg base
 bs:∀ b o,base.get? b=ae o->s.heap.get? b=ae o /\ H b=ag
 vt:base.objs.size<=s.heap.objs.size
 qK:s.heap.FunFrames base outer
 xp:∀ b∈pJ outer,H b=ag
 aD:cG P w H s.heap
 bare:AllBare s.gens
def CE (outer:List Env) (P:c7) (w:cn) (H:Hp) (s:ax) (Q:VK) (u:ai) (s':ax):zt:=
 ∃ v H',s'.os=s.os /\ AllBare s'.gens /\ Un (pJ outer) [] H H' s.heap s'.heap /\ cG P w H' s'.heap /\ RelV v u /\ Q v H'
def CR (CX:qi) (outer:List Env) (P:c7) (w:cn) (H:Hp) (s:ax) (Q:VK) (E:XK) (r:Result) (s':ax):zt:=
 match r with
 |.ok (.ret u)=>CE outer P w H s Q u s'
 |.ok _=>False
 |.error e=>CX outer H s E e s'
structure kC (P:c7) (w:cn) (K:PySem.W.Frag) (mg:Str->Option ai) (base:aK) (CX:qi) (k:Nat) (f:ak) (fd:FuncData) (ps:List Str) (sp:Sp):zt where
 len:∀ vs H Q E,sp vs H Q E->vs.length=ps.length
 run:∀ (A:eu) (outer:List Env) (s:ax) (H:Hp) (args:Args) (us:List ai) (vs:List V) (Q:VK) (E:XK),c8 k A->HU P w K mg base A outer s H->BindsTo s fd args (ps.zip us)->Vals vs us->sp vs H Q E ->
  codeAny (model P w) A (.call (.ref f) args) (CR CX outer P w H s Q E) s
theorem kC.mono {P:c7}{w:cn}{K:PySem.W.Frag}{mg:Str->Option ai}{base:aK}{CX:qi}{j k:Nat}{f:ak}{fd:FuncData}{ps:List Str}{sp:Sp}(F:kC P w K mg base CX j f fd ps sp) (h:j<=k) :
 kC P w K mg base CX k f fd ps sp:=#[F.len,λA outer s H args us vs Q E hr=>F.run A outer s H args us vs Q E<|hr.mono h]
section
variable {s s':ax}
theorem Inv.agB (I:Inv X pins σ H s):HU X.prog X.w X.K X.mg X.base X.A X.stack s H:=
 #[I.ok.frames,I.ok.mod,I.bs,cx I.ok.vt I.sz,I.stack,I.aca,I.aD,I.bare]
theorem Inv.after {Q:VK}(I:Inv X pins σ H s) (h:CE X.stack X.prog X.w H s Q u s'):EP X pins σ Q u s':=by
 let#[v,H',os,bare,un,aD,r,q]:=h;let#[hh,g,d,t,X4]:=s';obtain rfl:X4=s.os:=os;show#[v,H',I.call un aD bare λb z=>absurd z zj,r,q]
end
def acD (sp:Sp) (vD:List V) (E:XK) (t:TA):TE:=λσ H Q=>t σ H λvs H1=>sp (vs++vD) H1 Q E
def Binds (K:PySem.W.Frag) (fd:FuncData) (ps:List Str) (ds:List ai):zt:=
 ∀ (s:ax) (us:List ai),K.In s.heap->(us++ds).length=ps.length->BindsTo s fd #[us,[]] (ps.zip<|us++ds)
theorem Binds.all {ps:List Str}(h:∀ us:List ai,us.length=ps.length->bindArgs fd #[us,[]]=pure (ps.zip us)):Binds K fd ps []:=λs us _ hl=>by
 rw[uC]at hl ⊢;show .of_eq<|h us hl
def Passes (CX:qi) (X:Cx) (E:XK):zt:=∀ (pins:List<|ak×aZ) (σ:St) (H:Hp) (s:ax) (e:ai) (s':ax),Inv X pins σ H s->CX X.stack H s E e s'->X.xe e s'
section
variable {CX:qi} {k:Nat} {f C:ak} {ps:List Str} {sp:Sp} {vD:List V} {ds:List ai} {E:XK} {m:Str} {p:aM} {o:au} {ta:TE} {t:TA}
theorem TF {s:ax}{Q:VK}{vs:List V}(F:kC X.prog X.w X.K X.mg X.base CX k f fd ps sp) (hr:c8 k X.A) (hb:Binds X.K fd ps ds) (hd:Vals vD ds) (hx:Passes CX X E)
 (I:Inv X pins σ H s) (r:Vals vs us) (h:sp (vs++vD) H Q E):wpAny zf X.A (call (.ref f) us) (EP X pins σ Q) X.xe s:=by
 have r2:=r.append hd;have hl:(us++ds).length=ps.length:=by rw[<-r2.length];show F.len _ _ _ _ h
 refine wpAny_call<|wI (F.run X.A X.stack s H _ _ _ Q E hr I.agB (hb s us I.kA hl) r2 h) λr s' hq=>?_;cases r with
 |error e=>show hx pins σ H s e s' I hq
 |ok fl=>
   cases fl with
   |ret u=>show I.after hq
   |_=>show False.elim hq
theorem OC (F:kC X.prog X.w X.K X.mg X.base CX k f fd ps sp) (hr:c8 k X.A) (hg:Gl X x) (hm:X.mg x=ae (.ref f)) (hk:PySem.W.keepIn X.K (.ref f)=ah) (hb:Binds X.K fd ps ds) (hd:Vals vD ds) (hx:Passes CX X E)
 (ha:PA X (e::es) t) (dE:(x==("__debug__":Str))=af:=by decide) (he:starEach (e::es) X.env=(af,eval e X.env)::starEach es X.env:=by rfl) (kT:(backTo pos<|starEach es X.env).any (·.1)=af:=by rfl) :
 PE X (.Call (.Name x p) (e::es) [] pos) (acD sp vD E t):=by
 intro pins s σ H Q I h;refine uv<|Gg I hg hm ?_ dE;refine PySem.W.callWith_K I.ok.mod.XJ hk (tA (ha pos pins s σ H _ I h) λus s1 vs H1 I1 r q=>#[I1.kA,?_]) he kT;show TF F hr hb hd hx I1 r q
end
section
variable {CX:qi} {k:Nat} {f C:ak} {ps ks:List Str} {sp:Sp} {E:XK} {m:Str} {p akS:aM} {o:au} {akT:List Keyword} {te ta:TE} {t tk:TA} {nm:Option Str}
variable {g:List ai -> List ai -> List ai} {gV:List V -> List V -> List V}
end
structure xu (N P:List Str) (sc:bT):zt where
 kind:sc.kind=.function
 co:sc.isCoroutine=af
 gen:sc.isGenerator=af
 nd:N.Nodup
 pre:N.take P.length=P
 par:∀ x∈P,sc.names.lookup x=ae .local \/ sc.names.lookup x=ae .cell
 agC:∀ y∈sc.names,y.2≠.free
theorem BL {kindOf:Str->Option NameKind}{x:Str}:∀ {binds:List (Str×ai)}{m:Str->Option ai},(∀ v,(x,v)∉binds)->bindL kindOf binds m x=m x
 |[],_,_=>rfl
 | (n,v)::r,m,h=>by
   unfold bindL;rw[BL λw hw=>h w<|bu _ hw];split
   .have:x≠n:=by rintro rfl;show h v bC
    simp[this]
   .rfl
theorem BM {kindOf:Str->Option NameKind}{x:Str}:∀ {binds:List (Str×ai)}{m:Str->Option ai},(∀ v,(x,v)∉binds)->bindC kindOf binds m x=m x
 |[],_,_=>rfl
 | (n,v)::r,m,h=>by
   unfold bindC;rw[BM λw hw=>h w<|bu _ hw];split
   .rfl
   .have:x≠n:=by rintro rfl;show h v bC
    simp[this]
theorem BN {kindOf:Str->Option NameKind}{x:Str}{v:ai}:∀ {P:List Str}{vs:List ai}{i:Nat}{m:Str->Option ai},P.Nodup->P[i]?=ae x->vs[i]?=ae v->kindOf x=ae .local ->
 bindL kindOf (P.zip vs) m x=ae v
 |[],_,_,_,_,h,_,_=>by simp at h
 |_::_,[],_,_,_,_,h,_=>by simp at h
 | p::P,w::vs,0,m,nd,h1,h2,hk=>by
   simp at h1 h2;subst h1;subst h2;change bindL kindOf ((p,w)::P.zip vs) m p=_;unfold bindL;rw[BL λv hv=>(tK.mp nd).1 (QX hv).1,if_pos hk];simp
 | p::P,w::vs,i+1,m,nd,h1,h2,hk=>by
   unfold bindL;show BN (tK.mp nd).2 (by simpa using h1) (by simpa using h2) hk
theorem BO {kindOf:Str->Option NameKind}{x:Str}{v:ai}:∀ {P:List Str}{vs:List ai}{i:Nat}{m:Str->Option ai},P.Nodup->P[i]?=ae x->vs[i]?=ae v->kindOf x≠ae .local ->
 bindC kindOf (P.zip vs) m x=ae v
 |[],_,_,_,_,h,_,_=>by simp at h
 |_::_,[],_,_,_,_,h,_=>by simp at h
 | p::P,w::vs,0,m,nd,h1,h2,hk=>by
   simp at h1 h2;subst h1;subst h2;change bindC kindOf ((p,w)::P.zip vs) m p=_;unfold bindC;rw[BM λv hv=>(tK.mp nd).1 (QX hv).1,if_neg hk];simp
 | p::P,w::vs,i+1,m,nd,h1,h2,hk=>by
   unfold bindC;show BO (tK.mp nd).2 (by simpa using h1) (by simpa using h2) hk
noncomputable def start (N:List Str) (vs:List V):St:=vs.map ae++List.replicate (N.length-vs.length) ag
noncomputable def uK (CX:qi) (P:c7) (w:cn) (K:PySem.W.Frag) (mg:Str->Option ai) (base:aK) (N:List Str) (qual:Str) (scope:bT) (f:ak) (cd:ai) (A:eu) (outer:List Env) (s:ax) (H:Hp) (E:XK):Cx where
 prog:=P
 w:=w
 K:=K
 mg:=mg
 base:=base
 A:=A.deeper<|envOfC qual scope s.heap.objs.size f cd
 N:=N
 s₀:=s
 H₀:=H
 env:=envOfC qual scope s.heap.objs.size f cd
 outer:=outer
 stack:=envOfC qual scope s.heap.objs.size f cd::outer
 ex:=[]
 calm:=ah
 fn:=λ_=>ah
 pn:=[]
 xe:=λe s'=>wpAny (model P w) (A.deeper<|envOfC qual scope s.heap.objs.size f cd) (leaving (envOfC qual scope s.heap.objs.size f cd) e) (λ_ X5=>CX outer H s E e X5) (λe' X5=>CX outer H s E e' X5) s'
theorem AB {sc:bT}(h:sc.names.lookup x=ae .cell):∃ c,(cellsFrom n sc.names []).lookup x=ae c:=by
 show Option.isSome_iff_exists.mp<|abJ sc.names n []<|.inl h
theorem Jv {CX:qi}{ps:List Str}{qual:Str}{scope:bT}{f:ak}{cd:ai}{outer:List Env}{s s1:ax}{E:XK}{vs:List V}
 (S:xu N ps scope) (hd:A.handled=ag) (e0:HU P w K mg base A outer s H) (hl:vs.length=ps.length) (r:Vals vs us)
 (x:InCallC s s.heap.objs.size (bindL (envOfC qual scope s.heap.objs.size f cd).kindOf (ps.zip us) λ_=>ag) (cellsFrom (s.heap.objs.size+1) scope.names []) (bindC (envOfC qual scope s.heap.objs.size f cd).kindOf (ps.zip us) λ_=>ag) s1) :
 Inv (uK CX P w K mg base N qual scope f cd A outer s H E) [] (start N vs) H s1:=by
 have kT:ps.length<=N.length:=by have:=congrArg List.length S.pre;rw[yB]at this;lia
 let#[h1,tk,rfl,hk]:=x.done;have yP:∀ b,b∉(uK CX P w K mg base N qual scope f cd A outer s H E).ex:=λb z=>absurd (show b∈([]) from z) zj;refine#[#[e0.mod,S.kind,rfl,rfl,aE _,λy z c h1 h2=>?_,λy hy=>?_,λy c _ h=>?_,λ_=>hd,Around.frames_deeper e0.frames,.inr #[rfl,rfl],λb z=>absurd z<|yP b,e0.bs,e0.vt,λb _ _=>yP b,λb z=>absurd z<|yP b,e0.qK,e0.xp],
  rfl,e0.bare,Un.kept hk,#[_,x.toInCall.ns,λi y v h1 h2 h3=>?_],λy c h=>#[_,x.cell y c h],e0.aD.fresh<|aE _,λy c h=>?_,λp hp=>absurd (show p∈([]) from hp) zj,e0.aD.kept hk,?_]
 .show aam x.apart (nK h1)<|nK h2
 .rcases hy with hy|hy
  .show AB hy
  .show absurd zc<|S.agC _<|nK hy
 .show nL<|x.above y c<|nK h
 .have hi:i<vs.length:=by
   unfold start at h2;by_cases hi:i<vs.length
   .show hi
   .rw[k9 (by simpa using hi)]at h2;rw[aaR]at h2;split at h2<;>cases h2
  have ha:vs[i]?=ae v:=by
   unfold start at h2;rw[dZ (by simpa using hi),kr]at h2;cases e:vs[i]? with
   |none=>rw[e]at h2;cases h2
   |some a=>rw[e]at h2;cases h2;rfl
  let#[u,hu,rv]:=r.get ha;have hp:ps[i]?=ae y:=by
   rw[<-S.pre,aaS za];show h1
  have acE:ps.Nodup:=by rw[<-S.pre];show S.nd.sublist<|aaT _ _
  refine#[u,rv,?_];rcases S.par y (pD hp) with k|k
  .show .inl #[k,BN acE hp hu k]
  .let#[c,e]:=AB k;refine .inr #[.inl k,c,e,?_];have q:=x.cell y c e;rw[BO acE hp hu (by change scope.names.lookup y≠_;rw[k];decide)]at q;show q
 .show e0.aD.fresh<|nL<|x.above y c<|nK h
 .unfold start;change _=N.length;rw[cX,a5,QY];lia
theorem V8 {CX:qi}{k:Nat}{f:ak}{name qual:Str}{params:Arguments}{body:List b9}{scope:bT}{dV kV doc pm bH ct oc:ai}{an od:Option ak}
 {ps:List Str}{sp:Sp}(lk:K.lookup f=ae #[oc,od,.func<|PySem.W.fnOf name qual params body scope dV kV doc pm an bH ct,qy]) (pK:PySem.W.codeIn K bH qual=ah) (S:xu N ps scope)
  (len:∀ vs H Q E,sp vs H Q E->vs.length=ps.length)
  (vE:∀ (A:eu) (outer:List Env) (s:ax) (H:Hp) (vs:List V) (Q:VK) (E:XK),c8 k (A.deeper<|envOfC qual scope s.heap.objs.size f bH)->sp vs H Q E ->
   ∃ t,kg (uK CX P w K mg base N qual scope f bH A outer s H E) body t /\ t { nx:=λ_ H'=>Q .non H',rt:=Q } (start N vs) H) :
  kC P w K mg base CX (k+1) f (PySem.W.fnOf name qual params body scope dV kV doc pm an bH ct) ps sp:=by
  refine#[len,λA outer s H args us vs Q E hr e0 hb r xw=>?_];have KX:=e0.mod.XJ.keeps λb o e=>(e0.bs b o e).1;have agD:∀ y∈ps.zip us,scope.names.lookup y.1=ae .local \/ (scope.names.lookup y.1=ae .cell /\ ((cellsFrom (s.heap.objs.size+1) scope.names []).lookup y.1).isSome=ah):=λ⟨n,v⟩ hy=>by
   rcases S.par n (QX hy).1 with q|q
   .show .inl q
   .show .inr #[q,abJ _ _ _<|.inl q]
  refine codeAny_call_function hr.depth (KX _ _ lk) zc S.co S.gen zc (PySem.W.codeRec_of KX pK)<|hb _ _ _ _ ?_;refine wpAny_newFunctionEnv_cells S.kind agD λenv he s1 x=>?_;subst he;refine#[(e0.mod.nolimit.keeps λb o e=>(e0.bs b o e).1).keeps x.toInCall.keep,codeAny_func ?_];let#[t,ht,hq]:=vE A outer s H vs Q E (hr.deeper _) xw;have I:Inv (uK CX P w K mg base N qual scope f bH A outer s H E) [] _ H s1:=Jv S hr.hd e0 (len _ _ _ _ xw) r x;refine kO (ht [] s1 _ H _ I hq) (λfl s' hs=>?_) λe s' hs=>hs;have fin:∀ {σ'}{H'}{v}{u},Inv (uK CX P w K mg base N qual scope f bH A outer s H E) [] σ' H' s'->RelV v u->Q v H'->CE outer P w H s Q u s' :=
   λ{σ' H' v u} J rv q=>#[v,H',J.os,J.bare,J.base,J.aD,rv,q]
  cases fl with
  |ret u=>
    let#[v,σ',H',J,rv,q]:=hs;show fin J rv q
  |next=>
    let#[σ',H',J,q]:=hs;show fin (v:=V.non) J zc q
  |brk=>
    let#[_,_,_,q]:=hs;show False.elim q
  |cont=>
    let#[_,_,_,q]:=hs;show False.elim q
end L2
variable {CX:L2.qi}
namespace L2
section
variable {p:aM} {t:TA} {id T:String} {r:List V -> Hp -> VK -> zt}
def HV (r:List V->Hp->VK->zt) (t:TA):TE:=λσ H Q=>t σ H λvs H1=>r vs H1 Q
theorem mN (hc:dQ X (.builtin id) r) (hg:Gl X x) (hm:X.mg x=ag) (hv:bootBuiltins x=ae (.builtin id)) (ha:PA X (e::es) t) (hn:x ≠ "__name__":=by decide) (dE:(x==("__debug__":Str))=af:=by decide)
 (he:starEach (e::es) X.env=(af,eval e X.env)::starEach es X.env:=by rfl) (kT:(backTo pos<|starEach es X.env).any (·.1)=af:=by rfl):PE X (.Call (.Name x p) (e::es) [] pos) (HV r t):=by
 intro pins s σ H Q I h;refine uv<|jx I hg hm hv ?_ hn dE;show afj (tA (ha pos pins s σ H _ I h) λus s1 vs H1 I1 r1 q1=>hc pins s1 σ H1 vs us Q I1 r1 q1) he kT
theorem Jw (hc:dQ X (.type T) r) (hg:Gl X x) (hm:X.mg x=ag) (hv:bootBuiltins x=ae (.type T)) (ha:PA X (e::es) t) (hn:x ≠ "__name__":=by decide) (dE:(x==("__debug__":Str))=af:=by decide)
 (he:starEach (e::es) X.env=(af,eval e X.env)::starEach es X.env:=by rfl) (kT:(backTo pos<|starEach es X.env).any (·.1)=af:=by rfl):PE X (.Call (.Name x p) (e::es) [] pos) (HV r t):=by
 intro pins s σ H Q I h;refine uv<|jx I hg hm hv ?_ hn dE;show Hq (tA (ha pos pins s σ H _ I h) λus s1 vs H1 I1 r1 q1=>hc pins s1 σ H1 vs us Q I1 r1 q1) he kT
end
end L2
namespace HT
noncomputable def lexLt:List Int->List Int->Bool
 |[],[]=>af
 |[],_::_=>ah
 |_::_,[]=>af
 |x::xs,y::ys=>if x=y then lexLt xs ys else decide (x<y)
theorem gC (x y:Int) (xs ys:List Int):lexLt (x::xs) (y::ys)=if x=y then lexLt xs ys else decide (x<y):=rfl
section
open PySem.SeqAt
open PySem.AutoSeq1 (wpAny_loadPart')
open PySem.MeetsSeq PySem.MeetsSeq2 PySem.MeetsSeq3
end
section
variable {s:ax}
theorem OD {t b:ak}{ws:List ai}(ht:IsTup s.heap t vs.toArray) (hb:IsTup s.heap b ws.toArray) (hv:vs≠[])
 (h1:ws=[]->Q (.ref t) s) (h2:ws≠[]->Q (.ref s.heap.objs.size) { s with heap:=s.heap.push { cls:=.type "tuple",data:=.seq (vs++ws).toArray } })
 (qM:vs.length+ws.length<=sizeLine):wpAny zi A (binaryOp .Add (.ref t)<|.ref b) Q E s:=by
 let#[#[cls,dd,data,sl],ho,hc,n,hd]:=id ht;let#[#[acF,uL,data2,se],sf,kD,n2,hd2]:=id hb;subst hc hd kD hd2;have e:vs.toArray++ws.toArray=(vs++ws).toArray:=by simp
 by_cases hw:ws=[]
 .show Qz #[_,ho,rfl] #[_,sf,rfl] QA QB Xy Xz (XA _ _)
   (tuple_addW1 t b vs.toArray ws.toArray n n2 dd uL sl se (by simpa using hv) (by simp[hw])) #[ho,sf,h1 hw]
 .refine Qz #[_,ho,rfl] #[_,sf,rfl] QA QB Xy Xz (XA _ _)
   (tuple_addW2 t b vs.toArray ws.toArray n n2 dd uL sl se (by simpa using hv) (by simpa using hw)<|qM) #[ho,sf,?_]
  rw[e];show h2 hw
noncomputable def a9 (n d:Nat):Option Int->Nat
 |none=>d
 |some v=>if v<0 then (v+(n:Int)).toNat else min v.toNat n
theorem LS (n d:Nat):a9 n d ag=d:=rfl
theorem OE (n d k:Nat):a9 n d (ae (k:Int))=min k n:=by
 change (if (k)<0 then ((k)+(n:Int)).toNat else min (k:Int).toNat n)=min k n;rw[if_neg za,nM]
theorem Yi (n d:Nat) (hd:d<=n) (o:Option Int):a9 n d o<=n:=by
 cases o with
 |none=>show hd
 |some v=>
   change (if v<0 then (v+(n)).toNat else min v.toNat n)<=n;by_cases hv:v<0
   .rw[if_pos hv];lia
   .rw[if_neg hv];show Nat.min_le_right _ _
theorem Gn (v:Int) (n d:Nat):(if v<0 then max (v+(n:Int)) 0 else min v (n:Int))=((a9 n d (ae v):Nat):Int):=by
 change (if v<0 then max _ 0 else min v (n))=(((if v<0 then (v+(n)).toNat else min v.toNat n)));by_cases hv:v<0
 .erw[if_pos hv];lia
 .simp[if_neg hv];lia
theorem Fs (lo hi:Option Int) (n:Nat):Builtin.Slice.sliceAdjust lo hi 1 (n:Int)=(((a9 n 0 lo:Nat):Int),((a9 n n hi:Nat):Int)):=by
 refine Prod.ext ?_ ?_
 .cases lo with
  |none=>rfl
  |some v=>show Gn v n 0
 .cases hi with
  |none=>rfl
  |some v=>show Gn v n n
theorem Ft (i j:Nat):Builtin.Slice.slicePlaces (i:Int) (j:Int) 1=j-i:=by
 unfold Builtin.Slice.slicePlaces;split<;>lia
theorem AC {v:ai}{o:Option Int}{Q:Option Int->ax->zt}(p:IsPart v o) (h:Q o s):wpAny zi A (Builtin.Slice.slicePartIndex v) Q E s:=by
 cases p with
 |none=>show abo h
 |int i t=>show slicePart_int h
theorem jA {sl:ak}{vl vu:ai}{lo hi:Option Int}{Q:Int×Int×Nat->ax->zt}(hs:s.heap.IsSliceOf sl vl vu .none) (pl:IsPart vl lo) (pu:IsPart vu hi)
 (h:Q (((a9 n 0 lo:Nat):Int),1,a9 n n hi-a9 n 0 lo) s):wpAny zi A (Builtin.Slice.sliceApplied (.ref sl)<|pure (n:Int)) Q E s:=by
 let#[os,vF,HW,pL]:=id hs;refine aj<|aj<|kP vF pL zc<|aj<|kP vF pL (x:=vu) zc<|aj<|kP vF pL zc<|aA ?_;refine aj<|abo ?_;refine aj<|AC pl<|aj<|AC pu<|aj<|aA ?_;change wpAny _ _ (match Builtin.Slice.sliceAdjust lo hi 1 (n) with|(lo,hi)=>pure (lo,(1:Int),Builtin.Slice.slicePlaces lo hi 1)) _ _ s;rw[Fs lo hi n];change wpAny _ _ (pure (((a9 n 0 lo):Int),(1),Builtin.Slice.slicePlaces _ _ 1)) _ _ s;rw[Ft];show aA h
theorem LU (xs:Array ai) (i k:Nat):((List.range k).filterMap λ(m:Nat)=>xs[((i:Int)+(m:Int)*1).toNat]?).toArray=((xs.toList.drop i).take k).toArray:=by
 have e:(λ(m:Nat)=>xs[((i)+(m:Int)*1).toNat]?)=λm=>xs[i+m]?:=by
  funext m;have:((i)+(m:Int)*1).toNat=i+m:=by lia
  rw[this]
 rw[e];have:=pick_run xs i k;rw[aaU]at this;have e2:((λx=>xs[x]?)∘λx=>i+x)=λm=>xs[i+m]?:=rfl;rw[e2]at this;rw[this]
theorem mO {t sl:ak}{vl vu:ai}{lo hi:Option Int}(ht:IsTup s.heap t items) (hs:s.heap.IsSliceOf sl vl vu .none) (pl:IsPart vl lo) (pu:IsPart vu hi)
 (hw:¬ (a9 items.size 0 lo=0 /\ a9 items.size items.size hi=items.size))
 (h:Q (.ref s.heap.objs.size) { s with heap:=s.heap.push { cls:=.type "tuple",data:=.seq ((items.toList.drop<|a9 items.size 0 lo).take<|a9 items.size items.size hi-a9 items.size 0 lo).toArray } })
 (qM:items.size<=sizeLine):wpAny zi A (getItem (.ref t)<|.ref sl) Q E s:=by
 have X6:sizeOk (.seq ((items.toList.drop<|a9 items.size 0 lo).take<|a9 items.size items.size hi-a9 items.size 0 lo).toArray):=by
  change ((items.toList.drop _).take _).toArray.size<=sizeLine;rw[bX,yB,He,nh];lia
 let#[os,vF,HW,pL]:=id hs;have X7:s.TypeIs (.ref sl) "slice":=#[os,vF,HW];unfold getItem;try with_reducible refine eQ ?_
 first|refine aj (aA ?_)|skip
 refine aj<|aan ht.typeIs (rfl) ?_;refine aj (qz ht.typeIs xf
  (eS xf ht.typeIs abp ?_<|abq _ _))
 change wpAny _ _ (Builtin.Tuple.tupleItemsOf _ >>= _) _ _ s;refine aj<|abr ht ?_;refine aj<|vf X7 ?_;rw[if_pos ze];refine aj<|jA hs pl pu ?_;have agE:¬ ((((a9 items.size 0 lo):Int)==0&&(1:Int)==1&&(a9 items.size items.size hi-a9 items.size 0 lo)==items.size)=ah):=by
  intro q;rw[aI,aI]at q;have q1:=eq_of_beq q.1.1;have q2:=eq_of_beq q.2;show hw #[by lia,by lia]
 change wpAny _ _ (if (((a9 items.size 0 lo):Int)==0&&(1)==1&&(a9 items.size items.size hi-a9 items.size 0 lo)==items.size)=ah then _ else _) _ _ s;rw[if_neg agE,LU];first
  |show aj _
  |show aj<|eR (aj<|aA<|aA #[_,rfl,aA h]) X6
  |show aj<|aj<|eR (aA<|aA #[_,rfl,aA h]) X6
  |show aj<|aj<|eR (aA #[_,rfl,aA h]) X6
end
end HT
namespace L2
abbrev TO:=St->Hp->(Option Int->Hp->zt)->zt
def PO (X:Cx) (e:Option au) (t:TO):zt:=
 ∀ (pins:List<|ak×aZ) (s:ax) (σ:St) (H:Hp) (Q:Option Int->Hp->zt),Inv X pins σ H s->t σ H Q ->
  wpAny zf X.A (evalPart e X.env) (λu s'=>∃ o H',Inv X pins σ H' s' /\ IsPart u o /\ Q o H') X.xe s
noncomputable def agF:TO:=λ_ H Q=>Q ag H
noncomputable def agG (t:TE):TO:=λσ H Q=>t σ H λx H1=>∃ i,x=.int i /\ Q (ae i) H1
theorem AD:∀ {us:List ai},Vals (ns.map V.int) us->IntsAre us ns:=by
 induction ns with
 |nil=>intro us r;cases r;show .nil
 |cons n ns ih=>
   intro us r;cases r with
   |cons r1 r2=>
     let#[t,e]:=r1;subst e;show .cons n t<|ih r2
section
variable {te:TE} {lo hi:Option au} {tl th:TO} {p2:aM}
theorem OF:PO X ag agF:=by
 intro pins s σ H Q I h;show aA #[ag,H,I,.none,h]
theorem OG (h:PE X e te):PO X (ae e) (agG te):=by
 intro pins s σ H Q I hw;refine tE (h pins s σ H _ I hw) λu s1 x H1 I1 r1 q1=>?_;let#[i,rfl,q]:=q1;let#[t,rfl]:=r1;show#[ae i,H1,I1,.int i t,q]
def tQ (X:Cx) (r:V->Option Int->Option Int->Hp->VK->zt):zt:=
 ∀ (pins:List<|ak×aZ) (s:ax) (σ:St) (H:Hp) (x:V) (v vl vu:ai) (lo hi:Option Int) (sl:ak) (Q:VK),Inv X pins σ H s->RelV x v->s.heap.IsSliceOf sl vl vu .none->IsPart vl lo->IsPart vu hi->r x lo hi H Q ->
  ∃ T id,typeLookup (.type T) "__getitem__"=pure (ae<|.builtin id) /\ s.TypeIs v T /\ wpAny zf X.A (getItem v<|.ref sl) (EP X pins σ Q) X.xe s
theorem tQ.or {r r':V->Option Int->Option Int->Hp->VK->zt}(h:tQ X r) (h':tQ X r'):tQ X (λx lo hi H Q=>r x lo hi H Q \/ r' x lo hi H Q):=by
 intro pins s σ H x v vl vu lo hi sl Q I rx hs pl pu q;rcases q with q|q
 .show h pins s σ H x v vl vu lo hi sl Q I rx hs pl pu q
 .show h' pins s σ H x v vl vu lo hi sl Q I rx hs pl pu q
def agH (r:V->Option Int->Option Int->Hp->VK->zt) (te:TE) (tl th:TO):TE:=λσ H Q=>te σ H λx H1=>tl σ H1 λl H2=>th σ H2 λu H3=>r x l u H3 Q
theorem LV {r:V->Option Int->Option Int->Hp->VK->zt}(hr:tQ X r) (he:PE X e te) (hl:PO X lo tl) (hu:PO X hi th):PE X (.Subscript e (.Slice lo hi ag p2) pos) (agH r te tl th):=by
 intro pins s σ H Q I h;refine Subscript_<|tE (he pins s σ H _ I h) λv s1 x H1 I1 r1 q1=>?_;refine aao<|tP (hl pins s1 σ H1 _ I1 q1) λvl s2 l H2 I2 pl q2=>tP (hu pins s2 σ H2 _ I2 q2) λvu s3 u H3 I3 pu q3=>?_;refine aA ?_;have I4:Inv X pins σ H3 { s3 with heap:=s3.heap.push { cls:=.type "slice",data:=.fields (List.toArray [vl,vu,.none]) } }:=I3.kept λb ob q=>aW _ q;let#[T,id,hT,ht,hg]:=hr pins { s3 with heap:=s3.heap.push { cls:=.type "slice",data:=.fields (List.toArray [vl,vu,.none]) } } σ H3 x v vl vu l u s3.heap.objs.size Q I4 r1 (Heap.IsSliceOf.new ..) pl pu q3;show Xb ht hT hg (by with_unfolding_all rfl)
def xx (xs:List V) (lo hi:Option Int):List V:=(xs.drop<|HT.a9 xs.length 0 lo).take<|HT.a9 xs.length xs.length hi-HT.a9 xs.length 0 lo
theorem oY (xs:List V) (lo hi:Option Int):(xx xs lo hi).length<=xs.length:=by
 unfold xx;rw[yB,He];lia
def acG (K:PySem.W.Frag):V->Option Int->Option Int->Hp->VK->zt:=λx lo hi H Q=>∃ a xs,x=.ref a /\ cP K H a xs /\
 ¬ (HT.a9 xs.length 0 lo=0 /\ HT.a9 xs.length xs.length hi=xs.length) /\ ∀ p,H p=ag->Q (.ref p) (upd H p<|.tup<|xx xs lo hi)
theorem TH:tQ X (acG X.K):=by
 intro pins s σ H x v vl vu lo hi sl Q I rx hs pl pu h;let#[a,xs,rfl,hx,hw,q]:=h;cases rx;let#[its,r,ht,hz]:=I.tuple hx;have hlen:its.toArray.size=xs.length:=r.length.symm;refine#["tuple",_,xf.lookup,ht.typeIs,?_];refine HT.mO ht hs pl pu (by rw[hlen];show hw) ?_ (by rw[hlen];show hz);rw[hlen];refine#[.ref s.heap.objs.size,_,I.laid (λb ob q=>aW _ q) (aE _) ?_,rfl,q _<|I.aD.fresh<|aE _];show#[cx (oY xs lo hi) hz,_,(r.drop _).take _,IsTup.new _ _]
def acH (K:PySem.W.Frag):R2:=λx y H Q=>∃ a b xs ys,x=.ref a /\ y=.ref b /\ cP K H a xs /\ cP K H b ys /\ xs≠[] /\ xs.length+ys.length<=sizeLine /\
 (ys=[]->Q (.ref a) H) /\ (ys≠[]->∀ p,H p=ag->Q (.ref p) (upd H p<|.tup<|xs++ys))
theorem Vals.X8 {xs:List V}(r:Vals xs us):us=[] ↔ xs=[]:=by
 cases r with
 |_=>simp
theorem OH:bc X (binaryOp .Add) (acH X.K):=by
 intro pins s σ H x y v u Q I rx ry h;let#[a,b,xs,ys,rfl,rfl,ha,hb,hx,hz,q1,q2]:=h;cases rx;cases ry;let#[its,r1,p1,_]:=I.tuple ha;let#[sj,r2,p2,_]:=I.tuple hb;refine HT.OD p1 p2 (λz=>hx<|r1.X8.mp z) (λz=>#[.ref a,H,I,rfl,q1<|r2.X8.mp z]) (λz=>?_) (by rw[<-r1.length,<-r2.length];show hz);refine#[.ref s.heap.objs.size,_,I.laid (λb ob q=>aW _ q) (aE _) ?_,rfl,q2 (λw=>z<|r2.X8.mpr w) _<|I.aD.fresh<|aE _];show#[by rw[cX];show hz,_,r1.append r2,IsTup.new _ _]
end
noncomputable def cy (n:Nat) (i:Int):Option Nat:=if 0<=i then (if i<n then ae i.toNat else ag) else if -(n:Int)<=i then ae (i+n).toNat else ag
def bF (xs:List α) (i:Int):Option α:=(cy xs.length i).bind λj=>xs[j]?
theorem Ci {i:Int}(h:cy n i=ae j):seqIndex? i n=ae j /\ j<n /\ -(n:Int)<=i /\ i<n:=by
 unfold cy at h;by_cases h0:0<=i
 .rw[if_pos h0]at h;by_cases h1:i<n
  .rw[if_pos h1]at h;have e:=Option.some.inj h;show#[by rw[QC h0 h1,e],by lia,by lia,h1]
  .rw[if_neg h1]at h;cases h
 .rw[if_neg h0]at h;by_cases h1:-(n)<=i
  .rw[if_pos h1]at h;have e:=Option.some.inj h;show#[by rw[seqIndex_neg za h1,e],by lia,h1,by lia]
  .rw[if_neg h1]at h;cases h
theorem Cj {xs:List α}{i:Int}{v:α}(h:bF xs i=ae v):∃ j,seqIndex? i xs.length=ae j /\ xs[j]?=ae v /\ j<xs.length /\ -(xs.length:Int)<=i /\ i<xs.length:=by
 unfold bF at h;cases e:cy xs.length i with
 |none=>rw[e]at h;cases h
 |some j=>
   rw[e]at h;let#[h1,h2,h3,h4]:=Ci e;show#[j,h1,h,h2,h3,h4]
theorem Ck {xs:List α}{v:α}(h:xs[j]?=ae v):bF xs (j:Int)=ae v:=by
 have hj:=(List.getElem?_eq_some_iff.mp h).1;have e:cy xs.length (j)=ae j:=by
  unfold cy;rw[if_pos za,if_pos za];simp
 unfold bF;rw[e];show h
def HX (b:au):zt:=∀ o i,subscripted b af o i=operate [o,i] (getItem o i)
def sk (X:Cx) (r:R2):zt:=
 ∀ (value slice:au) (pins:List<|ak×aZ) (s:ax) (σ:St) (H:Hp) (x y:V) (v u:ai) (Q:VK),Inv X pins σ H s->RelV x v->RelV y u->r x y H Q ->
  subscripted slice af v u=operate [v,u] (getItem v u)->wpAny zf X.A (subscriptTail value slice v u) (EP X pins σ Q) X.xe s
def agI (X:Cx) (id:String) (r:V->List V->Hp->VK->zt):zt:=
 ∀ (pins:List<|ak×aZ) (s:ax) (σ:St) (H:Hp) (x:V) (xs:List V) (v:ai) (us:List ai) (Q:VK),Inv X pins σ H s->RelV x v->Vals xs us->r x xs H Q ->
  wpAny zf X.A (call (.builtin id) (v::us)) (EP X pins σ Q) X.xe s
section
variable {a b:au} {ta tb:TE} 
theorem sk.or {r r':R2}(h:sk X r) (h':sk X r'):sk X (λx y H Q=>r x y H Q \/ r' x y H Q):=by
 intro value slice pins s σ H x y v u Q I rx ry q hs;rcases q with q|q
 .show h value slice pins s σ H x y v u Q I rx ry q hs
 .show h' value slice pins s σ H x y v u Q I rx ry q hs
theorem SH {r:R2}(hr:sk X r) (ha:PE X a ta) (hb:PE X b tb) (hs:HX b):PE X (.Subscript a b pos) (yN r ta tb):=by
 intro pins s σ H Q I h;show Subscript_<|XY ha hb I h λv u s2 x y H2 I2 rx ry q=>hr a b pins s2 σ H2 x y v u Q I2 rx ry q<|hs _ _
def acI (K:PySem.W.Frag):R2:=λx y H Q=>∃ p xs i v,x=.ref p /\ y=.int i /\ bN K H p xs /\ bF xs i=ae v /\ Q v H
def acJ (K:PySem.W.Frag):R2:=λx y H Q=>∃ p xs i v,x=.ref p /\ y=.int i /\ cP K H p xs /\ bF xs i=ae v /\ Q v H
def acK:R2:=λx y H Q=>∃ z i c,x=.str z /\ y=.int i /\ z.length<=sizeLine /\ bF z.cps.toList i=ae c /\ Q (.str ⟨(List.toArray [c])⟩) H
theorem Go:sk X (acI X.K):=by
 intro value slice pins s σ H x y v u Q I rx ry h hs;let#[p,xs,i,z,rfl,rfl,hq,he,q]:=h;cases rx;let#[t,rfl]:=ry;let#[its,r,pl,hz]:=I.list hq;let#[j,h1,h2,h3,h4,h5]:=Cj he;let#[w,ew,eV]:=r.get h2;have hl:=r.length;have hn:=yO;have fin:EP X pins σ Q w s:=#[z,H,I,eV,q];by_cases h0:0<=i
 .have hj:i.toNat=j:=by
   rw[QC h0 h5]at h1;show Option.some.inj h1
  show item_listR pl.isList h0 za (by rw[hj];simpa using ew) fin hs
 .have hj:(i+(its.toArray.size)).toNat=j:=by
   rw[seqIndex_neg za h4]at h1;rw[bX,<-hl];show Option.some.inj h1
  show abt pl.isList.typeIs slot_list_getitem.lookup
   (wpAny_getItem_list_neg pl.isList za (by rw[bX]<;>lia) za (by rw[hj];simpa using ew) #[rfl,fin]) hs
theorem TJ:sk X (acJ X.K):=by
 intro value slice pins s σ H x y v u Q I rx ry h hs;let#[p,xs,i,z,rfl,rfl,hq,he,q]:=h;cases rx;let#[t,rfl]:=ry;let#[its,r,pl,hz]:=I.tuple hq;let#[j,h1,h2,h3,h4,h5]:=Cj he;let#[w,ew,eV]:=r.get h2;have hn:=yO;have fin:EP X pins σ Q w s:=#[z,H,I,eV,q];show abt pl.typeIs slot_tuple_getitem.lookup
  (getItem_tuple pl za za (by rw[bX,<-r.length];show h1) (by simpa using ew) #[rfl,fin]) hs
theorem TL:sk X acK:=by
 intro value slice pins s σ H x y v u Q I rx ry h hs;let#[z,i,c,rfl,rfl,hz,he,q]:=h;let#[t,rfl]:=rx;let#[t',rfl]:=ry;let#[j,h1,h2,h3,h4,h5]:=Cj he;have hl:z.cps.toList.length=z.length:=rfl;rw[hl]at h1 h4 h5;have hn:=yO;show Xb (typeIs_str s z t) slot_str_getitem.lookup (getItem_str (by
  have e1:decide (i < -(2 ^ 63))=af:=decide_eq_false za;have e2:decide (i>=2 ^ 63)=af:=decide_eq_false za;rw[e1,e2,Bool.or_false]) (by rw[h1];simpa using h2) #[.str _,H,I.tok _,#[_,rfl],q]) hs
def acL (K:PySem.W.Frag):R2:=λx y H Q=>acI K x y H Q \/ acJ K x y H Q \/ acK x y H Q
theorem TM:sk X (acL X.K):=Go.or<|TJ.or TL
theorem Fu (its:List ai) (n j:Nat) (u:ai):Obj.mapSeq (·.setIfInBounds j u) { cls:=.type "list",data:=.seq its.toArray n }={ cls:=.type "list",data:=.seq (its.set j u).toArray n }:=by
 simp[Obj.mapSeq]
theorem Inv.lst {pins:List (ak×aZ)}{σ:St}{H:Hp}{s:ax}{p:ak}{xs:List V}(I:Inv X pins σ H s) (h:H p=ae (.lst xs)) :
 ∃ (its:List ai) (n:Nat),Vals xs its /\ s.heap.get? p=ae { cls:=.type "list",data:=.seq its.toArray n } /\ xs.length<=sizeLine:=by
 let#[z,its,n,r,e]:=I.aD p _ h;show#[its,n,r,e,z]
theorem Inv.agJ {s:ax}{xs ys:List V}{its qh:List ai}{n':Nat}{f:aZ->aZ}(I:Inv X pins σ H s) (h:H p=ae (.lst xs))
 (ho:s.heap.get? p=ae { cls:=.type "list",data:=.seq its.toArray n }) (hf:f { cls:=.type "list",data:=.seq its.toArray n }={ cls:=.type "list",data:=.seq qh.toArray n' }) (r:Vals ys qh) (hz:ys.length<=sizeLine) (t:Nat) :
 Inv X pins σ (upd H p<|.lst ys) { s with heap:=s.heap.update p f,toks:=t }:=by
 have e:(s.heap.update p f).get? p=ae { cls:=.type "list",data:=.seq qh.toArray n' }:=by
  rw[rT f ho (by rw[hf]<;>rfl),hf]
 refine I.write (by rw[h];trivial) (.inl zc) (λb u hb q=>(Ho _ _<|Ne.symm hb).trans q) #[_,e] ?_;show#[hz,qh,n',r,e]
def agK:V->V->V->Hp->(Hp->zt)->zt:=λo i v H Q=>∃ p xs k j,o=.ref p /\ i=.int k /\ H p=ae (.lst xs) /\ cy xs.length k=ae j /\ Q (upd H p<|.lst<|xs.set j v)
theorem LW:acs X agK:=by
 intro pins s σ H o i v ov iv u Q I ro ri rv h;let#[p,xs,k,j,rfl,rfl,hp,hj,q]:=h;cases ro;let#[t,rfl]:=ri;let#[its,n,r,ho,hz]:=I.lst hp;let#[h1,h2,h3,h4]:=Ci hj;have hl:=r.length;have hn:=yO;have I' :=
  I.agJ hp ho (Fu its n j u) (r.set rv j) (by rw[p5];show hz) s.toks
 by_cases h0:0<=k
 .have hk:k.toNat=j:=by
   rw[QC h0 h4]at h1;show Option.some.inj h1
  show PySem.W.ki_setAt ho h0 za (by rw[bX,<-hl];show h4) (by rw[hk];show#[_,I',q])
 .have hk:(k+(its.toArray.size)).toNat=j:=by
   rw[seqIndex_neg za h3]at h1;rw[bX,<-hl];show Option.some.inj h1
  show PySem.W.ki_setBack ho za (by rw[bX,<-hl];show h3) za (by rw[hk];show#[_,I',q])
theorem Cn (lo hi:Option Int) (n:Nat):(sliceBounds lo hi ag n).1=((HT.a9 n 0 lo:Nat):Int) /\ (sliceBounds lo hi ag n).2.1=((HT.a9 n n hi:Nat):Int) /\ (sliceBounds lo hi ag n).2.2=1:=by
 refine#[?_,?_,rfl]
 .cases lo with
  |none=>simp[sliceBounds,HT.a9]
  |some i=>
    simp[sliceBounds,HT.a9,Q9,show (1:Int)>0 by decide,if_true];by_cases h:i<0
    .simp[h,if_true]<;>lia
    .simp[h,if_false]<;>lia
 .cases hi with
  |none=>simp[sliceBounds,HT.a9]
  |some i=>
    simp[sliceBounds,HT.a9,Q9,show (1:Int)>0 by decide,if_true];by_cases h:i<0
    .simp[h,if_true]<;>lia
    .simp[h,if_false]<;>lia
theorem Bz (its:List ai) (lo hi:Option Int):slicePick its.toArray lo hi ag=((its.drop<|HT.a9 its.length 0 lo).take<|HT.a9 its.length its.length hi-HT.a9 its.length 0 lo).toArray:=by
 let#[h1,h2,h3]:=Cn lo hi its.toArray.size;unfold slicePick;rw[h1,h2,h3];erw[sliceRange_one,pick_run]<;>rfl
def acM (K:PySem.W.Frag):V->Option Int->Option Int->Hp->VK->zt:=λx lo hi H Q=>∃ a xs,x=.ref a /\ bN K H a xs /\ ∀ p,H p=ag->Q (.ref p) (upd H p<|.lst<|xx xs lo hi)
theorem OI:tQ X (acM X.K):=by
 intro pins s σ H x v vl vu lo hi sl Q I rx hs pl pu h;let#[a,xs,rfl,hx,q]:=h;cases rx;let#[its,r,ht,hz]:=I.list hx;have hlen:=r.length;refine#["list",_,slot_list_getitem.lookup,ht.isList.typeIs,?_];refine aap ht.isList hs pl pu .none zj ?_ (by rw[bX]<;>lia);rw[Bz,<-hlen];refine#[.ref s.heap.objs.size,_,I.laid (λb ob q=>aW _ q) (aE _) ?_,rfl,q _<|I.aD.fresh<|aE _];show#[cx (oY xs lo hi) hz,_,0,(r.drop _).take _,bE _ zc]
noncomputable def sq:V->Bool
 |.non=>ah
 |.bl _=>ah
 |.int _=>ah
 |.str _=>ah
 |_=>af
noncomputable def sr:V->V->Bool
 |.non,.non=>ah
 |.bl a,.bl b=>a==b
 |.bl a,.int b=>(if a then 1 else 0)==b
 |.int a,.bl b=>a==(if b then 1 else 0)
 |.int a,.int b=>a==b
 |.str a,.str b=>a==b
 |_,_=>af
theorem TN {s:ax}{y x:V}{v:ai}(ry:RelV y u) (rx:RelV x v) (fy:sq y=ah) (fx:sq x=ah):SeqAt.EqAt A s u v (sr y x):=by
 cases y with
 |non=>
   cases ry;cases x with
   |non=>cases rx;show SeqAt.EqAt.same _
   |bl b=>cases rx;show afk b
   |int b=>let#[t,rfl]:=rx;show afl b t
   |str b=>let#[t,rfl]:=rx;show afm b t
   |_=>show absurd (fx) c6
 |bl a=>
   cases ry;cases x with
   |non=>cases rx;show afn a
   |bl b=>cases rx;show afo a b
   |int b=>let#[t,rfl]:=rx;show afp a b t
   |str b=>let#[t,rfl]:=rx;show afq a b t
   |_=>show absurd (fx) c6
 |int a=>
   let#[t',rfl]:=ry;cases x with
   |non=>cases rx;show afr a t'
   |bl b=>cases rx;show afs a t' b
   |int b=>let#[t,rfl]:=rx;show ab1 a t' b t
   |str b=>let#[t,rfl]:=rx;show abZ a t' b t
   |_=>show absurd (fx) c6
 |str a=>
   let#[t',rfl]:=ry;cases x with
   |non=>cases rx;show aft a t'
   |bl b=>cases rx;show afu a t' b
   |int b=>let#[t,rfl]:=rx;show ab0 a t' b t
   |str b=>let#[t,rfl]:=rx;show XE a t' b t
   |_=>show absurd (fx) c6
 |_=>show absurd (fy) c6
def vG (x:V) (u:ai):Bool:=match u with
 |.none=>sr .non x
 |.bool b=>sr (.bl b) x
 |.int i _=>sr (.int i) x
 |.str z _=>sr (.str z) x
 |_=>af
theorem LX {x y:V}(r:RelV y u) (f:sq y=ah):vG x u=sr y x:=by
 cases y with
 |non=>cases r;rfl
 |bl b=>cases r;rfl
 |int i=>let#[t,rfl]:=r;rfl
 |str z=>let#[t,rfl]:=r;rfl
 |_=>show absurd (f) c6
theorem mP {x:V}:∀ {xs:List V}{us:List ai},Vals xs us->xs.all sq=ah->us.any (vG x)=xs.any λy=>sr y x
 |_,_,.nil,_=>rfl
 | y::xs,u::us,.cons r t,f=>by
   rw[tu,aI]at f;rw[rN,rN,LX r f.1,mP t f.2]
theorem lu {A:eu}{s:ax}{x:V}{v:ai}(rx:RelV x v) (fx:sq x=ah):∀ {xs:List V}{us:List ai},Vals xs us->xs.all sq=ah->∀ u∈us,SeqAt.EqAt A s u v (vG x u)
 |_,_,.nil,_=>λu hu=>by cases hu
 | y::xs,u::us,.cons r t,f=>λu' hu=>by
   rw[tu,aI]at f;rcases bq.mp hu with rfl|hu
   .rw[LX r f.1];show TN r rx f.1 fx
   .show lu rx fx t f.2 u' hu
def HY (x:V) (xs:List V):Bool:=xs.any λy=>sr y x
def HZ (K:PySem.W.Frag) (neg:Bool):R2:=λx y H Q=>∃ p xs,y=.ref p /\ (bN K H p xs \/ cP K H p xs) /\ sq x=ah /\ xs.all sq=ah /\ Q (.bl (if neg then !HY x xs else HY x xs)) H
theorem Jx:bc X (compareOp .In) (HZ X.K af):=by
 intro pins s σ H x y v u Q I rx ry h;let#[p,xs,rfl,hq,fx,fs,q]:=h;cases ry;rcases hq with hq|hq
 .let#[its,r,pl,hz]:=I.list hq;refine SeqAt.in_listAt _ pl.isList (λw hw=>lu rx fx r fs w (by simpa using hw)) #[.bl _,H,I,rfl,?_];rw[show its.toArray.any _=its.any (vG x) by simp,mP r fs];show q
 .let#[its,r,pl,hz]:=I.tuple hq;refine SeqAt.in_tupleAt _ pl (λw hw=>lu rx fx r fs w (by simpa using hw)) #[.bl _,H,I,rfl,?_];rw[show its.toArray.any _=its.any (vG x) by simp,mP r fs];show q
theorem Co:bc X (compareOp .NotIn) (HZ X.K ah):=by
 intro pins s σ H x y v u Q I rx ry h;let#[p,xs,rfl,hq,fx,fs,q]:=h;cases ry;rcases hq with hq|hq
 .let#[its,r,pl,hz]:=I.list hq;refine SeqAt.notIn_listAt _ pl.isList (λw hw=>lu rx fx r fs w (by simpa using hw)) #[.bl _,H,I,rfl,?_];rw[show its.toArray.any _=its.any (vG x) by simp,mP r fs];show q
 .let#[its,r,pl,hz]:=I.tuple hq;refine SeqAt.notIn_tupleAt _ pl (λw hw=>lu rx fx r fs w (by simpa using hw)) #[.bl _,H,I,rfl,?_];rw[show its.toArray.any _=its.any (vG x) by simp,mP r fs];show q
theorem mQ:dQ X (.builtin "len") (λxs H Q=>∃ p ys,xs=[.ref p] /\ (bN X.K H p ys \/ cP X.K H p ys) /\ Q (.int ys.length) H):=by
 intro pins s σ H xs us Q I r h;let#[p,ys,rfl,hq,q]:=h;let#[u,rfl,rx]:=vals1 r;cases rx;have hn:=yO;rcases hq with hq|hq
 .let#[its,r',pl,hz]:=I.list hq;have hlen:=r'.length;show Calls.call_len_list pl.isList (by simp[bX]<;>lia) #[.int ys.length,H,I.tok _,#[s.toks+1,by rw[bX,hlen]],q]
 .let#[its,r',pl,hz]:=I.tuple hq;have hlen:=r'.length;show len_tuple pl (by simp[bX]<;>lia) #[.int ys.length,H,I.tok _,#[s.toks+1,by rw[bX,hlen]],q]
theorem Cp:dQ X (.type "list") (λxs H Q=>∃ p ys,xs=[.ref p] /\ (bN X.K H p ys \/ cP X.K H p ys) /\ ∀ l,H l=ag->Q (.ref l) (upd H l<|.lst ys)):=by
 intro pins s σ H xs us Q I r h;let#[p,ys,rfl,hq,q]:=h;let#[u,rfl,rx]:=vals1 r;cases rx
 have fin:∀ (its),Vals ys its->ys.length<=sizeLine->∀ (h') (c'),(∀ b o',s.heap.get? b=ae o'->h'.get? b=ae o') ->
  h'.get? s.heap.objs.size=ae { cls:=.type "list",dict:=ag,data:=.seq its.toArray c',slots:=#[] }->EP X pins σ Q _ { s with heap:=h' }:=λits r' hz h' c' kp e=>
  #[.ref s.heap.objs.size,_,I.laid kp (aE _) (show cK X.prog X.w _ h' _ (.lst ys) from#[hz,its,c',r',e]),rfl,q _<|I.aD.fresh<|aE _]
 rcases hq with hq|hq
 .let#[its,r',pl,hz]:=I.list hq;have hlen:=r'.length;let#[o,ho,hc,n,hd]:=pl.isList;show aaq p (.inl zc) ho hc hd (λh' c' kp e=>fin its r' hz h' c' kp e) (by simp[bX]<;>lia)
 .let#[its,r',pl,hz]:=I.tuple hq;have hlen:=r'.length;let#[o,ho,hc,n,hd]:=pl;show aaq p (.inr zc) ho hc hd (λh' c' kp e=>fin its r' hz h' c' kp e) (by simp[bX]<;>lia)
theorem BA:dQ X (.type "tuple") (λxs H Q=>∃ p ys,xs=[.ref p] /\ ((bN X.K H p ys /\ ∀ l,H l=ag->Q (.ref l) (upd H l<|.tup ys)) \/ (cP X.K H p ys /\ Q (.ref p) H))):=by
 intro pins s σ H xs us Q I r h;let#[p,ys,rfl,h]:=h;let#[u,rfl,rx]:=vals1 r;cases rx;rcases h with⟨hq,q⟩|⟨hq,q⟩
 .let#[its,r',pl,hz]:=I.list hq;have hlen:=r'.length;refine call_tuple_list pl.isList (λh' kp=>?_) (by simp[bX]<;>lia);have I1:Inv X pins σ H { s with heap:=h' }:=I.kept kp;have I2:Inv X pins σ (upd H h'.objs.size<|.tup ys) { s with heap:=h'.push { cls:=.type "tuple",data:=.seq its.toArray } }:=
   I1.laid (λb o e=>aW _ e) (aE _) (#[hz,its,r',IsTup.new _ _])
  show#[.ref h'.objs.size,_,I2,rfl,q _<|I1.aD.fresh<|aE _]
 .let#[its,r',pl,hz]:=I.tuple hq;show call_tuple_same pl #[.ref p,H,I,rfl,q]
def acN (K:PySem.W.Frag) (T:String) (x:V) (H:Hp):zt:=match x with
 |.str _=>T="str"
 |.int _=>T="int"
 |.ref p=>(T="list" /\ ∃ xs,bN K H p xs) \/ (T="tuple" /\ ∃ o,K.lookup p=ae o /\ o.cls=.type "tuple" /\ o.dict=ag) \/
  (T="dict" /\ ((∃ ao,H p=ae (.dK ao)) \/ ∃ ao,H p=ae (.dT ao))) \/ (T="set" /\ ∃ S n,H p=ae (.set S n))
 |_=>False
theorem TQ {s:ax}{T:String}{x:V}{v:ai}(I:Inv X pins σ H s) (r:RelV x v) (ty:acN X.K T x H) :
 s.TypeIs v T /\ ∀ a,v=.ref a->∃ ob,s.heap.get? a=ae ob /\ ob.dict=ag:=by
 cases x with
 |str z=>
   let#[t,rfl]:=r;cases (ty);show#[typeIs_str s z t,λ_ e=>nomatch e]
 |int i=>
   let#[t,rfl]:=r;cases (ty);show#[QD s i t,λ_ e=>nomatch e]
 |ref p=>
   cases r;rcases ty with⟨rfl,xs,hq⟩|⟨rfl,o,hk,hc,hd⟩|⟨rfl,hk⟩|⟨rfl,S,n,hk⟩
   .let#[its,_,pl,_]:=I.list hq;refine#[pl.isList.typeIs,λa e=>?_];cases e;let#[o,n,e,c,hd,_]:=pl;show#[o,e,hd]
   .refine#[#[o,I.kA p o hk,hc],λa e=>?_];cases e;show#[o,I.kA _ o hk,hd]
   .have z:∃ o,s.heap.get? p=ae o /\ o.ExactDict:=by
     rcases hk with⟨ao,hk⟩|⟨ao,hk⟩
     .let#[_,_,_,_,o,_,_,e,ex,_]:=I.aD p _ hk;show#[o,e,ex]
     .let#[_,_,_,_,o,_,_,e,ex,_]:=I.aD p _ hk;show#[o,e,ex]
    let#[o,e,ex]:=z;refine#[#[o,e,ex.1],λa e2=>?_];cases e2;show#[o,e,ex.2.1]
   .let#[o,_,_,_,e,ex,_]:=I.aD p _ hk;refine#[#[o,e,ex.1],λa e2=>?_];cases e2;show#[o,e,ex.2.1]
 |_=>show False.elim ty
def Ia (K:PySem.W.Frag) (T:String) (r:V->List V->Hp->VK->zt) (to:TE) (t:TA):TE:=λσ H Q=>to σ H λx H1=>acN K T x H1 /\ t σ H1 λxs H2=>r x xs H2 Q
variable {o:au} {to:TE} {t:TA} {name:Str} {dR:aM} {T id:String} {r:V -> List V -> Hp -> VK -> zt}
theorem LY (pa:PlainAttrs T) (slot:Slot T name id) (agL:typeOf (.builtin id)=pure (.type "method_descriptor")) (hm:agI X id r) (ho:PE X o to) (ha:PA X (e::es) t)
 (vH:attributeBase o name X.env (eval o X.env)=eval o X.env:=by rfl)
 (vI:((backTo dR<|starEach (e::es) X.env).all (λx=>!x.1)&&(backToKw dR<|keywordEach [] X.env).all (λx=>x.1.isSome)
  && decide ((e::es).length+([]:List Keyword).length+(if ([]:List Keyword).isEmpty then 0 else 1)<30))=ah:=by rfl)
 (vJ:(apos.endLine==dR.line)=ah:=by rfl) (hs:starEach (e::es) X.env=(af,eval e X.env)::starEach es X.env:=by rfl) (agM:(backTo dR<|starEach es X.env).any (·.1)=af:=by rfl) :
 PE X (.Call (.Attribute o name apos) (e::es) [] dR) (Ia X.K T r to t):=by
 intro pins s σ H Q I h;refine wpAny_Call_method_late vH vI vJ zc<|tE (ho pins s σ H _ I h) λv s1 x H1 I1 r1 hh=>?_;let#[ty,q1]:=hh;let#[h1,h2]:=TQ I1 r1 ty;refine#[T,id,pa,slot,agL,h1,h2,?_];have hA:=ha dR pins s1 σ H1 _ I1 q1;rw[hs]at hA ⊢;refine Xv (by change (af||(backTo dR _).any _)=af;rw[agM]<;>rfl)<|Xw ?_;show tA hA λus s2 vs H2 I2 r2 q2=>hm pins s2 σ H2 x vs v us Q I2 r1 r2 q2
end
def X9 (X:Cx) (id:String) (r:V->List V->Hp->VK->zt):zt:=
 ∀ (pins:List<|ak×aZ) (s:ax) (σ:St) (H:Hp) (x:V) (xs:List V) (v:ai) (us:List ai) (Q:VK),Inv X pins σ H s->RelV x v->Vals xs us->r x xs H Q ->
  wpAny zf X.A (call (.builtin id) (v::us)) (EP X pins σ Q) X.xe s
theorem Vals.one:∀ {x:V}{us:List ai},Vals [x] us->∃ u,us=[u] /\ RelV x u
 |_,_,.cons r .nil=>#[_,rfl,r]
theorem Vals.two:∀ {x y:V}{us:List ai},Vals [x,y] us->∃ u v,us=[u,v] /\ RelV x u /\ RelV y v
 |_,_,_,.cons r (.cons q .nil)=>#[_,_,rfl,r,q]
theorem Vals.eraseIdx:∀ {xs:List V}{us:List ai}(i:Nat),Vals xs us->Vals (xs.eraseIdx i) (us.eraseIdx i)
 |_,_,_,.nil=>.nil
 |_,_,0,.cons _ t=>t
 |_,_,i+1,.cons r t=>.cons r<|Vals.eraseIdx i t
theorem Vals.reverse {xs:List V}{us:List ai}(h:Vals xs us):Vals xs.reverse us.reverse:=by
 induction h with
 |nil=>show .nil
 |cons r t ih=>rw[Hf,Hf];show Vals.append ih<|.cons r .nil
theorem Vals.rep {xs:List V}(h:Vals xs us):∀ k:Nat,Vals (List.replicate k xs).flatten (List.replicate k us).flatten:=by
 intro l_;induction l_ with
 |zero=>show .nil
 |succ k az=>show Vals.append h<|az
theorem BP {α:Type}:∀ (l:List α) (i:Nat),(l.eraseIdx i).length<=l.length
 |[],_=>aE _
 |_::_,0=>pX _
 |_::r,i+1=>aaL<|BP r i
theorem BQ (its:List ai):∀ (k:Nat) (acc:List ai),
 List.foldl (λx1 x2=>x1++x2) acc.toArray (List.replicate k its.toArray)=(acc++(List.replicate k its).flatten).toArray
 |0,acc=>by simp
 | k+1,acc=>by
   have e:acc.toArray++its.toArray=(acc++its).toArray:=by simp
   have e2:(acc++its)++(List.replicate k its).flatten=acc++(List.replicate (k+1) its).flatten:=by
    rw[QZ,aaV,qC]
   rw[<-e2,<-BQ its k _,<-e,QZ,Hg]
section
variable {s:ax} {l b:ak} {xs ys zs:List V}
theorem Inv.Yy {its qh:List ai}{f:Array ai->Array ai}(I:Inv X pins σ H s) (hH:H l=ae (.lst xs))
 (e:s.heap.get? l=ae { cls:=.type "list",data:=.seq its.toArray n }) (hf:f its.toArray=qh.toArray) (hv:Vals ys qh) (hz:ys.length<=sizeLine) :
 Inv X pins σ (upd H l<|.lst ys) { s with heap:=s.heap.update l (Obj.mapSeq f),toks:=t' }:=by
 have q:=PySem.IsL.update e f;rw[hf]at q;refine I.write (by rw[hH];show trivial) (.inl zc) (λb' u hb hu=>(Ho s.heap _<|Ne.symm hb).trans hu) #[_,q] ?_;show#[hz,qh,_,hv,q]
theorem Inv.acO {its:List ai}(I:Inv X pins σ H s) (hv:Vals ys its) (hz:ys.length<=sizeLine) :
 Inv X pins σ (upd H s.heap.objs.size<|.lst ys) { s with heap:=s.heap.push { cls:=.type "list",data:=.seq its.toArray },toks:=t' }:=
 I.laid (λ_ _ q=>aW _ q) (aE _) #[hz,its,0,hv,bE _ zc]
theorem Inv.fresh (I:Inv X pins σ H s):H s.heap.objs.size=ag:=I.aD.fresh<|aE _
theorem Inv.vK (I:Inv X pins σ H s) (hH:H l=ae (.lst xs)):xs.length<=sizeLine /\ ∃ (its:List ai) (n:Nat),Vals xs its /\ xs.length=its.length /\ s.heap.get? l=ae { cls:=.type "list",data:=.seq its.toArray n }:=by
 let#[z,its,n,r,e]:=I.aD l _ hH;show#[z,its,n,r,r.length,e]
theorem acP (h:n<=sizeLine):Builtin.List.listTooLong n=af:=decide_eq_false za
end
def acQ:V->List V->Hp->VK->zt:=λx vs H Q=>∃ l xs y,x=.ref l /\ vs=[y] /\ H l=ae (.lst xs) /\ xs.length<sizeLine /\ Q .non (upd H l<|.lst<|xs++[y])
theorem om:X9 X "list.append" acQ:=by
 intro pins s σ H x vs v us Q I rx rv h;let#[l,xs,y,rfl,rfl,hH,hz,q]:=h;cases rx;let#[u,rfl,ru]:=rv.one;let#[z,its,n,r,hl,e]:=I.vK hH;refine yp F.slot_list_append #[_,e,rfl] F.entry_list_append (F.args_list_append_2 _ _) (PySem.list_append l its.toArray n u (by rw[bX];lia)) #[e,?_];refine#[.non,_,I.Yy hH e zj (r.append<|.cons ru .nil) ?_,rfl,q];rw[cX,aaW];lia
def acR:V->List V->Hp->VK->zt:=λx vs H Q=>∃ l b xs zs,x=.ref l /\ vs=[.ref b] /\ H l=ae (.lst xs) /\ H b=ae (.lst zs) /\ xs.length+zs.length<=sizeLine /\ Q .non (upd H l<|.lst<|xs++zs)
theorem Jy:X9 X "list.extend" acR:=by
 intro pins s σ H x vs v us Q I rx rv h;let#[l,b,xs,zs,rfl,rfl,hH,hB,hz,q]:=h;cases rx;let#[u,rfl,ru]:=rv.one;cases ru;let#[z,its,n,r,hl,e]:=I.vK hH;let#[z2,sj,n2,r2,qN,e2]:=I.vK hB;have qM:its.toArray.size+sj.toArray.size<=sizeLine:=by rw[bX,bX];lia
 have Yz:¬ (!its.toArray.isEmpty&&Builtin.List.listTooLong (its.toArray.size+sj.toArray.size))=ah:=by
  rw[acP qM,Bool.and_false];show c6
 refine yp F.slot_list_extend #[_,e,rfl] F.entry_list_extend (F.args_list_extend_2 _ _)
  (afR l its.toArray n b sj.toArray n2 Yz za za) #[e,e2,?_]
 refine#[.non,_,I.Yy hH e zj (r.append r2) ?_,rfl,q];rw[cX];lia
def acS:V->List V->Hp->VK->zt:=λx vs H Q=>∃ l xs i k y,x=.ref l /\ vs=[.int i] /\ H l=ae (.lst xs) /\ -(2 ^ 63)<=i /\ i<2 ^ 63 /\ seqIndex? i xs.length=ae k /\ xs[k]?=ae y /\ Q y (upd H l<|.lst<|xs.eraseIdx k)
theorem LZ:X9 X "list.pop" acS:=by
 intro pins s σ H x vs v us Q I rx rv h;let#[l,xs,i,k,y,rfl,rfl,hH,h1,h2,hk,hy,q]:=h;cases rx;let#[u,rfl,ru]:=rv.one;let#[t,rfl]:=ru;let#[z,its,n,r,hl,e]:=I.vK hH;let#[w,hw,eV]:=r.get hy;refine yp F.slot_list_pop #[_,e,rfl] F.entry_list_pop (F.args_list_pop_2 _ _)
  (afT l its.toArray n i t k w (aar h1 h2) (by rw[bX,<-hl];show hk) (by rw[<-qH];show hw) (by rw[bX];lia)) #[e,?_]
 refine#[y,_,I.Yy hH e ?_ (r.eraseIdx k) ?_,eV,q]
 .rw[List.eraseIdxIfInBounds_toArray]
 .have:=BP xs k;lia
def acT:R2:=λx y H Q=>∃ l b xs zs,x=.ref l /\ y=.ref b /\ H l=ae (.lst xs) /\ H b=ae (.lst zs) /\ xs.length+zs.length<=sizeLine /\ ∀ p,H p=ag->Q (.ref p) (upd H p<|.lst<|xs++zs)
theorem TR:bc X (binaryOp .Add) acT:=by
 intro pins s σ H x y v u Q I rx ry h;let#[l,b,xs,zs,rfl,rfl,hH,hB,hz,q]:=h;cases rx;cases ry;let#[z,its,n,r,hl,e]:=I.vK hH;let#[z2,sj,n2,r2,qN,e2]:=I.vK hB;refine PySem.P.add_list e e2 ?_ (by rw[bX,bX];lia);have ea:its.toArray++sj.toArray=(its++sj).toArray:=by simp
 rw[ea];show#[.ref _,_,I.acO (r.append r2) (by rw[cX];lia),rfl,q _ I.fresh]
def acU:R2:=λx y H Q=>∃ l k xs,x=.ref l /\ y=.int k /\ H l=ae (.lst xs) /\ -(2 ^ 63)<=k /\ k<2 ^ 63 /\ xs.length*k.toNat<=sizeLine /\
 ∀ p,H p=ag->Q (.ref p) (upd H p<|.lst (List.replicate k.toNat xs).flatten)
theorem OJ (xs:List α) (k:Nat):(List.replicate k xs).flatten.length=k*xs.length:=by
 induction k with
 |zero=>simp
 |succ k ih=>rw[QZ,aaV,cX,ih,aaM,Nat.add_comm]
theorem TU:bc X (binaryOp .Mult) acU:=by
 intro pins s σ H x y v u Q I rx ry h;let#[l,k,xs,rfl,rfl,hH,h1,h2,hz,q]:=h;cases rx;let#[t,rfl]:=ry;let#[z,its,n,r,hl,e]:=I.vK hH;have hlen:its.toArray.size*k.toNat<=sizeLine:=by rw[bX,<-hl];show hz
 have agN:¬ its.toArray.size*k.toNat>(2 ^ 63-1) / 8:=by
  have:(sizeLine)<=(2 ^ 63-1) / 8:=by decide
  lia
 have agO:¬ (!Builtin.List.listFitsIndex k)=ah:=by
  rw[aar h1 h2];show c6
 have Yz:¬ Builtin.List.listTooLong (its.toArray.size*k.toNat)=ah:=by
  rw[acP hlen];show c6
 have agP:List.foldl (λx1 x2=>x1++x2) #[] (List.replicate (if its.toArray.isEmpty=ah then 0 else k.toNat) its.toArray)=(List.replicate k.toNat its).flatten.toArray:=by
  have f0:=λm=>by
   have:=BQ its m [];rw[ng]at this;show this
  rw[f0];cases its with
  |nil=>simp
  |cons a r'=>rw[if_neg zj]
 refine wpAny_binaryOp_repeat_ref (rfl) #[_,e,rfl] (λs'=>QD s' k t) noFill_list_mul F.fills_int_mul abL repeat_list F.slot_int_index.lookup
  (yp abL (QD s k t) F.entry_int_rmul (F.args_int_rmul_2 _ _) (int___rmul___int_list k t l its.toArray n)
   #[e,rfl,#[_,e,rfl],yp F.slot_list_mul #[_,e,rfl] F.entry_list_mul (F.args_list_mul_2 _ _) (afU l its.toArray n k t agO agN Yz) #[e,?_]])
 rw[agP];show#[.ref _,_,I.acO (r.rep k.toNat) (by rw[OJ,Nat.mul_comm];show hz),rfl,q _ I.fresh]
section
variable {s:ax}
end
end L2
namespace acV
open PySem.W PySem.Calls
theorem Aj {P:Params}:∀ (ns:List Int) (vs:List ai),WellAll P h vs (ns.map WData.int)->IntsAre vs ns:=by
 intro ns;induction ns with
 |nil=>
   intro vs w;cases w;show .nil
 |cons n ns ih=>
   intro vs w;cases w with
   |cons a b=>
     cases a;show .cons _ _<|ih _ b
theorem Jz {l:OpenLaw}(hn:l.most=ae n) {P:Params}{args:List WData}{vals:List ai}
 (Ib:l.row.toRowW.claim.pre args=ah) (YA:WellAll P h vals args) :
 ∃ a vs ns,vals=[Value.ref a] /\ args=[WData.list<|ns.map WData.int] /\ h.get? a=ae { cls:=.type "list",data:=.seq vs.toArray } /\ IntsAre vs ns /\ ns.length<=n:=by
 have hc:l.pre.holds [] { args:=args }=ah:=(pre_splitW Ib).2;let#[d,r,rfl,h1,h2]:=hasAllW_cons (pre_splitW Ib).1;obtain rfl:=hasAllW_nil h2;let#[xs,rfl,h3]:=hasW_list h1;let#[ns,rfl]:=items_int h3;have hlen:ns.length<=n:=by
  have h4:(WTm.not<|.lt (.lit<|.int<|n)<|.len<|.arg 0).holds [] { args:=[.list<|ns.map .int] }=ah:=by
   have h4:=(holds_andW hc).1;rw[hn]at h4;show h4
  have h5:=condW_of h4<|w_not<|w_lt w_lit<|w_len_list<|w_arg zc;refine vi λq=>?_;first
   |(show absurd h5 (rfl))
   |(simp at h5;lia)
 cases YA with
 |cons w1 w2=>
   cases w2;cases w1 with
   |list ho yQ=>show#[_,_,ns,rfl,rfl,ho,Aj ns _ yQ,hlen]
theorem JA (l:OpenLaw) (args:List WData):l.row.toRowW.claim.post args (.bool ah) args=ah:=
 postW_of
  (by first|rfl|decide|simp[])
  (w_eq_bool (w_res zc) w_lit) zc
theorem agQ {l:OpenLaw}{q:c7}{loose:List Str}{YP:cn->aK->zt}{d:DefRec}
 (hn:l.most=ae n) (YB:d.params.defaults=[])
 (call:∀ (w:cn) (s₀ s₁:ax) (mg mb:Str->Option ai) (fa:ak) (o:aZ) (pm cd doc:ai) (a:ak) (vs:List ai) (ns:List Int),
  Ground q loose [] XP w s₀ mg mb s₁.heap->YP w s₁.heap ->
  s₁.heap.get? fa=ae o->o.data=.func (docDef d.name d.params d.body d.scope pm cd doc)->s₁.heap.CodeRec cd d.name->mg d.name=ae (.ref fa) ->
  s₁.heap.get? a=ae { cls:=.type "list",data:=.seq vs.toArray }->IntsAre vs ns->ns.length<=n->s₁.gens=#[] ->
  codeAny (model l.prog w) callerA (.call (.ref fa) #[[.ref a],[]]) (λr s'=>r=.ok (.ret<|.bool ah) /\ OldK s₁.heap s'.heap /\ s'.os=s₁.os /\ AllBare s'.gens) s₁) :
 WalkO q loose XP YP l.row.toRowW d [] (λf vs=>PySem.call f vs):=by
 intro w s₀ s₁ mg mb G Y fa o pm cd doc dV kV ho hd pK hD hmg hg args vals as Ib akU akV YA akW;obtain rfl:dV=.none:=Dflts.none hD YB;obtain rfl:kV=.none:=Dflts.noKw hD;let#[a,vs,ns,rfl,rfl,YC,hints,hlen]:=Jz hn Ib YA;refine enter_call<|wI (call w s₀ s₁ mg mb fa o pm cd doc a vs ns G Y ho (fd_plain hd) pK hmg YC hints hlen hg) λr s' hq=>?_;let#[rfl,h2,h3,h4]:=hq;show#[.inl #[.bool ah,.bool ah,[],rfl,λ_=>rfl,.bool ah,JA l _,λ_=>#[List.Pairwise.nil,λ_ hm=>(nomatch hm)]],h2,h3,h4]
section
variable {s:ax} 
end
end acV
namespace L2
theorem BR:∀ {vs:List ai}{ns:List Int},IntsAre vs ns->Vals (ns.map V.int) vs
 |_,_,.nil=>.nil
 |_,_,.cons n t h=>.cons #[t,rfl]<|BR h
def YD (H:Hp):zt:=∀ b,H b=ag \/ ∃ o xs,H b=ae (.bK o<|.lst xs)
theorem L0 {mb:Str->Option ai}{k:Nat}{fa:ak}{sp:Sp}{s₁:ax} 
 (KX:K.In s₁.heap) (eA:s₁.heap.Ns mainGlobals mg) (hb:s₁.heap.Ns builtinsNs mb) (agR:∀ x:Str,x ≠ "__name__"->mb x=bootBuiltins x) (agS:s₁.heap.NoLimit) (hg:s₁.gens=#[])
 (ha:s₁.heap.get? a=ae { cls:=.type "list",data:=.seq vs.toArray }) (hi:IntsAre vs ns) (hl:ns.length<=sizeLine) (hr:c8 k callerA)
 (F:∀ base:aK,K.In base->base.Ns mainGlobals mg->kC P w K mg base CX k fa fd [x] sp) (agT:∀ (s:ax) (u:ai),BindsTo s fd #[[u],[]] [(x,u)])
 (xw:∀ H:Hp,YD H->bN K H a (ns.map V.int)->sp [.ref a] H (λv _=>v=.bl ah) λ_ _ _=>False)
 (agU:∀ H e s',CX [] H s₁ (λ_ _ _=>False) e s'->False) :
 codeAny (model P w) callerA (.call (.ref fa) #[[.ref a],[]]) (λr s'=>r=.ok (.ret<|.bool ah) /\ OldK s₁.heap s'.heap /\ s'.os=s₁.os /\ AllBare s'.gens) s₁:=by
 have rv:=BR hi
 have core:∀ H,YD H->bN K H a (ns.map V.int)->cG P w H s₁.heap->(∀ b,H b≠ag->b=a)->(H a≠ag->K.lookup a=ag) ->
  codeAny (model P w) callerA (.call (.ref fa) #[[.ref a],[]]) (λr s'=>r=.ok (.ret<|.bool ah) /\ OldK s₁.heap s'.heap /\ s'.os=s₁.os /\ AllBare s'.gens) s₁:=by
  intro H hO hS aD hA hK;have jw:∀ {b}{o},s₁.heap.get? b=ae o->H b=ag->(xm s₁.heap H).get? b=ae o:=λe n=>LA e n;have yP:∀ {b}{o}{es}{ep},s₁.heap.get? b=ae o->o.data=.dict es ep->H b=ag:=λ{b o es ep} e d=>by
   cases q:H b with
   |none=>rfl
   |some u=>
     have e':=hA b (by rw[q];simp);subst e';rw[ha]at e;cases e;cases d
  have Ic:∀ {b}{m},s₁.heap.Ns b m->(xm s₁.heap H).Ns b m:=λ{b m} ⟨o,es,ep,e,d,r⟩=>#[o,es,ep,jw e<|yP e d,d,r];have acW:=λb o e=>jw (KX b o e) (by
   cases q:H b with
   |none=>rfl
   |some u=>
     have e':=hA b (by rw[q];simp);subst e';rw[hK (by rw[q];simp)]at e;cases e)
  have hM:Mod K mg _:=#[acW,Ic eA,#[mb,Ic hb,agR],let ⟨mc,h1,h2⟩:=agS;#[mc,Ic h1,h2]];have e0:HU P w K mg _ callerA [] s₁ H:=#[rfl,hM,λb o e=>Oo e,wL<|Jn _ _,trivial,λb hb=>absurd (show b∈([]) from hb) zj,aD,.of_eq hg];refine wI ((F _ acW<|Ic eA).run callerA [] s₁ H _ [.ref a] [.ref a] _ _ hr e0 (agT s₁<|.ref a) (.cons zc .nil)<|xw H hO hS) λr s' h=>?_;cases r with
  |error e=>show(agU H e s' h).elim
  |ok fl=>
    cases fl with
    |ret u=>
      let#[v,H',os,bare,un,agV,r',q]:=h;subst q;obtain rfl:u=Value.bool ah:=r';refine#[rfl,OldK.of_keep λb o e=>?_,os,bare];cases q:H b with
      |none=>show un.keep b o e q (by intro z;show absurd (show b∈([]) from z) zj) zj
      |some u=>
        rcases hO b with z|⟨ob,xs,z⟩
        .rw[q]at z;cases z
        .let#[e1,_]:=aD b _ z;let#[e2,_]:=agV b _<|un.pI b ob _ z;rw[e]at e1;cases e1;show e2
    |_=>show False.elim h
 cases hk:K.lookup a with
 |some o=>
   have e:=KX a o hk;rw[ha]at e;cases e;refine core (λ_=>ag) (λ_=>.inl zc) (.inr #[_,vs.toArray,_,hk,rfl,rfl,rfl,by rw[bX,hi.length];show hl,by simpa using rv]) (λb u z=>by cases z) (λb z=>absurd rfl z) λz=>absurd rfl z
 |none=>
   refine core (λb=>if b=a then ae (.bK { cls:=.type "list",data:=.seq vs.toArray }<|.lst<|ns.map V.int) else ag) (λb=>?_) (.inl<|.inr #[{ cls:=.type "list",data:=.seq vs.toArray },if_pos zc]) (λb u z=>?_) (λb z=>?_) λ_=>hk
   .by_cases hb:b=a
    .show .inr #[_,_,if_pos hb]
    .show .inl<|if_neg hb
   .by_cases hb:b=a
    .cases ((if_pos hb).symm.trans z);subst hb;show#[ha,by rw[a5];show hl,vs,_,rv,ha]
    .cases ((if_neg hb).symm.trans z)
   .by_cases hb:b=a
    .show hb
    .show absurd (if_neg hb) z
noncomputable abbrev akX (_:K.In h):PySem.W.Frag:=K
noncomputable def jj (s:b9):Arguments:=match s with
 |.FunctionDef _ a _ _ _ _ _ _ _ _=>a
 |_=>{ posonlyargs:=[],args:=[],vararg:=ag,kwonlyargs:=[],kw_defaults:=[],kwarg:=ag,defaults:=[] }
noncomputable def gW (s:b9):List b9:=match s with
 |.FunctionDef _ _ b _ _ _ _ _ _ _=>b
 |_=>[]
noncomputable def fR (s:b9):bT:=match s with
 |.FunctionDef _ _ _ _ _ _ sc _ _ _=>sc
 |_=>{ kind:=.function,names:=[],isGenerator:=af,isCoroutine:=af }
abbrev yR:qi:=λ_ _ _ _ _ _=>False
noncomputable abbrev E0:XK:=λ_ _ _=>False
structure qj (K:PySem.W.Frag) (x qual:Str) (st:b9) (f:ak) (fd:FuncData):zt where
 ex:∃ (oc:ai) (od:Option ak) (kV doc pm:ai) (an:Option ak) (bH ct:ai) (qy:Array<|Option ai),
  fd=PySem.W.fnOf x qual (jj st) (gW st) (fR st) .none kV doc pm an bH ct /\ K.lookup f=ae #[oc,od,.func fd,qy] /\ PySem.W.codeIn K bH qual=ah
 kp:PySem.W.keepIn K (.ref f)=ah
theorem qj.ok {qual:Str}{f:ak}{ps:List Str}{k:Nat}{sp:Sp}(F:qj K x qual st f fd) (S:xu N ps<|fR st) (len:∀ vs H Q E,sp vs H Q E->vs.length=ps.length)
 (vE:∀ (bH:ai) (A:eu) (outer:List Env) (s:ax) (H:Hp) (vs:List V) (Q:VK) (E:XK),c8 k (A.deeper<|envOfC qual (fR st) s.heap.objs.size f bH)->sp vs H Q E ->
  ∃ t,kg (uK yR P w K mg base N qual (fR st) f bH A outer s H E).xr (gW st) t /\ t { nx:=λ_ H'=>Q .non H',rt:=Q } (start N vs) H):kC P w K mg base yR (k+1) f fd ps sp:=by
 let#[oc,od,kV,doc,pm,an,bH,ct,qy,rfl,lk,pK]:=F.ex;refine V8 lk pK S len λA outer s H vs Q E hr xw=>?_;let#[t,h,q]:=vE bH A outer s H vs Q E hr xw;show#[t,h.xr,q]
theorem qj.binds {qual:Str}{f:ak}{ps:List Str}(F:qj K x qual st f fd)
 (h:∀ (kV doc pm:ai) (an:Option ak) (bH ct:ai) (us:List ai),us.length=ps.length->bindArgs (PySem.W.fnOf x qual (jj st) (gW st) (fR st) .none kV doc pm an bH ct) #[us,[]]=pure (ps.zip us)):Binds K fd ps []:=by
 let#[oc,od,kV,doc,pm,an,bH,ct,qy,rfl,lk,pK]:=F.ex;show .all<|h kV doc pm an bH ct
theorem L4 {qual:Str}{f:ak}{oc:ai}{od an:Option ak}{kV doc pm bH ct:ai}(l:K.lookup f=ae #[oc,od,.func<|PySem.W.fnOf x qual (jj st) (gW st) (fR st) .none kV doc pm an bH ct,qy])
 (c:PySem.W.codeIn K bH qual=ah) (k:PySem.W.keepIn K (.ref f)=ah):qj K x qual st f (PySem.W.fnOf x qual (jj st) (gW st) (fR st) .none kV doc pm an bH ct):=#[#[oc,od,kV,doc,pm,an,bH,ct,qy,rfl,l,c],k]
noncomputable def eB (cells:List<|Str×ak):List (Str×NameKind)->List (Str×ak)->List (Str×ak)
 |[],acc=>acc
 |(n,k)::r,acc=>eB cells r (if k==.free then (match cells.lookup n with|some c=>(n,c)::acc|none=>acc) else acc)
theorem jJ {env:Env}:∀ (names:List<|Str×NameKind) (acc:List<|Str×ak),(∀ y∈names,y.2=.free->∃ c,env.cells.lookup y.1=ae c) ->
 (forIn names acc λ(x:Str×NameKind) (r:List<|Str×ak)=>(match x with
  |(name,kind)=>if (kind==NameKind.free)=ah then (do let a <-cellOf env name;pure (ForInStep.yield ((name,a)::r))) else pure (ForInStep.yield r):Sem<|ForInStep<|List<|Str×ak))=(pure (eB env.cells names acc):Sem _)
 |[],acc,_=>rfl
 | (n,k)::r,acc,h=>by
   rw[wQ];by_cases hk:k=.free
   .subst hk;let#[c,e]:=h (n,.free) bC zc;have e':=e;have e1:cellOf env n=pure c:=by unfold cellOf;rw[e']
    dsimp only;rw[if_pos ze,e1];have z:eB env.cells ((n,NameKind.free)::r) acc=eB env.cells r ((n,c)::acc):=by
     change eB env.cells r _=_;rw[if_pos ze,e']
    rw[z,<-(jJ r _ λy hy=>h y<|bu _ hy)];rfl
   .dsimp only;have hb:(k==NameKind.free)=af:=by simpa using hk
    rw[if_neg (by rw[hb];decide)];have z:eB env.cells ((n,k)::r) acc=eB env.cells r acc:=by
     change eB env.cells r _=_;rw[if_neg (by rw[hb];decide)]
    rw[z,<-(jJ r acc λy hy=>h y<|bu _ hy)];rfl
theorem AE {scope:bT}{env:Env}(h:∀ y∈scope.names,y.2=.free->∃ c,env.cells.lookup y.1=ae c):closureFor scope env=pure (eB env.cells scope.names []):=by
 have q:=jJ scope.names [] h;unfold closureFor;first
  |show q
  |(dsimp only;rw[q];rfl)
  |(rfl)
theorem C6 {cells:List (Str×ak)}:∀ (names:List<|Str×NameKind) (acc:List<|Str×ak),(∀ x c,acc.lookup x=ae c->cells.lookup x=ae c)->∀ x c,(eB cells names acc).lookup x=ae c->cells.lookup x=ae c
 |[],_,h=>h
 | (n,k)::r,acc,h=>by
   refine C6 r _ ?_;intro x c e;by_cases hk:(k==NameKind.free)=ah
   .rw[if_pos hk]at e;cases q:cells.lookup n with
    |none=>rw[q]at e;show h x c e
    |some a=>
      rw[q]at e;have e':=e;rw[ku]at e';cases hx:x==n with
      |true=>rw[hx]at e';rw[eq_of_beq hx,q];show e'
      |false=>rw[hx]at e';show h x c e'
   .rw[if_neg hk]at e;show h x c e
theorem C7 {cells:List (Str×ak)}:∀ (names:List<|Str×NameKind) (acc:List<|Str×ak) (x:Str),((∃ c,acc.lookup x=ae c) \/ ((x,NameKind.free)∈names /\ ∃ c,cells.lookup x=ae c))->∃ c,(eB cells names acc).lookup x=ae c
 |[],_,x,h=>h.elim id λz=>nomatch z.1
 | (n,k)::r,acc,x,h=>by
   refine C7 r _ x ?_;rcases h with⟨c,e⟩|⟨hm,c,e⟩
   .left;by_cases hk:(k==NameKind.free)=ah
    .rw[if_pos hk];cases q:cells.lookup n with
     |none=>show#[c,e]
     |some a=>
       rw[ku];cases hx:x==n with
       |true=>show#[a,rfl]
       |false=>show#[c,e]
    .rw[if_neg hk];show#[c,e]
   .rcases bq.mp hm with z|z
    .have z1:=congrArg Prod.fst z;have z2:NameKind.free=k:=congrArg Prod.snd z;subst z1;subst z2;left;rw[if_pos ze,e];show#[c,by rw[ku,beq_self_eq_true]]
    .show .inr #[z,c,e]
theorem l8 {env:Env}:∀ (names:List<|Str×NameKind) (x:Str) (k':NameKind),
 (names.map λ(n,k)=>if zq then (n,NameKind.cell) else (n,k)).lookup x=ae k' ->
 ∃ k,names.lookup x=ae k /\ (k'=k \/ (k=.free /\ k'=.cell))
 |[],_,_,h=>by simp at h
 | (n,k)::r,x,k',h=>by
   have h':List.lookup x ((if zq=ah then (n,NameKind.cell) else (n,k))::(r.map λ(n,k)=>if zq then (n,NameKind.cell) else (n,k)))=ae k':=h;by_cases hc:zq=ah
   .rw[if_pos hc,ku]at h';rw[ku];cases hx:x==n with
    |true=>
      rw[hx]at h';have hk:k=.free:=by
       cases hq:(k==NameKind.free) with
       |true=>show eq_of_beq hq
       |false=>rw[hq]at hc;simp at hc
      show#[k,rfl,.inr #[hk,(Option.some.inj h').symm]]
    |false=>rw[hx]at h';show l8 r x k' h'
   .rw[if_neg hc,ku]at h';rw[ku];cases hx:x==n with
    |true=>rw[hx]at h';show#[k,rfl,.inl (Option.some.inj h').symm]
    |false=>rw[hx]at h';show l8 r x k' h'
theorem jK {env:Env}:∀ (names:List<|Str×NameKind) (x:Str),names.lookup x=ae .free ->
 (names.map λ(n,k)=>if zq then (n,NameKind.cell) else (n,k)).lookup x=ae .cell \/
 (names.map λ(n,k)=>if zq then (n,NameKind.cell) else (n,k)).lookup x=ae .free
 |[],_,h=>by simp at h
 | (n,k)::r,x,h=>by
   change List.lookup x ((if zq=ah then (n,NameKind.cell) else (n,k))::_)=_ \/ List.lookup x ((if zq=ah then (n,NameKind.cell) else (n,k))::_)=_;rw[ku]at h;by_cases hc:zq=ah
   .rw[if_pos hc,ku];cases hx:x==n with
    |true=>show .inl zc
    |false=>rw[hx]at h;show jK r x h
   .rw[if_neg hc,ku];cases hx:x==n with
    |true=>rw[hx]at h;show .inr h
    |false=>rw[hx]at h;show jK r x h
theorem iy:∀ (names:List<|Str×NameKind) (n:Nat) (acc:List<|Str×ak),cellsFrom n names acc=cellsFrom n names []++acc
 |[],_,_=>rfl
 | (x,k)::r,n,acc=>by
   unfold cellsFrom;split
   .rw[iy r _ _,iy r _ [(x,n)],qC];rfl
   .show iy r n acc
theorem ou:∀ (names:List<|Str×NameKind) (n:Nat) {x:Str}{c:ak},(x,c)∈cellsFrom n names []->(x,NameKind.cell)∈names
 |[],_,_,_,h=>nomatch h
 | (y,k)::r,n,x,c,h=>by
   unfold cellsFrom at h;split at h
   .ext hk;rw[iy]at h;rcases List.mem_append.mp h with h|h
    .show bu _<|ou r _ h
    .cases eU.mp h;rw[<-eq_of_beq hk];show bC
   .show bu _<|ou r _ h
theorem AF {α:Type}:∀ {l:List (Str×α)}{x:Str}{a b:α},(l.map (·.1)).Nodup->(x,a)∈l->(x,b)∈l->a=b
 | (y,c)::l,x,a,b,h,ha,hb=>by
   rw[aU,tK]at h;rcases bq.mp ha with e|ha<;>rcases bq.mp hb with e'|hb
   .rw[<-e']at e;show(Prod.mk.inj e).2
   .show absurd (bA.mpr #[_,hb,(Prod.mk.inj e).1]) h.1
   .show absurd (bA.mpr #[_,ha,(Prod.mk.inj e').1]) h.1
   .show AF h.2 ha hb
theorem jL {α:Type}{x:Str}:∀ {l m:List (Str×α)},(l++m).lookup x=match l.lookup x with|some a=>ae a|none=>m.lookup x
 |[],m=>rfl
 | (y,a)::l,m=>by
   rw[Hh,ku,ku];cases x==y with
   |true=>rfl
   |false=>show jL
theorem AG {s:ax}{scope:bT}{globals:ak}{cl:List (Str×ak)}{qual:Str}{env:Env}{Q:Env->ax->zt}
 (h:Q { scope:=scope,locals:=s.heap.objs.size,globals:=globals,cells:=cellsFrom (s.heap.objs.size+1) scope.names cl,qual:=qual,func:=ag,code:=env.code,frame:=env.frame,builtins:=env.builtins }
  { s with heap:=pushCells (s.heap.push { cls:=.type "dict",data:=.dict #[] }) scope.names }) :
 wpAny M A (newFunctionEnv scope globals cl [] qual ag .none<|ae env) Q E s:=by
 refine aj<|aas<|aj<|wpAny_layCells _ (λname kind cells=>by cases hk:kind==NameKind.cell<;>simp[hk]) _ _ _ _ ?_;rw[tL ..];show aj<|aA<|aA h
noncomputable abbrev Cx.comp (X:Cx) (N:List Str) (scope:bT) (cl:List<|Str×ak) (s:ax) (H:Hp) (C:ak) (fp:List ak):Cx:=
 { X with N:=N,s₀:=s,H₀:=H,env:=compEnvC scope cl C X.env,outer:=X.stack,stack:=X.stack,ex:=fp,fn:=λx=>decide (scope.names.lookup x=ae .cell),pn:=[],xe:=λ_ _=>False }
structure sx (X:Cx) (N:List Str) (src:List<|Option Nat) (scope:bT):zt where
 kind:scope.kind=.function
 nk:(scope.names.map (·.1)).Nodup
 names:∀ y∈scope.names,y.2=.local->scope.names.lookup y.1=ae .local
 has:∀ y∈scope.names,y.2=.free->X.env.kindOf y.1=ae .cell \/ X.env.kindOf y.1=ae .free
 agW:src.length=N.length
 agX:∀ (j i:Nat) (x:Str),src[j]?=ae (ae i)->N[j]?=ae x->X.N[i]?=ae x /\ scope.names.lookup x=ae .free
noncomputable def uM (src:List<|Option Nat) (σ:St):St:=src.map λo=>o.bind λi=>(σ[i]?).bind id
def PF (X:Cx) (ifs:List au) (t:TT):zt:=
 ∀ (pins:List<|ak×aZ) (s:ax) (σ:St) (H:Hp) (Q:Bool->Hp->zt),Inv X pins σ H s->t σ H Q ->
  wpAny zf X.A (forIn ifs ah λc r=>if r=ah then do let ok <-isTrue c X.env (eval c X.env);pure (ForInStep.yield ok) else pure (ForInStep.yield r)) (TP X pins σ Q) X.xe s
theorem TV:PF X [] (λ_ H Q=>Q ah H):=λ_ _ _ H _ I h=>wpAny_tests_nil #[H,I,h]
theorem TW {c:au}{t:TT}(h:PT X c t):PF X [c] t:=λpins s σ H Q I hw=>wpAny_tests_one<|h pins s σ H Q I hw
def acX (J:It) (g:TG) (tf:TT) (te:TE) (D:ak) (Q:VK) (σ0:St) (H0:Hp):zt:=
 ∃ W:Nat->Nat->St->Hp->zt,(∃ m,W 0 m σ0 H0) /\ ∀ i m σ' H',W i m σ' H' ->
  (J.stop i H' /\ Q (.ref D) H') \/ (J.go i H' /\ ∃ N:St->Hp->zt,(∀ σ2 H2,N σ2 H2->∃ m',m'<m /\ W (i+1) m' σ2 H2) /\ ∀ x H2,J.yK i H' x H2->g x σ' H2 λσ2 H3=>tf σ2 H3 λb H4=>
   if b=ah then te σ2 H4 λy H5=>∃ ys,H5 D=ae (.lst ys) /\ ys.length<sizeLine /\ N σ2 (upd H5 D<|.lst<|ys++[y]) else N σ2 H4)
def Ie (src:List<|Option Nat) (wi:TI) (g:TG) (tf:TT) (te:TE):TE:=λσ H Q=>wi σ H λJ H1=>∀ D,H1 D=ag->acX J g tf te D Q (uM src σ) (upd H1 D<|.lst [])
section
variable {s:ax}
noncomputable abbrev xA (P:c7) (w:cn) (A:eu) (env:Env) (R:Result->ax->zt):ai->ax->zt:=
 notedBy (model P w) A env λx z=>R (.error x) z
noncomputable abbrev agY (ifs:List au) (env:Env):Sem Bool:=
 forIn ifs ah λc r=>if r=ah then do let ok <-isTrue c env (eval c env);pure (ForInStep.yield ok) else pure (ForInStep.yield r)
theorem mR {elt:au}{scope:bT}{it acc:ai}{env:Env}
 (J:Nat->ax->zt) (N:ai->Nat->ax->zt)
 (hN:∀ v n z,N v n z->wpAny zi A (letOwnedTupleGo tg it v) (λ_ z1=>
  wpAny zi A (assign tg env v) (λ_ z2=>
  wpAny zi A (agY ifs env) (λb z3=>
   if b=ah then wpAny zi A (eval elt env) (λy z4=>
    wpAny zi A (call (.builtin "list.append") [acc,y])
     (λ_ z5=>∃ k,k<n /\ J k z5) (xA prog w A env R) z4) (xA prog w A env R) z3
   else ∃ k,k<n /\ J k z3)
   (xA prog w A env R) z2) (xA prog w A env R) z1) (xA prog w A env R) z)
 (go:∀ n z,J n z->wpAny zi A (pyNext it)
  (λr z1=>match r with|none=>R (.ok .next) z1|some v=>N v n z1) (xA prog w A env R) z)
 (n:Nat) (h:J n s) :
 codeAny zi A (.compLoop zw 0 it acc env) R s:=by
 refine codeAny_loop zc J (λk z hz=>?_) n h;refine wpAny_noted ?_;rw[compTurn_list];refine aj<|EZ<|aj ?_;refine kO (go k z hz) (λr z1 h1=>?_) λ_ _ q=>q;cases r with
 |none=>show aA h1
 |some v=>
   refine aj<|kO (hN v k z1 h1) (λ_ z2 h2=>aj ?_) λ_ _ q=>q;refine kO h2 (λ_ z3 h3=>aj ?_) λ_ _ q=>q;refine kO h3 (λb z4 h4=>?_) λ_ _ q=>q;cases b with
   |false=>show aA #[rfl,h4]
   |true=>
     refine aj<|aj<|kO h4 (λy z5 h5=>aj ?_) λ_ _ q=>q;show kO h5 (λ_ z6 h6=>aA<|aA #[rfl,h6]) λ_ _ q=>q
end
theorem sx.cells {N:List Str}{src:List (Option Nat)}{scope:bT}(S:sx X N src scope) (ok:X.Ok):∀ y∈scope.names,y.2=.free->∃ c,X.env.cells.lookup y.1=ae c:=
 λy hy hf=>ok.has y.1<|S.has y hy hf
theorem C8 {cells:List (Str×ak)}{x:Str}{c:ak}:∀ (names:List<|Str×NameKind) (acc:List<|Str×ak),(x,c)∉acc->(x,c)∈eB cells names acc->(x,NameKind.free)∈names
 |[],_,h,e=>absurd e h
 | (n,k)::r,acc,h,e=>by
   by_cases hx:x=n /\ k=.free
   .let#[rfl,rfl]:=hx;show bC
   .refine bu _<|C8 r _ ?_ e;by_cases hk:(k==NameKind.free)=ah
    .rw[if_pos hk];cases q:cells.lookup n with
     |none=>show h
     |some a=>
       intro z;rcases bq.mp z with z|z
       .show hx #[(Prod.mk.inj z).1,eq_of_beq hk]
       .show h z
    .rw[if_neg hk];show h
theorem C9 {src:List (Option Nat)}{scope:bT}{s s':ax} 
 (S:sx X N src scope) (I:Inv X pins σ H s) (YE:∀ b∈fp,nP X pins H b /\ b<s.heap.objs.size) (hh:s'={ s with heap:=pushCells (s.heap.push { cls:=.type "dict",data:=.dict #[] }) scope.names }) :
 Inv (X.comp N scope (cellsFrom (s.heap.objs.size+1) scope.names<|eB X.env.cells scope.names []) s H s.heap.objs.size fp) [] (uM src σ) H s':=by
 subst hh;have hk:∀ b o,s.heap.get? b=ae o->(pushCells (s.heap.push { cls:=.type "dict",data:=.dict #[] }) scope.names).get? b=ae o:=λb o e=>E2 _ _ b o<|aW _ e;have eA:(pushCells _ scope.names).Ns s.heap.objs.size _:=(Heap.Ns.new s.heap<|.type "dict").keeps<|E2 _ _;have ok:=cellsFrom_ok scope.names (s.heap.push { cls:=.type "dict",data:=.dict #[] }) _ [] #[λ_ _ hm=>(nomatch hm),List.Pairwise.nil] (by rw[tL];show aE _);rw[tL]at ok;have split:∀ x c,(cellsFrom _ scope.names<|eB X.env.cells scope.names []).lookup x=ae c->(cellsFrom _ scope.names []).lookup x=ae c \/ (eB X.env.cells scope.names []).lookup x=ae c:=λx c e=>by
  rw[iy,jL]at e;cases q:(cellsFrom (s.heap.objs.size+1) scope.names []).lookup x with
  |some a=>rw[q]at e;show .inl e
  |none=>rw[q]at e;show .inr e
 have own:∀ x c,(cellsFrom _ scope.names []).lookup x=ae c->s.heap.objs.size<c /\ (pushCells _ scope.names).IsCell c ag:=λx c e=>by
  let#[a,b]:=ok.empty x c<|nK e;show#[b,a]
 have acY:∀ x,scope.names.lookup x=ae .free->(cellsFrom _ scope.names<|eB X.env.cells scope.names []).lookup x=(eB X.env.cells scope.names []).lookup x:=λx e=>by
  rw[iy,jL];cases q:(cellsFrom (s.heap.objs.size+1) scope.names []).lookup x with
  |some a=>show absurd (AF S.nk (nK e)<|ou _ _<|nK q) ze
  |none=>rfl
 have low:∀ x c,X.env.cells.lookup x=ae c->c<s.heap.objs.size:=λx c e=>by
  let#[v,o,ho,_]:=I.cell x c e;show bf ho
 have sub:=C6 (cells:=X.env.cells) scope.names [] (λx c e=>by simp at e);have agZ:∀ x,((relabel scope X.env).names.lookup x=ae .cell \/ (relabel scope X.env).names.lookup x=ae .free)->scope.names.lookup x=ae .free \/ scope.names.lookup x=ae .cell:=λx hx=>by
  have go:∀ k',(k'=NameKind.cell \/ k'=NameKind.free)->(relabel scope X.env).names.lookup x=ae k'->scope.names.lookup x=ae .free \/ scope.names.lookup x=ae .cell:=λk' tR e=>by
   let#[k,e1,q]:=l8 scope.names x k' e;rcases q with q|⟨q,_⟩
   .subst q;rcases tR with z|z
    .subst z;show .inr e1
    .subst z;show .inl e1
   .subst q;show .inl e1
  show hx.elim (go _<|.inl zc)<|go _<|.inr zc
 have acZ:∀ x,scope.names.lookup x=ae .free->∃ c,(eB X.env.cells scope.names []).lookup x=ae c /\ X.env.cells.lookup x=ae c:=λx e=>by
  have hm:=nK e;let#[c,e1]:=C7 scope.names [] x<|.inr #[hm,S.cells I.ok (x,.free) hm zc];show#[c,e1,sub x c e1]
 refine#[#[I.ok.mod,?_,I.ok.glob,I.ok.blt,aE _,λx y c e1 e2=>?_,λx hx=>?_,λx c e=>?_,I.ok.hd,I.ok.frames,.inl zc,λb hb=>?_,I.bs,cx I.ok.vt I.sz,λb o e hb=>?_,λb hb=>?_,I.stack,I.aca],
  rfl,I.bare,Un.kept hk,#[_,eA,λj x v e1 e2 e3=>?_],λx c e=>?_,I.aD.fresh<|aE _,λx c e=>?_,λp hp=>absurd (hp) zj,I.aD.kept hk,?_]
 .show S.kind
 .rcases split x c e1 with q1|q1<;>rcases split y c e2 with q2|q2
  .show aam ok.apart (nK q1)<|nK q2
  .show absurd (E8 (own x c q1).1<|low y c<|sub y c q2)<|hZ _
  .show absurd (E8 (own y c q2).1<|low x c<|sub x c q1)<|hZ _
  .show I.ok.inj x y c (sub x c q1)<|sub y c q2
 .rcases agZ x hx with k|k
  .let#[c,e1,_]:=acZ x k;show#[c,(acY x k).trans e1]
  .let#[c,e1]:=AB k;refine#[c,?_];change (cellsFrom (s.heap.objs.size+1) scope.names<|eB X.env.cells scope.names []).lookup x=ae c;rw[iy,jL,e1]
 .intro hl;rcases split x c hl with q|q
  .show nL (own x c q).1
  .show absurd (AF S.nk (nK<|of_decide_eq_true e)<|C8 _ _ zj<|nK q) ze
 .let#[f,hl]:=YE b hb;refine#[cw hl,λx c e=>?_];rcases split x c e with q|q
  .show vh<|E8 hl (own x c q).1
  .show f.2.2.2.2.1 x c<|sub x c q
 .let#[f,_]:=YE b hb;let#[_,_,_,f4,_]:=f;rcases f4 with z|z
  .show I.ok.yH b o e z
  .show absurd (eT (bf (I.ok.bs b o e).1) z)<|hZ _
 .let#[f,_]:=YE b hb;intro hz;rcases bq.mp (I.XM b hz) with e|e
  .show f.2.1 e
  .show f.2.2.1 e
 .have hs:∃ i,src[j]?=ae (ae i) /\ σ[i]?=ae (ae v):=by
   have tU:(src.map λo=>o.bind λi=>(σ[i]?).bind id)[j]?=ae (ae v):=e2;rw[kr]at tU;cases q:src[j]? with
   |none=>rw[q]at tU;cases tU
   |some o=>
     rw[q]at tU;cases o with
     |none=>cases tU
     |some i=>
       refine#[i,rfl,?_];have Ig:(σ[i]?).bind id=ae v:=Option.some.inj tU;cases z:σ[i]? with
       |none=>rw[z]at Ig;cases Ig
       |some o'=>
         rw[z]at Ig;have:o'=ae v:=Ig;rw[this]
  let#[i,ag0,hσ]:=hs;let#[hN,Ih]:=S.agX j i x ag0 e1;have ac0:=S.has (x,.free) (nK Ih) zc;let#[m,_,hl]:=I.loc;let#[u,r,lk]:=hl i x v hN hσ<|.inr ac0;refine#[u,r,?_];rcases lk with⟨k,_⟩|⟨_,c,ec,xq⟩
  .rcases ac0 with z|z
   .rw[z]at k;cases k
   .rw[z]at k;cases k
  .let#[c',vL,tU]:=acZ x Ih;have:c'=c:=by rw[ec]at tU;show(Option.some.inj tU).symm
   subst this;refine .inr #[?_,c',(acY x Ih).trans vL,?_]
   .show jK scope.names x Ih
   .let#[o,ho,hd]:=xq;show#[o,hk _ _ ho,hd]
 .rcases split x c e with q|q
  .show#[ag,(own x c q).2]
  .let#[v,o,ho,hd]:=I.cell x c<|sub x c q;show#[v,o,hk _ _ ho,hd]
 .rcases split x c e with q|q
  .show I.aD.fresh<|nL (own x c q).1
  .show I.qb x c<|sub x c q
 .change (uM src σ).length=N.length;unfold uM;rw[a5];show S.agW
theorem OK {src:List (Option Nat)}{elt:au}{scope:bT}{wi:TI}{g:TG}{tf:TT}{te:TE}
 (hc:X.calm=ah) (S:sx X N src scope) (hi:PI X tg iter wi)
 (hg:∀ cl s H C fp,PG (X.comp N scope cl s H C fp) tg g) (hf:∀ cl s H C fp,PF (X.comp N scope cl s H C fp) ifs tf) (he:∀ cl s H C fp,PE (X.comp N scope cl s H C fp) elt te)
 (hs:∀ x,foldedSetIterable iter X.env x=pure x:=by intro _;rfl):PE X zw (Ie src wi g tf te):=by
 intro pins s σ H Q I h;rw[eval_ListComp];refine aat zc hs (AE<|S.cells I.ok) S.kind S.names<|cb (hi pins s σ H _ I h) λxv s1 h1=>cb h1 λHK s2 h2=>?_;let#[it,fp,tn,J,H2,e,I2,T,vA,f2,hW]:=h2;subst e;refine eR ?_;generalize hD:s2.heap.objs.size=D;have I3:Inv X pins σ (upd H2 D<|.lst []) { s2 with heap:=s2.heap.push { cls:=.type "list",dict:=ag,data:=.seq ([]).toArray } }:=by
  subst hD;show I2.laid (λb u e=>aW _ e) (aE _) #[dM _,[],0,.nil,bE _ zc]
 let#[W,#[m0,w0],turn]:=hW D<|I2.aD.fresh<|wL hD;have up:∀ b o,s2.heap.get? b=ae o->(s2.heap.push { cls:=.type "list",dict:=ag,data:=.seq ([]).toArray }).get? b=ae o:=λb u e=>aW _ e;have uI:=T.keep _ _ _ vA λb _ o e=>up b o e;have yS:∀ b∈fp,b<s2.heap.objs.size:=λb hb=>by let#[o,e,_]:=(T.obj _ _ vA) b hb;show bf e
 have f3:∀ b∈fp,nP X pins (upd H2 D<|.lst []) b:=λb hb=>#[by rw[fC (by rw[<-hD];show cw (yS b hb))];show(f2 b hb).1,(f2 b hb).2];generalize YF:({ s2 with heap:=s2.heap.push { cls:=.type "list",dict:=ag,data:=.seq ([]).toArray } })=s3 at I3 ⊢;have yT:s3.heap=s2.heap.push { cls:=.type "list",dict:=ag,data:=.seq ([]).toArray }:=by rw[<-YF]
 rw[<-yT]at uI;have YG:∀ b∈fp,b<s3.heap.objs.size:=λb hb=>by rw[yT,tL];show qA<|yS b hb
 generalize ag1:upd H2 D (.lst [])=H3 at I3 f3 w0;refine AG ?_;generalize yU:pushCells (s3.heap.push { cls:=.type "dict",data:=.dict #[] }) scope.names=h₁;have k1:∀ b o,s3.heap.get? b=ae o->h₁.get? b=ae o:=λb o e=>by rw[<-yU];show E2 _ _ b o<|aW _ e
 have IY:=C9 S I3 (λb hb=>#[f3 b hb,YG b hb]) (by rw[yU]);have yV:=T.keep _ _ _ uI λb _ o e=>k1 b o e;generalize xC:cellsFrom (s3.heap.objs.size+1) scope.names (eB X.env.cells scope.names [])=cl at IY ⊢;generalize hC:s3.heap.objs.size=C at IY ⊢;have vM:∀ {H'},(∀ b∈fp,H' b=ag)->∀ b∈fp,nP (X.comp N scope cl s3 H3 C fp) [] H' b:=λhn b hb=>by
  refine#[hn b hb,?_,?_,.inl hb,?_,λp hp=>absurd (hp) zj]
  .show(IY.ok.xn b hb).1
  .show IY.ok.xo b hb
  .intro x c e z;show(IY.ok.xn b hb).2 x c e z
 have fin:∀ (σ') (H') (s'),Inv (X.comp N scope cl s3 H3 C fp) [] σ' H' s'->∀ h',Heap.SameBut C s'.heap h'->Inv X pins σ H' { s' with heap:=h' }:=λσ' H' s' I' h' vN=>by
  have vO:H' C=ag:=I'.free;have kp:∀ b o,b≠C->s'.heap.get? b=ae o->h'.get? b=ae o:=λb o hb e=>vN.extBut b o hb e;have YH:s3.heap.get? C=ag:=by rw[<-hC];show Q8<|aE _
  have qf:∀ b o,s3.heap.get? b=ae o->b≠C:=λb o e z=>by rw[z,YH]at e;cases e
  have U:=I'.base;refine I3.ack I'.os #[λb o e n hb hx=>kp b o (qf b o e)<|U.keep b o e n hb hx,λb o e n hb hx=>?_,U.free,λb o e hx=>?_,U.nO,U.pI,U.qJ] ?_ I'.bare λb hb=>?_
  .let#[sl,e1]:=U.slot b o e n hb hx;show#[sl,kp b _ (qf b o e) e1]
  .let#[o',e1]:=U.there b o e hx;show#[o',kp b o' (qf b o e) e1]
  .intro b ob e;refine(I'.aD b ob e).stay (λc w' dD q=>kp c w' (λz=>?_) q) (λ_ q=>q) λ_ _ q=>q;rcases dD with z1|z1
   .rw[<-z1,z,vO]at e;cases e
   .rw[z,vO]at z1;cases z1
  .show#[(f3 b hb).2.2.2.1,(f3 b hb).2.1,λx c e=>(f3 b hb).2.2.2.2.1 x c e,(f3 b hb).2.2.2.2.2]
 have loop:∀ s4:ax,s4={ s3 with heap:=h₁ } ->
  codeAny zf X.A (.compLoop zw 0 (.ref it) (.ref D)<|compEnvC scope cl C X.env) (compPost zf X.A X.xe ag (EP X pins σ Q) (.ref D) C) s4:=by
  rintro s4 rfl;refine mR (λn s'=>∃ i σ' H',Inv (X.comp N scope cl s3 H3 C fp) [] σ' H' s' /\ tn i s'.heap /\ (∀ b∈fp,H' b=ag) /\ W i n σ' H') _ (λ_ _ _ q=>q) ?_ m0 #[0,_,H3,IY,yV,λb hb=>(f3 b hb).1,w0];rintro n s5 ⟨i,σ5,H5,I5,tO,vB,w5⟩;have nq:∀ {α:Type}{t:Sem α}{Q1:α->ax->zt}{E1:ai->ax->zt}{ss:ax},wpAny zf X.A t Q1 (λ_ _=>False) ss->wpAny zf X.A t Q1 E1 ss:=λhw=>kO hw (λ_ _ q=>q) λ_ _ z=>False.elim z;rcases turn i n σ5 H5 w5 with⟨stop,q5⟩|⟨go,NN,hN,step⟩
  .refine nq<|cb (T.done (X.comp N scope cl s3 H3 C fp) zc zc zc hc i [] s5 σ5 H5 (λ_ _=>False) I5 (vM vB) tO stop) ?_;rintro r s6 ⟨hr,I6⟩;subst hr;let#[m6,YI,_]:=I6.loc;show#[m6,YI,λh' vN=>#[.ref D,H5,fin σ5 H5 s6 I6 h' vN,rfl,q5]]
  .refine nq<|cb (T.item (X.comp N scope cl s3 H3 C fp) zc zc zc hc i [] s5 σ5 H5 (λ_ _=>False) I5 (vM vB) tO go) ?_;rintro r s6 ⟨u,hr,h6⟩;subst hr;refine nq<|cb h6 ?_;rintro _ s7 ⟨x,H7,I7,r7,y7,vP,YJ⟩;refine nq<|cb (hg cl s3 H3 C fp _ s7 σ5 H7 x u _ (I7.pinned (vM YJ)<|T.obj _ _ vP) r7<|step x H7 y7) ?_;rintro _ s8 ⟨σ8,H8,I8,q8⟩;refine nq<|tT (hf cl s3 H3 C fp _ s8 σ8 H8 _ I8 q8) λb s9 H9 I9 q9=>?_;have again:∀ {σ9:St}{HA:Hp}{sA:ax},Inv (X.comp N scope cl s3 H3 C fp) ([]++yL fp s7.heap) σ9 HA sA->NN σ9 HA->∃ m,m<n /\ ∃ i σ' H',Inv (X.comp N scope cl s3 H3 C fp) [] σ' H' sA /\ tn i sA.heap /\ (∀ b∈fp,H' b=ag) /\ W i m σ' H':=λ{σ9 HA sA} IA nA=>by
    let#[m',hm,wA]:=hN σ9 HA nA;refine#[m',hm,i+1,σ9,HA,IA.yM,T.keep _ _ _ vP λb hb o e=>(IA.pin (b,o)<|eG _<|eG _<|iu hb e).1,λb hb=>?_,wA];let#[o,e,d]:=T.obj _ _ vP b hb;show(IA.pin (b,o)<|eG _<|eG _<|iu hb e).2.1
   cases b with
   |false=>
     rw[if_neg ze]at q9;rw[if_neg ze];show again I9 q9
   |true=>
     rw[if_pos rfl]at q9;rw[if_pos rfl];refine nq<|tE (he cl s3 H3 C fp _ s9 σ8 H9 _ I9 q9) λyv sA y HA IA rA hh=>?_;let#[ys,YK,YL,nA]:=hh;refine nq<|cb (om _ sA σ8 HA (.ref D) [y] (.ref D) [yv] (λ_ HB=>NN σ8 HB) IA zc (.cons rA .nil) #[D,ys,y,rfl,rfl,YK,YL,nA]) λr sB hB=>?_;let#[_,HB,IB,_,nB]:=hB;show again IB nB
 show aau (loop _ zc)<|T.self _ 0 _ _ _ yV<|loop _ zc
open PySem.W PySem.Builtin PySem.Builtin.ObjectAttr PySem.Builtin.Getset_descriptor
section
variable {x C:ak}
def ac1 (x C:ak) (h:aK):zt:=∃ ox,h.get? x=ae ox /\ ox.cls=.ref C
theorem ac1.type (I:ac1 x C h):Looks M h (typeOf<|.ref x) (.ref C):=by
 let#[ox,e,hc]:=I;show hc▸(Looks.ld e).andThen .now
structure akY (K:Frag) (C:ak):zt where
 ga:findIn K (.ref C) "__getattribute__"=ae (ae<|.builtin "BaseException.__getattribute__")
 gt:findIn K (.ref C) "__getattr__"=ae ag
 cl:findIn K (.ref C) "__class__"=ae (ae<|.builtin "object.__class__")
 gs:specialIn K (.builtin "object.__class__") "__get__"=ae (ae<|.builtin "getset_descriptor.__get__")
 tk:takesIn K (.builtin "object.__class__")=ae ah
 mo:mroIn K C (.type "object")=ae ah
 mb:mroIn K C (.type "BaseException")=ae ah
 cd:(clsIn K C).isSome=ah
end
def ag2 (B:aK) (l:List Env) (ea:ak) (cls a0:ai) (h:aK):zt:=
 Heap.FlyingW B l ea cls a0 h \/ (B.StaysIn h /\ B.get? ea=ag /\ h.FunFrames B l /\
  h.get? ea=ae { cls:=cls,data:=.fields (List.toArray [a0,.none,.none,.none,.bool af,.none]) })
section
variable {s:ax} {B:aK} {env:Env} {outer:List Env} {L ea:ak} {cls a0:ai} {Q:Unit -> ax -> zt}
end
def qk (P:c7) (w:cn):qi:=λouter H s E e s'=>∃ (ea C:ak) (a0:ai) (B:aK) (H':Hp),
 e=.ref ea /\ s'.os=s.os /\ AllBare s'.gens /\ Un (pJ outer) [] H H' s.heap s'.heap /\ cG P w H' s'.heap /\ ag2 B outer ea (.ref C) a0 s'.heap /\
 (∀ b u o,H' b=ae u->s'.heap.get? b=ae o->B.get? b=ae o) /\ (∀ b o,s.heap.get? b=ae o->b∉pJ outer->∃ o',B.get? b=ae o') /\ E (.ref C) ag H'
section
variable {k:Nat} {f C:ak} {ps:List Str} {sp:Sp} {vD:List V} {ds:List ai} {E:XK} {m:Str} {p:aM} {o:au} {ta:TE} {t:TA}
inductive ac2 (K:Frag) (H:Hp):V->ai->zt where
 |of {x:V}{t:ai}(h:nR K H x t):ac2 K H x t
noncomputable def ag3:V->ai->zt
 |.ref a,c=>c=.ref a
 |.ty n,c=>c=.type n
 |_,_=>False
def ag4 (K:Frag):List V->Hp->VK->zt:=λvs H Q=>∃ x c t cv b,vs=[x,c] /\ ac2 K H x t /\ ag3 c cv /\ kitOne K t cv=ae b /\ Q (.bl b) H
theorem JB:dQ X (.builtin "isinstance") (ag4 X.K):=by
 intro pins s σ H xs us Q I rv h;let#[x,c,t,cv,b,rfl,ty,hc,e,q]:=h;cases rv with
 |cons r1 r2=>
   cases r2 with
   |cons r3 r4=>
     cases r4;ext u1 u2;have ec:u2=cv:=by
      cases c with
      |ref a=>show(r3).trans (hc).symm
      |ty n=>show(r3).trans (hc).symm
      |_=>show hc.elim
     subst ec;cases ty with
     |of ty=>show Ju I r1 ty e λtk=>#[.bl b,H,I.tok tk,rfl,q]
end
end L2
namespace L2.DL
inductive D where
 |non|bl (b:Bool)|int (i:Int)|str (x:Str)|tup (l:List D)|lst (l:List D)|aB (l:List<|Key×D)
inductive W where
 |d (x:D)|b (n:Nat)|s (l:List Int)|x (i:Nat)|t (l:List Nat)|m (l:List<|Str×Nat)
inductive Bx where
 |lst (l:List D)|aB (l:List<|Key×D)|dead|dT (l:List<|List Key×D)|fD (l:List<|Key×D)
mutual
noncomputable def Den (F:Hp):D->V->zt
 |.non,v=>v=.non
 |.bl b,v=>v=.bl b
 |.int i,v=>v=.int i
 |.str x,v=>v=.str x
 |.tup l,v=>∃ a vs,v=.ref a /\ F a=ae (.tup vs) /\ aG F l vs
 |.lst l,v=>∃ a vs,v=.ref a /\ F a=ae (.lst vs) /\ aG F l vs
 |.aB l,v=>∃ a ao,v=.ref a /\ F a=ae (.dK ao) /\ aR F l ao
noncomputable def aG (F:Hp):List D->List V->zt
 |[],vs=>vs=[]
 |d::l,vs=>∃ v r,vs=v::r /\ Den F d v /\ aG F l r
noncomputable def aR (F:Hp):List (Key×D)->List (Key×V)->zt
 |[],r=>r=[]
 |(k,d)::l,r=>∃ v r',r=(k,v)::r' /\ Den F d v /\ aR F l r'
end
def Sub (F F':Hp):zt:=∀ a u,F a=ae u->F' a=ae u
theorem Sub.refl (F:Hp):Sub F F:=λ_ _ h=>h
theorem Sub.trans {G:Hp}(a:Sub F G) (b:Sub G H):Sub F H:=λx u h=>b x u<|a x u h
def xD (F F':Hp):zt:=∀ a u,(∀ o v,u≠.bK o v)->F a=ae u->F' a=ae u
theorem Sub.d (s:Sub F F'):xD F F':=λa u _ h=>s a u h
mutual
theorem Den.dS {F F':Hp}(s:xD F F'):∀ (d:D) {v:V},Den F d v->Den F' d v
 |.non,_,h=>h
 |.bl _,_,h=>h
 |.int _,_,h=>h
 |.str _,_,h=>h
 | .tup l,_,h=>by
   let#[a,vs,e,h1,h2]:=h;show#[a,vs,e,s _ _ (λ_ _ z=>nomatch z) h1,aG.dS s l h2]
 | .lst l,_,h=>by
   let#[a,vs,e,h1,h2]:=h;show#[a,vs,e,s _ _ (λ_ _ z=>nomatch z) h1,aG.dS s l h2]
 | .aB l,_,h=>by
   let#[a,vs,e,h1,h2]:=h;show#[a,vs,e,s _ _ (λ_ _ z=>nomatch z) h1,aR.dS s l h2]
theorem aG.dS {F F':Hp}(s:xD F F'):∀ (l:List D) {vs:List V},aG F l vs->aG F' l vs
 |[],_,h=>h
 | d::l,_,h=>by
   let#[v,r,e,h1,h2]:=h;show#[v,r,e,Den.dS s d h1,aG.dS s l h2]
theorem aR.dS {F F':Hp}(s:xD F F'):∀ (l:List<|Key×D) {vs:List (Key×V)},aR F l vs->aR F' l vs
 |[],_,h=>h
 | (k,d)::l,_,h=>by
   let#[v,r,e,h1,h2]:=h;show#[v,r,e,Den.dS s d h1,aR.dS s l h2]
end
theorem Den.mono (s:Sub F F') (d:D) (h:Den F d v):Den F' d v:=Den.dS s.d d h
theorem aG.mono (s:Sub F F') (l:List D) {vs:List V}(h:aG F l vs):aG F' l vs:=aG.dS s.d l h
theorem aR.mono (s:Sub F F') (l:List<|Key×D) {vs:List (Key×V)}(h:aR F l vs):aR F' l vs:=aR.dS s.d l h
theorem aG.length {F:Hp}:∀ {l:List D}{vs:List V},aG F l vs->l.length=vs.length
 | [],_,h=>by
   rw[h];rfl
 | d::l,_,h=>by
   let#[v,r,e,_,h2]:=h;rw[e,bD,bD,h2.length]
theorem aG.get {F:Hp}:∀ {l:List D}{vs:List V}{i:Nat}{d:D},aG F l vs->l[i]?=ae d->∃ v,vs[i]?=ae v /\ Den F d v
 |[],_,_,_,_,e=>by simp at e
 | x::l,_,0,d,h,e=>by
   let#[v,r,q,h1,_]:=h;simp at e;subst e;subst q;show#[v,rfl,h1]
 | x::l,_,i+1,d,h,e=>by
   let#[v,r,q,_,h2]:=h;subst q;let#[u,e1,e2]:=aG.get h2 (by simpa using e);show#[u,by simpa using e1,e2]
theorem aG.nil:aG F [] []:=rfl
theorem aG.cons {F:Hp}{d:D}{v:V}{l:List D}{vs:List V}(h:Den F d v) (t:aG F l vs):aG F (d::l) (v::vs):=#[v,vs,rfl,h,t]
theorem aG.append {F:Hp}:∀ {l l':List D}{vs yW:List V},aG F l vs->aG F l' yW->aG F (l++l') (vs++yW)
 | [],_,_,_,h,t=>by
   rw[h];show t
 | d::l,_,_,_,h,t=>by
   let#[v,r,q,h1,h2]:=h;subst q;show .cons h1<|h2.append t
theorem aG.take {F:Hp}:∀ {l:List D}{vs:List V}(n:Nat),aG F l vs->aG F (l.take n) (vs.take n)
 |l,_,0,_=>by rfl
 | [],_,n+1,h=>by
   rw[h];show rfl
 | d::l,_,n+1,h=>by
   let#[v,r,q,h1,h2]:=h;subst q;show .cons h1<|h2.take n
theorem aG.drop {F:Hp}:∀ {l:List D}{vs:List V}(n:Nat),aG F l vs->aG F (l.drop n) (vs.drop n)
 |l,_,0,h=>h
 | [],_,n+1,h=>by
   rw[h];show rfl
 | d::l,_,n+1,h=>by
   let#[v,r,q,h1,h2]:=h;subst q;show h2.drop n
theorem aG.reverse {F:Hp}:∀ {l:List D}{vs:List V},aG F l vs->aG F l.reverse vs.reverse
 | [],_,h=>by
   rw[h];show rfl
 | d::l,_,h=>by
   let#[v,r,q,h1,h2]:=h;subst q;rw[Hf,Hf];show h2.reverse.append<|.cons h1 .nil
theorem aG.set {F:Hp}{d:D}{v:V}(hd:Den F d v):∀ {l:List D}{vs:List V}(i:Nat),aG F l vs->aG F (l.set i d) (vs.set i v)
 | [],_,_,h=>by
   rw[h];show rfl
 | _::l,_,0,h=>by
   let#[v',r,q,h1,h2]:=h;subst q;show .cons hd h2
 | _::l,_,i+1,h=>by
   let#[v',r,q,h1,h2]:=h;subst q;show .cons h1<|aG.set hd i h2
theorem aG.eraseIdx {F:Hp}:∀ {l:List D}{vs:List V}(i:Nat),aG F l vs->aG F (l.eraseIdx i) (vs.eraseIdx i)
 | [],_,_,h=>by
   rw[h];show rfl
 | _::l,_,0,h=>by
   let#[v',r,q,h1,h2]:=h;subst q;show h2
 | _::l,_,i+1,h=>by
   let#[v',r,q,h1,h2]:=h;subst q;show .cons h1<|h2.eraseIdx i
structure Fr where
 H₀:Hp
 n₀:Nat
 F₀:Hp
noncomputable def uN (r:List ak):List Nat->List ak->zt
 |[],as=>as=[]
 |n::l,as=>∃ a t,as=a::t /\ r[n]?=ae a /\ uN r l t
theorem uN.mono {r r':List ak}(p:r <+: r'):∀ {l:List Nat}{as:List ak},uN r l as->uN r' l as
 |[],_,h=>h
 | n::l,_,h=>by
   let#[a,t,e,h1,h2]:=h;refine#[a,t,e,?_,h2.mono p];let#[u,rfl]:=p;rw[dZ (List.getElem?_eq_some_iff.mp h1).1];show h1
def bP (F:Hp):List (List Key×D)->List (List Key×V)->zt
 |[],r=>r=[]
 |(k,d)::l,r=>∃ v r',r=(k,v)::r' /\ Den F d v /\ bP F l r'
theorem bP.dS {F F':Hp}(s:xD F F'):∀ (l:List<|List Key×D) {vs:List (List Key×V)},bP F l vs->bP F' l vs
 |[],_,h=>h
 | (k,d)::l,_,h=>by
   let#[v,r,e,h1,h2]:=h;show#[v,r,e,Den.dS s d h1,bP.dS s l h2]
theorem bP.mono (s:Sub F F') (l:List<|List Key×D) {vs:List (List Key×V)}(h:bP F l vs):bP F' l vs:=bP.dS s.d l h
def bU (F:Hp) (YM:List ak):W->V->zt
 |.d x,v=>Den F x v
 |.b n,v=>∃ a,v=.ref a /\ YM[n]?=ae a
 |.s l,v=>∃ a o,v=.ref a /\ F a=ae (.bK o<|.lst<|l.map V.int)
 |.x _,_=>False
 |.t l,v=>∃ c as,v=.ref c /\ F c=ae (.tup<|as.map V.ref) /\ uN YM l as
 |.m l,v=>∃ c as,v=.ref c /\ F c=ae (.dK<|List.zipWith (λk a=>(.inr k.1,V.ref a)) l as) /\ uN YM (l.map (·.2)) as
theorem bU.mono {F F':Hp}{r r':List ak}(s:Sub F F') (p:r <+: r'):∀ (w:W) {v:V},bU F r w v->bU F' r' w v
 |.d x,_,h=>Den.mono s x h
 | .b n,_,h=>by
   let#[a,e,h]:=h;refine#[a,e,?_];let#[t,rfl]:=p;rw[dZ (List.getElem?_eq_some_iff.mp h).1];show h
 |.s l,_,h=>let ⟨a,o,e,h⟩:=h;#[a,o,e,s _ _ h]
 |.x _,_,h=>h
 |.t l,_,h=>let ⟨c,as,e,h1,h2⟩:=h;#[c,as,e,s _ _ h1,h2.mono p]
 |.m l,_,h=>let ⟨c,as,e,h1,h2⟩:=h;#[c,as,e,s _ _ h1,h2.mono p]
def sy (F H:Hp) (a:ak):Bx->zt
 |.lst l=>F a=ag /\ ∃ vs,H a=ae (.lst vs) /\ aG F l vs
 |.aB l=>F a=ag /\ ∃ ao,H a=ae (.dK ao) /\ aR F l ao
 |.dead=>∃ u,H a=ae u
 |.dT l=>F a=ag /\ ∃ ao,H a=ae (.dT ao) /\ bP F l ao
 |.fD l=>∃ o ao,F a=ae (.bK o<|.dK ao) /\ H a=ae (.bK o<|.dK ao) /\ aR F l ao
noncomputable abbrev aQ:=List<|Option W
noncomputable abbrev xB (n:Nat):Option W:=ae<|.b n
noncomputable abbrev xN (i:Int):Option W:=ae<|.d<|.int i
noncomputable abbrev xJ (l:List Int):Option W:=ae<|.d<|.lst<|l.map D.int
structure Rel (T:Fr) (F:Hp) (r:List ak) (σ:St) (H:Hp) (env:aQ) (bx:List Bx):zt where
 fh:Sub F H
 slot:∀ (i:Nat) (w:W),env[i]?=ae (ae w)->∃ v,σ[i]?=ae (ae v) /\ bU F r w v
 len:r.length=bx.length
 nd:r.Nodup
 box:∀ (n:Nat) (c:Bx) (a:ak),bx[n]?=ae c->r[n]?=ae a->sy F H a c
 keep:∀ a u,T.H₀ a=ae u->a∉r->H a=ae u
 new:∀ (n:Nat) (a:ak),T.n₀<=n->r[n]?=ae a->T.H₀ a=ag
 n0:T.n₀<=r.length
 sl:env.length<=σ.length
 fs:∀ a u,F a=ae u->(∃ vs,u=.tup vs) \/ T.F₀ a=ae u \/ T.H₀ a=ag \/ a∈r
structure bh (F:Hp) (r:List ak) (F':Hp) (r':List ak):zt where
 s:Sub F F'
 p:r <+: r'
theorem bh.refl (F:Hp) (r:List ak):bh F r F r:=#[Sub.refl F,pE r]
theorem bh.trans {F F' ac3:Hp}{r r' ac4:List ak}(a:bh F r F' r') (b:bh F' r' ac3 ac4):bh F r ac3 ac4:=#[a.s.trans b.s,a.p.trans b.p]
theorem bh.den {r':List ak}(g:bh F r F' r') {w:W}(h:bU F r w v):bU F' r' w v:=h.mono g.s g.p w
inductive O (α:Type) where
 |val (a:α) (bx:List Bx)|exc (c:Nat) (bx:List Bx)|bad
abbrev DE (α:Type):=aQ->List Bx->O α
noncomputable def fB {β:Type}(m:O α) (k:α->List Bx->O β):O β:=
 match m with
 |.val a bx=>k a bx
 |.exc c bx=>.exc c bx
 |.bad=>.bad
structure Xs where
 E:XK
 cl:Nat->ak
noncomputable def End {β:Type}(T:Fr) (Z:Xs) (Rl:Hp->List ak->α->β->zt) (F:Hp) (r:List ak) (σ:St) (env:aQ) (Q:β->Hp->zt):O α->zt
 |.val d bx'=>∀ F' r' v H',bh F r F' r'->Rel T F' r' σ H' env bx'->Rl F' r' d v->Q v H'
 |.exc c bx'=>∀ F' r' H',bh F r F' r'->Rel T F' r' [] H' [] bx'->Z.E (.ref<|Z.cl c) ag H'
 |.bad=>False
theorem End.weak {β:Type}{T:Fr}{Z:Xs}{Rl:Hp->List ak->α->β->zt}{r':List ak}{env:aQ}{Q:β->Hp->zt}(g:bh F r F' r'):∀ {o:O α},End T Z Rl F r σ env Q o->End T Z Rl F' r' σ env Q o
 |.val _ _,h=>λF2 r2 v H2 g2=>h F2 r2 v H2<|g.trans g2
 |.exc _ _,h=>λF2 r2 H2 g2=>h F2 r2 H2<|g.trans g2
 |.bad,h=>h
theorem End.bind {β α' β':Type}{T:Fr}{Z:Xs}{R1:Hp->List ak->α->β->zt}{R2:Hp->List ak->α'->β'->zt}{env:aQ}{Q:β'->Hp->zt}{Q1:β->Hp->zt}
 {m:O α}{k:α->List Bx->O α'}(h:End T Z R2 F r σ env Q<|fB m k)
 (c:∀ d bx1 F1 r1 v H1,bh F r F1 r1->Rel T F1 r1 σ H1 env bx1->R1 F1 r1 d v->End T Z R2 F1 r1 σ env Q (k d bx1)->Q1 v H1):End T Z R1 F r σ env Q1 m:=by
 cases m with
 |val d bx=>show λF' r' v H' g R q=>c d bx F' r' v H' g R q<|End.weak g h
 |exc n bx=>show h
 |bad=>show h
theorem Rel.drop {T:Fr}{env:aQ}{bx:List Bx}(R:Rel T F r σ H env bx):Rel T F r [] H [] bx:=
 #[R.fh,λi w e=>by simp at e,R.len,R.nd,R.box,R.keep,R.new,R.n0,aE _,R.fs]
def tD (T:Fr) (Z:Xs) (m:DE W):TE:=λσ H Q=>∃ F r env bx,Rel T F r σ H env bx /\ End T Z bU F r σ env Q zz
def PD (X:Cx) (T:Fr) (Z:Xs) (e:au) (m:DE W):zt:=PE X e<|tD T Z m
abbrev ag5:Hp->List ak->Bool->Bool->zt:=λ_ _ a b=>a=b
def sC (T:Fr) (Z:Xs) (m:DE Bool):TT:=λσ H Q=>∃ F r env bx,Rel T F r σ H env bx /\ End T Z ag5 F r σ env Q zz
def eC (X:Cx) (T:Fr) (Z:Xs) (e:au) (m:DE Bool):zt:=PT X e<|sC T Z m
def kE (F:Hp) (r:List ak):List W->List V->zt
 |[],vs=>vs=[]
 |w::l,vs=>∃ v t,vs=v::t /\ bU F r w v /\ kE F r l t
theorem kE.mono {F F':Hp}{r r':List ak}(g:bh F r F' r'):∀ {l:List W}{vs:List V},kE F r l vs->kE F' r' l vs
 |[],_,h=>h
 | w::l,_,h=>by
   let#[v,t,e,h1,h2]:=h;show#[v,t,e,g.den h1,h2.mono g]
def Ii (T:Fr) (Z:Xs) (m:DE<|List W):TA:=λσ H Q=>∃ F r env bx,Rel T F r σ H env bx /\ End T Z kE F r σ env Q zz
def dF (X:Cx) (T:Fr) (Z:Xs) (es:List au) (m:DE<|List W):zt:=PA X es<|Ii T Z m
theorem x4 {T:Fr}{B:Hp->List ak->aQ->List Bx->zt}{G:zt}(k:∀ F r env bx,Rel T F r σ H env bx->B F r env bx->G):(∃ F r env bx,Rel T F r σ H env bx /\ B F r env bx)->G:=λ⟨F,r,env,bx,R,h⟩=>k F r env bx R h
theorem x5 {δ:Type}{T:Fr}{C:Hp->List ak->δ->zt}{B:Hp->List ak->aQ->List Bx->δ->zt}{G:zt}(k:∀ F r env bx w,Rel T F r σ H env bx->C F r w->B F r env bx w->G):(∃ F r env bx w,Rel T F r σ H env bx /\ C F r w /\ B F r env bx w)->G:=λ⟨F,r,env,bx,w,R,d,h⟩=>k F r env bx w R d h
theorem PE.imp {t t':TE}(h:PE X e t) (f:∀ σ H Q,t' σ H Q->t σ H Q):PE X e t':=λpins s σ H Q I q=>h pins s σ H Q I<|f σ H Q q
theorem PT.imp {t t':TT}(h:PT X e t) (f:∀ σ H Q,t' σ H Q->t σ H Q):PT X e t':=λpins s σ H Q I q=>h pins s σ H Q I<|f σ H Q q
theorem PW.imp {t t':TT}(h:PW X e t) (f:∀ σ H Q,t' σ H Q->t σ H Q):PW X e t':=λwhole pins s σ H Q I q=>h whole pins s σ H Q I<|f σ H Q q
theorem PA.imp {e:List au}{t t':TA}(h:PA X e t) (f:∀ σ H Q,t' σ H Q->t σ H Q):PA X e t':=λpos pins s σ H Q I q=>h pos pins s σ H Q I<|f σ H Q q
theorem PS.imp {e:b9}{t t':TS}(h:PS X e t) (f:∀ Q σ H,t' Q σ H->t Q σ H):PS X e t':=λpins s σ H Q I q=>h pins s σ H Q I<|f Q σ H q
theorem kg.imp {e:List b9}{t t':TS}(h:kg X e t) (f:∀ Q σ H,t' Q σ H->t Q σ H):kg X e t':=λpins s σ H Q I q=>h pins s σ H Q I<|f Q σ H q
section
variable {T:Fr} {Z:Xs} {a b c:au} {ma mb mc:DE W} 
noncomputable def dV (i:Nat):DE W:=λenv bx=>match env[i]? with|some (ae w)=>.val w bx|_=>.bad
theorem L5 (i:Nat) (hN:X.N[i]?=ae x:=by rfl) (hv:vq X.env.scope x:=by first|show Or.inl zc|show Or.inr (Or.inl zc)|show Or.inr (Or.inr zc)) (hd:(x==("__debug__":Str))=af:=by decide)
 (pK:(x==("__classdict__":Str))=af:=by decide):PD X T Z (.Name x pos) (dV i):=by
 refine PE.imp (LB hN hv hd pK) λσ H Q=>x4 λF r env bx R h=>?_;unfold dV at h;split at h
 .ext w e;let#[v,e1,e2]:=R.slot i w e;show#[v,e1,h F r v H (.refl F r) R e2]
 .show h.elim
noncomputable def dC (d:D):DE W:=λ_ bx=>.val (.d d) bx
theorem Db {d:D}(h:PE X e<|tC v) (hd:∀ F,Den F d v):PD X T Z e (dC d):=
 PE.imp h λσ H Q=>x4 λF r env bx R h=>h F r v H (.refl F r) R<|hd F
theorem TX {i:Int}{j}:PD X T Z (.Constant (.int i) j pos) (dC<|.int i):=Db LC λ_=>rfl
theorem V9 {i:Bool}{j}:PD X T Z (.Constant (.bool i) j pos) (dC<|.bl i):=Db VX λ_=>rfl
theorem TY {j}:PD X T Z (.Constant .none j pos) (dC .non):=Db Th λ_=>rfl
theorem TZ {j}:PD X T Z (.Constant (.str x) j pos) (dC<|.str x):=Db Ax λ_=>rfl
noncomputable def fg:DE (List W):=λ_ bx=>.val [] bx
def fc (m:DE W) (k:DE<|List W):DE (List W):=λenv bx=>fB zz λw bx1=>fB (k env bx1) λl ay=>.val (w::l) ay
theorem jM:dF X T Z [] fg:=PA.imp ls λσ H Q=>x4 λF r env bx R h=>h F r [] H (.refl F r) R zc
theorem L6 {k:DE (List W)}(ha:PD X T Z e ma) (hr:dF X T Z es k) (hs:starEach (e::es) X.env=(af,eval e X.env)::starEach es X.env:=by rfl):dF X T Z (e::es) (fc ma k):=by
 refine PA.imp (ji ha hr hs) λσ H Q=>x4 λF r env bx R h=>?_;refine#[F,r,env,bx,R,End.bind h λw bx1 F1 r1 v H1 g1 R1 d1 h1=>?_];refine#[F1,r1,env,bx1,R1,End.bind h1 λl ay F2 r2 vs H2 g2 R2 d2 h2=>?_];show h2 F2 r2 _ H2 (.refl F2 r2) R2 #[v,vs,rfl,g2.den d1,d2]
end
end L2.DL
variable {te m mb ma:L2.DL.DE L2.DL.W}{ks rs:List L2.DL.D}{T:L2.DL.Fr}{env:L2.DL.aQ}{tf:L2.DL.DE Bool}{B bx bx1:List L2.DL.Bx}{Z:L2.DL.Xs}{fn:List L2.DL.W -> List L2.DL.Bx -> L2.DL.O L2.DL.W}{mi:L2.DL.DE (List L2.DL.W)}{hd:L2.DL.D}{dr:List (List L2.Key × L2.DL.D)}
namespace L2.DL
theorem iE {o:HO}(h:F p=ag):Sub F (upd F p o):=λa u e=>by rw[fC<|f8 e h];show e
theorem Rel.qO (R:Rel T F r σ H env bx) (h:H p=ag):F p=ag:=by
 cases e:F p with
 |none=>rfl
 |some u=>rw[R.fh p u e]at h;cases h
theorem sy.there:∀ {c:Bx},sy F H a c->∃ u,H a=ae u
 |.lst _,h=>let ⟨_,vs,e,_⟩:=h;#[_,e]
 |.aB _,h=>let ⟨_,vs,e,_⟩:=h;#[_,e]
 |.dead,h=>h
 |.dT _,h=>let ⟨_,vs,e,_⟩:=h;#[_,e]
 |.fD _,h=>let ⟨_,_,_,e,_⟩:=h;#[_,e]
theorem Rel.eI (R:Rel T F r σ H env bx) (e:r[n]?=ae a):∃ c,bx[n]?=ae c /\ sy F H a c:=by
 have h:=(List.getElem?_eq_some_iff.mp e).1;rw[R.len]at h;show#[_,cY h,R.box n _ a (cY h) e]
theorem Rel.xE (R:Rel T F r σ H env bx) (h:H p=ag):p∉r:=λhp=>by
 let#[n,e]:=List.mem_iff_getElem?.mp hp;let#[c,_,k]:=R.eI e;let#[u,k]:=k.there;rw[h]at k;cases k
theorem sy.grow (s:Sub F F') (hf:F a=ag->F' a=ag) (hh:∀ u,H a=ae u->H' a=ae u):∀ {c:Bx},sy F H a c->sy F' H' a c
 |.lst _,h=>let ⟨h1,vs,h2,h3⟩:=h;#[hf h1,vs,hh _ h2,aG.mono s _ h3]
 |.aB _,h=>let ⟨h1,vs,h2,h3⟩:=h;#[hf h1,vs,hh _ h2,aR.mono s _ h3]
 |.dead,h=>let ⟨u,h⟩:=h;#[u,hh u h]
 |.dT _,h=>let ⟨h1,vs,h2,h3⟩:=h;#[hf h1,vs,hh _ h2,bP.mono s _ h3]
 |.fD _,h=>let ⟨o,vs,h1,h2,h3⟩:=h;#[o,vs,s _ _ h1,hh _ h2,aR.mono s _ h3]
theorem Rel.yX (R:Rel T F r σ H env bx) {o:HO}(h:H p=ag):Rel T (upd F p o) r σ (upd H p o) env bx:=by
 have s:=iE (o:=o)<|R.qO h;refine#[λa u e=>?_,λi w e=>?_,R.len,R.nd,λn c a e1 e2=>?_,λa u e hn=>?_,R.new,R.n0,R.sl,λa u e=>?_]
 .by_cases ha:a=p
  .subst ha;rw[fA]at e ⊢;show e
  .rw[fC ha]at e ⊢;show R.fh a u e
 .let#[v,e1,e2]:=R.slot i w e;show#[v,e1,e2.mono s<|pE r]
 .have k:=R.box n c a e1 e2;let#[u,hu]:=k.there;have ha:=f8 hu h;show k.grow s (λz=>by rw[fC ha];show z) (λu z=>by rw[fC ha];show z)
 .have k:=R.keep a u e hn;rw[fC<|f8 k h];show k
 .by_cases ha:a=p
  .subst ha;refine .inr<|.inr<|.inl ?_;cases q:T.H₀ a with
   |none=>rfl
   |some u=>rw[R.keep a u q<|R.xE h]at h;cases h
  .rw[fC ha]at e;show R.fs a u e
theorem Rel.uO (R:Rel T F r σ H env bx) {o:HO}(h:H p=ag):bh F r (upd F p o) r:=#[iE<|R.qO h,pE r]
theorem Rel.Ij (R:Rel T F r σ H env bx) {o:HO}{c:Bx}(h:H p=ag) (hc:sy F (upd H p o) p c):Rel T F (r++[p]) σ (upd H p o) env (bx++[c]):=by
 have hs:∀ a u,H a=ae u->upd H p o a=ae u:=λa u e=>by rw[fC<|f8 e h];show e
 refine#[λa u e=>hs a u<|R.fh a u e,λi w e=>?_,by rw[cX,cX,R.len];rfl,?_,λn c' a e1 e2=>?_,λa u e hn=>?_,λn a hn e=>?_,by rw[cX];show cx R.n0 (wM _ _),R.sl,λa u e=>(R.fs a u e).imp id<|Or.imp id<|Or.imp id λz=>pY _ z]
 .let#[v,e1,e2]:=R.slot i w e;show#[v,e1,e2.mono (Sub.refl F)<|wR r [p]]
 .rw[vn];refine#[R.nd,by simp,λa ha b hb=>?_];rw[eU]at hb;subst hb;show λz=>R.xE h<|z▸ha
 .by_cases hn:n<r.length
  .rw[dZ hn]at e2;rw[dZ (by rw[<-R.len];show hn)]at e1;show(R.box n c' a e1 e2).grow (Sub.refl F) id (hs a)
  .rw[k9 za]at e2;rw[k9 (by rw[<-R.len];lia)]at e1;have hl:n-r.length=0:=by
    cases q:n-r.length with
    |zero=>rfl
    |succ k=>rw[q]at e2;simp at e2
   have nu:n-bx.length=0:=by rw[<-R.len];show hl
   rw[hl]at e2;rw[nu]at e1;simp at e1 e2;subst e1 e2;show hc
 .show hs a u<|R.keep a u e λz=>hn<|pY _ z
 .by_cases hl:n<r.length
  .rw[dZ hl]at e;show R.new n a hn e
  .have hp:a=p:=by
    rw[k9 za]at e;cases q:n-r.length with
    |zero=>rw[q]at e;simp at e;show e.symm
    |succ k=>rw[q]at e;simp at e
   subst hp;cases q:T.H₀ a with
   |none=>rfl
   |some u=>rw[R.keep a u q<|R.xE h]at h;cases h
theorem lw {l:List α}(h:l.Nodup) {i:Nat}{x:α}(a:l[i]?=ae x) (b:l[j]?=ae x):i=j:=by
 show(List.getElem?_inj (List.getElem?_eq_some_iff.mp a).1 h).mp (a.trans b.symm)
theorem Rel.write (R:Rel T F r σ H env bx) {o:HO}{c:Bx}(e:r[n]?=ae a) (hF:F a=ag) (hc:sy F (upd H a o) a c):Rel T F r σ (upd H a o) env (bx.set n c):=by
 refine#[λb u q=>?_,R.slot,by rw[p5];show R.len,R.nd,λm c' b e1 e2=>?_,λb u q hn=>?_,R.new,R.n0,R.sl,R.fs]
 .by_cases hb:b=a
  .subst hb;rw[hF]at q;cases q
  .rw[fC hb];show R.fh b u q
 .by_cases hm:m=n
  .subst hm;rw[e]at e2;cases e2;rw[pZ (by rw[<-R.len];show(List.getElem?_eq_some_iff.mp e).1)]at e1;cases e1;show hc
  .rw[tm<|Ne.symm hm]at e1;have hb:b≠a:=λz=>hm<|lw R.nd e2<|z▸e;show(R.box m c' b e1 e2).grow (Sub.refl F) id λu z=>by rw[fC hb];show z
 .rw[fC λz=>hn (by rw[z];show(List.mem_iff_getElem?.mpr #[n,e]))];show R.keep b u q hn
theorem Rel.freeze (R:Rel T F r σ H env bx) {o:HO}(e:r[n]?=ae a) (hF:F a=ag) (hH:H a=ae o):Rel T (upd F a o) r σ H env (bx.set n .dead) /\ bh F r (upd F a o) r:=by
 have s:=iE (o:=o) hF;refine#[#[λb u q=>?_,λi w q=>?_,by rw[p5];show R.len,R.nd,λm c' b e1 e2=>?_,R.keep,R.new,R.n0,R.sl,λb u q=>?_],s,pE r]
 .by_cases hb:b=a
  .subst hb;rw[fA]at q;cases q;show hH
  .rw[fC hb]at q;show R.fh b u q
 .let#[v,e1,e2]:=R.slot i w q;show#[v,e1,e2.mono s<|pE r]
 .by_cases hm:m=n
  .subst hm;rw[e]at e2;cases e2;rw[pZ (by rw[<-R.len];show(List.getElem?_eq_some_iff.mp e).1)]at e1;cases e1;show#[_,hH]
  .rw[tm<|Ne.symm hm]at e1;have hb:b≠a:=λz=>hm<|lw R.nd e2<|z▸e;show(R.box m c' b e1 e2).grow s (λz=>by rw[fC hb];show z) λu z=>z
 .by_cases hb:b=a
  .subst hb;show .inr<|.inr<|.inr<|List.mem_iff_getElem?.mpr #[n,e]
  .rw[fC hb]at q;show R.fs b u q
def nS (F H:Hp):D->V->zt
 |.lst l,v=>∃ a vs,v=.ref a /\ H a=ae (.lst vs) /\ aG F l vs
 |.aB l,v=>∃ a ao,v=.ref a /\ H a=ae (.dK ao) /\ aR F l ao
 |.tup l,v=>∃ a vs,v=.ref a /\ F a=ae (.tup vs) /\ aG F l vs
 |.non,v=>v=.non
 |.bl b,v=>v=.bl b
 |.int i,v=>v=.int i
 |.str x,v=>v=.str x
noncomputable def bV (bx:List Bx):W->Option D
 |.d x=>ae x
 | .b n=>match bx[n]? with
   |some (.lst l)=>ae<|.lst l
   |some (.aB l)=>ae<|.aB l
   |_=>ag
 |_=>ag
theorem Den.qP (s:Sub F H):∀ {d:D}{v:V},Den F d v->nS F H d v
 |.non,_,h=>h
 |.bl _,_,h=>h
 |.int _,_,h=>h
 |.str _,_,h=>h
 |.tup l,_,h=>h
 |.lst l,_,h=>let ⟨a,vs,e,h1,h2⟩:=h;#[a,vs,e,s _ _ h1,h2]
 |.aB l,_,h=>let ⟨a,vs,e,h1,h2⟩:=h;#[a,vs,e,s _ _ h1,h2]
theorem Rel.qP (R:Rel T F r σ H env bx) {w:W}{v:V}{d:D}(h:bU F r w v) (e:bV bx w=ae d):nS F H d v:=by
 cases w with
 |d x=>
   cases e;show Den.qP R.fh h
 |b n=>
   let#[a,rfl,ha]:=h;let#[c,hc,k]:=R.eI ha;simp[bV,hc]at e;cases c with
   |lst l=>cases e;let#[_,vs,k1,k2]:=k;show#[a,vs,rfl,k1,k2]
   |aB l=>cases e;let#[_,vs,k1,k2]:=k;show#[a,vs,rfl,k1,k2]
   |_=>cases e
 |s l=>cases e
 |x i=>show h.elim
 |_=>cases e
def YN (F H:Hp):List D->List V->zt
 |[],vs=>vs=[]
 |d::l,vs=>∃ v t,vs=v::t /\ nS F H d v /\ YN F H l t
def eW (bx:List Bx):List W->Option (List D)
 |[]=>ae []
 |w::l=>(bV bx w).bind λd=>(eW bx l).map λt=>d::t
theorem Rel.ac5 (R:Rel T F r σ H env bx):∀ {ws:List W}{vs:List V}{ds:List D},kE F r ws vs->eW bx ws=ae ds->YN F H ds vs
 |[],_,_,h,e=>by cases e;show h
 | w::l,_,ds,h,e=>by
   let#[v,t,q,h1,h2]:=h;unfold eW at e;cases e1:bV bx w with
   |none=>rw[e1]at e;cases e
   |some d=>
     rw[e1]at e;cases e2:eW bx l with
     |none=>rw[e2]at e;cases e
     |some t'=>
       rw[e2]at e;cases e;show#[v,t,q,R.qP h1 e1,R.ac5 h2 e2]
inductive Res where
 |old (d:D)|tup (l:List D)|lst (l:List D)|aB (l:List<|Key×D)
noncomputable def Res.toD:Res->D
 |.old d=>d|.tup l=>.tup l|.lst l=>.lst l|.aB l=>.aB l
def vQ (F H:Hp):Res->V->Hp->zt
 |.old d,v,H'=>H'=H /\ Den F d v
 |.tup l,v,H'=>(H'=H /\ Den F (.tup l) v) \/ ∃ p vs,v=.ref p /\ H p=ag /\ H'=upd H p (.tup vs) /\ aG F l vs
 |.lst l,v,H'=>∃ p vs,v=.ref p /\ H p=ag /\ H'=upd H p (.lst vs) /\ aG F l vs
 |.aB l,v,H'=>∃ p vs,v=.ref p /\ H p=ag /\ H'=upd H p (.dK vs) /\ aR F l vs
theorem Rel.res (R:Rel T F r σ H env bx):∀ {q:Res},vQ F H q v H'->∃ F',bh F r F' r /\ Rel T F' r σ H' env bx /\ Den F' q.toD v
 | .old d,h=>by
   let#[rfl,h]:=h;show#[F,.refl F r,R,h]
 | .tup l,h=>by
   rcases h with⟨rfl,h⟩|⟨p,vs,rfl,hp,rfl,h⟩
   .show#[F,.refl F r,R,h]
   show#[_,R.uO hp,R.yX hp,p,vs,rfl,fA,aG.mono (R.uO hp).s l h]
 | .lst l,h=>by
   let#[p,vs,rfl,hp,rfl,h]:=h;show#[_,R.uO hp,R.yX hp,p,vs,rfl,fA,aG.mono (R.uO hp).s l h]
 | .aB l,h=>by
   let#[p,vs,rfl,hp,rfl,h]:=h;show#[_,R.uO hp,R.yX hp,p,vs,rfl,fA,aR.mono (R.uO hp).s l h]
theorem Rel.resB (R:Rel T F r σ H env bx) {l:List D}(h:vQ F H (.lst l) v H'):∃ r',bh F r F r' /\ Rel T F r' σ H' env (bx++[.lst l]) /\ bU F r' (.b bx.length) v:=by
 let#[p,vs,rfl,hp,rfl,h]:=h;refine#[r++[p],#[Sub.refl F,wR r [p]],R.Ij hp #[R.qO hp,vs,fA,h],p,rfl,?_];rw[<-R.len,k9<|aE _,sZ];rfl
theorem Rel.ag6 (R:Rel T F r σ H env bx) {l:List (Key×D)}(h:vQ F H (.aB l) v H'):∃ r',bh F r F r' /\ Rel T F r' σ H' env (bx++[.aB l]) /\ bU F r' (.b bx.length) v:=by
 let#[p,vs,rfl,hp,rfl,h]:=h;refine#[r++[p],#[Sub.refl F,wR r [p]],R.Ij hp #[R.qO hp,vs,fA,h],p,rfl,?_];rw[<-R.len,k9<|aE _,sZ];rfl
def cq (b:Bool):Option Res->List Bx->O W
 |none,_=>.bad
 | some q,bx=>match b,q with
   |true,.lst l=>.val (.b bx.length)<|bx++[.lst l]
   |true,.aB l=>.val (.b bx.length)<|bx++[.aB l]
   |_,_=>.val (.d q.toD) bx
theorem iF {Q:VK}{b:Bool}{q:Res}(R:Rel T F r σ H env bx) (h:End T Z bU F r σ env Q<|cq b (ae q) bx) (k:vQ F H q v H'):Q v H':=by
 have one:End T Z bU F r σ env Q (.val (.d q.toD) bx)->Q v H':=λh=>by
  let#[F',g,R',d]:=R.res k;show h F' r v H' g R' d
 cases b with
 |false=>show one h
 |true=>
   cases q with
   |old d=>show one h
   |tup l=>show one h
   |lst l=>
     let#[r',g,R',d]:=R.resB k;show h F r' v H' g R' d
   |aB l=>
     let#[r',g,R',d]:=R.ag6 k;show h F r' v H' g R' d
def cz (q:R2) (g:D->D->Option Res):zt:=∀ (F H:Hp) (x y:D) (v w:V) (Q:VK) (s:Res),Sub F H->nS F H x v->nS F H y w->g x y=ae s->(∀ u H',vQ F H s u H'->Q u H')->q v w H Q
def eX (q:List V->Hp->VK->zt) (g:List D->Option Res):zt:=∀ (F H:Hp) (xs:List D) (vs:List V) (Q:VK) (s:Res),Sub F H->YN F H xs vs->g xs=ae s->(∀ u H',vQ F H s u H'->Q u H')->q vs H Q
def d2 (b:Bool) (g:D->D->Option Res) (ma mb:DE W):DE W:=λenv bx=>fB (ma env bx) λx bx1=>fB (mb env bx1) λy ay=>cq b ((bV ay x).bind λp=>(bV ay y).bind λq=>g p q) ay
theorem Gp {q:R2}{g:D->D->Option Res}{b:Bool}(hg:cz q g) (σ:St) (H:Hp) (Q:VK) (h:tD T Z (d2 b g ma mb) σ H Q):yN q (tD T Z ma) (tD T Z mb) σ H Q:=by
 let#[F,r,env,bx,R,h]:=h;refine#[F,r,env,bx,R,End.bind h λx bx1 F1 r1 v H1 g1 R1 d1 h1=>?_];refine#[F1,r1,env,bx1,R1,End.bind h1 λy ay F2 r2 w H2 g2 R2 YO h2=>?_];cases e1:bV ay x with
 |none=>rw[e1]at h2;show h2.elim
 |some p=>
   cases e2:bV ay y with
   |none=>rw[e1,e2]at h2;show h2.elim
   |some z=>
     cases e3:g p z with
     |none=>rw[e1,e2]at h2;simp[bY,e3]at h2;show h2.elim
     |some s=>
       rw[e1,e2]at h2;simp[bY,e3]at h2;show hg F2 H2 p z v w Q s R2.fh (R2.qP (g2.den d1) e1) (R2.qP YO e2) e3 λu H' k=>iF R2 h2 k
def dN (b:Bool) (g:List D->Option Res) (k:DE<|List W):DE W:=λenv bx=>fB (k env bx) λws bx1=>cq b ((eW bx1 ws).bind g) bx1
theorem L7 {q:List V->Hp->VK->zt}{g:List D->Option Res}{b:Bool}{k:DE (List W)}(hg:eX q g) (σ:St) (H:Hp) (Q:VK) (h:tD T Z (dN b g k) σ H Q):HV q (Ii T Z k) σ H Q:=by
 let#[F,r,env,bx,R,h]:=h;refine#[F,r,env,bx,R,End.bind h λws bx1 F1 r1 vs H1 g1 R1 d1 h1=>?_];cases e1:eW bx1 ws with
 |none=>rw[e1]at h1;show h1.elim
 |some ds=>
   rw[e1]at h1;cases e2:g ds with
   |none=>simp[bY,e2]at h1;show h1.elim
   |some s=>
     simp[bY,e2]at h1;show hg F1 H1 ds vs Q s R1.fh (R1.ac5 d1 e1) e2 λu H' k=>iF R1 h1 k
end L2.DL
variable {g:L2.DL.D -> L2.DL.D -> Option L2.DL.Res}
namespace L2.DL
section
variable {a b c:au} {mc:DE W} {p:aM}
theorem T0 {op:Operator}{q:R2}(bo:Bool) (ho:bc X (binaryOp op) q) (hg:cz q g) (ha:PD X T Z a ma) (hb:PD X T Z b mb):PD X T Z (.BinOp a op b pos) (d2 bo g ma mb):=
 PE.imp (V1 ho ha hb) (Gp hg)
theorem T1 {q:R2}(ho:bc X (compareOp op) q) (hg:cz q g) (ha:PD X T Z a ma) (hb:PD X T Z b mb) (hm:behindInMarks op b=af):PD X T Z (.Compare a [op] [b] pos) (d2 af g ma mb):=
 PE.imp (Oz ho ha hb hm) (Gp hg)
theorem Wa {q:R2}(ho:sk X q) (hg:cz q g) (ha:PD X T Z a ma) (hb:PD X T Z b mb) (hs:HX b):PD X T Z (.Subscript a b pos) (d2 af g ma mb):=
 PE.imp (SH ho ha hb hs) (Gp hg)
def dB (m:DE W):DE Bool:=λenv bx=>fB zz λw bx1=>match w with|.d (.bl k)=>.val k bx1|_=>.bad
theorem L8 {Q:Bool->Hp->zt}(h:sC T Z (dB ma) σ H Q):tB (tD T Z ma) σ H Q:=by
 let#[F,r,env,bx,R,h]:=h;refine#[F,r,env,bx,R,End.bind h λw bx1 F1 r1 v H1 g1 R1 d1 h1=>?_];split at h1
 .ext k;show#[k,d1,h1 F1 r1 k H1 (.refl F1 r1) R1 zc]
 .show h1.elim
theorem OL (h:PD X T Z e ma) (he:∀ whole,isTrue e X.env whole=(do let v <-whole;standAt e.pos;holding [v] (truthy v)):=by intro _;rfl):eC X T Z e (dB ma):=
 PT.imp (Ti h he) λσ H Q h=>L8 h
theorem OM {q:R2}(ho:bc X (compareOp op) q) (hg:cz q g) (ha:PD X T Z a ma) (hb:PD X T Z b mb) (hm:behindInMarks op b=af):eC X T Z (.Compare a [op] [b] pos) (dB<|d2 af g ma mb):=by
 refine PT.imp (OA ho ha hb hm) λσ H Q h=>?_;let#[F,r,env,bx,R,h]:=h;refine Gp hg σ H _ #[F,r,env,bx,R,End.bind h λw bx1 F1 r1 v H1 g1 R1 d1 h1=>?_];split at h1
 .ext k;show#[k,d1,h1 F1 r1 k H1 (.refl F1 r1) R1 zc]
 .show h1.elim
theorem aG.isEmpty {F:Hp}{l:List D}{vs:List V}(h:aG F l vs):l.isEmpty=vs.isEmpty:=by
 have:=h.length;cases l<;>cases vs<;>simp_all
theorem aR.length {F:Hp}:∀ {l:List (Key×D)}{vs:List (Key×V)},aR F l vs->l.length=vs.length
 | [],_,h=>by
   rw[h];rfl
 | (k,d)::l,_,h=>by
   let#[v,r,e,_,h2]:=h;rw[e,bD,bD,h2.length]
def d3 (g g':D->D->Option Res) (ma mb mc:DE W):DE W:=λenv bx=>fB (ma env bx) λx bx1=>fB (mb env bx1) λy ay=>
 fB (cq af ((bV ay x).bind λp=>(bV ay y).bind λq=>g p q) ay) λz bQ=>match z with
  |.d (.bl ah)=>fB (mc env bQ) λw cU=>cq af ((bV cU y).bind λp=>(bV cU w).bind λq=>g' p q) cU
  |.d (.bl af)=>.val (.d<|.bl af) bQ
  |_=>.bad
theorem ac6 {q:R2}(hg:cz q g) {x y:W}{w:V}{Q:VK}(R:Rel T F r σ H env bx) (dx:bU F r x v) (dy:bU F r y w)
 (h:End T Z bU F r σ env Q<|cq af ((bV bx x).bind λp=>(bV bx y).bind λq=>g p q) bx):q v w H Q:=by
 cases e1:bV bx x with
 |none=>rw[e1]at h;show h.elim
 |some p=>
   cases e2:bV bx y with
   |none=>rw[e1,e2]at h;show h.elim
   |some z=>
     cases e3:g p z with
     |none=>rw[e1,e2]at h;simp[bY,e3]at h;show h.elim
     |some s=>
       rw[e1,e2]at h;simp[bY,e3]at h;show hg F H p z v w Q s R.fh (R.qP dx e1) (R.qP dy e2) e3 λu H' k=>iF R h k
theorem Gq {q q':R2}{g':D->D->Option Res}(hg:cz q g) (xF:cz q' g') {Q:VK}(h:tD T Z (d3 g g' ma mb mc) σ H Q):X0 q q' (tD T Z ma) (tD T Z mb) (tD T Z mc) σ H Q:=by
 let#[F,r,env,bx,R,h]:=h;refine#[F,r,env,bx,R,End.bind h λx bx1 F1 r1 v H1 g1 R1 d1 h1=>?_];refine#[F1,r1,env,bx1,R1,End.bind h1 λy ay F2 r2 w H2 g2 R2 d2 h2=>?_];refine ac6 hg R2 (g2.den d1) d2<|End.bind h2 λz bQ F3 r3 u H3 g3 R3 d3 h3=>?_;split at h3
 .refine#[ah,d3,?_];refine#[F3,r3,env,bQ,R3,End.bind h3 λt cU F4 r4 s H4 g4 R4 d4 h4=>?_];show ac6 xF R4 (g4.den<|g3.den d2) d4 h4
 .refine#[af,d3,?_];show h3 F3 r3 _ H3 (.refl F3 r3) R3 zc
 .show h3.elim
theorem L9 {cS:CmpOp}{q q':R2}{g':D->D->Option Res}(ho:bc X (compareOp op) q) (nj:bc X (compareOp cS) q') (hg:cz q g) (xF:cz q' g') (ha:PD X T Z a ma) (hb:PD X T Z b mb) (hc:PD X T Z c mc)
 (hm:lastMarks [op,cS] [b,c]=af:=by with_unfolding_all rfl):PD X T Z (.Compare a [op,cS] [b,c] pos) (d3 g g' ma mb mc):=
 PE.imp (LO ho nj ha hb hc hm) λσ H Q h=>Gq hg xF h
theorem JC {cS:CmpOp}{q q':R2}{g':D->D->Option Res}(ho:bc X (compareOp op) q) (nj:bc X (compareOp cS) q') (hg:cz q g) (xF:cz q' g') (ha:PD X T Z a ma) (hb:PD X T Z b mb) (hc:PD X T Z c mc)
 (hm:lastMarks [op,cS] [b,c]=af:=by with_unfolding_all rfl):eC X T Z (.Compare a [op,cS] [b,c] pos) (dB<|d3 g g' ma mb mc):=by
 refine PT.imp (LP ho nj ha hb hc hm) λσ H Q h=>?_;let#[F,r,env,bx,R,h]:=h;refine Gq hg xF #[F,r,env,bx,R,End.bind h λw bx1 F1 r1 v H1 g1 R1 d1 h1=>?_];split at h1
 .ext k;show#[k,d1,h1 F1 r1 k H1 (.refl F1 r1) R1 zc]
 .show h1.elim
def nv (m k:DE Bool):DE Bool:=λenv bx=>fB zz λb bx1=>match b with|true=>k env bx1|false=>.val af bx1
def kU (m k:DE Bool):DE Bool:=λenv bx=>fB zz λb bx1=>match b with|true=>.val ah bx1|false=>k env bx1
def eJ (m:DE Bool):DE Bool:=λenv bx=>fB zz λb bx1=>.val (!b) bx1
def sD (X:Cx) (T:Fr) (Z:Xs) (e:au) (m:DE Bool):zt:=PW X e<|sC T Z m
variable {ta tb:DE Bool} {rest:List au}
theorem Ma (h:eC X T Z a ta):sD X T Z (.BoolOp .And [a] pos) ta:=Os h
theorem ON (h:eC X T Z a ta):sD X T Z (.BoolOp .Or [a] pos) ta:=Tj h
theorem OP (ha:eC X T Z a ta) (hb:sD X T Z (.BoolOp .And (b::rest) pos) tb):sD X T Z (.BoolOp .And (a::b::rest) pos) (nv ta tb):=by
 refine PW.imp (Tk ha hb) λσ H Q=>x4 λF r env bx R h=>?_;refine#[F,r,env,bx,R,End.bind h λk bx1 F1 r1 v H1 g1 R1 d1 h1=>?_];subst d1;cases k with
 |true=>show#[F1,r1,env,bx1,R1,h1]
 |false=>show h1 F1 r1 _ H1 (.refl F1 r1) R1 zc
theorem T3 (ha:eC X T Z a ta) (hb:sD X T Z (.BoolOp .Or (b::rest) pos) tb):sD X T Z (.BoolOp .Or (a::b::rest) pos) (kU ta tb):=by
 refine PW.imp (VY ha hb) λσ H Q=>x4 λF r env bx R h=>?_;refine#[F,r,env,bx,R,End.bind h λk bx1 F1 r1 v H1 g1 R1 d1 h1=>?_];subst d1;cases k with
 |false=>show#[F1,r1,env,bx1,R1,h1]
 |true=>show h1 F1 r1 _ H1 (.refl F1 r1) R1 zc
theorem SI (h:sD X T Z e ta):eC X T Z e ta:=h.pt
theorem OQ (h:eC X T Z a ta):eC X T Z (.UnaryOp .Not a pos) (eJ ta):=by
 refine PT.imp (Tl h) λσ H Q=>x4 λF r env bx R h=>?_;refine#[F,r,env,bx,R,End.bind h λk bx1 F1 r1 v H1 g1 R1 d1 h1=>?_];subst d1;show h1 F1 r1 _ H1 (.refl F1 r1) R1 zc
def gz (m k:DE W):DE W:=λenv bx=>fB zz λw bx1=>match w with|.d (.bl ah)=>k env bx1|.d (.bl af)=>.val (.d<|.bl af) bx1|_=>.bad
def vR (m k:DE W):DE W:=λenv bx=>fB zz λw bx1=>match w with|.d (.bl ah)=>.val (.d<|.bl ah) bx1|.d (.bl af)=>k env bx1|_=>.bad
def Ik (m:DE W):DE W:=λenv bx=>fB zz λw bx1=>match w with|.d (.bl k)=>.val (.d<|.bl<|!k) bx1|_=>.bad
theorem Mb {op}(h:PD X T Z a ma):PD X T Z (.BoolOp op [a] pos) ma:=Tn h
theorem T4 (ha:PD X T Z a ma) (hb:PD X T Z (.BoolOp .And (b::rest) pos) mb):PD X T Z (.BoolOp .And (a::b::rest) pos) (gz ma mb):=by
 refine PE.imp (To ha hb) λσ H Q=>x4 λF r env bx R h=>?_;refine#[F,r,env,bx,R,End.bind h λw bx1 F1 r1 v H1 g1 R1 d1 h1=>?_];split at h1
 .refine#[ah,d1,?_];show#[F1,r1,env,bx1,R1,h1]
 .refine#[af,d1,?_];show h1 F1 r1 _ H1 (.refl F1 r1) R1 zc
 .show h1.elim
theorem Wb (ha:PD X T Z a ma) (hb:PD X T Z (.BoolOp .Or (b::rest) pos) mb):PD X T Z (.BoolOp .Or (a::b::rest) pos) (vR ma mb):=by
 refine PE.imp (VZ ha hb) λσ H Q=>x4 λF r env bx R h=>?_;refine#[F,r,env,bx,R,End.bind h λw bx1 F1 r1 v H1 g1 R1 d1 h1=>?_];split at h1
 .refine#[ah,d1,?_];show h1 F1 r1 _ H1 (.refl F1 r1) R1 zc
 .refine#[af,d1,?_];show#[F1,r1,env,bx1,R1,h1]
 .show h1.elim
theorem T5 (ha:PD X T Z a ma):PD X T Z (.UnaryOp .Not a pos) (Ik ma):=by
 refine PE.imp (Tp ha) λσ H Q=>x4 λF r env bx R h=>?_;refine#[F,r,env,bx,R,End.bind h λw bx1 F1 r1 v H1 g1 R1 d1 h1=>?_];split at h1
 .ext k;show#[k,d1,h1 F1 r1 _ H1 (.refl F1 r1) R1 zc]
 .show h1.elim
def nT (t:DE Bool) (m k:DE W):DE W:=λenv bx=>fB (t env bx) λb bx1=>match b with|true=>m env bx1|false=>k env bx1
theorem T6 (hc:eC X T Z c ta) (ha:PD X T Z a ma) (hb:PD X T Z b mb):PD X T Z (.IfExp c a b pos) (nT ta ma mb):=by
 refine PE.imp (LF hc ha hb) λσ H Q=>x4 λF r env bx R h=>?_;refine#[F,r,env,bx,R,End.bind h λk bx1 F1 r1 v H1 g1 R1 d1 h1=>?_];subst d1;cases k with
 |_=>show#[F1,r1,env,bx1,R1,h1]
noncomputable def nU:List W->Option (List D)
 |[]=>ae []
 |.d x::l=>(nU l).map λt=>x::t
 |_=>ag
theorem kE.ds {F:Hp}{r:List ak}:∀ {ws:List W}{vs:List V}{ds:List D},kE F r ws vs->nU ws=ae ds->aG F ds vs
 |[],_,_,h,e=>by cases e;show h
 | .d x::l,_,ds,h,e=>by
   let#[v,t,q,h1,h2]:=h;unfold nU at e;cases e2:nU l with
   |none=>rw[e2]at e;cases e
   |some t'=>
     rw[e2]at e;cases e;show#[v,t,q,h1,h2.ds e2]
 |.b _::l,_,ds,h,e=>by cases e
 |.s _::l,_,ds,h,e=>by cases e
 |.x _::l,_,ds,h,e=>by cases e
 |.t _::l,_,ds,h,e=>by cases e
 |.m _::l,_,ds,h,e=>by cases e
def fQ (k:DE<|List W):DE W:=λenv bx=>fB (k env bx) λws bx1=>cq af ((nU ws).bind λl=>if l.length<=sizeLine then ae (.tup l) else ag) bx1
def gx (bo:Bool) (k:DE<|List W):DE W:=λenv bx=>fB (k env bx) λws bx1=>cq bo ((nU ws).bind λl=>if l.length<=sizeLine then ae (.lst l) else ag) bx1
theorem T7 {x1}{k:DE (List W)}(h:dF X T Z es k):PD X T Z (.Tuple es x1 pos) (fQ k):=by
 refine PE.imp (LQ h) λσ H Q=>x4 λF r env bx R h=>?_;refine#[F,r,env,bx,R,End.bind h λws bx1 F1 r1 vs H1 g1 R1 d1 h1=>?_];cases e:nU ws with
 |none=>rw[e]at h1;show h1.elim
 |some l=>
   rw[e]at h1;simp[bY]at h1;split at h1
   .have dl:=d1.ds e;refine#[by rw[<-dl.length];assumption,λp hp=>iF R1 h1<|.inr #[p,vs,rfl,hp,rfl,dl]]
   .show h1.elim
theorem T8 {k:DE (List W)}(bo:Bool) (h:dF X T Z es k):PD X T Z (.List es pos) (gx bo k):=by
 refine PE.imp (LR h) λσ H Q=>x4 λF r env bx R h=>?_;refine#[F,r,env,bx,R,End.bind h λws bx1 F1 r1 vs H1 g1 R1 d1 h1=>?_];cases e:nU ws with
 |none=>rw[e]at h1;show h1.elim
 |some l=>
   rw[e]at h1;simp[bY]at h1;split at h1
   .have dl:=d1.ds e;refine#[by rw[<-dl.length];assumption,λp hp=>iF R1 h1 #[p,vs,rfl,hp,rfl,dl]]
   .show h1.elim
theorem Mc {id:String}{q:List V->Hp->VK->zt}{g:List D->Option Res}{k:DE (List W)}(bo:Bool) (hc:dQ X (.builtin id) q) (hk:eX q g) (hg:Gl X x) (hm:X.mg x=ag) (hv:bootBuiltins x=ae (.builtin id)) (ha:dF X T Z (e::es) k)
 (hn:x ≠ "__name__":=by decide) (dE:(x==("__debug__":Str))=af:=by decide)
 (he:starEach (e::es) X.env=(af,eval e X.env)::starEach es X.env:=by rfl) (kT:(backTo pos<|starEach es X.env).any (·.1)=af:=by rfl):PD X T Z (.Call (.Name x p) (e::es) [] pos) (dN bo g k):=
 PE.imp (mN hc hg hm hv ha hn dE he kT) (L7 hk)
theorem JD {id:String}{q:List V->Hp->VK->zt}{g:List D->Option Res}{k:DE (List W)}(bo:Bool) (hc:dQ X (.type id) q) (hk:eX q g) (hg:Gl X x) (hm:X.mg x=ag) (hv:bootBuiltins x=ae (.type id)) (ha:dF X T Z (e::es) k)
 (hn:x ≠ "__name__":=by decide) (dE:(x==("__debug__":Str))=af:=by decide)
 (he:starEach (e::es) X.env=(af,eval e X.env)::starEach es X.env:=by rfl) (kT:(backTo pos<|starEach es X.env).any (·.1)=af:=by rfl):PD X T Z (.Call (.Name x p) (e::es) [] pos) (dN bo g k):=
 PE.imp (Jw hc hg hm hv ha hn dE he kT) (L7 hk)
def tV (cl:Nat->ak) (n:Nat) (fn:List W->List Bx->O W):Sp:=λvs H Q E=>∃ F r ws bx,Rel #[H,r.length,F] F r [] H [] bx /\ kE F r ws vs /\ ws.length=n /\ End #[H,r.length,F] #[E,cl] bU F r [] [] Q (fn ws bx)
theorem kE.length {F:Hp}{r:List ak}:∀ {ws:List W}{vs:List V},kE F r ws vs->ws.length=vs.length
 | [],_,h=>by
   rw[h];rfl
 | d::l,_,h=>by
   let#[v,t,e,_,h2]:=h;rw[e,bD,bD,h2.length]
theorem Rel.enter (R:Rel T F r σ H env bx):Rel #[H,r.length,F] F r [] H [] bx:=
 #[R.fh,λi w e=>by simp at e,R.len,R.nd,R.box,λa u e _=>e,λn a hn e=>(by rw[rO hn]at e;cases e),aE _,aE _,λa u e=>.inr<|.inl e]
theorem Rel.after {r':List ak}{bx':List Bx}(R:Rel T F r σ H env bx) (g:bh F r F' r') (R':Rel #[H,r.length,F] F' r' [] H' [] bx'):Rel T F' r' σ H' env bx':=by
 have pre:∀ (n) (a),r[n]?=ae a->r'[n]?=ae a:=λn a e=>by
  let#[t,rfl]:=g.p;rw[dZ (List.getElem?_eq_some_iff.mp e).1];show e
 have sub:∀ a,a∈r->a∈r':=λa h=>g.p.subset h;refine#[R'.fh,λi w e=>?_,R'.len,R'.nd,R'.box,λa u e hn=>?_,λn a hn e=>?_,cx R.n0 g.p.length_le,R.sl,λa u e=>?_]
 .let#[v,e1,e2]:=R.slot i w e;show#[v,e1,g.den e2]
 .show R'.keep a u (R.keep a u e λz=>hn<|sub a z) hn
 .by_cases hl:n<r.length
  .have q:=pre n _<|cY hl;rw[e]at q;cases q;show R.new n _ hn<|cY hl
  .have q:H a=ag:=R'.new n a (vi hl) e;cases z:T.H₀ a with
   |none=>rfl
   |some u=>
     have hr:a∉r:=λha=>by
      let#[m,em]:=List.mem_iff_getElem?.mp ha;have:=lw R'.nd (pre m a em) e;show hl (by rw[<-this];show(List.getElem?_eq_some_iff.mp em).1)
     rw[R.keep a u z hr]at q;cases q
 .rcases R'.fs a u e with z|z|z|z
  .show .inl z
  .show(R.fs a u z).imp id (Or.imp id<|Or.imp id<|sub a)
  .by_cases ha:a∈r
   .show .inr<|.inr<|.inr<|sub a ha
   .refine .inr<|.inr<|.inl ?_;cases y:T.H₀ a with
    |none=>rfl
    |some u=>
      have z':H a=ag:=z;rw[R.keep a u y ha]at z';cases z'
  .show .inr<|.inr<|.inr z
def fm (fn:List W->List Bx->O W) (n:Nat) (k:DE<|List W):DE W:=λenv bx=>fB (k env bx) λws bx1=>if ws.length=n then fn ws bx1 else .bad
theorem T9 {k:DE (List W)}{Q:VK}(h:tD T Z (fm fn n k) σ H Q):acD (tV Z.cl n fn) [] Z.E (Ii T Z k) σ H Q:=by
 let#[F,r,env,bx,R,h]:=h;refine#[F,r,env,bx,R,End.bind h λws bx1 F1 r1 vs H1 g1 R1 d1 h1=>?_];split at h1
 .ext hl;refine#[F1,r1,ws,bx1,R1.enter,by rw[uC];show d1,hl,?_];cases e:fn ws bx1 with
  |val w bx'=>rw[e]at h1;show λF' r' v H' g R' d=>h1 F' r' v H' g (R1.after g R') d
  |exc c bx'=>rw[e]at h1;show λF' r' H' g R'=>h1 F' r' H' g (R1.after g R').drop
  |bad=>rw[e]at h1;show h1
 .show h1.elim
theorem OR {f:ak}{ps:List Str}{k:Nat}{m:DE (List W)}(G:kC X.prog X.w X.K X.mg X.base (qk X.prog X.w) k f fd ps<|tV Z.cl ps.length fn) (hr:c8 k X.A) (hg:Gl X x) (hm:X.mg x=ae (.ref f))
 (hk:PySem.W.keepIn X.K (.ref f)=ah) (hb:Binds X.K fd ps []) (hx:Passes (qk X.prog X.w) X Z.E) (ha:dF X T Z (e::es) m) (dE:(x==("__debug__":Str))=af:=by decide)
 (he:starEach (e::es) X.env=(af,eval e X.env)::starEach es X.env:=by rfl) (kT:(backTo pos<|starEach es X.env).any (·.1)=af:=by rfl):PD X T Z (.Call (.Name x p) (e::es) [] pos) (fm fn ps.length m):=
 PE.imp (OC G hr hg hm hk hb .nil hx ha dE he kT) λσ H Q h=>T9 h
end
inductive OS where
 |nx (env:aQ) (bx:List Bx)|rt (w:W) (bx:List Bx)|bk (env:aQ) (bx:List Bx)|ct (env:aQ) (bx:List Bx)|exc (c:Nat) (bx:List Bx)|bad
abbrev aC:=aQ->List Bx->OS
def cQ (T:Fr) (Z:Xs) (F:Hp) (r:List ak) (D:Ends):OS->zt
 |.nx aO bx'=>∀ F' r' σ' H',bh F r F' r'->Rel T F' r' σ' H' aO bx'->D.nx σ' H'
 |.rt w bx'=>∀ F' r' v H',bh F r F' r'->Rel T F' r' [] H' [] bx'->bU F' r' w v->D.rt v H'
 |.bk aO bx'=>∀ F' r' σ' H',bh F r F' r'->Rel T F' r' σ' H' aO bx'->D.bk σ' H'
 |.ct aO bx'=>∀ F' r' σ' H',bh F r F' r'->Rel T F' r' σ' H' aO bx'->D.ct σ' H'
 |.exc c bx'=>∀ F' r' H',bh F r F' r'->Rel T F' r' [] H' [] bx'->Z.E (.ref<|Z.cl c) ag H'
 |.bad=>False
theorem cQ.weak {r':List ak}{D:Ends}(g:bh F r F' r'):∀ {o:OS},cQ T Z F r D o->cQ T Z F' r' D o
 |.nx _ _,h=>λF2 r2 s2 H2 g2=>h F2 r2 s2 H2<|g.trans g2
 |.rt _ _,h=>λF2 r2 s2 H2 g2=>h F2 r2 s2 H2<|g.trans g2
 |.bk _ _,h=>λF2 r2 s2 H2 g2=>h F2 r2 s2 H2<|g.trans g2
 |.ct _ _,h=>λF2 r2 s2 H2 g2=>h F2 r2 s2 H2<|g.trans g2
 |.exc _ _,h=>λF2 r2 H2 g2=>h F2 r2 H2<|g.trans g2
 |.bad,h=>h
noncomputable def bB (m:O α) (k:α->List Bx->OS):OS:=
 match m with
 |.val a bx=>k a bx
 |.exc c bx=>.exc c bx
 |.bad=>.bad
theorem End.bB {β:Type}{R1:Hp->List ak->α->β->zt}{D:Ends}{Q1:β->Hp->zt}
 {m:O α}{k:α->List Bx->OS}(h:cQ T Z F r D<|DL.bB m k)
 (c:∀ d bx1 F1 r1 v H1,bh F r F1 r1->Rel T F1 r1 σ H1 env bx1->R1 F1 r1 d v->cQ T Z F1 r1 D (k d bx1)->Q1 v H1):End T Z R1 F r σ env Q1 m:=by
 cases m with
 |val d bx=>show λF' r' v H' g R q=>c d bx F' r' v H' g R q<|cQ.weak g h
 |exc n bx=>show h
 |bad=>show h
def tS (T:Fr) (Z:Xs) (m:aC):TS:=λD σ H=>∃ F r env bx,Rel T F r σ H env bx /\ cQ T Z F r D zz
def cL (X:Cx) (T:Fr) (Z:Xs) (s:b9) (m:aC):zt:=PS X s<|tS T Z m
def qm (X:Cx) (T:Fr) (Z:Xs) (s:List b9) (m:aC):zt:=kg X s<|tS T Z m
section
variable {a b c:au} {mc:DE W} {p:aM} {rest:List b9} {m k:aC} {tc:DE Bool}
noncomputable def aL:aC:=λenv bx=>.nx env bx
noncomputable def fu (m k:aC):aC:=λenv bx=>match m env bx with|.nx env1 bx1=>k env1 bx1|o=>o
theorem OT:qm X T Z [] aL:=kg.imp Ou λD σ H=>x4 λF r env bx R h=>h F r σ H (.refl F r) R
theorem Md (h1:cL X T Z st m) (h2:qm X T Z rest k):qm X T Z (st::rest) (fu m k):=by
 refine kg.imp (LG h1 h2) λD σ H=>x4 λF r env bx R h=>#[F,r,env,bx,R,?_];unfold fu at h;cases e:m env bx with
 |nx env1 bx1=>rw[e]at h;show λF1 r1 σ1 H1 g R1=>#[F1,r1,env1,bx1,R1,cQ.weak g h]
 |rt w bx1=>rw[e]at h;show h
 |bk env1 bx1=>rw[e]at h;show h
 |ct env1 bx1=>rw[e]at h;show h
 |exc c bx1=>rw[e]at h;show h
 |bad=>rw[e]at h;show h
theorem OU (h1:cL X T Z st m):qm X T Z [st] m:=Ov h1
noncomputable def Il:aC:=λenv bx=>.bk env bx
noncomputable def Im:aC:=λenv bx=>.ct env bx
theorem JE:cL X T Z (.Break pos) Il:=PS.imp LH λD σ H=>x4 λF r env bx R h=>h F r σ H (.refl F r) R
theorem Me:cL X T Z (.Continue pos) Im:=PS.imp C4 λD σ H=>x4 λF r env bx R h=>h F r σ H (.refl F r) R
def gh (m:DE W):aC:=λenv bx=>bB zz λ_ bx1=>.nx env bx1
theorem Mf (h:PD X T Z e ma) (hs:swapsWith e ag pos.line X.env=pure af:=by rfl):cL X T Z (.Expr e pos) (gh ma):=by
 refine PS.imp (Ow h hs) λD σ H=>x4 λF r env bx R h=>?_;show#[F,r,env,bx,R,End.bB h λw bx1 F1 r1 v H1 g1 R1 d1 h1=>h1 F1 r1 σ H1 (.refl F1 r1) R1]
def fF (m:DE W):aC:=λenv bx=>bB zz λw bx1=>.rt w bx1
theorem OV (h:PD X T Z e ma):cL X T Z (.Return (ae e) pos) (fF ma):=by
 refine PS.imp (Tq h) λD σ H=>x4 λF r env bx R h=>?_;show#[F,r,env,bx,R,End.bB h λw bx1 F1 r1 v H1 g1 R1 d1 h1=>h1 F1 r1 v H1 (.refl F1 r1) R1.drop d1]
def aH (t:DE Bool) (m k:aC):aC:=λenv bx=>bB (t env bx) λb bx1=>match b with|true=>m env bx1|false=>k env bx1
theorem Ua {sa sb:List b9}(hc:eC X T Z c tc) (ha:qm X T Z sa m) (hb:qm X T Z sb k):cL X T Z (.If c sa sb pos) (aH tc m k):=by
 refine PS.imp (V0 hc ha hb) λD σ H=>x4 λF r env bx R h=>?_;refine#[F,r,env,bx,R,End.bB h λw bx1 F1 r1 v H1 g1 R1 d1 h1=>?_];subst d1;cases w with
 |_=>show#[F1,r1,env,bx1,R1,h1]
abbrev DG:=W->aQ->List Bx->Option (aQ×List Bx)
abbrev nV:=List W->aQ->List Bx->Option (aQ×List Bx)
noncomputable def ac7 (T:Fr) (F:Hp) (r:List ak) (Q:St->Hp->zt):Option (aQ×List Bx)->zt
 |none=>False
 |some (aO,bx')=>∀ F' r' σ' H',bh F r F' r'->Rel T F' r' σ' H' aO bx'->Q σ' H'
def tG (T:Fr) (g:DG):TG:=λv σ H Q=>∃ F r env bx w,Rel T F r σ H env bx /\ bU F r w v /\ ac7 T F r Q (g w env bx)
def ag7 (T:Fr) (g:nV):tM:=λvs σ H Q=>∃ F r env bx ws,Rel T F r σ H env bx /\ kE F r ws vs /\ ac7 T F r Q (g ws env bx)
def kF (X:Cx) (T:Fr) (tg:au) (g:DG):zt:=PG X tg<|tG T g
def tW (X:Cx) (T:Fr) (tg:List au) (g:nV):zt:=rZ X tg<|ag7 T g
theorem PG.imp {t t':TG}(h:PG X tg t) (f:∀ v σ H Q,t' v σ H Q->t v σ H Q):PG X tg t':=λpins s σ H v u Q I r q=>h pins s σ H v u Q I r<|f v σ H Q q
theorem rZ.imp {tg:List au}{t t':tM}(h:rZ X tg t) (f:∀ v σ H Q,t' v σ H Q->t v σ H Q):rZ X tg t':=λpins s σ H v u Q I r q=>h pins s σ H v u Q I r<|f v σ H Q q
noncomputable def fe (i:Nat):DG:=λw env bx=>ae (env.set i<|ae w,bx)
theorem Rel.set {F H:Hp}{r:List ak}{σ:St}{env:aQ}{bx:List Bx}(R:Rel T F r σ H env bx) {w:W}{v:V}(d:bU F r w v) (i:Nat):Rel T F r (σ.set i<|ae v) H (env.set i<|ae w) bx:=by
 refine#[R.fh,λj w' e=>?_,R.len,R.nd,R.box,R.keep,R.new,R.n0,by rw[p5,p5];show R.sl,R.fs];by_cases hj:j=i
 .subst hj;have hl:j<env.length:=by
   have:=(List.getElem?_eq_some_iff.mp e).1;rw[p5]at this;show this
  rw[pZ hl]at e;cases e;show#[v,pZ<|eT hl R.sl,d]
 .rw[tm<|Ne.symm hj]at e;let#[u,e1,e2]:=R.slot j w' e;show#[u,by rw[tm<|Ne.symm hj];show e1,e2]
theorem Mg (i:Nat) (hN:X.N.Nodup) (hi:X.N[i]?=ae x:=by rfl) (hx:Loc X.env.scope x:=by first|show Or.inl zc|show Or.inr zc) (hf:X.fn x=ah \/ X.env.scope.names.lookup x=ae .local:=by first|show .inl zc|show .inr zc|assumption):kF X T (.Name x pos) (fe i):=
 PG.imp (Ch hN hi hx hf) λv σ H Q=>x5 λF r env bx w R d h=>h F r _ H (.refl F r)<|R.set d i
noncomputable def fO:nV:=λws env bx=>match ws with|[]=>ae (env,bx)|_=>ag
noncomputable def fq (g:DG) (k:nV):nV:=λws env bx=>match ws with|w::l=>(g w env bx).bind λ(env1,bx1)=>k l env1 bx1|_=>ag
theorem Mh:tW X T [] fO:=rZ.imp Gi λv σ H Q=>x5 λF r env bx w R d h=>by
 cases w with
 |nil=>show#[d,h F r σ H (.refl F r) R]
 |cons _ _=>show h.elim
theorem JF {g:DG}{k:nV}(h1:kF X T e g) (h2:tW X T es k) (hs:(assignEach (e::es) X.env).map (·.2)=assign e X.env::(assignEach es X.env).map (·.2):=by rfl):tW X T (e::es) (fq g k):=by
 refine rZ.imp (Az h1 h2 hs) λv σ H Q=>x5 λF r env bx ws R d h=>?_;cases ws with
 |nil=>show h.elim
 |cons w l=>
   let#[u,t,rfl,d1,d2]:=d;refine#[u,t,rfl,F,r,env,bx,w,R,d1,?_];unfold fq at h;cases eg:g w env bx with
   |none=>simp[eg]at h;show h.elim
   |some o=>
     let#[env1,bx1]:=o;simp[eg,bY]at h;intro F1 r1 σ1 H1 g1 R1;refine#[F1,r1,env1,bx1,l,R1,d2.mono g1,?_];cases ek:k l env1 bx1 with
     |none=>simp[ek]at h;show h.elim
     |some o2=>
       simp[ek]at h;show λF2 r2 σ2 H2 g2 R2=>h F2 r2 σ2 H2 (g1.trans g2) R2
theorem aG.ws {F:Hp}{r:List ak}:∀ {l:List D}{vs:List V},aG F l vs->kE F r (l.map W.d) vs
 |[],_,h=>h
 | d::l,_,h=>by
   let#[v,t,e,h1,h2]:=h;show#[v,t,e,h1,h2.ws]
noncomputable def fL (n:Nat) (k:nV):DG:=λw env bx=>match w with|.d (.tup l)=>if l.length=n then k (l.map W.d) env bx else ag|_=>ag
theorem OW {k:nV}{i:Nat}(hc:X.calm=ah) (h:tW X T es k) (hn:(assignEach es X.env).length=n:=by rfl) (yI:(assignEach es X.env).findIdx? (·.1)=ag:=by rfl):kF X T (.Tuple es i pos) (fL n k):=by
 refine PG.imp (LI hc h hn yI) λv σ H Q=>x5 λF r env bx w R d h=>?_;unfold fL at h;split at h
 .split at h
  .ext hl;let#[p,vs,rfl,h1,h2]:=d;show#[p,vs,rfl,.of<|R.fh _ _ h1,by rw[<-h2.length];show hl,F,r,env,bx,_,R,h2.ws,h]
  .show h.elim
 .show h.elim
def fE (m:DE W) (g:DG):aC:=λenv bx=>bB zz λw bx1=>match g w env bx1 with|some (env1,ay)=>.nx env1 ay|none=>.bad
theorem Wc {g:DG}{D:Ends}(h:tS T Z (fE ma g) D σ H):HI (tD T Z ma) (tG T g) D σ H:=by
 let#[F,r,env,bx,R,h]:=h;refine#[F,r,env,bx,R,End.bB h λw bx1 F1 r1 v H1 g1 R1 d1 h1=>#[F1,r1,env,bx1,w,R1,d1,?_]];cases eg:g w env bx1 with
 |none=>simp[eg]at h1;show h1.elim
 |some o=>simp[eg]at h1;show h1
theorem Gr {g:DG}(he:PD X T Z e ma) (hg:kF X T tg g) (hs:swapsWithSole [tg] e pos.line X.env=pure af:=by rfl) (hw:swappedStores [tg] e X.env=pure ag:=by rfl)
 (h1:(assignEach [tg] X.env).map (·.2)=[assign tg X.env]:=by rfl):cL X T Z (.Assign [tg] e pos) (fE ma g):=
 PS.imp (LJ he hg hs hw h1) λD σ H h=>Wc h
theorem OX (i:Nat) (he:PD X T Z e ma) (hN:X.N.Nodup) (hi:X.N[i]?=ae x:=by rfl) (hx:Loc X.env.scope x:=by first|show Or.inl zc|show Or.inr zc) (hs:swapsWith e (ae<|.Name x pos') pos.line X.env=pure af:=by rfl) (hf:X.fn x=ah \/ X.env.scope.names.lookup x=ae .local:=by first|show .inl zc|show .inr zc|assumption) :
 cL X T Z (.Assign [.Name x pos'] e pos) (fE ma<|fe i):=by
 refine PS.imp (Ts hN hi hx he hs hf) λD σ H=>x4 λF r env bx R h=>?_;show#[F,r,env,bx,R,End.bB h λw bx1 F1 r1 v H1 g1 R1 d1 h1=>h1 F1 r1 _ H1 (.refl F1 r1)<|R1.set d1 i]
def eY (i j:Nat) (m:DE<|List W):aC:=λenv bx=>bB zz λws bx1=>match ws with|[x,y]=>.nx ((env.set i<|ae x).set j<|ae y) bx1|_=>.bad
theorem Wd {i:Nat}{m:DE (List W)}{D:Ends}(h:tS T Z (eY i j m) D σ H):acu i j (Ii T Z m) D σ H:=by
 let#[F,r,env,bx,R,h]:=h;refine#[F,r,env,bx,R,End.bB h λws bx1 F1 r1 vs H1 g1 R1 d1 h1=>?_];split at h1
 .let#[v,t,rfl,q1,u,t2,rfl,q2,q3]:=d1;cases (q3);show#[v,u,rfl,h1 F1 r1 _ H1 (.refl F1 r1)<|(R1.set q1 i).set q2 j]
 .show h1.elim
def uP (F:Hp) (r:List ak) (ds:List W) (J:It):zt:=
 ∀ (T:Fr) (i:Nat) (F1:Hp) (r1:List ak) (σ1:St) (H1:Hp) (env1:aQ) (bx1:List Bx),bh F r F1 r1->Rel T F1 r1 σ1 H1 env1 bx1 ->
  (ds.length=i->J.stop i H1) /\ ∀ w,ds[i]?=ae w->J.go i H1 /\ ∀ x H2,J.yK i H1 x H2->∃ F2,bh F1 r1 F2 r1 /\ Rel T F2 r1 σ1 H2 env1 bx1 /\ bU F2 r1 w x
def tI (T:Fr) (Z:Xs) (m:DE<|List W):TI:=λσ H R=>∃ F r env bx,Rel T F r σ H env bx /\ End T Z uP F r σ env R zz
def tX (X:Cx) (T:Fr) (Z:Xs) (tg iter:au) (m:DE<|List W):zt:=PI X tg iter<|tI T Z m
theorem PI.imp {t t':TI}(h:PI X tg iter t) (f:∀ σ H Q,t' σ H Q->t σ H Q):PI X tg iter t':=λpins s σ H R I q=>h pins s σ H R I<|f σ H R q
noncomputable def bL (g:DG) (body:aC):List W->aC
 |[],env,bx=>.nx env bx
 | w::l,env,bx=>match g w env bx with
   |none=>.bad
   | some (env1,bx1)=>match body env1 bx1 with
     |.nx bw ay=>bL g body l bw ay
     |.ct bw ay=>bL g body l bw ay
     |.bk bw ay=>.nx bw ay
     |o=>o
def iN (m:DE<|List W) (g:DG) (body:aC):aC:=λenv bx=>bB zz λds bx1=>bL g body ds env bx1
theorem Mi {g:DG}{D:Ends}{H1 F1:Hp}{r1:List ak}{ds:List W}{J:It}(R1:Rel T F1 r1 σ H1 env bx1) (y1:uP F1 r1 ds J) (h1:cQ T Z F1 r1 D<|bL g m ds env bx1) :
 ∃ W:Nat->Nat->St->Hp->zt,(∃ m,W 0 m σ H1) /\ ∀ i n σ H,W i n σ H->(J.stop i H /\ D.nx σ H) \/ (J.go i H /\ ∃ N:St->Hp->zt,(∀ σ' H',N σ' H'->∃ n',n'<n /\ W (i+1) n' σ' H') /\ ∀ x H',J.yK i H x H'->tG T g x σ H' λσ2 H2=>tS T Z m { D with nx:=N,ct:=N,bk:=D.nx } σ2 H2):=by
 refine#[λi n σ' H'=>∃ pre l F' r' aO bx',ds=pre++l /\ pre.length=i /\ n=l.length /\ bh F1 r1 F' r' /\ Rel T F' r' σ' H' aO bx' /\ cQ T Z F' r' D (bL g m l aO bx'),#[ds.length,[],ds,F1,r1,env,bx1,rfl,rfl,rfl,.refl F1 r1,R1,h1],?_];rintro i n σ' H' ⟨pre,l,F',r',aO,bx',pL,hi,hn,g',R',h'⟩;let#[ys,yg]:=y1 T i F' r' σ' H' aO bx' g' R';cases l with
 |nil=>show .inl #[ys (by rw[pL,uC];lia),h' F' r' σ' H' (.refl F' r') R']
 |cons w l=>
   let#[go,yl]:=yg w (by rw[pL,k9 za,hi,sZ];rfl);refine .inr #[go,λσ2 H2=>∃ F2 r2 bw ay,bh F1 r1 F2 r2 /\ Rel T F2 r2 σ2 H2 bw ay /\ cQ T Z F2 r2 D _,λσ2 H2 ⟨F2,r2,bw,ay,g2,R2,h2⟩=>#[l.length,by rw[hn];show k8 _,pre++[w],l,F2,r2,bw,ay,by rw[pL,qC];rfl,by rw[cX,hi];rfl,rfl,g2,R2,h2],λx H2 hy=>?_];let#[F2,g2,R2,d2]:=yl x H2 hy;refine#[F2,r',aO,bx',w,R2,d2,?_];simp[bL]at h';cases eg:g w aO bx' with
   |none=>simp[eg]at h';show h'.elim
   |some o=>
     let#[qo,bQ]:=o;simp[eg]at h';intro F3 r3 σ3 H3 g3 R3;refine#[F3,r3,qo,bQ,R3,?_];have gg:=(g'.trans g2).trans g3;cases em:m qo bQ with
     |nx tY cU=>simp[em]at h';show λF4 r4 σ4 H4 g4 R4=>#[F4,r4,tY,cU,gg.trans g4,R4,cQ.weak ((g2.trans g3).trans g4) h']
     |ct tY cU=>simp[em]at h';show λF4 r4 σ4 H4 g4 R4=>#[F4,r4,tY,cU,gg.trans g4,R4,cQ.weak ((g2.trans g3).trans g4) h']
     |bk tY cU=>simp[em]at h';show λF4 r4 σ4 H4 g4 R4=>h' F4 r4 σ4 H4 ((g2.trans g3).trans g4) R4
     |rt w cU=>simp[em]at h';show cQ.weak (g2.trans g3) h'
     |exc c cU=>simp[em]at h';show cQ.weak (g2.trans g3) h'
     |bad=>simp[em]at h';show h'
theorem We {g:DG}{D:Ends}(h:tS T Z (iN mi g m) D σ H):HM (tI T Z mi) (tG T g) (tS T Z m) D σ H:=by
 let#[F,r,env,bx,R,h]:=h;show#[F,r,env,bx,R,End.bB h λds bx1 F1 r1 J H1 g1 R1 y1 h1=>Mi R1 y1 h1]
theorem OY {body:List b9}{g:DG}(hp:PassesOwn zf X.A X.env X.xe) (hc:X.calm=ah) (hi:tX X T Z tg iter mi) (hg:kF X T tg g) (hb:qm X T Z body m)
 (hs:∀ x,foldedSetIterable iter X.env x=pure x:=by intro _;rfl):cL X T Z (.For tg iter body [] pos) (iN mi g m):=
 PS.imp (Fp hp hc hi hg hb hs) λD σ H h=>We h
def bj (m:DE W):DE (List W):=λenv bx=>fB zz λw bx1=>match w with|.d (.lst l)=>.val (l.map W.d) bx1|.d (.tup l)=>.val (l.map W.d) bx1|_=>.bad
end
noncomputable def nW:OS->O W
 |.rt w bx=>.val w bx
 |.nx _ bx=>.val (.d .non) bx
 |.exc c bx=>.exc c bx
 |_=>.bad
noncomputable def nX (n:Nat):O W->O W
 |.val (.d x) bx=>.val (.d x)<|bx.take n
 |.val w bx=>.val w bx
 |.exc c bx=>.exc c<|bx.take n
 |.bad=>.bad
noncomputable def envOf (n:Nat) (ws:List W):aQ:=ws.map ae++List.replicate (n-ws.length) ag
def aV (n:Nat) (m:aC):List W->List Bx->O W:=λws bx=>nX bx.length<|nW<|m (envOf n ws) bx
noncomputable def aP (m:aC):aC:=λenv bx=>match m env bx with|.exc _ _=>.bad|o=>o
theorem kE.get {F:Hp}{r:List ak}:∀ {l:List W}{vs:List V}{i:Nat}{d:W},kE F r l vs->l[i]?=ae d->∃ v,vs[i]?=ae v /\ bU F r d v
 |[],_,_,_,_,e=>by simp at e
 | x::l,_,0,d,h,e=>by
   let#[v,t,q,h1,_]:=h;simp at e;subst e;subst q;show#[v,rfl,h1]
 | x::l,_,i+1,d,h,e=>by
   let#[v,t,q,_,h2]:=h;subst q;let#[u,e1,e2]:=kE.get h2 (by simpa using e);show#[u,by simpa using e1,e2]
theorem Rel.start {T:Fr}{F H:Hp}{r:List ak}{bx:List Bx}{N:List Str}{ws:List W}{vs:List V}(R:Rel T F r [] H [] bx) (d:kE F r ws vs):Rel T F r (start N vs) H (envOf N.length ws) bx:=by
 have hl:=d.length;refine#[R.fh,λi w e=>?_,R.len,R.nd,R.box,R.keep,R.new,R.n0,?_,R.fs]
 .unfold envOf at e;unfold L2.start;by_cases hi:i<ws.length
  .rw[dZ (by rw[a5];show hi),kr]at e;cases q:ws[i]? with
   |none=>rw[q]at e;cases e
   |some w'=>
     rw[q]at e;cases e;let#[v,e1,e2]:=d.get q;refine#[v,?_,e2];rw[dZ (by rw[a5,<-hl];show hi),kr,e1];rfl
  .rw[k9 (by rw[a5];lia)]at e;rw[aaR]at e;split at e<;>cases e
 .unfold envOf L2.start;rw[cX,cX,a5,a5,QY,QY,hl];show aE _
theorem Wf {l l':List α}(h:l <+: l'):l'.take l.length=l:=by
 let#[t,rfl]:=h;simp
theorem Rel.cut {r':List ak}{bx':List Bx}(g:bh F r F' r') (R:Rel #[H,r.length,F] F' r' [] H' [] bx'):Rel #[H,r.length,F] F' r [] H' [] (bx'.take r.length):=by
 have hle:=g.p.length_le;have pre:∀ (n) (a),r[n]?=ae a->r'[n]?=ae a:=λn a e=>by
  let#[t,rfl]:=g.p;rw[dZ (List.getElem?_eq_some_iff.mp e).1];show e
 refine#[R.fh,λi w e=>by simp at e,?_,?_,λn c a e1 e2=>?_,λa u e hn=>?_,λn a hn e=>?_,aE _,aE _,λa u e=>?_]
 .rw[yB,<-R.len];lia
 .show List.Sublist.nodup (List.IsPrefix.sublist g.p) R.nd
 .rw[aaS (List.getElem?_eq_some_iff.mp e2).1]at e1;show R.box n c a e1<|pre n a e2
 .refine R.keep a u e λz=>?_;let#[m,em]:=List.mem_iff_getElem?.mp z;by_cases hm:m<r.length
  .have q:=pre m _<|cY hm;rw[em]at q;cases q;show hn<|pF hm
  .have q':=(R.new m a (vi hm) em);rw[e]at q';cases q'
 .rw[rO hn]at e;cases e
 .rcases R.fs a u e with y|z|z|z
  .show .inl y
  .show .inr<|.inl z
  .show .inr<|.inr<|.inl z
  .let#[m,em]:=List.mem_iff_getElem?.mp z;by_cases hm:m<r.length
   .have q:=pre m _<|cY hm;rw[em]at q;cases q;show .inr<|.inr<|.inr<|pF hm
   .show .inr<|.inr<|.inl<|R.new m a (vi hm) em
theorem OZ {Q:VK}(hb:bx.length=r.length) {o:O W}(h:End #[H,r.length,F] Z bU F r [] [] Q<|nX bx.length o):End #[H,r.length,F] Z bU F r [] [] Q o:=by
 rw[hb]at h;cases o with
 |bad=>show h
 |exc c bx1=>show λF' r' H' g R=>h F' r H' #[g.s,pE r]<|R.cut g
 |val w bx1=>
   cases w with
   |d x=>show λF' r' v H' g R d=>h F' r v H' #[g.s,pE r] (R.cut g) d
   |b n=>show h
   |s l=>show h
   |x i=>show h
   |_=>show h
theorem O0 {Q:VK}{o:OS}(h:End T Z bU F r [] [] Q<|nW o):cQ T Z F r { nx:=λ_ H'=>Q .non H',rt:=Q } o:=by
 cases o with
 |nx env bx=>show λF' r' σ' H' g R=>h F' r' .non H' g R.drop zc
 |rt w bx=>show λF' r' v H' g R d=>h F' r' v H' g R d
 |exc c bx=>show h
 |bk env bx=>show(h).elim
 |ct env bx=>show(h).elim
 |bad=>show h
section
variable {qual:Str} {f:ak} {ps:List Str} {k:Nat} {m:aC} 
theorem Wg {sp:Sp}(G:kC P w K mg base yR k f fd ps sp):kC P w K mg base CX k f fd ps sp:=
 #[G.len,λA outer s H args us vs Q E hr e0 hb hv hs=>wI (G.run A outer s H args us vs Q E hr e0 hb hv hs) λr s' h=>by
  cases r with
  |error e=>show False.elim h
  |ok fl=>
    cases fl with
    |ret u=>show h
    |next=>show h
    |brk=>show h
    |cont=>show h]
theorem Wh (F:qj K x qual st f fd) (S:xu N ps<|fR st)
 (vE:∀ (bH:ai) (A:eu) (outer:List Env) (s:ax) (H:Hp) (E:XK) (n:Nat) (F0:Hp),c8 k (A.deeper<|envOfC qual (fR st) s.heap.objs.size f bH) ->
  qm (uK yR P w K mg base N qual (fR st) f bH A outer s H E).xr #[H,n,F0] #[E0,cl] (gW st) m):kC P w K mg base (qk P w) (k+1) f fd ps (tV cl ps.length<|aV N.length<|aP m):=by
 refine Wg<|F.ok S (λvs H Q E h=>?_) λbH A outer s H vs Q E hr h=>?_
 .let#[F,r,ws,bx,_,d,hl,_]:=h;rw[<-d.length];show hl
 .let#[F,r,ws,bx,R,d,hl,h]:=h;refine#[_,vE bH A outer s H E r.length F hr,F,r,envOf N.length ws,bx,R.start d,?_];have h':=O0<|OZ R.len.symm h;unfold aP at h';cases e:m _ bx with
  |nx env bx1=>simp[e]at h';show h'
  |rt w bx1=>simp[e]at h';show h'
  |bk env bx1=>simp[e]at h';show h'
  |ct env bx1=>simp[e]at h';show h'
  |exc c bx1=>simp[e]at h';show h'.elim
  |bad=>simp[e]at h';show h'
end
theorem Gu:Passes (qk X.prog X.w) X E0:=λ_ _ _ _ _ _ _ h=>by
 let#[_,_,_,_,_,_,_,_,_,_,_,_,_,h]:=h;show h.elim
section
variable {m:aC} {akZ:List b9}
end
noncomputable def bindB {β:Type}(m:O α) (k:α->List Bx->O β):O β:=
 match m with
 |.val a bx=>k a bx
 |_=>.bad
def bG (g:DG) (tf:DE Bool) (te:DE W):List W->aQ->List Bx->List D->O (List D)
 |[],_,bx,acc=>.val acc bx
 | w::l,env,bx,acc=>match g w env bx with
   |none=>.bad
   | some (env1,bx1)=>bindB (tf env1 bx1) λb ay=>match b with
     |false=>bG g tf te l env1 ay acc
     | true=>bindB (te env1 ay) λy bQ=>match y with
       |.d d=>if acc.length<sizeLine then bG g tf te l env1 bQ (acc++[d]) else .bad
       |_=>.bad
noncomputable def eD (src:List<|Option Nat) (env:aQ):aQ:=src.map λo=>o.bind λi=>(env[i]?).bind id
def fK (bo:Bool) (src:List<|Option Nat) (mi:DE<|List W) (g:DG) (tf:DE Bool) (te:DE W):DE W:=λenv bx=>
 fB (mi env bx) λds bx1=>fB (bG g tf te ds (eD src env) bx1 []) λl ay=>cq bo (ae<|.lst l) ay
theorem Rel.src {T:Fr}{F H:Hp}{r:List ak}{σ:St}{env:aQ}{bx:List Bx}(R:Rel T F r σ H env bx) (src:List<|Option Nat):Rel T F r (uM src σ) H (eD src env) bx:=by
 refine#[R.fh,λj w e=>?_,R.len,R.nd,R.box,R.keep,R.new,R.n0,?_,R.fs]
 .unfold eD at e;unfold L2.uM;rw[kr]at e ⊢;cases q:src[j]? with
  |none=>rw[q]at e;cases e
  |some o=>
    rw[q]at e;cases o with
    |none=>cases e
    |some i=>
      have e':(env[i]?).bind id=ae w:=Option.some.inj e;cases z:env[i]? with
      |none=>rw[z]at e';cases e'
      |some o'=>
        rw[z]at e';have e2:=e';subst e2;let#[v,e1,e2]:=R.slot i w z;show#[v,by simp[e1],e2]
 .unfold eD L2.uM;rw[a5,a5];show aE _
theorem Rel.inner {r':List ak}{σ':St}{aO:aQ}{bx':List Bx}(R:Rel T F r σ H env bx) (g:bh F r F' r') (R':Rel #[H,r.length,F] F' r' σ' H' aO bx'):Rel T F' r' σ' H' aO bx':=by
 have q:=R.after g R'.drop;show#[q.fh,R'.slot,q.len,q.nd,q.box,q.keep,q.new,q.n0,R'.sl,q.fs]
theorem Rel.again (R:Rel T F r σ H env bx):Rel #[H,r.length,F] F r σ H env bx:=
 #[R.fh,R.slot,R.len,R.nd,R.box,λa u e _=>e,λn a hn e=>(by rw[rO hn]at e;cases e),aE _,R.sl,λa u e=>.inr<|.inl e]
structure Own (F:Hp) (r:List ak) (H:Hp) (a:ak) (vs:List V):zt where
 h:H a=ae (.lst vs)
 f:F a=ag
 b:a∉r
theorem Own.inner {r':List ak}{σ':St}{aO:aQ}{bx':List Bx}{vs:List V}(o:Own F r H a vs) (g:bh F r F' r') (R':Rel #[H,r.length,F] F' r' σ' H' aO bx'):Own F' r' H' a vs:=by
 have hb:a∉r':=λz=>by
  let#[m,em]:=List.mem_iff_getElem?.mp z;by_cases hm:m<r.length
  .let#[t,e]:=g.p;rw[<-e,dZ hm]at em;show o.b<|List.mem_iff_getElem?.mpr #[m,em]
  .have q:H a=ag:=R'.new m a (vi hm) em;rw[o.h]at q;cases q
 refine#[R'.keep a _ o.h hb,?_,hb];cases q:F' a with
 |none=>rfl
 |some u=>
   rcases R'.fs a u q with⟨yW,rfl⟩|z|z|z
   .have:=R'.fh a _ q;rw[R'.keep a _ o.h hb]at this;cases this
   .have z':F a=ae u:=z;rw[o.f]at z';cases z'
   .have z':H a=ag:=z;rw[o.h]at z';cases z'
   .show absurd z hb
end L2.DL
namespace L2
theorem JG (it:ak) (lo:Int) (n:Nat):Turn P w K tg (vz lo n) [it] it (λi h=>IsLongIter h it (lo+(i:Nat)*1) ((n:Int)-(i:Nat)) 1) where
 mem:=by simp
 obj:=λi h st b hb=>by
  have e:b=it:=by simpa using hb
  subst e;show#[_,st,λv z=>by
   cases z]
 keep:=λi h h' st k=>k it zj _ st
 item:=by
  intro X hP hw hK hc i pins s σ H E I hf st hg;subst hP hw hK;let#[f0,f1,f2,f3,f4,f5]:=hf it zj;refine(Walks.longrange (prog:=X.prog) (w:=X.w) (I.ok.hd hc) it lo 1 n).item i s _ _ hg st λv h' tk hv nQ kk=>?_;let#[t,rfl]:=hv;have I1:Inv X pins σ H { s with heap:=h',toks:=tk }:=I.turned (λb o hb e=>kk b o (by simpa using hb) e) f0 f1 f3 f4 f5;refine#[_,rfl,C5 nQ zc zc (rfl) #[.int _,H,I1,#[t,?_],#[rfl,rfl],nQ,λb hb=>(hf b hb).1]];rw[xg]
 done:=by
  intro X hP hw hK hc i pins s σ H E I hf st hg;subst hP hw hK;let#[f0,f1,f2,f3,f4,f5]:=hf it zj;show wpAny_pyNext_long_end (I.ok.hd hc) st (by have:n<=i:=hg;lia) λh' eb=>#[rfl,I.turned (λb o hb e=>eb b o hb e) f0 f1 f3 f4 f5]
 self:=λ_ _ _ _ _ st h=>wpAny_pyIter_longiter st h
theorem oz {s:ax}{R:It->Hp->zt}{lo hi:Int}{t u v:Tok}{tk:Nat}(I:Inv X pins σ H s)
 (q:R (vz lo (hi-lo).toNat) H):wpAny zf X.A (pyIter<|.ref s.heap.objs.size) (XU X pins σ tg R) E { s with heap:=s.heap.push { cls:=.type "range",data:=.fields (List.toArray [.int lo t,.int hi u,.int 1 v]) },toks:=tk }:=by
 have e1:lo+((0))*1=lo:=by simp
 have e2:(((hi-lo).toNat))-((0))=Builtin.Range.rangeSize lo hi 1:=by rw[aak];split<;>lia
 have I1:Inv X pins σ H { s with heap:=s.heap.push { cls:=.type "range",data:=.fields (List.toArray [.int lo t,.int hi u,.int 1 v]) },toks:=tk }:=I.kept λb o e=>aW _ e;have hf:∀ b∈[(s.heap.push { cls:=.type "range",data:=.fields (List.toArray [.int lo t,.int hi u,.int 1 v]) }).objs.size],nP X pins H b:=λb hb=>by
  have e:b=(s.heap.push { cls:=.type "range",data:=.fields (List.toArray [.int lo t,.int hi u,.int 1 v]) }).objs.size:=by simpa using hb
  subst e;show I1.vw (aE _)<|I1.aD.fresh<|aE _
 cases hb:Builtin.Range.small lo hi 1 with
 |true=>
   refine aaj (IsRange.new ..) hb ?_;refine#[_,_,_,_,H,rfl,I1.kept λb o e=>aW _ e,AA _ lo (hi-lo).toNat,?_,hf,q];change IsRangeIter _ _ (lo+((0))*1) ((((hi-lo).toNat))-((0))) 1;rw[e1,e2];show bE _ zc
 |false=>
   refine wpAny_pyIter_longrange (IsRange.new ..) hb ?_;refine#[_,_,_,_,H,rfl,I1.kept λb o e=>aW _ e,JG _ lo (hi-lo).toNat,?_,hf,q];change IsLongIter _ _ (lo+((0))*1) ((((hi-lo).toNat))-((0))) 1;rw[e1,e2];show bE _ zc
def ag8 (ta:TA):TI:=λσ H R=>ta σ H λvs H1=>∃ i j:Int,vs=[.int i,.int j] /\ R (vz i (j-i).toNat) H1
theorem JH {a b:au}{ta:TA}{p:aM}(hg:Gl X "range") (hm:X.mg "range"=ag) (ha:PA X [a,b] ta) (hs:starEach [a,b] X.env=[(af,eval a X.env),(af,eval b X.env)]:=by rfl) (kW:starEach [b] X.env=[(af,eval b X.env)]:=by rfl) :
 PI X tg (.Call (.Name "range" p) [a,b] [] pos) (ag8 ta):=by
 intro pins s σ H R I h;refine Call_<|jx I hg hm boot_range<|Hq (tA (ha pos pins s σ H _ I h) λus s1 vs H1 I1 r1 q1=>?_) (by rw[hs,kW]) (by rw[kW];rfl);let#[i,j,e,q]:=q1;subst e;cases r1 with
 |cons r rr=>
   cases rr with
   |cons r' rr=>
     cases rr;let#[t,rfl]:=r;let#[t',rfl]:=r';show call_range_2<|oz I1 q
end L2
namespace L2.DL
theorem Rel.ac8 (R:Rel T F r σ H env bx) {o:HO}(h:H p=ag):Rel T F r σ (upd H p o) env bx:=by
 have hs:∀ a u,H a=ae u->upd H p o a=ae u:=λa u e=>by rw[fC<|f8 e h];show e
 show#[λa u e=>hs a u<|R.fh a u e,R.slot,R.len,R.nd,λn c a e1 e2=>(R.box n c a e1 e2).grow (Sub.refl F) id<|hs a,λa u e hn=>hs a u<|R.keep a u e hn,R.new,R.n0,R.sl,R.fs]
theorem Rel.ag9 (R:Rel T F r σ H env bx) {vs:List V}{o:HO}(w:Own F r H p vs) (hT:T.H₀ p=ag):Rel T F r σ (upd H p o) env bx:=by
 refine#[λa u e=>?_,R.slot,R.len,R.nd,λn c a e1 e2=>?_,λa u e hn=>?_,R.new,R.n0,R.sl,R.fs]
 .rw[fC (λz=>by rw[z,w.f]at e;cases e)];show R.fh a u e
 .have ha:a≠p:=λz=>w.b<|List.mem_iff_getElem?.mpr #[n,z▸e2];show(R.box n c a e1 e2).grow (Sub.refl F) id λu z=>by rw[fC ha];show z
 .rw[fC (λz=>by rw[z,hT]at e;cases e)];show R.keep a u e hn
theorem Rel.aha (R:Rel T F r σ H env bx) {vs:List V}(w:Own F r H p vs) (hT:T.H₀ p=ag):Rel T (upd F p<|.lst vs) r σ H env bx /\ bh F r (upd F p<|.lst vs) r:=by
 have s:=iE (o:=.lst vs) w.f;refine#[#[λa u e=>?_,λi w e=>?_,R.len,R.nd,λn c a e1 e2=>?_,R.keep,R.new,R.n0,R.sl,λa u e=>?_],s,pE r]
 .by_cases ha:a=p
  .subst ha;rw[fA]at e;cases e;show w.h
  .rw[fC ha]at e;show R.fh a u e
 .let#[v,e1,e2]:=R.slot i w e;show#[v,e1,e2.mono s<|pE r]
 .have ha:a≠p:=λz=>w.b<|List.mem_iff_getElem?.mpr #[n,z▸e2];show(R.box n c a e1 e2).grow s (λz=>by rw[fC ha];show z) λu z=>z
 .by_cases ha:a=p
  .subst ha;show .inr<|.inr<|.inl hT
  .rw[fC ha]at e;show R.fs a u e
theorem Rel.ahb (R:Rel T F r σ H env bx) {vs:List V}{l:List D}(w:Own F r H p vs) (hT:T.H₀ p=ag) (d:aG F l vs):Rel T F (r++[p]) σ H env (bx++[.lst l]) /\ bh F r F (r++[p]) /\ (r++[p])[bx.length]?=ae p:=by
 have hx:(r++[p])[bx.length]?=ae p:=by rw[<-R.len,k9<|aE _,sZ];rfl
 have g:bh F r F _:=#[Sub.refl F,wR r [p]];refine#[#[R.fh,λi w e=>?_,by rw[cX,cX,R.len];rfl,?_,λn c' a e1 e2=>?_,λa u e hn=>R.keep a u e λz=>hn<|pY _ z,λn a hn e=>?_,by rw[cX];show cx R.n0 (wM _ _),R.sl,λa u e=>(R.fs a u e).imp id<|Or.imp id<|Or.imp id λz=>pY _ z],g,hx]
 .let#[v,e1,e2]:=R.slot i w e;show#[v,e1,g.den e2]
 .rw[vn];refine#[R.nd,by simp,λa ha b hb=>?_];rw[eU]at hb;subst hb;show λz=>w.b<|z▸ha
 .by_cases hn:n<r.length
  .rw[dZ hn]at e2;rw[dZ (by rw[<-R.len];show hn)]at e1;show R.box n c' a e1 e2
  .rw[k9 za]at e2;rw[k9 (by rw[<-R.len];lia)]at e1;have hl:n-r.length=0:=by
    cases q:n-r.length with
    |zero=>rfl
    |succ k=>rw[q]at e2;simp at e2
   have nu:n-bx.length=0:=by rw[<-R.len];show hl
   rw[hl]at e2;rw[nu]at e1;simp at e1 e2;subst e1 e2;show#[w.f,vs,w.h,d]
 .by_cases hl:n<r.length
  .rw[dZ hl]at e;show R.new n a hn e
  .have hp:a=p:=by
    rw[k9 za]at e;cases q:n-r.length with
    |zero=>rw[q]at e;simp at e;show e.symm
    |succ k=>rw[q]at e;simp at e
   subst hp;show hT
section
variable {src:List (Option Nat)} {elt:au} {scope:bT} {g:DG} 
abbrev yY (g:DG):TG:=λv σ H Q=>∃ T,tG T g v σ H Q
abbrev yZ (Z:Xs) (tf:DE Bool):TT:=λσ H Q=>∃ T,sC T Z tf σ H Q
abbrev Ea (Z:Xs) (te:DE W):TE:=λσ H Q=>∃ T,tD T Z te σ H Q
theorem Rel.slots {T':Fr}{r':List ak}{σ':St}{aO:aQ}{bx':List Bx}(R:Rel T F r σ H env bx) (g:bh F r F' r') (R':Rel T' F' r' σ' H' aO bx'):Rel T' F' r' σ H' env bx' :=
 #[R'.fh,λi w e=>let ⟨v,e1,e2⟩:=R.slot i w e;#[v,e1,g.den e2],R'.len,R'.nd,R'.box,R'.keep,R'.new,R'.n0,R.sl,R'.fs]
theorem Fv {Q:VK}{F1 H1:Hp}{r1:List ak}{ds:List W}{J:It}(R1:Rel T F1 r1 σ H1 env bx1) (y1:uP F1 r1 ds J)
 (h1:End T Z bU F1 r1 σ env Q<|fB (bG g tf te ds (eD src env) bx1 []) λl ay=>cq bo (ae<|.lst l) ay) (Da:ak) (hD:H1 Da=ag):acX J (yY g) (yZ #[E0,Z.cl] tf) (Ea #[E0,Z.cl] te) Da Q (uM src σ) (upd H1 Da<|.lst []):=by
 have hT:T.H₀ Da=ag:=by
  cases q:T.H₀ Da with
  |none=>rfl
  |some u=>rw[R1.keep Da u q<|R1.xE hD]at hD;cases hD
 have o0:Own F1 r1 (upd H1 Da _) Da []:=#[fA,R1.qO hD,R1.xE hD];refine#[λi n σ' H'=>∃ pre l F' r' aO bx' acc vs,ds=pre++l /\ pre.length=i /\ n=l.length /\ bh F1 r1 F' r' /\ Rel T F' r' σ' H' aO bx' /\ Own F' r' H' Da vs /\ aG F' acc vs /\
  End T Z bU F' r' σ env Q (fB (bG g tf te l aO bx' acc) λl ay=>cq bo (ae<|.lst l) ay),
  #[ds.length,[],ds,F1,r1,_,bx1,[],[],rfl,rfl,rfl,.refl F1 r1,(R1.ac8 hD).src src,o0,.nil,h1],?_]
 rintro i n σ' H' ⟨pre,l,F',r',aO,bx',acc,vs,pL,hi,hn,g',R',o',da,h'⟩;let#[ys,yg]:=y1 _ i F' r' σ' H' aO bx' g' R'.again;cases l with
 |nil=>
   refine .inl #[ys (by rw[pL,uC];lia),?_];have RO:=R1.slots g' R';have hd:End T Z bU F' r' σ env Q (.val (.d<|.lst acc) bx')->Q _ H':=λh'=>by
    let#[RA,gA]:=RO.aha o' hT;show h' _ r' _ H' gA RA #[Da,vs,rfl,fA,aG.mono gA.s acc da]
   cases bo with
   |false=>show hd h'
   |true=>
     let#[RB,gB,hx]:=RO.ahb o' hT da;show h' F' _ _ H' gB RB #[Da,rfl,hx]
 |cons w l=>
   let#[go,yl]:=yg w (by rw[pL,k9 za,hi,sZ];rfl);refine .inr #[go,λσ2 H2=>∃ F2 r2 bw ay Io Eb,bh F1 r1 F2 r2 /\ Rel T F2 r2 σ2 H2 bw ay /\ Own F2 r2 H2 Da Eb /\ aG F2 Io Eb /\
    End T Z bU F2 r2 σ env Q (fB (bG g tf te l bw ay Io) λl ay=>cq bo (ae<|.lst l) ay),
    λσ2 H2 ⟨F2,r2,bw,ay,Io,Eb,g2,R2,o2,d2,h2⟩=>#[l.length,by rw[hn];show k8 _,pre++[w],l,F2,r2,bw,ay,Io,Eb,by rw[pL,qC];rfl,by rw[cX,hi];rfl,rfl,g2,R2,o2,d2,h2],λx H2 hy=>?_]
   let#[F2,g2,R2,d2]:=yl x H2 hy;have ac9:=R'.inner g2 R2;refine#[#[H2,r'.length,F2],F2,r',aO,bx',w,ac9.again,d2,?_];simp[bG]at h';cases eg:g w aO bx' with
   |none=>simp[eg]at h';show h'.elim
   |some o=>
     let#[qo,bQ]:=o;simp[eg]at h';intro F3 r3 σ3 H3 g3 R3;have ada:=ac9.inner g3 R3;refine#[#[H3,r3.length,F3],F3,r3,qo,bQ,ada.again,?_];cases ef:tf qo bQ with
     |bad=>simp[ef]at h';show h'.elim
     |exc c cU=>simp[ef]at h';show h'.elim
     |val b cU=>
       simp[ef,bindB]at h';intro F4 r4 b' H4 g4 R4 eb;subst eb;have YQ:=ada.inner g4 R4;have o4:=((o'.inner g2 R2).inner g3 R3).inner g4 R4;have adb:=((g'.trans g2).trans g3).trans g4;have YR:=(g2.trans g3).trans g4;cases b with
       |false=>
         rw[if_neg ze];show#[F4,r4,qo,cU,acc,vs,adb,YQ,o4,aG.mono YR.s acc da,End.weak YR h']
       |true=>
         rw[if_pos rfl];refine#[#[H4,r4.length,F4],F4,r4,qo,cU,YQ.again,?_];cases ee:te qo cU with
         |bad=>simp[ee]at h';show h'.elim
         |exc c ade=>simp[ee]at h';show h'.elim
         |val y ade=>
           simp[ee]at h';intro F5 r5 v H5 g5 R5 d5;have o5:=o4.inner g5 R5;have adf:=YR.trans g5;cases y with
           |d d=>
             simp at h';split at h'
             .ext hz;refine#[vs,o5.h,by rw[<-da.length];show hz,F5,r5,qo,ade,acc++[d],vs++[v],adb.trans g5,(YQ.inner g5 R5).ag9 o5 hT,#[fA,o5.f,o5.b],(aG.mono adf.s acc da).append<|.cons d5 .nil,End.weak adf h']
             .show h'.elim
           |b n=>show h'.elim
           |s l=>show h'.elim
           |x i=>show h'.elim
           |_=>show h'.elim
theorem Mj {Q:VK}(h:tD T Z (fK bo src mi g tf te) σ H Q):Ie src (tI T Z mi) (yY g) (yZ #[E0,Z.cl] tf) (Ea #[E0,Z.cl] te) σ H Q:=by
 let#[F,r,env,bx,R,h]:=h;show#[F,r,env,bx,R,End.bind h λds bx1 F1 r1 J H1 g1 R1 y1 h1=>Fv R1 y1 h1]
theorem O3 (bo:Bool) (hc:X.calm=ah) (S:sx X N src scope) (hi:tX X T Z tg iter mi)
 (hg:∀ T cl s H C fp,kF (X.comp N scope cl s H C fp) T tg g) (hf:∀ T cl s H C fp,PF (X.comp N scope cl s H C fp) ifs<|sC T #[E0,Z.cl] tf) (he:∀ T cl s H C fp,PD (X.comp N scope cl s H C fp) T #[E0,Z.cl] elt te)
 (hs:∀ x,foldedSetIterable iter X.env x=pure x:=by intro _;rfl):PD X T Z zw (fK bo src mi g tf te):=
 PE.imp (OK hc S hi (λcl s H C fp pins s' σ' H' v u Q I rv ⟨T,q⟩=>hg T cl s H C fp pins s' σ' H' v u Q I rv q)
  (λcl s H C fp pins s' σ' H' Q I ⟨T,q⟩=>hf T cl s H C fp pins s' σ' H' Q I q) (λcl s H C fp pins s' σ' H' Q I ⟨T,q⟩=>he T cl s H C fp pins s' σ' H' Q I q) hs) λσ H Q h=>Mj h
noncomputable def fN:DE Bool:=λ_ bx=>.val ah bx
theorem O4:PF X [] (sC T Z fN):=λpins s σ H Q I ⟨F,r,env,bx,R,h⟩=>TV pins s σ H Q I<|h F r ah H (.refl F r) R zc
theorem O5 {c:au}{t:DE Bool}(h:eC X T Z c t):PF X [c] (sC T Z t):=TW h
theorem BS {l:List D}{i:Nat}{w:W}(e:(l.map W.d)[i]?=ae w):∃ d,l[i]?=ae d /\ w=.d d:=by
 rw[kr]at e;cases q:l[i]? with
 |none=>rw[q]at e;cases e
 |some d=>rw[q]at e;cases e;show#[d,rfl,rfl]
noncomputable def fM (lo:Int) (n:Nat):List W:=(List.range n).map λ(i:Nat)=>W.d<|.int<|lo+i
theorem mS (lo:Int) (n:Nat):uP F r (fM lo n) (vz lo n):=λT i F1 r1 σ1 H1 env1 bx1 g R=>by
 unfold fM;refine#[λhl=>?_,λw e=>?_]
 .rw[a5,wU]at hl;show wL hl
 .rw[kr]at e;cases q:(List.range n)[i]? with
  |none=>rw[q]at e;cases e
  |some j=>
    rw[q]at e;cases e;let#[h1,h2]:=List.getElem?_eq_some_iff.mp q;rw[List.getElem_range]at h2;subst h2;rw[wU]at h1;refine#[h1,λx H2 ⟨e1,e2⟩=>?_];subst e1 e2;show#[F1,.refl F1 r1,R,rfl]
def c9 (k:DE<|List W):DE (List W):=λenv bx=>fB (k env bx) λws bx1=>match ws with
 |[.d<|.int j]=>if -(2 ^ 62)<=j /\ j<2 ^ 62 then .val (fM 0 j.toNat) bx1 else .bad
 |_=>.bad
theorem Fw {a:au}{p:aM}{k:DE (List W)}(hg:Gl X "range") (hm:X.mg "range"=ag) (ha:dF X T Z [a] k) (hs:starEach [a] X.env=[(af,eval a X.env)]:=by rfl):tX X T Z tg (.Call (.Name "range" p) [a] [] pos) (c9 k):=by
 refine PI.imp (Jo hg hm ha hs) λσ H Q=>x4 λF r env bx R h=>?_;refine#[F,r,env,bx,R,End.bind h λws bx1 F1 r1 vs H1 g1 R1 d1 h1=>?_];split at h1
 .ext j;split at h1
  .ext hj;let#[v,t,rfl,e1,e2]:=d1;cases (e2);cases (e1);show#[j,rfl,hj.1,hj.2,h1 F1 r1 _ H1 (.refl F1 r1) R1<|mS 0 j.toNat]
  .show h1.elim
 .show h1.elim
def qQ (k:DE<|List W):DE (List W):=λenv bx=>fB (k env bx) λws bx1=>match ws with
 |[.d<|.int i,.d<|.int j]=>.val (fM i (j-i).toNat) bx1
 |_=>.bad
theorem Fx {a b:au}{p:aM}{k:DE (List W)}(hg:Gl X "range") (hm:X.mg "range"=ag) (ha:dF X T Z [a,b] k) (hs:starEach [a,b] X.env=[(af,eval a X.env),(af,eval b X.env)]:=by rfl) (kW:starEach [b] X.env=[(af,eval b X.env)]:=by rfl) :
 tX X T Z tg (.Call (.Name "range" p) [a,b] [] pos) (qQ k):=by
 refine PI.imp (JH hg hm ha hs kW) λσ H Q=>x4 λF r env bx R h=>?_;refine#[F,r,env,bx,R,End.bind h λws bx1 F1 r1 vs H1 g1 R1 d1 h1=>?_];split at h1
 .ext i j;let#[v,t,rfl,e1,v2,t2,rfl,e2,e3]:=d1;cases (e3);cases (e1);cases (e2);show#[i,j,rfl,h1 F1 r1 _ H1 (.refl F1 r1) R1<|mS i _]
 .show h1.elim
end
section
variable {a b c:au} {mc:DE W} {p:aM}
def adg (K:PySem.W.Frag):R2:=λx y H Q=>∃ a b ys,x=.ref a /\ y=.ref b /\ cP K H a [] /\ cP K H b ys /\ Q (.ref b) H
theorem Mk:bc X (binaryOp .Add) (adg X.K):=by
 intro pins s σ H x y v u Q I rx ry h;let#[a,b,ys,rfl,rfl,ha,hb,q]:=h;cases rx;cases ry;let#[its,r1,p1,_]:=I.tuple ha;let#[sj,r2,p2,_]:=I.tuple hb;cases r1;let#[#[cls,dd,data,sl],ho,hc,n,hd]:=id p1;let#[#[acF,uL,data2,se],sf,kD,n2,hd2]:=id p2;subst hc hd kD hd2
 show Qz #[_,ho,rfl] #[_,sf,rfl] QA QB Xy Xz (XA _ _)
  (tuple_addW0 a b ([]).toArray sj.toArray n n2 dd uL sl se<|rfl) #[ho,sf,#[.ref b,H,I,rfl,q]]
def adh (K:PySem.W.Frag):R2:=λx y H Q=>kB (λi j=>.int<|i+j) x y H Q \/ acH K x y H Q \/ adg K x y H Q \/ acT x y H Q \/ ∃ i j,x=.str i /\ y=.str j /\ i.length+j.length<=sizeLine /\ Q (.str<|i++j) H
theorem O6:bc X (binaryOp .Add) (adh X.K):=Tw.or<|OH.or<|Mk.or<|TR.or Fq
noncomputable def fI:D->D->Option Res
 |.int i,.int j=>ae<|.old<|.int<|i+j
 |.tup a,.tup b=>if a.length+b.length<=sizeLine then ae (.tup<|a++b) else ag
 |.lst a,.lst b=>if a.length+b.length<=sizeLine then ae (.lst<|a++b) else ag
 |.str a,.str b=>if a.length+b.length<=sizeLine then ae (.old<|.str<|a++b) else ag
 |_,_=>ag
theorem aG.eq_nil {l:List D}{vs:List V}(h:aG F l vs):vs=[] ↔ l=[]:=by
 have:=h.length;cases l<;>cases vs<;>simp_all
theorem ahc:cz (adh K) fI:=by
 intro F H x y v w Q s sub rx ry e k;unfold fI at e;split at e
 .ext i j;cases e;show .inl #[i,j,rx,ry,k _ _ #[rfl,rfl]]
 .split at e
  .ext hz;cases e;let#[a,vs,rfl,h1,h2]:=rx;let#[b,ws,rfl,h3,h4]:=ry;by_cases hv:vs=[]
   .subst hv;have hl:=h2.eq_nil.mp zc;subst hl;show .inr<|.inr<|.inl #[a,b,ws,rfl,rfl,.of<|sub _ _ h1,.of<|sub _ _ h3,k _ _<|.inl #[rfl,b,ws,rfl,h3,h4]]
   .refine .inr (.inl #[a,b,vs,ws,rfl,rfl,.of<|sub _ _ h1,.of<|sub _ _ h3,hv,by rw[<-h2.length,<-h4.length];show hz,λhw=>?_,λhw p hp=>k _ _<|.inr #[p,vs++ws,rfl,hp,rfl,h2.append h4]]);have hl:=h4.eq_nil.mp hw;subst hl;show k _ _ (.inl #[rfl,a,vs,rfl,h1,by rw[uC];show h2])
  .cases e
 .split at e
  .ext hz;cases e;let#[a,vs,rfl,h1,h2]:=rx;let#[b,ws,rfl,h3,h4]:=ry;show .inr<|.inr<|.inr (.inl #[a,b,vs,ws,rfl,rfl,h1,h3,by rw[<-h2.length,<-h4.length];show hz,λp hp=>k _ _ #[p,vs++ws,rfl,hp,rfl,h2.append h4]])
  .cases e
 .ext i j;split at e
  .ext hz;cases e;show .inr<|.inr<|.inr<|.inr #[i,j,rx,ry,hz,k _ _ #[rfl,rfl]]
  .cases e
 .cases e
theorem YS {C:Int->Int->zt} [∀ i j,Decidable<|C i j] {g:Int->Int->D}{gv:Int->Int->V}(hg:∀ i j F,Den F (g i j)<|gv i j):cz (rI C gv) λx y=>match x,y with|.int i,.int j=>if C i j then ae (.old<|g i j) else ag|_,_=>ag:=by
 intro F H x y v w Q s sub rx ry e k;dsimp only at e;split at e
 .ext i j;split at e
  .ext hc;cases e;show#[i,j,rx,ry,hc,k _ _ #[rfl,hg i j F]]
  .cases e
 .cases e
theorem Ip {g:Int->Int->D}{gv:Int->Int->V}(hg:∀ i j F,Den F (g i j)<|gv i j):cz (kB gv) λx y=>match x,y with|.int i,.int j=>ae (.old<|g i j)|_,_=>ag:=by
 intro F H x y v w Q s sub rx ry e k;dsimp only at e;split at e
 .ext i j;cases e;show#[i,j,rx,ry,k _ _ #[rfl,hg i j F]]
 .cases e
noncomputable def bR:D->D->Option Res:=λx y=>match x,y with|.int i,.int j=>ae (.old<|.int<|i-j)|_,_=>ag
theorem ahd:cz (kB λi j=>.int<|i-j) bR:=Ip λ_ _ _=>rfl
instance (i j:Int):Decidable (vC i j):=by unfold vC;show inferInstance
instance (i j:Int):Decidable (uJ i j):=by unfold uJ;show inferInstance
instance (i j:Int):Decidable (xt i j):=by unfold xt;show inferInstance
noncomputable def kh:D->D->Option Res:=λx y=>match x,y with|.int i,.int j=>if uJ i j then ae (.old<|.int<|i / j) else ag|_,_=>ag
theorem ahe:cz (rI uJ λi j=>.int<|i / j) kh:=YS λ_ _ _=>rfl
noncomputable def nY:D->D->Option Res:=λx y=>match x,y with|.int i,.int j=>if 0<j then ae (.old<|.int<|i % j) else ag|_,_=>ag
theorem ahf:cz (rI (λ_ j=>0<j) λi j=>.int<|i % j) nY:=YS λ_ _ _=>rfl
noncomputable def uQ:D->D->Option Res:=λx y=>match x,y with|.int i,.int j=>if xt i j then ae (.old<|.int<|i ^ j.toNat) else ag|_,_=>ag
theorem ahg:cz (rI xt λi j=>.int<|i ^ j.toNat) uQ:=YS λ_ _ _=>rfl
noncomputable def intsOf:List D->Option (List Int)
 |[]=>ae []
 |.int i::l=>(intsOf l).map λt=>i::t
 |_=>ag
theorem aG.ints {F:Hp}:∀ {l:List D}{vs:List V}{ns:List Int},aG F l vs->intsOf l=ae ns->vs=ns.map V.int
 |[],_,_,h,e=>by cases e;show h
 | .int i::l,_,ns,h,e=>by
   let#[v,r,q,h1,h2]:=h;unfold intsOf at e;cases e2:intsOf l with
   |none=>rw[e2]at e;cases e
   |some t=>
     rw[e2]at e;cases e;rw[q,h2.ints e2,h1];rfl
 |.non::l,_,_,_,e=>by cases e
 |.bl _::l,_,_,_,e=>by cases e
 |.str _::l,_,_,_,e=>by cases e
 |.tup _::l,_,_,_,e=>by cases e
 |.lst _::l,_,_,_,e=>by cases e
 |.aB _::l,_,_,_,e=>by cases e
noncomputable def eZ:D->D->Option Res:=λx y=>match x,y with|.int i,.int j=>ae (.old<|.bl<|decide (j<i))|_,_=>ag
theorem ahh:cz (kB λi j=>.bl<|decide (j<i)) eZ:=Ip λ_ _ _=>rfl
noncomputable def ny:D->D->Option Res:=λx y=>match x,y with|.int i,.int j=>ae (.old<|.bl<|decide (j<=i))|_,_=>ag
theorem ahi:cz (kB λi j=>.bl<|decide (j<=i)) ny:=Ip λ_ _ _=>rfl
def aq:D->D->Option Res
 |.lst l,.int i=>(bF l i).map Res.old
 |.tup l,.int i=>(bF l i).map Res.old
 |_,_=>ag
theorem Gv {l:List D}{vs:List V}{i:Int}{d:D}(h:aG F l vs) (e:bF l i=ae d):∃ v,bF vs i=ae v /\ Den F d v:=by
 unfold bF at e ⊢;rw[<-h.length];cases q:cy l.length i with
 |none=>rw[q]at e;cases e
 |some j=>rw[q]at e;show h.get e
theorem ahj:cz (acL K) aq:=by
 intro F H x y v w Q s sub rx ry e k;unfold aq at e;split at e
 .ext l i;let#[a,vs,rfl,h1,h2]:=rx;cases e1:bF l i with
  |none=>rw[e1]at e;cases e
  |some d=>
    rw[e1]at e;cases e;let#[u,e2,du]:=Gv h2 e1;show .inl #[a,vs,i,u,rfl,ry,.of h1,e2,k _ _ #[rfl,du]]
 .ext l i;let#[a,vs,rfl,h1,h2]:=rx;cases e1:bF l i with
  |none=>rw[e1]at e;cases e
  |some d=>
    rw[e1]at e;cases e;let#[u,e2,du]:=Gv h2 e1;show .inr<|.inl #[a,vs,i,u,rfl,ry,.of<|sub _ _ h1,e2,k _ _ #[rfl,du]]
 .cases e
noncomputable def cM:List D->Option Res
 |[.lst l]=>ae<|.old<|.int l.length
 |[.tup l]=>ae<|.old<|.int l.length
 |_=>ag
theorem ahk:eX (λxs H Q=>∃ p ys,xs=[.ref p] /\ (bN K H p ys \/ cP K H p ys) /\ Q (.int ys.length) H) cM:=by
 intro F H xs vs Q s sub rx e k;unfold cM at e;split at e
 .cases e;let#[v,t,rfl,#[a,us,rfl,h1,h2],rt]:=rx;cases (rt);show#[a,us,rfl,.inl<|.of h1,k _ _ #[rfl,by rw[<-h2.length];rfl]]
 .cases e;let#[v,t,rfl,#[a,us,rfl,h1,h2],rt]:=rx;cases (rt);show#[a,us,rfl,.inr<|.of<|sub _ _ h1,k _ _ #[rfl,by rw[<-h2.length];rfl]]
 .cases e
noncomputable def qT:D->String
 |.non=>"NoneType"|.bl _=>"bool"|.int _=>"int"|.str _=>"str"|.tup _=>"tuple"|.lst _=>"list"|.aB _=>"dict"
noncomputable def uR (S T:String):Bool:=S==T||(S == "bool"&&T == "int")
def pM (K:PySem.W.Frag) (T:String):zt:=∀ d:D,PySem.W.kitOne K (.type<|qT d) (.type T)=ae (uR (qT d) T)
theorem Wi (sub:Sub F H):∀ {d:D}{v:V},nS F H d v->nR K H v (.type<|qT d)
 |.non,_,h=>by cases (h);show .non
 |.bl b,_,h=>by cases (h);show .bl b
 |.int b,_,h=>by cases (h);show .int b
 |.str b,_,h=>by cases (h);show .str b
 |.tup l,_,h=>by let#[a,vs,rfl,h1,h2]:=h;show .tup<|sub _ _ h1
 |.lst l,_,h=>by let#[a,vs,rfl,h1,h2]:=h;show .lst h1
 |.aB l,_,h=>by let#[a,vs,rfl,h1,h2]:=h;show .dK h1
def ly (n:String) (m:DE W):DE W:=λenv bx=>fB zz λw bx1=>match bV bx1 w with|some d=>.val (.d<|.bl<|uR (qT d) n) bx1|none=>.bad
theorem O7 {n:String}{p p1:aM}(hT:pM X.K n) (hg:Gl X "isinstance") (hm:X.mg "isinstance"=ag) (vS:Gl X x) (vT:X.mg x=ag) (hv:bootBuiltins x=ae (.type n)) (ha:PD X T Z a ma)
 (hn:x ≠ "__name__":=by decide) (dE:(x==("__debug__":Str))=af:=by decide)
 (adi:starEach [a,.Name x p1] X.env=(af,eval a X.env)::starEach [.Name x p1] X.env:=by rfl) (ahl:starEach [.Name x p1] X.env=(af,eval (.Name x p1) X.env)::starEach [] X.env:=by rfl)
 (kT:(backTo pos<|starEach [.Name x p1] X.env).any (·.1)=af:=by rfl):PD X T Z (.Call (.Name "isinstance" p) [a,.Name x p1] [] pos) (ly n ma):=by
 refine PE.imp (mN JB hg hm (by decide +kernel) (ji ha (ji (Oq vS vT hv (v:=.ty n) zc hn dE) ls ahl) adi) ze (rfl) adi kT) λσ H Q=>x4 λF r env bx R h=>?_;refine#[F,r,env,bx,R,End.bind h λw bx1 F1 r1 v H1 g1 R1 d1 h1=>?_];cases e:bV bx1 w with
 |none=>simp[e]at h1;show h1.elim
 |some d=>
   simp[e]at h1;show#[v,.ty n,_,.type n,_,rfl,.of<|Wi R1.fh<|R1.qP d1 e,rfl,hT d,h1 F1 r1 _ H1 (.refl F1 r1) R1 zc]
end
section
variable {a b c:au} {mc:DE W} {p:aM}
def adj (K:PySem.W.Frag):R2:=λx y H Q=>∃ a b xs,x=.ref a /\ y=.ref b /\ bN K H a xs /\ bN K H b [] /\ Q (.bl<|!xs.isEmpty) H
theorem Ub (hu:X.A.units<cLine):bc X (compareOp .NotEq) (adj X.K):=by
 intro pins s σ H x y v u Q I rx ry h;let#[a,b,xs,rfl,rfl,h1,h2,q]:=h;cases rx;cases ry;let#[i1,r1,p1,z1]:=I.list h1;let#[i2,r2,p2,z2]:=I.list h2;cases r2;cases r1 with
 |nil=>show SeqAt.RcNeAt.lists (e:=λ_=>ah) p1.isList p2.isList zc hu (λj h1 h2=>absurd h2 zj) X.prog X.w X.xe _ #[.bl af,H,I,rfl,q]
 |cons _ _=>show afV p1.isList p2.isList (rfl) hu X.prog X.w X.xe _ #[.bl ah,H,I,rfl,q]
def Iq (K:PySem.W.Frag):R2:=λx y H Q=>acA x y H Q \/ adj K x y H Q
theorem O8 (hu:X.A.units<cLine):bc X (compareOp .NotEq) (Iq X.K):=V3.or<|Ub hu
noncomputable def YT:D->D->Option Res
 |.int i,.int j=>ae<|.old<|.bl<|!decide (i=j)
 |.str i,.str j=>ae<|.old<|.bl<|!decide (i=j)
 |.lst l,.lst []=>ae<|.old<|.bl<|!l.isEmpty
 |_,_=>ag
theorem ahm:cz (Iq K) YT:=by
 intro F H x y v w Q s sub rx ry e k;unfold YT at e;split at e
 .cases e;cases (rx);cases (ry);show .inl #[rfl,k _ _ #[rfl,by change _=_;simp]]
 .cases e;cases (rx);cases (ry);show .inl #[rfl,k _ _ #[rfl,by change _=_;simp]]
 .cases e;let#[a,vs,rfl,h1,h2]:=rx;let#[b,ws,rfl,h3,h4]:=ry;cases (h4);show .inr #[a,b,vs,rfl,rfl,.of h1,.of h3,k _ _ #[rfl,by change _=_;rw[h2.isEmpty]]]
 .cases e
def adk (K:PySem.W.Frag) (vs:List V) (H:Hp) (Q:VK):zt:=∃ (p:ak) (bs:List Bool),vs=[.ref p] /\ H p=ae (.lst<|bs.map V.bl) /\ Q (.bl<|bs.all id) H
theorem JI (hc:X.calm=ah):dQ X (.builtin "all") (adk X.K):=by
 intro pins s σ H xs us Q I rv h;let#[p,bs,rfl,hp,q]:=h;let#[u,rfl,ru]:=Vals.one rv;cases ru;let#[its,r1,p1,z1]:=I.list<|bN.of hp;have hl:=p1.isList;have qp:p<s.heap.objs.size:=by let#[_,e,_]:=hl;show bf e
 have hlen:bs.length=its.length:=by have:=r1.length;simpa using this
 refine call_all_walk<|yn hl ?_;refine#[s.heap.objs.size,[s.heap.objs.size,p],[s.heap.objs.size],its.toArray.size,_,_,λi=>(bs[i]?).getD ah,rfl,Walks.list (A:=X.A.in1) (I.ok.hd hc) _ p (cw qp) its.toArray,
  #[#[_,bE _ zc,rfl,rfl],hl.push _],λi v s' Q' E' hP hQ=>?_,λh' tk hk=>?_]
 .have Ec:its[i]?=ae v:=by simpa using hP
  have hi:i<bs.length:=by rw[hlen];show(List.getElem?_eq_some_iff.mp Ec).1
  let#[w,e1,e2]:=r1.get (i:=i) (x:=V.bl bs[i]) zj;rw[Ec]at e1;cases e1;cases e2;simp[cY hi]at hQ;show pB hQ
 .have e:((List.range its.toArray.size).all λi=>(bs[i]?).getD ah)=bs.all id:=by
   rw[bX,<-hlen];show LSm.range_all bs
  rw[e];show#[.bl _,H,I.kept<|ab2 hk,rfl,q]
noncomputable def pN:List D->Option (List Bool)
 |[]=>ae []
 |.bl i::l=>(pN l).map λt=>i::t
 |_=>ag
theorem aG.YU {F:Hp}:∀ {l:List D}{vs:List V}{ns:List Bool},aG F l vs->pN l=ae ns->vs=ns.map V.bl
 |[],_,_,h,e=>by cases e;show h
 | .bl i::l,_,ns,h,e=>by
   let#[v,r,q,h1,h2]:=h;unfold pN at e;cases e2:pN l with
   |none=>rw[e2]at e;cases e
   |some t=>
     rw[e2]at e;cases e;rw[q,h2.YU e2,h1];rfl
 |.non::l,_,_,_,e=>by cases e
 |.int _::l,_,_,_,e=>by cases e
 |.str _::l,_,_,_,e=>by cases e
 |.tup _::l,_,_,_,e=>by cases e
 |.lst _::l,_,_,_,e=>by cases e
 |.aB _::l,_,_,_,e=>by cases e
def dj:List D->Option Res
 |[.lst l]=>(pN l).map λbs=>.old<|.bl<|bs.all id
 |_=>ag
theorem ahn:eX (adk K) dj:=by
 intro F H xs vs Q s sub rx e k;unfold dj at e;split at e
 .ext l;let#[v,t,rfl,#[a,us,rfl,h1,h2],rt]:=rx;cases (rt);cases e1:pN l with
  |none=>rw[e1]at e;cases e
  |some bs=>
    rw[e1]at e;cases e;have q1:=h2.YU e1;subst q1;show#[a,bs,rfl,h1,k _ _ #[rfl,rfl]]
 .cases e
theorem aho:eX (λxs H Q=>∃ p ys,xs=[.ref p] /\ ((bN K H p ys /\ ∀ l,H l=ag->Q (.ref l) (upd H l<|.tup ys)) \/ (cP K H p ys /\ Q (.ref p) H)))
 (λxs=>match xs with|[.lst l]=>ae (.tup l)|[.tup l]=>ae (.tup l)|_=>ag):=by
 intro F H xs vs Q s sub rx e k;dsimp only at e;split at e
 .cases e;let#[v,t,rfl,#[a,us,rfl,h1,h2],rt]:=rx;cases (rt);show#[a,us,rfl,.inl #[.of h1,λp hp=>k _ _<|.inr #[p,us,rfl,hp,rfl,h2]]]
 .cases e;let#[v,t,rfl,#[a,us,rfl,h1,h2],rt]:=rx;cases (rt);show#[a,us,rfl,.inr #[.of<|sub _ _ h1,k _ _<|.inl #[rfl,a,us,rfl,h1,h2]]]
 .cases e
noncomputable def tZ:List D->Option Res:=λxs=>match xs with|[.lst l]=>ae (.tup l)|[.tup l]=>ae (.tup l)|_=>ag
noncomputable def xG:List D->Option Res:=λxs=>match xs with|[.lst l]=>ae (.lst l)|[.tup l]=>ae (.lst l)|_=>ag
theorem ahp:eX (λxs H Q=>∃ p ys,xs=[.ref p] /\ (bN K H p ys \/ cP K H p ys) /\ ∀ l,H l=ag->Q (.ref l) (upd H l<|.lst ys)) xG:=by
 intro F H xs vs Q s sub rx e k;unfold xG at e;split at e
 .cases e;let#[v,t,rfl,#[a,us,rfl,h1,h2],rt]:=rx;cases (rt);show#[a,us,rfl,.inl<|.of h1,λp hp=>k _ _ #[p,us,rfl,hp,rfl,h2]]
 .cases e;let#[v,t,rfl,#[a,us,rfl,h1,h2],rt]:=rx;cases (rt);show#[a,us,rfl,.inr<|.of<|sub _ _ h1,λp hp=>k _ _ #[p,us,rfl,hp,rfl,h2]]
 .cases e
noncomputable def maxD:List D->Option Res:=λxs=>match xs with|[.int i,.int j]=>ae (.old<|.int (if j>i then j else i))|_=>ag
theorem ahq:eX (λxs H Q=>∃ i j,xs=[.int i,.int j] /\ Q (.int (if j>i then j else i)) H) maxD:=by
 intro F H xs vs Q s sub rx e k;unfold maxD at e;split at e
 .ext i j;cases e;let#[v,t,rfl,h1,v2,t2,rfl,h2,rt]:=rx;cases (rt);cases (h1);cases (h2);show#[i,j,rfl,k _ _ #[rfl,rfl]]
 .cases e
noncomputable def minD:List D->Option Res:=λxs=>match xs with|[.int i,.int j]=>ae (.old<|.int (if j<i then j else i))|_=>ag
theorem ahr:eX (λxs H Q=>∃ i j,xs=[.int i,.int j] /\ Q (.int (if j<i then j else i)) H) minD:=by
 intro F H xs vs Q s sub rx e k;unfold minD at e;split at e
 .ext i j;cases e;let#[v,t,rfl,h1,v2,t2,rfl,h2,rt]:=rx;cases (rt);cases (h1);cases (h2);show#[i,j,rfl,k _ _ #[rfl,rfl]]
 .cases e
end
end L2.DL
namespace HT
section
variable {s:ax}
theorem mT {t sl:ak}{vl vu:ai}{lo hi:Option Int}(ht:IsTup s.heap t items) (hs:s.heap.IsSliceOf sl vl vu .none) (pl:IsPart vl lo) (pu:IsPart vu hi)
 (hw:a9 items.size 0 lo=0 /\ a9 items.size items.size hi=items.size) (h:Q (.ref t) s):wpAny zi A (getItem (.ref t)<|.ref sl) Q E s:=by
 let#[os,vF,HW,pL]:=id hs;have X7:s.TypeIs (.ref sl) "slice":=#[os,vF,HW];unfold getItem;try with_reducible refine eQ ?_
 first|refine aj (aA ?_)|skip
 refine aj<|aan ht.typeIs (rfl) ?_;refine aj (qz ht.typeIs xf
  (eS xf ht.typeIs abp ?_<|abq _ _))
 change wpAny _ _ (Builtin.Tuple.tupleItemsOf _ >>= _) _ _ s;refine aj<|abr ht ?_;refine aj<|vf X7 ?_;refine aj<|jA hs pl pu ?_;have ahs:((((a9 items.size 0 lo):Int)==0&&(1:Int)==1&&(a9 items.size items.size hi-a9 items.size 0 lo)==items.size)=ah):=by
  rw[hw.1,hw.2];simp
 change wpAny _ _ (if (((a9 items.size 0 lo):Int)==0&&(1)==1&&(a9 items.size items.size hi-a9 items.size 0 lo)==items.size)=ah then _ else _) _ _ s;rw[if_pos ahs];refine aj ?_;refine aj<|vf ht.typeIs<|aA ?_;rw[if_pos ze];show aj<|pW<|aA #[_,rfl,aA h]
theorem AH {β:Type}{f g:α->Option β}:∀ {l:List α},(∀ x∈l,f x=g x)->l.filterMap f=l.filterMap g:=by
 intro l_;induction l_ with
 |nil=>show λ_=>rfl
 |cons x l az=>
   intro h;rw[qB,qB,h x bC,az λy hy=>h y<|bu _ hy]
theorem AI (n:Nat):sliceRange ((n:Int)-1) (-1) (-1)=(List.range n).map λk=>n-1-k:=by
 have e:(if (-1)>0 then (if (n:Int)-1 < -1 then (-1-((n:Int)-1)+-1-1) / -1 else 0) else (if (n:Int)-1>-1 then ((n)-1 - -1 - -1-1) / (- -1) else 0)).toNat=n:=by
  rw[if_neg ze];split
  .have:((n:Int)-1 - -1 - -1-1) / (- -1)=n:=by
    rw[show (- -1)=1 by decide,Int.ediv_one];lia
   rw[this];rfl
  .lia
 change (List.range (if (-1)>0 then (if (n:Int)-1 < -1 then (-1-((n:Int)-1)+-1-1) / -1 else 0) else (if (n:Int)-1>-1 then ((n)-1 - -1 - -1-1) / (- -1) else 0)).toNat).map _=_;rw[e];refine qD λk hk=>?_;lia
theorem BB (its:List ai):slicePick its.toArray ag ag (ae<|-1)=its.reverse.toArray:=by
 unfold slicePick;congr 1;change (sliceRange ((its.length)-1) (-1)<|-1).filterMap _=_;rw[AI,aaU];apply wV;intro i;have h1:(List.range its.length).filterMap ((λx=>its.toArray[x]?)∘λk=>its.length-1-k)=(List.range its.length).map λk=>(its[its.length-1-k]?).getD .none:=by
  rw[<-List.filterMap_eq_map];refine AH λk hk=>?_;have tR:=List.mem_range.mp hk;have qp:its.length-1-k<its.length:=by lia
  simp[qp]
 rw[h1,kr];by_cases hi:i<its.length
 .have qp:its.length-1-i<its.length:=by lia
  rw[List.getElem?_range hi,List.getElem?_reverse hi];simp[qp]
 .rw[rO (by simpa using vi hi),rO (by simpa using vi hi)];rfl
end
end HT
namespace L2.DL
section
variable {a b c:au} {mc:DE W} {p p2:aM} {lo hi:Option au}
def adl (K:PySem.W.Frag):V->Option Int->Option Int->Hp->VK->zt:=λx lo hi H Q=>∃ a xs,x=.ref a /\ cP K H a xs /\
 (HT.a9 xs.length 0 lo=0 /\ HT.a9 xs.length xs.length hi=xs.length) /\ Q (.ref a) H
theorem O9:tQ X (adl X.K):=by
 intro pins s σ H x v vl vu lo hi sl Q I rx hs pl pu h;let#[a,xs,rfl,hx,hw,q]:=h;cases rx;let#[its,r,ht,hz]:=I.tuple hx;have hlen:its.toArray.size=xs.length:=r.length.symm;show#["tuple",_,xf.lookup,ht.typeIs,HT.mT ht hs pl pu (by rw[hlen];show hw) #[.ref a,H,I,rfl,q]]
def adm (K:PySem.W.Frag):V->Option Int->Option Int->Hp->VK->zt:=λx lo hi H Q=>acG K x lo hi H Q \/ adl K x lo hi H Q \/ acM K x lo hi H Q
theorem Uc:tQ X (adm X.K):=TH.or<|O9.or OI
def cutD (xs:List D) (lo hi:Option Int):List D:=(xs.drop<|HT.a9 xs.length 0 lo).take<|HT.a9 xs.length xs.length hi-HT.a9 xs.length 0 lo
theorem Gw {l:List D}{vs:List V}(h:aG F l vs) (lo hi:Option Int):aG F (cutD l lo hi) (xx vs lo hi):=by
 unfold cutD xx;rw[h.length];show(h.drop _).take _
def sF:D->Option Int->Option Int->Option Res
 |.tup l,lo,hi=>ae<|.tup<|cutD l lo hi
 |.lst l,lo,hi=>ae<|.lst<|cutD l lo hi
 |_,_,_=>ag
theorem aht {x:D}{lo hi:Option Int}{Q:VK}{s:Res}(sub:Sub F H) (rx:nS F H x v) (e:sF x lo hi=ae s) (k:∀ u H',vQ F H s u H'->Q u H'):adm K v lo hi H Q:=by
 cases x with
 |tup l=>
   cases e;let#[a,vs,rfl,h1,h2]:=rx;by_cases hw:HT.a9 vs.length 0 lo=0 /\ HT.a9 vs.length vs.length hi=vs.length
   .refine .inr<|.inl #[a,vs,rfl,.of<|sub _ _ h1,hw,k _ _<|.inl #[rfl,?_]];have e:cutD l lo hi=l:=by
     unfold cutD;rw[h2.length,hw.1,hw.2,QP,List.drop_zero,<-h2.length,Hi]
    rw[e];show#[a,vs,rfl,h1,h2]
   .show .inl #[a,vs,rfl,.of<|sub _ _ h1,hw,λp hp=>k _ _<|.inr #[p,_,rfl,hp,rfl,Gw h2 lo hi]]
 |lst l=>
   cases e;let#[a,vs,rfl,h1,h2]:=rx;show .inr<|.inr #[a,vs,rfl,.of h1,λp hp=>k _ _ #[p,_,rfl,hp,rfl,Gw h2 lo hi]]
 |_=>cases e
abbrev ahu:Hp->List ak->Option Int->Option Int->zt:=λ_ _ a b=>a=b
def ahv (T:Fr) (Z:Xs) (m:DE<|Option Int):TO:=λσ H Q=>∃ F r env bx,Rel T F r σ H env bx /\ End T Z ahu F r σ env Q zz
def Ed (X:Cx) (T:Fr) (Z:Xs) (e:Option au) (m:DE<|Option Int):zt:=PO X e<|ahv T Z m
theorem PO.imp {e:Option au}{t t':TO}(h:PO X e t) (f:∀ σ H Q,t' σ H Q->t σ H Q):PO X e t':=λpins s σ H Q I q=>h pins s σ H Q I<|f σ H Q q
noncomputable def nz:DE (Option Int):=λ_ bx=>.val ag bx
def kX (m:DE W):DE (Option Int):=λenv bx=>fB zz λw bx1=>match w with|.d (.int i)=>.val (ae i) bx1|_=>.bad
theorem Ud:Ed X T Z ag nz:=PO.imp OF λσ H Q=>x4 λF r env bx R h=>h F r ag H (.refl F r) R zc
theorem Ml (h:PD X T Z e ma):Ed X T Z (ae e) (kX ma):=by
 refine PO.imp (OG h) λσ H Q=>x4 λF r env bx R h=>?_;refine#[F,r,env,bx,R,End.bind h λw bx1 F1 r1 v H1 g1 R1 d1 h1=>?_];split at h1
 .ext i;show#[i,d1,h1 F1 r1 _ H1 (.refl F1 r1) R1 zc]
 .show h1.elim
def kY (bo:Bool) (m:DE W) (l u:DE<|Option Int):DE W:=λenv bx=>fB zz λx bx1=>fB (l env bx1) λi ay=>fB (u env ay) λj bQ=>cq bo ((bV bQ x).bind λd=>sF d i j) bQ
theorem Mm {l u:DE (Option Int)}(bo:Bool) (ha:PD X T Z e ma) (hl:Ed X T Z lo l) (hu:Ed X T Z hi u):PD X T Z (.Subscript e (.Slice lo hi ag p2) pos) (kY bo ma l u):=by
 refine PE.imp (LV Uc ha hl hu) λσ H Q=>x4 λF r env bx R h=>?_;refine#[F,r,env,bx,R,End.bind h λx bx1 F1 r1 v H1 g1 R1 d1 h1=>?_];refine#[F1,r1,env,bx1,R1,End.bind h1 λi ay F2 r2 i' H2 g2 R2 d2 h2=>?_];refine#[F2,r2,env,ay,R2,End.bind h2 λj bQ F3 r3 j' H3 g3 R3 d3 h3=>?_];subst d2 d3;cases e1:bV bQ x with
 |none=>rw[e1]at h3;show h3.elim
 |some d=>
   rw[e1]at h3;simp[bY]at h3;cases e2:sF d i j with
   |none=>rw[e2]at h3;show h3.elim
   |some s=>
     rw[e2]at h3;show aht R3.fh (R3.qP (g3.den<|g2.den d1) e1) e2 λu H' k=>iF R3 h3 k
theorem Ue {te:TE}{i:Int}{q1 q2:aM}(he:PE X e te):PE X (.Subscript e (.Slice ag ag (ae<|.UnaryOp .USub (.Constant (.int 1) j q1) q2) p2) pos)
 (λσ H Q=>te σ H λx H1=>∃ a xs,x=.ref a /\ bN X.K H1 a xs /\ ∀ p,H1 p=ag->Q (.ref p) (upd H1 p<|.lst xs.reverse)):=by
 intro pins s σ H Q I h;refine Subscript_<|tE (he pins s σ H _ I h) λv s1 x H1 I1 r1 q1=>?_;refine aao ?_;refine aA<|aA ?_;refine tE (SG LM LC pins s1 σ H1 (λy H2=>y=.int (-1) /\ H2=H1) I1 #[1,rfl,rfl,rfl]) λvs s3 y H3 I3 r3 hh=>?_;let#[e1,e2]:=hh;subst e1 e2;let#[t,rfl]:=r3;let#[a,xs,rfl,hx,q]:=q1;cases r1;have I4:Inv X pins σ H3 { s3 with heap:=s3.heap.push { cls:=.type "slice",data:=.fields (List.toArray [.none,.none,.int (-1) t]) } }:=I3.kept λb ob q=>aW _ q;let#[its,r,ht,hz]:=I4.list hx;have hlen:=r.length;have hg:wpAny zf X.A (getItem (.ref a)<|.ref s3.heap.objs.size) (EP X pins σ Q) X.xe { s3 with heap:=s3.heap.push { cls:=.type "slice",data:=.fields (List.toArray [.none,.none,.int (-1) t]) } }:=by
  refine aap ht.isList (Heap.IsSliceOf.new ..) .none .none (.int (-1) t) zj ?_ (by rw[bX]<;>lia);rw[HT.BB];refine#[.ref _,_,I4.laid (λb ob q=>aW _ q) (aE _) ?_,rfl,q _<|I4.aD.fresh<|aE _];show#[by rw[List.length_reverse];show hz,_,0,r.reverse,bE _ zc]
 change wpAny zf X.A (subscriptTail e (.Slice ag ag (ae<|.UnaryOp .USub (.Constant (.int 1) j _) q2) p2) (.ref a)<|.ref s3.heap.objs.size) (EP X pins σ Q) X.xe _;show Xb ht.isList.typeIs slot_list_getitem.lookup hg (by with_unfolding_all rfl)
def Ir (bo:Bool) (m:DE W):DE W:=λenv bx=>fB zz λx bx1=>cq bo ((bV bx1 x).bind λd=>match d with|.lst l=>ae (.lst l.reverse)|_=>ag) bx1
theorem Uf {q1 q2:aM}(bo:Bool) (ha:PD X T Z e ma):PD X T Z (.Subscript e (.Slice ag ag (ae<|.UnaryOp .USub (.Constant (.int 1) j q1) q2) p2) pos) (Ir bo ma):=by
 refine PE.imp (Ue (i:=0) ha) λσ H Q=>x4 λF r env bx R h=>?_;refine#[F,r,env,bx,R,End.bind h λx bx1 F1 r1 v H1 g1 R1 d1 h1=>?_];cases e1:bV bx1 x with
 |none=>rw[e1]at h1;show h1.elim
 |some d=>
   rw[e1]at h1;cases d with
   |lst l=>
     let#[a,vs,rfl,k1,k2]:=R1.qP d1 e1;show#[a,vs,rfl,.of k1,λp hp=>iF R1 h1 #[p,_,rfl,hp,rfl,k2.reverse]]
   |_=>show h1.elim
def xH (m:DE W):DE W:=λenv bx=>fB zz λw bx1=>match w with|.d (.int i)=>.val (.d<|.int<|-i) bx1|_=>.bad
theorem Ug (ha:PD X T Z a ma):PD X T Z (.UnaryOp .USub a pos) (xH ma):=by
 refine PE.imp (SG LM ha) λσ H Q=>x4 λF r env bx R h=>?_;refine#[F,r,env,bx,R,End.bind h λw bx1 F1 r1 v H1 g1 R1 d1 h1=>?_];split at h1
 .ext i;show#[i,d1,h1 F1 r1 _ H1 (.refl F1 r1) R1 zc]
 .show h1.elim
end
end L2.DL
namespace HT
section
variable {s:ax}
theorem Dc {l:ak}{Q:List ai->ax->zt}(hl:IsTup s.heap l vs.toArray) (hz:vs.length<=sizeLine)
 (h:Q vs { s with heap:=(s.heap.push<|seqObj "list" #[] 0).update s.heap.objs.size (Obj.mapSeq (·++vs.toArray)) }):wpAny zi A (collect<|.ref l) Q E s:=by
 let#[ob,ho,xC,k,qU]:=id hl;refine aj<|QE<|uw entry_proto_collect'<|aj<|yq<|aA #[ab3 _ (by decide +kernel),uw entry_list_iadd' ?_];change wpAny _ _ (Builtin.List.listExtendWith _ _ _) _ _ { s with heap:=s.heap.push _ };have qV:(s.heap.push<|seqObj "list" #[] 0).get? l=ae ob:=aW _ ho;refine aj<|vf #[ob,qV,xC] ?_;rw[if_pos (by rw[show (Value.type "tuple"==Value.type "tuple")=ah by decide,Bool.or_true])];refine aj<|xa qV qU<|aj<|xa (bE _ zc) zc ?_;rw[if_neg zj];refine aj<|Hr (bE _ zc) zc (aA ?_) (dM _) (by change (#[]++vs.toArray).size<=sizeLine+1;simp[Array.size_append,bX,p6];lia);refine aj<|wH (abu (bE _ zc) _) (show wpAny _ _ (pure ((#[])++vs.toArray).toList) Q E _ from ?_);rw[show ((#[]:Array ai)++vs.toArray).toList=vs by simp];show aA h
theorem AJ {l:ak}(hl:IsTup s.heap l vs.toArray) (hI:IntsAre vs ns) (dU:vs.length<64)
 (h:∀ (out:Array ai) (nZ:List Int),IntsAre out.toList nZ->nZ.Perm ns->nZ.Pairwise (·<=·)->Q (.ref<|s.heap.objs.size+1) { s with heap:=sortedAll s.heap vs out }):wpAny zi A (call (.builtin "sorted") [.ref l]) Q E s:=by
 refine Xx Xc Xd Xe (Xf _) ?_;refine aj<|aA<|aj<|Dc hl (cx (nL dU) ze)<|aj<|yq ?_;have qM:((s.heap.push<|seqObj "list" #[] 0).update s.heap.objs.size (Obj.mapSeq (·++vs.toArray))).objs.size=s.heap.objs.size+1:=by rw[abm,uD]
 have HE:(((s.heap.push<|seqObj "list" #[] 0).update s.heap.objs.size (Obj.mapSeq (·++vs.toArray))).push<|seqObj "list" vs.toArray 0).get? (s.heap.objs.size+1)=ae (seqObj "list" vs.toArray 0):=by rw[<-qM];show bE _ zc
 rw[qM];show aj<|eQ<|eS Xg #[_,HE,rfl] Xh (abv HE hI dU λout nZ a1 a2 a3=>#[_,rfl,aA #[_,rfl,h out nZ a1 a2 a3]])<|Xi _
end
end HT
namespace L2.DL
noncomputable def sortI (ns:List Int):List Int:=ns.mergeSort λa b=>decide (a<=b)
theorem gD (ns:List Int):(sortI ns).Perm ns:=aaX ns _
theorem iS (ns:List Int):(sortI ns).Pairwise (·<=·):=by
 show(aaY (le:=λa b:Int=>decide _) (λa b c h1 h2=>by simp at *;lia) (λa b=>by simp;lia) ns).imp λq=>by simpa using q
theorem oZ {a b:List Int}(p:a.Perm b) (ha:a.Pairwise (·<=·)) (hb:b.Pairwise (·<=·)):a=b:=
 p.eq_of_pairwise (λx y _ _ h1 h2=>Int.le_antisymm h1 h2) ha hb
section
variable {a b c:au} {mc:DE W} {p p2:aM}
def Iu (K:PySem.W.Frag) (vs:List V) (H:Hp) (Q:VK):zt:=∃ (p:ak) (ns:List Int),vs=[.ref p] /\ (bN K H p (ns.map V.int) \/ cP K H p (ns.map V.int)) /\ ns.length<64 /\ ∀ l,H l=ag->Q (.ref l) (upd H l<|.lst<|(sortI ns).map V.int)
theorem oA:∀ {us:List ai}{ns:List Int},IntsAre us ns->Vals (ns.map V.int) us
 |_,_,.nil=>.nil
 |_,_,.cons n t h=>.cons #[t,rfl]<|oA h
theorem JJ:dQ X (.builtin "sorted") (Iu X.K):=by
 intro pins s σ H xs us Q I rv h;let#[p,ns,rfl,hp,dU,q]:=h;let#[u,rfl,ru]:=Vals.one rv;cases ru;have fin:∀ (its) (out) (nZ),IntsAre out.toList nZ->nZ.Perm ns->nZ.Pairwise _->EP X pins σ Q _ { s with heap:=sortedAll s.heap its out }:=λits out nZ a1 a2 a3=>by
  let#[k,he]:=abw s.heap its out;have e:=oZ (a2.trans (gD ns).symm) a3<|iS ns;subst e;have ll:((sortI ns).map V.int).length<=sizeLine:=by
   rw[a5,(gD ns).length_eq];show cx (nL dU) ze
  refine#[.ref _,_,I.laid (λb ob q=>abx q) (pX _) ?_,rfl,q _<|I.aD.fresh<|pX _];show#[ll,out.toList,k,oA a1,he]
 rcases hp with hp|hp
 .let#[its,r1,p1,z1]:=I.list hp;have hl:ns.length=its.length:=by have:=r1.length;simpa using this
  show sorted_ints p1.isList (AD r1) za λout nZ=>fin its out nZ
 .let#[its,r1,p1,z1]:=I.tuple hp;have hl:ns.length=its.length:=by have:=r1.length;simpa using this
  show HT.AJ p1 (AD r1) za λout nZ=>fin its out nZ
def uS:List D->Option Res
 |[.lst l]=>(intsOf l).bind λns=>if ns.length<64 then ae (.lst<|(sortI ns).map D.int) else ag
 |[.tup l]=>(intsOf l).bind λns=>if ns.length<64 then ae (.lst<|(sortI ns).map D.int) else ag
 |_=>ag
theorem AK:∀ (ns:List Int),aG F (ns.map D.int) (ns.map V.int):=by
 intro l_;induction l_ with
 |nil=>show rfl
 |cons n ns az=>show .cons zc<|az
theorem ahw:eX (Iu K) uS:=by
 intro F H xs vs Q s sub rx e k;unfold uS at e;split at e
 .ext l;let#[v,t,rfl,#[a,us,rfl,h1,h2],rt]:=rx;cases (rt);cases e1:intsOf l with
  |none=>rw[e1]at e;cases e
  |some ns=>
    rw[e1]at e;erw[bY]at e;split at e
    .ext dU;cases e;have q1:=h2.ints e1;subst q1;show#[a,ns,rfl,.inl<|.of h1,dU,λl hl=>k _ _ #[l,_,rfl,hl,rfl,AK _]]
    .cases e
 .ext l;let#[v,t,rfl,#[a,us,rfl,h1,h2],rt]:=rx;cases (rt);cases e1:intsOf l with
  |none=>rw[e1]at e;cases e
  |some ns=>
    rw[e1]at e;erw[bY]at e;split at e
    .ext dU;cases e;have q1:=h2.ints e1;subst q1;show#[a,ns,rfl,.inr<|.of<|sub _ _ h1,dU,λl hl=>k _ _ #[l,_,rfl,hl,rfl,AK _]]
    .cases e
 .cases e
def kG (m:DE W) (k:DE W):DE W:=λenv bx=>fB zz λx bx1=>match x with
 | .b n=>(match bx1[n]? with
   | some (.lst _)=>fB (k env bx1) λy ay=>(match y,ay[n]? with
     |.d d,ae (.lst l)=>if l.length<sizeLine then .val (.d .non) (ay.set n<|.lst<|l++[d]) else .bad
     |_,_=>.bad)
   |_=>.bad)
 |_=>.bad
theorem Wj {Q:VK}(h:tD T Z (kG ma mb) σ H Q):Ia X.K "list" acQ (tD T Z ma) (HS (tD T Z mb) HR) σ H Q:=by
 let#[F,r,env,bx,R,h]:=h;refine#[F,r,env,bx,R,End.bind h λx bx1 F1 r1 v H1 g1 R1 d1 h1=>?_];cases x with
 |b n=>
   simp at h1;let#[a,rfl,ha]:=d1;let#[c,hc,kc]:=R1.eI ha;rw[hc]at h1;cases c with
   |lst l0=>
     let#[_,sH,k0,_]:=kc;refine#[.inl #[rfl,sH,bN.of k0],?_];refine#[F1,r1,env,bx1,R1,End.bind h1 λy ay F2 r2 u H2 g2 R2 d2 h2=>?_];let#[t,et]:=g2.p;have qW:r2[n]?=ae a:=by rw[<-et,dZ (List.getElem?_eq_some_iff.mp ha).1];show ha
     let#[c2,kD,qX]:=R2.eI qW;rw[kD]at h2;cases y with
     |d dd=>
       cases c2 with
       |lst l=>
         simp at h2;split at h2
         .ext hz;let#[hF,vs,k1,k2]:=qX;refine#[a,vs,u,rfl,rfl,k1,by rw[<-k2.length];show hz,?_];show h2 F2 r2 _ _ (.refl F2 r2) (R2.write qW hF #[hF,vs++[u],fA,k2.append<|.cons d2 .nil]) zc
         .show h2.elim
       |_=>show h2.elim
     |_=>show h2.elim
   |_=>show h1.elim
 |_=>show h1.elim
end
end L2.DL
namespace L2
section
variable {κ:Type} [DecidableEq κ]
noncomputable def dW (ao:List<|κ×V) (k:κ):Option V:=(ao.find? λkv=>decide (kv.1=k)).map (·.2)
noncomputable def putK (ao:List<|κ×V) (k:κ) (v:V):List (κ×V):=
 if (ao.any λkv=>decide (kv.1=k))=ah then ao.map (λkv=>if kv.1=k then (kv.1,v) else kv) else ao++[(k,v)]
noncomputable def qr (ao:List<|κ×V) (k:κ):List (κ×V):=ao.filter λkv=>decide (kv.1≠k)
theorem jB {p:κ×V}{r:List (κ×V)}{k:κ}(e:p.1=k):dW (p::r) k=ae p.2:=by simp[dW,e]
theorem jc {p:κ×V}{r:List (κ×V)}{k:κ}(e:¬ p.1=k):dW (p::r) k=dW r k:=by simp[dW,e]
theorem Mn (k:κ):∀ ao:List (κ×V),(ao.any λkv=>decide (kv.1=k))=(dW ao k).isSome:=by
 intro l_;induction l_ with
 |nil=>show rfl
 |cons p r az=>
   rw[rN];by_cases e:p.1=k
   .simp[jB e,decide_eq_true e,aaQ,Option.isSome_some]
   .rw[jc e,decide_eq_false e,QW];show az
theorem lA (ao:List<|κ×V) (k:κ) (v:V):(putK ao k v).length<=ao.length+1:=by
 unfold putK;split
 .rw[a5];lia
 .rw[cX,bD,p6];lia
theorem nN.xI {o:Option V}{u:Option ai}(r:nN o u):o.isSome=u.isSome:=by
 cases o with
 | none=>cases u with
   |none=>rfl
   |some _=>show(r).elim
 | some _=>cases u with
   |none=>show(r).elim
   |some _=>rfl
theorem nN.getD {o:Option V}{u:Option ai}{d:V}{d':ai}(r:nN o u) (rd:RelV d d'):RelV (o.getD d) (u.getD d'):=by
 cases o with
 | none=>cases u with
   |none=>show rd
   |some _=>show(r).elim
 | some _=>cases u with
   |none=>show(r).elim
   |some _=>show r
theorem KV.val {ao:List (κ×V)}{vs:List (κ×ai)}(r:KV ao vs) (k:κ):nN (dW ao k) (valueAt vs k):=by
 induction r with
 |nil=>show True.intro
 |@cons p q ps qs h t ih=>
   let#[h1,h2]:=h;by_cases e:p.1=k
   .have b:valueAt (q::qs) k=ae q.2:=by simp[valueAt,(h1.symm.trans e)]
    rw[jB e,b];show h2
   .have e':¬ q.1=k:=λz=>e<|h1.trans z;have b:valueAt (q::qs) k=valueAt qs k:=by simp[valueAt,e']
    rw[jc e,b];show ih
theorem KV.any {ao:List (κ×V)}{vs:List (κ×ai)}(r:KV ao vs) (k:κ):(ao.any λkv=>decide (kv.1=k))=vs.any λkv=>decide (kv.1=k):=by
 induction r with
 |nil=>rfl
 |cons h t ih=>rw[rN,rN,ih,h.1]
theorem KV.repl {ao:List (κ×V)}{vs:List (κ×ai)}(r:KV ao vs) (k:κ) {y:V}(ry:RelV y u) :
 KV (ao.map λkv=>if kv.1=k then (kv.1,y) else kv) (vs.map λkv=>if kv.1=k then (kv.1,u) else kv):=by
 induction r with
 |nil=>show .nil
 |@cons p q ps qs h t ih=>
   rw[aU,aU];refine .cons ?_ ih;let#[h1,h2]:=h;by_cases e:p.1=k
   .rw[if_pos e,if_pos<|h1.symm.trans e];show#[h1,ry]
   .rw[if_neg e,if_neg λz=>e<|h1.trans z];show#[h1,h2]
theorem KV.put {ao:List (κ×V)}{vs:List (κ×ai)}(r:KV ao vs) (k:κ) {y:V}(ry:RelV y u):KV (putK ao k y) (stored vs k u):=by
 unfold putK stored;rw[r.any k];by_cases e:(vs.any λkv=>decide (kv.1=k))=ah
 .rw[if_pos e,if_pos e];show r.repl k ry
 .rw[if_neg e,if_neg e];show Paired.snoc r #[rfl,ry]
theorem KV.drop {ao:List (κ×V)}{vs:List (κ×ai)}(r:KV ao vs) (k:κ):KV (qr ao k) (without vs k):=by
 unfold qr without;induction r with
 |nil=>show .nil
 |@cons p q ps qs h t ih=>
   let#[h1,h2]:=h;rw[Hj,Hj];by_cases e:p.1=k
   .have a:¬ decide (p.1≠k)=ah:=by simp[e]
    have b:¬ decide (q.1≠k)=ah:=by simp[h1.symm.trans e]
    rw[if_neg a,if_neg b];show ih
   .have e':¬ q.1=k:=λz=>e<|h1.trans z;have a:decide (p.1≠k)=ah:=by simp[e]
    have b:decide (q.1≠k)=ah:=by simp[e']
    rw[if_pos a,if_pos b];show .cons #[h1,h2] ih
theorem KV.length {ao:List (κ×V)}{vs:List (κ×ai)}(r:KV ao vs):ao.length=vs.length:=Paired.length r
theorem Dd (ao:List<|κ×V) (k:κ):(qr ao k).length<=ao.length:=wW _ _
end
theorem mU {k:Key}(r:RelV (kV k) u):(ez P w).is k u=ah:=by
 cases k with
 |inl i=>let#[t,e]:=(r);subst e;show C1 P w i t
 |inr x=>let#[t,e]:=(r);subst e;show C2 P w x t
theorem JK:∀ {ks:List Key}{us:List ai},Vals (ks.map kV) us->ItemsAre (ez P w) ks us:=by
 intro l_;induction l_ with
 |nil=>(intro _ r;cases r;show .nil)
 |cons k ks az=>
   intro _ r;cases r with
   |cons h t=>show .cons (mU h)<|az t
abbrev KT (H:Hp):List (List Key×V)->List (List Key×ak×ai)->zt:=Paired λp q=>p.1=q.1 /\ H q.2.1=ae (.tup<|p.1.map kV) /\ RelV p.2 q.2.2
theorem KT.val (r:KT H ao xs) (k:List Key):nN (dW ao k) ((atKey xs k).map (·.2)):=by
 induction r with
 |nil=>show True.intro
 |@cons p q ps qs h t ih=>
   let#[h1,_,h2]:=h;by_cases e:p.1=k
   .have b:atKey (q::qs) k=ae q.2:=by simp[atKey,(h1.symm.trans e)]
    rw[jB e,b];show h2
   .have e':¬ q.1=k:=λz=>e<|h1.trans z;have b:atKey (q::qs) k=atKey qs k:=by simp[atKey,e']
    rw[jc e,b];show ih
theorem KT.repl (r:KT H ao xs) (k:List Key) {y:V}(ry:RelV y u) :
 KT H (ao.map λkv=>if kv.1=k then (kv.1,y) else kv) (xs.map<|putAt k u):=by
 induction r with
 |nil=>show .nil
 |@cons p q ps qs h t ih=>
   rw[aU,aU];refine .cons ?_ ih;let#[h1,h2,h3]:=h;unfold putAt;by_cases e:p.1=k
   .rw[if_pos e,if_pos<|h1.symm.trans e];show#[h1,h2,ry]
   .rw[if_neg e,if_neg λz=>e<|h1.trans z];show#[h1,h2,h3]
theorem KT.put (r:KT H ao xs) (k:List Key) {b:ak}{y:V}(hb:H b=ae (.tup<|k.map kV)) (ry:RelV y u) :
 KT H (putK ao k y) (storedH xs k b u):=by
 have e:(ao.any λkv=>decide (kv.1=k))=(atKey xs k).isSome:=by
  rw[Mn,(r.val k).xI,pG]
 unfold putK storedH;rw[e];by_cases q:(atKey xs k).isSome=ah
 .rw[if_pos q,if_pos q];show r.repl k ry
 .rw[if_neg q,if_neg q];show Paired.snoc r #[rfl,hb,ry]
theorem KT.keeps (r:KT H ao xs) (ht:∀ b ys,H b=ae (.tup ys)->H' b=ae (.tup ys)):KT H' ao xs:=
 Paired.XI r λ_ _ z=>#[z.1,ht _ _ z.2.1,z.2.2]
theorem SJ {u:HO}(ok:cG P w H h) (e:Rd H a u):cK P w H h a u:=e.ok ok
theorem o7 {ao:List (Key×V)}(ok:cG P w H h) (e:Rd H a<|.dK ao):ao.length<=sizeLine /\ (a==sysModules)=af /\ ∃ vs,KV ao vs /\ h.DictOf (ez P w) a vs:=
 SJ ok e
theorem Gx {ao:List (Key×V)}(ok:cG P w H h) (e:H a=ae (.dK ao)):ao.length<=sizeLine /\ (a==sysModules)=af /\ ∃ vs,KV ao vs /\ h.DictOf (ez P w) a vs:=o7 ok<|.inl e
theorem oB {ks:List Key}(ok:cG P w H h) (e:H a=ae (.tup<|ks.map kV)):(tupleKind<|ez P w).is h ks a:=by
 let#[_,its,r,o,h1,h2,n,h3]:=(ok a _ e);show#[o,its.toArray,n,h1,h2,h3,by simpa using JK r]
theorem AL (ok:cG P w H h) (e:Rd H a<|.dT ao):ao.length<=sizeLine /\ (a==sysModules)=af /\
 ∃ xs,KT H ao xs /\ h.DictOfH (tupleKind<|ez P w) a xs:=by
 let#[z,y,xs,r,o,es,ep,h1,h2,h3,h4,h5]:=(SJ ok e);refine#[z,y,xs,r,o,es,ep,h1,h2,h3,h4,λx hx=>?_,h5];have all:∀ {l}{m},KT H l m->∀ x∈m,(tupleKind<|ez P w).is h x.1 x.2.1:=by
  intro l m q;induction q with
  |nil=>intro x hx;show nomatch hx
  |@cons p q ps qs hq t ih=>
    intro x hx;rcases bq.mp hx with e|hx
    .subst e;show oB ok (by rw[<-hq.1];show hq.2.1)
    .show ih x hx
 show all r x hx
theorem SK (ok:cG P w H h) (e:H a=ae (.dT ao)):ao.length<=sizeLine /\ (a==sysModules)=af /\
 ∃ xs,KT H ao xs /\ h.DictOfH (tupleKind<|ez P w) a xs:=AL ok<|.inl e
def qt (H:Hp) (a:ak) (y:V) (r:Option V):zt:=
 (∃ ao k,Rd H a (.dK ao) /\ y=kV k /\ r=dW ao k) \/ ∃ ao k b,Rd H a (.dT ao) /\ y=.ref b /\ H b=ae (.tup<|k.map kV) /\ r=dW ao k
def adn (H:Hp) (a:ak) (y v:V) (H':Hp):zt:=
 (∃ ao k,H a=ae (.dK ao) /\ y=kV k /\ ao.length<sizeLine /\ H'=upd H a (.dK<|putK ao k v)) \/
 ∃ ao k b,H a=ae (.dT ao) /\ y=.ref b /\ H b=ae (.tup<|k.map kV) /\ ao.length<sizeLine /\ H'=upd H a (.dT<|putK ao k v)
theorem qt.k {H:Hp}{a:ak}{ao:List (Key×V)}{k:Key}(e:H a=ae (.dK ao)):qt H a (kV k) (dW ao k):=.inl #[ao,k,.inl e,rfl,rfl]
section
variable {s:ax} {y:V} {r:ai} {o:Option V} 
theorem Inv.big (I:Inv X pins σ H s):sysModules<s.heap.objs.size:=by
 show E8 ze (I.mod.glob.keeps I.bk).lt
theorem JL (hu:A.units+1<cLine) (I:Inv X pins σ H s) (g:qt H a y<|ae v) (ry:RelV y u) (h:∀ w' s',Inv X pins σ H s'->RelV v w'->Q w' s') :
 wpAny zf A (getItem (.ref a) u) Q E s:=by
 rcases g with⟨ao,k,e,ey,l⟩|⟨ao,k,b,e,ey,eb,l⟩
 .subst ey;let#[z,hd,vs,rel,dd]:=o7 I.aD e;let#[w',hw,eV]:=nN.some_of (by rw[l];show rel.val k);show wpAny_getItem_of (mU ry) dd.mapOf hw<|h w' _ (I.tok _) eV
 .subst ey;cases (ry);let#[z,hd,xs,rel,dd]:=AL I.aD e;let#[w',hw,eV]:=nN.some_of (by rw[l];show rel.val k);let#[p,hp,ahx]:=Option.map_eq_some_iff.mp hw;refine wpAny_getItem_heap (yr hu) (oB I.aD eb) dd hp ?_;rw[ahx];show h w' _ (I.tok _) eV
theorem Yj (hu:A.units+1<cLine) (I:Inv X pins σ H s) (g:qt H a y o) (ry:RelV y u) (h:∀ s',Inv X pins σ H s'->Q (.bool o.isSome) s') :
 wpAny zf A (compareOp .In u<|.ref a) Q E s:=by
 rcases g with⟨ao,k,e,ey,l⟩|⟨ao,k,b,e,ey,eb,l⟩
 .subst ey;let#[z,hd,vs,rel,dd]:=o7 I.aD e;refine wpAny_in_of (mU ry) hd dd.mapOf ?_;rw[<-(rel.val k).xI,<-l];show h _<|I.tok _
 .subst ey;cases (ry);let#[z,hd,xs,rel,dd]:=AL I.aD e;refine wpAny_in_heap (yr hu) (oB I.aD eb) hd dd ?_;have q:=(rel.val k).xI;rw[pG]at q;rw[<-q,<-l];show h _<|I.tok _
theorem Pa (hu:A.units+1<cLine) (I:Inv X pins σ H s) (g:qt H a y o) (ry:RelV y u) (h:∀ s',Inv X pins σ H s'->Q (.bool<|!o.isSome) s') :
 wpAny zf A (compareOp .NotIn u<|.ref a) Q E s:=by
 rcases g with⟨ao,k,e,ey,l⟩|⟨ao,k,b,e,ey,eb,l⟩
 .subst ey;let#[z,hd,vs,rel,dd]:=o7 I.aD e;refine wpAny_notIn_of (mU ry) hd dd.mapOf ?_;rw[<-(rel.val k).xI,<-l];show h _<|I.tok _
 .subst ey;cases (ry);let#[z,hd,xs,rel,dd]:=AL I.aD e;refine wpAny_notIn_heap (yr hu) (oB I.aD eb) hd dd ?_;have q:=(rel.val k).xI;rw[pG]at q;rw[<-q,<-l];show h _<|I.tok _
theorem mV {ob:HO}(I:Inv X pins σ H s) (mu:yF<|H a) (hs:Heap.SameBut a s.heap h') (he:∃ q,h'.get? a=ae q) (new:cK X.prog X.w (upd H a ob) h' a ob) :
 Inv X pins σ (upd H a ob) { s with heap:=h',toks:=t' }:=
 I.write mu (.inl zc) (λb q hb z=>(hs.2 b hb).trans z) he new
theorem Cq {ao:List (Key×V)}{vs:List (Key×ai)}(z:ao.length<=sizeLine) (hd:(a==sysModules)=af) (rel:KV ao vs) (dd:h'.DictOf (ez P w) a vs) :
 cK P w H' h' a (.dK ao):=#[z,hd,vs,rel,dd]
theorem JM {Q:Unit->ax->zt}(hu:A.units+1<cLine) (I:Inv X pins σ H s) (g:adn H a y v H') (ry:RelV y u) (rv:RelV v r) (h:∀ s',Inv X pins σ H' s'->Q () s') :
 wpAny zf A (setItem (.ref a) u r) Q E s:=by
 rcases g with⟨ao,k,e,ey,l,eH⟩|⟨ao,k,b,e,ey,eb,l,eH⟩
 .subst ey eH;let#[z,hd,vs,rel,dd]:=Gx I.aD e;have hz:vs.length<=sizeLine:=by rw[<-rel.length];show z
  have hl:(putK ao k v).length<=sizeLine:=by have:=lA ao k v;lia
  refine wpAny_setItem_pairs (mU ry) dd λh' nC hs=>h _ ?_;have he:∃ q,h'.get? a=ae q:=let ⟨q,_,_,hq,_⟩:=nC;#[q,hq]
  show mV I (by rw[e];show True.intro) hs he<|Cq hl hd (rel.put k rv) nC
 .subst ey eH;cases (ry);let#[z,hd,xs,rel,dd]:=SK I.aD e;have hz:xs.length<=sizeLine:=by rw[<-Paired.length rel];show z
  have hl:(putK ao k v).length<=sizeLine:=by have:=lA ao k v;lia
  refine wpAny_setItem_heap (yr hu) (oB I.aD eb) dd λh' nC hs=>h _ ?_;let#[q,es,ep,hq,h2,h3,h4,_,h5]:=nC;refine mV I (by rw[e];show True.intro) hs #[q,hq] #[hl,hd,_,(rel.put k eb rv).keeps λc ys ec=>?_,q,es,ep,hq,h2,h3,h4,h5];rw[fC<|VW ec e λz=>nomatch z];show ec
end
section
variable {s:ax} {ao:List (Key × V)} {k:Key} 
theorem JN {Q:Unit->ax->zt}(I:Inv X pins σ H s) (e:H a=ae (.dK ao)) (ry:RelV (kV k) u) (l:(dW ao k).isSome=ah) (h:∀ s',Inv X pins σ (upd H a<|.dK<|qr ao k) s'->Q () s') :
 wpAny zf A (delItem (.ref a) u) Q E s:=by
 let#[z,hd,vs,rel,dd]:=Gx I.aD e;refine wpAny_delItem_slot dd.typeIs (rfl) abM
  (E3 abM dd.typeIs PySem.F.entry_dict_delitem (PySem.F.args_dict_delitem_2 _ _) (meets_dict_delitem_pairs _ a<|mU ry) #[vs,dd,by rw[<-rel.length];show z,by rw[<-(rel.val k).xI];show l,λh' nC hs=>h _ ?_])
 have he:∃ q,h'.get? a=ae q:=let ⟨q,_,_,hq,_⟩:=nC;#[q,hq]
 show mV I (by rw[e];show True.intro) hs he<|Cq (cx (Dd ao k) z) hd (rel.drop k) nC
theorem Wk {more:List ai}(I:Inv X pins σ H s) (e:H a=ae (.dK ao)) (ry:RelV (kV k) u) (l:dW ao k=ae v) (hm:more=[] \/ ∃ x,more=[x])
 (h:∀ w' s',Inv X pins σ (upd H a<|.dK<|qr ao k) s'->RelV v w'->Q w' s'):wpAny zf A (call (.builtin "dict.pop") (.ref a::u::more)) Q E s:=by
 let#[z,hd,vs,rel,dd]:=Gx I.aD e;let#[w',hw,eV]:=nN.some_of (by rw[<-l];show rel.val k);have hp:(keyPart u).isSome=ah:=by
  cases k with
  |inl i=>let#[t,q]:=(ry);subst q;rfl
  |inr x=>let#[t,q]:=(ry);subst q;rfl
 have ha:argsOk "dict.pop" #[.ref a::u::more,[]]:=by
  rcases hm with q|⟨x,q⟩
  .subst q;show PySem.F.args_dict_pop_2 _ _
  .subst q;show PySem.F.args_dict_pop_3 _ _ _
 refine E3 abN dd.typeIs PySem.F.entry_dict_pop ha (meets_dict_pop_there _ a (mU ry) more hm hp)
  #[vs,w',dd,by rw[<-rel.length];show z,hw,λh' nC hs=>h w' _ ?_ eV]
 have he:∃ q,h'.get? a=ae q:=let ⟨q,_,_,hq,_⟩:=nC;#[q,hq]
 show mV I (by rw[e];show True.intro) hs he<|Cq (cx (Dd ao k) z) hd (rel.drop k) nC
end
def Iv (i:au):zt:=∀ ov iv,subscripted i af ov iv=operate [ov,iv] (getItem ov iv)
theorem Pb {s:ax}{env:Env}{value slice:au}{T id:String} 
 (hl:typeLookup (.type T) "__getitem__"=pure (ae<|.builtin id)) (hs:Iv slice)
 (h:wpAny zi A (eval value env) (λo s₁=>wpAny zi A (eval slice env) (λi s₂=>s₂.TypeIs o T /\ wpAny zi A (getItem o i) Q E s₂) E s₁) E s) :
 wpAny zi A (eval (.Subscript value slice pos) env) Q E s:=by
 refine Subscript_<|kO h (λo s₁ h₁=>kO h₁ (λi s₂ h₂=>?_) λ_ _ x=>x) λ_ _ x=>x;let#[hT,h₂]:=h₂;refine aj ?_;refine aj<|aav hT hl ?_;have fin:wpAny zi A (subscripted slice af o i) (λr s₃=>wpAny zi A (letTemporaryGo value o r >>= λ_=>pure r) Q E s₃) E s₂:=by
  rw[hs o i];show wpAny_operating<|kO h₂ (λr s₃ h₃=>aj<|wpAny_letTemporaryGo<|aA h₃) λ_ _ x=>x
 first
  |show aA<|aj fin
  |show aj _
  |show aj fin
theorem De {s:ax}{y:V}{o:Option V}(I:Inv X pins σ H s) (g:qt H a y o):s.TypeIs (.ref a) "dict":=by
 rcases g with⟨ao,k,e,_,_⟩|⟨ao,k,b,e,_,_,_⟩
 .let#[_,_,vs,_,dd]:=o7 I.aD e;show dd.typeIs
 .let#[_,_,xs,_,dd]:=AL I.aD e;show dd.typeIs
def ado (td ty:TE):TE:=λσ H Q=>td σ H λx H1=>ty σ H1 λy H2=>∃ a v,x=.ref a /\ qt H2 a y (ae v) /\ Q v H2
def YV (ty td:TE):TE:=λσ H Q=>ty σ H λy H1=>td σ H1 λx H2=>∃ a o,x=.ref a /\ qt H2 a y o /\ Q (.bl o.isSome) H2
def adp (ty td:TE):TE:=λσ H Q=>ty σ H λy H1=>td σ H1 λx H2=>∃ a o,x=.ref a /\ qt H2 a y o /\ Q (.bl<|!o.isSome) H2
def adq (td ty tv:TE):TS:=λD σ H=>tv σ H λv H1=>td σ H1 λx H2=>ty σ H2 λy H3=>∃ a H4,x=.ref a /\ adn H3 a y v H4 /\ D.nx σ H4
def ads (td ty:TE):TS:=λD σ H=>td σ H λx H1=>ty σ H1 λy H2=>∃ a ao k,x=.ref a /\ H2 a=ae (.dK ao) /\ y=kV k /\ (dW ao k).isSome=ah /\ D.nx σ (upd H2 a<|.dK<|qr ao k)
section
variable {o i value:au} {HQ:aM} {td ty tv:TE}
theorem Gy (hu:X.A.units+1<cLine) (ho:PE X o td) (hi:PE X i ty) (hs:Iv i):PE X (.Subscript o i pos) (ado td ty):=by
 intro pins s σ H Q I h;refine Pb PySem.F.slot_dict_getitem.lookup hs<|tE (ho pins s σ H _ I h) λu s1 x H1 I1 rx q1=>tE (hi pins s1 σ H1 _ I1 q1) λiv s2 y H2 I2 ry hh=>?_;let#[a,v,ex,g,q2]:=hh;subst ex;obtain rfl:u=Value.ref a:=rx;show#[De I2 g,JL hu I2 g ry λw' s3 I3 eV=>#[v,H2,I3,eV,q2]]
theorem Fy (hu:X.A.units+1<cLine) (hi:PE X i ty) (ho:PE X o td):PC X .In i o (YV ty td):=by
 intro pins s σ H Q I h;refine tE (hi pins s σ H _ I h) λiv s1 y H1 I1 ry q1=>tE (ho pins s1 σ H1 _ I1 q1) λu s2 x H2 I2 rx hh=>?_;let#[a,ov,ex,g,q2]:=hh;subst ex;obtain rfl:u=Value.ref a:=rx;show Yj hu I2 g ry λs3 I3=>#[.bl ov.isSome,H2,I3,rfl,q2]
theorem BU (hu:X.A.units+1<cLine) (hi:PE X i ty) (ho:PE X o td):PC X .NotIn i o (adp ty td):=by
 intro pins s σ H Q I h;refine tE (hi pins s σ H _ I h) λiv s1 y H1 I1 ry q1=>tE (ho pins s1 σ H1 _ I1 q1) λu s2 x H2 I2 rx hh=>?_;let#[a,ov,ex,g,q2]:=hh;subst ex;obtain rfl:u=Value.ref a:=rx;show Pa hu I2 g ry λs3 I3=>#[.bl _,H2,I3,rfl,q2]
theorem Gz (hu:X.A.units+1<cLine) (ho:PE X o td) (hi:PE X i ty) (hv:PE X value tv) (hs:swapsWith value (ae<|.Subscript o i pos') pos.line X.env=pure af) :
 PS X (.Assign [.Subscript o i pos'] value pos) (adq td ty tv):=by
 intro pins s σ H D I h;refine wpAny_Assign_Subscript (tE (hv pins s σ H _ I h) λr s1 v H1 I1 rv q1=>tE (ho pins s1 σ H1 _ I1 q1) λu s2 x H2 I2 rx q2=>tE (hi pins s2 σ H2 _ I2 q2) λiv s3 y H3 I3 ry hh=>?_) hs;let#[a,H4,ex,g,q3]:=hh;subst ex;obtain rfl:u=Value.ref a:=rx;show JM hu I3 g ry rv λs4 I4=>#[σ,H4,I4,q3]
theorem Pc (ho:PE X o td) (hi:PE X i ty):PS X (.Delete [.Subscript o i HQ] pos) (ads td ty):=by
 intro pins s σ H D I h;refine wpAny_Delete<|wpAny_deleteEach_cons<|wpAny_delete_Subscript<|tE (ho pins s σ H _ I h) λu s1 x H1 I1 rx q1=>tE (hi pins s1 σ H1 _ I1 q1) λiv s2 y H2 I2 ry hh=>?_;let#[a,ao,k,ex,e,ey,l,q2]:=hh;subst ex ey;obtain rfl:u=Value.ref a:=rx;show JN I2 e ry l λs3 I3=>wpAny_deleteEach_nil #[σ,_,I3,q2]
end
theorem Df (h:aK) (hb:sysModules<h.objs.size):cK P w H (h.push { cls:=.type "dict",data:=.dict #[] }) h.objs.size (.dK []):=
 #[dM _,beq_eq_false_iff_ne.mpr<|Ne.symm<|cw hb,[],.nil,Heap.DictOf.new h]
theorem Mo (h:aK) (hb:sysModules<h.objs.size):cK P w H (h.push { cls:=.type "dict",data:=.dict #[] }) h.objs.size (.dT []):=
 #[dM _,beq_eq_false_iff_ne.mpr<|Ne.symm<|cw hb,[],.nil,_,#[],0,bE _ zc,#[rfl,rfl,rfl],rfl,rfl,aaZ]
def ahy:TE:=λ_ H Q=>∀ p,H p=ag->Q (.ref p) (upd H p<|.dK [])
def ahz:TE:=λ_ H Q=>∀ p,H p=ag->Q (.ref p) (upd H p<|.dT [])
theorem Dg:PE X (.Dict [] [] pos) ahy:=λpins s σ H Q I h=>
 aaw #[.ref s.heap.objs.size,_,I.laid (λ_ _ q=>aW _ q) (aE _)<|Df s.heap I.big,rfl,h _<|I.aD.fresh<|aE _]
theorem Dh:PE X (.Dict [] [] pos) ahz:=λpins s σ H Q I h=>
 aaw #[.ref s.heap.objs.size,_,I.laid (λ_ _ q=>aW _ q) (aE _)<|Mo s.heap I.big,rfl,h _<|I.aD.fresh<|aE _]
noncomputable def Iw:List (TE×TE)->St->Hp->(List (V×V)->Hp->zt)->zt
 |[],_,H,Q=>Q [] H
 |(tk,tv)::r,σ,H,Q=>tk σ H λx H1=>tv σ H1 λy H2=>Iw r σ H2 λps H3=>Q ((x,y)::ps) H3
abbrev VV:List (V×V)->List (ai×ai)->zt:=Paired λp q=>RelV p.1 q.1 /\ RelV p.2 q.2
def xK (X:Cx) (pos:aM) (keys:List<|Option au) (values:List au) (ua:List<|TE×TE):zt:=
 ∀ (pins:List<|ak×aZ) (s:ax) (σ:St) (H:Hp) (Q:List (V×V)->Hp->zt),Inv X pins σ H s->Iw ua σ H Q ->
  wpAny zf X.A (evalPairs<|pairTrees keys values X.env pos) (λvs s'=>∃ ps H',Inv X pins σ H' s' /\ VV ps vs /\ Q ps H') X.xe s
theorem Pd:xK X pos [] [] []:=λpins s σ H Q I h=>pairTrees_nil_walk #[[],H,I,.nil,h]
theorem AM {k v:au}{ks:List (Option au)}{vs:List au}{tk tv:TE}{ua:List (TE×TE)}(hk:PE X k tk) (hv:PE X v tv) (hr:xK X pos ks vs ua) :
 xK X pos (ae k::ks) (v::vs) ((tk,tv)::ua):=λpins s σ H Q I h=>
 pairTrees_cons_walk (tE (hk pins s σ H _ I h) λu s1 x H1 I1 rx q1=>tE (hv pins s1 σ H1 _ I1 q1) λw2 s2 y H2 I2 ry q2=>tP (hr pins s2 σ H2 _ I2 q2) λws s3 ps H3 I3 rel q3=>#[(x,y)::ps,H3,I3,.cons #[rx,ry] rel,q3])
def vU (ao more:List<|Key×V):List (Key×V):=more.foldl (λacc kv=>putK acc kv.1 kv.2) ao
theorem KV.merge:∀ {more:List (Key×V)}{rs:List (Key×ai)}{ao:List (Key×V)}{vs:List (Key×ai)},KV more rs->KV ao vs->KV (vU ao more) (merged vs rs):=by
 intro more rs ao vs r;induction r generalizing ao vs with
 |nil=>intro q;show q
 |@cons p q ps qs h t ih=>
   intro r0;have e:KV (putK ao p.1 p.2) (stored vs q.1 q.2):=by
    have:=r0.put p.1 h.2;rw[<-h.1];show this
   show ih e
theorem BC:∀ (more ao:List<|Key×V),(vU ao more).length<=ao.length+more.length:=by
 intro l_;induction l_ with
 |nil=>(intro ao;change ao.length<=ao.length+0;lia)
 |cons p r az=>
   intro ao;have h1:=az<|putK ao p.1 p.2;have h2:=lA ao p.1 p.2;change (vU (putK ao p.1 p.2) r).length<=_;rw[bD];lia
theorem Fz:∀ {ao:List (Key×V)}{ws:List (ai×ai)},VV (ao.map λkv=>(kV kv.1,kv.2)) ws->∃ rs,Carries (ez P w) ws rs /\ KV ao rs:=by
 intro l_;induction l_ with
 |nil=>(intro _ r;cases r;show#[[],True.intro,.nil])
 |cons p ao az=>
   intro _ r;cases r with
   |@cons a b as bs h t=>
     let#[rs,c,q]:=az t;let#[b1,b2]:=b;show#[(p.1,b2)::rs,#[mU h.1,rfl,c],.cons #[rfl,h.2] q]
def ahA (ua:List<|TE×TE):TE:=λσ H Q=>∀ p,H p=ag->Iw ua σ (upd H p<|.dK []) λps H2=>H2 p=ae (.dK []) /\ ∃ ao:List (Key×V),ps=ao.map (λkv=>(kV kv.1,kv.2)) /\ ao.length<=15 /\ Q (.ref p) (upd H2 p<|.dK<|vU [] ao)
theorem Pe {keys:List (Option au)}{values:List au}{ua:List (TE×TE)}(h:xK X pos keys values ua) (yQ:keys.all (·.isSome)=ah) (hl:keys.length=values.length) (h0:keys≠[])
 (YW:keys.length<=15):PE X (.Dict keys values pos) (ahA ua):=by
 intro pins s σ H Q I q;refine wpAny_Dict_walk (knd:=ez X.prog X.w) yQ hl h0 YW<|tP (h pins _ σ _ _ (I.laid (t':=s.toks) (λ_ _ q=>aW _ q) (aE _)<|Df s.heap I.big)<|q _<|I.aD.fresh<|aE s.heap.objs.size) λws s2 ps H2 I2 rel ⟨e,ao,ep,lk,q2⟩=>?_;subst ep;let#[rs,c,rk]:=Fz rel;let#[z,hd,sH,r0,dd]:=Gx I2.aD e;cases r0;refine#[rs,c,dd,λh' nC hs=>#[.ref s.heap.objs.size,_,?_,rfl,q2]];have hz:(vU [] ao).length<=sizeLine:=by
  have h1:=BC ao [];rw[p6]at h1;rw[bp];lia
 have he:∃ q,h'.get? s.heap.objs.size=ae q:=let ⟨q,_,_,hq,_⟩:=nC;#[q,hq]
 show mV I2 (by rw[e];show True.intro) hs he<|Cq hz hd (rk.merge .nil) nC
structure M1 (X:Cx) (o:au) (m:Str) (apos:aM) (e:au) (dR:aM):zt where
 base:attributeBase o m X.env (eval o X.env)=eval o X.env
 few:((backTo dR<|starEach [e] X.env).all (λx=>!x.1)&&(backToKw dR<|keywordEach [] X.env).all (λx=>x.1.isSome)
  && decide (([e]:List au).length+([]:List Keyword).length+(if ([]:List Keyword).isEmpty then 0 else 1)<30))=ah
 line:(apos.endLine==dR.line)=ah
 trees:backTo dR (starEach [e] X.env)=[(af,eval e X.env)]
def YX (H:Hp) (a:ak):zt:=(∃ ao,Rd H a<|.dK ao) \/ ∃ ao,Rd H a (.dT ao)
theorem Mp {s:ax}(I:Inv X pins σ H s) (d:YX H a) :
 s.TypeIs (.ref a) "dict" /\ (∀ b,Value.ref a=.ref b->∃ ob,s.heap.get? b=ae ob /\ ob.dict=ag) /\ (a==sysModules)=af:=by
 rcases d with⟨ao,e⟩|⟨ao,e⟩
 .let#[_,hd,vs,_,dd]:=o7 I.aD e;refine#[dd.typeIs,λb q=>?_,hd];cases q;let#[ob,_,_,h1,h2,_]:=dd;show#[ob,h1,h2.2.1]
 .let#[_,hd,xs,_,dd]:=AL I.aD e;refine#[dd.typeIs,λb q=>?_,hd];cases q;let#[ob,_,_,h1,h2,_]:=dd;show#[ob,h1,h2.2.1]
section
variable {s:ax} {y d:V} {r:ai} {o:Option V} 
theorem Uh (hu:A.units+1<cLine) (I:Inv X pins σ H s) (g:qt H a y o) (ry:RelV y u) (h:∀ w' s',Inv X pins σ H s'->RelV (o.getD .non) w'->Q w' s') :
 wpAny zf A (call (.builtin "dict.get") [.ref a,u]) Q E s:=by
 rcases g with⟨ao,k,e,ey,l⟩|⟨ao,k,b,e,ey,eb,l⟩
 .subst ey;let#[z,hd,vs,rel,dd]:=o7 I.aD e;refine E3 XB dd.typeIs abO (abP _ _) (meets_dict_get _ a (mU ry) hd) #[_,dd.mapOf,h _ _ (I.tok _) ?_];rw[l];show(rel.val k).getD zc
 .subst ey;cases (ry);let#[z,hd,xs,rel,dd]:=AL I.aD e;refine E3 XB dd.typeIs abO (abP _ _) (meetsH_dict_get _ a b hd) #[yr hu,k,xs,oB I.aD eb,dd,h _ _ (I.tok _) ?_];rw[l];show(rel.val k).getD zc
end
def adt (td ty:TE):TE:=λσ H Q=>td σ H λx H1=>∃ a,x=.ref a /\ YX H1 a /\ ty σ H1 λy H2=>∃ o,qt H2 a y o /\ Q (o.getD .non) H2
def adu (td ty:TE):TE:=λσ H Q=>td σ H λx H1=>∃ a,x=.ref a /\ YX H1 a /\ ty σ H1 λy H2=>∃ ao k v,H2 a=ae (.dK ao) /\ y=kV k /\ dW ao k=ae v /\ Q v (upd H2 a<|.dK<|qr ao k)
section
variable {o f:au} {dR:aM} {td ty tx:TE}
theorem Mq (hu:X.A.units+1<cLine) (ho:PE X o td) (he:PE X e ty) (m:M1 X o "get" apos e dR):PE X (.Call (.Attribute o "get" apos) [e] [] dR) (adt td ty):=by
 intro pins s σ H Q I h;refine aax m.base m.few m.line abQ XB PySem.F.type_dict_get<|tE (ho pins s σ H _ I h) λu s1 x H1 I1 rx hh=>?_;let#[a,ex,d,q1]:=hh;subst ex;obtain rfl:u=Value.ref a:=rx;let#[t1,t2,_]:=Mp I1 d;refine#[t1,t2,?_];rw[m.trees];refine Xv zc<|Xw<|xj<|tE (he pins s1 σ H1 _ I1 q1) λiv s2 y H2 I2 ry ⟨ov,g,q2⟩=>xi ?_;show Uh hu I2 g ry λw' s3 I3 eV=>#[_,H2,I3,eV,q2]
theorem Mr (ho:PE X o td) (he:PE X e ty) (m:M1 X o "pop" apos e dR):PE X (.Call (.Attribute o "pop" apos) [e] [] dR) (adu td ty):=by
 intro pins s σ H Q I h;refine aax m.base m.few m.line abQ abN PySem.F.type_dict_pop<|tE (ho pins s σ H _ I h) λu s1 x H1 I1 rx hh=>?_;let#[a,ex,d,q1]:=hh;subst ex;obtain rfl:u=Value.ref a:=rx;let#[t1,t2,_]:=Mp I1 d;refine#[t1,t2,?_];rw[m.trees];refine Xv zc<|Xw<|xj<|tE (he pins s1 σ H1 _ I1 q1) λiv s2 y H2 I2 ry ⟨ao,k,v,ea,ey,l,q2⟩=>xi ?_;subst ey;show Wk I2 ea ry l (.inl zc) λw' s3 I3 eV=>#[v,_,I3,eV,q2]
end
section
variable {s:ax} {ao:List (Key × V)} 
end
section
variable {s:ax} {y:V} 
end
end L2
namespace L2.DL
noncomputable def dn:Key->PyData
 |.inl i=>.int i
 |.inr x=>.str x
mutual
noncomputable def toPy:D->PyData
 |.non=>.none
 |.bl b=>.bool b
 |.int i=>.int i
 |.str x=>.str x
 |.tup l=>.tuple<|bI l
 |.lst l=>.list<|bI l
 |.aB l=>.dict<|bZ l
noncomputable def bI:List D->List PyData
 |[]=>[]
 |d::l=>toPy d::bI l
noncomputable def bZ:List (Key×D)->List (PyData×PyData)
 |[]=>[]
 |(k,d)::l=>(dn k,toPy d)::bZ l
end
section
variable {s:ax}
theorem oC {h:aK}:∀ {es:List DictEntry}{vs:List (Key×ai)}{l:List (Key×D)}{ao:List (Key×V)},PySem.Pairs (ez X.prog X.w) es vs->KV ao vs->aR F l ao->ReadsAll h (es.map (·.key)) ((bZ l).map (·.1)) []
 | _,_,[],_,p,k,d=>by
   cases (d);cases k;cases p;show .nil
 | _,_,(k,x)::l,_,p,q,d=>by
   let#[v,r,e,_,d2]:=d;subst e;cases q with
   |cons q1 q2=>
     cases p with
     |@cons de _ _ _ p1 p2 p3=>
       have e1:=q1.1;simp at e1;rw[<-e1]at p1;have hk:Reads h de.key (dn k) []:=by
        rcases fZ (p1) with⟨i,t,e2,e3⟩|⟨y,t,e2,e3⟩
        .rw[e2,e3];show .int i t
        .rw[e2,e3];show .str y t
       show ReadsAll.cons hk<|oC (h:=h) p3 q2 d2
mutual
theorem gf (I:Inv X pins σ H s) (sub:Sub F H):∀ {d:D}{v:V}{u:ai},Den F d v->RelV v u->∃ as,Reads s.heap u (toPy d) as
 |.non,_,_,h,r=>by cases (show _=V.non from h);cases r;show#[[],.none]
 |.bl b,_,_,h,r=>by cases (show _=V.bl b from h);cases r;show#[[],.bool b]
 |.int i,_,_,h,r=>by cases (show _=V.int i from h);let#[t,rfl]:=r;show#[[],.int i t]
 |.str x,_,_,h,r=>by cases (show _=V.str x from h);let#[t,rfl]:=r;show#[[],.str x t]
 | .tup l,_,_,h,r=>by
   let#[a,vs,rfl,h1,h2]:=h;cases r;let#[_,its,rv,ob,e1,e2,n,e3]:=(show cK X.prog X.w H s.heap a (.tup vs) from I.aD a _ (sub _ _ h1));let#[as,ra]:=jN I sub h2 rv;show#[as,.tuple e1 e2 e3 (by simpa using ra)]
 | .lst l,_,_,h,r=>by
   let#[a,vs,rfl,h1,h2]:=h;cases r;let#[_,its,n,rv,e1]:=(show cK X.prog X.w H s.heap a (.lst vs) from I.aD a _ (sub _ _ h1));let#[as,ra]:=jN I sub h2 rv;show#[a::as,.list e1 zc zc (by simpa using ra)]
 | .aB l,_,_,h,r=>by
   let#[a,ao,rfl,h1,h2]:=h;cases r;let#[_,_,vs,rk,ob,es,ep,e1,e2,e3,_,pr,_]:=(show cK X.prog X.w H s.heap a (.dK ao) from I.aD a _ (sub _ _ h1));let#[as,ra]:=mf I sub h2 rk pr;show#[a::[]++as,.dict e1 e2.1 e3 (oC (X:=X) pr rk h2) ra]
theorem jN (I:Inv X pins σ H s) (sub:Sub F H):∀ {l:List D}{vs:List V}{us:List ai},aG F l vs->Vals vs us->∃ as,ReadsAll s.heap us (bI l) as
 |[],_,_,h,r=>by cases (show _=[] from h);cases r;show#[[],.nil]
 | d::l,_,_,h,r=>by
   let#[v,t,e,h1,h2]:=h;subst e;cases r with
   |cons r1 r2=>
     let#[as,ra]:=gf I sub h1 r1;let#[bs,rb]:=jN I sub h2 r2;show#[as++bs,.cons ra rb]
theorem mf (I:Inv X pins σ H s) (sub:Sub F H):∀ {l:List (Key×D)}{ao:List (Key×V)}{vs:List (Key×ai)}{es:List DictEntry},aR F l ao->KV ao vs->PySem.Pairs (ez X.prog X.w) es vs->∃ as,ReadsAll s.heap (es.map (·.val)) ((bZ l).map (·.2)) as
 |[],_,_,_,h,r,p=>by cases (show _=[] from h);cases r;cases p;show#[[],.nil]
 | (k,d)::l,_,_,_,h,r,p=>by
   let#[v,t,e,h1,h2]:=h;subst e;cases r with
   |cons r1 r2=>
     cases p with
     |cons p1 p2 p3=>
       let#[as,ra]:=gf I sub h1 r1.2;let#[bs,rb]:=mf I sub h2 r2 p3;rw[<-p2]at ra;show#[as++bs,.cons ra rb]
end
abbrev Ee (ts:List Str):zt:=∀ t∈ts,t.length<=sizeLine
theorem Ms {k:Key}{y:ai}(e:vo k y=ah) (hs:(dn k).showable=ah) (hz:(dn k).shown.length<=sizeLine) (n:Nat):ReprK X.prog X.w [] h n y (dn k).shown:=by
 rcases fZ e with⟨i,t,e2,e3⟩|⟨x,t,e2,e3⟩
 .subst e2;subst e3;show .of_is (ReprIs.int t (by simpa[dn,PyData.showable] using hs)) _ _ _
 .subst e2;subst e3;show .of_is (ReprIs.str x t (by simpa only[dn,PyData.shown] using hz)) _ _ _
theorem oD {h:aK}{n:Nat}:∀ {es:List DictEntry}{vs:List (Key×ai)}{l:List (Key×D)}{ao:List (Key×V)},PySem.Pairs (ez X.prog X.w) es vs->KV ao vs->aR F l ao->PyData.showableKv (bZ l)=ah->Ee (PyData.shownKv<|bZ l) ->
 ReprAllK X.prog X.w [] h n (es.map (·.key)) (PyData.shownAll ((bZ l).map (·.1)))
 | _,_,[],_,p,k,d,_,_=>by
   cases (d);cases k;cases p;show .nil
 | _,_,(k,x)::l,_,p,q,d,hs,hz=>by
   let#[v,r,e,_,d2]:=d;subst e;simp[bZ,PyData.showableKv,aI]at hs;have z1:=hz _<|bC ..;rw[pC,pC]at z1;cases q with
   |cons q1 q2=>
     cases p with
     |@cons de _ _ _ p1 p2 p3=>
       have e1:=q1.1;simp at e1;rw[<-e1]at p1;show .cons (Ms (p1) hs.1.1 za n)<|oD p3 q2 d2 hs.2 λt m=>hz t<|bu _ m
mutual
theorem Di (I:Inv X pins σ H s) (sub:Sub F H):∀ {d:D}{v:V}{u:ai},Den F d v->RelV v u->(toPy d).showable=ah->(toPy d).shown.length<=sizeLine->∃ bs,ReadAtMost s.heap (toPy d).depth bs /\ ReprK X.prog X.w bs s.heap (toPy d).depth u (toPy d).shown
 |.non,_,_,h,r,_,_=>by cases (show _=V.non from h);cases r;show#[[],(λ_ z=>nomatch z),.of_is ReprIs.none _ _ _]
 |.bl b,_,_,h,r,_,_=>by cases (show _=V.bl b from h);cases r;show#[[],(λ_ z=>nomatch z),.of_is (ReprIs.bool b) _ _ _]
 |.int i,_,_,h,r,hs,_=>by cases (show _=V.int i from h);let#[t,rfl]:=r;show#[[],(λ_ z=>nomatch z),.of_is (ReprIs.int t<|of_decide_eq_true hs) _ _ _]
 |.str x,_,_,h,r,_,hz=>by cases (show _=V.str x from h);let#[t,rfl]:=r;show#[[],(λ_ z=>nomatch z),.of_is (ReprIs.str x t hz) _ _ _]
 | .tup l,_,_,h,r,hs,hz=>by
   let#[as,rd]:=gf I sub h r;let#[a,vs,rfl,h1,h2]:=h;cases r;let#[_,its,rv,ob,e1,e2,n,e3]:=(show cK X.prog X.w H s.heap a (.tup vs) from I.aD a _ (sub _ _ h1));have nD:(tupleText<|PyData.shownAll<|bI l).length<=sizeLine:=by simpa only[toPy,PyData.shown] using hz
   let#[bs,hb,hk]:=jC I sub h2 rv (by simpa[toPy,PyData.showable] using hs) λt m=>cx (aay m) nD;erw[toPy,PyData.depth,PyData.shown]at rd ⊢;show#[a::bs,ReadAtMost.cons rd (pX _) hb,ReprK.tuple e1 e2 e3 (wJ rd (k8 _) hb) (by simpa using hk)]
 | .lst l,_,_,h,r,hs,hz=>by
   let#[as,rd]:=gf I sub h r;let#[a,vs,rfl,h1,h2]:=h;cases r;let#[_,its,n,rv,e1]:=(show cK X.prog X.w H s.heap a (.lst vs) from I.aD a _ (sub _ _ h1));have nD:(listText<|PyData.shownAll<|bI l).length<=sizeLine:=by simpa only[toPy,PyData.shown] using hz
   let#[bs,hb,hk]:=jC I sub h2 rv (by simpa[toPy,PyData.showable] using hs) λt m=>cx (aaz m) nD;erw[toPy,PyData.depth,PyData.shown]at rd ⊢;refine#[a::bs,ReadAtMost.cons rd (pX _) hb,?_];cases its with
   |nil=>
     have e:bI l=[]:=by
      cases l with
      |nil=>rfl
      |cons x l=>let#[v,t,e,_]:=h2;subst e;cases rv
     rw[e];erw[PyData.shownAll,aaA];show ReprK.listEmpty e1 zc zc
   |cons x its=>show ReprK.list e1 zc zc (wJ rd (k8 _) hb) (by simpa using hk.length_eq) λi y q=>hk.item i y (by simpa using q)
 | .aB l,_,_,h,r,hs,hz=>by
   let#[as,rd]:=gf I sub h r;let#[a,ao,rfl,h1,h2]:=h;cases r;let#[_,hy,vs,rk,ob,es,ep,e1,e2,e3,_,pr,_]:=(show cK X.prog X.w H s.heap a (.dK ao) from I.aD a _ (sub _ _ h1));have nD:(dictText<|PyData.shownKv<|bZ l).length<=sizeLine:=by simpa only[toPy,PyData.shown] using hz
   have fit:Ee (PyData.shownKv<|bZ l):=λt m=>cx (aaB m) nD;have Ef:PyData.showableKv (bZ l)=ah:=by simpa[toPy,PyData.showable] using hs
   let#[bs,hb,hk]:=oF I sub h2 rk pr Ef fit;have hK:=oD (X:=X) (h:=s.heap) (n:=PyData.depthKv<|bZ l) pr rk h2 Ef fit;erw[toPy,PyData.depth,PyData.shown]at rd ⊢;rw[XF];show#[a::bs,ReadAtMost.cons rd (pX _) hb,ReprK.dict e1 e2.1 e3 hy (wJ rd (k8 _) hb)<|ab4 _ _ _ (hK.more_le (λ_ z=>by cases z)<|aE _) hk]
theorem jC (I:Inv X pins σ H s) (sub:Sub F H):∀ {l:List D}{vs:List V}{us:List ai},aG F l vs->Vals vs us->PyData.showableAll (bI l)=ah->Ee (PyData.shownAll<|bI l)->∃ bs,ReadAtMost s.heap (PyData.depthAll<|bI l) bs /\ ReprAllK X.prog X.w bs s.heap (PyData.depthAll<|bI l) us (PyData.shownAll<|bI l)
 |[],_,_,h,r,_,_=>by cases (show _=[] from h);cases r;show#[[],(λ_ z=>nomatch z),.nil]
 | d::l,_,_,h,r,hs,hz=>by
   let#[v,t,e,h1,h2]:=h;subst e;erw[bI,PyData.showableAll,aI]at hs;erw[bI,PyData.shownAll]at hz;cases r with
   |cons r1 r2=>
     let#[as,ha,ka]:=Di I sub h1 r1 hs.1<|hz _<|bC ..;let#[bs,hb,kb]:=jC I sub h2 r2 hs.2 λt m=>hz t<|bu _ m;erw[bI,PyData.depthAll,PyData.shownAll];have la:=Nat.le_max_left (toPy d).depth<|PyData.depthAll<|bI l;have lb:=Nat.le_max_right (toPy d).depth<|PyData.depthAll<|bI l;show#[as++bs,(ha.mono la).append<|hb.mono lb,.cons ((ka.more λ_ m=>pY _ m).level_le la)<|kb.more_le (λ_ m=>eG _ m) lb]
theorem oF (I:Inv X pins σ H s) (sub:Sub F H):∀ {l:List (Key×D)}{ao:List (Key×V)}{vs:List (Key×ai)}{es:List DictEntry},aR F l ao->KV ao vs->PySem.Pairs (ez X.prog X.w) es vs->PyData.showableKv (bZ l)=ah->Ee (PyData.shownKv<|bZ l) ->
 ∃ bs,ReadAtMost s.heap (PyData.depthKv<|bZ l) bs /\ ReprAllK X.prog X.w bs s.heap (PyData.depthKv<|bZ l) (es.map (·.val)) (PyData.shownAll ((bZ l).map (·.2)))
 |[],_,_,_,h,r,p,_,_=>by cases (show _=[] from h);cases r;cases p;show#[[],(λ_ z=>nomatch z),.nil]
 | (k,d)::l,_,_,_,h,r,p,hs,hz=>by
   let#[v,t,e,h1,h2]:=h;subst e;erw[bZ,PyData.showableKv,aI]at hs;erw[bZ,PyData.shownKv]at hz;have z1:=hz _<|bC ..;rw[pC,pC]at z1;cases r with
   |cons r1 r2=>
     cases p with
     |cons p1 p2 p3=>
       let#[as,ha,ka]:=Di I sub h1 r1.2 hs.1.2 za;let#[bs,hb,kb]:=oF I sub h2 r2 p3 hs.2 λt m=>hz t<|bu _ m;rw[<-p2]at ka;erw[bZ,PyData.depthKv,aU,PyData.shownAll];have la:(toPy d).depth<=max (max (dn k).depth (toPy d).depth) (PyData.depthKv<|bZ l):=by lia
       have lb:PyData.depthKv (bZ l)<=max (max (dn k).depth (toPy d).depth) (PyData.depthKv<|bZ l):=by lia
       show#[as++bs,(ha.mono la).append<|hb.mono lb,.cons ((ka.more λ_ m=>pY _ m).level_le la)<|kb.more_le (λ_ m=>eG _ m) lb]
end
end
section
variable {a b c:au} {mc:DE W} {p p2:aM}
def ahB (vs:List V) (H:Hp) (Q:VK):zt:=∃ (F:Hp) (d:D) (v:V),vs=[v] /\ Sub F H /\ Den F d v /\ (toPy d).showable=ah /\ (toPy d).depth<=60 /\ (toPy d).shown.length<=sizeLine /\ Q (.str (toPy d).shown) H
theorem JO {k:Nat}(hr:c8 k X.A):dQ X (.builtin "repr") ahB:=by
 intro pins s σ H xs us Q I rv h;let#[F,d,v,rfl,sub,hd,h1,h2,h3,q]:=h;let#[u,rfl,ru]:=Vals.one rv;have fin:∀ (t:Tok) (tk:Nat),EP X pins σ Q (.str (toPy d).shown t) { s with toks:=tk }:=λt tk=>#[.str _,H,I.tok tk,#[t,rfl],q];have Iy:∀ (t':Str),t'=(toPy d).shown->∀ h' u tk,(∀ b o,s.heap.get? b=ae o->h'.get? b=ae o)->∃ x t,Value.str t' u=.str x t /\ EP X pins σ Q (.str t' u) { s with heap:=h',toks:=tk }:=λt' et h' t tk hk=>by
  subst et;show#[_,_,rfl,.str _,H,I.kept hk,#[t,rfl],q]
 have hu:=hr.units;cases d with
 |non=>cases (show v=.non from hd);cases ru;show P.repr_of_none<|fin _ _
 |bl b=>cases (show v=.bl b from hd);cases ru;show P.repr_of_bool<|fin _ _
 |int i=>cases (show v=.int i from hd);let#[t,rfl]:=ru;show P.repr_of_int (of_decide_eq_true h1)<|fin _ _
 |str x=>cases (show v=.str x from hd);let#[t,rfl]:=ru;show P.repr_of_str<|fin _ _
 |tup l=>
   let#[as,rd]:=gf I sub hd ru;let#[a,vs,rfl,k1,k2]:=hd;cases ru;let#[_,its,rv,ob,e1,e2,n,e3]:=(show cK X.prog X.w H s.heap a (.tup vs) from I.aD a _ (sub _ _ k1));have nD:(tupleText<|PyData.shownAll<|bI l).length<=sizeLine:=by simpa only[toPy,PyData.shown] using h3
   let#[bs,hb,hk]:=jC I sub k2 rv (by simpa[toPy,PyData.showable] using h1) λt m=>cx (aay m) nD;simp[toPy,PyData.depth]at rd h2;show QF za #[ob,e1,e2] PySem.F.slot_tuple_repr<|call_tuple_reprK e1 e2 e3 (wJ rd (k8 _) hb) (by simpa using hk) hr.gd (λb _=>Clear.nil b) (by change X.A.units+1+_<cLine;lia) (λ_ _ z=>z) (Iy _<|rfl) nD
 |lst l=>
   let#[as,rd]:=gf I sub hd ru;let#[a,vs,rfl,k1,k2]:=hd;cases ru;let#[_,its,n,rv,e1]:=(show cK X.prog X.w H s.heap a (.lst vs) from I.aD a _ (sub _ _ k1));have nD:(listText<|PyData.shownAll<|bI l).length<=sizeLine:=by simpa only[toPy,PyData.shown] using h3
   let#[bs,hb,hk]:=jC I sub k2 rv (by simpa[toPy,PyData.showable] using h1) λt m=>cx (aaz m) nD;simp[toPy,PyData.depth]at rd h2;refine QF za #[_,e1,rfl] PySem.F.slot_list_repr.toG ?_;cases its with
   |nil=>
     have e:bI l=[]:=by
      cases l with
      |nil=>rfl
      |cons x l=>let#[v,t,e,_]:=k2;subst e;cases rv
     show call_list_repr_empty #[_,e1,rfl] e1 zc<|Iy "[]" (by simp[toPy,PyData.shown,e,PyData.shownAll,aaA]) s.heap _ _ λ_ _ z=>z
   |cons x its=>show call_list_reprK e1 zc zc (wJ rd (k8 _) hb) (by simpa using hk.length_eq) (λi y q=>hk.item i y (by simpa using q)) hr.gd (λb _=>Clear.nil b) (by change X.A.units+1+_<cLine;lia) (λ_ _ z=>z) (Iy _<|rfl) nD
 |aB l=>
   let#[as,rd]:=gf I sub hd ru;let#[a,ao,rfl,k1,k2]:=hd;cases ru;let#[_,hy,vs,rk,ob,es,ep,e1,e2,e3,_,pr,_]:=(show cK X.prog X.w H s.heap a (.dK ao) from I.aD a _ (sub _ _ k1));have nD:(dictText<|PyData.shownKv<|bZ l).length<=sizeLine:=by simpa only[toPy,PyData.shown] using h3
   have fit:Ee (PyData.shownKv<|bZ l):=λt m=>cx (aaB m) nD;have Ef:PyData.showableKv (bZ l)=ah:=by simpa[toPy,PyData.showable] using h1
   let#[bs,hb,hk]:=oF I sub k2 rk pr Ef fit;erw[toPy,PyData.depth]at rd h2;rw[XF]at nD;show QF za #[ob,e1,e2.1] PySem.F.slot_dict_repr<|call_dict_reprK e1 e2.1 e3 hy (wJ rd (k8 _) hb) (ab4 _ _ _ ((oD (X:=X) (h:=s.heap) (n:=PyData.depthKv<|bZ l) pr rk k2 Ef fit).more_le (λ_ z=>by cases z)<|aE _) hk) hr.gd (λb _=>Clear.nil b) (by change X.A.units+1+_<cLine;lia) (λ_ _ z=>z) (Iy _ (by erw[toPy,PyData.shown,XF])) nD
def vV (d:D):Bool:=(toPy d).showable&&decide ((toPy d).depth<=60)&&decide ((toPy d).shown.length<=sizeLine)
theorem Pf (s:Sub F H):∀ {d:D}{v:V},nS F H d v->∃ F',Sub F' H /\ Den F' d v
 | .lst l,_,h=>by
   let#[a,vs,rfl,h1,h2]:=h;refine#[upd F a _,λb u e=>?_,a,vs,rfl,fA,aG.mono (λb u e=>?_) l h2]
   .by_cases z:b=a
    .subst z;rw[fA]at e;rw[h1,e]
    .rw[fC z]at e;show s b u e
   .by_cases z:b=a
    .subst z;rw[s b u e]at h1;rw[fA,h1]
    .rw[fC z];show e
 | .aB l,_,h=>by
   let#[a,vs,rfl,h1,h2]:=h;refine#[upd F a _,λb u e=>?_,a,vs,rfl,fA,aR.mono (λb u e=>?_) l h2]
   .by_cases z:b=a
    .subst z;rw[fA]at e;rw[h1,e]
    .rw[fC z]at e;show s b u e
   .by_cases z:b=a
    .subst z;rw[s b u e]at h1;rw[fA,h1]
    .rw[fC z];show e
 |.tup _,_,h=>#[F,s,h]
 |.non,_,h=>#[F,s,h]
 |.bl _,_,h=>#[F,s,h]
 |.int _,_,h=>#[F,s,h]
 |.str _,_,h=>#[F,s,h]
def qY (m:DE W):DE W:=λenv bx=>fB zz λw bx1=>match bV bx1 w with
 |some d=>if vV d=ah then .val (.d<|.str (toPy d).shown) bx1 else .bad
 |none=>.bad
theorem Ph {k:Nat}(hr:c8 k X.A) (hg:Gl X "repr") (hm:X.mg "repr"=ag) (ha:PD X T Z a ma) (he:starEach [a] X.env=(af,eval a X.env)::starEach [] X.env:=by rfl) :
 PD X T Z (.Call (.Name "repr" p) [a] [] pos) (qY ma):=by
 refine PE.imp (mN (JO hr) hg hm (by decide +kernel) (ji ha ls he) ze (rfl) he (by rfl)) λσ H Q=>x4 λF r env bx R h=>?_;refine#[F,r,env,bx,R,End.bind h λw bx1 F1 r1 v H1 g1 R1 d1 h1=>?_];split at h1
 .ext d er;let#[F2,sub,d2]:=Pf R1.fh<|R1.qP d1 er;split at h1
  .ext hc;unfold vV at hc;rw[aI,aI]at hc;show#[F2,d,v,rfl,sub,d2,hc.1.1,of_decide_eq_true hc.1.2,of_decide_eq_true hc.2,h1 F1 r1 _ H1 (.refl F1 r1) R1 zc]
  .show h1.elim
 .show h1.elim
end
theorem ja {s:ax}(I:Inv X pins σ H s) (sub:Sub F H) {d:D}(h:nS F H d v) (r:RelV v u):∃ as,Reads s.heap u (toPy d) as:=by
 cases d with
 |lst l=>
   let#[a,vs,rfl,h1,h2]:=h;cases r;let#[_,its,n,rv,e1]:=(I.aD a _ h1);let#[as,ra]:=jN I sub h2 rv;show#[a::as,.list e1 zc zc (by simpa using ra)]
 |aB l=>
   let#[a,ao,rfl,h1,h2]:=h;cases r;let#[_,_,vs,rk,ob,es,ep,e1,e2,e3,_,pr,_]:=(I.aD a _ h1);let#[as,ra]:=mf I sub h2 rk pr;show#[a::[]++as,.dict e1 e2.1 e3 (oC pr rk h2) ra]
 |tup l=>show gf I sub h r
 |non=>show gf I sub h r
 |bl b=>show gf I sub h r
 |int i=>show gf I sub h r
 |str x=>show gf I sub h r
def e9 (d:D):Bool:=(toPy d).canLay0&&decide ((toPy d).depth<=60)
def eqv (x y:D):Bool:=PyData.eqv (toPy x)<|toPy y
theorem mj {d:D}(h:e9 d=ah):(toPy d).canLay0=ah /\ (toPy d).depth<=60:=by
 unfold e9 at h
 rwa [aI,decide_eq_true_eq]at h
def Iz (neg:Bool):R2:=λx y H Q=>∃ F dx dy,Sub F H /\ nS F H dx x /\ nS F H dy y /\ e9 dx=ah /\ e9 dy=ah /\ Q (.bl (if neg then !eqv dx dy else eqv dx dy)) H
theorem Ui (hu:X.A.units+100<cLine):bc X (compareOp .NotEq) (Iz ah):=by
 intro pins s σ H x y v u Q I rx ry h;let#[F,dx,dy,sub,hx,hy,ox,oy,q]:=h;let#[as,ra]:=ja I sub hx rx;let#[bs,rb]:=ja I sub hy ry;let#[x1,x2]:=mj ox;let#[y1,y2]:=mj oy;show SeqAt.compareNe_reads ra rb x1 y1 za #[.bl _,H,I,rfl,q]
def xM (neg:Bool) (x y:D):Option Res:=if e9 x&&e9 y then ae (.old<|.bl (if neg then !eqv x y else eqv x y)) else ag
theorem ahC (neg:Bool):cz (Iz neg) (xM neg):=by
 intro F H x y v w Q s sub rx ry e k;unfold xM at e;split at e
 .ext c;rw[aI]at c;cases e;show#[F,x,y,sub,rx,ry,c.1,c.2,k _ _ #[rfl,rfl]]
 .cases e
noncomputable def aY:D->D->Option Res
 |.int i,.int j=>ae<|.old<|.bl<|decide (i=j)
 |.str i,.str j=>ae<|.old<|.bl<|decide (i=j)
 |_,_=>ag
def eK:D->D->Option Res
 |.int i,.int j=>ae<|.old<|.bl<|!decide (i=j)
 |.str i,.str j=>ae<|.old<|.bl<|!decide (i=j)
 |.lst l,.lst []=>ae<|.old<|.bl<|!l.isEmpty
 |x,y=>xM ah x y
theorem Uj {x y:D}{s:Res}(h:eK x y=ae s):YT x y=ae s \/ xM ah x y=ae s:=by
 unfold eK at h;split at h
 .show .inl h
 .show .inl h
 .show .inl h
 .show .inr h
theorem Uk (hu:X.A.units+100<cLine):bc X (compareOp .Eq) XZ:=V2
theorem Ul (hu:X.A.units+100<cLine):bc X (compareOp .NotEq) (λx y H Q=>Iq X.K x y H Q \/ Iz ah x y H Q):=(O8 za).or<|Ui hu
theorem ahD:cz XZ aY:=by
 intro F H x y v w Q s sub rx ry e k;unfold aY at e;split at e
 .cases e;cases (rx);cases (ry);show#[rfl,k _ _ #[rfl,by change _=_;simp]]
 .cases e;cases (rx);cases (ry);show#[rfl,k _ _ #[rfl,by change _=_;simp]]
 .cases e
theorem ahE:cz (λx y H Q=>Iq K x y H Q \/ Iz ah x y H Q) eK:=λF H x y v w Q s sub rx ry e k=>(Uj e).imp (λe=>ahm F H x y v w Q s sub rx ry e k) λe=>ahC ah F H x y v w Q s sub rx ry e k
end L2.DL
namespace HT
section
open PySem.SeqAt
open PySem.AutoSeq1 (wpAny_loadPart')
open PySem.MeetsSeq PySem.MeetsSeq2 PySem.MeetsSeq3
end
section
variable {s:ax}
open PySem.AutoSeq1 (wpAny_loadPart')
end
end HT
namespace L2.DL
section
variable {a b c:au} {mc:DE W} {p p2:aM}
def adv:R2:=λx y H Q=>rI vC (λi j=>.int<|i*j) x y H Q \/ acU x y H Q
theorem Pi:bc X (binaryOp .Mult) adv:=TB.or TU
noncomputable def cC:D->D->Option Res
 |.int i,.int j=>if vC i j then ae (.old<|.int<|i*j) else ag
 |.lst l,.int k=>if -(2 ^ 63)<=k /\ k<2 ^ 63 /\ l.length*k.toNat<=sizeLine then ae (.lst (List.replicate k.toNat l).flatten) else ag
 |_,_=>ag
theorem aG.rep {F:Hp}{l:List D}{vs:List V}(h:aG F l vs):∀ k:Nat,aG F (List.replicate k l).flatten (List.replicate k vs).flatten
 |0=>rfl
 |k+1=>h.append<|h.rep k
theorem ahF:cz adv cC:=by
 intro F H x y v w Q s sub rx ry e k;unfold cC at e;split at e
 .ext i j;split at e
  .ext hc;cases e;show .inl #[i,j,rx,ry,hc,k _ _ #[rfl,rfl]]
  .cases e
 .ext l j;split at e
  .ext hc;cases e;let#[a,vs,rfl,h1,h2]:=rx;show .inr #[a,j,vs,rfl,ry,h1,hc.1,hc.2.1,by rw[<-h2.length];show hc.2.2,λp hp=>k _ _ #[p,_,rfl,hp,rfl,h2.rep _]]
  .cases e
 .cases e
theorem Um (hu:X.A.units<cLine):bc X (compareOp .LtE) (kB λi j=>.bl<|decide (i<=j)):=V5
noncomputable def dq:D->D->Option Res:=λx y=>match x,y with|.int i,.int j=>ae (.old<|.bl<|decide (i<=j))|_,_=>ag
theorem ahG:cz (kB λi j=>.bl<|decide (i<=j)) dq:=Ip λ_ _ _=>rfl
theorem JP {o:au}(ho:PD X T Z o ma) (ha:PD X T Z e mb)
 (vH:attributeBase o "append" X.env (eval o X.env)=eval o X.env:=by rfl)
 (vI:((backTo pos<|starEach [e] X.env).all (λx=>!x.1)&&(backToKw pos<|keywordEach [] X.env).all (λx=>x.1.isSome)
  && decide ([e].length+([]:List Keyword).length+(if ([]:List Keyword).isEmpty then 0 else 1)<30))=ah:=by rfl)
 (vJ:(apos.endLine==pos.line)=ah:=by rfl) (hs:starEach [e] X.env=(af,eval e X.env)::starEach [] X.env:=by rfl) :
 PD X T Z (.Call (.Attribute o "append" apos) [e] [] pos) (kG ma mb):=
 PE.imp (LY XC PySem.F.slot_list_append PySem.F.type_list_append om ho (ji ha ls hs) vH vI vJ hs (by rfl)) λσ H Q h=>Wj h
def Eg (mo mi:DE W):DG:=λw env bx=>match mo env bx with
 | .val (.b n) bx1=>(match mi env bx1 with
   | .val (.d<|.int k) ay=>(match w,ay[n]? with
     |.d d,ae (.lst l)=>(cy l.length k).map λj=>(env,ay.set n<|.lst<|l.set j d)
     |_,_=>ag)
   |_=>ag)
 |_=>ag
theorem Pj {o i:au}{mo mi:DE W}(ho:PD X T Z o mo) (hi:PD X T Z i mi)
 (ha:∀ v,assign (.Subscript o i pos) X.env v=(do
  let ov <-holding [v] (eval o X.env)
  let iv <-holding [v,ov] (eval i X.env)
  standAt pos
  holding [v,ov,iv] (setItem ov iv v)
  release [v,ov,iv] []):=by intro _;rfl):kF X T (.Subscript o i pos) (Eg mo mi):=by
 refine PG.imp (Tr ho hi LW ha) λv σ H Q=>x5 λF r env bx w R dw h=>?_;unfold Eg at h;refine#[F,r,env,bx,R,?_];cases eo:mo env bx with
 |bad=>simp[eo]at h;show h.elim
 |exc c bx1=>simp[eo]at h;show h.elim
 |val ow bx1=>
   simp[eo]at h;intro F1 r1 ov H1 g1 R1 d1;cases ow with
   |b n=>
     refine#[F1,r1,env,bx1,R1,?_];cases ei:mi env bx1 with
     |bad=>simp[ei]at h;show h.elim
     |exc c ay=>simp[ei]at h;show h.elim
     |val iw ay=>
       simp[ei]at h;intro F2 r2 iv H2 g2 R2 d2;cases iw with
       |d id=>
         cases id with
         |int k=>
           simp at h;let#[a,rfl,ha]:=g2.den d1;let#[c2,kD,qX]:=R2.eI ha;rw[kD]at h;cases w with
           |d dd=>
             cases c2 with
             |lst l=>
               simp at h;cases ej:cy l.length k with
               |none=>rw[ej]at h;show h.elim
               |some j=>
                 rw[ej]at h;let#[hF,vs,k1,k2]:=qX;refine#[a,vs,k,j,rfl,d2,k1,by rw[<-k2.length];show ej,?_];show h F2 r2 σ _ (g1.trans g2)<|R2.write ha hF #[hF,_,fA,aG.set (Den.mono (g1.trans g2).s dd dw) j k2]
             |_=>show h.elim
           |_=>show h.elim
         |_=>show h.elim
       |_=>show h.elim
   |_=>show h.elim
noncomputable def sI (i:Nat):DE W:=λenv bx=>match env[i]? with
 | some (ae<|.b n)=>(match bx[n]? with
   |some (.lst l)=>.val (.d<|.lst l)<|bx.set n .dead
   |some (.aB l)=>.val (.d<|.aB l)<|bx.set n .dead
   |_=>.bad)
 |_=>.bad
theorem Uo (i:Nat) (hN:X.N[i]?=ae x:=by rfl) (hv:vq X.env.scope x:=by first|show Or.inl zc|show Or.inr (Or.inl zc)|show Or.inr (Or.inr zc)) (hd:(x==("__debug__":Str))=af:=by decide)
 (pK:(x==("__classdict__":Str))=af:=by decide):PD X T Z (.Name x pos) (sI i):=by
 refine PE.imp (LB hN hv hd pK) λσ H Q=>x4 λF r env bx R h=>?_;unfold sI at h;split at h
 .ext n e;let#[v,e1,a,rfl,ha]:=R.slot i _ e;let#[c,hc,kc]:=R.eI ha;rw[hc]at h;cases c with
  |lst l=>
    let#[hF,vs,k1,k2]:=kc;let#[R',g]:=R.freeze ha hF k1;show#[_,e1,h _ r _ H g R' #[a,vs,rfl,fA,aG.mono g.s l k2]]
  |aB l=>
    let#[hF,vs,k1,k2]:=kc;let#[R',g]:=R.freeze ha hF k1;show#[_,e1,h _ r _ H g R' #[a,vs,rfl,fA,aR.mono g.s l k2]]
  |_=>show h.elim
 .show h.elim
def ub (m:DE W):DE W:=λenv bx=>fB zz λw bx1=>match w with|.s l=>.val (.d<|.int l.length) bx1|_=>.bad
theorem Pk (hg:Gl X "len") (hm:X.mg "len"=ag) (ha:PD X T Z a ma) (he:starEach [a] X.env=(af,eval a X.env)::starEach [] X.env:=by rfl):PD X T Z (.Call (.Name "len" p) [a] [] pos) (ub ma):=by
 refine PE.imp (mN mQ hg hm PySem.boot_len (ji ha ls he) ze (rfl) he (by rfl)) λσ H Q=>x4 λF r env bx R h=>?_;refine#[F,r,env,bx,R,End.bind h λw bx1 F1 r1 v H1 g1 R1 d1 h1=>?_];cases w with
 |s l=>
   let#[q,o,rfl,k]:=d1;refine#[q,_,rfl,.inl<|.inl<|.inr #[o,R1.fh _ _ k],?_];rw[a5];show h1 F1 r1 _ H1 (.refl F1 r1) R1 zc
 |_=>show h1.elim
def Eh (m k:DE W):DE W:=λenv bx=>fB zz λw bx1=>fB (k env bx1) λu ay=>match w,u with
 |.s l,.d (.int i)=>(match bF l i with|some n=>.val (.d<|.int n) ay|none=>.bad)
 |_,_=>.bad
theorem Uq (ha:PD X T Z a ma) (hb:PD X T Z b mb) (hs:HX b):PD X T Z (.Subscript a b pos) (Eh ma mb):=by
 refine PE.imp (SH Go ha hb hs) λσ H Q=>x4 λF r env bx R h=>?_;refine#[F,r,env,bx,R,End.bind h λw bx1 F1 r1 v H1 g1 R1 d1 h1=>?_];refine#[F1,r1,env,bx1,R1,End.bind h1 λu ay F2 r2 y H2 g2 R2 d2 h2=>?_];cases w with
 |s l=>
   cases u with
   |d d=>
     cases d with
     |int i=>
       let#[q,o,rfl,k]:=d1;simp at h2;cases e:bF l i with
       |none=>rw[e]at h2;show h2.elim
       |some n=>
         rw[e]at h2;refine#[q,l.map V.int,i,.int n,rfl,d2,.inl<|.inr #[o,R2.fh _ _<|g2.s _ _ k],?_,h2 F2 r2 _ H2 (.refl F2 r2) R2 zc];unfold bF at e ⊢;rw[a5];cases ej:cy l.length i with
         |none=>rw[ej]at e;cases e
         |some j=>rw[ej]at e;erw[bY]at e ⊢;rw[kr,e];rfl
     |_=>show h2.elim
   |_=>show h2.elim
 |_=>show h2.elim
def n6 (bo:Bool) (l:List<|Key×D):DE W:=λ_ bx=>cq bo (ae<|.aB l) bx
theorem Pl (bo:Bool):PD X T Z (.Dict [] [] pos) (n6 bo []):=by
 refine PE.imp (Dg) λσ H Q=>x4 λF r env bx R h=>?_;show λp hp=>iF R h #[p,[],rfl,hp,rfl,rfl]
end
end L2.DL
namespace HT
section
variable {s:ax}
theorem FA {t:ak}{i:Nat}{x:ai}(hit:s.heap.IsTupleIter it t i) (ht:s.heap.IsTuple t items) (hx:items[i]?=ae x)
 (hQ:∀ h',h'.IsTupleIter it t (i+1)->Heap.SameBut it s.heap h'->Q x { s with heap:=h' }):wpAny zi A (Builtin.SmallTypes.nextOf<|.ref it) Q E s:=by
 let#[ob,qV,xC,qU]:=id hit;let#[ot,Ei,_,nt,YY]:=ht;refine aj<|qz hit.typeIs HC<|eS HC hit.typeIs abR (show wpAny _ _ (field _ 0 >>= _) _ _ s from aj (kP qV qU zc ?_))<|abS _
 change wpAny _ _ _ _ _ s;refine aj<|kP qV qU zc<|aj<|ux Ei YY ?_
 simp[nM,hx];refine aj<|rM qV qU zj<|aA #[x,rfl,aA<|hQ _ #[_,rT _ qV<|xh<|p8 qU _,(yD ..).trans xC,?_]<|Heap.SameBut.update ..];rw[p8 qU];simp[rawInt]
theorem JQ {t:ak}{i:Nat}(hh:A.handled=ag) (hit:s.heap.IsTupleIter it t i) (ht:s.heap.IsTuple t items) (hx:items[i]?=ag)
 (hE:∀ h' e,Heap.ExtBut it s.heap h'->(∃ o,h'.get? e=ae o /\ o.cls=.type "StopIteration")->E (.ref e) { s with heap:=h' }):wpAny zi A (Builtin.SmallTypes.nextOf<|.ref it) Q E s:=by
 let#[ob,qV,xC,qU]:=id hit;let#[ot,Ei,_,nt,YY]:=ht;refine aj<|qz hit.typeIs HC<|eS HC hit.typeIs abR (show wpAny _ _ (field _ 0 >>= _) _ _ s from aj (kP qV qU zc ?_))<|abS _;refine aj<|kP qV qU zc<|aj<|ux Ei YY ?_;simp[nM,hx];refine aj<|pW<|aj<|rM qV qU zj<|aj ?_;refine aj<|eR (aj<|yt (by first|rfl|(rfl))<|eR ?_ (by size_fits)) (by size_fits);refine aj<|E4 ?_;first|rw[hh]|rw[hh]
 show aj<|aA<|E5<|hE _ _ (((Heap.SameBut.update ..).extBut.push _).push _) #[_,bE _ zc,rfl]
theorem JR (hh:A.handled=ag) (it l:ak) (kH:l≠it) (items:Array ai) :
 Draws prog w A it [it,l] items.size (λi v=>items[i]?=ae v) (λi h=>h.IsTupleIter it l i /\ h.IsTuple l items) where
 live:=λ_ _ st=>let ⟨o,ho,_⟩:=st.1;#[o,ho]
 frame:=λ_ _ _ st hk=>#[st.1.at λo e=>hk it zj o e,st.2.at λo e=>hk l zj o e]
 item:=λi s Q E hi st hQ=>FA st.1 st.2 (x:=items[i]) zj λh' a b=>hQ _ h' s.toks zj #[a,st.2.at λo e=>b.extBut _ _ kH e] b
 done:=λs Q E st hE=>JQ hh st.1 st.2 zj hE
structure Ej (z TI TO i1 i2:ak) (qu qv:List ak):zt where
 a:TI≠z /\ TO≠z /\ i1≠z /\ i2≠z /\ TI≠TO /\ TI≠i1 /\ TI≠i2 /\ TO≠i1 /\ TO≠i2 /\ i1≠i2
 f1:z∉qu /\ TO∉qu /\ i2∉qu
 f2:z∉qv /\ TO∉qv /\ i1∉qv
variable {z TI TO i1 i2:ak} {qu qv:List ak} {n1 n2:Nat} {P1 P2:Nat -> ai -> zt} {S1 S2:Nat -> aK -> zt}
theorem Draws.same {P:Nat->ai->zt}{S:Nat->aK->zt}(D:Draws prog w A it fp n P S) {c:ak}{k:Nat}(x:Heap.SameBut c h h') (hc:c∉fp) (st:S k h):S k h' :=
 D.frame k h h' st λb hb o e=>x.extBut _ _ (λq=>hc<|q▸hb) e
abbrev qZ (h:aK) (z TI TO:ak) (f0 f1:ai):zt:=h.get? z=ae { cls:=.type "zip",dict:=ag,data:=.fields (List.toArray [f0,f1,.bool af,.ref TI,.ref TO]),slots:=#[] }
def rf (h:aK) (z TI TO:ak):zt:=∃ f0 f1,(f0=.none \/ ∃ a,f0=rawInt a) /\ qZ h z TI TO f0 f1
theorem ahH {Q:Option aZ->ax->zt}(h:Q (s.heap.get? a) s):wpAny zi A (loadIfAlive a) Q E s:=λΓ p _=>by simpa[loadIfAlive] using h
theorem AN {f0 f1:ai}{Q:Bool->ax->zt}(hf:f0=.none \/ ∃ a,f0=rawInt a) (hz:qZ s.heap z TI TO f0 f1) (h:∀ r h' ahI,qZ h' z TI TO f0 ahI->Heap.SameBut z s.heap h'->Q r { s with heap:=h' }) :
 wpAny zi A (Builtin.SmallTypes.ownedTupleIsFree<|.ref z) Q E s:=by
 have hs:Heap.SameBut z s.heap s.heap:=#[rfl,λ_ _=>rfl];rcases hf with rfl|⟨a,rfl⟩
 .show aj<|kP hz zc zc<|aA<|h _ _ f1 hz hs
 .refine aj<|kP hz zc zc<|aj<|ahH ?_;cases s.heap.get? a.toNat with
  |none=>show aA<|h _ _ f1 hz hs
  |some o=>
    refine aj<|kP hz zc (x:=f1) zc ?_;by_cases q:(f1 != Value.bool ah)=ah
    .rw[if_pos q];show aj<|uz hz zj λg1 vW e1=>aA<|h _ g1 _ vW e1
    .rw[if_neg q];show aj<|aA<|aA<|h _ _ f1 hz hs
theorem Mt (D1:Draws prog w A i1 qu n1 P1 S1) (D2:Draws prog w A i2 qv n2 P2 S2) (R:Ej z TI TO i1 i2 qu qv) {k:Nat}{a b:ai}(k1:k<n1) (k2:k<n2)
 (hz:rf s.heap z TI TO) (vX:IsPair s.heap TI (.ref i1)<|.ref i2) (uT:IsPair s.heap TO a b) (s1:S1 k s.heap) (s2:S2 k s.heap)
 (hQ:∀ x y h' tk,P1 k x->P2 k y->rf h' z TI TO->(∃ u v,IsPair h' TO u v)->S1 (k+1) h'->S2 (k+1) h'->IsPair h' s.heap.objs.size x y ->
  (∀ c o,c≠z->c≠TO->c≠i1->c≠i2->s.heap.get? c=ae o->h'.get? c=ae o)->Q (.ref s.heap.objs.size) { s with heap:=h',toks:=tk }) :
 wpAny zi A (Builtin.«zip.__next__» #[[.ref z],[]]) (λfin s'=>∃ v,fin=.done (.ret v) /\ Q v s') E s:=by
 let#[#[r1,r2,r3,r4,r5,r6,r7,r8,r9,IC],#[f1,f2,f3],#[f4,f5,f6]]:=R;let#[o0,o1,ho,hz]:=hz
 change wpAny _ _ (field _ 2 >>= _) _ _ _;refine aj<|kP hz zc (x:=.bool af) zc ?_
 change wpAny _ _ _ _ _ _;refine aj<|kP hz zc zc<|aj<|ux vX zc ?_
 change wpAny _ _ _ _ _ _
 refine aj<|AN ho hz λr g0 o2 xO e0=>?_;cases r with
 |true=>
   simp only;refine aj<|pW<|aj<|kP xO zc zc<|aj<|uz xO zj λg1 vW vL=>?_;have e1:Heap.SameBut z s.heap g1:=#[vL.1.trans e0.1,λc hc=>(vL.2 c hc).trans<|e0.2 c hc];have ID:qZ g1 z TI TO .ellipsis o2:=vW;refine aj ?_;erw[Q0,aa0,wQ,yC];refine aj<|aj<|yu (show wpAny _ _ (Builtin.SmallTypes.nextOf (.ref i1) >>= _) _ _ _ from aj (D1.item k _ _ _ k1 (Draws.same D1 e1 f1 s1) λx g2 t2 px Ek e2=>aA ?_));have El:IsPair g2 TO a b:=e2.extBut _ _ r8<|e1.extBut _ _ r2 uT;refine aj<|ux El zc<|aj<|QG El λg3 adw e3=>aj<|QH<|aA ?_;have ahJ:IsPair g3 TO x b:=adw;refine aj<|aj<|yu (show wpAny _ _ (Builtin.SmallTypes.nextOf (.ref i2) >>= _) _ _ _ from aj (D2.item k _ _ _ k2 (Draws.same D2 e3 f5<|Draws.same D2 e2 f6<|Draws.same D2 e1 f4 s2) λy g4 t4 py YZ e4=>aA ?_));have adx:IsPair g4 TO x b:=e4.extBut _ _ r9 ahJ;refine aj<|ux adx zc<|aj<|QG adx λg5 ahK e5=>aj<|QH<|aA<|aA ?_;have ady:IsPair g5 TO x y:=ahK;refine aj<|ux ady zc<|aj<|QI ?_;have qM:g5.objs.size=s.heap.objs.size:=by rw[e5.1,e4.1,e3.1,e2.1,e1.1]
   have adz:qZ g5 z TI TO .ellipsis o2:=e5.extBut _ _ r2.symm<|e4.extBut _ _ r4.symm<|e3.extBut _ _ r2.symm<|e2.extBut _ _ r3.symm ID;have kp:∀ c o,c≠z->c≠TO->c≠i1->c≠i2->s.heap.get? c=ae o->g5.get? c=ae o:=λc o c1 c2 c3 c4 q=>e5.extBut _ _ c2<|e4.extBut _ _ c4<|e3.extBut _ _ c2<|e2.extBut _ _ c3<|e1.extBut _ _ c1 q;have q1:S1 (k+1) g5:=Draws.same D1 e5 f2<|Draws.same D1 e4 f3<|Draws.same D1 e3 f2 Ek;have q2:S2 (k+1) g5:=Draws.same D2 e5 f5 YZ;have Em:z<g5.objs.size:=bf adz
   change wpAny _ _ (Builtin.SmallTypes.ownedTupleHandOut (.ref z) (.ref g5.objs.size) >>= _) _ _ _;refine aj ?_
   unfold Builtin.SmallTypes.ownedTupleHandOut;refine aj<|uz (aW _ adz) zj λg7 ahL e7=>uz (show qZ g7 z TI TO (rawInt g5.objs.size) o2 from ahL) zj λg8 ahM e8=>?_;have up:∀ c o,c≠z->g5.get? c=ae o->g8.get? c=ae o:=λc o c1 q=>e8.extBut _ _ c1<|e7.extBut _ _ c1<|aW _ q;have adA:IsPair g8 g5.objs.size x y:=e8.extBut _ _ (vh Em)<|e7.extBut _ _ (vh Em)<|bE _ zc;have ahN:rf g8 z TI TO:=#[_,_,.inr #[_,rfl],show qZ g8 z TI TO (rawInt g5.objs.size) (.bool af) from ahM];refine aA #[_,rfl,(show Q (.ref g5.objs.size) _ from ?_)];rw[qM]at adA ⊢;show hQ x y g8 _ px py ahN #[_,_,up _ _ r2 ady] (D1.frame _ _ _ q1 λc hc o q=>up c o (λw=>f1<|w▸hc) q) (D2.frame _ _ _ q2 λc hc o q=>up c o (λw=>f4<|w▸hc) q) adA λc o c1 c2 c3 c4 q=>up c o c1<|kp c o c1 c2 c3 c4 q
 |false=>
   erw[Hb,if_false];rw[show ((List.toArray [Value.ref i1,Value.ref i2]):Array ai)=[Value.ref i1,Value.ref i2].toArray from rfl];erw[aa1,wQ,yC];refine aj<|aj<|aj<|eQ (show wpAny _ _ (Builtin.SmallTypes.nextOf (.ref i1) >>= _) _ _ _ from aj (D1.item k _ _ _ k1 (Draws.same D1 e0 f1 s1) λx g2 t2 px Ek e2=>aA ?_));refine aA<|aj<|aj<|eQ (show wpAny _ _ (Builtin.SmallTypes.nextOf (.ref i2) >>= _) _ _ _ from aj (D2.item k _ _ _ k2 (Draws.same D2 e2 f6<|Draws.same D2 e0 f4 s2) λy g4 t4 py YZ e4=>aA ?_));refine aA<|aA<|aj<|QI (aA #[_,rfl,?_]) (show 2<=sizeLine by decide);have qM:g4.objs.size=s.heap.objs.size:=by rw[e4.1,e2.1,e0.1]
   have IE:qZ g4 z TI TO o0 o2:=e4.extBut _ _ r4.symm<|e2.extBut _ _ r3.symm xO;have up:∀ c o,g4.get? c=ae o->(g4.push { cls:=.type "tuple",data:=.seq (List.toArray [x,y]) }).get? c=ae o:=λc o q=>aW _ q;have hT:IsPair (g4.push { cls:=.type "tuple",data:=.seq (List.toArray [x,y]) }) g4.objs.size x y:=bE _ zc;change Q (.ref g4.objs.size) _;rw[qM]at hT ⊢;show hQ x y _ _ px py #[o0,o2,ho,up _ _ IE] #[a,b,up _ _<|e4.extBut _ _ r9<|e2.extBut _ _ r8<|e0.extBut _ _ r2 uT] (D1.frame _ _ _ (Draws.same D1 e4 f3 Ek) λc hc o q=>up c o q) (D2.frame _ _ _ YZ λc hc o q=>up c o q) hT
    λc o c1 c2 c3 c4 q=>up c o<|e4.extBut _ _ c4<|e2.extBut _ _ c3<|e0.extBut _ _ c1 q
theorem Mu (D1:Draws prog w A i1 qu n1 P1 S1) (D2:Draws prog w A i2 qv n2 P2 S2) (R:Ej z TI TO i1 i2 qu qv) {k:Nat}{a b:ai}{Q:Fin->ax->zt}(hk:k=n1 \/ (k<n1 /\ k=n2))
 (hz:rf s.heap z TI TO) (vX:IsPair s.heap TI (.ref i1)<|.ref i2) (uT:IsPair s.heap TO a b) (s1:S1 k s.heap) (s2:S2 k s.heap)
 (hE:∀ h' e tk,(∀ c o,c≠z->c≠TO->c≠i1->c≠i2->s.heap.get? c=ae o->h'.get? c=ae o)->(∃ o,h'.get? e=ae o /\ o.cls=.type "StopIteration")->E (.ref e) { s with heap:=h',toks:=tk }) :
 wpAny zi A (Builtin.«zip.__next__» #[[.ref z],[]]) Q E s:=by
 let#[#[r1,r2,r3,r4,r5,r6,r7,r8,r9,IC],#[f1,f2,f3],#[f4,f5,f6]]:=R;let#[o0,o1,ho,hz]:=hz
 change wpAny _ _ (field _ 2 >>= _) _ _ _;refine aj<|kP hz zc (x:=.bool af) zc ?_
 change wpAny _ _ _ _ _ _;refine aj<|kP hz zc zc<|aj<|ux vX zc ?_
 change wpAny _ _ _ _ _ _
 refine aj<|AN ho hz λr g0 o2 xO e0=>?_;cases r with
 |true=>
   simp only;refine aj<|pW<|aj<|kP xO zc zc<|aj<|uz xO zj λg1 vW vL=>?_;have e1:Heap.SameBut z s.heap g1:=#[vL.1.trans e0.1,λc hc=>(vL.2 c hc).trans<|e0.2 c hc];have ID:qZ g1 z TI TO .ellipsis o2:=vW;refine aj ?_;erw[Q0,aa0,wQ,yC];rcases hk with hk|⟨Y0,vY⟩
   .refine aj<|aj<|yu (show wpAny _ _ _ _ _ _ from aj (D1.done _ _ _ (hk▸Draws.same D1 e1 f1 s1) λg2 ex e2 hx=>?_));let#[oe,vZ,En]:=hx;have IG:qZ g2 z TI TO .ellipsis o2:=e2 _ _ r3.symm ID;have Y1:ex≠z:=λq=>by subst q;rw[IG]at vZ;cases vZ;simp at En
    show uz IG zj λg3 _ e3=>hE g3 ex _ (λc o c1 _ c3 _ q=>e3.extBut _ _ c1<|e2 _ _ c3<|e1.extBut _ _ c1 q) #[oe,e3.extBut _ _ Y1 vZ,En]
   .refine aj<|aj<|yu (show wpAny _ _ (Builtin.SmallTypes.nextOf (.ref i1) >>= _) _ _ _ from aj (D1.item k _ _ _ Y0 (Draws.same D1 e1 f1 s1) λx g2 t2 px Ek e2=>aA ?_));have El:IsPair g2 TO a b:=e2.extBut _ _ r8<|e1.extBut _ _ r2 uT;refine aj<|ux El zc<|aj<|QG El λg3 adw e3=>aj<|QH<|aA ?_;refine aj<|aj<|yu (show wpAny _ _ (Builtin.SmallTypes.nextOf (.ref i2) >>= _) _ _ _ from aj (D2.done _ _ _ (vY▸Draws.same D2 e3 f5 (Draws.same D2 e2 f6<|Draws.same D2 e1 f4 s2)) λg4 ex e4 hx=>?_));let#[oe,vZ,En]:=hx;have IE:qZ g4 z TI TO .ellipsis o2:=e4 _ _ r4.symm<|e3.extBut _ _ r2.symm<|e2.extBut _ _ r3.symm ID;have Y1:ex≠z:=λq=>by subst q;rw[IE]at vZ;cases vZ;simp at En
    show uz IE zj λg5 _ e5=>hE g5 ex _ (λc o c1 c2 c3 c4 q=>e5.extBut _ _ c1<|e4 _ _ c4<|e3.extBut _ _ c2<|e2.extBut _ _ c3<|e1.extBut _ _ c1 q) #[oe,e5.extBut _ _ Y1 vZ,En]
 |false=>
   erw[Hb,if_false];rw[show ((List.toArray [Value.ref i1,Value.ref i2]):Array ai)=[Value.ref i1,Value.ref i2].toArray from rfl];erw[aa1,wQ,yC];rcases hk with hk|⟨Y0,vY⟩
   .refine aj<|aj<|aj<|eQ (show wpAny _ _ (Builtin.SmallTypes.nextOf (.ref i1) >>= _) _ _ _ from aj (D1.done _ _ _ (hk▸Draws.same D1 e0 f1 s1) λg2 ex e2 hx=>?_));show hE g2 ex _ (λc o c1 _ c3 _ q=>e2 _ _ c3<|e0.extBut _ _ c1 q) hx
   .refine aj<|aj<|aj<|eQ (show wpAny _ _ (Builtin.SmallTypes.nextOf (.ref i1) >>= _) _ _ _ from aj (D1.item k _ _ _ Y0 (Draws.same D1 e0 f1 s1) λx g2 t2 px Ek e2=>aA ?_));refine aA<|aj<|aj<|eQ (show wpAny _ _ (Builtin.SmallTypes.nextOf (.ref i2) >>= _) _ _ _ from aj (D2.done _ _ _ (vY▸Draws.same D2 e2 f6 (Draws.same D2 e0 f4 s2)) λg4 ex e4 hx=>?_));show hE g4 ex _ (λc o c1 _ c3 c4 q=>e4 _ _ c4<|e2.extBut _ _ c3<|e0.extBut _ _ c1 q) hx
theorem Mv (hz:rf s.heap z TI TO) (h:Q (.ref z) s):wpAny zi A (pyIter<|.ref z) Q E s:=by
 have ty:s.TypeIs (.ref z) "zip":=let ⟨_,_,_,hz⟩:=hz;#[_,hz,rfl]
 show yw ty abT<|eS abT ty F.entry_zip_iter (aA #[_,rfl, "zip",_,ty,yE.lookup,h])<|F.args_zip_iter_1 _
theorem BD (D1:Draws prog w A.in1 i1 qu n1 P1 S1) (D2:Draws prog w A.in1 i2 qv n2 P2 S2) (R:Ej z TI TO i1 i2 qu qv) {k:Nat}{a b:ai}{Q:Option ai->ax->zt}(k1:k<n1) (k2:k<n2)
 (hz:rf s.heap z TI TO) (vX:IsPair s.heap TI (.ref i1)<|.ref i2) (uT:IsPair s.heap TO a b) (s1:S1 k s.heap) (s2:S2 k s.heap)
 (hQ:∀ x y h' tk,P1 k x->P2 k y->rf h' z TI TO->(∃ u v,IsPair h' TO u v)->S1 (k+1) h'->S2 (k+1) h'->IsPair h' s.heap.objs.size x y ->
  (∀ c o,c≠z->c≠TO->c≠i1->c≠i2->s.heap.get? c=ae o->h'.get? c=ae o)->Q (ae<|.ref s.heap.objs.size) { s with heap:=h',toks:=tk }):wpAny zi A (pyNext<|.ref z) Q E s:=by
 have hT:s.TypeIs (.ref z) "zip":=let ⟨_,_,_,hz⟩:=hz;#[_,hz,rfl]
 show aj<|uA<|qz hT yE<|eS yE hT abU (Mt D1 D2 R k1 k2 hz vX uT s1 s2 λx y h' tk b1 b2 b3 b4 b5 b6 b7 b8=>aA<|hQ x y h' tk b1 b2 b3 b4 b5 b6 b7 b8)<|abV _
theorem Ur {Q:Unit->ax->zt}(hz:rf s.heap z TI TO) (h:∀ h',rf h' z TI TO->Heap.SameBut z s.heap h'->Q () { s with heap:=h' }):wpAny zi A (letOwnedTupleGo tg (.ref z)<|.ref p) Q E s:=by
 have hs:Heap.SameBut z s.heap s.heap:=#[rfl,λ_ _=>rfl];have same:=h _ hz hs;let#[f0,f1,hf,hz]:=id hz
 have tup:wpAny zi A (do
  let o <-load z
  match o.cls,o.data with
  |.type n,.fields vs=>
    if ["enumerate","zip","dict_itemiterator","dict_reverseitemiterator","odict_iterator","itertools.zip_longest","itertools.pairwise"].contains n&&vs[0]?==ae (rawInt p) then
     rule "for.unpacks-the-owned-tuple"
     updateField z 0 .none
  |_,_=>pure ()) Q E s:=by
  refine aj<|wH hz ?_;dsimp only;split
  .refine aj<|pW<|uz hz zj λg1 vW e1=>h g1 #[.none,f1,.inl zc,vW] e1
  .show aA same
 cases tg with
 |Tuple es n q=>show tup
 |List es q=>show tup
 |_=>show aA same
theorem BE (D1:Draws prog w A.in1 i1 qu n1 P1 S1) (D2:Draws prog w A.in1 i2 qv n2 P2 S2) (R:Ej z TI TO i1 i2 qu qv) {k:Nat}{a b:ai}{Q:Option ai->ax->zt}(hk:k=n1 \/ (k<n1 /\ k=n2))
 (hz:rf s.heap z TI TO) (vX:IsPair s.heap TI (.ref i1)<|.ref i2) (uT:IsPair s.heap TO a b) (s1:S1 k s.heap) (s2:S2 k s.heap)
 (hQ:∀ h' tk,(∀ c o,c≠z->c≠TO->c≠i1->c≠i2->s.heap.get? c=ae o->h'.get? c=ae o)->Q ag { s with heap:=h',toks:=tk }):wpAny zi A (pyNext<|.ref z) Q E s:=by
 have hT:s.TypeIs (.ref z) "zip":=let ⟨_,_,_,hz⟩:=hz;#[_,hz,rfl]
 refine aj<|uA<|qz hT yE<|eS yE hT abU (Mu D1 D2 R hk hz vX uT s1 s2 λh' e tk q1 q2=>?_)<|abV _;let#[o,ho,hc]:=q2;show aj<|yx #[o,ho,hc] E6<|aA<|hQ h' tk q1
noncomputable def Eo (h:aK) (l1:ak):aK:=h.push { cls:=.type "tuple_iterator",data:=.fields (List.toArray [.ref l1,.int 0 0]) }
def xQ (h:aK) (l1 l2:ak):aK:=(Eo h l1).push { cls:=.type "tuple_iterator",data:=.fields (List.toArray [.ref l2,.int 0 0]) }
def xR (h:aK) (l1 l2:ak):aK:=(xQ h l1 l2).push { cls:=.type "tuple",data:=.seq (List.toArray [.ref h.objs.size,.ref (Eo h l1).objs.size]) }
def Ep (h:aK) (l1 l2:ak):aK:=(xR h l1 l2).push { cls:=.type "tuple",data:=.seq (List.toArray [.none,.none]) }
def xS (h:aK) (l1 l2:ak):aK:=(Ep h l1 l2).push { cls:=.type "zip",data:=.fields (List.toArray [.none,.bool af,.bool af,.ref (xQ h l1 l2).objs.size,.ref (xR h l1 l2).objs.size]) }
theorem FB (l1 l2:ak) (xs ys:Array ai) :
 Meets (Builtin.«zip.__new__» #[[.type "zip",.ref l1,.ref l2],[]]) (λ_ R s=>s.heap.IsTuple l1 xs /\ s.heap.IsTuple l2 ys /\ R (.ok<|.ret<|.ref (Ep s.heap l1 l2).objs.size) { s with heap:=xS s.heap l1 l2 }):=
 .of_wp λprog w A R s h=>by
  let#[hp,g,d,tk,os]:=s;let#[xT,qN,h]:=h;have ak0:=sub_zip;have ahO:Heap.IsTuple (Shared.heap #[hp.push { cls:=.type "tuple_iterator",data:=.fields (List.toArray [.ref l1,.int 0 0]) },g,d,tk,os]) l2 ys:=qN.at λo e=>aW _ e
  wp_walk using QJ xT,QJ ahO
  show#[_,rfl,h]
theorem JS {l1 l2:ak}{xs ys:Array ai}(xT:s.heap.IsTuple l1 xs) (qN:s.heap.IsTuple l2 ys)
 (h:∀ h',IsZip h' (s.heap.objs.size+4) (s.heap.objs.size+2) (s.heap.objs.size+3) .none->IsPair h' (s.heap.objs.size+2) (.ref s.heap.objs.size) (.ref<|s.heap.objs.size+1)->IsPair h' (s.heap.objs.size+3) .none .none ->
  h'.IsTupleIter s.heap.objs.size l1 0->h'.IsTupleIter (s.heap.objs.size+1) l2 0->(∀ c o,s.heap.get? c=ae o->h'.get? c=ae o)->Q (.ref<|s.heap.objs.size+4) { s with heap:=h' }):wpAny zi A (call (.type "zip") [.ref l1,.ref l2]) Q E s:=by
 refine callType_new F.called_zip (rfl) (F.typeCall_zip_2 _ _) (F.newCall_zip_2 _ _) (λobj=>F.args_object_init_3 obj _ _) F.entry_zip_new (FB l1 l2 xs ys) #[xT,qN,?_];have z1:(Eo s.heap l1).objs.size=s.heap.objs.size+1:=tL ..;have z2:(xQ s.heap l1 l2).objs.size=s.heap.objs.size+2:=by rw[xQ,tL,z1]
 have z3:(xR s.heap l1 l2).objs.size=s.heap.objs.size+3:=by rw[xR,tL,z2]
 have z4:(Ep s.heap l1 l2).objs.size=s.heap.objs.size+4:=by rw[Ep,tL,z3]
 have g5:(xS s.heap l1 l2).get? (Ep s.heap l1 l2).objs.size=ae { cls:=.type "zip",data:=.fields (List.toArray [.none,.bool af,.bool af,.ref (xQ s.heap l1 l2).objs.size,.ref (xR s.heap l1 l2).objs.size]) }:=bE _ zc;have g4:(xS s.heap l1 l2).get? (xR s.heap l1 l2).objs.size=ae { cls:=.type "tuple",data:=.seq (List.toArray [.none,.none]) }:=aW _<|bE _ zc;have g3:(xS s.heap l1 l2).get? (xQ s.heap l1 l2).objs.size=ae { cls:=.type "tuple",data:=.seq (List.toArray [.ref s.heap.objs.size,.ref (Eo s.heap l1).objs.size]) }:=aW _<|aW _<|bE _ zc;have g2:(xS s.heap l1 l2).get? (Eo s.heap l1).objs.size=ae { cls:=.type "tuple_iterator",data:=.fields (List.toArray [.ref l2,.int 0 0]) }:=aW _<|aW _<|aW _<|bE _ zc;have g1:(xS s.heap l1 l2).get? s.heap.objs.size=ae { cls:=.type "tuple_iterator",data:=.fields (List.toArray [.ref l1,.int 0 0]) }:=aW _<|aW _<|aW _<|aW _<|bE _ zc
 change _ /\ _
 rw[z2,z3,z4]at g5;rw[z1,z2]at g3;rw[z3]at g4;rw[z1]at g2;rw[z4];show#[#[_,g5,rfl],h _ g5 g3 g4 #[_,g1,rfl,rfl] #[_,g2,rfl,rfl] λc o q=>aW _<|aW _<|aW _<|aW _<|aW _ q]
end
end HT
namespace L2
section
variable {s:ax} 
theorem Inv.ahP {o:HO}(I:Inv X pins σ H s) (hf:∀ b∈ch,nP X pins H b) (k:∀ b o,b∉ch->s.heap.get? b=ae o->h'.get? b=ae o) (hp:s.heap.objs.size<=p)
 (new:cK X.prog X.w (upd H p o) h' p o):Inv X pins σ (upd H p o) { s with heap:=h',toks:=t' }:=by
 have qL:∀ b u,H b=ae u->b∉ch:=λb u e z=>by rw[(hf b z).1]at e;cases e
 have ahQ:∀ b u,H b=ae u->b≠p:=λb u e=>f8 e<|I.aD.fresh hp;have stay:∀ b u,H b=ae u->upd H p o b=ae u:=λb u e=>by rw[fC<|ahQ b u e];show e
 refine I.step (λb hb=>?_) (λb o _ _ hc e _=>k b o hc e) (λb o _ _ hc e _=>#[o.slots,k b o hc e]) (λb ob _ e n=>?_)
  (λb o hc e=>#[o,k b o hc e]) (λb _ e=>stay b _ e) (λb _ _ e=>stay b _ e) (λb ps e=>#[#[],by rw[stay b _ e];simp]) (λm hm=>?_) ?_ I.bare
 .let#[f0,f1,f2,f3,f4,f5]:=hf b hb;show#[f3,f1,f4,f5]
 .rw[fC λz=>hZ _<|eT (bf e) (by rw[z];show hp)];show n
 .let#[ob,es,ep,ho,r]:=hm;show#[ob,es,ep,k _ ob (λz=>(hf _ z).2.1 zc) ho,r]
 .intro b u e;by_cases hb:b=p
  .subst hb;rw[fA]at e;cases e;show new
  .rw[fC hb]at e;refine(I.aD b u e).stay (λc v hc q=>k c v ?_ q) (λc q=>stay c _ q) λc xs q=>stay c _ q;rcases hc with z|z
   .rw[z];show qL b u e
   .show qL c _ z
theorem Inv.ahR (I:Inv X pins σ H s) (hf:∀ b∈ch,nP X pins H b) (k:∀ b o,b∉ch->s.heap.get? b=ae o->h'.get? b=ae o):Inv X pins σ H { s with heap:=h',toks:=t' }:=by
 have qL:∀ b u,H b=ae u->b∉ch:=λb u e z=>by rw[(hf b z).1]at e;cases e
 refine I.step (λb hb=>?_) (λb o _ _ hc e _=>k b o hc e) (λb o _ _ hc e _=>#[o.slots,k b o hc e]) (λb ob _ e n=>n)
  (λb o hc e=>#[o,k b o hc e]) (λb _ e=>e) (λb _ _ e=>e) (λb ps e=>#[#[],by rw[e];simp]) (λm hm=>?_) ?_ I.bare
 .let#[f0,f1,f2,f3,f4,f5]:=hf b hb;show#[f3,f1,f4,f5]
 .let#[ob,es,ep,ho,r]:=hm;show#[ob,es,ep,k _ ob (λz=>(hf _ z).2.1 zc) ho,r]
 .intro b u e;refine(I.aD b u e).stay (λc v hc q=>k c v ?_ q) (λc q=>q) λc xs q=>q;rcases hc with z|z
  .rw[z];show qL b u e
  .show qL c _ z
end
def kI (t:Bool) (K:PySem.W.Frag) (H:Hp) (a:ak) (xs:List V):zt:=match t with|true=>cP K H a xs|false=>bN K H a xs
def PX (t:Bool) (h:aK) (a:ak) (xs:Array ai):zt:=match t with|true=>h.IsTuple a xs|false=>h.IsList a xs
def sJ (t:Bool) (h:aK) (it l:ak) (i:Nat):zt:=match t with|true=>h.IsTupleIter it l i|false=>h.IsListIter it l i
section
variable {s:ax} {t:Bool} 
theorem xV {xs:List V}(I:Inv X pins σ H s) (q:kI t X.K H a xs):∃ its:List ai,Vals xs its /\ PX t s.heap a its.toArray /\ a<s.heap.objs.size:=by
 cases t with
 |true=>let#[its,r,p,_]:=I.tuple q;show#[its,r,p,let ⟨_,e,_⟩:=p;bf e]
 |false=>let#[its,r,p,_]:=I.list q;show#[its,r,p.isList,let ⟨_,_,e,_⟩:=p;bf e]
theorem adB {xs ys:List V}(I:Inv X pins σ H s) (q:kI t X.K H a xs) (q':kI t X.K H a ys):xs=ys:=by
 cases t with
 |true=>show I.acr q q'
 |false=>show I.acq q q'
theorem sJ.ob {l:ak}{i:Nat}(x:sJ t h it l i):∃ o fs,h.get? it=ae o /\ o.data=.fields fs:=by
 cases t with
 |_=>let#[o,e,_,d]:=x;show#[o,_,e,d]
theorem sJ.at {h h':aK}{it l:ak}{i:Nat}(x:sJ t h it l i) (k:∀ o,h.get? it=ae o->h'.get? it=ae o):sJ t h' it l i:=by
 cases t with
 |true=>show Heap.IsTupleIter.at x k
 |false=>show Heap.IsListIter.at x k
theorem IH (hh:A.handled=ag) (it l:ak) (kH:l≠it) (items:Array ai) :
 Draws prog w A it [it,l] items.size (λi v=>items[i]?=ae v) (λi h=>sJ t h it l i /\ PX t h l items):=by
 cases t with
 |true=>show HT.JR hh it l kH items
 |false=>show Draws.list hh it l kH items
theorem JT {l1 l2:ak}{xs ys:Array ai}(xT:PX t s.heap l1 xs) (qN:PX t s.heap l2 ys)
 (h:∀ h',IsZip h' (s.heap.objs.size+4) (s.heap.objs.size+2) (s.heap.objs.size+3) .none->IsPair h' (s.heap.objs.size+2) (.ref s.heap.objs.size) (.ref<|s.heap.objs.size+1)->IsPair h' (s.heap.objs.size+3) .none .none ->
  sJ t h' s.heap.objs.size l1 0->sJ t h' (s.heap.objs.size+1) l2 0->(∀ c o,s.heap.get? c=ae o->h'.get? c=ae o)->Q (.ref<|s.heap.objs.size+4) { s with heap:=h' }):wpAny zi A (call (.type "zip") [.ref l1,.ref l2]) Q E s:=by
 cases t with
 |true=>show HT.JS xT qN h
 |false=>show call_zip_2 xT qN λh' b1 b2 b3 b4 b5 _ b6=>h h' b1 b2 b3 b4 b5 b6
end
def Y2 (t:Bool) (K:PySem.W.Frag) (a b:ak):It:=
 #[λi H=>∃ (xs ys:List V) (x y:V),kI t K H a xs /\ kI t K H b ys /\ xs[i]?=ae x /\ ys[i]?=ae y,
  λi H w H'=>∀ (xs ys:List V),kI t K H a xs->kI t K H b ys->∃ (p:ak) (x y:V),xs[i]?=ae x /\ ys[i]?=ae y /\ H p=ag /\ w=.ref p /\ H'=upd H p (.tup [x,y]),
  λi H=>∃ (xs ys:List V),kI t K H a xs /\ kI t K H b ys /\ (i=xs.length \/ (i<xs.length /\ i=ys.length))]
theorem BV {b:Nat}(k:Nat) (h:b<n):b≠n+k:=by lia
theorem BW {m:Nat}(h:n+4<m):m≠n /\ m≠n+1 /\ m≠n+2 /\ m≠n+3 /\ m≠n+4:=by lia
theorem GA {n b:ak}(ha:a<n) (hb:b<n):HT.Ej (n+4) (n+2) (n+3) n (n+1) [n,a] [n+1,b] where
 a:=by refine#[?_,?_,?_,?_,?_,?_,?_,?_,?_,?_]<;>show λz=>by have z':(_:Nat)=_:=z;lia
 f1:=by
  have e1:∀ k,n+k≠a:=λk z=>hZ _<|yA (wM n k)<|z▸ha;refine#[?_,?_,?_]<;>(rw[bq,eU];rintro(z|z))
  .have z':(_:Nat)=_:=z;lia
  .show e1 4 z
  .have z':(_:Nat)=_:=z;lia
  .show e1 3 z
  .have z':(_:Nat)=_:=z;lia
  .show e1 1 z
 f2:=by
  have e1:∀ k,n+k≠b:=λk z=>hZ _<|yA (wM n k)<|z▸hb;refine#[?_,?_,?_]<;>(rw[bq,eU];rintro(z|z))
  .have z':(_:Nat)=_:=z;lia
  .show e1 4 z
  .have z':(_:Nat)=_:=z;lia
  .show e1 3 z
  .have z':(_:Nat)=_:=z;lia
  .show e1 0 z
theorem Mw {t:Bool}{n b:ak}(ha:a<n) (hb:b<n) :
 Turn P w K tg (Y2 t K a b) [n+4,n+2,n+3,n,n+1] (n+4)
  (λi h=>HT.rf h (n+4) (n+2) (n+3) /\ IsPair h (n+2) (.ref n) (.ref<|n+1) /\ (∃ u v,IsPair h (n+3) u v) /\ sJ t h n a i /\ sJ t h (n+1) b i) where
 mem:=by simp
 obj:=λi h st c hc=>by
  let#[#[_,_,_,z1],z2,#[u,v,z3],z4,z5]:=st;let#[o4,_,e4,d4]:=z4.ob;let#[o5,_,e5,d5]:=z5.ob;simp[bq,p7,or_false]at hc;rcases hc with rfl|rfl|rfl|rfl|rfl
  .show#[_,z1,λv z=>by cases z]
  .show#[_,z2,λv z=>by cases z]
  .show#[_,z3,λv z=>by cases z]
  .show#[o4,e4,λv z=>by rw[d4]at z;cases z]
  .show#[o5,e5,λv z=>by rw[d5]at z;cases z]
 keep:=λi h h' st k=>by
  let#[z1,z2,#[u,v,z3],z4,z5]:=st;let#[w0,w1,w2,z1]:=z1;show#[#[w0,w1,w2,k _ zj _ z1],k _ zj _ z2,#[u,v,k _ zj _ z3],z4.at λo e=>k _ zj o e,z5.at λo e=>k _ zj o e]
 item:=by
  intro X hP hw hK hc i pins s σ H E I hf st hg;subst hP hw hK;let#[xs,ys,x,y,q1,q2,e1,e2]:=hg;let#[z1,z2,#[u,v,z3],z4,z5]:=st;let#[i1,r1,p1,l1]:=xV I q1;let#[i2,r2,p2,l2]:=xV I q2;have R:=GA ha hb;refine HT.BD (IH (t:=t) (prog:=X.prog) (w:=X.w) (A:=X.A.in1) (I.ok.hd hc) n a (cw ha) i1.toArray) (IH (t:=t) (prog:=X.prog) (w:=X.w) (A:=X.A.in1) (I.ok.hd hc) _ b (BV 1 hb) i2.toArray) R (by rw[bX,<-r1.length];show(List.getElem?_eq_some_iff.mp e1).1) (by rw[bX,<-r2.length];show(List.getElem?_eq_some_iff.mp e2).1) z1 z2 z3 #[z4,p1] #[z5,p2] λvx vy h' tk b1 b2 b3 b4 b5 b6 b7 b8=>#[_,rfl,?_];refine HT.Ur b3 λh2 IG kW=>?_;let#[w1,f1,g1]:=r1.get e1;let#[w2,f2,g2]:=r2.get e2;have adC:i1[i]?=ae vx:=by simpa using b1
  have adD:i2[i]?=ae vy:=by simpa using b2
  rw[f1]at adC;cases adC;rw[f2]at adD;cases adD;have Em:(n+4)<s.heap.objs.size:=let ⟨_,_,_,z1⟩:=z1;bf z1
  have ahS:IsPair h2 s.heap.objs.size vx vy:=kW.extBut _ _ (BW Em).2.2.2.2 b7;have nw:H s.heap.objs.size=ag:=I.aD.fresh<|aE _;have I2:Inv X pins σ (upd H s.heap.objs.size<|.tup [x,y]) { s with heap:=h2,toks:=tk }:=by
   refine I.ahP hf (λc o dD e=>?_) (aE _) ?_
   .simp[bq,p7,or_false,not_or]at dD;show kW.extBut _ _ dD.1<|b8 c o dD.1 dD.2.2.1 dD.2.2.2.1 dD.2.2.2.2 e
   .show#[by change 2<=sizeLine;decide,[vx,vy],.cons g1<|.cons g2 .nil,#[_,ahS,rfl,_,rfl]]
  refine#[.ref s.heap.objs.size,_,I2,rfl,λak1 ak2 y1 y2=>#[_,x,y,by rw[adB I y1 q1];show e1,by rw[adB I y2 q2];show e2,nw,rfl,rfl],#[IG,?_,(let ⟨u,v,b4⟩:=b4;#[u,v,kW.extBut _ _ R.a.2.1 b4]),?_,?_],λc dD=>?_]
  .show kW.extBut _ _ R.a.1<|b8 _ _ R.a.1 R.a.2.2.2.2.1 R.a.2.2.2.2.2.1 R.a.2.2.2.2.2.2.1 z2
  .show b5.1.at λo e=>kW.extBut _ _ R.a.2.2.1 e
  .show b6.1.at λo e=>kW.extBut _ _ R.a.2.2.2.1 e
  .rw[fC]
   .show(hf c dD).1
   .intro z;subst z;simp[bq,p7,or_false]at dD;let#[m1,m2,m3,m4,m5]:=BW Em;rcases dD with q|q|q|q|q
    .show m5 q
    .show m3 q
    .show m4 q
    .show m1 q
    .show m2 q
 done:=by
  intro X hP hw hK hc i pins s σ H E I hf st hg;subst hP hw hK;let#[xs,ys,q1,q2,hk]:=hg;let#[z1,z2,#[u,v,z3],z4,z5]:=st;let#[i1,r1,p1,l1]:=xV I q1;let#[i2,r2,p2,l2]:=xV I q2;refine HT.BE (IH (t:=t) (prog:=X.prog) (w:=X.w) (A:=X.A.in1) (I.ok.hd hc) n a (cw ha) i1.toArray) (IH (t:=t) (prog:=X.prog) (w:=X.w) (A:=X.A.in1) (I.ok.hd hc) (n+1) b (BV 1 hb) i2.toArray) (GA ha hb) (k:=i) (by rw[bX,bX,<-r1.length,<-r2.length];show hk) z1 z2 z3 #[z4,p1] #[z5,p2] λh' tk b8=>#[rfl,I.ahR (ch:=[n+4,n+2,n+3,n,n+1]) hf λc o dD e=>?_];simp[bq,p7,or_false,not_or]at dD;show b8 c o dD.1 dD.2.2.1 dD.2.2.2.1 dD.2.2.2.2 e
 self:=λA i s Q E st h=>HT.Mv st.1 h
def ahT (K:PySem.W.Frag) (ta:TA):TI:=λσ H R=>ta σ H λvs H2=>∃ (t:Bool) (p q:ak) (xs ys:List V),vs=[.ref p,.ref q] /\ kI t K H2 p xs /\ kI t K H2 q ys /\ R (Y2 t K p q) H2
theorem Us {a b:au}{ta:TA}{p:aM}(hg:Gl X "zip") (hm:X.mg "zip"=ag) (ha:PA X [a,b] ta) (hs:starEach [a,b] X.env=[(af,eval a X.env),(af,eval b X.env)]:=by rfl) (kW:starEach [b] X.env=[(af,eval b X.env)]:=by rfl) :
 PI X tg (.Call (.Name "zip" p) [a,b] [] pos) (ahT X.K ta):=by
 intro pins s σ H R I h;refine uv<|jx I hg hm (by decide +kernel:bootBuiltins "zip"=ae (.type "zip")) ?_;refine Hq (tA (ha pos pins s σ H _ I h) λus s1 vs H2 I2 r2 q=>?_) (by rw[hs,kW]) (by rw[kW];rfl);let#[t,x,y,xs,ys,rfl,hx,hy,q]:=q;let#[u,v,rfl,ru,rv]:=Vals.two r2;cases ru;cases rv;let#[i1,r1,p1,l1]:=xV I2 hx;let#[i2,r2,p2,l2]:=xV I2 hy;refine JT p1 p2 λh' b1 b2 b3 b4 b5 b6=>?_;refine wpAny_pyIter_zip b1 ?_;refine#[s1.heap.objs.size+4,_,_,_,H2,rfl,I2.kept b6,Mw l1 l2,#[#[_,_,.inl zc,b1],b2,#[_,_,b3],b4,b5],λc hc=>?_,q];have hle:s1.heap.objs.size<=c:=by
  simp[bq,p7,or_false]at hc;rcases hc with z|z|z|z|z<;>(rw[z];first|show aE _|show wM _ _)
 show I2.vw hle<|I2.aD.fresh hle
end L2
namespace L2.DL
section
variable {a b:au} {p:aM} {k:DE (List W)}
noncomputable def kJ:List D->List D->List W
 |x::l,y::r=>.d (.tup [x,y])::kJ l r
 |_,_=>[]
theorem Dj:∀ (l r:List D),(kJ l r).length=min l.length r.length
 |[],_=>rfl
 |_::_,[]=>rfl
 |_::l,_::r=>by erw[kJ,bD,Dj l r];lia
theorem Dk:∀ {l r:List D}{i:Nat}{w:W},(kJ l r)[i]?=ae w->∃ x y,l[i]?=ae x /\ r[i]?=ae y /\ w=.d (.tup [x,y])
 |[],_,_,_,e=>by simp[kJ]at e
 |_::_,[],_,_,e=>by simp[kJ]at e
 |x::l,y::r,0,w,e=>by simp[kJ]at e;show#[x,y,rfl,rfl,e.symm]
 | x::l,y::r,i+1,w,e=>by
   have e':(kJ l r)[i]?=ae w:=by simpa[kJ] using e
   let#[x',y',h1,h2,h3]:=Dk e';show#[x',y',by simpa using h1,by simpa using h2,h3]
def uc (k:DE<|List W):DE (List W):=λenv bx=>fB (k env bx) λws bx1=>match ws with
 |[.d<|.tup l,.d<|.tup r]=>.val (kJ l r) bx1
 |[.d<|.lst l,.d<|.lst r]=>.val (kJ l r) bx1
 |_=>.bad
theorem AO {t:Bool}{p q:ak}{vs us:List V}{l m:List D}(hp:∀ H,Sub F H->kI t K H p vs) (hq:∀ H,Sub F H->kI t K H q us) (dl:aG F l vs) (dm:aG F m us):uP F r (kJ l m) (Y2 t K p q):=by
 intro T i F1 r1 σ1 H1 env1 bx1 g R;have s1:=hp _<|g.s.trans R.fh;have s2:=hq _<|g.s.trans R.fh;have e1:=dl.length;have e2:=dm.length;refine#[λhl=>?_,λw e=>?_]
 .rw[Dj]at hl;show#[vs,us,s1,s2,by lia]
 .let#[x,y,h1,h2,rfl]:=Dk e;let#[v,f1,d1]:=dl.get h1;let#[u,f2,d2]:=dm.get h2;refine#[#[vs,us,v,u,s1,s2,f1,f2],λw H2 hy=>?_];let#[a,v',u',g1,g2,ha,rfl,rfl]:=hy vs us s1 s2;rw[f1]at g1;cases g1;rw[f2]at g2;cases g2;have gr:=R.uO (o:=.tup [v,u]) ha;show#[_,gr,R.yX ha,a,[v,u],rfl,fA,.cons (Den.mono (g.trans gr).s x d1)<|.cons (Den.mono (g.trans gr).s y d2) .nil]
theorem Pm (hg:Gl X "zip") (hm:X.mg "zip"=ag) (ha:dF X T Z [a,b] k) (hs:starEach [a,b] X.env=[(af,eval a X.env),(af,eval b X.env)]:=by rfl) (kW:starEach [b] X.env=[(af,eval b X.env)]:=by rfl) :
 tX X T Z tg (.Call (.Name "zip" p) [a,b] [] pos) (uc k):=by
 refine PI.imp (Us hg hm ha hs kW) λσ H Q=>x4 λF r env bx R h=>?_;refine#[F,r,env,bx,R,End.bind h λws bx1 F1 r1 vs H1 g1 R1 d1 h1=>?_];split at h1
 .let#[v,t,rfl,#[p,us,rfl,k1,k2],v2,t2,rfl,#[q,Er,rfl,k3,k4],rt]:=d1;cases (rt);have z1:∀ H,Sub F1 H->kI ah X.K H p us:=λH s=>.of<|s _ _ k1;have z2:∀ H,Sub F1 H->kI ah X.K H q Er:=λH s=>.of<|s _ _ k3;show#[ah,p,q,us,Er,rfl,z1 _ R1.fh,z2 _ R1.fh,h1 F1 r1 _ H1 (.refl F1 r1) R1<|AO z1 z2 k2 k4]
 .ext l m;let#[v,t,rfl,#[p,us,rfl,k1,k2],v2,t2,rfl,#[q,Er,rfl,k3,k4],rt]:=d1;cases (rt);have z1:∀ H,Sub F1 H->kI af X.K H p us:=λH s=>.of<|s _ _ k1;have z2:∀ H,Sub F1 H->kI af X.K H q Er:=λH s=>.of<|s _ _ k3;show#[af,p,q,us,Er,rfl,z1 _ R1.fh,z2 _ R1.fh,h1 F1 r1 _ H1 (.refl F1 r1) R1<|AO z1 z2 k2 k4]
 .show h1.elim
end
section
variable {a:au} {p:aM}
def ahU (K:PySem.W.Frag) (tl:TE):TI:=λσ H R=>tl σ H λx H1=>(∃ a,x=.ref a /\ (∃ xs,bN K H1 a xs) /\ R (HL K a) H1) \/ ∃ a,x=.ref a /\ (∃ xs,cP K H1 a xs) /\ R (XW K a) H1
theorem Ut {l:au}{tl:TE}(hl:PE X l tl):PI X tg l (ahU X.K tl):=by
 intro pins s σ H R I h;refine tE (hl pins s σ H _ I h) λv s1 x H1 I1 r1 q1=>?_;rcases q1 with⟨a,rfl,⟨xs,hq⟩,q⟩|⟨a,rfl,⟨xs,hq⟩,q⟩
 .cases r1;let#[its,rv,p,hz]:=I1.list hq;refine yn p.isList #[s1.heap.objs.size,[s1.heap.objs.size],_,_,H1,rfl,I1.kept λb o e=>aW _ e,BK a _,#[_,bE _ zc,rfl,rfl],λb hb=>?_,q];cases eU.mp hb;show I1.vw (aE _)<|I1.aD.fresh<|aE _
 .cases r1;let#[its,rv,p,hz]:=I1.tuple hq;refine QJ (p) #[s1.heap.objs.size,[s1.heap.objs.size],_,_,H1,rfl,I1.kept λb o e=>aW _ e,Fo a _,#[_,bE _ zc,rfl,rfl],λb hb=>?_,q];cases eU.mp hb;show I1.vw (aE _)<|I1.aD.fresh<|aE _
theorem Dl {a:ak}{vs:List V}{l:List D}(k1:F a=ae (.lst vs)) (k2:aG F l vs):uP F r (l.map W.d) (HL K a):=λT' i F2 r2 σ2 H2 bw ay g2 R2=>by
 have hq:bN K H2 a vs:=.of<|R2.fh _ _<|g2.s _ _ k1;refine#[λhl=>?_,λw e=>?_]
 .rw[a5,k2.length]at hl;show#[vs,hq,wL hl]
 .let#[d,e1,rfl]:=BS e;let#[u,e2,du]:=k2.get e1;refine#[#[vs,u,hq,e2],λx H3 ⟨e3,hy⟩=>?_];subst e3;have e4:=hy vs hq;rw[e2]at e4;cases e4;show#[F2,.refl F2 r2,R2,Den.mono g2.s d du]
theorem FC {a:ak}{vs:List V}{l:List D}(k1:F a=ae (.tup vs)) (k2:aG F l vs):uP F r (l.map W.d) (XW K a):=λT' i F2 r2 σ2 H2 bw ay g2 R2=>by
 have hq:cP K H2 a vs:=.of<|R2.fh _ _<|g2.s _ _ k1;refine#[λhl=>?_,λw e=>?_]
 .rw[a5,k2.length]at hl;show#[vs,hq,wL hl]
 .let#[d,e1,rfl]:=BS e;let#[u,e2,du]:=k2.get e1;refine#[#[vs,u,hq,e2],λx H3 ⟨e3,hy⟩=>?_];subst e3;have e4:=hy vs hq;rw[e2]at e4;cases e4;show#[F2,.refl F2 r2,R2,Den.mono g2.s d du]
theorem mW (ha:PD X T Z a ma):tX X T Z tg a (bj ma):=by
 refine PI.imp (Ut ha) λσ H Q=>x4 λF r env bx R h=>?_;refine#[F,r,env,bx,R,End.bind h λw bx1 F1 r1 v H1 g1 R1 d1 h1=>?_];split at h1
 .let#[p,vs,rfl,k1,k2]:=d1;show .inl #[p,rfl,#[vs,.of<|R1.fh _ _ k1],h1 F1 r1 _ H1 (.refl F1 r1) R1<|Dl k1 k2]
 .let#[p,vs,rfl,k1,k2]:=d1;show .inr #[p,rfl,#[vs,.of<|R1.fh _ _ k1],h1 F1 r1 _ H1 (.refl F1 r1) R1<|FC k1 k2]
 .show h1.elim
theorem Pn {v:Int}(hg:Gl X x) (hm:∃ t,X.mg x=ae (.int v t)) (hd:(x==("__debug__":Str))=af:=by decide):PD X T Z (.Name x pos) (dC<|.int v):=by
 let#[t,hm]:=hm;show Db (Op (v:=.int v) hg hm #[t,rfl] hd) λ_=>rfl
end
noncomputable def Y3 (XN:List Str) (sc cs:bT) (N:List Str) (src:List<|Option Nat):Bool:=
 decide (cs.kind=.function)&&decide (cs.names.map (·.1)).Nodup&&cs.names.all (λy=>decide (y.2=.local->cs.names.lookup y.1=ae .local)) &&
 cs.names.all (λy=>decide (y.2=.free->(sc.names.lookup y.1=ae .cell \/ sc.names.lookup y.1=ae .free)))&&decide (src.length=N.length) &&
 (List.range src.length).all λj=>match src[j]?,N[j]? with
  |some (ae i),ae x=>decide (XN[i]?=ae x /\ cs.names.lookup x=ae .free)
  |_,_=>ah
theorem FD {XN:List Str}{src:List (Option Nat)}{sc cs:bT}(hX:∀ x,X.env.kindOf x=sc.names.lookup x) (hN:X.N=XN) (h:Y3 XN sc cs N src=ah):sx X N src cs:=by
 subst hN;unfold Y3 at h;erw[aI,decide_eq_true_eq,cZ]at h;let#[#[#[#[#[h1,h2],h3],h4],h5],h6]:=h;refine#[h1,h2,λy hy=>h3 y hy,λy hy hf=>?_,h5,λj i x e1 e2=>?_]
 .rw[hX];show h4 y hy hf
 .have q:=h6 j<|List.mem_range.mpr (List.getElem?_eq_some_iff.mp e1).1;rw[e1,e2]at q;show of_decide_eq_true q
section
variable (P:c7) (w:cn) (K:PySem.W.Frag) (mg:Str -> Option ai) (base:aK) (cl:Nat -> ak)
def rh (k:Nat) (x:Str) (ps:List Str) (fn:List W->List Bx->O W):zt:=
 ∃ (f:ak) (fd:FuncData),kC P w K mg base (qk P w) k f fd ps (tV cl ps.length fn) /\ mg x=ae (.ref f) /\ PySem.W.keepIn K (.ref f)=ah /\ Binds K fd ps [] /\ ∃ o:aZ,K.lookup f=ae o /\ o.data=.func fd
def Def (x:Str) (st:b9) (ps:List Str):zt:=∃ (f:ak) (fd:FuncData),qj K x x st f fd /\ mg x=ae (.ref f) /\ Binds K fd ps []
end
section
variable {k:Nat} {ps:List Str} {m:aC} {nn kk:Nat}
theorem _root_.L2.qj.obj {qual:Str}{f:ak}(F:qj K x qual st f fd):∃ o:aZ,K.lookup f=ae o /\ o.data=.func fd:=by
 let#[#[oc,od,kV,doc,pm,an,bH,ct,qy,_,l,_],_]:=F;show#[_,l,rfl]
theorem Uu (d:Def K mg x st ps) (S:xu N ps<|fR st)
 (vE:∀ (f:ak) (bH:ai) (A:eu) (outer:List Env) (s:ax) (H:Hp) (E:XK) (n:Nat) (F0:Hp),c8 k (A.deeper<|envOfC x (fR st) s.heap.objs.size f bH) ->
  qm (uK yR P w K mg base N x (fR st) f bH A outer s H E).xr #[H,n,F0] #[E0,cl] (gW st) m) (hn:N.length=nn:=by rfl) (ahV:k+1=kk:=by rfl):rh P w K mg base cl kk x ps (aV nn<|aP m):=by
 subst hn ahV;let#[f,fd,F,hm,hb]:=d;show#[f,fd,Wh F S λbH A outer s H E n F0 hr=>vE f bH A outer s H E n F0 hr,hm,F.kp,hb,F.obj]
end
section
variable {p:aM} {k k':Nat} {ps:List Str} {m:DE (List W)} {nn:Nat}
theorem Uv (h:rh X.prog X.w X.K X.mg X.base Z.cl k x ps fn) (hr:c8 k' X.A) (hk:k<=k') (hg:Gl X x) (hx:Passes (qk X.prog X.w) X Z.E) (ha:dF X T Z (e::es) m) (dE:(x==("__debug__":Str))=af:=by decide)
 (he:starEach (e::es) X.env=(af,eval e X.env)::starEach es X.env:=by rfl) (kT:(backTo pos<|starEach es X.env).any (·.1)=af:=by rfl) (hn:ps.length=nn:=by rfl):PD X T Z (.Call (.Name x p) (e::es) [] pos) (fm fn nn m):=by
 subst hn;let#[f,fd,G,hm,ahW,hb,_]:=h;show OR G (hr.mono hk) hg hm ahW hb hx ha dE he kT
end
end L2.DL
namespace HT
structure SB (kd:SortKind) (b:Array Keyed) (z:SortSt):zt where
 pm:(arrOf z).Perm b
 kd:kindOf z=kd
 fl:failedOf z=ag
 pn:pendingOf z=#[]
theorem SB.len {kd:SortKind}{b:Array Keyed}{z:SortSt}(g:SB kd b z):(arrOf z).size=b.size:=g.pm.size_eq
theorem SB.put {kd:SortKind}{b:Array Keyed}{z:SortSt}(g:SB kd b z) {c:Array Keyed}(q:c.Perm<|arrOf z):SB kd b (setArr z c):=#[q.trans g.pm,g.kd,g.fl,g.pn]
section
variable {s:ax}
def ud (prog:c7) (w:cn) (A:eu) (E:ai->ax->zt) (s:ax) (κ:KeyKind) (kd:SortKind) (b:Array Keyed):zt:=
 ∀ (x y:Keyed),x∈b.toList->y∈b.toList->∀ (Q:Bool->ax->zt) (E':ai->ax->zt),Q (κ.blt ((κ.keyOf x.1).getD κ.dflt)<|(κ.keyOf y.1).getD κ.dflt) s->wpAny zi A (keyLt' kd x.1 y.1) Q E' s
variable {κ:KeyKind} {kd:SortKind} {b:Array Keyed}
noncomputable abbrev kx (κ:KeyKind) (z:SortSt) (i:Nat):κ.α:=KK κ (arrOf z) i
theorem SB.item {z:SortSt}(g:SB kd b z) {i:Nat}(hi:i<b.size):∃ x,(arrOf z)[i]?=ae x /\ x∈b.toList /\ kx κ z i=(κ.keyOf x.1).getD κ.dflt:=by
 have hz:=g.len▸hi;refine#[(arrOf z)[i],getElem?_pos _ i hz,(Array.perm_iff_toList_perm.mp g.pm).mem_iff.mp zj,?_];simp[KK,getElem?_pos (arrOf z) i hz]
theorem ask (C:ud prog w A E s κ kd b) {z:SortSt}(g:SB kd b z) {i:Nat}(hi:i<b.size) (hj:j<b.size) {Q:Option Bool->SortSt->zt}
 (q:Q (ae<|κ.blt (kx κ z i)<|kx κ z j) z):wpS zi A E s (ltAt' i j) Q z:=by
 let#[x,ex,mx,ahX]:=g.item hi;let#[y,ey,my,ahY]:=g.item hj;rw[ahX,ahY]at q;rw[ltAt'_eq];refine cB<|xb ?_;dsimp only;rw[elem'_eq,elem'_eq,ex,ey];refine cB<|dO<|cB<|dO ?_;rw[lt'_eq];refine cB<|xb ?_;rw[g.kd];show cB<|Xj<|uA<|C x y mx my _ _ #[rfl,dO q]
def Up (κ:KeyKind) (z:SortSt) (n:Nat):zt:=∀ i j,i<=j->j<n->κ.kle (kx κ z i) (kx κ z j)
def Dn (κ:KeyKind) (z:SortSt) (n:Nat):zt:=∀ i j,i<=j->j<n->κ.kle (kx κ z j) (kx κ z i)
theorem Up.one {z:SortSt}(h:n<=1):Up κ z n:=λi j a c=>by
 have e:i=j:=by lia
 subst e;show xk _
theorem Up.more {z:SortSt}(u:Up κ z n) (h:1<=n) (l:κ.kle (kx κ z<|n-1)<|kx κ z n):Up κ z (n+1):=λi j a c=>by
 rcases wN j n with c'|c'
 .show u i j a c'
 obtain rfl:j=n:=by lia
 rcases wN i j with a'|a'
 .show Hy (u i _ za za) l
 .obtain rfl:i=j:=by lia
  show xk _
theorem Dn.more {z:SortSt}(u:Dn κ z n) (h:1<=n) (l:κ.kle (kx κ z n)<|kx κ z<|n-1):Dn κ z (n+1):=λi j a c=>by
 rcases wN j n with c'|c'
 .show u i j a c'
 obtain rfl:j=n:=by lia
 rcases wN i j with a'|a'
 .show Hy l<|u i _ za za
 .obtain rfl:i=j:=by lia
  show xk _
theorem asc (C:ud prog w A E s κ kd b) {z:SortSt}(g:SB kd b z) {a:Nat}(hn:n<=b.size) (h1:1<=a) (h2:a<=n) (u:Up κ z a) {Q:AscSt->SortSt->zt}
 (q:∀ m,a<=m->m<=n->Up κ z m->(m<n->κ.klt (kx κ z m) (kx κ z<|m-1))->Q (ag,m) z):wpS zi A E s (ascLoop a n) Q z:=by
 refine xc (I:=λm c y=>y=z /\ c=(ag,m) /\ Up κ z m) ?_ ?_ #[rfl,rfl,u]
 .intro m c y g1 g2 ⟨e1,e2,u'⟩;subst e1;subst e2;refine cB<|ask C g za za ?_;cases e:κ.blt _ _ with
  |true=>show dO<|q m g1 (nL g2) u' λ_=>e
  |false=>show dO #[rfl,rfl,u'.more za e]
 .intro c y ⟨e1,e2,u'⟩;subst e1;subst e2;rw[aaN h2]at u' ⊢;show q n h2 (aE n) u' λh=>absurd h<|hZ n
theorem GB {z:SortSt}{i k:Nat}(hj:j<=(arrOf z).size):kx κ (setArr z<|mirror (arrOf z) i j<|(j-i) / 2) k=if i<=k /\ k<j then kx κ z (i+j-1-k) else kx κ z k:=KK_mirror hj k
theorem lQ {z:SortSt}{i:Nat}(hj:j<=(arrOf z).size) (e:∀ k,i<=k->k<j->kx κ z k=kx κ z (j-1)) (k:Nat):kx κ (setArr z<|mirror (arrOf z) i j<|(j-i) / 2) k=kx κ z k:=KK_mirror_equal hj e k
def Ends (prog:c7) (w:cn) (A:eu) (E:ai->ax->zt) (s:ax) (κ:KeyKind) (kd:SortKind) (b:Array Keyed) (n:Nat) (Q:Option Nat->SortSt->zt):zt:=
 ∀ m y,SB kd b y->1<=m->m<=n->Up κ y m->Q (ae m) y
theorem turned (C:ud prog w A E s κ kd b) {z:SortSt}(g:SB kd b z) {a:Nat}(hn:n<=b.size) (h1:1<=a) (h2:a<=n) (d:Dn κ z a) {Q:Option Nat->SortSt->zt}(q:Ends prog w A E s κ kd b n Q) :
 wpS zi A E s (tail3 a n) Q z:=by
 have hz:=g.len▸cx h2 hn;have g':SB kd b (setArr z<|mirror _ 0 a<|(a-0) / 2):=g.put<|Ht _ _ _ _;refine cB<|Hu<|cB<|asc C g' hn h1 h2 (λi j c1 c2=>?_) λm m1 m2 um _=>dO<|q m _ g' (cx h1 m1) m2 um;rw[GB hz,GB hz,if_pos #[dM i,by lia],if_pos #[dM j,c2]];show d _ _ za za
def Alike (κ:KeyKind) (z:SortSt) (m e:Nat):zt:=e+1<=m /\ ∀ i,m-(e+1)<=i->i<m->kx κ z i=kx κ z (m-1)
theorem Alike.zero {z:SortSt}{m:Nat}(h:1<=m):Alike κ z m 0:=#[h,λi h1 h2=>by rw[show i=m-1 by lia]]
theorem desc (C:ud prog w A E s κ kd b) {z:SortSt}(g:SB kd b z) {a:Nat}(hn:n<=b.size) (h1:1<=a) (h2:a<=n) (d:Dn κ z a) {Q:DescSt->SortSt->zt}
 (q:∀ m e y,SB kd b y->a<=m->m<=n->Dn κ y m->Alike κ y m e->Q (ag,m,e) y):wpS zi A E s (descLoop a n) Q z:=by
 refine xc (I:=λm c y=>∃ e,c=(ag,m,e) /\ SB kd b y /\ Dn κ y m /\ Alike κ y m e) ?_ ?_ #[0,rfl,g,d,.zero h1]
 .intro m c y g1 g2 ⟨e,ec,gy,dy,al⟩;subst ec;have hm:m<=(arrOf y).size:=by rw[gy.len];lia
  refine cB<|ask C gy (show m<b.size by lia) (show m-1<b.size by lia) ?_;cases t:κ.blt _ _ with
  |true=>
    have d':=dy.more za<|Hz t;dsimp only;by_cases he:e>0
    .rw[if_pos he];refine cB<|Hu<|dO #[0,rfl,gy.put<|Ht _ _ _ _,λi j c1 c2=>?_,.zero za];rw[lQ hm al.2,lQ hm al.2];show d' i j c1 c2
    .rw[if_neg he];show dO #[0,rfl,gy,d',.zero za]
  |false=>
    dsimp only;rw[if_neg zj];refine cB<|ask C gy za za ?_;cases t2:κ.blt _ _ with
    |true=>show dO<|q m e y gy g1 za dy al
    |false=>
      refine dO #[e+1,rfl,gy,dy.more za t2,by have:=al.1;lia,λi c1 c2=>?_];rw[show m+1-1=m by lia];by_cases hi:i=m
      .rw[hi]
      .rw[(abK t2 t)];show al.2 i za za
 .intro c y ⟨e,ec,gy,dy,al⟩;subst ec;rw[aaN h2]at dy al ⊢;show q n e y gy h2 (aE n) dy al
theorem fall (C:ud prog w A E s κ kd b) {z:SortSt}(g:SB kd b z) {a:Nat}(hn:n<=b.size) (h2:a+1<=n) (d:Dn κ z<|a+1) {Q:Option Nat->SortSt->zt}(q:Ends prog w A E s κ kd b n Q) :
 wpS zi A E s (descPart a n) Q z:=by
 refine cB<|Xj<|pW #[rfl,cB<|desc C g hn (Nat.succ_pos a) h2 d λm e y gy m1 m2 dy al=>?_];by_cases he:e>0
 .rw[if_pos he];have hm:m<=(arrOf y).size:=by rw[gy.len];lia
  refine cB<|Hu<|turned C (gy.put<|Ht _ _ _ _) hn za m2 (λi j c1 c2=>?_) q;rw[lQ hm al.2,lQ hm al.2];show dy i j c1 c2
 .rw[if_neg he];show turned C gy hn za m2 dy q
theorem count (C:ud prog w A E s κ kd b) {z:SortSt}(g:SB kd b z) (hn:n<=b.size) (h1:1<=n) {Q:Option Nat->SortSt->zt}(q:Ends prog w A E s κ kd b n Q) :
 wpS zi A E s (countRun' 0 n) Q z:=by
 rw[countRun0_eq];refine cB<|asc C g hn (aE 1) h1 (.one<|aE 1) λm m1 m2 um last=>?_;by_cases hm:m=n
 .rw[if_pos (by simp[hm])];show dO<|q m z g m1 m2 um
 rw[if_neg (by simp[hm])];have lt:=last za;by_cases h3:m>1
 .rw[if_pos h3];refine cB<|ask C g za za ?_;cases t:κ.blt _ _ with
  |true=>show dO<|q m z g m1 m2 um
  |false=>
    dsimp only;have al:∀ k,0<=k->k<m->kx κ z k=kx κ z _:=λk _ hk=>
     abK (um k _ za za) (Hy t<|um 0 k (dM k) hk)
    have hz:m<=(arrOf z).size:=by rw[g.len];lia
    refine cB<|Hu<|fall C (g.put<|Ht _ _ _ _) hn za (λi j c1 c2=>?_) q;rw[lQ hz al,lQ hz al];have d0:Dn κ z m:=λi j c1 c2=>by rw[al i (dM _) za,al j (dM _) c2];show xk _
    show d0.more m1 (Hz lt) i j c1 c2
 .rw[if_neg h3];obtain rfl:m=1:=by lia
  have d0:Dn κ z 1:=λi j c1 c2=>by
   obtain rfl:i=j:=by lia
   show xk _
  show fall C g hn za (d0.more (aE 1)<|Hz lt) q
end
section
variable {s:ax} {κ:KeyKind} {kd:SortKind} {b:Array Keyed}
def Fits (κ:KeyKind) (z:SortSt) (k l r:Nat):zt:=(∀ i,i<l->κ.kle (kx κ z i) (kx κ z k)) /\ ∀ i,r<=i->i<k->κ.klt (kx κ z k) (kx κ z i)
theorem GC {z:SortSt}{k l i:Nat}(hk:k<(arrOf z).size) (hl:l<=k):kx κ (setArr z<|bubble (arrOf z) k<|k-l) i=if i=l then kx κ z k else if l<i /\ i<=k then kx κ z (i-1) else kx κ z i:=by
 have e:=KK_bubble (κ:=κ) hk (Nat.sub_le k l) i;rw[show k-(k-l)=l by lia]at e;show e
theorem Up.insert {z:SortSt}{k l:Nat}(u:Up κ z k) (hk:k<(arrOf z).size) (hl:l<=k) (f:Fits κ z k l l):Up κ (setArr z<|bubble (arrOf z) k<|k-l) (k+1):=by
 intro i j c1 c2;rw[GC hk hl,GC hk hl];by_cases i1:i=l
 .rw[if_pos i1];by_cases j1:j=l
  .rw[if_pos j1];show xk _
  .rw[if_neg j1,if_pos #[by lia,by lia]];show Hz<|f.2 _ za za
 .rw[if_neg i1];by_cases i2:l<i /\ i<=k
  .rw[if_pos i2,if_neg za,if_pos #[by lia,by lia]];show u _ _ za za
  .rw[if_neg i2];by_cases j1:j=l
   .rw[if_pos j1];show f.1 i za
   .rw[if_neg j1];by_cases j2:l<j /\ j<=k
    .rw[if_pos j2];show u _ _ za za
    .rw[if_neg j2];show u _ _ c1 za
theorem ahZ (C:ud prog w A E s κ kd b) {z:SortSt}(g:SB kd b z) {m:Nat}(hn:n<=b.size) (hm:m<=n) (u:Up κ z m) {Q:Bool->SortSt->zt}(q:∀ y,SB kd b y->Up κ y n->Q ah y) :
 wpS zi A E s (binarySort' 0 n m) Q z:=by
 rw[binarySort'_eq];erw[QR];refine cB<|Hv (Q:=λc y=>c=(ag,()) /\ SB kd b y /\ Up κ y n) (xc (I:=λk c y=>c=(ag,()) /\ SB kd b y /\ Up κ y (min k n)) ?_ ?_ ?_) ?_
 .intro k c y k1 k2 ⟨ec,gy,uy⟩;rw[QS<|nL k2]at uy;have kb:k<b.size:=by lia
  have ks:k<(arrOf y).size:=by rw[gy.len];show kb
  refine cB<|Hv (Q:=λc y'=>y'=y /\ ∃ l r,c=(ag,l,r) /\ l<=k /\ Fits κ y k l l) (xc (I:=λx c y'=>y'=y /\ ∃ l r,c=(ag,l,r) /\ l<=r /\ r<=k /\ r-l<=k-x /\ Fits κ y k l r) ?_ ?_ ?_) ?_
  .intro x c y' _ x2 ⟨ey,l,r,ec,p1,p2,p3,f⟩;subst ey;subst ec;dsimp only;by_cases lr:l>=r
   .rw[if_pos lr];obtain rfl:l=r:=by lia
    show dO #[rfl,l,l,rfl,p2,f]
   rw[if_neg lr];refine cB<|ask C gy kb za ?_;cases t:κ.blt _ _ with
   |true=>show dO #[rfl,l,(l+r) / 2,rfl,by lia,by lia,by lia,f.1,λi i1 i2=>KeyOrd.klt_of_klt_of_kle t<|uy _ _ i1 i2]
   |false=>show dO #[rfl,(l+r) / 2+1,r,rfl,by lia,by lia,by lia,λi i1=>Hy (uy i _ za za) t,f.2]
  .intro c y' ⟨ey,l,r,ec,p1,p2,p3,f⟩;obtain rfl:l=r:=by lia
   show#[ey,l,l,ec,p2,f]
  .show#[rfl,0,k,rfl,dM k,aE k,aE _,λi hi=>absurd hi<|QT i,λi i1 i2=>absurd i2 za]
  .intro c y' ⟨ey,l,r,ec,p,f⟩;subst ey;subst ec;change wpS _ _ _ _ _ _ _;rw[moveDown'_eq];refine cB<|Xk<|dO #[rfl,gy.put<|bubble_perm _ _ _,?_];rw[QS k2];show uy.insert ks p f
 .intro c y ⟨ec,gy,uy⟩;rw[show min _ n=n by lia]at uy;show#[ec,gy,uy]
 .refine#[rfl,g,?_];rcases wN m 1 with m0|m0
  .show .one za
  .rw[show min (max m 1) n=m by lia];show u
 .intro c y ⟨ec,gy,uy⟩;subst ec;show dO<|q y gy uy
def II (κ:KeyKind) (b:Array Keyed) (y:SortSt):zt:=(arrOf y).Perm b /\ failedOf y=ag /\ pendingOf y=(List.toArray [(0,b.size,0)]) /\ Up κ y b.size
theorem SB.fin {y:SortSt}(g:SB kd b y) (u:Up κ y b.size):II κ b (setPending y<|(pendingOf y).push (0,b.size,0)):=#[g.pm,g.fl,by rw[g.pn];rfl,u]
theorem runs (C:ud prog w A E s κ kd b) {z:SortSt}(g:SB kd b z) (h2:2<=b.size) (dU:b.size<64) {Q:Unit->SortSt->zt}(q:∀ y,(arrOf y).Perm b->failedOf y=ag->Up κ y b.size->Q () y) :
 wpS zi A E s sortRuns' Q z:=by
 have mr:minRun' b.size b.size 0=b.size:=by
  let#[f,e]:=Nat.exists_eq_add_of_lt (show 0<b.size by lia);have:minRun' (0+f+1) b.size 0=b.size:=by rw[minRun'_succ,if_pos dU];rfl
  rw[<-e]at this;show this
 rw[sortRuns'_eq];refine cB<|xb ?_;dsimp only;erw[g.len,mr];refine cB (Hv (Q:=λc y=>c=(ag,b.size) /\ II κ b y)
  (xc (I:=λx c y=>if x=0 then c=(ag,0) /\ SB kd b y else c=(ag,b.size) /\ II κ b y) ?_ ?_ (by rw[if_pos rfl];show#[rfl,g])) ?_)
 .intro x c y _ x2 I;by_cases x0:x=0
  .rw[if_pos x0]at I;let#[ec,gy]:=I;subst ec;subst x0;dsimp only;rw[if_neg za];erw[QP,Nat.min_self,QR];have fin:∀ y',SB kd b y'->Up κ y' b.size->(if (1)=0 then ((ag:Option PUnit),b.size)=(ag,0) /\ SB kd b (setPending y'<|(pendingOf y').push (0,b.size,0)) else ((ag:Option PUnit),b.size)=(ag,b.size) /\ II κ b _):=
    λy' g' u'=>by rw[if_neg za];show#[rfl,g'.fin u']
   refine cB<|count C gy (aE _) za λm y1 g1 m1 m2 u1=>?_;dsimp only;by_cases lt:m<b.size
   .rw[if_pos lt];refine cB<|Xj<|pW #[rfl,cB<|ahZ C g1 (aE _) m2 u1 λy3 g3 u3=>?_];rw[if_neg zj];refine cB<|xb ?_;rw[show (pendingOf y3).back?=ag by rw[g3.pn];rfl];show cB<|Xk<|dO<|fin y3 g3 u3
   .rw[if_neg lt];obtain rfl:m=b.size:=by lia
    refine cB<|xb ?_;rw[show (pendingOf y1).back?=ag by rw[g1.pn];rfl];show cB<|Xk<|dO<|fin y1 g1 u1
  .rw[if_neg x0]at I;let#[ec,fy]:=I;subst ec;dsimp only;rw[if_pos<|aE _];show dO #[rfl,fy]
 .intro c y I;rw[if_neg za]at I;show I
 .intro c y ⟨ec,fy⟩;subst ec;dsimp only;refine cB (Hv (xc (I:=λ_ c y'=>y'=y /\ c=(ag,())) ?_ (λ_ _ h=>h) #[rfl,rfl]) ?_)
  .intro x c y' _ _ ⟨e1,e2⟩;subst e1;subst e2;refine cB<|xb ?_;rw[if_pos (by rw[fy.2.2.1];show aE 1)];show dO #[rfl,rfl]
  .intro c y' ⟨e1,e2⟩;subst e1;subst e2;show dO<|q _ fy.1 fy.2.1 fy.2.2.2
end
theorem jD:∀ a,lexLt a a=af
 |[]=>rfl
 |x::a=>by rw[gC,if_pos rfl];show jD a
theorem mX:∀ a b c,lexLt a b=ah->lexLt b c=ah->lexLt a c=ah
 |[],[],_,h,_=>by cases h
 |[],_::_,[],_,h=>by cases h
 |[],_::_,_::_,_,_=>rfl
 |_::_,[],_,h,_=>by cases h
 |_::_,_::_,[],_,h=>by cases h
 | x::a,y::b,z::c,h,g=>by
   rw[gC]at *;by_cases e1:x=y
   .subst e1;rw[if_pos rfl]at h;by_cases e2:x=z
    .subst e2;rw[if_pos rfl]at g ⊢;show mX a b c h g
    .rw[if_neg e2]at g ⊢;show g
   .rw[if_neg e1]at h;by_cases e2:y=z
    .subst e2;rw[if_neg e1];show h
    .rw[if_neg e2]at g;have h':=of_decide_eq_true h;have g':=of_decide_eq_true g;rw[if_neg za];show decide_eq_true za
theorem jb:∀ a b,lexLt a b=af->lexLt b a=af->a=b
 |[],[],_,_=>rfl
 |[],_::_,h,_=>by cases h
 |_::_,[],_,h=>by cases h
 | x::a,y::b,h,g=>by
   rw[gC]at *;by_cases e:x=y
   .subst e;rw[if_pos rfl]at h g;rw[jb a b h g]
   .rw[if_neg e]at h;rw[if_neg<|Ne.symm e]at g;have h':=of_decide_eq_false h;have g':=of_decide_eq_false g;lia
theorem BX (a b c:List Int) (h:lexLt a c=ah):lexLt a b=ah \/ lexLt b c=ah:=by
 cases e:lexLt a b with
 |true=>show .inl zc
 |false=>
   refine .inr ?_;cases f:lexLt b a with
   |true=>show mX b a c f h
   |false=>rw[<-jb a b e f];show h
section
variable {s:ax}
theorem FE {x y:Int}{t u:Tok}(k:Bool) {Q:Bool->ax->zt}(h:Q (decide (x<y)) s):wpAny zi A (oneLt' k (.int x t)<|.int y u) Q E s:=by
 cases k with
 |true=>show oneLt_int h
 |false=>
   show aj<|(aby<|pB h)
theorem Cr (f:Bool) (x y:ai):keyLt' (tuples' f) x y=(do
 let xs <-Builtin.List.listItems x
 let ys <-Builtin.List.listItems y
 for ((p,q),i) in (xs.toList.zip ys.toList).zipIdx do
  if !(<-eqBool p q) then return <-oneLt' (f&&i==0) p q
 return decide (xs.size<ys.size)):=rfl
end
structure KP (P:aK->ai->List Int->zt):zt where
 inj:∀ {h:aK}{v:ai}{ns ms:List Int},P h v ns->P h v ms->ns=ms
 push:∀ {h:aK}{v:ai}{ns:List Int},P h v ns->∀ o:aZ,P (h.push o) v ns
 upd:∀ {h:aK}{v:ai}{ns:List Int},P h v ns->∀ {l:ak}{xs:Array ai}{n:Nat},h.get? l=ae (seqObj "list" xs n)->∀ f:aZ->aZ,P (h.update l f) v ns
section
variable {s:ax} {P:aK -> ai -> List Int -> zt} (KQ:KP P)
open Classical in
noncomputable def uU (P:aK->ai->List Int->zt) (h:aK):KeyKind where
 α:=List Int
 blt:=lexLt
 irrefl:=jD
 trans:=mX
 negTrans:=BX
 total:=jb
 keyOf v:=if p:∃ ns,P h v ns then ae p.choose else ag
 dflt:=[]
include KQ in
open Classical in
theorem Ao {v:ai}(p:P h v ns):((uU P h).keyOf v).getD []=ns:=by
 have e:∃ ns,P h v ns:=#[ns,p];change (if p:∃ ns,P h v ns then ae p.choose else ag).getD []=ns;rw[dif_pos e];show KQ.inj e.choose_spec p
def v3 (P:aK->ai->List Int->zt) (h:aK) (vs:List ai):zt:=vs.Pairwise λx y=>∀ ns ms,P h x ns->P h y ms->lexLt ms ns=af
def Y4 (P:aK->ai->List Int->zt) (prog:c7) (w:cn) (U:Nat) (s:ax) (vs:List ai):zt:=∀ (A:eu) (h':aK),A.units<=U->(∀ v ns,P s.heap v ns->P h' v ns) ->
 (∀ {Q:SortKind->ax->zt}{E:ai->ax->zt},Q (tuples' ah) { s with heap:=h' }->wpAny zi A (keyKind' vs.toArray) Q E { s with heap:=h' }) /\ ∀ E,ud prog w A E { s with heap:=h' } (uU P h') (tuples' ah) (pairsOf vs)
include KQ
theorem Mx (H:∀ v∈vs,∃ ns,P h v ns) (up:∀ v ns,P h v ns->P h' v ns) {z:SortSt}(pm:(arrOf z).Perm<|pairsOf vs) (u:Up (uU P h') z (pairsOf vs).size) :
 ((arrOf z).map (·.2)).toList.Perm vs /\ v3 P h ((arrOf z).map (·.2)).toList:=by
 have hl:(arrOf z).toList.Perm (vs.zip vs):=by rw[<-abz];show Array.perm_iff_toList_perm.mp pm
 have me:∀ p∈(arrOf z).toList,p.1=p.2 /\ p.1∈vs:=λp hp=>Xl<|hl.mem_iff.mp hp;rw[Array.toList_map];constructor
 .have:=hl.map (·.2);rw[aa2<|aE _]at this;show this
 .unfold v3;rw[tJ,List.pairwise_iff_getElem];intro i j hi hj yJ ns ms p q;have rj:i<(arrOf z).size:=by simpa using hi
  have IJ:j<(arrOf z).size:=by simpa using hj
  have g:=u i j (nL yJ) (by rw[<-pm.size_eq];show IJ);have ki:kx (uU P h') z i=ns:=by
   simp[KK,getElem?_pos (arrOf z) i rj];rw[abA,<-(me _ zj).1]at p;show Ao KQ<|up _ _ p
  have kj:kx (uU P h') z j=ms:=by
   simp[KK,getElem?_pos (arrOf z) j IJ];rw[abA,<-(me _ zj).1]at q;show Ao KQ<|up _ _ q
  rw[ki,kj]at g;show g
theorem Po {R:Fin->ax->zt}(ho:s.heap.get? a=ae (seqObj "list" vs.toArray n)) (H:∀ v∈vs,∃ ns,P s.heap v ns) {U:Nat}(hU:A.units<=U) (S:vs≠[]->Y4 P prog w U s vs) (dU:vs.length<64)
 (h:∀ out:Array ai,out.toList.Perm vs->v3 P s.heap out.toList->R (.done<|.ret .none) { s with heap:=sortedHeap s.heap a vs out }):wpAny zi A (Builtin.«list.sort» #[[.ref a],[]]) R E s:=by
 rw[list_sort_plain];have la:=bf ho;refine aj<|xa ho zc<|aj<|Hr ho zc ?_;obtain⟨k,Es⟩:∃ k,(s.heap.update a _).get? a=ae (seqObj "list" #[] k):=#[_,abu ho λ_=>#[]];refine aj<|Xm Es zc<|aj<|QI<|aj<|yq<|eQ ?_;generalize eh:((s.heap.update a _).push _).push _=h6;have up:∀ v ns,P s.heap v ns->P h6 v ns:=λv ns p=>eh▸KQ.push (KQ.push (KQ.upd p ho _) _) _;have IK:h6.get? a=ae (seqObj "list" #[] k):=by
  rw[<-eh];show aW _<|aW _ Es
 have fin:∀ out:Array ai,out.toList.Perm vs->v3 P s.heap out.toList->R _ { s with heap:=h6.update a _ }:=λout p q=>by
  rw[<-eh];show h out p q
 change wpAny _ A _ R E { s with heap:=h6 };dsimp only;have big:vs.length<=sizeLine+1:=by rw[bp];lia
 by_cases h2:vs.toArray.size<2
 .rw[if_pos h2,if_pos h2];refine aj<|aA ?_;rw[StateT.run_pure];refine aj<|aA ?_;dsimp only;have em:(Array.map (λx=>x.2)<|vs.toArray.zip vs.toArray)=vs.toArray:=by
   apply Array.toList_inj.mp;simp[aa2]
  rw[em];refine aj<|Xm IK zc<|aj<|Hr IK zc ?_;rw[bne_self_eq_false];refine aA<|fin vs.toArray (List.Perm.refl _) ?_;rw[bX]at h2;unfold v3;match vs,h2 with
  |[],_=>show List.Pairwise.nil
  |[x],_=>show List.pairwise_singleton _ _
 .rw[if_neg h2,if_neg h2];rw[bX]at h2;have ne:vs≠[]:=λe=>by rw[e]at h2;simp at h2
  have H6:∀ v∈vs,∃ ns,P h6 v ns:=λv m=>let ⟨ns,p⟩:=H v m;#[ns,up v ns p]
  refine aj<|(S ne A h6 hU up).1 ?_;refine aj<|kO (runs
   (Q:=λ_ y=>(arrOf y).Perm (pairsOf vs) /\ failedOf y=ag /\ Up (uU P h6) y (pairsOf vs).size) ((S ne A h6 hU up).2 _) #[Array.Perm.refl _,rfl,rfl,rfl] (by rw[Xn];lia) (by rw[Xn];show dU) λy a1 a2 a3=>#[a1,a2,a3]) ?_ λ_ _ e=>e
  rintro⟨⟨⟩,y⟩ s' ⟨es,pm,fl,u⟩;subst es;dsimp only;let#[o1,o2]:=Mx KQ H up pm u;refine aj<|Xm IK zc<|aj<|Hr IK zc ?_ (hsz2:=by rw[Array.size_map,pm.size_eq,Xn];show big);rw[fl,bne_self_eq_false];show aA<|fin _ o1 o2
theorem JU {l:ak}(hl:s.heap.IsList l vs.toArray) (H:∀ v∈vs,∃ ns,P s.heap v ns) {U:Nat}(hU:A.units+8<=U) (S:vs≠[]->Y4 P prog w U s vs) (dU:vs.length<64)
 (h:∀ out:Array ai,out.toList.Perm vs->v3 P s.heap out.toList->Q (.ref<|s.heap.objs.size+1) { s with heap:=sortedAll s.heap vs out }):wpAny zi A (call (.builtin "sorted") [.ref l]) Q E s:=by
 refine Xx Xc Xd Xe (Xf _) ?_;refine aj<|aA<|aj<|collect_list hl<|aj<|yq ?_;generalize eg:(s.heap.push _).update s.heap.objs.size _=g;have sg:g.objs.size=s.heap.objs.size+1:=by rw[<-eg,abm,uD]
 have up:∀ v ns,P s.heap v ns->P (g.push<|seqObj "list" vs.toArray 0) v ns:=λv ns p=>by
  rw[<-eg];show KQ.push (KQ.upd (KQ.push p _) (bE _ zc) _) _
 have gl:(g.push<|seqObj "list" vs.toArray 0).get? (s.heap.objs.size+1)=ae (seqObj "list" vs.toArray 0):=by rw[<-sg];show bE _ zc
 rw[sg];refine aj<|eQ<|eS Xg #[_,gl,rfl] Xh (Po KQ gl (λv m=>let ⟨ns,p⟩:=H v m;#[ns,up v ns p]) (show A.units+1+1<=U by lia) (λne A h2 hu k=>S ne A h2 hu λv ns p=>k v ns<|up v ns p) dU λout o1 o2=>#[_,rfl,aA #[_,rfl,?_]])<|Xi _;have:=h out o1<|List.Pairwise.imp (λ{x y} r ns ms p q=>r ns ms (up _ _ p)<|up _ _ q) o2;unfold sortedAll at this;rw[eg]at this;show this
omit KQ
end
end HT
namespace L2.DL
theorem Dm:∀ {rs:List ak}{us:List ai},Vals (rs.map V.ref) us->us=rs.map Value.ref
 |[],_,.nil=>rfl
 | r::rs,_,.cons q t=>by
   cases q;rw[Dm t];rfl
end L2.DL
namespace HT
inductive aT where
 |i (n:Int)|s (x:Str)
 deriving DecidableEq
noncomputable def aT.code:aT->List Int
 |.i n=>[n]
 |.s x=>x.cps.toList.map (λ(c:Nat)=>(c:Int)+1)++[0]
noncomputable def aT.like:aT->aT->Bool
 |.i _,.i _=>ah
 |.s _,.s _=>ah
 |_,_=>af
def br (l:List aT):List Int:=l.flatMap (λd=>1::d.code)++[0]
def hG (l m:List aT):Bool:=(l.zip m).all λp=>p.1.like p.2
theorem Do (r q:List Int):∀ (a b:List Nat),a≠b->lexLt ((a.map λ(c:Nat)=>(c:Int)+1)++[0]++r) ((b.map λ(c:Nat)=>(c:Int)+1)++[0]++q)=decide (a<b)
 |[],[],h=>absurd zc h
 | [],y::b,_=>by
   change lexLt (0::_) (((y)+1)::_)=_;rw[gC,if_neg za,decide_eq_true za,decide_eq_true zj]
 | x::a,[],_=>by
   change lexLt (((x)+1)::_) (0::_)=_;rw[gC,if_neg za,decide_eq_false za,decide_eq_false zj]
 | x::a,y::b,h=>by
   change lexLt (((x)+1)::_) (((y)+1)::_)=_;rw[gC];by_cases e:x=y
   .subst e;rw[if_pos rfl];refine(Do r q a b λz=>h (by rw[z])).trans ?_;by_cases c:a<b
    .rw[decide_eq_true c,decide_eq_true (by simpa using c)]
    .rw[decide_eq_false c,decide_eq_false (by simpa using c)]
   .rw[if_neg za];by_cases c:x<y
    .rw[decide_eq_true za,decide_eq_true<|List.cons_lt_cons_iff.mpr<|.inl c]
    .rw[decide_eq_false za,decide_eq_false ?_];intro z;rcases List.cons_lt_cons_iff.mp z with z|z
     .lia
     .lia
noncomputable def aT.lt:aT->aT->Bool
 |.i n,.i m=>decide (n<m)
 |.s x,.s y=>decide (x.cps.toList<y.cps.toList)
 |_,_=>af
theorem aT.app (r q:List Int):∀ {a b:aT},a.like b=ah->a≠b->lexLt (a.code++r) (b.code++q)=a.lt b
 | .i n,.i m,_,h=>by
   change lexLt (n::r) (m::q)=_;rw[gC,if_neg λz=>h (by rw[z])];rfl
 |.s x,.s y,_,h=>Do r q _ _ λz=>h (by
  let#[#[a]]:=x;let#[#[b]]:=y;have z':a=b:=z;rw[z'])
theorem My (a r q:List Int):lexLt (a++r) (a++q)=lexLt r q:=by
 induction a with
 |nil=>rfl
 |cons x a ih=>rw[Hh,Hh,gC,if_pos rfl,ih]
def cH:List aT->List aT->Bool
 |[],m=>!m.isEmpty
 |_::_,[]=>af
 |a::l,b::m=>if a=b then cH l m else a.lt b
theorem Cs:∀ (l m:List aT),hG l m=ah->lexLt (br l) (br m)=cH l m
 |[],[],_=>rfl
 | [],b::m,_=>by
   change lexLt _ _=_;rfl
 | a::l,[],_=>by
   change lexLt _ _=_;rfl
 | a::l,b::m,h=>by
   have h':(a.like b&&hG l m)=ah:=h;rw[aI]at h';have e1:br (a::l)=1::(a.code++br l):=by simp[br]
   have e2:br (b::m)=1::(b.code++br m):=by simp[br]
   rw[e1,e2,gC,if_pos rfl];unfold cH;by_cases c:a=b
   .rw[if_pos c,c,My];show Cs l m h'.2
   .rw[if_neg c];show aT.app _ _ h'.1 c
noncomputable def kZ (h:aK) (v:ai):aT->zt
 |.i n=>∃ t,v=.int n t
 |.s x=>∃ t,v=.str x t
inductive eE (h:aK):List ai->List aT->zt
 |nil:eE h [] []
 |cons {v:ai}{d:aT}{vs:List ai}{l:List aT}:kZ h v d->eE h vs l->eE h (v::vs) (d::l)
def ue (L:List<|List aT) (h:aK) (v:ai) (ns:List Int):zt:=∃ a vs n l,v=.ref a /\ IsTup h a vs.toArray /\ eE h vs (.i n::l) /\ .i n::l∈L /\ ns=br (.i n::l)
theorem kZ.inj {v:ai}:∀ {a b:aT},kZ h v a->kZ h v b->a=b
 |.i n,.i m,⟨t,e⟩,⟨u,f⟩=>by rw[e]at f;cases f;rfl
 |.s n,.s m,⟨t,e⟩,⟨u,f⟩=>by rw[e]at f;cases f;rfl
 |.i n,.s m,⟨t,e⟩,⟨u,f⟩=>by rw[e]at f;cases f
 |.s n,.i m,⟨t,e⟩,⟨u,f⟩=>by rw[e]at f;cases f
theorem eE.inj {h:aK}{vs:List ai}{l m:List aT}(p:eE h vs l) (q:eE h vs m):l=m:=by
 induction p generalizing m with
 |nil=>cases q;rfl
 |cons a _ ih=>cases q with|cons b q=>rw[a.inj b,ih q]
theorem kZ.keep {v:ai}{d:aT}(p:kZ h v d):kZ h' v d:=by
 cases d with
 |i n=>show p
 |s x=>show p
theorem eE.keep {h h':aK}{vs:List ai}{l:List aT}(p:eE h vs l):eE h' vs l:=by
 induction p with
 |nil=>show .nil
 |cons a _ ih=>show .cons a.keep ih
theorem Mz (o:aZ):∀ a vs,IsTup h a vs->IsTup (h.push o) a vs:=λa vs ⟨u,e1,e2⟩=>#[u,aW _ e1,e2]
theorem Pp {l:ak}{xs:Array ai}(hl:h.get? l=ae (seqObj "list" xs n)) (f:aZ->aZ):∀ a vs,IsTup h a vs->IsTup (h.update l f) a vs:=λa vs ⟨u,e1,e2,e3⟩=>by
 refine#[u,?_,e2,e3];by_cases q:l=a
 .subst q;rw[hl]at e1;cases e1;injection (e2) with e4;show absurd e4 ze
 .rw[Heap.get?_update_ne _ _ _ _<|Ne.symm q];show e1
theorem cJ (L:List<|List aT):KP (ue L) where
 inj:=by
  rintro h v ns ms ⟨a,vs,n,l,rfl,⟨o,e1,_,k,e2⟩,i1,_,rfl⟩ ⟨a',yW,n',l',e,⟨o',f1,_,k',f2⟩,i2,_,rfl⟩;cases e;rw[e1]at f1;cases f1;rw[e2]at f2;injection f2 with g _;have:vs=yW:=by simpa using g
  subst this;rw[i1.inj i2]
 push:=λ⟨a,vs,n,l,e,t,i,m,c⟩ o=>#[a,vs,n,l,e,Mz o _ _ t,i.keep,m,c]
 upd:=λ⟨a,vs,n,l,e,t,i,m,c⟩ _ _ _ hl f=>#[a,vs,n,l,e,Pp hl f _ _ t,i.keep,m,c]
section
variable {s:ax}
theorem Wl {v:ai}{a b:aT}(hu:A.units<cLine) (p:kZ s.heap v a) (q:kZ s.heap u b) (hl:a.like b=ah) {Q:Bool->ax->zt}(h:Q (decide (a=b)) s):wpAny zi A (eqBool v u) Q E s:=by
 cases a with
 |i n=>
   cases b with
   |i m=>
     let#[t,rfl]:=p;let#[t',rfl]:=q;refine aab ?_;rw[show (n==m)=decide (aT.i n=aT.i m) by by_cases e:n=m<;>simp[e]];show h
   |_=>cases hl
 |s x=>
   cases b with
   |s y=>
     let#[t,rfl]:=p;let#[t',rfl]:=q;refine XE x t y t' prog w E Q ?_;rw[show (x==y)=decide (aT.s x=aT.s y) by by_cases e:x=y<;>simp[e]];show h
   |_=>cases hl
theorem Wm {v:ai}{a b:aT}(hu:A.units<cLine) (k:Bool) (hk:k=ah->∃ n,a=.i n) (p:kZ s.heap v a) (q:kZ s.heap u b) (hl:a.like b=ah) {Q:Bool->ax->zt}(h:Q (a.lt b) s):wpAny zi A (oneLt' k v u) Q E s:=by
 have gen:∀ {v u}{c},k=af->(∀ {R},R (.bool c) s->wpAny _ A (compareOp .Lt v u) R E s)->Q c s->wpAny zi A (oneLt' k v u) Q E s:=λ{v u c} z f h=>by
  rw[oneLt'_eq,z,if_neg zj];show aj<|f<|pB h
 cases a with
 |i n=>
   cases b with
   |i m=>let#[t,rfl]:=p;let#[t',rfl]:=q;show FE k h
   |_=>cases hl
 |s x=>
   have z:k=af:=by cases k with|true=>let#[n,e]:=hk zc;cases e|false=>rfl
   cases b with
   |s y=>let#[t,rfl]:=p;let#[t',rfl]:=q;show gen z (λr=>lt_str r) h
   |_=>cases hl
theorem eE.length {h:aK}{vs:List ai}{l:List aT}(p:eE h vs l):vs.length=l.length:=by
 induction p with
 |nil=>rfl
 |cons _ _ ih=>rw[bD,bD,ih]
theorem Pq (hu:A.units<cLine) {l m:List aT}(p:eE s.heap vs l) (q:eE s.heap us m) (hl:hG l m=ah) (i:Nat) (h0:i=0->∀ d r,l=d::r->∃ n,d=.i n) {R:(Option Bool×PUnit)->ax->zt}
 (k:∀ r,(r=(ae<|cH l m,PUnit.unit) \/ (r=(ag,PUnit.unit) /\ cH l m=decide (vs.length<us.length)))->R r s) :
 wpAny zi A (forIn ((vs.zip us).zipIdx i) ((ag,PUnit.unit):Option Bool×PUnit) λ(z:(ai×ai)×Nat) _=>(do
  let z1 <-eqBool z.1.1 z.1.2
  if (!z1)=ah then do
   let r <-oneLt' (ah&&z.2==0) z.1.1 z.1.2
   pure (ForInStep.done (ae r,PUnit.unit))
  else pure (ForInStep.yield (ag,PUnit.unit)))) R E s:=by
 induction p generalizing us m i with
 |nil=>
   refine aA<|k _<|.inr #[rfl,?_];cases q with
   |nil=>rfl
   |cons _ q=>unfold cH;simp
 |@cons v d vs l pa p ih=>
   cases q with
   |nil=>
     show aA<|k _ (.inr #[rfl,by unfold cH;simp])
   |@cons u e us m qa q=>
     have nu:(d.like e&&hG l m)=ah:=hl;rw[aI]at nu;rw[vj,Q0,wQ];refine aj<|aj<|Wl hu pa qa nu.1 ?_;by_cases c:d=e
     .subst c;rw[if_neg zj];refine aA<|ih q nu.2 _ (λz=>by lia) λr hr=>k r ?_;have:cH (d::l) (d::m)=cH l m:=by conv=>lhs;unfold cH;rw[if_pos rfl]
      rw[this];rcases hr with hr|⟨hr,Et⟩
      .show .inl hr
      .show .inr #[hr,by rw[Et];simp]
     .rw[if_pos (by simp[c])];refine aj (Wm hu _ (λz=>?_) pa qa nu.1<|aA<|aA<|k _<|.inl ?_)
      .have:i=0:=by simpa using z
       show h0 this d l zc
      .have:cH (d::l) (e::m)=d.lt e:=by conv=>lhs;unfold cH;rw[if_neg c]
       rw[this]
theorem JV {L:List (List aT)}(C:∀ l∈L,∀ m∈L,hG l m=ah) {U:Nat}(hU:U<cLine) (H:∀ v∈vs,∃ ns,ue L s.heap v ns) (ne:vs≠[]):Y4 (ue L) prog w U s vs:=λA h' hu up=>by
 have H':∀ v∈vs,∃ ns,ue L h' v ns:=λv m=>let ⟨ns,p⟩:=H v m;#[ns,up v ns p]
 refine#[λ{Q E} h=>?_,λE=>?_]
 .have ah0:∀ (us:List ai),(∀ v∈us,∃ ns,ue L h' v ns)->∀ {Q}{E},(∀ (ws) (is),ws.length=us.length->IntsAre ws is->Q (ws.map ae) { s with heap:=h' })->wpAny zi A (us.mapM firstOfTuple') Q E { s with heap:=h' }:=by
   intro us;induction us with
   |nil=>intro _ Q E k;rw[List.mapM_nil];show aA<|k [] [] zc .nil
   |cons u us ih=>
     intro G Q E k;let#[ns,a,xs,n,l,rfl,#[o,e1,e3,c,e2],it,_,_]:=G u<|bC ..;rw[List.mapM_cons];refine aj<|?_;refine aj<|vf #[o,e1,e3] ?_;rw[if_neg ze];refine aj<|xa e1 e2<|aA ?_;cases it with
     |cons hv _=>
       let#[t,rfl]:=hv;show aj<|ih (λv m=>G v<|bu _ m) λws is e q=>aA<|k _ _ (by simp[e])<|.cons n t q
  rw[keyKind'_eq,aa3];refine aj<|?_;rw[<-bind_pure_comp];refine aj<|ah0 vs H' λus is e k=>aA ?_;rw[if_pos zj];refine aj<|pW ?_;have e1:((us.map ae).toArray.filterMap id)=us.toArray:=by simp
  rw[e1,oneTypeOnly'_eq,aa3,mapM_typeOf_ints k];cases us with
  |nil=>show absurd (wX e.symm) ne
  |cons u us=>
    erw[map_pure,pure_bind];rw[show ((u::us).map λ_=>Value.type "int").toArray[0]?=ae (Value.type "int") by simp];dsimp only;rw[if_pos zj];show aj<|aA<|aA h
 .intro x y mx my Q E' q;rw[abz]at mx my;let#[ns,hx]:=H' _ (Xl mx).2;let#[ms,hy]:=H' _ (Xl my).2
  change Q (lexLt (((uU (ue L) h').keyOf x.1).getD [])<|((uU (ue L) h').keyOf y.1).getD []) _ at q
  rw[(Ao (cJ L) hx),(Ao (cJ L) hy)]at q;let#[a,ak3,n1,l1,e1,#[o1,x1,x2,c1,x3],i1,m1,rfl]:=hx;let#[b,Eb,n2,l2,e2,#[o2,y1,y2,c2,y3],i2,m2,rfl]:=hy;have lk:=C _ m1 _ m2;rw[Cs _ _ lk]at q;rw[e1,e2,Cr];refine aj<|xa x1 x3<|aj<|xa y1 y3 ?_;refine aj<|Pq (yA hu hU) i1 i2 lk 0 (λ_ d r z=>by cases z;show#[n1,rfl]) λr hr=>?_;rcases hr with rfl|⟨rfl,e⟩
  .show aA q
  .refine aA ?_;rw[bX,bX,<-e];show q
end
end HT
namespace L2.DL
open HT (aT br hG lexLt)
noncomputable def IL:D->Option aT
 |.int i=>ae<|.i i
 |.str x=>ae<|.s x
 |_=>ag
noncomputable def kK:aT->D
 |.i n=>.int n
 |.s x=>.str x
def sL:List D->Option (List aT)
 |[]=>ae []
 |d::l=>(IL d).bind λa=>(sL l).map λr=>a::r
def rowOf:D->Option (List aT)
 |.tup (.int i::l)=>(sL l).map λr=>.i i::r
 |_=>ag
def rowsOf:List D->Option (List<|List aT)
 |[]=>ae []
 |d::l=>(rowOf d).bind λa=>(rowsOf l).map λr=>a::r
def eF (l:List aT):D:=.tup<|l.map kK
theorem Pr {d:D}{a:aT}(e:IL d=ae a):d=kK a:=by
 cases d with
 |int i=>cases e;rfl
 |str x=>cases e;rfl
 |_=>cases e
theorem AQ:∀ {l:List D}{r:List aT},sL l=ae r->l=r.map kK:=by
 intro l_;induction l_ with
 |nil=>(intro _ e;cases e;rfl)
 |cons d l az=>
   intro r e;unfold sL at e;cases q:IL d with
   |none=>rw[q]at e;cases e
   |some a=>
     cases q2:sL l with
     |none=>rw[q,q2]at e;cases e
     |some t=>rw[q,q2]at e;cases e;rw[Pr q,az q2];rfl
theorem MA {d:D}{r:List aT}(e:rowOf d=ae r):d=eF r /\ ∃ n l,r=.i n::l:=by
 unfold rowOf at e;split at e
 .ext i l;cases q:sL l with
  |none=>rw[q]at e;cases e
  |some t=>rw[q]at e;cases e;rw[AQ q];show#[rfl,i,t,rfl]
 .cases e
theorem JW:∀ {l:List D}{rs:List (List aT)},rowsOf l=ae rs->l=rs.map eF /\ ∀ r∈rs,∃ n l,r=.i n::l:=by
 intro l_;induction l_ with
 |nil=>(intro _ e;cases e;show#[rfl,λr m=>nomatch m])
 |cons d l az=>
   intro rs e;unfold rowsOf at e;cases q:rowOf d with
   |none=>rw[q]at e;cases e
   |some a=>
     cases q2:rowsOf l with
     |none=>rw[q,q2]at e;cases e
     |some t=>
       rw[q,q2]at e;cases e;let#[h1,h2]:=MA q;let#[h3,h4]:=az q2;refine#[by rw[h1,h3];rfl,λr m=>?_];rcases bq.mp m with rfl|m
       .show h2
       .show h4 r m
def sM (rs:List<|List aT):List (List aT):=rs.mergeSort λa b=>!lexLt (br b) (br a)
theorem iL (rs:List<|List aT):(sM rs).Perm rs:=aaX rs _
theorem iG (rs:List<|List aT):(sM rs).Pairwise (λa b=>lexLt (br b) (br a)=af):=by
 show(aaY (le:=λa b:List aT=>!lexLt _ (br a)) (λa b c h1 h2=>by
  cases e:lexLt _ (br a) with
  |false=>rfl
  |true=>
    rcases HT.BX _ _ _ e with z|z
    .rw[z]at h2;cases h2
    .rw[z]at h1;cases h1) (λa b=>by
  rw[wO,tj,tj];cases e:lexLt _ (br a) with
  |false=>show .inl zc
  |true=>
    cases f:lexLt _ (br b) with
    |false=>show .inr zc
    |true=>have:=HT.mX _ _ _ e f;rw[HT.jD]at this;cases this) rs).imp λ{a b} z=>by simpa using z
theorem JX {a b:aT}(h:a.like b=ah):b.like a=ah:=by cases a<;>cases b<;>first|rfl|cases h
theorem AR:∀ {a b:List Nat},¬ a<b->¬ b<a->a=b
 |[],[],_,_=>rfl
 |[],y::b,h,_=>absurd zj h
 |x::a,[],_,h=>absurd zj h
 | x::a,y::b,h,g=>by
   rw[List.cons_lt_cons_iff]at h g;have e:x=y:=by
    rcases Nat.lt_trichotomy x y with z|z|z
    .show absurd (.inl z) h
    .show z
    .show absurd (.inl z) g
   subst e;rw[AR (λz=>h<|.inr #[rfl,z]) λz=>g<|.inr #[rfl,z]]
theorem Uw:∀ {a b:aT},a.like b=ah->a.lt b=af->b.lt a=af->a=b
 | .i n,.i m,_,h,g=>by
   have h':=of_decide_eq_false h;have g':=of_decide_eq_false g;rw[show n=m by lia]
 | .s x,.s y,_,h,g=>by
   have:=AR (of_decide_eq_false h)<|of_decide_eq_false g;let#[#[a]]:=x;let#[#[b]]:=y;have z':a=b:=this;rw[z']
theorem AS:∀ {l m:List aT},hG l m=ah->br l=br m->l=m
 |[],[],_,_=>rfl
 | [],b::m,_,e=>by
   have e':([0])=1::(b.code++br m):=by rw[show (1::(b.code++br m))=br (b::m) by simp[br]];show e
   simp at e'
 | a::l,[],_,e=>by
   have e':1::(a.code++br l)=([0]):=by rw[show (1::(a.code++br l))=br (a::l) by simp[br]];show e
   simp at e'
 | a::l,b::m,h,e=>by
   have h':(a.like b&&hG l m)=ah:=h;rw[aI]at h';have e':a.code++br l=b.code++br m:=by
    have:1::(a.code++br l)=1::(b.code++br m):=by rw[show (1::(a.code++br l))=br (a::l) by simp[br],show (1::(b.code++br m))=br (b::m) by simp[br]];show e
    show(List.cons.inj this).2
   have ab:a=b:=by
    by_cases c:a=b
    .show c
    .have x1:=HT.aT.app (br l) (br m) h'.1 c;have x2:=HT.aT.app (br m) (br l) (JX h'.1) λz=>c z.symm;rw[e',HT.jD]at x1;rw[<-e',HT.jD]at x2;show Uw h'.1 x1.symm x2.symm
   subst ab;rw[AS h'.2<|List.append_cancel_left e']
theorem AT {β:Type}{f:α->β}{l n:List β}(h:l.Perm n):∀ {m:List α},n=m.map f->∃ m':List α,l=m'.map f /\ m'.Perm m:=by
 induction h with
 |nil=>intro m e;cases m with|nil=>show⟨[],rfl,.nil⟩|cons _ _=>cases e
 |cons x _ ih=>
   intro m e;cases m with
   |nil=>cases e
   |cons a m=>
     let#[e1,e2]:=List.cons.inj e;let#[m',q1,q2]:=ih e2;show#[a::m',by rw[aU,<-q1,e1],q2.cons a]
 |swap x y l=>
   intro m e;match m,e with
   |a::b::m,e=>
     let#[e1,e2]:=List.cons.inj e;let#[e2,e3]:=List.cons.inj e2;show#[b::a::m,by rw[aU,aU,<-e1,<-e2,<-e3],.swap ..]
 |trans _ _ Y5 Y6=>
   intro m e;let#[m2,q1,q2]:=Y6 e;let#[m1,q3,q4]:=Y5 q1;show#[m1,q3,q4.trans q2]
def v7 (rs:List<|List aT):Bool:=rs.all λa=>rs.all λb=>hG a b
theorem o8 {rs a:List (List aT)}(hl:v7 rs=ah) (p:a.Perm rs) (ha:a.Pairwise λa b=>lexLt (br b) (br a)=af):a=sM rs:=by
 refine(p.trans (iL rs).symm).eq_of_pairwise (λx y mx my h1 h2=>AS ((λx mx y my=>cZ.mp (cZ.mp hl x mx) y my) x (p.mem_iff.mp mx) y<|(iL rs).mem_iff.mp my)<|HT.jb _ _ h2 h1) ha (iG rs)
section
variable {s:ax}
theorem Wn (I:Inv X pins σ H s) (sub:Sub F H) {a:aT}(h:Den F (kK a) v) (r:RelV v u):HT.kZ s.heap u a:=by
 cases a with
 |i n=>cases (h);show r
 |s x=>cases (h);show r
theorem FF (I:Inv X pins σ H s) (sub:Sub F H):∀ {l:List aT}{vs:List V}{us:List ai},aG F (l.map kK) vs->Vals vs us->HT.eE s.heap us l:=by
 intro l_;induction l_ with
 |nil=>(intro _ _ h r;cases (h);cases r;show .nil)
 |cons a l az=>
   intro _ _ h r;let#[v,t,rfl,h1,h2]:=h;cases r with
   |cons r1 r2=>show .cons (Wn I sub h1 r1)<|az h2 r2
theorem Ps:∀ {rs:List (List aT)}{vs:List V},aG F (rs.map eF) vs->∃ ps:List (ak×List aT),vs=ps.map (λp=>V.ref p.1) /\ rs=ps.map (·.2) /\ ∀ p∈ps,Den F (eF p.2) (.ref p.1):=by
 intro l_;induction l_ with
 |nil=>(intro _ h;show#[[],h,rfl,λp m=>nomatch m])
 |cons r rs az=>
   intro _ h;let#[v,t,rfl,h1,h2]:=h;let#[ps,e1,e2,e3]:=az h2;let#[a,ws,rfl,h3,h4]:=id h1;refine#[(a,r)::ps,by rw[e1];rfl,by rw[e2];rfl,λp m=>?_];rcases bq.mp m with rfl|m
   .show h1
   .show e3 p m
theorem MB:∀ {ps:List (ak×List aT)},(∀ p∈ps,Den F (eF p.2)<|.ref p.1)->aG F ((ps.map (·.2)).map eF) (ps.map λp=>V.ref p.1):=by
 intro l_;induction l_ with
 |nil=>show λ_=>rfl
 |cons p ps az=>show λh=>.cons (h p<|bC ..)<|az λq m=>h q<|bu _ m
end
def Y7 (K:PySem.W.Frag) (vs:List V) (H:Hp) (Q:VK):zt:=∃ (F:Hp) (p:ak) (xs:List V) (rs:List<|List aT),vs=[.ref p] /\ Sub F H /\ bN K H p xs /\ aG F (rs.map eF) xs /\ (∀ r∈rs,∃ n l,r=.i n::l) /\ rs.length<64 /\ v7 rs=ah /\
 ∀ (q:ak) (ys:List V),H q=ag->aG F ((sM rs).map eF) ys->Q (.ref q) (upd H q<|.lst ys)
theorem FG (hu:X.A.units+100<cLine):dQ X (.builtin "sorted") (Y7 X.K):=by
 intro pins s σ H xs us Q I rv h;let#[F,p,vs,rs,rfl,sub,hp,hd,hf,dU,adE,q]:=h;let#[u,rfl,ru]:=Vals.one rv;cases ru;let#[its,r1,p1,z1]:=I.list hp;let#[ps,e1,e2,e3]:=Ps hd;subst e1;have ei:its=ps.map λp=>Value.ref p.1:=by
  have:=Dm (by rw[bJ];show r1);rw[this,bJ];rfl
 subst ei;have row:∀ p∈ps,HT.ue rs s.heap _ (br p.2):=λp m=>by
  have mr:p.2∈rs:=by rw[e2];show bA.mpr #[p,m,rfl]
  let#[n,l,el]:=hf _ mr;let#[b,ws,eb,h3,h4]:=(e3 p m);cases eb;let#[us,r',pl,_]:=I.tuple<|.of<|sub _ _ h3;rw[el]at h4 mr;show#[p.1,us,n,l,rfl,pl,FF I sub h4 r',mr,by rw[el]]
 have HH:∀ v∈ps.map (λp=>Value.ref p.1),∃ ns,HT.ue rs s.heap v ns:=λv m=>by
  let#[r,mr,rfl]:=bA.mp m;show#[_,row r mr]
 have ln:ps.length=rs.length:=by rw[e2,a5]
 refine HT.JU (HT.cJ rs) p1.isList HH (aE _) (λne=>HT.JV (λx mx y my=>cZ.mp (cZ.mp adE x mx) y my) za HH ne) (by rw[a5,ln];show dU) λout o1 o2=>?_;let#[sN,q1,q2]:=AT o1 zc;let#[k,he]:=abw s.heap _ out;have ord:(sN.map (·.2)).Pairwise (λa b=>lexLt (br b) (br a)=af):=by
  unfold HT.v3 at o2;rw[q1,tJ]at o2;rw[tJ];show afW (λ{a b} ma mb r=>r _ _ (row a<|q2.mem_iff.mp ma)<|row b<|q2.mem_iff.mp mb) o2
 have ll:(sN.map λp=>V.ref p.1).length<=sizeLine:=by
  rw[a5,q2.length_eq,ln];show cx (nL dU) ze
 refine#[.ref _,_,I.laid (λb ob q=>abx q) (pX _) ?_,rfl,q _ _ (I.aD.fresh<|pX _) (by rw[<-(o8 adE (by rw[e2];show q2.map _) ord)];show MB λp m=>e3 p<|q2.mem_iff.mp m)];refine#[ll,out.toList,k,?_,he];rw[q1];have:∀ l:List (ak×List aT),Vals (l.map λp=>V.ref p.1) (l.map λp=>Value.ref p.1):=λl=>by
  induction l with
  |nil=>show .nil
  |cons a l ih=>show .cons zc ih
 show this sN
def dX:List D->Option Res:=λxs=>match uS xs with
 |some r=>ae r
 | none=>match xs with
   |[.lst l]=>(rowsOf l).bind λrs=>if rs.length<64 /\ v7 rs=ah then ae (.lst<|(sM rs).map eF) else ag
   |_=>ag
theorem FH (hu:X.A.units+100<cLine):dQ X (.builtin "sorted") (λvs H Q=>Iu X.K vs H Q \/ Y7 X.K vs H Q):=λpins s σ H xs us Q I rv h=>h.elim (JJ pins s σ H xs us Q I rv)<|FG hu pins s σ H xs us Q I rv
theorem ah1:eX (λvs H Q=>Iu K vs H Q \/ Y7 K vs H Q) dX:=by
 intro F H xs vs Q s sub rx e k;unfold dX at e;cases er:uS xs with
 |some r=>
   rw[er]at e;cases e;show .inl<|ahw F H xs vs Q s sub rx er k
 |none=>
   rw[er]at e;dsimp only at e;split at e
   .ext l;cases e1:rowsOf l with
    |none=>rw[e1]at e;cases e
    |some rs=>
      rw[e1]at e;erw[bY]at e;split at e
      .ext hc;cases e;let#[v,t,rfl,#[a,us,rfl,h1,h2],rt]:=rx;cases (rt);let#[b1,b2]:=JW e1;subst b1;show .inr #[F,a,us,rs,rfl,sub,.of h1,h2,b2,hc.1,hc.2,λq ys hq hy=>k _ _ #[q,ys,rfl,hq,rfl,hy]]
      .cases e
   .cases e
end L2.DL
namespace L2
theorem GD {src:List (Option Nat)}{elt:au}{scope:bT}{uV:aM}{wi:TI}{g:TG}{tf:TT}{te:TE}{ii:Nat} 
 (hc:X.calm=ah) (S:sx X N src scope) (hi:PI X tg iter wi)
 (hg:∀ cl s H C fp,PG (X.comp N scope cl s H C fp) tg g) (hf:∀ cl s H C fp,PF (X.comp N scope cl s H C fp) ifs tf) (he:∀ cl s H C fp,PE (X.comp N scope cl s H C fp) elt te)
 (hN:X.N.Nodup) (rj:X.N[ii]?=ae x) (hx:Loc X.env.scope x) (Eu:swapsWith zw (ae<|.Name x pos') uV.line X.env=pure ah)
 (Ew:X.fn x=ah \/ X.env.scope.names.lookup x=ae .local)
 (hs:∀ x,foldedSetIterable iter X.env x=pure x:=by intro _;rfl):PS X (.Assign [.Name x pos'] zw uV) (HI (Ie src wi g tf te)<|XS ii):=by
 intro pins s σ H Dn I h;rw[exec_Assign_Name_used _ _ _ _ Eu];refine aj<|EZ<|aj ?_
 change wpAny _ X.A _ _ _ s
 refine aj<|kO (aat zc hs (AE<|S.cells I.ok) S.kind S.names<|cb (hi pins s σ H _ I h) λxv s1 h1=>cb h1 λHK s2 h2=>?_) (λ_ s' hq=>aA<|aA hq) λ_ _ q=>q;let#[it,fp,tn,J,H2,e,I2,T,vA,f2,hW]:=h2;subst e;refine eR ?_;generalize hD:s2.heap.objs.size=D;have I3:Inv X pins σ (upd H2 D<|.lst []) { s2 with heap:=s2.heap.push { cls:=.type "list",dict:=ag,data:=.seq ([]).toArray } }:=by
  subst hD;show I2.laid (λb u e=>aW _ e) (aE _) #[dM _,[],0,.nil,bE _ zc]
 let#[W,#[m0,w0],turn]:=hW D<|I2.aD.fresh<|wL hD;have up:∀ b o,s2.heap.get? b=ae o->(s2.heap.push { cls:=.type "list",dict:=ag,data:=.seq ([]).toArray }).get? b=ae o:=λb u e=>aW _ e;have uI:=T.keep _ _ _ vA λb _ o e=>up b o e;have yS:∀ b∈fp,b<s2.heap.objs.size:=λb hb=>by let#[o,e,_]:=(T.obj _ _ vA) b hb;show bf e
 have f3:∀ b∈fp,nP X pins (upd H2 D<|.lst []) b:=λb hb=>#[by rw[fC (by rw[<-hD];show cw (yS b hb))];show(f2 b hb).1,(f2 b hb).2];generalize YF:({ s2 with heap:=s2.heap.push { cls:=.type "list",dict:=ag,data:=.seq ([]).toArray } })=s3 at I3 ⊢;have yT:s3.heap=s2.heap.push { cls:=.type "list",dict:=ag,data:=.seq ([]).toArray }:=by rw[<-YF]
 rw[<-yT]at uI;have YG:∀ b∈fp,b<s3.heap.objs.size:=λb hb=>by rw[yT,tL];show qA<|yS b hb
 generalize ag1:upd H2 D (.lst [])=H3 at I3 f3 w0;refine AG ?_;generalize yU:pushCells (s3.heap.push { cls:=.type "dict",data:=.dict #[] }) scope.names=h₁;have k1:∀ b o,s3.heap.get? b=ae o->h₁.get? b=ae o:=λb o e=>by rw[<-yU];show E2 _ _ b o<|aW _ e
 have IY:=C9 S I3 (λb hb=>#[f3 b hb,YG b hb]) (by rw[yU]);have yV:=T.keep _ _ _ uI λb _ o e=>k1 b o e;generalize xC:cellsFrom (s3.heap.objs.size+1) scope.names (eB X.env.cells scope.names [])=cl at IY ⊢;generalize hC:s3.heap.objs.size=C at IY ⊢;have vM:∀ {H'},(∀ b∈fp,H' b=ag)->∀ b∈fp,nP (X.comp N scope cl s3 H3 C fp) [] H' b:=λhn b hb=>by
  refine#[hn b hb,?_,?_,.inl hb,?_,λp hp=>absurd (hp) zj]
  .show(IY.ok.xn b hb).1
  .show IY.ok.xo b hb
  .intro x c e z;show(IY.ok.xn b hb).2 x c e z
 have fin:∀ (σ') (H') (s':ax),Inv (X.comp N scope cl s3 H3 C fp) [] σ' H' s'->∀ h',Heap.SameBut C s'.heap h'->Inv X pins σ H' { s' with heap:=h' }:=λσ' H' s' I' h' vN=>by
  have vO:H' C=ag:=I'.free;have kp:∀ b o,b≠C->s'.heap.get? b=ae o->h'.get? b=ae o:=λb o hb e=>vN.extBut b o hb e;have YH:s3.heap.get? C=ag:=by rw[<-hC];show Q8<|aE _
  have qf:∀ b o,s3.heap.get? b=ae o->b≠C:=λb o e z=>by rw[z,YH]at e;cases e
  have U:=I'.base;refine I3.ack I'.os #[λb o e n hb hx=>kp b o (qf b o e)<|U.keep b o e n hb hx,λb o e n hb hx=>?_,U.free,λb o e hx=>?_,U.nO,U.pI,U.qJ] ?_ I'.bare λb hb=>?_
  .let#[sl,e1]:=U.slot b o e n hb hx;show#[sl,kp b _ (qf b o e) e1]
  .let#[o',e1]:=U.there b o e hx;show#[o',kp b o' (qf b o e) e1]
  .intro b ob e;refine(I'.aD b ob e).stay (λc w' dD q=>kp c w' (λz=>?_) q) (λ_ q=>q) λ_ _ q=>q;rcases dD with z1|z1
   .rw[<-z1,z,vO]at e;cases e
   .rw[z,vO]at z1;cases z1
  .show#[(f3 b hb).2.2.2.1,(f3 b hb).2.1,λx c e=>(f3 b hb).2.2.2.2.1 x c e,(f3 b hb).2.2.2.2.2]
 have loop:∀ s4:ax,s4={ s3 with heap:=h₁ } ->
  codeAny zf X.A (.compLoop zw 0 (.ref it) (.ref D)<|compEnvC scope cl C X.env) (compPost zf X.A X.xe (ae<|assign (.Name x pos') X.env) (λ_ s'=>SP X pins Dn .next s') (.ref D) C) s4:=by
  rintro s4 rfl;refine mR (λn s'=>∃ i σ' H',Inv (X.comp N scope cl s3 H3 C fp) [] σ' H' s' /\ tn i s'.heap /\ (∀ b∈fp,H' b=ag) /\ W i n σ' H') _ (λ_ _ _ q=>q) ?_ m0 #[0,_,H3,IY,yV,λb hb=>(f3 b hb).1,w0];rintro n s5 ⟨i,σ5,H5,I5,tO,vB,w5⟩;have nq:∀ {α:Type}{t:Sem α}{Q1:α->ax->zt}{E1:ai->ax->zt}{ss:ax},wpAny zf X.A t Q1 (λ_ _=>False) ss->wpAny zf X.A t Q1 E1 ss:=λhw=>kO hw (λ_ _ q=>q) λ_ _ z=>False.elim z;rcases turn i n σ5 H5 w5 with⟨stop,q5⟩|⟨go,NN,hN,step⟩
  .refine nq<|cb (T.done (X.comp N scope cl s3 H3 C fp) zc zc zc hc i [] s5 σ5 H5 (λ_ _=>False) I5 (vM vB) tO stop) ?_;rintro r s6 ⟨hr,I6⟩;subst hr;let#[m6,YI,_]:=I6.loc;have IX:Inv X pins σ H5 s6:=fin σ5 H5 s6 I6 s6.heap (Heap.SameBut.refl ..)
   change wpAny _ X.A (assign (.Name x pos') X.env<|.ref D) _ _ s6
   refine aah<|BJ (v:=.ref D) IX hN rj hx zc (λs7 I7 ⟨a,sb,ha⟩=>?_) Ew;have ah2:C≠a:=λz=>by
    rcases ha with w1|w1
    .have l1:X.env.locals<s3.heap.objs.size:=I3.lt;rw[<-w1,<-z,<-hC]at l1;show hZ _ l1
    .let#[v1,o1,w2,_]:=I3.cell x a w1;have l1:=bf w2;rw[<-z,<-hC]at l1;show hZ _ l1
   refine#[m6,YI.sameBut sb ah2,λh' vN=>?_];have vO:H5 C=ag:=I6.free;refine#[σ.set ii<|ae<|.ref D,H5,?_,q5];have ah3:X.env.locals≠C:=λz=>by have l1:=I3.lt;rw[z,<-hC]at l1;show hZ _ l1
   refine I7.turned (λb o hb e=>vN.extBut b o hb e) vO (Ne.symm ah3) (.inr ?_) (λy c e z=>?_) λp hp z=>?_
   .rw[<-hC];show I3.sz
   .let#[v1,o1,w2,_]:=I3.cell y c e;have l1:=bf w2;rw[z,<-hC]at l1;show hZ _ l1
   .have l1:=bf (I3.pin p hp).1;rw[z,<-hC]at l1;show hZ _ l1
  .refine nq<|cb (T.item (X.comp N scope cl s3 H3 C fp) zc zc zc hc i [] s5 σ5 H5 (λ_ _=>False) I5 (vM vB) tO go) ?_;rintro r s6 ⟨u,hr,h6⟩;subst hr;refine nq<|cb h6 ?_;rintro _ s7 ⟨x,H7,I7,r7,y7,vP,YJ⟩;refine nq<|cb (hg cl s3 H3 C fp _ s7 σ5 H7 x u _ (I7.pinned (vM YJ)<|T.obj _ _ vP) r7<|step x H7 y7) ?_;rintro _ s8 ⟨σ8,H8,I8,q8⟩;refine nq<|tT (hf cl s3 H3 C fp _ s8 σ8 H8 _ I8 q8) λb s9 H9 I9 q9=>?_;have again:∀ {σ9:St}{HA:Hp}{sA:ax},Inv (X.comp N scope cl s3 H3 C fp) ([]++yL fp s7.heap) σ9 HA sA->NN σ9 HA->∃ m,m<n /\ ∃ i σ' H',Inv (X.comp N scope cl s3 H3 C fp) [] σ' H' sA /\ tn i sA.heap /\ (∀ b∈fp,H' b=ag) /\ W i m σ' H':=λ{σ9 HA sA} IA nA=>by
    let#[m',hm,wA]:=hN σ9 HA nA;refine#[m',hm,i+1,σ9,HA,IA.yM,T.keep _ _ _ vP λb hb o e=>(IA.pin (b,o)<|eG _<|eG _<|iu hb e).1,λb hb=>?_,wA];let#[o,e,d]:=T.obj _ _ vP b hb;show(IA.pin (b,o)<|eG _<|eG _<|iu hb e).2.1
   cases b with
   |false=>
     rw[if_neg ze]at q9;rw[if_neg ze];show again I9 q9
   |true=>
     rw[if_pos rfl]at q9;rw[if_pos rfl];refine nq<|tE (he cl s3 H3 C fp _ s9 σ8 H9 _ I9 q9) λyv sA y HA IA rA hh=>?_;let#[ys,YK,YL,nA]:=hh;refine nq<|cb (om _ sA σ8 HA (.ref D) [y] (.ref D) [yv] (λ_ HB=>NN σ8 HB) IA zc (.cons rA .nil) #[D,ys,y,rfl,rfl,YK,YL,nA]) λr sB hB=>?_;let#[_,HB,IB,_,nB]:=hB;show again IB nB
 show aau (loop _ zc)<|T.self _ 0 _ _ _ yV<|loop _ zc
end L2
namespace L2.DL
section
variable {src:List (Option Nat)} {elt:au} {scope:bT} {uV:aM} {g:DG} 
theorem MC (i:Nat) (bo:Bool) (hc:X.calm=ah) (S:sx X N src scope) (hi:tX X T Z tg iter mi)
 (hg:∀ T cl s H C fp,kF (X.comp N scope cl s H C fp) T tg g) (hf:∀ T cl s H C fp,PF (X.comp N scope cl s H C fp) ifs<|sC T #[E0,Z.cl] tf) (he:∀ T cl s H C fp,PD (X.comp N scope cl s H C fp) T #[E0,Z.cl] elt te)
 (hN:X.N.Nodup) (rj:X.N[i]?=ae x:=by rfl) (hx:Loc X.env.scope x:=by first|show Or.inl zc|show Or.inr zc) (Eu:swapsWith zw (ae<|.Name x pos') uV.line X.env=pure ah:=by rfl)
 (Ew:X.fn x=ah \/ X.env.scope.names.lookup x=ae .local:=by first|show .inl zc|show .inr zc|assumption)
 (hs:∀ x,foldedSetIterable iter X.env x=pure x:=by intro _;rfl):cL X T Z (.Assign [.Name x pos'] zw uV) (fE (fK bo src mi g tf te)<|fe i):=by
 refine PS.imp (GD (g:=yY g) (tf:=yZ _ tf) (te:=Ea _ te) hc S hi (λcl s H C fp pins s' σ' H' v u Q I rv ⟨T,q⟩=>hg T cl s H C fp pins s' σ' H' v u Q I rv q)
  (λcl s H C fp pins s' σ' H' Q I ⟨T,q⟩=>hf T cl s H C fp pins s' σ' H' Q I q) (λcl s H C fp pins s' σ' H' Q I ⟨T,q⟩=>he T cl s H C fp pins s' σ' H' Q I q) hN rj hx Eu Ew hs) λD σ H=>x4 λF r env bx R h=>?_
 refine Mj #[F,r,env,bx,R,End.bB h λw bx1 F1 r1 v H1 g1 R1 d1 h1=>h1 F1 r1 _ H1 (.refl F1 r1)<|R1.set d1 i]
end
noncomputable def bO:au->Bool
 |.Starred _ _=>af
 |_=>ah
def nE:List au->Bool
 |[]=>ah
 |e::es=>bO e&&nE es
theorem fH (h:bO e=ah) (es:List au) (env:Env):starEach (e::es) env=(af,eval e env)::starEach es env:=by
 cases e<;>first|rfl|cases h
theorem lB {env:Env}:∀ {es:List au},nE es=ah->(backTo pos<|starEach es env).any (·.1)=af:=by
 intro l_;induction l_ with
 |nil=>show λ_=>rfl
 |cons e es az=>
   intro h;have h':(bO e&&nE es)=ah:=h;rw[aI]at h';rw[fH h'.1];change (af||(backTo pos _).any _)=af;rw[az h'.2];rfl
theorem iz (h:nE (e::es)=ah):bO e=ah /\ nE es=ah:=by
 have h':(bO e&&nE es)=ah:=h
 rwa [aI]at h'
theorem lC (h:bO e=ah) (es:List au) (env:Env):assignEach (e::es) env=(af,assign e env)::assignEach es env:=by
 cases e<;>first|rfl|cases h
theorem AU {env:Env}:∀ {es:List au},nE es=ah->(assignEach es env).length=es.length /\ (assignEach es env).findIdx? (·.1)=ag:=by
 intro l_;induction l_ with
 |nil=>show λ_=>#[rfl,rfl]
 |cons e es az=>
   intro h;let#[h1,h2]:=iz h;let#[a,b]:=az h2;rw[lC h1];show#[by rw[bD,bD,a],by rw[List.findIdx?_cons,b];rfl]
section
variable {a b c:au} {mc:DE W} {p p1:aM} {k k' nn:Nat} {ps:List Str} {m:DE (List W)}
theorem l5 (ha:PD X T Z e ma) (hr:dF X T Z es m) (hn:bO e=ah:=by rfl):dF X T Z (e::es) (fc ma m):=L6 ha hr<|fH hn es X.env
theorem SL {id:String}{q:List V->Hp->VK->zt}{g:List D->Option Res}(bo:Bool) (hc:dQ X (.builtin id) q) (hk:eX q g) (hg:Gl X x) (hm:X.mg x=ag) (hv:bootBuiltins x=ae (.builtin id)) (ha:dF X T Z (e::es) m)
 (eA:nE (e::es)=ah:=by rfl) (hn:x ≠ "__name__":=by decide) (dE:(x==("__debug__":Str))=af:=by decide):PD X T Z (.Call (.Name x p) (e::es) [] pos) (dN bo g m):=
 Mc bo hc hk hg hm hv ha hn dE (fH (iz eA).1 es X.env) (lB (iz eA).2)
theorem Ux {id:String}{q:List V->Hp->VK->zt}{g:List D->Option Res}(bo:Bool) (hc:dQ X (.type id) q) (hk:eX q g) (hg:Gl X x) (hm:X.mg x=ag) (hv:bootBuiltins x=ae (.type id)) (ha:dF X T Z (e::es) m)
 (eA:nE (e::es)=ah:=by rfl) (hn:x ≠ "__name__":=by decide) (dE:(x==("__debug__":Str))=af:=by decide):PD X T Z (.Call (.Name x p) (e::es) [] pos) (dN bo g m):=
 JD bo hc hk hg hm hv ha hn dE (fH (iz eA).1 es X.env) (lB (iz eA).2)
theorem Wo (h:rh X.prog X.w X.K X.mg X.base Z.cl k x ps fn) (hr:c8 k' X.A) (hk:k<=k') (hg:Gl X x) (hx:Passes (qk X.prog X.w) X Z.E) (ha:dF X T Z (e::es) m)
 (eA:nE (e::es)=ah:=by rfl) (hn:ps.length=nn:=by rfl) (dE:(x==("__debug__":Str))=af:=by decide):PD X T Z (.Call (.Name x p) (e::es) [] pos) (fm fn nn m):=
 Uv h hr hk hg hx ha dE (fH (iz eA).1 es X.env) (lB (iz eA).2) hn
theorem Wp {n:String}(hT:pM X.K n) (hg:Gl X "isinstance") (hm:X.mg "isinstance"=ag) (vS:Gl X x) (vT:X.mg x=ag) (hv:bootBuiltins x=ae (.type n)) (ha:PD X T Z a ma) (hs:bO a=ah:=by rfl)
 (hn:x ≠ "__name__":=by decide) (dE:(x==("__debug__":Str))=af:=by decide):PD X T Z (.Call (.Name "isinstance" p) [a,.Name x p1] [] pos) (ly n ma):=
 O7 hT hg hm vS vT hv ha hn dE (fH hs _ X.env) (fH zc _ X.env) (lB zc)
theorem Uy {g:DG}{q:nV}(h1:kF X T e g) (h2:tW X T es q) (hn:bO e=ah:=by rfl):tW X T (e::es) (fq g q):=JF h1 h2 (by rw[lC hn];rfl)
theorem Wq {q:nV}{i:Nat}(hc:X.calm=ah) (h:tW X T es q) (eA:nE es=ah:=by rfl) (hn:es.length=nn:=by rfl):kF X T (.Tuple es i pos) (fL nn q):=
 OW hc h ((AU eA).1.trans hn) (AU eA).2
end
open PySem.W
section
variable {a b:au} {mc:DE W} {p np dR rp ak4:aM} {body:List b9} {m k:aC} {n:Str} {c i:Nat} {R:ak}
noncomputable def dt:aC:=λ_ _=>.bad
theorem fX:cL X T Z st dt:=λ_ _ _ _ _ _ h=>by
 let#[_,_,_,_,_,h]:=h;show h.elim
end
section
variable {k:Nat} {ps:List Str} {m:aC} {nn kk:Nat}
end
section
variable {a:au} {p p2 uf:aM} {ta:TA} {ks:DE (List W)}
theorem Pt {b:au}{y:Str}{px py pt:aM}{kt k2 kS}(i j:Nat) (hc:X.calm=ah) (hN:X.N.Nodup) (ha:dF X T Z [a,b] ks) (hi:X.N[i]?=ae x:=by rfl) (hj:X.N[j]?=ae y:=by rfl) (yJ:i≠j:=by decide)
 (hx:X.env.scope.names.lookup x=ae .local:=by rfl) (hy:X.env.scope.names.lookup y=ae .local:=by rfl)
 (hw:swappedStores [.Tuple [.Name x px,.Name y py] kt pt] (.Tuple [a,b] k2 kS) X.env=pure (ae [x,y]):=by rfl)
 (hs:swapsWithSole [.Tuple [.Name x px,.Name y py] kt pt] (.Tuple [a,b] k2 kS) pos.line X.env=pure af:=by rfl) :
 cL X T Z (.Assign [.Tuple [.Name x px,.Name y py] kt pt] (.Tuple [a,b] k2 kS) pos) (eY i j ks):=
 PS.imp (Tt hc hN hi hj yJ hx hy ha hw hs) λD σ H h=>Wd h
end
noncomputable def v8:D->V
 |.non=>.non
 |.bl b=>.bl b
 |.int i=>.int i
 |.str x=>.str x
 |_=>.ty ""
noncomputable def kL:D->Bool
 |.non=>ah
 |.bl _=>ah
 |.int _=>ah
 |.str _=>ah
 |_=>af
def IM (a b:D):Bool:=sr (v8 a)<|v8 b
theorem AV {d:D}(f:kL d=ah) (h:Den F d v):v=v8 d /\ sq v=ah:=by
 cases d with
 |non=>cases (h);show#[rfl,rfl]
 |bl b=>cases (h);show#[rfl,rfl]
 |int i=>cases (h);show#[rfl,rfl]
 |str x=>cases (h);show#[rfl,rfl]
 |_=>cases f
theorem BY:∀ {l:List D}{vs:List V},l.all kL=ah->aG F l vs->vs=l.map v8 /\ vs.all sq=ah:=by
 intro l_;induction l_ with
 |nil=>(intro _ _ h;cases (h);show#[rfl,rfl])
 |cons d l az=>
   intro _ f h;let#[v,r,e,h1,h2]:=h;subst e;rw[tu,aI]at f;let#[e1,f1]:=AV f.1 h1;let#[e2,f2]:=az f.2 h2;subst e1;subst e2;show#[rfl,by rw[tu,f1,f2];rfl]
def nF (x:D) (l:List D):Bool:=l.any λy=>IM y x
theorem GE (x:D) (l:List D):HY (v8 x) (l.map v8)=nF x l:=by
 unfold HY nF;rw[Hl];rfl
def IP (neg:Bool):D->D->Option Res:=λx y=>match y with
 |.lst l=>if kL x=ah /\ l.all kL=ah then ae (.old<|.bl (if neg then !nF x l else nF x l)) else ag
 |.tup l=>if kL x=ah /\ l.all kL=ah then ae (.old<|.bl (if neg then !nF x l else nF x l)) else ag
 |_=>ag
theorem adF (neg:Bool):cz (HZ K neg) (IP neg):=by
 intro F H x y v w Q s sub hx hy e k;unfold IP at e;have fx:∀ {d},kL d=ah->nS F H d v->Den F d v:=λ{d} f h=>by
  cases d with
  |non=>show h
  |bl b=>show h
  |int i=>show h
  |str z=>show h
  |_=>cases f
 cases y with
 |lst l=>
   simp only at e;split at e
   .ext f;cases e;let#[a,vs,rfl,h1,h2]:=hy;let#[e1,f1]:=AV f.1<|fx f.1 hx;let#[e2,f2]:=BY f.2 h2;subst e1;subst e2;refine#[a,_,rfl,.inl<|bN.of h1,f1,f2,?_];rw[GE];show k _ _ #[rfl,rfl]
   .cases e
 |tup l=>
   simp only at e;split at e
   .ext f;cases e;let#[a,vs,rfl,h1,h2]:=hy;let#[e1,f1]:=AV f.1<|fx f.1 hx;let#[e2,f2]:=BY f.2 h2;subst e1;subst e2;refine#[a,_,rfl,.inr<|cP.of<|sub _ _ h1,f1,f2,?_];rw[GE];show k _ _ #[rfl,rfl]
   .cases e
 |_=>cases e
def IQ (neg:Bool):R2:=λx y H Q=>∃ F dx dy,Sub F H /\ nS F H dx x /\ nS F H dy y /\ e9 dx=ah /\ e9 dy=ah /\ ∃ l,(dy=.lst l \/ dy=.tup l) /\ Q (.bl (if neg then !(l.any λz=>eqv z dx) else l.any λz=>eqv z dx)) H
theorem lR (dx:D):∀ l:List D,((bI l).any λy=>PyData.eqv y<|toPy dx)=l.any λz=>eqv z dx:=by
 intro l_;induction l_ with
 |nil=>show rfl
 |cons z l az=>
   change (PyData.eqv _ _||_)=_;rw[az];rfl
theorem Uz (hu:X.A.units+100<cLine):bc X (compareOp .In) (IQ af):=by
 intro pins s σ H x y v u Q I rx ry h;let#[F,dx,dy,sub,hx,hy,ox,oy,l,hl,q]:=h;let#[as,ra]:=ja I sub hx rx;let#[bs,rb]:=ja I sub hy ry;let#[x1,x2]:=mj ox;let#[y1,y2]:=mj oy;rcases hl with rfl|rfl
 .show SeqAt.in_list_reads rb ra y1 x1 za (by rw[lR];show#[.bl _,H,I,rfl,q])
 .show SeqAt.in_tuple_reads rb ra y1 x1 za (by rw[lR];show#[.bl _,H,I,rfl,q])
theorem JY (hu:X.A.units+100<cLine):bc X (compareOp .NotIn) (IQ ah):=by
 intro pins s σ H x y v u Q I rx ry h;let#[F,dx,dy,sub,hx,hy,ox,oy,l,hl,q]:=h;let#[as,ra]:=ja I sub hx rx;let#[bs,rb]:=ja I sub hy ry;let#[x1,x2]:=mj ox;let#[y1,y2]:=mj oy;rcases hl with rfl|rfl
 .show SeqAt.notIn_list_reads rb ra y1 x1 za (by rw[lR];show#[.bl _,H,I,rfl,q])
 .show SeqAt.notIn_tuple_reads rb ra y1 x1 za (by rw[lR];show#[.bl _,H,I,rfl,q])
def v9 (neg:Bool) (x y:D) (l:List D):Option Res:=if e9 x&&e9 y then ae (.old<|.bl (if neg then !(l.any λz=>eqv z x) else l.any λz=>eqv z x)) else ag
def inD (neg:Bool):D->D->Option Res:=λx y=>match y with
 |.lst l=>if kL x=ah /\ l.all kL=ah then ae (.old<|.bl (if neg then !nF x l else nF x l)) else v9 neg x y l
 |.tup l=>if kL x=ah /\ l.all kL=ah then ae (.old<|.bl (if neg then !nF x l else nF x l)) else v9 neg x y l
 |_=>ag
theorem okIn (neg:Bool):cz (λx y H Q=>HZ K neg x y H Q \/ IQ neg x y H Q) (inD neg):=by
 intro F H x y v w Q s sub hx hy e k;have g:∀ l,(y=.lst l \/ y=.tup l)->v9 neg x y l=ae s->IQ neg v w H Q:=λl hl e=>by
  unfold v9 at e;split at e
  .ext c;rw[aI]at c;cases e;show#[F,x,y,sub,hx,hy,c.1,c.2,l,hl,k _ _ #[rfl,rfl]]
  .cases e
 unfold inD at e;split at e
 .ext l;split at e
  .ext f;show .inl<|adF neg F H x _ v w Q s sub hx hy (by unfold IP;simp only;rw[if_pos f];show e) k
  .show .inr<|g l (.inl zc) e
 .ext l;split at e
  .ext f;show .inl<|adF neg F H x _ v w Q s sub hx hy (by unfold IP;simp only;rw[if_pos f];show e) k
  .show .inr<|g l (.inr zc) e
 .cases e
noncomputable def intD:List D->Option Res:=λxs=>match xs with
 |[.int i]=>ae<|.old<|.int i
 |[.bl b]=>ae<|.old<|.int (if b then 1 else 0)
 |_=>ag
theorem ah4:eX (λxs H Q=>(∃ i,xs=[.int i] /\ Q (.int i) H) \/ ∃ k,xs=[.bl k] /\ Q (.int (if k then 1 else 0)) H) intD:=by
 intro F H xs vs Q s sub rx e k;unfold intD at e;split at e
 .cases e;let#[v,t,rfl,hv,rt]:=rx;cases (rt);cases (hv);show .inl #[_,rfl,k _ _ #[rfl,rfl]]
 .cases e;let#[v,t,rfl,hv,rt]:=rx;cases (rt);cases (hv);show .inr #[_,rfl,k _ _ #[rfl,rfl]]
 .cases e
section
variable {a b o:au} {mc:DE W} {p:aM}
def wa (m k:DE W):DE W:=λenv bx=>fB zz λx bx1=>match x with
 | .b n=>(match bx1[n]? with
   | some (.lst _)=>fB (k env bx1) λy ay=>(match y,ay[n]? with
     | .d (.int i),ae (.lst l)=>if -(2 ^ 63)<=i /\ i<2 ^ 63 then (match cy l.length i with
       |some j=>(match l[j]? with|some d=>.val (.d d) (ay.set n<|.lst<|l.eraseIdx j)|none=>.bad)
       |none=>.bad) else .bad
     |_,_=>.bad)
   |_=>.bad)
 |_=>.bad
theorem Pu {Q:VK}(h:tD T Z (wa ma mb) σ H Q):Ia X.K "list" acS (tD T Z ma) (HS (tD T Z mb) HR) σ H Q:=by
 let#[F,r,env,bx,R,h]:=h;refine#[F,r,env,bx,R,End.bind h λx bx1 F1 r1 v H1 g1 R1 d1 h1=>?_];cases x with
 |b n=>
   simp at h1;let#[a,rfl,ha]:=d1;let#[c,hc,kc]:=R1.eI ha;rw[hc]at h1;cases c with
   |lst l0=>
     let#[_,sH,k0,_]:=kc;refine#[.inl #[rfl,sH,bN.of k0],F1,r1,env,bx1,R1,End.bind h1 λy ay F2 r2 u H2 g2 R2 d2 h2=>?_];let#[t,et]:=g2.p;have qW:r2[n]?=ae a:=by rw[<-et,dZ (List.getElem?_eq_some_iff.mp ha).1];show ha
     let#[c2,kD,qX]:=R2.eI qW;rw[kD]at h2;split at h2
     .ext i l eq;cases eq;let#[hF,vs,k1,k2]:=qX;cases (d2);split at h2
      .ext hi;split at h2
       .ext j hj;split at h2
        .ext d hd;let#[y,hy,dy]:=k2.get hd;refine#[a,vs,i,j,y,rfl,rfl,k1,hi.1,hi.2,?_,hy,?_]
         .rw[<-k2.length];show(Ci hj).1
         .show h2 F2 r2 _ _ (.refl F2 r2) (R2.write qW hF #[hF,vs.eraseIdx j,fA,k2.eraseIdx j]) dy
        .show h2.elim
       .show h2.elim
      .show h2.elim
     .show h2.elim
   |_=>show h1.elim
 |_=>show h1.elim
theorem MD (ho:PD X T Z o ma) (ha:PD X T Z e mb) (eA:bO e=ah:=by rfl)
 (vH:attributeBase o "pop" X.env (eval o X.env)=eval o X.env:=by rfl)
 (vI:((backTo pos<|starEach [e] X.env).all (λx=>!x.1)&&(backToKw pos<|keywordEach [] X.env).all (λx=>x.1.isSome)
  && decide ([e].length+([]:List Keyword).length+(if ([]:List Keyword).isEmpty then 0 else 1)<30))=ah:=by rfl)
 (vJ:(apos.endLine==pos.line)=ah:=by rfl):PD X T Z (.Call (.Attribute o "pop" apos) [e] [] pos) (wa ma mb):=
 PE.imp (LY XC PySem.F.slot_list_pop PySem.F.type_list_pop LZ ho (ji ha ls<|fH eA [] X.env) vH vI vJ (fH eA [] X.env) (by rfl)) λσ H Q h=>Pu h
noncomputable def n8:D->Option Key
 |.int i=>ae<|.inl i
 |.str x=>ae<|.inr x
 |_=>ag
theorem jk {d:D}{k:Key}(e:n8 d=ae k) (h:Den F d v):v=kV k:=by
 cases d with
 |int i=>cases e;show h
 |str x=>cases e;show h
 |_=>cases e
noncomputable def hV (l:List<|Key×D) (k:Key):Option D:=(l.find? λkv=>decide (kv.1=k)).map (·.2)
noncomputable def Ex (l:List<|Key×D) (k:Key) (d:D):List (Key×D):=
 if (l.any λkv=>decide (kv.1=k))=ah then l.map (λkv=>if kv.1=k then (kv.1,d) else kv) else l++[(k,d)]
theorem aR.some {F:Hp}{k:Key}{d:D}:∀ {l:List (Key×D)}{vs:List (Key×V)},aR F l vs->hV l k=ae d->∃ v,dW vs k=ae v /\ Den F d v
 |[],_,_,e=>by cases e
 | (k',d')::l,_,⟨v,r,e,h1,h2⟩,q=>by
   subst e;by_cases c:k'=k
   .simp[hV,rQ,c,]at q;cases q;show#[v,jB c,h1]
   .erw[hV,rQ,c]at q;let#[u,e1,e2]:=aR.some h2 q;show#[u,(jc c).trans e1,e2]
theorem aR.none {F:Hp}{k:Key}:∀ {l:List (Key×D)}{vs:List (Key×V)},aR F l vs->hV l k=ag->dW vs k=ag
 |[],_,h,_=>by cases (h);rfl
 | (k',d')::l,_,⟨v,r,e,h1,h2⟩,q=>by
   subst e;by_cases c:k'=k
   .erw[hV,rQ,c,]at q;cases q
   .erw[hV,rQ,c]at q;show(jc c).trans (aR.none h2 q)
theorem aR.any {F:Hp}(k:Key):∀ {l:List (Key×D)}{vs:List (Key×V)},aR F l vs->(l.any λkv=>decide (kv.1=k))=(vs.any λkv=>decide (kv.1=k))
 |[],_,h=>by cases (h);rfl
 |(k',d')::l,_,⟨v,r,e,h1,h2⟩=>by subst e;simp[rN,aR.any k h2]
theorem aR.map {F:Hp}{k:Key}{d:D}{v:V}(hv:Den F d v):∀ {l:List (Key×D)}{vs:List (Key×V)},aR F l vs->aR F (l.map λkv=>if kv.1=k then (kv.1,d) else kv) (vs.map λkv=>if kv.1=k then (kv.1,v) else kv)
 |[],_,h=>by cases (h);show rfl
 | (k',d')::l,_,⟨u,r,e,h1,h2⟩=>by
   subst e;by_cases c:k'=k
   .simp[aU,c];show#[v,_,rfl,hv,aR.map hv h2]
   .simp[aU,c];show#[u,_,rfl,h1,aR.map hv h2]
theorem aR.app {F:Hp}{m:List (Key×D)}{us:List (Key×V)}(hm:aR F m us):∀ {l:List (Key×D)}{vs:List (Key×V)},aR F l vs->aR F (l++m) (vs++us)
 |[],_,h=>by cases (h);show hm
 |(k',d')::l,_,⟨u,r,e,h1,h2⟩=>by subst e;show#[u,_,rfl,h1,aR.app hm h2]
theorem aR.put {k:Key}{d:D}{l:List (Key×D)}{vs:List (Key×V)}(h:aR F l vs) (hv:Den F d v):aR F (Ex l k d) (putK vs k v):=by
 unfold Ex putK;rw[aR.any k h];split
 .show aR.map hv h
 .show aR.app (show aR F [(k,d)] _ from#[v,[],rfl,hv,rfl]) h
noncomputable def rn (bx:List Bx):W->Option (List<|Key×D)
 |.d (.aB l)=>ae l
 |.b n=>(match bx[n]? with|some (.aB l)=>ae l|some (.fD l)=>ae l|_=>ag)
 |_=>ag
theorem Ct (R:Rel T F r σ H env bx) {w:W}(d:bU F r w v) {l:List (Key×D)}(e:rn bx w=ae l):∃ a ao,v=.ref a /\ Rd H a (.dK ao) /\ aR F l ao:=by
 unfold rn at e;split at e
 .cases e;let#[a,vs,rfl,h1,h2]:=d;show#[a,vs,rfl,.inl<|R.fh _ _ h1,h2]
 .let#[a,rfl,ha]:=d;let#[c,hc,kc]:=R.eI ha;rw[hc]at e;split at e
  .ext q;cases q;cases e;let#[_,vs,h1,h2]:=kc;show#[a,vs,rfl,.inl h1,h2]
  .ext q;cases q;cases e;let#[o,vs,_,h1,h2]:=kc;show#[a,vs,rfl,.inr #[o,h1],h2]
  .cases e
 .cases e
def cj (m k:DE W):DE W:=λenv bx=>fB zz λx bx1=>fB (k env bx1) λy ay=>match y,rn ay x with
 |.d d,ae l=>(match (n8 d).bind (hV l) with|some u=>.val (.d u) ay|none=>.bad)
 |_,_=>.bad
theorem AW {Q:VK}(h:tD T Z (cj ma mb) σ H Q):ado (tD T Z ma) (tD T Z mb) σ H Q:=by
 let#[F,r,env,bx,R,h]:=h;refine#[F,r,env,bx,R,End.bind h λx bx1 F1 r1 v H1 g1 R1 d1 h1=>#[F1,r1,env,bx1,R1,End.bind h1 λy ay F2 r2 u H2 g2 R2 d2 h2=>?_]];split at h2
 .ext d l q;let#[a,ao,rfl,k1,k2]:=Ct R2 (g2.den d1) q;split at h2
  .ext w hw;let#[k,e1,e2]:=Option.bind_eq_some_iff.mp hw;cases jk e1 d2;let#[z,e3,e4]:=aR.some k2 e2;show#[a,z,rfl,e3▸.inl #[_,k,k1,rfl,rfl],h2 F2 r2 _ H2 (.refl F2 r2) R2 e4]
  .show h2.elim
 .show h2.elim
theorem Pv (hu:X.A.units+1<cLine) (ho:PD X T Z o ma) (hi:PD X T Z e mb) (hs:Iv e):PD X T Z (.Subscript o e pos) (cj ma mb):=
 PE.imp (Gy hu ho hi hs) λσ H Q h=>AW h
def dz (neg:Bool) (k m:DE W):DE W:=λenv bx=>fB (k env bx) λy bx1=>fB (m env bx1) λx ay=>match y,rn ay x with
 |.d d,ae l=>(match n8 d with|some k=>.val (.d<|.bl (if neg then !(hV l k).isSome else (hV l k).isSome)) ay|none=>.bad)
 |_,_=>.bad
theorem ME {l:List (Key×D)}{vs:List (Key×V)}(h:aR F l vs) (k:Key):(dW vs k).isSome=(hV l k).isSome:=by
 cases q:hV l k with
 |none=>rw[aR.none h q];rfl
 |some d=>let#[v,e,_]:=aR.some h q;rw[e];rfl
theorem Dp {Q:VK}(h:tD T Z (dz af mb ma) σ H Q):YV (tD T Z mb) (tD T Z ma) σ H Q:=by
 let#[F,r,env,bx,R,h]:=h;refine#[F,r,env,bx,R,End.bind h λy bx1 F1 r1 u H1 g1 R1 d1 h1=>#[F1,r1,env,bx1,R1,End.bind h1 λx ay F2 r2 v H2 g2 R2 d2 h2=>?_]];split at h2
 .ext d l q;let#[a,ao,rfl,k1,k2]:=Ct R2 d2 q;split at h2
  .ext k e1;cases jk e1 (g2.den d1);refine#[a,_,rfl,.inl #[_,k,k1,rfl,rfl],?_];rw[ME k2];show h2 F2 r2 _ H2 (.refl F2 r2) R2 zc
  .show h2.elim
 .show h2.elim
theorem MF {Q:VK}(h:tD T Z (dz ah mb ma) σ H Q):adp (tD T Z mb) (tD T Z ma) σ H Q:=by
 let#[F,r,env,bx,R,h]:=h;refine#[F,r,env,bx,R,End.bind h λy bx1 F1 r1 u H1 g1 R1 d1 h1=>#[F1,r1,env,bx1,R1,End.bind h1 λx ay F2 r2 v H2 g2 R2 d2 h2=>?_]];split at h2
 .ext d l q;let#[a,ao,rfl,k1,k2]:=Ct R2 d2 q;split at h2
  .ext k e1;cases jk e1 (g2.den d1);refine#[a,_,rfl,.inl #[_,k,k1,rfl,rfl],?_];rw[ME k2];show h2 F2 r2 _ H2 (.refl F2 r2) R2 zc
  .show h2.elim
 .show h2.elim
theorem UA (hu:X.A.units+1<cLine) (hi:PD X T Z e mb) (ho:PD X T Z o ma) (hm:behindInMarks .In o=af):PD X T Z (.Compare e [.In] [o] pos) (dz af mb ma):=
 PE.imp (Ay (Fy hu hi ho) hm) λσ H Q h=>Dp h
theorem Pw (hu:X.A.units+1<cLine) (hi:PD X T Z e mb) (ho:PD X T Z o ma) (hm:behindInMarks .NotIn o=af):PD X T Z (.Compare e [.NotIn] [o] pos) (dz ah mb ma):=
 PE.imp (Ay (BU hu hi ho) hm) λσ H Q h=>MF h
def kM (m k v:DE W):aC:=λenv bx=>bB (v env bx) λz bx1=>bB (m env bx1) λx ay=>bB (k env ay) λy bQ=>match x,y,z with
 | .b n,.d d,.d u=>(match bQ[n]?,n8 d with
   |some (.aB l),ae k=>if l.length<sizeLine then .nx env (bQ.set n<|.aB<|Ex l k u) else .bad
   |_,_=>.bad)
 |_,_,_=>.bad
theorem Wr {D:Ends}(h:tS T Z (kM ma mb mc) D σ H):adq (tD T Z ma) (tD T Z mb) (tD T Z mc) D σ H:=by
 let#[F,r,env,bx,R,h]:=h;refine#[F,r,env,bx,R,End.bB h λz bx1 F1 r1 t H1 g1 R1 d1 h1=>#[F1,r1,env,bx1,R1,End.bB h1 λx ay F2 r2 v H2 g2 R2 d2 h2=>#[F2,r2,env,ay,R2,End.bB h2 λy bQ F3 r3 u H3 g3 R3 d3 h3=>?_]]];split at h3
 .let#[a,rfl,ha]:=(g3.den d2);let#[c,hc,kc]:=R3.eI ha;rw[hc]at h3;split at h3
  .ext l k e1 e2;cases e1;split at h3
   .ext hl;let#[hF,ao,k1,k2]:=kc;cases jk e2 d3;show#[a,_,rfl,.inl #[ao,k,k1,rfl,by rw[<-aR.length k2];show hl,rfl],h3 F3 r3 _ _ (.refl F3 r3)<|R3.write ha hF #[hF,_,fA,aR.put k2<|g3.den<|g2.den d1]]
   .show h3.elim
  .show h3.elim
 .show h3.elim
theorem MG {value:au}(hu:X.A.units+1<cLine) (ho:PD X T Z o ma) (hi:PD X T Z e mb) (hv:PD X T Z value mc) (hs:swapsWith value (ae<|.Subscript o e pos') pos.line X.env=pure af:=by rfl) :
 cL X T Z (.Assign [.Subscript o e pos'] value pos) (kM ma mb mc):=
 PS.imp (Gz hu ho hi hv hs) λD σ H h=>Wr h
end
end L2.DL
namespace L2
end L2
namespace L2.DL
section
variable {a:au} {p tp:aM} {elts:List au} {kt:Nat} {k:DE (List W)}
theorem MH {a b:au}{ks:DE (List W)}{y:Str}{px py pt:aM}{kt k2 kS}(i j:Nat) (hc:X.calm=ah) (hN:X.N.Nodup) (ha:dF X T Z [a,b] ks) (hi:X.N[i]?=ae x:=by rfl) (hj:X.N[j]?=ae y:=by rfl)
 (hx:Loc X.env.scope x:=by first|show Or.inl zc|show Or.inr zc) (hy:Loc X.env.scope y:=by first|show Or.inl zc|show Or.inr zc)
 (ah5:X.fn x=ah \/ X.env.scope.names.lookup x=ae .local:=by first|show .inl zc|show .inr zc) (ah6:X.fn y=ah \/ X.env.scope.names.lookup y=ae .local:=by first|show .inl zc|show .inr zc)
 (hs:swapsWithSole [.Tuple [.Name x px,.Name y py] kt pt] (.Tuple [a,b] k2 kS) pos.line X.env=pure af:=by rfl)
 (hw:swappedStores [.Tuple [.Name x px,.Name y py] kt pt] (.Tuple [a,b] k2 kS) X.env=pure ag:=by rfl)
 (h0:(assignEach [.Tuple [.Name x px,.Name y py] kt pt] X.env).map (·.2)=[assign (.Tuple [.Name x px,.Name y py] kt pt) X.env]:=by rfl)
 (h1:(assignEach [.Name x px,.Name y py] X.env).map (·.2)=assign (.Name x px) X.env::(assignEach [.Name y py] X.env).map (·.2):=by rfl)
 (h2:(assignEach [.Name y py] X.env).map (·.2)=assign (.Name y py) X.env::(assignEach [] X.env).map (·.2):=by rfl)
 (hn:(assignEach [.Name x px,.Name y py] X.env).length=2:=by rfl) (yI:(assignEach [.Name x px,.Name y py] X.env).findIdx? (·.1)=ag:=by rfl) :
 cL X T Z (.Assign [.Tuple [.Name x px,.Name y py] kt pt] (.Tuple [a,b] k2 kS) pos) (eY i j ks):=by
 refine PS.imp (LJ (LQ ha) (LI hc (Az (Ch hN hi hx ah5) (Az (Ch hN hj hy ah6) Gi h2) h1) hn yI) hs hw h0) λD σ H=>x4 λF r env bx R h=>?_;refine#[F,r,env,bx,R,End.bB h λws bx1 F1 r1 vs H1 g1 R1 d1 h1=>?_];split at h1
 .let#[v,t,rfl,q1,u,t2,rfl,q2,q3]:=d1;cases (q3);refine#[by change 2<=sizeLine;decide,λp hp=>?_];have gr:=R1.uO (o:=.tup [v,u]) hp;show#[p,[v,u],rfl,cP.of fA,rfl,v,[u],rfl,u,[],rfl,rfl,h1 _ r1 _ _ gr<|((R1.yX hp).set (gr.den q1) i).set (gr.den q2) j]
 .show h1.elim
end
def adG (K:PySem.W.Frag) (vs:List V) (H:Hp) (Q:VK):zt:=∃ (p:ak) (bs:List Bool),vs=[.ref p] /\ H p=ae (.lst<|bs.map V.bl) /\ Q (.bl<|bs.any id) H
theorem oz (bs:List Bool):((List.range bs.length).any λi=>(bs[i]?).getD af)=bs.any id:=by
 rw[kQ,kz,kz];constructor
 .rintro⟨i,m,h⟩;have hi:=List.mem_range.mp m;rw[cY hi]at h;show#[bs[i],pF hi,h]
 .rintro⟨b,m,h⟩;let#[i,hi,e]:=List.mem_iff_getElem.mp m;show#[i,List.mem_range.mpr hi,by rw[cY hi,e];show h]
theorem JZ (hc:X.calm=ah):dQ X (.builtin "any") (adG X.K):=by
 intro pins s σ H xs us Q I rv h;let#[p,bs,rfl,hp,q]:=h;let#[u,rfl,ru]:=Vals.one rv;cases ru;let#[its,r1,p1,z1]:=I.list<|bN.of hp;have hl:=p1.isList;have qp:p<s.heap.objs.size:=by let#[_,e,_]:=hl;show bf e
 have hlen:bs.length=its.length:=by have:=r1.length;simpa using this
 refine call_any_walk<|yn hl ?_;refine#[s.heap.objs.size,[s.heap.objs.size,p],[s.heap.objs.size],its.toArray.size,_,_,λi=>(bs[i]?).getD af,rfl,Walks.list (A:=X.A.in1) (I.ok.hd hc) _ p (cw qp) its.toArray,
  #[#[_,bE _ zc,rfl,rfl],hl.push _],λi v s' Q' E' hP hQ=>?_,λh' tk hk=>?_]
 .have Ec:its[i]?=ae v:=by simpa using hP
  have hi:i<bs.length:=by rw[hlen];show(List.getElem?_eq_some_iff.mp Ec).1
  let#[w,e1,e2]:=r1.get (i:=i) (x:=V.bl bs[i]) zj;rw[Ec]at e1;cases e1;cases e2;simp[cY hi]at hQ;show pB hQ
 .have e:((List.range its.toArray.size).any λi=>(bs[i]?).getD af)=bs.any id:=by
   rw[bX,<-hlen];show oz bs
  rw[e];show#[.bl _,H,I.kept<|ab2 hk,rfl,q]
def Ey:List D->Option Res
 |[.lst l]=>(pN l).map λbs=>.old<|.bl<|bs.any id
 |_=>ag
theorem ah7:eX (adG K) Ey:=by
 intro F H xs vs Q s sub rx e k;unfold Ey at e;split at e
 .ext l;let#[v,t,rfl,#[a,us,rfl,h1,h2],rt]:=rx;cases (rt);cases e1:pN l with
  |none=>rw[e1]at e;cases e
  |some bs=>
    rw[e1]at e;cases e;have q1:=h2.YU e1;subst q1;show#[a,bs,rfl,h1,k _ _ #[rfl,rfl]]
 .cases e
section
variable {a:au} 
def dG (neg:Bool) (m:DE W):DE W:=λenv bx=>fB zz λx bx1=>match x with
 |.d d=>.val (.d<|.bl (match d with|.non=>!neg|_=>neg)) bx1
 |_=>.bad
theorem Ap {d:D}(h:Den F d v):decide (v=.non)=(match d with|.non=>ah|_=>af):=by
 cases d with
 |non=>cases (h);rfl
 |bl b=>cases (h);rfl
 |int i=>cases (show v=.int i from h);rfl
 |str x=>cases (show v=.str x from h);rfl
 |tup l=>let#[a,vs,rfl,_]:=h;rfl
 |lst l=>let#[a,vs,rfl,_]:=h;rfl
 |aB l=>let#[a,vs,rfl,_]:=h;rfl
theorem UB {j pos'}(ha:PD X T Z a ma):PD X T Z (.Compare a [.Is] [.Constant .none j pos'] pos) (dG af ma):=by
 refine PE.imp (Ay<|LD ha) λσ H Q=>x4 λF r env bx R h=>?_;refine#[F,r,env,bx,R,End.bind h λx bx1 F1 r1 v H1 g1 R1 d1 h1=>?_];cases x with
 |d d=>
   rw[Ap<|d1];cases d<;>show h1 F1 r1 _ H1 (.refl F1 r1) R1 zc
 |_=>show h1.elim
theorem Px {j pos'}(ha:PD X T Z a ma):PD X T Z (.Compare a [.IsNot] [.Constant .none j pos'] pos) (dG ah ma):=by
 refine PE.imp (Ay<|Gh ha) λσ H Q=>x4 λF r env bx R h=>?_;refine#[F,r,env,bx,R,End.bind h λx bx1 F1 r1 v H1 g1 R1 d1 h1=>?_];cases x with
 |d d=>
   rw[Ap<|d1];cases d<;>show h1 F1 r1 _ H1 (.refl F1 r1) R1 zc
 |_=>show h1.elim
end
end L2.DL
namespace HT
open PySem.W
abbrev Kp (h h':aK):zt:=∀ b o,h.get? b=ae o->h'.get? b=ae o
section
variable {s:ax} {l I S:ak} {nm:String} 
section
variable {kf:Nat -> Int} (hh:A.handled = ag) (hl:s.heap.IsList l vs.toArray) (ah8:l ≠ I) (ah9:S ≠ I) (aia:s.heap.get? S = ag) (aib:s.heap.get? I = ag)
include hh hl ah8 ah9 aia aib
end
end
end HT
namespace L2
open PySem.W
section
variable {a:au} {p q kp:aM} {t:TA}
end
end L2
namespace L2.DL
open PySem.W
section
variable {a:au} {p q kp:aM} {m:DE (List W)}
end
end L2.DL
namespace HT
open PySem.W
section
variable {s:ax} {t:ak} 
noncomputable abbrev dist (ns:List Int):List Int:=firstMet (λi=>ns.getD i 0) ns.length
end
end HT
namespace L2
open PySem.W
section
variable {a:au} {p p2 uf:aM} {t:TA}
theorem mz:∀ {ns:List Int}{us:List ai},Vals (ns.map V.int) us->IntsAre us ns
 |[],_,.nil=>.nil
 | n::ns,_,.cons r q=>by
   let#[t,rfl]:=r;show .cons n t<|mz q
end
end L2
namespace L2.DL
open PySem.W
section
variable {a:au} {p p2 uf:aM} {m:DE (List W)}
end
end L2.DL
namespace HT
open PySem.W
abbrev rq (xs:Array Nat):zt:=xs.toList.Pairwise (·<·)
theorem Aq {xs:Array Nat}(h:rq xs) {i x y:Nat}(hi:xs[i]?=ae x) (hj:xs[j]?=ae y) (l:i<j):x<y:=by
 have rj:xs.toList[i]?=ae x:=by rw[qH];show hi
 have IJ:xs.toList[j]?=ae y:=by rw[qH];show hj
 let#[a,rfl]:=List.getElem?_eq_some_iff.mp rj;let#[b,rfl]:=List.getElem?_eq_some_iff.mp IJ;show List.pairwise_iff_getElem.mp h i j a b l
theorem MI {xs:Array Nat}(h:rq xs) (j:Nat):∀ (f lo hi:Nat),hi-lo<=f->lo<=hi->hi<=xs.size->(∀ i x,i<lo->xs[i]?=ae x->x<j)->(∀ i x,hi<=i->xs[i]?=ae x->j<=x) ->
 SetTable.below.go xs j f lo hi<=xs.size /\ (∀ i x,i<SetTable.below.go xs j f lo hi->xs[i]?=ae x->x<j) /\ ∀ i x,SetTable.below.go xs j f lo hi<=i->xs[i]?=ae x->j<=x:=by
 intro l_;induction l_ with
 |zero=>
   intro lo hi hf hl hh h1 h2;have:lo=hi:=by lia
   subst this;show#[hh,h1,h2]
 |succ f az=>
   intro lo hi hf hl hh h1 h2;rw[SetTable.below.go];by_cases c:lo<hi
   .rw[if_pos c];have hm:(lo+hi) / 2<xs.size:=by lia
    have em:xs[(lo+hi) / 2]?=ae xs[(lo+hi) / 2]:=by simp
    have eg:xs.getD ((lo+hi) / 2) j=xs[(lo+hi) / 2]:=by simp[hm]
    simp[eg];by_cases q:xs[(lo+hi) / 2]<j
    .simp[if_pos q];refine az _ hi za za hh (λi x rj e=>?_) h2;by_cases z:i<(lo+hi) / 2
     .have:=Aq h e em z;lia
     .have:i=(lo+hi) / 2:=by lia
      subst this;rw[em]at e;cases e;show q
    .simp[if_neg q];refine az lo _ za za za h1 λi x rj e=>?_;by_cases z:i=(lo+hi) / 2
     .subst z;rw[em]at e;cases e;lia
     .have:=Aq h em e za;lia
   .rw[if_neg c];have:lo=hi:=by lia
    subst this;show#[hh,h1,h2]
theorem mB {xs:Array Nat}(h:rq xs) (j:Nat):SetTable.below xs j<=xs.size /\ (∀ i x,i<SetTable.below xs j->xs[i]?=ae x->x<j) /\ ∀ i x,SetTable.below xs j<=i->xs[i]?=ae x->j<=x:=
 MI h j xs.size 0 xs.size za (dM _) (aE _) (λi x hi=>absurd hi<|QT _) λi x hi e=>by
  have:=(Array.getElem?_eq_some_iff.mp e).1;lia
theorem AX {xs:Array Nat}(h:rq xs) {i x:Nat}(e:xs[i]?=ae x):SetTable.below xs (x+1)=i+1:=by
 let#[b1,b2,b3]:=mB h<|x+1;have lt:=(Array.getElem?_eq_some_iff.mp e).1;have h1:¬ SetTable.below xs (x+1)<=i:=λz=>by
  have:=b3 i x z e;lia
 have h2:¬ i+1<SetTable.below xs (x+1):=λz=>by
  have el:xs[i+1]?=ae xs[i+1]:=by
   have:i+1<xs.size:=by lia
   simp[this]
  have a:=b2 (i+1) _ z el;have b:=Aq h e el<|k8 i;lia
 lia
theorem AY {xs:Array Nat}(h:rq xs):SetTable.below xs 0=0:=by
 let#[b1,b2,b3]:=mB h 0;apply Classical.byContradiction;intro z;have el:xs[0]?=ae xs[0]:=by simp
 have:=b2 0 _ za el;lia
theorem Ak (xs:Array α) (p:Nat) (x:α):(SetTable.insertAt xs p x).toList=xs.toList.take p++x::xs.toList.drop p:=by
 unfold SetTable.insertAt;rw[Array.toList_append,Xo,abB,abB];simp[qC,List.singleton_append];congr 2;show Hm zj
theorem MJ {xs:Array Nat}(h:rq xs) (hn:xs[SetTable.below xs j]?≠ae j):rq (SetTable.insertAt xs (SetTable.below xs j) j):=by
 let#[b1,b2,b3]:=mB h j;unfold rq;rw[Ak];have qp:∀ x∈xs.toList.take (SetTable.below xs j),x<j:=λx m=>by
  let#[i,hi,e]:=aa4 m;rw[yB]at hi;refine b2 i x za ?_;rw[<-qH,<-e,List.getElem_take];show cY za
 have adH:∀ x∈xs.toList.drop _,j<x:=λx m=>by
  let#[i,hi,e]:=aa4 m;rw[He]at hi;have ex:xs[SetTable.below xs j+i]?=ae x:=by
   rw[<-qH,<-e,List.getElem_drop];show cY za
  have:=b3 _ x (wM _ _) ex;have ne:x≠j:=λz=>by
   subst z;cases i with
   |zero=>show hn ex
   |succ i=>
     have lt:SetTable.below xs x<xs.size:=by
      have:=(Array.getElem?_eq_some_iff.mp ex).1;lia
     have el:xs[SetTable.below xs x]?=ae xs[SetTable.below xs x]:=by simp
     have a:=b3 _ _ (aE _) el;have b:=Aq h el ex za;lia
  lia
 rw[List.pairwise_append];refine#[h.sublist<|aaT _ _,List.pairwise_cons.mpr #[adH,h.sublist<|List.drop_sublist _ _],λa ma b mb=>?_];have:=qp a ma;rcases bq.mp mb with rfl|mb
 .show this
 .have:=adH b mb;lia
theorem FJ (n:Nat):rq (Array.range n):=by
 unfold rq;rw[Array.toList_range];show aa5
def Ez (t:SetTable) (j:Nat):zt:=t.place[SetTable.below t.place j]?≠ae j
theorem Dq (h:∀ i,t.slot j≠.live i):Ez t j:=λe=>by
 refine h (SetTable.below t.place j) ?_;unfold SetTable.slot;simp[e]
theorem MK {ha:Nat->Int}{h:Int}:∀ (f:Nat) (p:SetTable.Probe) {j:Nat}{d:Option Nat},(∀ z,p.dummy=ae z->Ez t z)->SetTable.probe.go t ha h f p=ae (.empty j d)->Ez t j /\ ∀ z,d=ae z->Ez t z:=by
 intro l_;induction l_ with
 |zero=>(intro p j d _ e;cases e)
 |succ f az=>
   intro p j d hp e;rw[SetTable.probe.go]at e;split at e
   .ext q;cases e;show#[Dq (λi z=>by rw[q]at z;cases z),hp]
   .ext q;refine az _ (λz hz=>?_) e;have:(t.advance { p with dummy:=ae p.j }).dummy=ae p.j:=by
     unfold SetTable.advance;split<;>rfl
    rw[this]at hz;cases hz;show Dq λi z=>by rw[q]at z;cases z
   .split at e
    .cases e
    .refine az _ (λz hz=>?_) e;have:(t.advance p).dummy=p.dummy:=by
      unfold SetTable.advance;split<;>rfl
     rw[this]at hz;show hp z hz
theorem ML {h:Int}{b:Bool}(e:t.freeSlot h=ae (j,b)):Ez t j:=by
 unfold SetTable.freeSlot at e;split at e
 .ext j' d q;let#[a,c]:=MK _ _ (by intro z hz;cases hz) q;cases d with
  |none=>cases e;show a
  |some z=>cases e;show c z zc
 .cases e
structure eL (aic:Bool) (t:SetTable):zt where
 r:rq t.place
 l:aic=af->t.led=ah
theorem eL.IT {b:Bool}(h:eL b t) (n:Nat):eL b (t.standIn n):=#[FJ n,h.l]
theorem eL.lay {b:Bool}(h:eL b t) (es:Array<|Int×ai) (k:Int) (x:ai):eL b (layNew t es k x).2.1:=by
 unfold layNew;cases e:t.freeSlot k with
 |none=>show h.IT _
 |some p=>
   let#[j,d]:=p;change eL b ((t.put j).1.orStandIn _);have hp:eL b (t.put j).1:=#[MJ h.r<|ML e,h.l];unfold SetTable.orStandIn;split
   .show hp
   .show hp.IT _
theorem eL.plain {b:Bool}{t:SetTable}(h:eL b t) (p:Bool):eL b { t with plain:=p }:=#[h.r,h.l]
theorem J0 (f:Nat->Option Nat):∀ l:List Nat,l.Pairwise (·<·)->(((l.filterMap λj=>(f j).map (j,·)).map (·.1))).Pairwise (·<·):=by
 intro l_;induction l_ with
 |nil=>show λ_=>.nil
 |cons j l az=>
   intro h;let#[h1,h2]:=List.pairwise_cons.mp h;have ih:=az h2;rw[qB];cases e:f j with
   |none=>show ih
   |some z=>
     refine List.pairwise_cons.mpr #[λa ma=>?_,ih];let#[p,mp,rfl]:=bA.mp ma;let#[i,mi,ei]:=List.mem_filterMap.mp mp;cases q:f i with
     |none=>rw[q]at ei;cases ei
     |some w=>
       rw[q]at ei;cases ei;show h1 i mi
theorem eL.aid {b:Bool}(h:eL b t) (es:Array<|Int×ai) (n:Nat):eL b (relayAll t es n).2.1:=by
 unfold relayAll;cases e:t.relaid _ n with
 |none=>show h.IT _
 |some p=>
   let#[t',o]:=p;have ht:eL b t':=by
    unfold SetTable.relaid SetTable.laid at e;cases q:SetTable.layClean _ _ with
    |none=>rw[q]at e;cases e
    |some ow=>
      rw[q]at e;cases e;show#[J0 _ _ aa5,h.l]
   change eL b (if (coversAll o es.size&&t'.fits (o.filterMap _).size)=ah then (o.filterMap _,t',af) else (es,t.standIn es.size,ah)).2.1;split
   .show ht
   .show h.IT _
section
variable {s:ax}
structure dY (prog:c7) (w:cn) (b:Bool) (o:aZ) (ns:List Int) (es:Array<|Int×ai) (ep:Nat) (t:SetTable) (ms:List Int):zt where
 x:o.ExactSet
 d:o.data=.set es ep t
 el:ElemsOf (intKind prog w) es.toList
 bd:es.size<scanBound
 ft:t.fits es.size=ah
 ok:eL b t
 vs:IntsAre (es.toList.map (·.2)) ms
 pm:ms.Perm ns
def pO (prog:c7) (w:cn) (b:Bool) (h:aK) (a:ak) (ns:List Int):zt:=∃ o es ep t ms,h.get? a=ae o /\ dY prog w b o ns es ep t ms
theorem o9:∀ {vs:List ai}{ms:List Int},IntsAre vs ms->∀ k:Int,k∈ms ↔ ∃ v∈vs,(intKind prog w).is k v=ah
 |_,_,.nil,k=>by simp
 | _,_,.cons n t h,k=>by
   have e:(intKind prog w).is k (.int n t)=ah ↔ k=n:=by
    constructor
    .intro z;show(intKind prog w).inj _ k n z (yy prog w n t)
    .rintro rfl;show yy prog w k t
   rw[bq,(o9 h k)];constructor
   .rintro(z|⟨v,mv,ev⟩)
    .show#[_,bC ..,e.mpr z]
    .show#[v,bu _ mv,ev]
   .rintro⟨v,mv,ev⟩;rcases bq.mp mv with rfl|mv
    .show .inl<|e.mp ev
    .show .inr #[v,mv,ev]
theorem dY.mem {b:Bool}{ms:List Int}{es:Array (Int×ai)}(S:dY prog w b o ns es ep t ms) (k:Int):k∈ns ↔ ∃ e∈es.toList,(intKind prog w).is k e.2=ah:=by
 rw[<-S.pm.mem_iff,o9 S.vs k];constructor
 .rintro⟨v,mv,ev⟩;let#[e,me,rfl]:=bA.mp mv;show#[e,me,ev]
 .rintro⟨e,me,ev⟩;show#[e.2,bA.mpr #[e,me,rfl],ev]
theorem dY.len {b:Bool}{ms:List Int}{es:Array (Int×ai)}(S:dY prog w b o ns es ep t ms):es.size=ns.length:=by
 rw[<-S.pm.length_eq,<-S.vs.length,a5,nh]
theorem jO:∀ {vs us:List ai},us.Perm vs->∀ {ms:List Int},IntsAre vs ms->∃ ks,IntsAre us ks /\ ks.Perm ms:=by
 intro vs us p;induction p with
 |nil=>intro ms h;show#[ms,h,.refl _]
 |cons x p ih=>
   intro ms h;cases h with
   |cons n t h=>
     let#[ks,a,c]:=ih h;show#[n::ks,.cons n t a,c.cons n]
 |swap x y l=>
   intro ms h;cases h with
   |cons n t h=>
     cases h with
     |cons m u h=>show#[_,.cons m u<|.cons n t h,.swap ..]
 |trans p q Y5 Y6=>
   intro ms h;let#[ks,a,c]:=Y6 h;let#[js,a',c']:=Y5 a;show#[js,a',c'.trans c]
theorem mY:∀ {vs:List ai}{ms:List Int},IntsAre vs ms->∀ (i:Int) (t:Tok),IntsAre (vs++[.int i t]) (ms++[i])
 |_,_,.nil,i,t=>.cons i t .nil
 |_,_,.cons n u h,i,t=>.cons n u<|mY h i t
theorem dY.anew {b:Bool}{ms:List Int}{es:Array (Int×ai)}(S:dY prog w b o ns es ep t ms) {es':Array (Int×ai)}{t':SetTable}(rX:Nat) (p:es'.toList.Perm es.toList) (f:t'.fits es'.size=ah) (k:eL b t') :
 ∃ Y8,dY prog w b { o with data:=.set es' rX t' } ns es' rX t' Y8:=by
 let#[ks,a,c]:=jO (p.map _) S.vs;have z:es'.size=es.size:=by rw[<-nh,p.length_eq,nh]
 show#[ks,S.x,rfl,S.el.perm p,by rw[z];show S.bd,f,k,a,c.trans S.pm]
theorem dY.more {b:Bool}{ms:List Int}{es:Array (Int×ai)}(S:dY prog w b o ns es ep t ms) (i:Int) (u:Tok) {es':Array (Int×ai)}{t':SetTable}(rX:Nat) (hb:es.size+1<scanBound)
 (p:es'.toList.Perm<|es.toList++[((intKind prog w).hash i,.int i u)]) (f:t'.fits es'.size=ah) (k:eL b t'):∃ Y8,dY prog w b { o with data:=.set es' rX t' } (ns++[i]) es' rX t' Y8:=by
 have q:(es.toList++[((intKind prog w).hash i,Value.int i u)]).map (·.2)=es.toList.map (·.2)++[Value.int i u]:=by simp
 let#[ks,a,c]:=jO (us:=es'.toList.map _) (q▸p.map _)<|mY S.vs i u;have z:es'.size=es.size+1:=by rw[<-nh,p.length_eq,cX,nh,aaW]
 show#[ks,S.x,rfl,(S.el.push (yy prog w i u) zc).perm p,by rw[z];show hb,f,k,a,c.trans<|S.pm.append_right _]
theorem stored {es es':Array (Int×ai)}{t':SetTable}(ho:s.heap.get? a=ae o) (hd:o.data=.set es ep t):(s.heap.update a<|Obj.putSet es' t').get? a=ae { o with data:=.set es' (ep+1) t' }:=by
 have z:=rT (Obj.putSet es' t') ho (by rw[putSet_of es' t' hd];rfl)
 rwa [putSet_of es' t' hd]at z
theorem BZ {b:Bool}{ms:List Int}{es dH:Array (Int×ai)}{t1:SetTable}{wd:Bool}{R:Option Bool->ax->zt}{g:Bool->Sem Unit}(hg:∀ (z:Bool) (s1:ax) (Q:Unit->ax->zt),Q () s1->wpAny zi A (g z) Q E s1)
 (ho:s.heap.get? a=ae o) (hd:o.data=.set es ep t) (S:dY prog w b { o with data:=.set dH (ep+1) t1 } ns dH (ep+1) t1 ms)
 (h:∀ h',Heap.SameBut a s.heap h'->pO prog w b h' a ns->R (ae ah) { s with heap:=h' }) :
 wpAny zi A (do
  storeSet a dH t1
  if (!wd&&t1.tooFull)=ah then do
   g (relayAll t1 dH<|SetTable.grown dH.size).2.2
   storeSet a (relayAll t1 dH<|SetTable.grown dH.size).1 (relayAll t1 dH<|SetTable.grown dH.size).2.1
   pure (ae ah)
  else pure (ae ah)) R E s:=by
 have g1:=stored (es':=dH) (t':=t1) ho hd;have sb:=Heap.SameBut.update s.heap a<|Obj.putSet dH t1;refine aj<|aaC ho hd ?_<|QK S.bd;by_cases c:(!wd&&t1.tooFull)=ah
 .rw[if_pos c];have kp:=relayAll_perm t1 dH<|SetTable.grown dH.size;let#[aie,S2]:=S.anew _ kp (relayAll_fits t1 dH _)<|S.ok.aid dH _;have z2:(relayAll t1 dH<|SetTable.grown dH.size).1.size=dH.size:=by rw[<-nh,kp.length_eq,nh]
  show aj<|hg _ _ _<|aj<|aaC g1 zc (aA<|h _ (sb.trans<|Heap.SameBut.update _ a _) #[_,_,_,_,aie,(stored (s:={ s with heap:=s.heap.update a _ }) (es':=(relayAll t1 dH _).1) (t':=(relayAll t1 dH _).2.1) g1 zc),S2])<|QK (by rw[z2];show S.bd)
 .rw[if_neg c];show aA<|h _ sb #[_,_,_,_,ms,g1,S]
end
section
variable {s:ax}
theorem add_int {b:Bool}{i:Int}{u:Tok}{Q:Bool->ax->zt}(S:pO prog w b s.heap a ns) (hb:ns.length+1<scanBound)
 (h:∀ z h',Heap.SameBut a s.heap h'->pO prog w b h' a (kR ns i)->Q z { s with heap:=h' }):wpAny zi A (setAddHashed a (.int i u)<|(intKind prog w).hash i) Q E s:=by
 have sc:(Value.int i u).scannable=ah:=rfl;let#[o,es,ep,t,ms,ho,S]:=S;have hl:=S.len;refine eQ ?_;refine aj<|vg ho S.d S.ft ?_;change wpAny _ _ (if byScan _ es=ah then _ else _) _ _ _;rw[if_pos<|byScan_of sc S.bd S.el];refine aj<|aj<|pW<|aj<|wpAny_setScan_of (yy prog w i u) ho S.d S.ft S.el ?_;have gw:∀ (z) (s1) (Q1),Q1 () s1->wpAny zi A (match z with|true=>rule "set.scan.the-table-gave-way"|false=>pure ()) Q1 E s1:=by
  intro z s1 Q1 q;cases z
  .show aA q
  .show pW q
 cases fd:List.findIdx? _ es.toList with
 |some j=>
   let#[hj,pj,_]:=List.findIdx?_eq_some_iff_getElem.mp fd;have e1:kR ns i=ns:=by
    unfold kR;rw[if_pos (kz.mpr #[i,((S.mem i).mpr #[_,pF hj,pj]),by simp])]
   refine aA<|aA ?_;have:=h af s.heap (Heap.SameBut.refl a s.heap) (by rw[e1];show#[o,es,ep,t,ms,ho,S]);show this
 |none=>
   have ni:i∉ns:=λz=>by
    let#[e,me,pe]:=(S.mem i).mp z;have:=List.findIdx?_eq_none_iff.mp fd e me;rw[pe]at this;cases this
   have e1:kR ns i=ns++[i]:=by
    unfold kR;rw[if_neg];intro z;let#[k,mk,ek]:=kz.mp z;have:k=i:=by simpa using ek
    show ni<|this▸mk
   have lp:=layNew_perm t es ((intKind prog w).hash i)<|.int i u;have lf:=layNew_fits t es ((intKind prog w).hash i)<|.int i u;have lk:=S.ok.lay es ((intKind prog w).hash i)<|.int i u;rw[Xo]at lp;dsimp only;generalize layNew t es _ _=L at lp lf lk ⊢;let#[dH,t1,wd,gv]:=L;dsimp only at lp lf lk ⊢;have fin:∀ h',Heap.SameBut a s.heap h'->pO prog w b h' a _->wpAny zi A _ Q E { s with heap:=h' }:=λh' sb si=>aA<|h ah h' sb (by rw[e1];show si);refine aj<|gw _ _ _ ?_;by_cases cp:t1.plain=ah
   .rw[if_pos cp,hashByValue_scannable 8 sc];refine aj<|aA ?_;have tk:eL b (if plainKind (.int i u)=ah then t1 else { t1 with plain:=af }):=by
     split
     .show lk
     .show lk.plain _
    have tf:(if plainKind (.int i u)=ah then t1 else { t1 with plain:=af }).fits dH.size=ah:=by
     split
     .show lf
     .show afX lf
    let#[aif,S1]:=S.more i u (ep+1) za lp tf tk;show BZ gw ho S.d S1 λh' sb si=>fin h' sb si
   .rw[if_neg cp];refine aj<|aA ?_;let#[aif,S1]:=S.more i u (ep+1) za lp lf lk;change wpAny _ _ (do
     storeSet a dH t1
     if (!wd&&t1.tooFull)=ah then _ else _) _ _ _
    show BZ gw ho S.d S1 λh' sb si=>fin h' sb si
end
section
variable {s:ax}
noncomputable abbrev cA (w:cn):Bool:=w.params.followText "set-order"
abbrev pP (w:cn):aZ:={ cls:=.type "set",dict:=ag,data:=.set #[] 0 (.fresh 0 0<|!cA w) }
theorem Py (e:h.get? a=ae (pP w)):pO prog w (cA w) h a []:=
 #[_,#[],0,_,[],e,#[#[rfl,rfl,rfl],rfl,λe m=>by simp at m,by decide,rfl,#[.nil,λz=>by rw[z];rfl],.nil,.refl _]]
theorem pO.at {b:Bool}(S:pO prog w b h a ns) (k:∀ o,h.get? a=ae o->h'.get? a=ae o):pO prog w b h' a ns:=by
 let#[o,es,ep,t,ms,ho,S]:=S;show#[o,es,ep,t,ms,k o ho,S]
theorem Pz (a:ai) (h:Q (.ref s.heap.objs.size) { s with heap:=s.heap.push (pP w) }):codeAny zi A (.call (.builtin "set.__new__") #[[.type "set",a],[]]) (wants Q E) s:=by
 refine aaD<|aj<|yt (F.newCall_set_1 a)<|aA #[E7 F.plain_set_new _,uw F.entry_set_new ?_];have ss:=aaE;unfold Builtin.«set.__new__» Builtin.Frozenset.newClass
 wp_walk
 refine uB<|aA<|aj<|aas<|aA<|aA h
variable {I:ak} {wr:List ak} {G:Array GenState -> Array GenState -> zt} {P:Nat -> ai -> zt} {St:Nat -> ax -> zt} {b:Bool}
theorem J1 (W:WalksS prog w A.in1 I fp wr G n P St) (ha:a∉fp) (val:Nat->Int) (hv:∀ i v,P i v->∃ t,v=.int (val i) t) (hb:n+1<scanBound) :
 ∀ (k i:Nat) (s:ax),n=i+k->St i s->pO prog w b s.heap a (firstMet val i)->(∀ s',Moved (a::wr) G s s'->pO prog w b s'.heap a (firstMet val n)->R (.ok<|.ret .none) s') ->
  codeAny zi A (.builtin "set.update.loop" #[[.ref a,.ref I],[]]) R s:=by
 have aw:=λz=>ha<|W.sub _ z;have su:∀ c∈wr,c∈a::wr:=λc z=>.tail _ z;intro k;induction k with
 |zero=>
   intro i s hk st S fin;obtain rfl:n=i:=hk;refine uw ab5<|aj<|W.done s _ _ st λs' mv=>aA<|fin s' (mv.mono su)<|S.at λo e=>mv.heap a o aw e
 |succ k ih=>
   intro i s hk st S fin;have il:i<n:=by lia
   have rm:(firstMet val i).length+1<scanBound:=by have:=firstMet_length_le val i;lia
   refine uw ab5 ?_;rw[XG ab6 _];refine aj<|W.item i s _ _ il st λv s1 pv aih mv=>?_;let#[t,rfl]:=hv i v pv;change wpAny _ A.in1 _ _ _ s1;refine aj<|eQ ?_;unfold setAdd;refine eQ<|aj<|(intKind prog w).pyHash (yy _ _ _ _)<|add_int (S.at λo e=>mv.heap a o aw e) rm λz h' sb S2=>?_;have S3:pO prog w b h' a (firstMet val<|i+1):=by rw[firstMet_succ];show S2
   have ne:∀ c,c∈fp->c≠a:=λc m z=>ha<|z▸m;refine aA #[E7 ab6 _,ih (i+1) _ za (W.frame _ s1 _ _ aih (pX _) λc hc o e=>(sb.2 c<|ne c hc).trans e) S3 λs2 m2 S4=>fin s2 ?_ S4];refine Moved.trans W.gtrans ((mv.mono su).then_heap (pX _) λc o hc e=>?_) m2;show(sb.2 c λz=>hc<|z▸.head _).trans e
end
section
variable {s:ax} {t:ak} 
def EA (prog:c7) (w:cn) (s:ax) (ns:List Int) (s':ax):zt:=∃ h' tk,s'={ s with heap:=h',toks:=tk } /\ pO prog w (cA w) h' s.heap.objs.size (dist ns) /\ Kp s.heap h'
theorem PB {I:ak}{St:Nat->ax->zt}{P:Nat->ai->zt}{it:aZ}(W:WalksS prog w A.in1 (s.heap.objs.size+1) [s.heap.objs.size+1,t] [s.heap.objs.size+1] (λa b=>b=a) ns.length P St) (lt:t<s.heap.objs.size)
 (hv:∀ i v,P i v->∃ u,v=.int (ns.getD i 0) u) (hb:ns.length+1<scanBound) (st:St 0 { s with heap:=(s.heap.push<|pP w).push it }) (hf:it.isFreed=af)
 {F:Result->ax->zt}(h:∀ s',EA prog w s ns s'->F (.ok<|.ret .none) s') :
 codeAny zi A (.builtin "set.update.loop" #[[.ref s.heap.objs.size,.ref<|s.heap.objs.size+1],[]]) F { s with heap:=(s.heap.push<|pP w).push it }:=by
 refine J1 W ?_ _ hv hb ns.length 0 _ za st (Py<|aW _<|bE _ zc) λs' mv S=>?_
 .erw[bq,p7,or_false,not_or];show#[cw<|k8 _,vh lt]
 .let#[h',g',d',aii,X4]:=s';have e1:=mv.gens;have e2:=mv.drawn;have e3:X4=s.os:=mv.os;subst e1 e2 e3;refine h _ #[h',aii,rfl,S,λc o e=>mv.heap c o ?_<|aW _<|aW _ e];have cl:=bf e;simp[bq,p7,or_false,not_or];show#[cw cl,cw<|qA cl]
theorem MM (hh:A.handled=ag) (ht:s.heap.IsList t vs.toArray) (hi:IntsAre vs ns) (hb:ns.length+1<scanBound) {F:Fin->ax->zt}(h:∀ s',EA prog w s ns s'->F (.done<|.ret .none) s') :
 wpAny zi A (Builtin.«set.__init__» #[[.ref s.heap.objs.size,.ref t],[]]) F E { s with heap:=s.heap.push (pP w) }:=by
 have gS:(s.heap.push _).get? s.heap.objs.size=ae (pP w):=bE _ zc;have adI:(s.heap.push<|pP w).IsList t vs.toArray:=ht.at λo e=>aW _ e;have hn:vs.length=ns.length:=hi.length;let#[ot,Ei,_]:=id ht;have lt:=bf Ei;let#[#[oc,od,ak5,qy],g1,g2,n,g3]:=id adI;simp at g2 g3;subst g2;subst g3;have y1:=PySem.F.sub_list_set;have y2:=PySem.F.sub_list_frozenset;have y3:(Value.type "list"==Value.type "dict")=af:=rfl;have sz:(s.heap.push<|pP w).objs.size=s.heap.objs.size+1:=uD ..;unfold Builtin.«set.__init__» noKeywords Builtin.Frozenset.updateFrom;generalize hP:pyIter=P
 wp_walk
 subst hP;refine yn adI<|aj<|QE ?_;rw[sz];have gI:((s.heap.push<|pP w).push { cls:=.type "list_iterator",data:=.fields (List.toArray [.ref t,.int 0 0]) }).get? (s.heap.objs.size+1)=ae { cls:=.type "list_iterator",data:=.fields (List.toArray [.ref t,.int 0 0]) }:=by
  rw[<-sz];show bE _ zc
 have W:=(Walks.list (prog:=prog) (w:=w) (A:=A.in1) hh (s.heap.objs.size+1) t (cw<|qA lt) vs.toArray).toS;rw[show vs.toArray.size=ns.length by simpa using hn]at W;show PB (I:=0) W lt (λi v e=>IntsAre.int_at hi i v (by simpa using e)) hb #[#[_,gI,rfl,rfl],ht.at λo e=>aW _<|aW _ e] zc λs' e=>aA<|aA<|h s' e
theorem MN (hh:A.handled=ag) (ht:s.heap.IsList t vs.toArray) (hi:IntsAre vs ns) (hb:ns.length+1<scanBound) (h:∀ s',EA prog w s ns s'->Q (.ref s.heap.objs.size) s') :
 wpAny zi A (call (.type "set") [.ref t]) Q E s:=by
 let#[c,tl,f1]:=PySem.F.called_set.mro;have f2:=PySem.F.called_set.made;have f3:=PySem.F.called_set.sub;have f4:=PySem.F.called_set.notType;have f5:=PySem.F.called_set.canCreate;have f6:=PySem.F.typeCall_set_1<|.ref t;refine wpAny_call<|aaD<|aA #[ab3 _ (by decide +kernel),uw PySem.F.entry_type_call ?_];rw[Around.under_plain (weight_type_call_type "set" [.ref t] []) rfl]
 repeat (any_goals (first|assumption|wp_step))
 refine wI (Pz (.ref t) (E:=E) (Q:=λo s1=>o=.ref s.heap.objs.size /\ s1={ s with heap:=s.heap.push (pP w) }) #[rfl,rfl]) λr s1 hr=>?_;match r,hr with
 |.error e,hr=>show hr
 |.ok (.ret o),⟨e1,e2⟩=>
   subst e1;subst e2;have gS:(s.heap.push<|pP w).get? s.heap.objs.size=ae (pP w):=bE _ zc;have ty:Shared.TypeIs { s with heap:=s.heap.push (pP w) } (.ref s.heap.objs.size) "set":=#[_,gS,rfl];have k1:=PySem.F.called_set.init.lookup;have k2:=PySem.F.called_set.init.bind<|.ref s.heap.objs.size
   repeat (any_goals (first|assumption|wp_step))
   refine wI (codeAny_call_builtin (R:=wants (λr s2=>r=.none /\ EA prog w s ns s2) E) PySem.F.called_set.init.plain PySem.F.entry_set_init<|check_set_init_1 ty ?_) λr2 s2 Et=>?_
   .show MM (by simp[hh]) ht hi hb λs' e=>#[rfl,e]
   .match r2,Et with
    |.error e,Et=>show Et
    |.ok (.ret r),⟨e3,e4⟩=>
      subst e3
      repeat (any_goals (first|assumption|wp_step))
      show h _ e4
end
theorem gN:Slot "set_iterator" "__next__" "set_iterator.__next__":=.of (owner:="set_iterator") (n:="__next__") (by kernel_rfl) (rfl) (rfl) (rfl) (.inl<|rfl) (by kernel_rfl)
theorem Ar:Slot "set_iterator" "__iter__" "set_iterator.__iter__":=.of (owner:="set_iterator") (n:="__iter__") (by kernel_rfl) (rfl) (rfl) (rfl) (.inl<|rfl) (by kernel_rfl)
theorem lT:entryFor table "set_iterator.__next__"=ae Builtin.«set_iterator.__next__»:=entryFor_of_tree (by kernel_rfl)
theorem B2:entryFor table "set_iterator.__iter__"=ae Builtin.«dict_keyiterator.__iter__»:=aaF (id':="dict_keyiterator.__iter__") (by kernel_rfl) zc (by decide +kernel) (by kernel_rfl)
theorem FK:entryFor table "set.__iter__"=ae Builtin.«frozenset.__iter__»:=aaF (id':="frozenset.__iter__") (by kernel_rfl) zc (by decide +kernel) (by kernel_rfl)
theorem lU (a:ai):argsOk "set_iterator.__next__" #[[a],[]]:=by
 kernel_rfl
theorem B3 (a:ai):argsOk "set_iterator.__iter__" #[[a],[]]:=by
 kernel_rfl
section
variable {s:ax}
theorem mC {α:Type}:∀ (l:List α) {i:Nat}(h:i<l.length),(l[i]::l.eraseIdx i).Perm l
 |[],i,h=>absurd h<|QT _
 |x::l,0,h=>.refl _
 |x::l,i+1,h=>(List.Perm.swap ..).trans<|(mC l _).cons x
theorem PH (nx:Nat->Nat):∀ (f k:Nat) (l:List α) (out:Array α),l.length=f->(pickOrder.go nx f k l out).toList.Perm (out.toList++l):=by
 intro l_;induction l_ with
 |zero=>
   intro k l out h;have:=wX h;subst this;simp[pickOrder.go]
 |succ f az=>
   intro k l out h;have lt:nx k % l.length<l.length:=aaO _ za;rw[pickOrder.go,cY lt];refine(az _ _ _ (by rw[Q3 lt];lia)).trans ?_;rw[Xo,qC];refine afY _ ?_;show mC l lt
theorem B4 (nx:Nat->Nat) (xs:Array α):(pickOrder nx xs).toList.Perm xs.toList:=by
 have:=PH nx xs.size 0 xs.toList #[]<|rfl;simpa[pickOrder] using this
def km (w:cn) (t:SetTable):Nat->Nat
 |0=>0
 |i+1=>if cA w then 0 else t.place.getD i 0+1
def given (w:cn) (a:ak) (ep:Nat) (es:Array<|Int×ai):List ai:=(if cA w then (pickOrder (w.params.setOrder a ep) es).toList else es.toList).map (·.2)
theorem mD (a:ak) (ep:Nat) (es:Array<|Int×ai):(given w a ep es).Perm (es.toList.map (·.2)):=by
 unfold given;split
 .show(B4 _ es).map _
 .show .refl _
theorem FL (h:cA w=ah) (t:SetTable) (i:Nat):km w t i=0:=by
 cases i with
 |zero=>rfl
 |succ i=>show if_pos h
theorem UC {ms:List Int}{es:Array (Int×ai)}(ho:s.heap.get? a=ae o) (S:dY prog w (cA w) o ns es ep t ms) (hp:cA w=af->(!t.plain&&decide (es.size>1))=af) {i:Nat}{x:ai}(hx:(given w a ep es)[i]?=ae x)
 {Q:Option (ai×Nat)->ax->zt}(h:Q (ae (x,km w t<|i+1)) s):wpAny zi A (setNext a (km w t i) i ep) Q E s:=by
 have il:i<es.size:=by
  have:=(List.getElem?_eq_some_iff.mp hx).1;rw[(mD a ep es).length_eq,a5,nh]at this;show this
 refine aj<|vg ho S.d S.ft ?_;refine aj<|aj<|uB<|aA ?_;cases bt:cA w with
 |true=>
   change wpAny _ _ (if cA w=ah then _ else _) _ _ _;rw[if_pos bt];rw[if_neg zj];unfold setWalk setsByText;refine aj<|aj<|vg ho S.d S.ft<|aj<|aj<|uB<|aA ?_;change wpAny _ _ (if cA w=ah then _ else _) _ _ _;rw[if_pos bt];refine aj<|uB<|aA<|aA ?_;unfold given at hx;rw[if_pos bt,kr,qH]at hx;rw[FL bt]at h ⊢;change Q (((pickOrder (w.params.setOrder a ep) es)[i]?).map λe=>(e.2,0)) s;cases q:(pickOrder _ es)[i]? with
   |none=>rw[q]at hx;cases hx
   |some e=>
     rw[q]at hx;cases hx;show h
 |false=>
   change wpAny _ _ (if cA w=ah then _ else _) _ _ _;rw[if_neg (by rw[bt];decide)];unfold given at hx;rw[if_neg (by rw[bt];decide),kr,qH]at hx;have pl:t.place.size=es.size:=by
    have:=S.ft;simp[SetTable.fits,aI,beq_iff_eq]at this;show this.1
   have pi:t.place[i]?=ae (t.place.getD i 0):=by
    have:i<t.place.size:=by lia
    simp[this]
   have sl:SetTable.below t.place (km w t i)=i:=by
    cases i with
    |zero=>show AY S.ok.r
    |succ i=>
      have e1:km w t (i+1)=t.place.getD i 0+1:=if_neg (by rw[bt];decide);rw[e1];refine AX S.ok.r ?_;have:i<t.place.size:=by lia
      simp[this]
   split
   .ext c;show absurd ((c).symm.trans<|hp bt) ze
   .refine aj ?_;change wpAny _ _ (if (!t.led&&!es.isEmpty)=ah then _ else _) _ _ _;rw[if_neg (by rw[(S.ok.l bt)];simp)];refine aA<|aA ?_;rw[sl];cases q:es[i]? with
    |none=>rw[q]at hx;cases hx
    |some e=>
      rw[q]at hx;cases hx;rw[pi];have e1:km w t (i+1)=t.place.getD i 0+1:=if_neg (by rw[bt];decide);rw[e1]at h;show h
end
section
variable {s:ax}
def ug (h:aK) (it a:ak) (k i n ep:Nat):zt:=∃ o u0 u1 u2 u3,h.get? it=ae o /\ o.cls=.type "set_iterator" /\ o.data=.fields (List.toArray [.int (k:Nat) u0,.int (i:Nat) u1,.ref a,.int (n:Nat) u2,.int (ep:Nat) u3])
theorem ug.typeIs {k i:Nat}(h:ug s.heap it a k i n ep):s.TypeIs (.ref it) "set_iterator":=by
 let#[o,_,_,_,_,e,c,_]:=h;show#[o,e,c]
theorem ug.at {k i:Nat}(x:ug h it a k i n ep) (e:∀ o,h.get? it=ae o->h'.get? it=ae o):ug h' it a k i n ep:=by
 let#[o,u0,u1,u2,u3,ho,r]:=x;show#[o,u0,u1,u2,u3,e o ho,r]
theorem PJ {ms:List Int}{es:Array (Int×ai)}{i:Nat}{x:ai}{Q:Option ai->ax->zt}(kH:a≠it) (hi:ug s.heap it a (km w t i) i es.size ep) (ho:s.heap.get? a=ae o) (S:dY prog w (cA w) o ns es ep t ms)
 (hp:cA w=af->(!t.plain&&decide (es.size>1))=af) (hx:(given w a ep es)[i]?=ae x)
 (hQ:∀ h',ug h' it a (km w t<|i+1) (i+1) es.size ep->Heap.SameBut it s.heap h'->Q (ae x) { s with heap:=h' }):wpAny zi A (pyNext<|.ref it) Q E s:=by
 have ty:=hi.typeIs;let#[oi,u0,u1,u2,u3,n9,hc,hd]:=hi;unfold pyNext;refine aj<|uA<|qz ty gN<|eS gN ty lT ?_<|lU _;unfold Builtin.«set_iterator.__next__»;refine aj<|aA ?_;refine aj<|wK n9 hd ?_;change wpAny _ _ _ _ _ s;refine aj<|yz ho S.d S.ft ?_;rw[if_neg zj];change wpAny _ _ (setNext a ((km w t i):Int).toNat ((i):Int).toNat ((ep):Int).toNat >>= λr=>_) _ _ s;rw[nM,nM,nM];refine aj<|UC ho S hp hx ?_;change wpAny _ _ _ _ _ s;have h1:(s.heap.update it _).get? it=ae (Obj.mapFields (·.setIfInBounds 0 (rawInt ((km w t (i+1):Nat):Int))) oi):=rT _ n9<|xh<|p8 hd _;have d1:(Obj.mapFields (·.setIfInBounds 0 (rawInt ((km w t (i+1):Nat):Int))) oi).data=.fields (List.toArray [rawInt ((km w t (i+1):Nat):Int),.int (i:Nat) u1,.ref a,.int (es.size:Nat) u2,.int (ep:Nat) u3]):=by rw[p8 hd];simp
 refine aj<|rM n9 hd zj ?_;change wpAny _ _ _ _ _ _;refine aj<|rM h1 d1 zj ?_;refine aA #[_,rfl,aA<|hQ _ #[_,0,0,u2,u3,rT _ h1<|xh<|p8 d1 _,?_,?_]<|(Heap.SameBut.update ..).trans<|Heap.SameBut.update ..]
 .show(yD ..).trans ((yD ..).trans hc)
 .rw[p8 d1];simp[rawInt]
end
section
variable {s:ax}
theorem UD {ms:List Int}{es:Array (Int×ai)}(ho:s.heap.get? a=ae o) (S:dY prog w (cA w) o ns es ep t ms) (hp:cA w=af->(!t.plain&&decide (es.size>1))=af)
 {Q:Option (ai×Nat)->ax->zt}(h:Q ag s):wpAny zi A (setNext a (km w t es.size) es.size ep) Q E s:=by
 refine aj<|vg ho S.d S.ft ?_;refine aj<|aj<|uB<|aA ?_;cases bt:cA w with
 |true=>
   change wpAny _ _ (if cA w=ah then _ else _) _ _ _;rw[if_pos bt,if_neg zj];refine aj<|aj<|vg ho S.d S.ft<|aj<|aj<|uB<|aA ?_;change wpAny _ _ (if cA w=ah then _ else _) _ _ _;rw[if_pos bt];refine aj<|uB<|aA<|aA ?_;have e1:(pickOrder (w.params.setOrder a ep) es)[es.size]?=ag:=by
    have:=(B4 (w.params.setOrder a ep) es).length_eq;rw[nh,nh]at this;rw[<-this];simp
   change Q (((pickOrder (w.params.setOrder a ep) es)[es.size]?).map λe=>(e.2,km w t es.size)) s;rw[e1];show h
 |false=>
   change wpAny _ _ (if cA w=ah then _ else _) _ _ _;rw[if_neg (by rw[bt];decide)];have pl:t.place.size=es.size:=by
    have:=S.ft;simp[SetTable.fits,aI,beq_iff_eq]at this;show this.1
   have sl:SetTable.below t.place (km w t es.size)=es.size:=by
    cases q:es.size with
    |zero=>show AY S.ok.r
    |succ i=>
      have e1:km w t (i+1)=t.place.getD i 0+1:=if_neg (by rw[bt];decide);rw[e1];refine AX S.ok.r ?_;have:i<t.place.size:=by lia
      simp[this]
   split
   .ext c;show absurd ((c).symm.trans<|hp bt) ze
   .refine aj ?_;change wpAny _ _ (if (!t.led&&!es.isEmpty)=ah then _ else _) _ _ _;rw[if_neg (by rw[(S.ok.l bt)];simp)];refine aA<|aA ?_;rw[sl];have e2:es[es.size]?=ag:=by simp
    rw[e2];show h
theorem UE {ms:List Int}{es:Array (Int×ai)}{Q:Option ai->ax->zt}(hh:A.handled=ag) (hi:ug s.heap it a (km w t es.size) es.size es.size ep) (ho:s.heap.get? a=ae o) (S:dY prog w (cA w) o ns es ep t ms)
 (hp:cA w=af->(!t.plain&&decide (es.size>1))=af) (hQ:∀ h',Heap.ExtBut it s.heap h'->Q ag { s with heap:=h' }):wpAny zi A (pyNext<|.ref it) Q E s:=by
 have ty:=hi.typeIs;let#[oi,u0,u1,u2,u3,n9,hc,hd]:=hi;refine aj<|uA<|qz ty gN<|eS gN ty lT ?_<|lU _;refine aj<|aA ?_;refine aj<|wK n9 hd ?_;refine aj<|yz ho S.d S.ft ?_;rw[if_neg zj];change wpAny _ _ _ _ _ s;refine aj<|UD ho S hp ?_;refine aj<|rM n9 hd zj ?_;refine aj (by
  refine aj<|eR (aj<|yt (by first|rfl|(rfl))<|eR ?_ (by size_fits)) (by size_fits);refine aj<|E4 ?_;rw[hh];refine aj<|aA<|E5 ?_;refine aj<|yx #[_,bE _ zc,rfl] E6 ?_;show aA (hQ _<|((Heap.SameBut.update ..).extBut.push _).push _))
theorem MO (hh:A.handled=ag) (kH:a≠it) {ms:List Int}{es:Array (Int×ai)}(S:dY prog w (cA w) o ns es ep t ms) (hp:cA w=af->(!t.plain&&decide (es.size>1))=af) :
 Walks prog w A it [it,a] [it] es.size (λi v=>(given w a ep es)[i]?=ae v) (λi h=>ug h it a (km w t i) i es.size ep /\ h.get? a=ae o) where
 sub:=λb hb=>by simp at hb;simp[hb]
 frame:=λ_ _ _ st hk=>#[st.1.at λo e=>hk it zj o e,hk a zj _ st.2]
 item:=λi s Q E hi st hQ=>by
  obtain⟨x,hx⟩:∃ x,(given w a ep es)[i]?=ae x:=by
   have:i<(given w a ep es).length:=by rw[(mD a ep es).length_eq,a5,nh];show hi
   show#[_,cY this]
  refine PJ kH st.1 st.2 S hp hx λh' i' sb=>?_;show hQ x h' s.toks hx #[i',(sb.2 a kH).trans st.2] λb o hb e=>(sb.2 b λz=>hb (by simp[z])).trans e
 done:=λs Q E st hQ=>UE hh st.1 st.2 S hp λh' he=>hQ h' s.toks λb o hb e=>he b o (λz=>hb (by simp[z])) e
 self:=λi s Q E st hQ=>by
  have ty:=st.1.typeIs;refine yw ty Ar<|eS Ar ty B2 ?_<|B3 _;show aA #[_,rfl, "set_iterator",_,ty,gN.lookup,hQ]
end
section
variable {s:ax}
theorem MP {src:Source}{Q:Nat->ax->zt}(hn:n≠0) (h:∀ i,i<n->Q i { s with drawn:=s.drawn.bump src }):wpAny zi A (choose src n) Q E s:=λ_ _ _=>#[hn,h _<|aaO _<|Nat.pos_of_ne_zero hn]
theorem Ds {α:Type}:∀ (n:Nat) (l:List α) (s:ax) {Q:List α->ax->zt},l.length=n->(∀ l' d,l'.Perm l->Q l' { s with drawn:=d })->wpAny zi A (drawOrder n l) Q E s
 | 0,l,s,Q,hl,h=>by
   have:=wX hl;subst this;show aA<|h [] s.drawn<|.refl _
 |n+1,[],s,Q,hl,h=>by cases hl
 | n+1,x::l,s,Q,hl,h=>by
   refine aj<|MP zj λi hi=>?_;rw[cY hi];refine aj<|Ds n _ _ (by rw[Q3 hi];lia) λl' d p=>aA<|h _ d ?_;show(p.cons _).trans (mC _ hi)
def uh (h:aK) (it a q:ak) (i n ep:Nat):zt:=∃ o u1 u2 u3,h.get? it=ae o /\ o.cls=.type "set_iterator" /\ o.data=.fields (List.toArray [.ref q,.int (i:Nat) u1,.ref a,.int (n:Nat) u2,.int (ep:Nat) u3])
theorem uh.typeIs {q:ak}{i:Nat}(h:uh s.heap it a q i n ep):s.TypeIs (.ref it) "set_iterator":=by
 let#[o,_,_,_,e,c,_]:=h;show#[o,e,c]
theorem uh.at {q:ak}{i:Nat}(x:uh h it a q i n ep) (e:∀ o,h.get? it=ae o->h'.get? it=ae o):uh h' it a q i n ep:=by
 let#[o,u1,u2,u3,ho,r]:=x;show#[o,u1,u2,u3,e o ho,r]
theorem PK {q:ak}{oq:aZ}{ms:List Int}{es:Array (Int×ai)}{c:Nat}{ps:List Nat}{i:Nat}{e:Int×ai}{Q:Option ai->ax->zt}(hi:uh s.heap it a q i es.size ep) (ho:s.heap.get? a=ae o) (S:dY prog w (cA w) o ns es ep t ms)
 (hq:s.heap.get? q=ae oq) (xW:oq.data=.seq (ps.map λ(k:Nat)=>rawInt (k:Int)).toArray c) (hj:ps[i]?=ae j) (hx:es[j]?=ae e)
 (hQ:∀ h',uh h' it a q (i+1) es.size ep->Heap.SameBut it s.heap h'->Q (ae e.2) { s with heap:=h' }):wpAny zi A (pyNext<|.ref it) Q E s:=by
 have ty:=hi.typeIs;let#[oi,u1,u2,u3,n9,hc,hd]:=hi;unfold pyNext;refine aj<|uA<|qz ty gN<|eS gN ty lT ?_<|lU _;unfold Builtin.«set_iterator.__next__»;refine aj<|aA ?_;refine aj<|wK n9 hd ?_;change wpAny _ _ _ _ _ s;refine aj<|yz ho S.d S.ft ?_;rw[if_neg zj];change wpAny _ _ _ _ _ s;unfold seqItems?;refine aj<|aj<|wH hq ?_;rw[xW];refine aA ?_;dsimp only;rw[nM,show (ps.map λ(k:Nat)=>rawInt<|k).toArray[i]?=ae (rawInt<|j) by simp[hj]];change wpAny _ _ (setNextDrawn a ((j):Int).toNat ((ep):Int).toNat >>= λr=>_) _ _ s;rw[nM,nM];unfold setNextDrawn;refine aj<|aj<|vg ho S.d S.ft ?_;dsimp only;rw[if_neg zj,hx];refine aA ?_;change wpAny _ _ _ _ _ _;refine aj<|rM n9 hd zj ?_;refine aA #[_,rfl,aA<|hQ _ #[_,0,u2,u3,rT _ n9<|xh<|p8 hd _,(yD ..).trans hc,?_]<|Heap.SameBut.update ..];rw[p8 hd];simp[rawInt]
end
section
variable {s:ax}
theorem UF {q:ak}{oq:aZ}{ms:List Int}{es:Array (Int×ai)}{c:Nat}{ps:List Nat}{i:Nat}{Q:Option ai->ax->zt}(hh:A.handled=ag) (hi:uh s.heap it a q i es.size ep) (ho:s.heap.get? a=ae o) (S:dY prog w (cA w) o ns es ep t ms)
 (hq:s.heap.get? q=ae oq) (xW:oq.data=.seq (ps.map λ(k:Nat)=>rawInt (k:Int)).toArray c) (hj:ps[i]?=ag)
 (hQ:∀ h',Heap.ExtBut it s.heap h'->Q ag { s with heap:=h' }):wpAny zi A (pyNext<|.ref it) Q E s:=by
 have ty:=hi.typeIs;let#[oi,u1,u2,u3,n9,hc,hd]:=hi;refine aj<|uA<|qz ty gN<|eS gN ty lT ?_<|lU _;refine aj<|aA ?_;refine aj<|wK n9 hd ?_;refine aj<|yz ho S.d S.ft ?_;rw[if_neg zj];refine aj<|aj<|wH hq ?_;rw[xW];refine aA ?_;dsimp only;rw[nM,show (ps.map λ(k:Nat)=>rawInt<|k).toArray[i]?=ag by simpa using hj];have h1:(s.heap.update it _).get? it=ae (Obj.mapFields (·.setIfInBounds 0 (rawInt 0)) oi):=rT _ n9<|xh<|p8 hd _;have d1:(Obj.mapFields (·.setIfInBounds 0 (rawInt 0)) oi).data=.fields (List.toArray [rawInt 0,.int (i) u1,.ref a,.int (es.size) u2,.int (ep) u3]):=by rw[p8 hd];simp
 refine aj<|rM n9 hd zj ?_;refine aj<|rM h1 d1 zj ?_;refine aj (by
  refine aj<|eR (aj<|yt (by first|rfl|(simp;rfl))<|eR ?_ (by size_fits)) (by size_fits);refine aj<|E4 ?_;rw[hh];refine aj<|aA<|E5 ?_;refine aj<|yx #[_,bE _ zc,rfl] E6 ?_;show aA (hQ _<|(((Heap.SameBut.update ..).trans<|Heap.SameBut.update ..).extBut.push _).push _))
noncomputable def IU (es:Array<|Int×ai) (ps:List Nat):List ai:=ps.map λk=>(es.getD k (0,.none)).2
theorem Dt {es:Array (Int×ai)}{ps:List Nat}(p:ps.Perm<|List.range es.size):(IU es ps).Perm (es.toList.map (·.2)):=by
 refine(p.map _).trans (afZ ?_);apply wV;intro i;by_cases h:i<es.size
 .simp[h]
 .simp[h]
theorem PL (hh:A.handled=ag) {q:ak}(kH:a≠it) (aij:q≠it) {oq:aZ}{ms:List Int}{es:Array (Int×ai)}{c:Nat}{ps:List Nat}(S:dY prog w (cA w) o ns es ep t ms)
 (xW:oq.data=.seq (ps.map λ(k:Nat)=>rawInt (k:Int)).toArray c) (p:ps.Perm<|List.range es.size) :
 Walks prog w A it [it,a,q] [it] es.size (λi v=>(IU es ps)[i]?=ae v) (λi h=>uh h it a q i es.size ep /\ h.get? a=ae o /\ h.get? q=ae oq) where
 sub:=λb hb=>by simp at hb;simp[hb]
 frame:=λ_ _ _ st hk=>#[st.1.at λo e=>hk it zj o e,hk a zj _ st.2.1,hk q zj _ st.2.2]
 item:=λi s Q E hi st hQ=>by
  have il:i<ps.length:=by rw[p.length_eq,wU];show hi
  have ej:=cY il;have jl:=List.mem_range.mp<|p.mem_iff.mp<|pF il;have ex:es[ps[i]]?=ae es[ps[i]]:=by simp
  refine PK st.1 st.2.1 S st.2.2 xW ej ex λh' i' sb=>?_;refine hQ _ h' s.toks ?_ #[i',(sb.2 a kH).trans st.2.1,(sb.2 q aij).trans st.2.2] λb o hb e=>(sb.2 b λz=>hb (by simp[z])).trans e;unfold IU;rw[kr,ej];simp[jl]
 done:=λs Q E st hQ=>UF hh st.1 st.2.1 S st.2.2 xW (rO (by rw[p.length_eq,wU];show aE _)) λh' he=>hQ h' s.toks λb o hb e=>he b o (λz=>hb (by simp[z])) e
 self:=λi s Q E st hQ=>by
  have ty:=st.1.typeIs;refine yw ty Ar<|eS Ar ty B2 ?_<|B3 _;change wpAny _ _ _ _ _ s;show aA #[_,rfl, "set_iterator",_,ty,gN.lookup,hQ]
end
section
variable {s:ax}
def aik (prog:c7) (w:cn) (A:eu) (s:ax) (a:ak) (es:Array<|Int×ai) (it:ak) (s':ax):zt:=
 ∃ (h':aK) (d:Drawn) (us:List ai) (fp:List ak) (St:Nat->aK->zt),s'={ s with heap:=h',drawn:=d } /\ Kp s.heap h' /\ us.Perm (es.toList.map (·.2)) /\ it∈fp /\ (∀ b∈fp,b<h'.objs.size /\ (b=a \/ s.heap.objs.size<=b)) /\ s.heap.objs.size<=it /\
  Walks prog w A it fp [it] es.size (λi v=>us[i]?=ae v) St /\ St 0 h' /\ ∀ i h,St i h->∃ o,h.get? it=ae o /\ o.cls=.type "set_iterator"
theorem MQ (hh:A.handled=ag) {ms:List Int}{es:Array (Int×ai)}(ho:s.heap.get? a=ae o) (S:dY prog w (cA w) o ns es ep t ms)
 (h:∀ it s',aik prog w A s a es it s'->Q (.ref it) s'):wpAny zi A (pyIter<|.ref a) Q E s:=by
 have ty:s.TypeIs (.ref a) "set":=#[o,ho,S.x.1];have al:=bf ho;refine yw ty abW<|eS abW ty FK ?_<|F.args_set_iter_1 _;unfold Builtin.«frozenset.__iter__»;change wpAny _ _ (Builtin.Frozenset.sizeOf a >>= λn=>_) _ _ s;unfold Builtin.Frozenset.sizeOf;refine aj<|aj<|yz ho S.d S.ft<|aA ?_;unfold setDrawn setsByText;refine aj<|aj<|vg ho S.d S.ft<|aj<|aj<|uB<|aA<|aA ?_;dsimp only;split
 .ext c;have c':(!cA w&&(!t.plain&&decide _))=ah:=c;refine aj<|Ds es.size _ s zj λps d p=>?_;unfold newTuple;refine aj (eR ?_ ?_)
  .have hq:(s.heap.push { cls:=.type "tuple",data:=.seq (ps.map λ(k:Nat)=>rawInt<|k).toArray }).get? s.heap.objs.size=ae { cls:=.type "tuple",data:=.seq (ps.map λ(k:Nat)=>rawInt<|k).toArray }:=bE _ zc;have Es:(s.heap.push { cls:=.type "tuple",data:=.seq (ps.map λ(k:Nat)=>rawInt<|k).toArray }).get? a=ae o:=aW _ ho;refine aj<|aaG Es S.d S.ft ?_;unfold newFields;refine aj<|eR (aA ?_) (by size_fits);have sz:(s.heap.push { cls:=.type "tuple",data:=.seq (ps.map λ(k:Nat)=>rawInt<|k).toArray }).objs.size=s.heap.objs.size+1:=uD ..;have gi:=bE (s.heap.push { cls:=.type "tuple",data:=.seq (ps.map λ(k:Nat)=>rawInt<|k).toArray }) (o:={ cls:=.type "set_iterator",data:=.fields [.ref s.heap.objs.size,rawInt 0,.ref a,rawInt (es.size:Nat),rawInt (ep:Nat)].toArray }) zc
   refine#[_,rfl, "set_iterator",_,#[_,gi,rfl],gN.lookup,h _ _ #[_,d,IU es ps,[_,a,s.heap.objs.size],_,rfl,λb o e=>aW _<|aW _ e,Dt p,.head _,λb hb=>?_,by rw[sz];show pX _,
    PL hh (by rw[sz];show cw (qA al)) (by rw[sz];show cw (k8 _)) S zc p,#[#[_,_,_,_,gi,rfl,rfl],aW _ Es,aW _ hq],λi h st=>?_]]
   .rw[uD,sz];erw[bq,p7,or_false]at hb;rcases hb with rfl|rfl|rfl
    .rw[sz];show#[k8 _,.inr<|pX _]
    .show#[qA<|qA al,.inl zc]
    .show#[qA<|k8 _,.inr<|aE _]
   .let#[#[oi,_,_,_,e,cl,_],_]:=st;show#[oi,e,cl]
  .change (ps.map λ(k:Nat)=>rawInt (k:Int)).toArray.size<=sizeLine;have l1:=p.length_eq;have bd:=S.bd;have sb:scanBound=4096:=rfl;have sl:sizeLine=16777216:=bp;rw[wU]at l1;simp;lia
 .ext c;have hp:cA w=af->(!t.plain&&decide (es.size>1))=af:=λz=>by
   have c':¬ ((!cA w&&(!t.plain&&decide (es.size>1)))=ah):=c;rw[z]at c';simpa using c'
  refine aj<|aA ?_;change wpAny _ _ (setEpoch a >>= λe=>_) _ _ s;refine aj<|aaG ho S.d S.ft ?_;change wpAny _ _ (newFields "set_iterator" [rawInt 0,rawInt 0,.ref a,rawInt (es.size:Nat),rawInt (ep:Nat)] >>= λv=>ret v) _ _ s;unfold newFields;refine aj<|eR (aA ?_) (by size_fits);have gi:(s.heap.push { cls:=.type "set_iterator",data:=.fields [rawInt 0,rawInt 0,.ref a,rawInt (es.size:Nat),rawInt (ep:Nat)].toArray }).get? s.heap.objs.size=ae { cls:=.type "set_iterator",data:=.fields [rawInt 0,rawInt 0,.ref a,rawInt (es.size:Nat),rawInt (ep:Nat)].toArray }:=bE _ zc;refine#[_,rfl, "set_iterator",_,#[_,gi,rfl],gN.lookup,h _ _ #[_,s.drawn,given w a ep es,[s.heap.objs.size,a],_,rfl,λb o e=>aW _ e,mD a ep es,.head _,λb hb=>?_,aE _,MO hh (cw al) S hp,#[#[_,_,_,_,_,gi,rfl,rfl],aW _ ho],λi h st=>?_]]
  .rw[uD];simp at hb;rcases hb with rfl|rfl
   .show#[k8 _,.inr<|aE _]
   .show#[qA al,.inl zc]
  .let#[#[oi,_,_,_,_,e,cl,_],_]:=st;show#[oi,e,cl]
end
section
variable {s:ax}
noncomputable abbrev Y9:aZ:={ cls:=.type "list",data:=.seq ([]:List ai).toArray }
def ail (s:ax) (s':ax):zt:=∃ h' d tk,s'={ s with heap:=h',drawn:=d,toks:=tk } /\ Kp s.heap h' /\ s.heap.objs.size<=h'.objs.size
theorem Du (hh:A.handled=ag) {ms:List Int}{es:Array (Int×ai)}{Q:List ai->ax->zt}(ho:s.heap.get? a=ae o) (S:dY prog w (cA w) o ns es ep t ms)
 (h:∀ us s',us.Perm (es.toList.map (·.2))->ail s s'->Q us s'):wpAny zi A (collect<|.ref a) Q E s:=by
 have nl:s.heap.objs.size≠a:=vh<|bf ho;have ty:∀ h' d tk,Kp s.heap h'->Shared.TypeIs { s with heap:=h',drawn:=d,toks:=tk } (.ref a) "set":=λh' d tk k=>#[o,k a o ho,S.x.1];unfold collect;refine aj (QE (uw F.entry_proto_collect (by
  rw[XG F.plain_proto_collect _];refine aj<|eR (aA #[E7 abX _,uw F.entry_list_iadd ?_]) (by size_fits);rw[XG abX _];change wpAny _ A.in1 (Builtin.List.listExtendWith _ _ _) _ _ _;unfold Builtin.List.listExtendWith;have k1:Kp s.heap (s.heap.push Y9):=λb ob e=>aW _ e;refine aj<|vf (ty _ s.drawn s.toks k1) ?_;rw[if_neg (by simp[Builtin.List.listSameRef,nl])];refine aj<|MQ (by simp[hh]) (k1 a o ho) S λit s1 bg=>?_;let#[h1,d,us,fp,St,rfl,k2,pu,mi,fl,ge,W,aim,cl]:=bg;have k3:Kp s.heap h1:=λb ob e=>k2 b ob<|k1 b ob e;have g0:h1.get? s.heap.objs.size=ae Y9:=k2 _ _<|bE _ zc;refine aj<|eQ ?_;unfold Builtin.List.listLengthHint;refine aj<|aav (ty h1 d s.toks k3) F.slot_set_len.lookup ?_;dsimp only;rw[show splitId "set.__len__"=ae ("set","__len__") by decide +kernel];dsimp only;refine aj<|yx (b:=ah) (ty h1 d s.toks k3) aaE ?_;rw[if_neg ze];rw[if_pos (by decide +kernel)];refine aj<|vf (ty h1 d s.toks k3) ?_;refine aA ?_;rw[if_pos (by decide +kernel)];refine aj<|pW<|aj ?_;change wpAny _ A.in1 _ _ _ _;have g1:=rT (Obj.mapSeq (·.push Value.none)) g0 zc;have z1:(s.heap.push Y9).objs.size=s.heap.objs.size+1:=uD ..;have ain:s.heap.objs.size+1<=it:=z1▸ge;have nf:s.heap.objs.size∉fp:=λm=>by
   rcases(fl _ m).2 with z|z
   .show nl z
   .show absurd (z1▸z:s.heap.objs.size+1<=s.heap.objs.size)<|Nat.not_succ_le_self _
  have adJ:∀ b ob,b≠s.heap.objs.size->h1.get? b=ae ob->((h1.update s.heap.objs.size (Obj.mapSeq (·.push Value.none))).update s.heap.objs.size (Obj.mapSeq (·.pop))).get? b=ae ob:=λb ob ne e=>(Ho _ _<|Ne.symm ne).trans<|(Ho _ _<|Ne.symm ne).trans e;have sl:es.size<=sizeLine:=QK S.bd;refine aj (aaH g0 zc (aaH g1 zc (aA #[E7 F.plain_extend_loop _,codeAny_extend_loopS W.toS sl _ nf _ es.size 0 _ _ _ zc (dM _) (W.frame 0 h1 _ aim λb hb ob e=>adJ b ob (λz=>nf<|z▸hb) e) (rT (Obj.mapSeq (·.pop)) g1 zc) (ItemsOf.nil _) λs2 acc c mv gs IV=>?_])));refine aj<|wH gs<|aA<|h _ s2 ?_ ?_
  .have e1:acc.toList=us:=by
    have ul:us.length=es.size:=by rw[pu.length_eq,a5,nh]
    apply wV;intro j;by_cases hj:j<acc.size
    .have ej:acc[j]?=ae acc[j]:=by simp
     rw[qH,ej];show(IV.2 j _ ej).symm
    .have h3:=IV.1;rw[qH,Xp za,rO za]
   rw[e1];show pu
  .let#[h2,gg,dd,tk,os]:=s2;have q1:gg=s.gens:=mv.gens;have q2:dd=d:=mv.drawn;have q3:os=s.os:=mv.os;subst q1 q2 q3;refine#[h2,dd,tk,rfl,λb ob e=>?_,nL<|bf gs];have bl:=bf e;refine mv.heap b ob ?_<|adJ b ob (cw bl)<|k3 b ob e;simp[bq,p7,or_false,not_or];show#[cw bl,cw<|eT (qA bl) ain])))
end
section
variable {s:ax}
theorem FM (hh:A.handled=ag) (S:pO prog w (cA w) s.heap a ns) (dU:ns.length<64)
 (h:∀ (l:ak) (out:Array ai) (ks:List Int) (c:Nat) (h':aK) (d:Drawn) (tk:Nat),IntsAre out.toList ks->ks.Perm ns->ks.Pairwise (·<=·)->Kp s.heap h'->s.heap.objs.size<=l->h'.get? l=ae (seqObj "list" out c)->Q (.ref l) { s with heap:=h',drawn:=d,toks:=tk }) :
 wpAny zi A (call (.builtin "sorted") [.ref a]) Q E s:=by
 let#[o,es,ep,t,ms,ho,S]:=S;refine Xx Xc Xd Xe (Xf _) ?_;refine aj<|aA<|aj<|Du (by simp[hh]) ho S λus s1 pu wk=>?_;let#[h1,d,tk,rfl,k1,le]:=wk;let#[ks,ik,pk]:=jO pu S.vs;have ul:us.length<64:=by
  rw[ik.length,pk.length_eq,S.pm.length_eq];show dU
 refine aj<|yq ?_;have gl:(h1.push _).get? h1.objs.size=ae (seqObj "list" us.toArray 0):=bE _ zc;refine aj<|eQ<|eS Xg #[_,gl,rfl] Xh (abv gl ik ul λout js a1 a2 a3=>#[_,rfl,aA #[_,rfl,?_]])<|Xi _;let#[c,gc]:=sortedHeap_at gl;show h _ out js c _ d tk a1 ((a2.trans pk).trans S.pm) a3 (λb ob e=>by
  have bl:=bf<|k1 b ob e;rw[sortedHeap_old (cw bl) (by rw[uD];show qA bl)];show aW _ (k1 b ob e)) le gc
end
end HT
namespace L2
open PySem.W
section
variable {a:au} {p p2 uf:aM} {t:TA}
def adK (K:Frag) (vs:List V) (H:Hp) (Q:VK):zt:=∃ (p:ak) (ns:List Int),vs=[.ref p] /\ bN K H p (ns.map V.int) /\ ns.length<4000 /\ (HT.dist ns).length<64 /\ ∀ l,H l=ag->Q (.ref l) (upd H l<|.lst<|(DL.sortI<|HT.dist ns).map V.int)
theorem FN (hc:X.calm=ah) (hg:Gl X "sorted") (hm:X.mg "sorted"=ag) (vS:Gl X "set") (vT:X.mg "set"=ag) (ha:PA X [a] t) (hs:DL.bO a=ah) :
 PE X (.Call (.Name "sorted" p) [.Call (.Name "set" p2) [a] [] uf] [] pos) (HV (adK X.K) t):=by
 intro pins s σ H Q I h;have st:=DL.fH (e:=.Call (.Name "set" p2) [a] [] uf) zc [] X.env;refine uv<|jx I hg hm (by decide +kernel:bootBuiltins "sorted"=ae (.builtin "sorted")) ?_ ze<|rfl;refine callWith_builtin1 ?_ st<|DL.lB zc;rw[st];change wpAny _ _ (spliced ((af,eval (.Call (.Name "set" p2) [a] [] uf) X.env)::backTo pos (starEach [] X.env))) _ _ s;refine xj<|uv<|jx I vS vT (rfl:bootBuiltins "set"=ae (.type "set")) ?_ ze<|rfl;refine callWith_type1 (tA (ha uf pins s σ H _ I h) λus s1 vs H1 I1 r1 q1=>?_) (DL.fH hs [] X.env) zc;let#[l,ns,rfl,hl,hn,dU,q]:=q1;let#[u,rfl,ru]:=Vals.one r1;cases ru;have sb:scanBound=4096:=rfl;have hd:=I1.ok.hd hc;have fin:∀ s',HT.EA X.prog X.w s1 ns s'->wpAny zf X.A (spliced<|backTo pos<|starEach [] X.env) (λws s2=>wpAny zf X.A (call (.builtin "sorted") (.ref s1.heap.objs.size::ws)) (EP X pins σ Q) X.xe s2) X.xe s':=λs' e=>by
  let#[h',tk,rfl,S,hk]:=e;have lz:s1.heap.objs.size<=h'.objs.size:=by
   let#[o,_,_,_,_,ho,_]:=S;show nL<|bf ho
  refine xi<|HT.FM hd S dU λL out ks c h2 d aio a1 a2 a3 k2 le gL=>?_;have e:=DL.oZ (a2.trans (DL.gD _).symm) a3<|DL.iS _;subst e;have ll:((DL.sortI<|HT.dist ns).map V.int).length<=sizeLine:=by
   rw[a5,(DL.gD _).length_eq];show cx (nL dU) ze
  have I2:=I1.laid (t':=aio) (o:=.lst<|(DL.sortI<|HT.dist ns).map V.int) (λb u e=>k2 b u<|hk b u e) (cx lz le) #[ll,out.toList,c,DL.oA a1,gL];show#[.ref L,_,#[I2.ok,I2.os,I2.bare,I2.base,I2.loc,I2.cell,I2.free,I2.qb,I2.pin,I2.aD,I2.len],rfl,q L<|I1.aD.fresh<|cx lz le]
 let#[its,r',pl,hz]:=I1.list hl;show HT.MN hd pl.isList (mz r') za fin
end
end L2
namespace L2.DL
open PySem.W
def wb:List D->Option Res:=λxs=>match xs with
 |[.lst l]=>(intsOf l).bind λns=>if ns.length<4000 /\ (HT.dist ns).length<64 then ae (.lst<|(sortI<|HT.dist ns).map D.int) else ag
 |_=>ag
theorem aip:eX (adK K) wb:=by
 intro F H xs vs Q s sub rx e k;unfold wb at e;split at e
 .ext l;let#[v,t,rfl,#[a,ws,rfl,h3,h4],h2]:=rx;cases (h2);cases e1:intsOf l with
  |none=>rw[e1]at e;cases e
  |some ns=>
    rw[e1]at e;erw[bY]at e;split at e
    .ext hn;cases e;have q1:=h4.ints e1;subst q1;show#[a,ns,rfl,.of h3,hn.1,hn.2,λp hp=>k _ _ #[p,_,rfl,hp,rfl,AK _]]
    .cases e
 .cases e
section
variable {a:au} {p p2 uf:aM} {m:DE (List W)}
theorem FO (bo:Bool) (hc:X.calm=ah) (hg:Gl X "sorted") (hm:X.mg "sorted"=ag) (vS:Gl X "set") (vT:X.mg "set"=ag) (ha:dF X T Z [a] m) (hs:bO a=ah) :
 PD X T Z (.Call (.Name "sorted" p) [.Call (.Name "set" p2) [a] [] uf] [] pos) (dN bo wb m):=PE.imp (FN hc hg hm vS vT ha hs)<|L7 aip
end
end L2.DL
namespace HT
open PySem.W
section
variable {s:ax} {v d:ak} {i:Nat}
end
section
variable {K:Type} [DecidableEq K] {knd:HeapKind prog w K} {s:ax} {d:ak} {k:K} {xs:List (K × ak × ai)} {v:ai}
end
end HT
namespace L2
open PySem.W
section
variable {o f:au} {dR p:aM} {td ty tx:TE}
end
section
variable {elt it aiq IV:au} {air:List au} {scope:bT} {i acc:ai} {env:Env}
end
section
variable {s:ax}
end
abbrev TK:=St->Hp->List Int->(St->Hp->List Int->zt)->zt
section
variable {s:ax} {D:ak} 
end
section
variable {src:List (Option Nat)} {elt:au} {rest:List Comprehension} {scope:bT} {dR p:aM} {wi:TI} {g:TG} {tf:TT} {k:TK} {body:ai -> Env -> Sem Unit}
end
end L2
namespace L2.DL
section
variable {a:au} {p p1:aM}
end
noncomputable def Za (bx:List Bx) (k:Nat):Nat:=match bx[k]? with|some (.lst l)=>l.length|_=>0
section
variable {src:List (Option Nat)} {elt:au} {scope:bT} {g:DG} 
end
open PySem.W
abbrev DK:=aQ->List Bx->List Int->Option (aQ×List Bx×List Int)
section
variable {g:DG} {k:DK}
end
section
variable {src:List (Option Nat)} {elt aiq IV:au} {air:List au} {scope:bT} {dR p:aM} {ak6:DE (List W)} {g g2:DG} {ak7:DE Bool} 
end
def ui:List D->Option (List Key)
 |[]=>ae []
 |d::l=>(n8 d).bind λk=>(ui l).map λt=>k::t
theorem GF:∀ {l:List D}{ks:List Key}{vs:List V},ui l=ae ks->aG F l vs->vs=ks.map kV:=by
 intro l_;induction l_ with
 |nil=>(intro _ _ e h;cases e;show h)
 |cons d l az=>
   intro ks _ e h;let#[v,t,rfl,h1,h2]:=h;unfold ui at e;cases e1:n8 d with
   |none=>rw[e1]at e;cases e
   |some k=>
     cases e2:ui l with
     |none=>rw[e1,e2]at e;cases e
     |some t'=>
       rw[e1,e2]at e;cases e;rw[jk e1 h1,az e2 h2];rfl
noncomputable def eN (l:List<|List Key×D) (k:List Key):Option D:=(l.find? λx=>decide (x.1=k)).map (·.2)
theorem bP.length {F:Hp}:∀ {l:List (List Key×D)}{r:List (List Key×V)},bP F l r->l.length=r.length
 |[],_,h=>by cases (h);rfl
 | (k,d)::l,_,h=>by
   let#[v,t,rfl,_,h2]:=h;simp[h2.length]
theorem bP.get {F:Hp}{k:List Key}:∀ {l:List (List Key×D)}{r:List (List Key×V)},bP F l r->(∀ d,eN l k=ae d->∃ v,dW r k=ae v /\ Den F d v) /\ (eN l k=ag->dW r k=ag)
 |[],_,h=>by cases (h);show#[λd e=>by simp[eN]at e,λ_=>rfl]
 | (k',d)::l,_,h=>by
   let#[v,t,rfl,h1,h2]:=h;by_cases e:k'=k
   .have g:eN ((k',d)::l) k=ae d:=by simp[eN,e]
    rw[g,jB e];show#[λd' z=>by cases z;show#[v,rfl,h1],λz=>by cases z]
   .have g:eN ((k',d)::l) k=eN l k:=by simp[eN,e]
    rw[g,jc e];show h2.get
section
variable {o f:au} {p dR:aM} {mc:DE W}
noncomputable def xX:DE W:=λ_ bx=>.val (.b bx.length)<|bx++[.dT []]
theorem PM:PD X T Z (.Dict [] [] pos) xX:=by
 refine PE.imp Dh λσ H Q=>x4 λF r env bx R h=>λq hq=>?_;refine h F _ _ _ #[Sub.refl F,wR r [q]] (R.Ij hq #[R.qO hq,[],fA,rfl]) #[q,rfl,?_];rw[<-R.len,k9<|aE _,sZ];rfl
end
section
variable {o f:au} {mc:DE W} {HQ:aM}
noncomputable def uj (l:List<|Key×D) (k:Key):List (Key×D):=l.filter λkv=>decide (kv.1≠k)
theorem aR.drop {F:Hp}(k:Key):∀ {l:List (Key×D)}{vs:List (Key×V)},aR F l vs->aR F (uj l k) (qr vs k)
 | [],_,h=>by
   cases (h);show rfl
 | (k',d)::l,_,h=>by
   let#[v,t,rfl,h1,h2]:=h;have ih:=aR.drop k h2;by_cases c:k'=k
   .have e1:uj ((k',d)::l) k=uj l k:=tF (by simp[c]);have e2:qr ((k',v)::t) k=qr t k:=tF (by simp[c]);rw[e1,e2];show ih
   .have e1:uj _ k=(k',d)::uj l k:=tH (by simp[c]);have e2:qr _ k=(k',v)::qr t k:=tH (by simp[c]);rw[e1,e2];show#[v,_,rfl,h1,ih]
theorem bh.at {r':List ak}(g:bh F r F' r') (h:r[n]?=ae a):r'[n]?=ae a:=by
 let#[t,e]:=g.p;rw[<-e,dZ (List.getElem?_eq_some_iff.mp h).1];show h
def uW (m k:DE W):DE W:=λenv bx=>fB zz λx bx1=>match x with
 | .b n=>(match bx1[n]? with
   | some (.aB _)=>fB (k env bx1) λy ay=>(match y,ay[n]? with
     |.d d,ae (.aB l)=>(match n8 d with|some k=>.val (.d<|(hV l k).getD .non) ay|none=>.bad)
     |_,_=>.bad)
   |_=>.bad)
 |_=>.bad
theorem PN {Q:VK}(h:tD T Z (uW ma mb) σ H Q):adt (tD T Z ma) (tD T Z mb) σ H Q:=by
 let#[F,r,env,bx,R,h]:=h;refine#[F,r,env,bx,R,End.bind h λx bx1 F1 r1 v H1 g1 R1 d1 h1=>?_];cases x with
 |b n=>
   simp at h1;let#[a,rfl,ha]:=d1;let#[c,hc,kc]:=R1.eI ha;rw[hc]at h1;cases c with
   |aB l0=>
     let#[_,sH,k0,_]:=kc;refine#[a,rfl,.inl #[sH,.inl k0],F1,r1,env,bx1,R1,End.bind h1 λy ay F2 r2 u H2 g2 R2 d2 h2=>?_];let#[c2,kD,qX]:=R2.eI<|g2.at ha;rw[kD]at h2;split at h2
     .ext d l eq;cases eq;let#[hF,vs,k1,k2]:=qX;split at h2
      .ext k e1;cases jk e1 d2;refine#[_,qt.k k1,?_];cases q:hV l k with
       |none=>
         rw[q]at h2;rw[aR.none k2 q];show h2 F2 r2 _ H2 (.refl F2 r2) R2 zc
       |some w=>
         rw[q]at h2;let#[z,e3,e4]:=aR.some k2 q;rw[e3];show h2 F2 r2 _ H2 (.refl F2 r2) R2 e4
      .show h2.elim
     .show h2.elim
   |_=>show h1.elim
 |_=>show h1.elim
theorem MR (hu:X.A.units+1<cLine) (ho:PD X T Z o ma) (ha:PD X T Z e mb) (m:M1 X o "get" apos e pos):PD X T Z (.Call (.Attribute o "get" apos) [e] [] pos) (uW ma mb):=
 PE.imp (Mq hu ho ha m) λσ H Q h=>PN h
def xY (m k:DE W):DE W:=λenv bx=>fB zz λx bx1=>match x with
 | .b n=>(match bx1[n]? with
   | some (.aB _)=>fB (k env bx1) λy ay=>(match y,ay[n]? with
     |.d d,ae (.aB l)=>(match n8 d with|some k=>(match hV l k with|some u=>.val (.d u) (ay.set n<|.aB<|uj l k)|none=>.bad)|none=>.bad)
     |_,_=>.bad)
   |_=>.bad)
 |_=>.bad
theorem UG {Q:VK}(h:tD T Z (xY ma mb) σ H Q):adu (tD T Z ma) (tD T Z mb) σ H Q:=by
 let#[F,r,env,bx,R,h]:=h;refine#[F,r,env,bx,R,End.bind h λx bx1 F1 r1 v H1 g1 R1 d1 h1=>?_];cases x with
 |b n=>
   simp at h1;let#[a,rfl,ha]:=d1;let#[c,hc,kc]:=R1.eI ha;rw[hc]at h1;cases c with
   |aB l0=>
     let#[_,sH,k0,_]:=kc;refine#[a,rfl,.inl #[sH,.inl k0],F1,r1,env,bx1,R1,End.bind h1 λy ay F2 r2 u H2 g2 R2 d2 h2=>?_];have qW:=g2.at ha;let#[c2,kD,qX]:=R2.eI qW;rw[kD]at h2;split at h2
     .ext d l eq;cases eq;let#[hF,vs,k1,k2]:=qX;split at h2
      .ext k e1;cases jk e1 d2;split at h2
       .ext w q;let#[z,e3,e4]:=aR.some k2 q;show#[vs,k,z,k1,rfl,e3,h2 F2 r2 _ _ (.refl F2 r2) (R2.write qW hF #[hF,_,fA,aR.drop k k2]) e4]
       .show h2.elim
      .show h2.elim
     .show h2.elim
   |_=>show h1.elim
 |_=>show h1.elim
theorem PP (ho:PD X T Z o ma) (ha:PD X T Z e mb) (m:M1 X o "pop" apos e pos):PD X T Z (.Call (.Attribute o "pop" apos) [e] [] pos) (xY ma mb):=
 PE.imp (Mr ho ha m) λσ H Q h=>UG h
def uk (m k:DE W):aC:=λenv bx=>bB zz λx bx1=>bB (k env bx1) λy ay=>match x,y with
 | .b n,.d d=>(match ay[n]?,n8 d with
   |some (.aB l),ae k=>if (hV l k).isSome then .nx env (ay.set n<|.aB<|uj l k) else .bad
   |_,_=>.bad)
 |_,_=>.bad
theorem Ws {D:Ends}(h:tS T Z (uk ma mb) D σ H):ads (tD T Z ma) (tD T Z mb) D σ H:=by
 let#[F,r,env,bx,R,h]:=h;refine#[F,r,env,bx,R,End.bB h λx ay F2 r2 v H2 g2 R2 d2 h2=>#[F2,r2,env,ay,R2,End.bB h2 λy bQ F3 r3 u H3 g3 R3 d3 h3=>?_]];split at h3
 .let#[a,rfl,ha]:=(g3.den d2);let#[c,hc,kc]:=R3.eI ha;rw[hc]at h3;split at h3
  .ext l k e1 e2;cases e1;split at h3
   .ext hl;let#[hF,ao,k1,k2]:=kc;cases jk e2 d3;show#[a,ao,k,rfl,k1,rfl,by rw[ME k2];show hl,h3 F3 r3 _ _ (.refl F3 r3)<|R3.write ha hF #[hF,_,fA,aR.drop k k2]]
   .show h3.elim
  .show h3.elim
 .show h3.elim
theorem PQ (ho:PD X T Z o ma) (hi:PD X T Z e mb):cL X T Z (.Delete [.Subscript o e HQ] pos) (uk ma mb):=
 PS.imp (Pc ho hi) λD σ H h=>Ws h
def rz (m:DE W) (k:DE W):DE W:=λenv bx=>fB zz λx bx1=>match x with
 | .b n=>(match bx1[n]? with
   | some (.lst _)=>fB (k env bx1) λy ay=>(match y,ay[n]? with
     |.d (.lst r),ae (.lst l)=>if l.length+r.length<=sizeLine then .val (.d .non) (ay.set n<|.lst<|l++r) else .bad
     |_,_=>.bad)
   |_=>.bad)
 |_=>.bad
theorem Wt {Q:VK}(h:tD T Z (rz ma mb) σ H Q):Ia X.K "list" acR (tD T Z ma) (HS (tD T Z mb) HR) σ H Q:=by
 let#[F,r,env,bx,R,h]:=h;refine#[F,r,env,bx,R,End.bind h λx bx1 F1 r1 v H1 g1 R1 d1 h1=>?_];cases x with
 |b n=>
   simp at h1;let#[a,rfl,ha]:=d1;let#[c,hc,kc]:=R1.eI ha;rw[hc]at h1;cases c with
   |lst l0=>
     let#[_,sH,k0,_]:=kc;refine#[.inl #[rfl,sH,bN.of k0],F1,r1,env,bx1,R1,End.bind h1 λy ay F2 r2 u H2 g2 R2 d2 h2=>?_];have qW:=g2.at ha;let#[c2,kD,qX]:=R2.eI qW;rw[kD]at h2;split at h2
     .ext q l eq;cases eq;let#[hF,vs,k1,k2]:=qX;let#[b,zs,rfl,k3,k4]:=d2;split at h2
      .ext hz;show#[a,b,vs,zs,rfl,rfl,k1,R2.fh _ _ k3,by rw[<-k2.length,<-k4.length];show hz,h2 F2 r2 _ _ (.refl F2 r2) (R2.write qW hF #[hF,vs++zs,fA,k2.append k4]) zc]
      .show h2.elim
     .show h2.elim
   |_=>show h1.elim
 |_=>show h1.elim
theorem J2 (ho:PD X T Z o ma) (ha:PD X T Z e mb)
 (vH:attributeBase o "extend" X.env (eval o X.env)=eval o X.env:=by rfl)
 (vI:((backTo pos<|starEach [e] X.env).all (λx=>!x.1)&&(backToKw pos<|keywordEach [] X.env).all (λx=>x.1.isSome)
  && decide ([e].length+([]:List Keyword).length+(if ([]:List Keyword).isEmpty then 0 else 1)<30))=ah:=by rfl)
 (vJ:(apos.endLine==pos.line)=ah:=by rfl) (hs:starEach [e] X.env=(af,eval e X.env)::starEach [] X.env:=by rfl) :
 PD X T Z (.Call (.Attribute o "extend" apos) [e] [] pos) (rz ma mb):=
 PE.imp (LY XC PySem.F.slot_list_extend PySem.F.type_list_extend Jy ho (ji ha ls hs) vH vI vJ hs (by rfl)) λσ H Q h=>Wt h
end
section
variable {i:Nat} {l:List D} {vs:List V}
end
end L2.DL
namespace L2
end L2
namespace L2.DL
section
variable {a b c f o:au} {mc:DE W} {p:aM} {k k' nn:Nat} {ps:List Str} {m:DE (List W)}
end
end L2.DL
namespace L2
open PySem.W
section
variable {s:ax} {ao:List (Key × V)} 
theorem Inv.adL (I:Inv X pins σ H s) {u0 u:HO}(h:H a=ae u0) (n1:∀ xs,u0≠.tup xs) (n2:∀ o v,X.H₀ a≠ae (.bK o v)) (n3:∀ ps,u0≠.uG ps) (n4:∀ y,u0≠.own y) (new:cK X.prog X.w (upd H a u) s.heap a u):Inv X pins σ (upd H a u) s:=by
 have ne:∀ {b},H b=ag->upd H a u b=ag:=λ{b} e=>by rw[fC (λz=>by rw[z,h]at e;cases e)];show e
 have ke:∀ {b v},H b=ae v->v≠u0->upd H a u b=ae v:=λ{b v} e n=>by rw[fC (λz=>by rw[z,h]at e;cases e;show n rfl)];show e
 refine#[I.ok,I.os,I.bare,#[I.base.keep,I.base.slot,λb o e n x=>ne<|I.base.free b o e n x,I.base.there,λb xs e=>ke (I.base.nO b xs e) λz=>n1 xs z.symm,λb o v e=>?_,λb ps e=>?_],I.loc,I.cell,ne I.free,λx c e=>ne<|I.qb x c e,λp hp=>?_,λb v e=>?_,I.len]
 .rw[fC λz=>n2 o v (by rw[<-z];show e)];show I.base.pI b o v e
 .let#[m,q]:=I.base.qJ b ps e;show#[m,ke q λz=>n3 _ z.symm]
 .let#[q1,q2,q3]:=I.pin p hp;show#[q1,ne q2,q3]
 .by_cases z:b=a
  .subst z;rw[fA]at e;cases e;show new
  .rw[fC z]at e;show(I.aD b v e).stay (λ_ _ _ q=>q) (λc q=>ke q λz=>n4 _ z.symm) λc xs q=>ke q λz=>n1 _ z.symm
theorem Inv.freeze (I:Inv X pins σ H s) (h:H a=ae (.dK ao)):∃ o,s.heap.get? a=ae o /\ (∀ o v,X.H₀ a≠ae (.bK o v)) /\ Inv X pins σ (upd H a<|.bK o<|.dK ao) s:=by
 let#[z,y,vs,r,ob,es,ep,e,c]:=I.aD a _ h;have nf:∀ o v,X.H₀ a≠ae _:=λo v q=>by have:=I.base.pI a o v q;rw[h]at this;cases this
 show#[ob,e,nf,I.adL h (λ_ q=>nomatch q) nf (λ_ q=>nomatch q) (λ_ q=>nomatch q) #[e,z,y,vs,r,ob,es,ep,e,c]]
theorem Inv.sO (I:Inv X pins σ H s) (h:H a=ae (.bK o<|.dK ao)) (nf:∀ o v,X.H₀ a≠ae (.bK o v)):Inv X pins σ (upd H a<|.dK ao) s:=by
 let#[_,q]:=I.aD a _ h;show I.adL h (λ_ q=>nomatch q) nf (λ_ q=>nomatch q) (λ_ q=>nomatch q) q
def EB (a:ak) (o:aZ) (ao:List<|Key×V):It:=
 #[λi H=>H a=ae (.bK o<|.dK ao) /\ i<ao.length,λi H x H'=>H'=H /\ ∃ k v,ao[i]?=ae (k,v) /\ x=kV k,λi H=>H a=ae (.bK o<|.dK ao) /\ ao.length<=i]
theorem Paired.at_ {α β:Type}{F:α->β->zt}:∀ {l:List α}{m:List β}{i:Nat}{x:α},Paired F l m->l[i]?=ae x->∃ y,m[i]?=ae y /\ F x y
 |_,_,_,_,.nil,e=>by simp at e
 |_,_,0,_,.cons r t,e=>by simp at e;subst e;show#[_,rfl,r]
 |_,_,i+1,_,.cons r t,e=>by let#[y,q,f]:=Paired.at_ t (by simpa using e);show#[y,by simpa using q,f]
theorem PR {k:Key}{v:ai}(h:(ez P w).is k v=ah):RelV (kV k) v:=by
 rcases fZ h with⟨i,t,rfl,rfl⟩|⟨x,t,rfl,rfl⟩
 .show#[t,rfl]
 .show#[t,rfl]
theorem Cu {es:Array DictEntry}(q:cK P w H h a<|.bK o<|.dK ao) (ed:o.data=.dict es ep):∃ vs,KV ao vs /\ h.DictAt (ez P w) a vs ep:=by
 let#[e,_,_,vs,r,ob,es',rX,e',c1,c2,c3]:=q;rw[e]at e';cases e';rw[ed]at c2;cases c2;show#[vs,r,o,es,e,c1,ed,c3]
theorem J3 (it:ak) {es:Array DictEntry}(ed:o.data=.dict es ep) (ne:a≠it):Turn P w K tg (EB a o ao) [it] it (λi h=>h.IsKeyIter it a i ao.length ep) where
 mem:=by simp
 obj:=λi h st b hb=>by
  have e:b=it:=by simpa using hb
  subst e;let#[o,e,c,d]:=st;show#[o,e,λv z=>by rw[d]at z;cases z]
 keep:=λi h h' st k=>st.at λo e=>k it zj o e
 item:=by
  intro X hP hw hK hc i pins s σ H E I hf st hg;subst hP hw hK;let#[ha,hi]:=hg;let#[vs,r,da]:=Cu (I.aD a _ ha) ed;have hl:=Paired.length r;obtain⟨⟨k,v⟩,hx⟩:∃ p,ao[i]?=ae p:=#[ao[i],by simp];let#[#[k',v'],hy,e1,_]:=Paired.at_ r hx;cases (e1);let#[f0,f1,f2,f3,f4,f5]:=hf it zj;rw[hl]at st;refine wpAny_pyNext_dict_item st da hy λkey h' X2 nQ sb=>?_;have I1:Inv X pins σ H { s with heap:=h' }:=I.turned (λb o hb e=>(sb.2 b hb).trans e) f0 f1 f3 f4 f5;let#[o,e,c,d]:=id nQ;show#[key,rfl,C5 e c d (rfl) #[kV k,H,I1,PR X2,#[rfl,k,v,hx,rfl],by rw[hl];show nQ,λb hb=>(hf b hb).1]]
 done:=by
  intro X hP hw hK hc i pins s σ H E I hf st hg;subst hP hw hK;let#[ha,hi]:=hg;let#[vs,r,da]:=Cu (I.aD a _ ha) ed;have hl:=Paired.length r;let#[f0,f1,f2,f3,f4,f5]:=hf it zj;rw[hl]at st;show wpAny_pyNext_dict_end (I.ok.hd hc) st da (rO za) λh' eb=>#[rfl,I.turned (λb o hb e=>eb b o hb e) f0 f1 f3 f4 f5]
 self:=λ_ _ _ _ _ st h=>aaI st h
def NF (H₀:Hp) (a:ak):zt:=∀ o v,H₀ a≠ae (.bK o v)
def Zb (H₀:Hp) (tl:TE):TI:=λσ H R=>tl σ H λx H1=>∃ a ao,x=.ref a /\ ((H1 a=ae (.dK ao) /\ ∀ o,NF H₀ a->R (EB a o ao) (upd H1 a<|.bK o<|.dK ao)) \/ ∃ o,H1 a=ae (.bK o<|.dK ao) /\ R (EB a o ao) H1)
theorem MS {l:au}{tl:TE}(hl:PE X l tl):PI X tg l (Zb X.H₀ tl):=by
 intro pins s σ H R I h;refine tE (hl pins s σ H _ I h) λv s1 x H1 I1 r1 q1=>?_;let#[a,ao,e,q]:=q1;subst e;cases r1;obtain⟨o,H2,I2,e2,q2⟩:∃ o H2,Inv X pins σ H2 s1 /\ H2 a=ae (.bK o _) /\ R (EB a o ao) H2:=by
  rcases q with⟨e,q⟩|⟨o,e,q⟩
  .let#[o,_,nf,I2]:=I1.freeze e;show#[o,_,I2,fA,q o nf]
  .show#[o,H1,I1,e,q]
 let#[e3,_,y,_,_,ob,es,ep,e4,_,ed,_]:=id<|I2.aD a _ e2;rw[e3]at e4;cases e4;let#[vs,r,da]:=Cu (I2.aD a _ e2) ed;refine wpAny_pyIter_dict y da ?_;refine#[s1.heap.objs.size,[s1.heap.objs.size],_,_,H2,rfl,I2.kept λb o e=>aW _ e,J3 _ ed<|cw<|I2.aD.lt e2,#[_,bE _ zc,rfl,by rw[(Paired.length r)];rfl],λb hb=>?_,q2];have e:b=s1.heap.objs.size:=by simpa using hb
 subst e;show I2.vw (aE _)<|I2.aD.fresh<|aE _
def uX (H₀:Hp) (Q:α->Hp->zt):α->Hp->zt:=λx H=>Q x H \/ ∃ a o ao,H a=ae (.bK o<|.dK ao) /\ NF H₀ a /\ Q x (upd H a<|.dK ao)
noncomputable def Ends.sO (H₀:Hp) (D:Ends):Ends:=#[uX H₀ D.nx,uX H₀ D.rt,uX H₀ D.bk,uX H₀ D.ct]
theorem Cv {s:ax}{Q:α->Hp->zt}{x:α}(I:Inv X pins σ H s) (q:uX X.H₀ Q x H):∃ H',Inv X pins σ H' s /\ Q x H':=by
 rcases q with q|⟨a,o,ao,e,nf,q⟩
 .show#[H,I,q]
 .show#[_,I.sO e nf,q]
theorem GG {t:TS}(h:PS X st t):PS X st (λD=>t<|D.sO X.H₀):=λpins s σ H D I q=>cb (h pins s σ H _ I q) λf s' q'=>by
 cases f with
 |ret v=>let#[x,σ',H',I',r,q']:=q';let#[H2,I2,q2]:=Cv I' q';show#[x,σ',H2,I2,r,q2]
 |_=>let#[σ',H',I',q']:=q';let#[H2,I2,q2]:=Cv I' q';show#[σ',H2,I2,q2]
end
end L2
namespace L2.DL
open PySem.W
noncomputable def IW:Key->D
 |.inl i=>.int i
 |.inr x=>.str x
noncomputable def uY (F:Hp) (a:ak):Hp:=λb=>if b=a then ag else F b
theorem jP {b:ak}(h:b≠a):uY F a b=F b:=if_neg h
section
variable {l:List (Key × D)} {ao:List (Key × V)}
theorem GH:∀ {l:List (Key×D)}{ao:List (Key×V)}{i:Nat}{k:Key}{v:V},aR F l ao->ao[i]?=ae (k,v)->∃ d,l[i]?=ae (k,d) /\ Den F d v
 |[],_,i,_,_,h,e=>by cases (h);simp at e
 | (k',d)::l,_,0,_,_,h,e=>by
   let#[u,t,rfl,h1,_]:=h;let#[rfl,rfl]:=e;show#[d,rfl,h1]
 | (k',d)::l,_,i+1,_,_,h,e=>by
   let#[u,t,rfl,_,h2]:=h;show GH (i:=i) h2 (by simpa using e)
theorem As (h:F a=ae (.bK o<|.dK ao)):xD F (uY F a):=λb u n e=>by
 rw[jP (λz=>by rw[z,h]at e;cases e;show n _ _ rfl)];show e
theorem bU.off (h:F a=ae (.bK o<|.dK ao)):∀ {w:W}{v:V},bU F r w v->bU (uY F a) r w v
 |.d x,_,q=>Den.dS (As h) x q
 |.b _,_,q=>q
 |.s _,_,q=>let ⟨b,ob,e,q⟩:=q;#[b,ob,e,by rw[jP (λz=>by rw[z,h]at q;cases q)];show q]
 |.x _,_,q=>q
 |.t _,_,q=>let ⟨c,as,e,h1,h2⟩:=q;#[c,as,e,As h _ _ (λ_ _ z=>nomatch z) h1,h2]
 |.m _,_,q=>let ⟨c,as,e,h1,h2⟩:=q;#[c,as,e,As h _ _ (λ_ _ z=>nomatch z) h1,h2]
theorem Rel.bK (R:Rel T F r σ H env bx) (hb:bx[n]?=ae (.aB l)) (ha:r[n]?=ae a) (k0:F a=ag) (k2:aR F l ao) :
 Rel T (upd F a<|.bK o<|.dK ao) r σ (upd H a<|.bK o<|.dK ao) env (bx.set n<|.fD l):=by
 have s:=iE (o:=.bK o<|.dK ao) k0;have ma:=List.mem_iff_getElem?.mpr #[n,ha];refine#[λb u e=>?_,λi w e=>?_,by rw[p5];show R.len,R.nd,λm c b e1 e2=>?_,λb u e hn=>?_,R.new,R.n0,R.sl,λb u e=>?_]
 .by_cases z:b=a
  .subst z;rw[fA]at e ⊢;show e
  .rw[fC z]at e ⊢;show R.fh b u e
 .let#[v,e1,e2]:=R.slot i w e;show#[v,e1,e2.mono s<|pE r]
 .by_cases z:m=n
  .subst z;rw[pZ (List.getElem?_eq_some_iff.mp hb).1]at e1;cases e1;rw[ha]at e2;cases e2;show#[o,ao,fA,fA,aR.mono s _ k2]
  .rw[tm λq=>z q.symm]at e1;have nb:b≠a:=λq=>z<|lw R.nd e2<|q▸ha;show(R.box m c b e1 e2).grow s (λq=>by rw[fC nb];show q) (λu q=>by rw[fC nb];show q)
 .rw[fC λz=>hn (by rw[z];show ma)];show R.keep b u e hn
 .by_cases z:b=a
  .subst z;show .inr<|.inr<|.inr ma
  .rw[fC z]at e;show R.fs b u e
theorem Rel.Zc (R:Rel T F r σ H env bx) (hb:bx[n]?=ae (.fD l)) (ha:r[n]?=ae a) :
 ∃ o ao,F a=ae (.bK o<|.dK ao) /\ H a=ae (.bK o<|.dK ao) /\ Rel T (uY F a) r σ (upd H a<|.dK ao) env (bx.set n<|.aB l):=by
 let#[o,ao,f1,h1,dk]:=R.box n _ a hb ha;have sd:=As f1;refine#[o,ao,f1,h1,λb u e=>?_,λi w e=>?_,by rw[p5];show R.len,R.nd,λm c b e1 e2=>?_,λb u e hn=>?_,R.new,R.n0,R.sl,λb u e=>?_]
 .by_cases z:b=a
  .subst z;unfold uY at e;rw[if_pos rfl]at e;cases e
  .rw[jP z]at e;rw[fC z];show R.fh b u e
 .let#[v,e1,e2]:=R.slot i w e;show#[v,e1,e2.off f1]
 .by_cases z:m=n
  .subst z;rw[pZ (List.getElem?_eq_some_iff.mp hb).1]at e1;cases e1;rw[ha]at e2;cases e2;show#[if_pos zc,ao,fA,aR.dS sd _ dk]
  .rw[tm λq=>z q.symm]at e1;have nb:b≠a:=λq=>z<|lw R.nd e2<|q▸ha;have q:=R.box m c b e1 e2;have fo:F b=ag->uY F a b=ag:=λz=>by rw[jP nb];show z
   have ho:∀ {u},H b=ae u->upd H a (.dK ao) b=ae u:=λz=>by rw[fC nb];show z
   cases c with
   |lst _=>let#[q1,vs,q2,q3]:=q;show#[fo q1,vs,ho q2,aG.dS sd _ q3]
   |aB _=>let#[q1,vs,q2,q3]:=q;show#[fo q1,vs,ho q2,aR.dS sd _ q3]
   |dead=>let#[u,q]:=q;show#[u,ho q]
   |dT _=>let#[q1,vs,q2,q3]:=q;show#[fo q1,vs,ho q2,bP.dS sd _ q3]
   |fD _=>let#[o2,vs,q1,q2,q3]:=q;show#[o2,vs,by rw[jP nb];show q1,ho q2,aR.dS sd _ q3]
 .rw[fC λz=>hn (by rw[z];show(List.mem_iff_getElem?.mpr #[n,ha]))];show R.keep b u e hn
 .by_cases z:b=a
  .subst z;unfold uY at e;rw[if_pos rfl]at e;cases e
  .rw[jP z]at e;show R.fs b u e
theorem bh.off {r':List ak}{u:HO}(g:bh (upd F a u) r F' r') (k0:F a=ag):bh F r (uY F' a) r':=#[λb v e=>by
 have nb:=f8 e k0;rw[jP nb];show g.s b v (by rw[fC nb];show e),g.p]
def rC (l:List<|Key×D):List W:=l.map λp=>.d<|IW p.1
theorem jQ (g:F' a=ae (.bK o<|.dK ao)) (k2:aR F l ao):uP F' r (rC l) (EB a o ao):=λT' i F1 r1 σ1 H1 env1 bx1 g1 R1=>by
 have h:=R1.fh a _<|g1.s a _ g;have hl:=k2.length;refine#[λe=>#[h,by rw[<-hl,<-e];simp[rC]],λw e=>?_];unfold rC at e;rw[kr]at e;have hi:i<ao.length:=by
  rw[<-hl];cases q:l[i]? with
  |none=>rw[q]at e;cases e
  |some p=>show(List.getElem?_eq_some_iff.mp q).1
 refine#[#[h,hi],λx H2 ⟨e2,k,v,e3,e4⟩=>?_];subst e2 e4;let#[d,e5,_]:=GH k2 e3;rw[e5]at e;cases e;refine#[F1,.refl F1 r1,R1,?_];cases k<;>show rfl
noncomputable def pb (n:Nat) (bx:List Bx):Option (List Bx):=match bx[n]? with|some (.fD l)=>ae (bx.set n<|.aB l)|_=>ag
def uZ (n:Nat):OS->OS
 |.nx env bx=>(match pb n bx with|some b=>.nx env b|none=>.bad)
 |.rt w bx=>(match pb n bx with|some b=>.rt w b|none=>.bad)
 |.exc c bx=>.exc c bx
 |_=>.bad
def xZ (n:Nat):O W->O W
 |.val w bx=>(match pb n bx with|some b=>.val w b|none=>.bad)
 |o=>o
theorem FP {b:List Bx}(h:pb n bx=ae b):∃ l,bx[n]?=ae (.fD l) /\ b=bx.set n (.aB l):=by
 unfold pb at h;split at h
 .cases h;show#[_,by assumption,rfl]
 .cases h
theorem PU {H₀:Hp}{u:HO}{D:Ends}(k0:F a=ag) (ha:r[n]?=ae a) (nf:NF H₀ a):∀ {q:OS},cQ T Z F r D (uZ n q)->cQ T Z (upd F a u) r (D.sO H₀) q
 | .nx e b,h=>λF2 r2 σ2 H2 g2 R2=>by
   cases q:pb n b with
   |none=>simp[uZ,q]at h;show h.elim
   |some b2=>
     simp[uZ,q]at h;let#[l,hl,rfl]:=FP q;let#[o,ao,f1,h1,R3]:=R2.Zc hl<|g2.at ha;show .inr #[a,o,ao,h1,nf,h _ r2 σ2 _ (g2.off k0) R3]
 | .rt w b,h=>λF2 r2 v H2 g2 R2 dv=>by
   cases q:pb n b with
   |none=>simp[uZ,q]at h;show h.elim
   |some b2=>
     simp[uZ,q]at h;let#[l,hl,rfl]:=FP q;let#[o,ao,f1,h1,R3]:=R2.Zc hl<|g2.at ha;show .inr #[a,o,ao,h1,nf,h _ r2 v _ (g2.off k0) R3<|dv.off f1]
 |.exc c b,h=>λF2 r2 H2 g2 R2=>h F2 r2 H2 #[(iE k0).trans g2.s,g2.p] R2
 |.bk _ _,h=>h.elim
 |.ct _ _,h=>h.elim
 |.bad,h=>h.elim
theorem PV {H₀:Hp}{u:HO}{Q:VK}(k0:F a=ag) (ha:r[n]?=ae a) (nf:NF H₀ a):∀ {q:O W},End T Z bU F r σ env Q (xZ n q)->End T Z bU (upd F a u) r σ env (uX H₀ Q) q
 | .val w b,h=>λF2 r2 v H2 g2 R2 dv=>by
   cases q:pb n b with
   |none=>simp[xZ,q]at h;show h.elim
   |some b2=>
     simp[xZ,q]at h;let#[l,hl,rfl]:=FP q;let#[o,ao,f1,h1,R3]:=R2.Zc hl<|g2.at ha;show .inr #[a,o,ao,h1,nf,h _ r2 v _ (g2.off k0) R3<|dv.off f1]
 |.exc c b,h=>λF2 r2 H2 g2 R2=>h F2 r2 H2 #[(iE k0).trans g2.s,g2.p] R2
 |.bad,h=>h.elim
theorem cQ.sO {H₀:Hp}{D:Ends}:∀ {q:OS},cQ T Z F r D q->cQ T Z F r (D.sO H₀) q
 |.nx _ _,h=>λF2 r2 σ2 H2 g2 R2=>.inl<|h F2 r2 σ2 H2 g2 R2
 |.rt _ _,h=>λF2 r2 σ2 H2 g2 R2 d=>.inl<|h F2 r2 σ2 H2 g2 R2 d
 |.bk _ _,h=>λF2 r2 σ2 H2 g2 R2=>.inl<|h F2 r2 σ2 H2 g2 R2
 |.ct _ _,h=>λF2 r2 σ2 H2 g2 R2=>.inl<|h F2 r2 σ2 H2 g2 R2
 |.exc _ _,h=>h
 |.bad,h=>h
theorem End.sO {H₀:Hp}{Q:VK}:∀ {q:O W},End T Z bU F r σ env Q q->End T Z bU F r σ env (uX H₀ Q) q
 |.val _ _,h=>λF2 r2 σ2 H2 g2 R2 d=>.inl<|h F2 r2 σ2 H2 g2 R2 d
 |.exc _ _,h=>h
 |.bad,h=>h
def wc (i:Nat) (g:DG) (body:aC):aC:=λenv bx=>match env[i]? with
 | some (ae<|.b n)=>(match bx[n]? with
   |some (.aB l)=>uZ n<|bL g body (rC l) env<|bx.set n<|.fD l
   |some (.fD l)=>bL g body (rC l) env bx
   |_=>.bad)
 |_=>.bad
theorem MT {i:Nat}{Q:VK}(e:env[i]?=ae (ae<|.b n)) (h:∀ F' r' a H',bh F r F' r'->Rel T F' r' σ H' env bx->r'[n]?=ae a->Q (.ref a) H'):End T Z bU F r σ env Q (dV i env bx):=by
 unfold dV;rw[e];intro F' r' v H' g R d;let#[a,rfl,ha]:=d;show h F' r' a H' g R ha
theorem UH {i:Nat}{g:DG}{m:aC}{D:Ends}{H₀:Hp}(h:tS T Z (wc i g m) D σ H):HM (Zb H₀<|tD T Z<|dV i) (tG T g) (tS T Z m) (D.sO H₀) σ H:=by
 let#[F,r,env,bx,R,h]:=h;unfold wc at h;split at h
 case h_2=>show h.elim
 ext n e;refine#[F,r,env,bx,R,MT e λF' r' a H' g' R' ha=>?_];split at h
 .ext l hb;let#[k0,ao,k1,k2]:=R'.box n _ a hb ha;show#[a,ao,rfl,.inl #[k1,λo nf=>Mi (R'.bK hb ha k0 k2) (jQ fA k2)<|PU k0 ha nf<|cQ.weak g' h]]
 .ext l hb;let#[o,ao,k0,k1,k2]:=R'.box n _ a hb ha;show#[a,ao,rfl,.inr #[o,k1,Mi R' (jQ k0 k2) (cQ.weak g' h).sO]]
 .show h.elim
theorem MU {body:List b9}{g:DG}{m:aC}{i:Nat}(hp:PassesOwn zf X.A X.env X.xe) (hc:X.calm=ah) (hi:PD X T Z iter<|dV i) (hg:kF X T tg g) (hb:qm X T Z body m)
 (hs:∀ x,foldedSetIterable iter X.env x=pure x:=by intro _;rfl):cL X T Z (.For tg iter body [] pos) (wc i g m):=
 PS.imp (GG<|Fp hp hc (MS hi) hg hb hs) λD σ H h=>UH h
def we (bo:Bool) (src:List<|Option Nat) (i:Nat) (g:DG) (tf:DE Bool) (te:DE W):DE W:=λenv bx=>match env[i]? with
 | some (ae<|.b n)=>(match bx[n]? with
   |some (.aB l)=>xZ n<|fB (bG g tf te (rC l) (eD src env) (bx.set n<|.fD l) []) λl ay=>cq bo (ae<|.lst l) ay
   |some (.fD l)=>fB (bG g tf te (rC l) (eD src env) bx []) λl ay=>cq bo (ae<|.lst l) ay
   |_=>.bad)
 |_=>.bad
theorem PY {i:Nat}{src:List (Option Nat)}{g:DG}{Q:VK}{H₀:Hp}(h:tD T Z (we bo src i g tf te) σ H Q) :
 Ie src (Zb H₀<|tD T Z<|dV i) (yY g) (yZ #[E0,Z.cl] tf) (Ea #[E0,Z.cl] te) σ H (uX H₀ Q):=by
 let#[F,r,env,bx,R,h]:=h;unfold we at h;split at h
 case h_2=>show h.elim
 ext n e;refine#[F,r,env,bx,R,MT e λF' r' a H' g' R' ha=>?_];split at h
 .ext l hb;let#[k0,ao,k1,k2]:=R'.box n _ a hb ha;show#[a,ao,rfl,.inl #[k1,λo nf=>Fv (R'.bK hb ha k0 k2) (jQ fA k2)<|PV k0 ha nf<|End.weak g' h]]
 .ext l hb;let#[o,ao,k0,k1,k2]:=R'.box n _ a hb ha;show#[a,ao,rfl,.inr #[o,k1,Fv R' (jQ k0 k2) (End.weak g' h).sO]]
 .show h.elim
theorem J4 {src:List (Option Nat)}{elt:au}{scope:bT}{uV:aM}{g:DG}(i:Nat) (bo:Bool) (hc:X.calm=ah) (S:sx X N src scope) (hi:PD X T Z iter<|dV j)
 (hg:∀ T cl s H C fp,kF (X.comp N scope cl s H C fp) T tg g) (hf:∀ T cl s H C fp,PF (X.comp N scope cl s H C fp) ifs<|sC T #[E0,Z.cl] tf) (he:∀ T cl s H C fp,PD (X.comp N scope cl s H C fp) T #[E0,Z.cl] elt te)
 (hN:X.N.Nodup) (rj:X.N[i]?=ae x) (hx:Loc X.env.scope x) (Eu:swapsWith zw (ae<|.Name x pos') uV.line X.env=pure ah)
 (Ew:X.fn x=ah \/ X.env.scope.names.lookup x=ae .local) (hs:∀ x,foldedSetIterable iter X.env x=pure x):cL X T Z (.Assign [.Name x pos'] zw uV) (fE (we bo src j g tf te)<|fe i):=by
 refine PS.imp (GG (GD (g:=yY g) (tf:=yZ _ tf) (te:=Ea _ te) hc S (MS hi) (λcl s H C fp pins s' σ' H' v u Q I rv ⟨T,q⟩=>hg T cl s H C fp pins s' σ' H' v u Q I rv q)
  (λcl s H C fp pins s' σ' H' Q I ⟨T,q⟩=>hf T cl s H C fp pins s' σ' H' Q I q) (λcl s H C fp pins s' σ' H' Q I ⟨T,q⟩=>he T cl s H C fp pins s' σ' H' Q I q) hN rj hx Eu Ew hs)) λD σ H=>x4 λF r env bx R h=>?_
 show PY #[F,r,env,bx,R,End.bB h λw bx1 F1 r1 v H1 g1 R1 d1 h1=>h1 F1 r1 _ H1 (.refl F1 r1)<|R1.set d1 i]
end
end L2.DL
namespace HT
open PySem.W
def u4 (h:aK) (d:ak) (vs:List ai) (ep:Nat):zt:=∃ o es,h.get? d=ae o /\ o.cls=.type "dict" /\ o.data=.dict es ep /\ es.toList.map (·.key)=vs
theorem u4.at {d:ak}(x:u4 h d vs ep) (k:∀ o,h.get? d=ae o->h'.get? d=ae o):u4 h' d vs ep:=let ⟨o,es,e,r⟩:=x;#[o,es,k o e,r]
section
variable {s:ax} {v d:ak} {i:Nat}
theorem PZ (y:(d==sysModules)=af) (hm:u4 s.heap d vs ep)
 (q:Q (.ref s.heap.objs.size) { s with heap:=s.heap.push { cls:=.type "dict_keyiterator",data:=.fields (List.toArray [.ref d,.int 0 0,.int vs.length 0,.int ep 0]) } }):wpAny zi A (pyIter<|.ref d) Q E s:=by
 let#[o,es,e2,c2,d2,ev]:=id hm;have sz:es.size=vs.length:=by rw[<-ev];simp
 have ty:s.TypeIs (.ref d) "dict":=#[o,e2,c2];refine yw ty abY<|eS abY ty PySem.F.entry_dict_iter ?_<|PySem.F.args_dict_iter_1 _;refine aj<|aj<|wpAny_notOrdered_dict ty ?_;refine aA ?_;change wpAny _ _ (Builtin.Dict.showsAll d >>= _) _ _ s;unfold Builtin.Dict.showsAll;rw[if_neg (by rw[y];show c6)];refine aj<|aA<|aj<|aaJ e2 d2<|aj<|aaK e2 d2<|aj<|eR<|aA #[_,rfl, "dict_keyiterator",_,#[_,bE _ zc,rfl],XD.lookup,?_];simpa[rawInt,sz] using q
theorem GI {Q:Option ai->ax->zt}(hit:s.heap.IsKeyIter it d i vs.length ep) (hm:u4 s.heap d vs ep) (hh:A.handled=ag)
 (q:∀ x h',vs[i]?=ae x->h'.IsKeyIter it d (i+1) vs.length ep->Heap.SameBut it s.heap h'->Q (ae x) { s with heap:=h' })
 (qe:∀ h',vs[i]?=ag->Heap.ExtBut it s.heap h'->Q ag { s with heap:=h' }):wpAny zi A (pyNext<|.ref it) Q E s:=by
 let#[o,e1,c1,d1]:=id hit;let#[od,es,e2,c2,d2,ev]:=id hm;have sz:es.size=vs.length:=by rw[<-ev];simp
 unfold pyNext;refine aj<|uA<|qz hit.typeIs XD<|eS XD hit.typeIs PySem.F.entry_dict_keyiterator_next ?_<|PySem.F.args_dict_keyiterator_next_1 _;refine aj<|aA<|aj<|aj ?_;first|refine aj (QL hit.typeIs<|aA<|aj<|wK e1 d1 ?_)|refine aj<|QM hit.typeIs<|aA<|aj<|wK e1 d1 ?_
 simp only[];change wpAny _ _ (if (Value.ref d==Value.none)=ah then _ else _) _ _ s;rw[if_neg (show ¬ ((Value.ref d==Value.none)=ah) from c6)];refine aj<|aA<|aj<|aaJ e2 d2 ?_;rw[if_neg (by rw[sz];simp)];refine aj<|aA<|aj<|aaK e2 d2 ?_;rw[if_neg zj];refine aA ?_;rcases wN i vs.length with hl|hl
 .have nu:i<es.size:=by rw[sz];show hl
  have hv:vs[i]?=ae es[i].key:=by rw[<-ev];simp[nu]
  simp[nM,Array.getElem?_eq_getElem nu];refine aj ?_;first|refine aj (QL hit.typeIs<|aA<|aj<|QN hit.typeIs ?_)|refine aj<|QM hit.typeIs<|aA<|aj<|QN hit.typeIs ?_
  change wpAny _ _ (setField (.ref it) 1 (rawInt<|(i)+1) >>= _) _ _ s;refine aj<|rM e1 d1 zj ?_;have h2:(s.heap.update it (Obj.mapFields (·.setIfInBounds 1 (rawInt<|(i)+1)))).IsKeyIter it d (i+1) vs.length ep:=
   #[_,rT _ e1<|xh<|p8 d1 _,(yD ..).trans c1,by rw[p8 d1];simp[rawInt]]
  refine aj (eQ (aj (QN (s:={ s with heap:=s.heap.update it (Obj.mapFields (·.setIfInBounds 1 (rawInt<|(i:Int)+1))) }) h2.typeIs ?_)));change wpAny _ _ (pure es[i].key) _ _ _;show aA<|aA #[_,rfl,aA<|q _ _ hv h2<|Heap.SameBut.update ..]
 .have hx:vs[i]?=ag:=rO hl;simp[show ¬ ((i:Int)<0) from by lia,if_false,nM,Xp (show es.size<=i by rw[sz];show hl)];refine aj ?_;first|refine aj (QL hit.typeIs<|aA ?_)|refine aj (QM hit.typeIs<|aA ?_)
  change wpAny _ _ (setField (.ref it) 0 .none >>= _) _ _ s;refine aj<|rM e1 d1 zj ?_;change wpAny _ _ (newExc (.type "StopIteration") [] >>= _) _ _ _;refine aj ?_;simp[newExc,newTuple];refine aj<|eR (aj (m:=firstArgMember _ _)<|yt (a:=Value.none) (by first|rfl|(simp[firstArgMember];rfl))<|eR ?_ (by size_fits)) (by size_fits);erw[raiseNew];refine aj<|E4 ?_;rw[show A.in1.handled=ag from hh];refine aj<|aA<|E5 ?_;refine aj<|yx (T:="StopIteration") (b:=ah) #[_,bE _ zc,rfl] E6 ?_;show aA<|qe _ hx<|((Heap.SameBut.update ..).extBut.push _).push _
theorem P0 (hh:A.handled=ag) (kH:d≠it) (vs:List ai) (ep:Nat):Walks prog w A it [it,d] [it] vs.length (λi v=>vs[i]?=ae v) (λi h=>h.IsKeyIter it d i vs.length ep /\ u4 h d vs ep) where
 sub:=λb hb=>by simp at hb;simp[hb]
 frame:=λ_ _ _ st hk=>#[st.1.at λo e=>hk it zj o e,st.2.at λo e=>hk d zj o e]
 item:=λi s Q E hi st hQ=>GI st.1 st.2 hh (λx h' hx h2 sb=>hQ x h' s.toks hx #[h2,st.2.at λo e=>sb.extBut d o kH e] λb o hb e=>sb.extBut b o (λz=>hb (by simp[z])) e) λh' hx _=>by rw[List.getElem?_eq_none_iff]at hx;lia
 done:=λs Q E st hQ=>GI st.1 st.2 hh (λx h' hx _ _=>by simp at hx) λh' _ he=>hQ h' s.toks λb o hb e=>he b o (λz=>hb (by simp[z])) e
 self:=λ_ _ _ _ st hQ=>aaI st.1 hQ
theorem UI (y:(d==sysModules)=af) (vs:List ai) (ep:Nat):KdlSrc prog w "dict" d d vs.length (λi v=>vs[i]?=ae v) (λh=>u4 h d vs ep) where
 type:=λ_ hm=>let ⟨o,_,ho,hc,_⟩:=hm;#[o,ho,hc]
 there:=λ_ hm=>let ⟨_,_,ho,_⟩:=hm;#[bf ho,bf ho]
 keep:=λ_ _ hm hk=>hm.at λo e=>hk d (.inr zc) o e
 notList:=rfl
 notTuple:=rfl
 hint:=λ_ _ _ _ hm hq=>kdl_hint_dict (let ⟨o,_,ho,hc,_⟩:=hm;#[o,ho,hc]) hq
 iter:=λ_ _ hh hm=>#[_,_,(λ_ _ hq=>PZ y hm hq),P0 hh (cw (let ⟨_,_,ho,_⟩:=hm;bf ho)) vs ep,#[#[_,bE _ zc,rfl,rfl],hm.at λo e=>aW _ e]]
end
end HT
namespace L2
open PySem.W
section
variable {o:au} {p:aM} {td:TE}
def ais (td:TE):TE:=λσ H Q=>td σ H λx H1=>∃ a ao,x=.ref a /\ H1 a=ae (.dT ao) /\ ∀ bs,Paired (λ(q:List Key×V) (b:ak)=>H1 b=ae (.tup<|q.1.map kV)) ao bs->∀ l,H1 l=ag->Q (.ref l) (upd H1 l<|.lst<|bs.map V.ref)
theorem P3 (r:KT H ao xs):Paired (λ(q:List Key×V) (b:ak)=>H b=ae (.tup<|q.1.map kV)) ao (xs.map (·.2.1)):=by
 induction r with
 |nil=>show .nil
 |cons h t ih=>show .cons h.2.1 ih
theorem J5:∀ bs:List ak,Vals (bs.map V.ref) (bs.map Value.ref):=by
 intro l_;induction l_ with
 |nil=>show .nil
 |cons b bs az=>show .cons zc<|az
theorem MV (hc:X.calm=ah) (hg:Gl X "list") (hm:X.mg "list"=ag) (ho:PE X o td) (hs:DL.bO o=ah):PE X (.Call (.Name "list" p) [o] [] pos) (ais td):=by
 intro pins s σ H Q I h;refine uv<|jx I hg hm (by decide +kernel:bootBuiltins "list"=ae (.type "list")) ?_ ze<|rfl;refine callWith_type1 ?_ (DL.fH hs [] X.env) zc;rw[DL.fH hs [] X.env];change wpAny _ _ (spliced ((af,eval o X.env)::backTo pos _)) _ _ s;refine xj<|tE (ho pins s σ H _ I h) λu s1 x H1 I1 rx hh=>?_;let#[a,ao,ex,ea,q1]:=hh;subst ex;obtain rfl:u=Value.ref a:=rx;let#[zl,hd,xs,rel,dd]:=SK I1.aD ea;let#[ob,es,ep,hq,h2,h3,h4,_,h5]:=id dd;have rk:HT.u4 s1.heap a ((xs.map _).map Value.ref) ep:=#[ob,es,hq,h2.1,h3,by rw[h4,bJ,bJ];rfl];have lx:((xs.map (·.2.1)).map Value.ref).length<=sizeLine:=by rw[a5,a5,<-Paired.length rel];show zl
 refine xi<|kdl_call (HT.UI hd _ ep) (I1.ok.hd hc) rk lx λh' tk acc c hk hD adM=>?_;have ev:acc.toList=(xs.map (·.2.1)).map Value.ref:=by
  apply wV;intro j;by_cases hj:j<acc.size
  .have ej:acc[j]?=ae acc[j]:=by simp
   rw[qH,ej];show(adM.2 j _ ej).symm
  .have h3:=adM.1;rw[qH,Xp za,rO za]
 have rv:Vals ((xs.map (·.2.1)).map V.ref) acc.toList:=by rw[ev];show J5 _
 show#[.ref _,_,(I1.laid (t':=tk) (o:=.lst ((xs.map (·.2.1)).map V.ref)) (λb u e=>hk b u e) (aE _) #[by rw[a5];rw[a5]at lx;show lx,acc.toList,c,rv,by simpa using hD]),rfl,q1 _ (P3 rel) _<|I1.aD.fresh<|aE _]
def ait (td:TE):TE:=λσ H Q=>td σ H λx H1=>∃ a ao,x=.ref a /\ Rd H1 a (.dK ao) /\ ∀ l,H1 l=ag->Q (.ref l) (upd H1 l<|.dK ao)
theorem J6 (hg:Gl X "dict") (hm:X.mg "dict"=ag) (ho:PE X o td) (hs:DL.bO o=ah):PE X (.Call (.Name "dict" p) [o] [] pos) (ait td):=by
 intro pins s σ H Q I h;refine uv<|jx I hg hm (by decide +kernel:bootBuiltins "dict"=ae (.type "dict")) ?_ ze<|rfl;refine callWith_type1 ?_ (DL.fH hs [] X.env) zc;rw[DL.fH hs [] X.env];change wpAny _ _ (spliced ((af,eval o X.env)::backTo pos _)) _ _ s;refine xj<|tE (ho pins s σ H _ I h) λu s1 x H1 I1 rx hh=>?_;let#[a,ao,ex,ea,q1]:=hh;subst ex;obtain rfl:u=Value.ref a:=rx;let#[zl,hd,vs,rel,dd]:=o7 I1.aD ea;refine xi<|kt_call_dict hd dd (by rw[<-Paired.length rel];show zl) λh' nC sb=>?_;have nb:(s1.heap.objs.size==sysModules)=af:=beq_eq_false_iff_ne.mpr<|vh I1.big;show#[.ref _,_,(I1.laid (t':=s1.toks) (o:=.dK ao) (λb u e=>(sb.2 b<|cw<|bf e).trans<|aW _ e) (aE _) #[zl,nb,vs,rel,nC]),rfl,q1 _<|I1.aD.fresh<|aE _]
end
end L2
namespace L2.DL
open PySem.W
section
variable {o:au} {p:aM} {mc:DE W}
theorem Rel.aiu (R:Rel T F r σ H env bx) {b:ak}{vs:List V}(hb:H b=ae (.tup vs)):∃ F',bh F r F' r /\ Rel T F' r σ H env bx /\ F' b=ae (.tup vs):=by
 cases q:F b with
 |some u=>
   have:=R.fh b u q;rw[hb]at this;cases this;show#[F,.refl F r,R,q]
 |none=>
   have s:=iE (o:=.tup vs) q;refine#[upd F b _,#[s,pE r],#[λa u e=>?_,λi w e=>?_,R.len,R.nd,λn c a e1 e2=>?_,R.keep,R.new,R.n0,R.sl,λa u e=>?_],fA]
   .by_cases z:a=b
    .subst z;rw[fA]at e;cases e;show hb
    .rw[fC z]at e;show R.fh a u e
   .let#[v,e1,e2]:=R.slot i w e;show#[v,e1,e2.mono s<|pE r]
   .have k:=R.box n c a e1 e2;have ne:∀ {u},H a=ae u->(∀ ys,u≠.tup ys)->upd F b (.tup vs) a=F a:=λ{u} z y=>fC λq=>by rw[q,hb]at z;cases z;show y _ zc
    cases c with
    |lst _=>let#[q1,ws,q2,q3]:=k;show#[(ne q2 λ_ z=>nomatch z).trans q1,ws,q2,aG.mono s _ q3]
    |aB _=>let#[q1,ws,q2,q3]:=k;show#[(ne q2 λ_ z=>nomatch z).trans q1,ws,q2,aR.mono s _ q3]
    |dead=>show k
    |dT _=>let#[q1,ws,q2,q3]:=k;show#[(ne q2 λ_ z=>nomatch z).trans q1,ws,q2,bP.mono s _ q3]
    |fD _=>let#[o2,ws,q1,q2,q3]:=k;show#[o2,ws,s _ _ q1,q2,aR.mono s _ q3]
   .by_cases z:a=b
    .subst z;rw[fA]at e;cases e;show .inl #[_,rfl]
    .rw[fC z]at e;show R.fs a u e
theorem MW:∀ (k:List Key),aG F (k.map IW) (k.map kV):=by
 intro l_;induction l_ with
 |nil=>show rfl
 |cons k t az=>show#[_,_,rfl,by cases k<;>show rfl,az]
abbrev IZ (l:List<|List Key×D):List D:=l.map λq=>.tup<|q.1.map IW
theorem Rel.nO:∀ {l:List (List Key×D)}{ao:List (List Key×V)}{bs:List ak}{F:Hp},Rel T F r σ H env bx->bP F l ao->Paired (λ(q:List Key×V) (b:ak)=>H b=ae (.tup<|q.1.map kV)) ao bs->∃ F',bh F r F' r /\ Rel T F' r σ H env bx /\ aG F' (IZ l) (bs.map V.ref)
 | [],_,_,F,R,h,q=>by
   cases (h);cases q;show#[F,.refl F r,R,rfl]
 | (k,d)::l,_,_,F,R,h,q=>by
   let#[v,t,rfl,_,h2]:=h;cases q with
   |@cons _ b _ bs q1 q2=>
     let#[F1,g1,R1,e1]:=R.aiu q1;let#[F2,g2,R2,d2]:=Rel.nO R1 (bP.mono g1.s _ h2) q2;show#[F2,g1.trans g2,R2,V.ref b,_,rfl,#[b,_,rfl,g2.s _ _ e1,MW k],d2]
def EC (bo:Bool) (m:DE W):DE W:=λenv bx=>fB zz λx bx1=>match x with
 | .b n=>(match bx1[n]? with
   |some (.dT l)=>cq bo (ae<|.lst<|IZ l) bx1
   |_=>.bad)
 |_=>.bad
theorem MX (bo:Bool) (hc:X.calm=ah) (hg:Gl X "list") (hm:X.mg "list"=ag) (ho:PD X T Z o ma) (hs:bO o=ah):PD X T Z (.Call (.Name "list" p) [o] [] pos) (EC bo ma):=by
 refine PE.imp (MV hc hg hm ho hs) λσ H Q=>x4 λF r env bx R h=>#[F,r,env,bx,R,End.bind h λx bx1 F1 r1 v H1 g1 R1 d1 h1=>?_];split at h1
 case h_2=>show h1.elim
 let#[a,rfl,ha]:=d1;let#[c,hc,kc]:=R1.eI ha;rw[hc]at h1;split at h1
 case h_2=>show h1.elim
 ext l0 e0;cases e0;let#[_,ao,k1,k2]:=kc;refine#[a,ao,rfl,k1,λbs hb l hl=>?_];let#[F2,g2,R2,d2]:=Rel.nO R1 k2 hb;show iF R2 (End.weak g2 h1) #[l,_,rfl,hl,rfl,d2]
def wg (bo:Bool) (m:DE W):DE W:=λenv bx=>fB zz λx bx1=>match rn bx1 x with
 |some l=>cq bo (ae<|.aB l) bx1
 |none=>.bad
theorem J7 (bo:Bool) (hg:Gl X "dict") (hm:X.mg "dict"=ag) (ho:PD X T Z o ma) (hs:bO o=ah):PD X T Z (.Call (.Name "dict" p) [o] [] pos) (wg bo ma):=by
 refine PE.imp (J6 hg hm ho hs) λσ H Q=>x4 λF r env bx R h=>#[F,r,env,bx,R,End.bind h λx bx1 F1 r1 v H1 g1 R1 d1 h1=>?_];split at h1
 .ext l q;let#[a,ao,rfl,k1,k2]:=Ct R1 d1 q;show#[a,ao,rfl,k1,λl hl=>iF R1 h1 #[l,_,rfl,hl,rfl,k2]]
 .show h1.elim
noncomputable def sP (l:List<|List Key×D) (k:List Key) (d:D):List (List Key×D):=
 if (l.any λkv=>decide (kv.1=k))=ah then l.map (λkv=>if kv.1=k then (kv.1,d) else kv) else l++[(k,d)]
theorem bP.any {F:Hp}(k:List Key):∀ {l:List (List Key×D)}{vs:List (List Key×V)},bP F l vs->(l.any λkv=>decide (kv.1=k))=(vs.any λkv=>decide (kv.1=k))
 |[],_,h=>by cases (h);rfl
 |(k',d')::l,_,⟨v,r,e,h1,h2⟩=>by subst e;simp[rN,bP.any k h2]
theorem bP.map {F:Hp}{k:List Key}{d:D}{v:V}(hv:Den F d v):∀ {l:List (List Key×D)}{vs:List (List Key×V)},bP F l vs->bP F (l.map λkv=>if kv.1=k then (kv.1,d) else kv) (vs.map λkv=>if kv.1=k then (kv.1,v) else kv)
 |[],_,h=>by cases (h);rfl
 | (k',d')::l,_,⟨u,r,e,h1,h2⟩=>by
   subst e;by_cases c:k'=k
   .simp[aU,c];show#[v,_,rfl,hv,bP.map hv h2]
   .simp[aU,c];show#[u,_,rfl,h1,bP.map hv h2]
theorem bP.app {F:Hp}{m:List (List Key×D)}{us:List (List Key×V)}(hm:bP F m us):∀ {l:List (List Key×D)}{vs:List (List Key×V)},bP F l vs->bP F (l++m) (vs++us)
 |[],_,h=>by cases (h);show hm
 |(k',d')::l,_,⟨u,r,e,h1,h2⟩=>by subst e;show#[u,_,rfl,h1,bP.app hm h2]
theorem bP.put2 {k:List Key}{d:D}{l:List (List Key×D)}{vs:List (List Key×V)}(h:bP F l vs) (hv:Den F d v):bP F (sP l k d) (putK vs k v):=by
 unfold sP putK;rw[bP.any k h];split
 .show bP.map hv h
 .show bP.app (show bP F [(k,d)] _ from#[v,[],rfl,hv,rfl]) h
def rD (m k v:DE W):aC:=λenv bx=>bB (v env bx) λz bx1=>bB (m env bx1) λx ay=>bB (k env ay) λy bQ=>match x,y,z with
 | .b n,.d (.tup d),.d u=>(match bQ[n]?,ui d with
   |some (.dT l),ae k=>if l.length<sizeLine then .nx env (bQ.set n<|.dT<|sP l k u) else .bad
   |_,_=>.bad)
 |_,_,_=>.bad
theorem J8 {value:au}(hu:X.A.units+1<cLine) (ho:PD X T Z o ma) (hi:PD X T Z e mb) (hv:PD X T Z value mc) (hs:swapsWith value (ae<|.Subscript o e pos') pos.line X.env=pure af) :
 cL X T Z (.Assign [.Subscript o e pos'] value pos) (rD ma mb mc):=by
 refine PS.imp (Gz hu ho hi hv hs) λD σ H=>x4 λF r env bx R h=>?_;refine#[F,r,env,bx,R,End.bB h λz bx1 F1 r1 t H1 g1 R1 d1 h1=>#[F1,r1,env,bx1,R1,End.bB h1 λx ay F2 r2 v H2 g2 R2 d2 h2=>#[F2,r2,env,ay,R2,End.bB h2 λy bQ F3 r3 u H3 g3 R3 d3 h3=>?_]]];split at h3
 .let#[a,rfl,ha]:=(g3.den d2);let#[c,hc,kc]:=R3.eI ha;rw[hc]at h3;split at h3
  .ext l k e1 e2;cases e1;split at h3
   .ext hl;let#[hF,ao,k1,k2]:=kc;let#[b,us,rfl,f1,f2]:=d3;cases GF e2 f2;show#[a,_,rfl,.inr #[ao,k,b,k1,rfl,R3.fh _ _ f1,by rw[<-k2.length];show hl,rfl],h3 F3 r3 _ _ (.refl F3 r3)<|R3.write ha hF #[hF,_,fA,k2.put2<|g3.den<|g2.den d1]]
   .show h3.elim
  .show h3.elim
 .show h3.elim
def bW (m:DE W) (k:Str):DE W:=λenv bx=>fB zz λx bx1=>match x with
 |.m l=>(match l.lookup k with|some n=>.val (.b n) bx1|none=>.bad)
 |_=>.bad
theorem GJ {k:Str}{n:Nat}:∀ {l:List (Str×Nat)}{as:List ak},uN r (l.map (·.2)) as->l.lookup k=ae n->∃ a,r[n]?=ae a /\ dW (List.zipWith (λk a=>((.inr k.1:Key),V.ref a)) l as) (.inr k)=ae (.ref a)
 |[],_,_,e=>by cases e
 | (x,m)::l,_,h,e=>by
   let#[a,t,rfl,h1,h2]:=h;rw[List.zipWith_cons_cons];rw[ku]at e;cases q:k==x with
   |true=>
     rw[q]at e;cases e;have:k=x:=by simpa using q
     subst this;show#[a,h1,jB zc]
   |false=>
     rw[q]at e;let#[b,e1,e2]:=GJ h2 e;refine#[b,e1,?_];rw[jc (λz=>by cases z;simp at q)];show e2
theorem UJ {k:Str}{q:aM}(hu:X.A.units+1<cLine) (ho:PD X T Z o ma):PD X T Z (.Subscript o (.Constant (.str k) j q) pos) (bW ma k):=by
 refine PE.imp (Gy hu ho Ax λ_ _=>rfl) λσ H Q=>x4 λF r env bx R h=>#[F,r,env,bx,R,End.bind h λx bx1 F1 r1 v H1 g1 R1 d1 h1=>?_];split at h1
 .split at h1
  .ext n e;let#[c,as,rfl,f1,ad]:=d1;let#[a,e1,e2]:=GJ ad e;show#[c,.ref a,rfl,.inl #[_,.inr k,.inl<|R1.fh _ _ f1,rfl,e2.symm],h1 F1 r1 _ H1 (.refl F1 r1) R1 #[a,rfl,e1]]
  .show h1.elim
 .show h1.elim
end
noncomputable def qw:Nat->Bx
 |0=>.lst []
 |1=>.aB []
 |_=>.dT []
noncomputable def adN:Nat->HO
 |0=>.lst []
 |1=>.dK []
 |_=>.dT []
def aiv (n:Nat):TE:=λ_ H Q=>∀ p,H p=ag->Q (.ref p) (upd H p<|adN n)
noncomputable def Zd (q:Str×Nat):TE×TE:=(λ_ H Q=>Q (.str q.1) H,aiv q.2)
noncomputable def I0:List (Str×Nat)->Nat->List (Str×Nat)
 |[],_=>[]
 |q::l,n=>(q.1,n)::I0 l (n+1)
def ya (l:List<|Str×Nat):DE W:=λ_ bx=>if (l.map (·.1)).Nodup /\ l.length<=15 then .val (.m<|I0 l bx.length) (bx++l.map λq=>qw q.2) else .bad
noncomputable abbrev yb (l:List<|Str×Nat) (as:List ak):List (Key×V):=List.zipWith (λk a=>(.inr k.1,V.ref a)) l as
theorem B5 {p:ak}:∀ {l:List (Str×Nat)}{r:List ak}{H:Hp}{bx:List Bx}{Q:List (V×V)->Hp->zt},Rel T F r σ H env bx->H p=ae (.dK [])->p∉r ->
 (∀ as H2,Rel T F (r++as) σ H2 env (bx++l.map λq=>qw q.2)->H2 p=ae (.dK [])->p∉r++as->as.length=l.length->Q ((yb l as).map λkv=>(kV kv.1,kv.2)) H2)->Iw (l.map Zd) σ H Q
 |[],r,H,bx,Q,R,hp,hn,h=>h [] H (by simpa using R) hp (by simpa using hn) zc
 | (k,n)::l,r,H,bx,Q,R,hp,hn,h=>λq hq=>by
   have c:sy F (upd H q<|adN n) q (qw n):=by
    match n with
    |0=>show#[R.qO hq,[],fA,rfl]
    |1=>show#[R.qO hq,[],fA,rfl]
    |_+2=>show#[R.qO hq,[],fA,rfl]
   have ne:=f8 hp hq;refine B5 (R.Ij hq c) (by rw[fC ne];show hp) (by simp[hn,ne]) λas H2 R2 h2 n2 hl=>?_;show h _ H2 (by simpa using R2) h2 (by simpa using n2) (by simp[hl])
theorem J9:∀ {l:List (Key×V)}{acc:List (Key×V)},((acc++l).map (·.1)).Nodup->vU acc l=acc++l:=by
 intro l_;induction l_ with
 |nil=>(intro acc _;show(uC acc).symm)
 |cons q l az=>
   intro acc h;have e:putK acc q.1 q.2=acc++[q]:=by
    unfold putK;rw[if_neg];intro z;let#[x,m,e]:=kz.mp z;rw[wY,vn]at h;show h.2.2 x.1 (rR m) q.1 zj<|of_decide_eq_true e
   change vU (putK acc q.1 q.2) l=_;rw[e,az (by simpa using h)];simp
theorem Dv:∀ {l:List (Str×Nat)}{as r:List ak},as.length=l.length->uN (r++as) ((I0 l r.length).map (·.2)) as /\ List.zipWith (λk a=>((.inr k.1:Key),V.ref a)) (I0 l r.length) as=yb l as
 |[],[],_,_=>#[rfl,rfl]
 |[],_::_,_,h=>by cases h
 |q::l,[],_,h=>by cases h
 | q::l,a::as,r,h=>by
   let#[h1,h2]:=Dv (r:=r++[a]) (by simpa using h);rw[cX,qC]at h1;rw[cX]at h2;refine#[#[a,as,rfl,?_,h1],?_]
   .rw[k9<|aE _,sZ];rfl
   .show congrArg _ h2
theorem GK:∀ {l:List (Str×Nat)}{as:List ak},as.length=l.length->(yb l as).map (·.1)=l.map λq=>.inr q.1
 |[],_,_=>rfl
 |q::l,[],h=>by cases h
 |q::l,a::as,h=>congrArg _<|GK (by simpa using h)
theorem Rel.own (R:Rel T F r σ H env bx) {u:HO}(hf:F p=ag) (hn:p∉r) (hT:T.H₀ p=ag):Rel T (upd F p u) r σ (upd H p u) env bx:=by
 have s:=iE (o:=u) hf;refine#[λa v e=>?_,λi w e=>?_,R.len,R.nd,λn c a e1 e2=>?_,λa v e m=>?_,R.new,R.n0,R.sl,λa v e=>?_]
 .by_cases z:a=p
  .subst z;rw[fA]at e ⊢;show e
  .rw[fC z]at e ⊢;show R.fh a v e
 .let#[v,e1,e2]:=R.slot i w e;show#[v,e1,e2.mono s<|pE r]
 .have ne:a≠p:=λz=>hn (by rw[<-z];show List.mem_iff_getElem?.mpr #[n,e2]);show(R.box n c a e1 e2).grow s (λz=>by rw[fC ne];show z) λu z=>by rw[fC ne];show z
 .rw[fC (λz=>by rw[z,hT]at e;cases e)];show R.keep a v e m
 .by_cases z:a=p
  .subst z;show .inr<|.inr<|.inl hT
  .rw[fC z]at e;show R.fs a v e
theorem MY {l:List (Str×Nat)}{ks:List (Option au)}{vs:List au}(h:xK X pos ks vs<|l.map Zd) (yQ:ks.all (·.isSome)=ah) (hl:ks.length=vs.length) (h0:ks≠[]) (YW:ks.length<=15):PD X T Z (.Dict ks vs pos) (ya l):=by
 refine PE.imp (Pe h yQ hl h0 YW) λσ H Q=>x4 λF r env bx R h=>λp hp=>?_;unfold ya at h;split at h
 case isFalse=>show h.elim
 ext nd;have hn:=R.xE hp;have hT:T.H₀ p=ag:=by
  cases q:T.H₀ p with
  |none=>rfl
  |some u=>rw[R.keep p u q hn]at hp;cases hp
 refine B5 (R.ac8 hp) fA hn λas H2 R2 h2 n2 hl=>#[h2,yb l as,rfl,by simp;lia,?_];have nk:((yb l as).map (·.1)).Nodup:=by
  rw[GK hl,List.Nodup,tJ];show(tJ.mp nd.1).imp λh z=>h<|Sum.inr.inj z
 rw[J9 nk,ng];let#[a1,a2]:=Dv hl;have g:bh F r (upd F p<|.dK<|yb l as) _:=#[iE<|R.qO hp,wR r as];rw[R.len]at a1 a2;show h _ _ _ _ g (R2.own (R.qO hp) n2 hT) #[p,as,rfl,by rw[a2];show fA,a1]
noncomputable def adO:Option au->Option Str
 |some (.Constant (.str k) _ _)=>ae k
 |_=>ag
noncomputable def adP:au->Option Bool
 |.Dict [] [] _=>ae ah
 |.List [] _=>ae af
 |_=>ag
theorem P4 {k:Option au}(h:adO k=ae x):∃ j p,k=ae (.Constant (.str x) j p):=by
 rcases k with _|e<;>try cases h
 cases e<;>try cases h
 rename_i v _ _;cases v<;>cases h;show#[_,_,rfl]
theorem P5 {v:au}{b:Bool}(h:adP v=ae b):∃ p,v=if b then .Dict [] [] p else .List [] p:=by
 cases v<;>try cases h
 .ext ks vs p;cases ks<;>cases vs<;>cases h;show#[p,rfl]
 .ext es p;cases es<;>cases h;show#[p,rfl]
def Ze (kd:Str->Bool):List (Option au)->List au->Option (List<|Str×Nat)
 |[],[]=>ae []
 |k::ks,v::vs=>(adO k).bind λk=>(adP v).bind λb=>(Ze kd ks vs).map ((k,if b then if kd k then 2 else 1 else 0)::·)
 |_,_=>ag
theorem GL {kd:Str->Bool}:∀ {ks:List (Option au)}{vs:List au}{l:List (Str×Nat)},Ze kd ks vs=ae l->xK X pos ks vs (l.map Zd) /\ ks.all (·.isSome)=ah /\ ks.length=vs.length /\ ks.length=l.length
 |[],[],_,h=>by cases h;show#[Pd,rfl,rfl,rfl]
 | k::ks,v::vs,l,h=>by
   let#[x,e1,h]:=Option.bind_eq_some_iff.mp h;let#[t,e2,h]:=Option.bind_eq_some_iff.mp h;let#[m,e,rfl]:=Option.map_eq_some_iff.mp h;let#[_,_,rfl]:=P4 e1;let#[_,rfl]:=P5 e2;let#[a,b,c,d]:=GL e;refine#[?_,b,by simp[c],by simp[d]];cases t
   .show AM Ax (PE.imp (LR ls) λσ H Q h=>#[dM _,h]) a
   cases kd x
   .show AM Ax Dg a
   .show AM Ax Dh a
end L2.DL
namespace HT
open PySem.W
theorem P6 (A:eu) (s:ax) {v:ai}{a b:aT}(p:kZ h v a) (q:kZ h u b) (hl:a.like b=ah):∃ e,SeqAt.EqAt A s v u e /\ (e=ah ↔ a=b):=by
 cases a with
 |i n=>
   cases b with
   |i m=>let#[t,rfl]:=p;let#[t',rfl]:=q;show#[_,ab1 n t m t',by simp]
   |_=>cases hl
 |s x=>
   cases b with
   |s y=>let#[t,rfl]:=p;let#[t',rfl]:=q;show#[_,XE x t y t',by simp]
   |_=>cases hl
theorem P7 (A:eu) (s:ax) {v:ai}{a b:aT}(p:kZ h v a) (q:kZ h u b) (hl:a.like b=ah) (prog:c7) (w:cn) (E:ai->ax->zt) (Q:ai->ax->zt) (k:Q (.bool<|a.lt b) s) :
 wpAny zi A (richCompare .Lt v u) Q E s:=by
 cases a with
 |i n=>
   cases b with
   |i m=>let#[t,rfl]:=p;let#[t',rfl]:=q;show(aby k)
   |_=>cases hl
 |s x=>
   cases b with
   |s y=>let#[t,rfl]:=p;let#[t',rfl]:=q;show(lt_str k)
   |_=>cases hl
section
open PySem.SeqAt
open PySem.AutoSeq1 (wpAny_loadPart')
open PySem.MeetsSeq PySem.MeetsSeq2 PySem.MeetsSeq3
theorem BF (l b:ak) (items sQ:Array ai) (n n2:Nat) (dd uL:Option ak) (sl se:Array<|Option ai) (h0:aK) (x y:List aT) (hi:eE h0 items.toList x) (hj:eE h0 sQ.toList y) (hl:hG x y=ah) :
 Meets (Builtin.«tuple.__lt__» #[[.ref l,.ref b],[]])
  (λ_ R s=>s.heap.get? l=ae { cls:=.type "tuple",dict:=dd,data:=.seq items n,slots:=sl } /\ s.heap.get? b=ae { cls:=.type "tuple",dict:=uL,data:=.seq sQ n2,slots:=se } /\
   R (.ok<|.ret<|.bool<|cH x y) s):=
 .of_wp λprog w A R s h=>by
  let#[hp,g,d,tk,os]:=s;let#[nu,hb,h]:=h;have f2:=afS;have z1:items.size=x.length:=by rw[<-hi.length];simp
  have z2:sQ.size=y.length:=by rw[<-hj.length];simp
  wp_walk using wpAny_loadPart' nu,wpAny_loadPart' hb,wpAny_forIn_list _ (λrest b s'=>b.1=ag /\ s'=#[hp,g,d,tk,os] /\ ∃ (vs ws:List ai) (p q:List aT),rest=vs.zip ws /\
   eE h0 vs p /\ eE h0 ws q /\ hG p q=ah /\ p.length+sQ.size=q.length+items.size /\ R (.ok<|.ret<|.bool<|cH p q) #[hp,g,d,tk,os]) _
  case turn=>
   rintro⟨v,u⟩ rest b s' ⟨ED,rfl,vs,ws,p,q,hz,hv,hw,hk,hlen,hR⟩;cases hv with
   |nil=>rw[aa6]at hz;cases hz
   |@cons v' a vs p ha aiw=>
     cases hw with
     |nil=>rw[List.zip_nil_right]at hz;cases hz
     |@cons u' c ws q hc aix=>
       rw[vj]at hz;injection hz with aiy aiz;injection aiy with hy hx;subst hy hx;simp[bD]at hlen;have tR:(a.like c&&hG p q)=ah:=hk;rw[aI]at tR;unfold cH at hR;let#[e,he,adQ]:=P6 A.in1 #[hp,g,d,tk,os] ha hc tR.1;refine aj<|he prog w _ _ ?_;cases e with
       |true=>
         rw[if_pos<|adQ.mp rfl]at hR
         wp_walk
         show#[rfl,rfl,_,_,_,_,aiz,aiw,aix,tR.2,by lia,hR]
       |false=>
         rw[if_neg λq=>absurd (adQ.mpr q) c6]at hR
         wp_walk using (P7 A.in1 #[hp,g,d,tk,os] ha hc tR.1 prog w)
         show#[_,rfl,by simpa using hR]
  case fin=>
   rintro⟨b1,b2⟩ s' ⟨ED,rfl,vs,ws,p,q,hz,hv,hw,hk,hlen,hR⟩;simp at ED;subst ED;have hx:cH p q=decide (items.size<sQ.size):=by
    cases hv with
    |nil=>
      cases hw with
      |nil=>simp[p6]at hlen;unfold cH;show(decide_eq_false za).symm
      |cons c hw=>simp[p6,bD]at hlen;unfold cH;show(decide_eq_true za).symm
    |cons a hv=>
      cases hw with
      |nil=>simp[p6,bD]at hlen;unfold cH;show(decide_eq_false za).symm
      |cons c hw=>rw[vj]at hz;cases hz
   rw[hx]at hR
   wp_walk
   show#[_,rfl,by simpa[Builtin.Tuple.tupleCompareSizes] using hR]
  case h=>show⟨rfl,rfl,items.toList,sQ.toList,x,y,rfl,hi,hj,hl,by lia,h⟩
end
theorem P8 {s:ax}{l b:ak}{sQ:Array ai}{x y:List aT}(hl:IsTup s.heap l items) (hb:IsTup s.heap b sQ) (hi:eE s.heap items.toList x) (hj:eE s.heap sQ.toList y)
 (hk:hG x y=ah) (hu:A.units<cLine) (h:Q (.bool<|cH x y) s):wpAny zi A (compareOp .Lt (.ref l)<|.ref b) Q E s:=by
 let#[#[cls,dd,data,sl],ho,hc,n,hd]:=id hl;let#[#[acF,uL,data2,se],sf,kD,n2,hd2]:=id hb;subst hc hd kD hd2;show richCompare_meets_room (op:=.Lt) #[_,ho,rfl] #[_,sf,rfl] PySem.F.slot_tuple_lt PySem.F.entry_tuple_lt (PySem.F.args_tuple_lt_2 _ _) (BF l b items sQ n n2 dd uL sl se s.heap x y hi hj hk)
  #[ho,sf,#[(λx=>nomatch x),h]] hu
end HT
namespace L2.DL
open PySem.W
open HT (aT hG cH)
def Zf:R2:=λx y H Q=>∃ F a b vs us l m,x=.ref a /\ y=.ref b /\ Sub F H /\ F a=ae (.tup vs) /\ F b=ae (.tup us) /\ aG F (l.map kK) vs /\ aG F (m.map kK) us /\ hG l m=ah /\ Q (.bl<|cH l m) H
theorem UK (hu:X.A.units<cLine):bc X (compareOp .Lt) Zf:=by
 intro pins s σ H x y v u Q I rx ry h;let#[F,a,b,vs,us,l,m,rfl,rfl,sub,fa,fb,da,db,k,q]:=h;cases rx;cases ry;let#[_,its,r1,p1]:=(I.aD a _<|sub _ _ fa);let#[_,sj,r2,p2]:=(I.aD b _<|sub _ _ fb);show HT.P8 p1 p2 (by simpa using FF I sub da r1) (by simpa using FF I sub db r2) k hu #[.bl _,H,I,rfl,q]
def cT:D->D->Option Res
 |.int i,.int j=>ae<|.old<|.bl<|decide (i<j)
 | .tup a,.tup b=>(match sL a,sL b with
   |some l,ae m=>if hG l m=ah then ae (.old<|.bl<|cH l m) else ag
   |_,_=>ag)
 |_,_=>ag
theorem UL (hu:X.A.units<cLine):bc X (compareOp .Lt) (λx y H Q=>kB (λi j=>.bl<|decide (i<j)) x y H Q \/ Zf x y H Q):=V4.or<|UK hu
theorem aiA:cz (λx y H Q=>kB (λi j=>.bl<|decide (i<j)) x y H Q \/ Zf x y H Q) cT:=by
 intro F H x y v w Q s sub rx ry e k;unfold cT at e;split at e
 .cases e;show .inl #[_,_,rx,ry,k _ _ #[rfl,rfl]]
 .split at e
  .ext l m e1 e2;split at e
   .ext c;cases e;rw[AQ e1]at rx;rw[AQ e2]at ry;let#[p,vs,rfl,h1,h2]:=rx;let#[q,us,rfl,h3,h4]:=ry;show .inr #[F,p,q,vs,us,l,m,rfl,rfl,sub,h1,h3,h2,h4,c,k _ _ #[rfl,rfl]]
   .cases e
  .cases e
 .cases e
noncomputable def forL (k:Nat) (g:DG) (body:aC):Nat->Nat->aC
 |0,_,_,_=>.bad
 | f+1,i,env,bx=>match bx[k]? with
   | some (.lst l)=>(match l[i]? with
     |none=>.nx env bx
     | some x=>match g (.d x) env bx with
       |none=>.bad
       | some (env1,bx1)=>match body env1 bx1 with
         |.nx bw ay=>forL k g body f (i+1) bw ay
         |.ct bw ay=>forL k g body f (i+1) bw ay
         |.bk bw ay=>.nx bw ay
         |o=>o)
   |_=>.bad
def yc (m:DE W) (g:DG) (body:aC):aC:=λenv bx=>bB zz λw bx1=>match w with
 |.b k=>forL k g body (Za bx1 k+1) 0 env bx1
 |_=>.bad
section
variable {body:List b9} {mi:DE W} {g:DG} {m:aC}
theorem UM {D:Ends}(h:tS T Z (yc mi g m) D σ H):HM (acw K<|tD T Z mi) (tG T g) (tS T Z m) D σ H:=by
 let#[F,r,env,bx,R,h]:=h;refine#[F,r,env,bx,R,End.bB h λw bx1 F1 r1 v H1 g1 R1 d1 h1=>?_];split at h1
 case h_2=>show h1.elim
 ext k;let#[a,rfl,ha]:=d1;have at_:∀ {F'}{r'}{σ'}{H'}{aO}{bx'}{T'}{l},bh F1 r1 F' r'->Rel T' F' r' σ' H' aO bx'->bx'[k]?=ae (.lst l)->∃ vs,H' a=ae _ /\ aG F' l vs:=λ{F' r' σ' H' aO bx' T' l} g' R' e=>by
  let#[t,et]:=g'.p;have aiB:r'[k]?=ae a:=by rw[<-et,dZ (List.getElem?_eq_some_iff.mp ha).1];show ha
  let#[_,vs,k1,k2]:=R'.box k _ a e aiB;show#[vs,k1,k2]
 have q0:∃ xs,bN K H1 a xs:=by
  unfold forL at h1;split at h1
  .ext l e;let#[vs,k1,_]:=at_ (.refl F1 r1) R1 e;show#[vs,.of k1]
  .show h1.elim
 refine#[a,rfl,q0,λi n σ' H'=>∃ F' r' aO bx',bh F1 r1 F' r' /\ Rel T F' r' σ' H' aO bx' /\ cQ T Z F' r' D (forL k g m n i aO bx'),#[_,F1,r1,env,bx1,.refl F1 r1,R1,h1],?_];rintro i n σ' H' ⟨F',r',aO,bx',g',R',h'⟩;cases n with
 |zero=>show h'.elim
 |succ n=>
 unfold forL at h';split at h'
 case h_2=>show h'.elim
 ext l el;let#[ws,k1,k2]:=at_ g' R' el;split at h'
 .ext ei;show .inl #[#[ws,.of k1,by rw[<-k2.length];show List.getElem?_eq_none_iff.mp ei],h' F' r' σ' H' (.refl F' r') R']
 .ext x ei;let#[u,e2,du]:=k2.get ei;refine .inr #[#[ws,u,.of k1,e2],λσ2 H2=>∃ F2 r2 bw ay,bh F1 r1 F2 r2 /\ Rel T F2 r2 σ2 H2 bw ay /\ cQ T Z F2 r2 D _,λσ2 H2 ⟨F2,r2,bw,ay,g2,R2,h2⟩=>#[n,k8 _,F2,r2,bw,ay,g2,R2,h2],λy H2 hy=>?_];let#[rfl,hy]:=hy;have e4:=hy ws<|.of k1;rw[e2]at e4;cases e4;refine#[F',r',aO,bx',.d x,R',du,?_];cases eg:g _ aO bx' with
  |none=>simp[eg]at h';show h'.elim
  |some o=>
    let#[qo,bQ]:=o;simp[eg]at h';intro F3 r3 σ3 H3 g3 R3;refine#[F3,r3,qo,bQ,R3,?_];have gg:=g'.trans g3;cases em:m qo bQ with
    |nx tY cU=>simp[em]at h';show λF4 r4 σ4 H4 g4 R4=>#[F4,r4,tY,cU,gg.trans g4,R4,cQ.weak (g3.trans g4) h']
    |ct tY cU=>simp[em]at h';show λF4 r4 σ4 H4 g4 R4=>#[F4,r4,tY,cU,gg.trans g4,R4,cQ.weak (g3.trans g4) h']
    |bk tY cU=>simp[em]at h';show λF4 r4 σ4 H4 g4 R4=>h' F4 r4 σ4 H4 (g3.trans g4) R4
    |rt w cU=>simp[em]at h';show cQ.weak g3 h'
    |exc c cU=>simp[em]at h';show cQ.weak g3 h'
    |bad=>simp[em]at h';show h'
theorem MZ (hp:PassesOwn zf X.A X.env X.xe) (hc:X.calm=ah) (hi:PD X T Z iter mi) (hg:kF X T tg g) (hb:qm X T Z body m)
 (hs:∀ x,foldedSetIterable iter X.env x=pure x:=by intro _;rfl):cL X T Z (.For tg iter body [] pos) (yc mi g m):=
 PS.imp (Fp hp hc (Ox hi) hg hb hs) λD σ H h=>UM h
end
end L2.DL
namespace L2
open PySem.W
theorem GM (f:Nat->Int):∀ k j,j<=k->f j<=f (argBest (λi j=>decide (f i>f j)) k)
 |0,j,h=>by cases Nat.le_zero.mp h;show uE _
 | k+1,j,h=>by
   have ih:=GM f k;change f j<=f (if _ then _ else _);split
   .ext q;have q:=of_decide_eq_true q;rcases QU h with h|rfl
    .have:=ih j<|QV h;lia
    .show uE _
   .ext q;rcases QU h with h|rfl
    .show ih j<|QV h
    .have:¬ f _>f _:=λz=>q<|decide_eq_true z;lia
theorem GN:∀ {us:List ai}{ns:List Int},IntsAre us ns->∃ xs:List (Int×Tok),us=xs.map (λp=>.int p.1 p.2) /\ xs.map (·.1)=ns
 |_,_,.nil=>#[[],rfl,rfl]
 | _,_,.cons n t h=>by
   let#[xs,rfl,rfl]:=GN h;show#[(n,t)::xs,rfl,rfl]
theorem Lc (hc:X.calm=ah):dQ X (.builtin "max") (λxs H Q=>∃ (a:ak) (ns:List Int) (m:Int),xs=[.ref a] /\ bN X.K H a (ns.map V.int) /\ m∈ns /\ (∀ x∈ns,x<=m) /\ Q (.int m) H):=by
 intro pins s σ H xs us Q I r h;let#[a,ns,m,rfl,hl,hm,hg,q]:=h;let#[_,rfl,rfl]:=vals1 r;let#[its,r',pl,hz]:=I.list hl;let#[ps,rfl,rfl]:=GN<|mz r';have h0:0<ps.toArray.size:=by
  cases ps with
  |nil=>cases hm
  |cons p ps=>simp
 have e0:(ps.map λp=>Value.int p.1 p.2).toArray=intItems ps.toArray:=by simp[intItems]
 refine max_intList (I.ok.hd hc) (e0▸pl.isList) h0 λv h' tk hv kk=>?_;let#[t,rfl]:=intItems_at hv;have hb:=GM (numAt ps.toArray)<|ps.toArray.size-1;generalize argBest _ _=b at hv hb;have em:numAt ps.toArray b=m:=by
  have qp:b<ps.length:=by
   have:=(Array.getElem?_eq_some_iff.mp hv).1;simpa[intItems] using this
  have e1:numAt ps.toArray b=ps[b].1:=by simp[numAt,qp]
  let#[p,mp,rfl]:=bA.mp hm;let#[j,hj,rfl]:=List.mem_iff_getElem.mp mp;have e2:numAt ps.toArray j=ps[j].1:=by simp[numAt,hj]
  have g1:=hb j zh;have g2:=hg ps[b].1<|bA.mpr #[_,pF qp,rfl];lia
 show#[.int m,H,I.kept kk,#[t,by rw[em]],q]
end L2
namespace L2.DL
open PySem.W
noncomputable def sR (i:Int) (l:List Int):Int:=l.foldl max i
theorem FQ:∀ (l:List Int) (i:Int),sR i l∈i::l /\ ∀ x∈i::l,x<=sR i l:=by
 intro l_;induction l_ with
 |nil=>show λi=>#[by simp[sR],λx m=>by cases eU.mp m;show uE _]
 |cons j l az=>
   intro i;let#[h1,h2]:=az _;change sR _ l∈_ /\ ∀ x∈_,x<=sR _ l;refine#[?_,λx m=>?_]
   .rcases bq.mp h1 with h|h
    .rw[h];rcases Int.le_total i j with c|c
     .rw[Int.max_eq_right c];simp
     .rw[Int.max_eq_left c];simp
    .simp[h]
   .have hm:=h2 (max i j) zj;rcases bq.mp m with rfl|m
    .lia
    .rcases bq.mp m with rfl|m
     .lia
     .show h2 x (by simp[m])
def EE:List D->Option Res:=λxs=>match xs with
 |[.lst l]=>(match intsOf l with|some (i::ns)=>ae (.old<|.int<|sR i ns)|_=>ag)
 |_=>ag
theorem aiC:eX (λxs H Q=>∃ (a:ak) (ns:List Int) (m:Int),xs=[.ref a] /\ bN K H a (ns.map V.int) /\ m∈ns /\ (∀ x∈ns,x<=m) /\ Q (.int m) H) EE:=by
 intro F H xs vs Q s sub rx e k;unfold EE at e;split at e
 .split at e
  .ext i ns e1;cases e;let#[v,t,rfl,#[a,ws,rfl,h3,h4],h2]:=rx;cases (h2);have q1:=h4.ints e1;subst q1;show#[a,i::ns,_,rfl,.of h3,(FQ ns i).1,(FQ ns i).2,k _ _ #[rfl,rfl]]
  .cases e
 .cases e
section
variable {o:au} 
def wm (k m:DE W):DE W:=λenv bx=>fB (k env bx) λy bx1=>fB (m env bx1) λx ay=>match y,x with
 | .d (.tup d),.b n=>(match ay[n]?,ui d with
   |some (.dT l),ae k=>.val (.d<|.bl (eN l k).isSome) ay
   |_,_=>.bad)
 |_,_=>.bad
theorem Wu {Q:VK}(h:tD T Z (wm mb ma) σ H Q):YV (tD T Z mb) (tD T Z ma) σ H Q:=by
 let#[F,r,env,bx,R,h]:=h;refine#[F,r,env,bx,R,End.bind h λy bx1 F1 r1 u H1 g1 R1 d1 h1=>#[F1,r1,env,bx1,R1,End.bind h1 λx ay F2 r2 v H2 g2 R2 d2 h2=>?_]];split at h2
 .let#[a,rfl,ha]:=d2;let#[c,hc,kc]:=R2.eI ha;rw[hc]at h2;split at h2
  .ext l k e1 e2;cases e1;let#[hF,ao,k1,k2]:=kc;let#[b,us,rfl,f1,f2]:=(g2.den d1);cases GF e2 f2;refine#[a,_,rfl,.inr #[ao,k,b,.inl k1,rfl,R2.fh _ _ f1,rfl],?_];have e:(dW ao k).isSome=(eN l k).isSome:=by
    cases q:eN l k with
    |none=>rw[k2.get.2 q];rfl
    |some w=>let#[v2,e3,_]:=k2.get.1 _ q;rw[e3];rfl
   rw[e];show h2 F2 r2 _ H2 (.refl F2 r2) R2 zc
  .show h2.elim
 .show h2.elim
theorem UN (hu:X.A.units+1<cLine) (hi:PD X T Z e mb) (ho:PD X T Z o ma) (hm:behindInMarks .In o=af):PD X T Z (.Compare e [.In] [o] pos) (wm mb ma):=
 PE.imp (Ay (Fy hu hi ho) hm) λσ H Q h=>Wu h
end
def rF (sub:Bool) (i:Nat) (m:DE W):aC:=λenv bx=>match env[i]? with
 |some (ae<|.d<|.int a)=>bB zz λw bx1=>(match w with|.d (.int b)=>.nx (env.set i<|ae<|.d<|.int (if sub then a-b else a+b)) bx1|_=>.bad)
 |_=>.bad
theorem SM {i:Nat}{D:Ends}(sub:Bool) (h:tS T Z (rF sub i ma) D σ H):acv i (tD T Z ma) (XT λa b=>if sub then a-b else a+b) D σ H:=by
 let#[F,r,env,bx,R,h]:=h;unfold rF at h;split at h
 .ext a q;let#[v,e1,e2]:=R.slot i _ q;cases (e2);refine#[.int a,e1,F,r,env,bx,R,End.bB h λw bx1 F1 r1 u H1 g1 R1 d1 h1=>?_];split at h1
  .ext b;cases (d1);show#[a,b,rfl,rfl,h1 F1 r1 _ H1 (.refl F1 r1)<|R1.set (w:=.d<|.int _) zc i]
  .show h1.elim
 .show h.elim
theorem P9 (i:Nat) (he:PD X T Z e ma) (hN:X.N.Nodup) (hi:X.N[i]?=ae x) (hx:Loc X.env.scope x) (hf:X.fn x=ah \/ X.env.scope.names.lookup x=ae .local):cL X T Z (.AugAssign (.Name x pos') .Add e pos) (rF af i ma):=
 PS.imp (LK hN hi hx he Tu hf) λD σ H h=>SM af h
theorem Ra (i:Nat) (he:PD X T Z e ma) (hN:X.N.Nodup) (hi:X.N[i]?=ae x) (hx:Loc X.env.scope x) (hf:X.fn x=ah \/ X.env.scope.names.lookup x=ae .local):cL X T Z (.AugAssign (.Name x pos') .Sub e pos) (rF ah i ma):=
 PS.imp (LK hN hi hx he Tv hf) λD σ H h=>SM ah h
end L2.DL
namespace K1
open L2 L2.DL
def AZ:aC:=(fF<|gz (ly "int"<|dV 0)<|Ik<|ly "bool"<|dV 0)
def jm:List W->List Bx->O W:=aV 1<|aP AZ
def Aa:aC:=(fF<|gz (fm K1.jm 1<|fc (dV 0) fg)<|d3 dq dq (dV 1) (dV 0)<|dV 2)
def fY:List W->List Bx->O W:=aV 3<|aP Aa
def A0:aC:=(fF<|gz (ly "tuple"<|dV 0)<|d3 dq dq (dV 1) (dN af cM<|fc (dV 0) fg)<|dV 2)
def f9:List W->List Bx->O W:=aV 3<|aP A0
def Ab:aC:=(fF<|dN af dj<|fc (fK af [ag,ae 0] (qQ<|fc zd<|fc (dN af cM<|fc (dV 0) fg) fg) (fe 0) fN<|d2 af cT (d2 af aq (dV 1)<|d2 af bR (dV 0) zd)<|d2 af aq (dV 1)<|dV 0) fg)
def gX:List W->List Bx->O W:=aV 1<|aP Ab
def Dw:aC:=(fF<|gz (fm K1.f9 3<|fc (dV 0)<|fc zd<|fc (dC<|.int 5) fg)<|dN af dj<|fc (fK af [ag] (bj<|dV 0) (fe 0) fN<|fm K1.fY 3<|fc (dV 0)<|fc zg<|fc zo fg) fg)
def jR:List W->List Bx->O W:=aV 1<|aP Dw
def Dx:aC:=(fu (aH (kU (eJ<|dB<|fm K1.f9 3<|fc (dV 0)<|fc (d2 af fI zo zd)<|fc (d2 af fI zo zd) fg)<|eJ<|dB<|dN af dj<|fc (fK af [ag] (bj<|dV 0) (fe 0) fN<|fm K1.fY 3<|fc (dV 0)<|fc zg<|fc (dC<|.int 9) fg) fg) (fF<|dC<|.bl af) aL)<|fF<|dN af dj<|fc (fK af [ag,ag] (uc<|fc (dV 0)<|fc (kY af (dV 0) (kX zd) nz) fg) (fL 2<|fq (fe 0)<|fq (fe 1) fO) fN<|d2 af dq (dV 1)<|dV 0) fg)
def jS:List W->List Bx->O W:=aV 1<|aP Dx
def Ld:aC:=(fF<|gz (fm K1.f9 3<|fc (dV 0)<|fc zr<|fc zr fg)<|gz (fm K1.fY 3<|fc (d2 af aq (dV 0) zg)<|fc zd<|fc (dC<|.int 999) fg)<|fm K1.jS 1<|fc (d2 af aq (dV 0) zd) fg)
def mE:List W->List Bx->O W:=aV 1<|aP Ld
def Dy:aC:=(fF<|gz (fm K1.f9 3<|fc (dV 0)<|fc zd<|fc (dC<|.int 4) fg)<|dN af dj<|fc (fK af [ag] (bj<|dV 0) (fe 0) fN<|fm K1.mE 1<|fc (dV 0) fg) fg)
def jT:List W->List Bx->O W:=aV 1<|aP Dy
def Am:aC:=(fu (aH (eJ<|dB<|fm K1.f9 3<|fc (dV 0)<|fc zr<|fc zr fg) (fF<|dC<|.bl af) aL)<|fF<|gz (dN af dj<|fc (fK af [ag,ae 1] (bj<|dV 0) (fe 0) fN<|fm K1.fY 3<|fc (dV 0)<|fc zg<|fc (d2 af bR (dV 1) zd) fg) fg)<|d2 af cT (d2 af aq (dV 0) zg)<|d2 af aq (dV 0) zd)
def iA:List W->List Bx->O W:=aV 2<|aP Am
def Dz:aC:=(fu (aH (eJ<|dB<|ly "tuple"<|dV 0) (fF<|dC<|.bl af) aL)<|fF<|gz (dN af dj<|fc (fK af [ag,ae 1] (bj<|dV 0) (fe 0) fN<|fm K1.iA 2<|fc (dV 0)<|fc (dV 1) fg) fg)<|fm K1.gX 1<|fc (dV 0) fg)
def jU:List W->List Bx->O W:=aV 2<|aP Dz
def FR:aC:=(fu (aH (eJ<|dB<|fm K1.f9 3<|fc (dV 0)<|fc (dC<|.int 4)<|fc (dC<|.int 4) fg) (fF<|dC<|.bl af) aL)<|fu (fE (dV 0)<|fL 4<|fq (fe 1)<|fq (fe 2)<|fq (fe 3)<|fq (fe 4) fO)<|fF<|gz (fm K1.jR 1<|fc (dV 1) fg)<|gz (fm K1.jT 1<|fc (dV 2) fg)<|gz (fm K1.jU 2<|fc (dV 3)<|fc (dN af cM<|fc (dV 2) fg) fg)<|fm K1.fY 3<|fc (dV 4)<|fc zd<|fc (dC<|.int 9) fg)
def lD:List W->List Bx->O W:=aV 5<|aP FR
def jy:aC:=(fu (aH (dB<|d2 af cT (dV 1)<|ub<|dV 0) (fF<|Eh (dV 0)<|dV 1) aL)<|fF zg)
def gY:List W->List Bx->O W:=aV 2<|aP jy
def jE:aC:=(fu (aH (dB<|d2 af ny (dV 0)<|d2 af uQ (dC<|.int 10)<|dC<|.int 18) (fF<|gx ah<|fc (d2 af bR (dV 0)<|d2 af uQ (dC<|.int 10)<|dC<|.int 18) fg) aL)<|fu (fE zg<|fe 1)<|fu (iN (c9<|fc (dC<|.int 64) fg) (fe 2) zA)<|fF<|gx ah<|fc (dV 1) fg)
def jV:List W->List Bx->O W:=aV 4<|aP jE
def A3:aC:=(fu (fE (d2 af nY (d2 af aq (dV 0) zg)<|dV 1)<|fe 2)<|fu (fE (d2 af kh (d2 af aq (dV 0) zg)<|dV 1)<|Eg (dV 0) zg)<|fF<|dV 2)
def fr:List W->List Bx->O W:=aV 3<|aP A3
def l6:aC:=(fu (fE (d2 af aq (gx af<|fc (dC<|.int 9)<|fc zo<|fc zd<|fc (dC<|.int 9) fg)<|fm K1.fr 2<|fc (dV 0)<|fc (dC<|.int 4) fg)<|fe 1)<|fu (fE (Ir af<|dN af dX<|fc (fK af [ag,ae 0,ae 1] (c9<|fc (dC<|.int 4) fg) (fe 0) fN<|fm K1.fr 2<|fc (dV 1)<|fc (d2 af fI (dV 2) zd) fg) fg)<|fe 2)<|fF<|fQ<|fc (d2 af aq (gx af<|fc (dC<|.int 30)<|fc (d2 af fI zd<|fm K1.fr 2<|fc (dV 0)<|fc (dC<|.int 20) fg)<|fc (dC<|.int 999)<|fc (dC<|.int 8) fg)<|fm K1.fr 2<|fc (dV 0)<|fc (dC<|.int 4) fg)<|fc (dN af tZ<|fc (dV 2) fg) fg)
def gZ:List W->List Bx->O W:=aV 3<|aP l6
end K1
namespace K2
open L2 L2.DL
def Le:aC:=(fu (fE (d2 af aq (gx af<|fc zg<|fc zg<|fc (d2 af uQ (dC<|.int 10)<|dC<|.int 6)<|fc (d2 af uQ (dC<|.int 10)<|dC<|.int 39) fg)<|fm K1.fr 2<|fc (dV 0)<|fc (dC<|.int 4) fg)<|fe 3)<|fu (fE (dN af tZ<|fc (fK af [ag,ag,ae 3] (bj<|dV 1) (fL 2<|fq (fe 0)<|fq (fe 1) fO) fN<|fQ<|fc (d2 af fI (dV 0)<|dV 2)<|fc (d2 af fI (dV 1)<|dV 2) fg) fg)<|fe 4)<|fF<|fQ<|fc (dV 4)<|fc (fK af [ag,ae 3] (bj<|dV 2) (fe 0) fN<|d2 af fI (fQ<|fc (d2 af fI (d2 af aq (dV 0) zg)<|dV 1) fg)<|kY af (dV 0) (kX zd) nz)<|fc (dV 3) fg)
def jW:List W->List Bx->O W:=aV 5<|aP Le
def FS:aC:=(fu (eY 2 3<|fc (gx ah fg)<|fc (fm K1.fr 2<|fc (dV 0)<|fc (dV 1) fg) fg)<|fu (iN (c9<|fc (d2 af aq (gx af<|fc zg<|fc zd<|fc zr<|fc (dC<|.int 4) fg)<|fm K1.fr 2<|fc (dV 0)<|fc (dC<|.int 4) fg) fg) (fe 4)<|fu (gh<|kG (dV 2)<|fQ<|fc (dV 3)<|fc (d2 af fI (d2 af fI (dV 3) zd)<|fm K1.fr 2<|fc (dV 0)<|fc (dV 1) fg) fg)<|fE (d2 af fI (d2 af fI (d2 af aq (d2 af aq (dV 2)<|xH zd) zd) zd)<|fm K1.fr 2<|fc (dV 0)<|fc (dV 1) fg)<|fe 3)<|fF<|dN af tZ<|fc (dV 2) fg)
def jn:List W->List Bx->O W:=aV 5<|aP FS
def jo:aC:=(fF<|dN af dj<|fc (fK af [ag,ag] (uc<|fc (dV 0)<|fc (kY af (dV 0) (kX zd) nz) fg) (fL 2<|fq (fe 0)<|fq (fe 1) fO) fN<|d2 af cT (d2 af aq (dV 0) zd)<|d2 af aq (dV 1) zg) fg)
def jX:List W->List Bx->O W:=aV 1<|aP jo
def B6:aC:=(fF<|gz (fm K1.jm 1<|fc (dV 0) fg)<|d2 af ny (dV 0) zg)
def iB:List W->List Bx->O W:=aV 1<|aP B6
def M0:aC:=(fF<|gz (fm K1.f9 3<|fc (dV 0)<|fc zr<|fc zr fg)<|gz (fm K2.iB 1<|fc (d2 af aq (dV 0) zg) fg)<|gz (fm K2.iB 1<|fc (d2 af aq (dV 0) zd) fg)<|d2 af cT (d2 af aq (dV 0) zg)<|d2 af aq (dV 0) zd)
def oG:List W->List Bx->O W:=aV 1<|aP M0
def jd:aC:=(fu (fE (d2 af aq (d2 af aq (dV 0) zg)<|dV 2)<|fe 4)<|fu (iN (bj<|dV 1) (fL 2<|fq (fe 5)<|fq (fe 6) fO)<|aH (dB<|d3 dq cT (dV 5) (dV 3)<|dV 6) (fF<|dN af maxD<|fc zg<|fc (d2 af bR (dV 4)<|d2 af kh (d2 af bR (dV 3)<|dV 5)<|d2 af aq (dV 0) zo) fg) aL)<|fF<|dV 4)
def iO:List W->List Bx->O W:=aV 7<|aP jd
def mF:aC:=(fu (fE (d2 af aq (d2 af aq (dV 0) zg)<|dV 2)<|fe 4)<|fu (iN (bj<|dV 1) (fL 2<|fq (fe 5)<|fq (fe 6) fO)<|aH (dB<|d3 dq cT (dV 5) (dV 3)<|dV 6) (fF<|dN af maxD<|fc (d2 af bR (dV 4)<|d2 af kh (d2 af bR (dV 3)<|dV 5)<|d2 af aq (dV 0) zo)<|fc zg fg) aL)<|fF<|dV 4)
def lE:List W->List Bx->O W:=aV 7<|aP mF
end K2
namespace bM
open L2 L2.DL
def jY:aC:=(aH (eJ<|dB<|fm K1.lD 1<|fc (dV 0) fg) dt aL)
def iH:List W->List Bx->O W:=aV 1<|aP jY
end bM
namespace aJ
open L2 L2.DL
def DA:aC:=(fu (fE (dN af tZ<|fc (fK af [ag,ae 0] (c9<|fc (d2 af fI zd<|fm K1.fr 2<|fc (dV 0)<|fc (dC<|.int 5) fg) fg) (fe 0) fN<|fm K1.fr 2<|fc (dV 1)<|fc (dC<|.int 4) fg) fg)<|fe 1)<|fu (fE (dN af tZ<|fc (fK af [ag,ae 0] (c9<|fc (d2 af fI zd<|fm K1.fr 2<|fc (dV 0)<|fc (dC<|.int 4) fg) fg) (fe 0) fN<|fm K1.gZ 1<|fc (dV 1) fg) fg)<|fe 2)<|fu (fE (gx af fg)<|fe 3)<|fu (iN (c9<|fc (dN af cM<|fc (dV 2) fg) fg) (fe 4)<|fE (d2 af fI (dV 3)<|fK af [ag,ae 0,ae 4] (c9<|fc (dV 4) fg) (fe 0) (dB<|d2 af aY (fm K1.fr 2<|fc (dV 1)<|fc zo fg) zg)<|fQ<|fc (dV 0)<|fc (dV 2) fg)<|fe 3)<|fF<|fQ<|fc (dV 1)<|fc (dV 2)<|fc (dN af tZ<|fc (dN af dX<|fc (dV 3) fg) fg)<|fc (d2 af aq (gx af<|fc zd<|fc zr<|fc (dC<|.int 9)<|fc (d2 af fI zd<|fm K1.fr 2<|fc (dV 0)<|fc (dC<|.int 9) fg) fg)<|fm K1.fr 2<|fc (dV 0)<|fc (dC<|.int 4) fg) fg)
def iT:List W->List Bx->O W:=aV 5<|aP DA
def lF:aC:=(fu (fE (dN ah xG<|fc (dV 1) fg)<|fe 2)<|fF<|fK af [ag,ae 0,ae 2] (bj<|dV 1) (fe 0) fN<|wa (dV 2)<|fm K1.fr 2<|fc (dV 1)<|fc (dN af cM<|fc (dV 2) fg) fg)
def jZ:List W->List Bx->O W:=aV 3<|aP lF
def A4:aC:=(fu (eY 3 4<|fc (fm K1.fr 2<|fc (dV 0)<|fc (dV 2) fg)<|fc (fm K1.fr 2<|fc (dV 0)<|fc (d2 af aq (gx af<|fc zo<|fc (dC<|.int 10) fg)<|fm K1.fr 2<|fc (dV 0)<|fc zr fg) fg) fg)<|fu (eY 5 6<|fc (fm K1.fr 2<|fc (dV 0)<|fc (dN af cM<|fc (d2 af aq (dV 1) zg) fg) fg)<|fc (fm K1.fr 2<|fc (dV 0)<|fc (dC<|.int 5) fg) fg)<|fu (aH (dB<|d2 af aY (dV 6) zg) (fF<|fQ<|fc (dV 3)<|fc (dC<|.str "out")<|fc (dV 4) fg) aL)<|fu (aH (dB<|d2 af cT (dV 6) zo) (fF<|fQ<|fc (dV 3)<|fc (dC<|.str "to")<|fc (dV 4)<|fc (dV 5) fg) aL)<|fu (fE (d2 af aq (gx af<|fc zg<|fc (fm K1.fr 2<|fc (dV 0)<|fc (dC<|.int 9) fg)<|fc (fm K1.fr 2<|fc (dV 0)<|fc (dC<|.int 40) fg)<|fc (dC<|.int 999) fg)<|fm K1.fr 2<|fc (dV 0)<|fc (dC<|.int 4) fg)<|fe 7)<|fF<|fQ<|fc (dV 3)<|fc (dC<|.str "in")<|fc (dV 4)<|fc (fm K1.fr 2<|fc (dV 0)<|fc (dN af cM<|fc (d2 af aq (dV 1) zd) fg) fg)<|fc (dV 5)<|fc (dV 7)<|fc (fm K1.fr 2<|fc (dV 0)<|fc (dC<|.int 100) fg) fg)
def gU:List W->List Bx->O W:=aV 8<|aP A4
def Ac:aC:=(fu (fE xX<|fe 4)<|fu (iN (c9<|fc (fm K1.fr 2<|fc (dV 0)<|fc (d2 af fI (dV 2) zd) fg) fg) (fe 5)<|fu (fE (fm aJ.gU 3<|fc (dV 0)<|fc (dV 1)<|fc (dV 3) fg)<|fe 6)<|fu (aH (nv (dB<|d2 af aY (d2 af aq (dV 6) zd)<|dC<|.str "in")<|dB<|d2 af eZ (fm K1.fr 2<|fc (dV 0)<|fc zo fg) zg) (fE (d2 af fI (fQ<|fc (d2 af kh (d2 af aq (dV 6) zg) zo) fg)<|kY af (dV 6) (kX zd) nz)<|fe 6) aL)<|rD (dV 4) (dV 6)<|dC<|.bl ah)<|fF<|fm aJ.jZ 2<|fc (dV 0)<|fc (EC af<|dV 4) fg)
def iU:List W->List Bx->O W:=aV 7<|aP Ac
def Ad:aC:=(fu (fE (gx ah fg)<|fe 3)<|fu (wc 1 (fe 4)<|fu (fE (d2 af aq (cj (dV 1)<|dV 4) zg)<|fe 5)<|aH (kU (dB<|d2 af (inD af) (fQ<|fc (dV 2)<|fc (dV 5) fg)<|d2 af aq (dV 0) zr)<|dB<|d2 af (inD af) (fQ<|fc (dV 5)<|fc (dV 2) fg)<|d2 af aq (dV 0) zr) (gh<|kG (dV 3)<|fQ<|fc (dV 4)<|fc (d2 af aq (cj (dV 1)<|dV 4) zd) fg) aL)<|fF<|sI 3)
def gm:List W->List Bx->O W:=aV 6<|aP Ad
def g6:aC:=(fu (fE (kY af (dV 2) nz<|kX zo)<|fL 3<|fq (fe 3)<|fq (fe 4)<|fq (fe 5) fO)<|fu (fE (bW (dV 1) "there")<|fe 6)<|fu (aH (dB<|d2 af aY (dV 4)<|dC<|.str "in") (fu (aH (dB<|dz af (dV 5)<|bW (dV 1) "came") (fF<|dC<|.str "there") aL)<|fu (aH (dB<|d2 af (inD af) (d2 af aq (dV 2)<|dC<|.int 4)<|fK af [ag,ag] (bj<|fm aJ.gm 3<|fc (dV 0)<|fc (dV 6)<|fc (d2 af aq (dV 2) zo) fg) (fL 2<|fq (fe 0)<|fq (fe 1) fO) fN<|dV 1) (fF<|dC<|.str "apart") aL)<|fu (kM (bW (dV 1) "came") (dV 5)<|dV 2)<|fu (kM (dV 6) (dV 5)<|fQ<|fc (d2 af aq (dV 2) zo)<|fc (d2 af aq (dV 2)<|dC<|.int 4) fg)<|fu (rD (bW (dV 1) "doors") (fQ<|fc (dV 3)<|fc (d2 af aq (dV 2)<|dC<|.int 4) fg)<|dC<|.bl ah)<|fF<|dC<|.str "takes") aL)<|fu (aH (dB<|dz ah (dV 5)<|dV 6) (fF<|dC<|.str "none") aL)<|fu (fE (cj (dV 6)<|dV 5)<|fL 2<|fq (fe 7)<|fq (fe 8) fO)<|fu (aH (dB<|d2 af aY (dV 4)<|dC<|.str "out") (fu (gh<|xY (dV 6)<|dV 5)<|kM (bW (dV 1) "gone") (dV 5)<|dV 3)<|aH (dB<|d2 af aY (dV 8)<|d2 af aq (dV 2) zo) (fF<|dC<|.str "same")<|aH (dB<|d2 af (inD af) (d2 af aq (dV 2) zo)<|fK af [ag,ag,ae 5] (bj<|fm aJ.gm 3<|fc (dV 0)<|fc (dV 6)<|fc (dV 7) fg) (fL 2<|fq (fe 0)<|fq (fe 1) fO) (dB<|d2 af eK (dV 0)<|dV 2)<|dV 1) (fF<|dC<|.str "apart")<|fu (kM (dV 6) (dV 5)<|fQ<|fc (dV 7)<|fc (d2 af aq (dV 2) zo) fg)<|rD (bW (dV 1) "doors") (fQ<|fc (dV 3)<|fc (d2 af aq (dV 2) zo) fg)<|dC<|.bl ah)<|fu (rD (bW (dV 1) "doors") (fQ<|fc (dV 3)<|fc (dV 8) fg)<|dC<|.bl ah)<|fF<|dC<|.str "takes")
def gH:List W->List Bx->O W:=aV 9<|aP g6
def mG:aC:=(fu (fE (ya [("there",1),("came",1),("gone",1),("doors",2),("at",0),("words",0)])<|fe 2)<|fu (iN (bj<|dN af dX<|fc (dV 1) fg) (fe 3)<|fu (gh<|kG (bW (dV 2) "words")<|fQ<|fc (dV 3)<|fc (fm aJ.gH 3<|fc (dV 0)<|fc (dV 2)<|fc (dV 3) fg) fg)<|gh<|kG (bW (dV 2) "at")<|fQ<|fc (d2 af aq (dV 3) zg)<|fc (wg af<|bW (dV 2) "there") fg)<|fF<|dV 2)
def jp:List W->List Bx->O W:=aV 4<|aP mG
def jF:aC:=(fu (eY 2 3<|fc (d2 af bR (dN af cM<|fc (d2 af aq (dV 0) zd) fg) zd)<|fc (d2 af bR (dN af cM<|fc (d2 af aq (dV 0) zg) fg) zd) fg)<|fu (aH (dB<|d2 af aY (dV 1)<|dC<|.str "in") (fF<|fQ<|fc (dC<|.int 9)<|fc (dV 2)<|fc (dV 3)<|fc (dC<|.int 999)<|fc (dC<|.int 99) fg) aL)<|fu (aH (dB<|d2 af aY (dV 1)<|dC<|.str "out") (fF<|fQ<|fc (dC<|.int 9) fg) aL)<|fu (aH (dB<|d2 af aY (dV 1)<|dC<|.str "to") (fF<|fQ<|fc (dC<|.int 9)<|fc (dV 3) fg) aL)<|fF<|fQ fg)
def g9:List W->List Bx->O W:=aV 4<|aP jF
def Lf:aC:=(fu (aH (kU (eJ<|dB<|ly "tuple"<|dV 1)<|kU (dB<|d2 af cT (dN af cM<|fc (dV 1) fg) zo)<|eJ<|dB<|fm K2.iB 1<|fc (d2 af aq (dV 1) zg) fg) (fF<|dC<|.bl af) aL)<|fu (fE (fm aJ.g9 2<|fc (dV 0)<|fc (d2 af aq (dV 1) zd) fg)<|fe 2)<|fu (aH (dB<|d2 af eK (dN af cM<|fc (dV 2) fg)<|d2 af bR (dN af cM<|fc (dV 1) fg) zr) (fF<|dC<|.bl af) aL)<|fF<|dN af dj<|fc (fK af [ag,ag] (uc<|fc (kY af (dV 1) (kX zr) nz)<|fc (dV 2) fg) (fL 2<|fq (fe 0)<|fq (fe 1) fO) fN<|fm K1.fY 3<|fc (dV 0)<|fc zg<|fc (dV 1) fg) fg)
def j0:List W->List Bx->O W:=aV 3<|aP Lf
def DB:aC:=(fu (aH (kU (eJ<|dB<|ly "list"<|dV 1)<|dB<|d2 af eZ (dN af cM<|fc (dV 1) fg)<|dC<|.int 16) (fF<|dC<|.bl af) aL)<|fF<|gz (dN af dj<|fc (fK af [ag,ae 0] (bj<|dV 1) (fe 0) fN<|fm aJ.j0 2<|fc (dV 1)<|fc (dV 0) fg) fg)<|fm K1.gX 1<|fc (dN af dX<|fc (dV 1) fg) fg)
def j5:List W->List Bx->O W:=aV 2<|aP DB
def j6:aC:=(fu (gh<|fm bM.iH 1<|fc (dV 0) fg)<|aH (eJ<|dB<|fm aJ.j5 2<|fc (dV 0)<|fc (dV 1) fg) dt aL)
def jz:List W->List Bx->O W:=aV 2<|aP j6
def lG:aC:=(fu (aH (dB<|d2 af aY (d2 af aq (dV 0) zd)<|dC<|.str "in") (fF<|d2 af aq (dV 0)<|dC<|.int 4) aL)<|fu (aH (dB<|d2 af aY (d2 af aq (dV 0) zd)<|dC<|.str "to") (fF<|d2 af aq (dV 0) zo) aL)<|fF<|dC .non)
def fP:List W->List Bx->O W:=aV 1<|aP lG
def DC:aC:=(fF<|d2 af (inD ah) (fQ<|fc (dN af minD<|fc (dV 1)<|fc (dV 2) fg)<|fc (dN af maxD<|fc (dV 1)<|fc (dV 2) fg) fg)<|d2 af aq (dV 0) zr)
def iV:List W->List Bx->O W:=aV 3<|aP DC
def mH:aC:=(fu (eY 4 5<|fc (d2 af aq (dV 3) zd)<|fc (d2 af aq (dV 3) zr) fg)<|fu (aH (nv (dB<|d2 af aY (dV 4)<|dC<|.str "in")<|dB<|dz af (dV 5)<|dV 1) (fF<|dC<|.str "there") aL)<|fu (aH (nv (dB<|d2 af eK (dV 4)<|dC<|.str "in")<|dB<|dz ah (dV 5)<|dV 2) (fF<|dC<|.str "none") aL)<|fu (aH (dB<|d2 af aY (dV 4)<|dC<|.str "out") (fF<|dC<|.str "takes") aL)<|fu (fE (fm aJ.fP 1<|fc (dV 3) fg)<|fe 6)<|fu (aH (nv (dB<|d2 af aY (dV 4)<|dC<|.str "to")<|dB<|d2 af aY (cj (dV 2)<|dV 5)<|dV 6) (fF<|dC<|.str "same") aL)<|fu (fE (nT (dB<|d2 af aY (dV 4)<|dC<|.str "in") (d2 af aq (dV 3) zo)<|cj (dV 1)<|dV 5)<|fe 7)<|fu (fE (we af [ag,ae 2,ae 6] 2 (fe 0) (dB<|d2 af aY (cj (dV 1)<|dV 0)<|dV 2)<|dV 0)<|fe 8)<|fu (aH (dB<|dN af dj<|fc (fK af [ag,ae 0,ae 1,ae 7] (bj<|dV 8) (fe 0) fN<|fm aJ.iV 3<|fc (dV 1)<|fc (dV 3)<|fc (cj (dV 2)<|dV 0) fg) fg) (fF<|dC<|.str "takes") aL)<|fF<|dC<|.str "apart")
def iM:List W->List Bx->O W:=aV 9<|aP mH
def M2:aC:=(fu (fE (gx ah fg)<|fe 2)<|fu (fE (n6 ah [])<|fe 3)<|fu (fE (n6 ah [])<|fe 4)<|fu (iN (bj<|dN af dX<|fc (dV 1) fg) (fe 5)<|fu (fE (d2 af aq (dV 5) zr)<|fe 6)<|fu (fE (fm aJ.iM 4<|fc (dV 0)<|fc (dV 3)<|fc (dV 4)<|fc (dV 5) fg)<|fe 7)<|fu (aH (dB<|d2 af eK (dV 7)<|dC<|.str "takes") (fu (gh<|kG (dV 2)<|fQ<|fc (dV 5)<|fc (dV 7)<|fc (dC .non)<|fc (dC .non) fg) Im) aL)<|fu (gh<|kG (dV 2)<|fQ<|fc (dV 5)<|fc (dV 7)<|fc (uW (dV 4)<|dV 6)<|fc (fm aJ.fP 1<|fc (dV 5) fg) fg)<|fu (aH (dB<|d2 af aY (d2 af aq (dV 5) zd)<|dC<|.str "in") (kM (dV 3) (dV 6)<|d2 af aq (dV 5) zo) aL)<|aH (dB<|d2 af aY (d2 af aq (dV 5) zd)<|dC<|.str "out") (uk (dV 4)<|dV 6)<|kM (dV 4) (dV 6)<|fm aJ.fP 1<|fc (dV 5) fg)<|fF<|sI 2)
def Cw:List W->List Bx->O W:=aV 8<|aP M2
end aJ
namespace cD
open L2 L2.DL
def A5:aC:=(fu (fE (n6 af [])<|fe 2)<|fu (yc (bW (dV 0) "at") (fL 2<|fq (fe 3)<|fq (fe 4) fO)<|aH (dB<|d2 af dq (dV 3)<|dV 1) (fE (dV 4)<|fe 2) aL)<|fF<|dV 2)
def f7:List W->List Bx->O W:=aV 5<|aP A5
def lH:aC:=(fu (fE (n6 ah [])<|fe 2)<|fu (iN (bj<|dV 0) (fL 3<|fq (fe 3)<|fq (fe 4)<|fq (fe 5) fO)<|fu (aH (dB<|d2 af eZ (d2 af aq (dV 3) zg)<|dV 1) Il aL)<|aH (dB<|dG af<|dV 5) (uk (dV 2)<|d2 af aq (dV 3) zr)<|kM (dV 2) (d2 af aq (dV 3) zr)<|dV 5)<|fF<|sI 2)
def iP:List W->List Bx->O W:=aV 6<|aP lH
def BG:aC:=(fF<|fK af [ag,ag,ag,ag] (bj<|fm aJ.Cw 2<|fc (dV 0)<|fc (dV 1) fg) (fL 4<|fq (fe 0)<|fq (fe 1)<|fq (fe 2)<|fq (fe 3) fO) (dB<|d2 af aY (dV 1)<|dC<|.str "takes")<|fQ<|fc (dV 0)<|fc (dV 2)<|fc (dV 3) fg)
def gJ:List W->List Bx->O W:=aV 2<|aP BG
end cD
namespace K23
open L2 L2.DL
noncomputable section
def FT:aC:=(fu (fE (fm K2.lE 4<|fc (dV 0)<|fc (dV 1)<|fc (dV 4)<|fc (dV 5) fg)<|fe 6)<|fF<|d2 af aq (d2 af aq (d2 af aq (d2 af aq (dV 0) zd)<|dV 3) zd)<|dN af maxD<|fc zg<|fc (d2 af bR (dV 6)<|dN af intD<|fc (wm (fQ<|fc (dV 5)<|fc (dV 4) fg)<|bW (dV 2) "doors") fg) fg)
def jq:List W->List Bx->O W:=aV 7<|aP FT
def Cy:aC:=(fu (aH (dB<|dz ah (dV 3)<|bW (dV 2) "came") (fF<|dC .non) aL)<|fu (fE (cj (bW (dV 2) "came")<|dV 3)<|fe 5)<|fu (fE (d2 af aq (d2 af aq (dV 0) zd)<|d2 af aq (dV 5) zo)<|fL 2<|fq (fe 6)<|fq (fe 7) fO)<|fu (fE (d2 af aq (dV 5)<|dC<|.int 5)<|fe 8)<|fu (iN (qQ<|fc (d2 af aq (dV 5) zg)<|fc (d2 af fI (dV 4) zd) fg) (fe 9)<|fu (aH (dB<|d2 af ny (dV 8)<|dV 6) (fF<|dV 9) aL)<|fu (fE (fm cD.f7 2<|fc (dV 2)<|fc (dV 9) fg)<|fe 10)<|fu (aH (dB<|dz ah (dV 3)<|dV 10) (fF<|dC .non) aL)<|fE (d2 af fI (dV 8)<|fm K23.jq 6<|fc (dV 0)<|fc (dV 1)<|fc (dV 2)<|fc (d2 af aq (dV 5) zo)<|fc (d2 af aq (cj (dV 10)<|dV 3) zd)<|fc (dV 9) fg)<|fe 8)<|fu (aH (dB<|d2 af ny (dV 8)<|dV 6) (fF<|d2 af fI (dV 4) zd) aL)<|fu (fE (d2 af aq (cj (fm cD.f7 2<|fc (dV 2)<|fc (dV 4) fg)<|dV 3) zd)<|fe 11)<|fu (fE (d2 af aq (dV 7)<|d2 af aq (d2 af aq (dV 0) zg)<|dV 11)<|fe 12)<|fu (aH (dB<|d2 af aY (dV 12) zg) (fF<|dC .non) aL)<|fF<|d2 af fI (d2 af fI (dV 4) zd)<|d2 af kh (d2 af bR (d2 af fI (d2 af bR (dV 6)<|dV 8)<|dV 12) zd)<|dV 12)
def iI:List W->List Bx->O W:=aV 13<|aP Cy
def A6:aC:=(fu (gh<|fm bM.iH 1<|fc (dV 0) fg)<|fF<|gz (fm K1.f9 3<|fc (dV 1)<|fc zg<|fc (dC<|.int 4) fg)<|gz (dN af dj<|fc (fK af [ag] (bj<|dV 1) (fe 0) fN<|fm K2.oG 1<|fc (dV 0) fg) fg)<|fm K2.jX 1<|fc (dV 1) fg)
def lI:List W->List Bx->O W:=aV 2<|aP A6
def Ae:aC:=(aH (eJ<|dB<|fm K23.lI 2<|fc (dV 0)<|fc (dV 1) fg) dt aL)
def j7:List W->List Bx->O W:=aV 2<|aP Ae
def BH:aC:=(fu (gh<|fm K23.j7 2<|fc (dV 0)<|fc (dV 1) fg)<|fu (gh<|fm aJ.jz 2<|fc (dV 0)<|fc (dV 2) fg)<|aH (eJ<|dB<|fm K1.fY 3<|fc (dV 3)<|fc zg<|fc (dC<|.int 9) fg) dt aL)
def ia:List W->List Bx->O W:=aV 4<|aP BH
def DD:aC:=(aH (eJ<|dB<|fm K2.iB 1<|fc (dV 0) fg) dt aL)
def j8:List W->List Bx->O W:=aV 1<|aP DD
def DH:aC:=(fu (iN (bj<|dV 0) (fL 3<|fq (fe 2)<|fq (fe 3)<|fq (fe 4) fO)<|aH (nv (dB<|d2 af aY (d2 af aq (dV 2) zd)<|dC<|.str "in")<|dB<|d2 af aY (d2 af aq (dV 2) zr)<|dV 1) (fF<|dV 2) aL)<|fF<|dC .non)
def ic:List W->List Bx->O W:=aV 5<|aP DH
def ie:aC:=(fu (fE (gx ah fg)<|fe 2)<|fu (iN (bj<|dV 1) (fL 2<|fq (fe 3)<|fq (fe 4) fO)<|fu (gh<|rz (dV 2)<|gx af<|fc (dV 3)<|fc (dV 4) fg)<|gh<|rz (dV 2)<|fK af [ag,ae 0,ae 3] (qQ<|fc zd<|fc (d2 af fI zo zd) fg) (fe 0) fN<|d2 af fI (dV 2)<|d2 af cC (dV 0)<|d2 af aq (dV 1) zo)<|fF<|dV 2)
def gO:List W->List Bx->O W:=aV 5<|aP ie
def DI:aC:=(fF<|dN af Ey<|fc (fK af [ag,ag,ag,ae 1,ae 2] (bj<|dV 0) (fL 3<|fq (fe 0)<|fq (fe 1)<|fq (fe 2) fO) fN<|gz (d2 af aY (d2 af aq (dV 0) zg)<|dV 4)<|d2 af (inD af) (dV 3)<|fQ<|fc (dV 1)<|fc (dV 2) fg) fg)
def iW:List W->List Bx->O W:=aV 3<|aP DI
def DJ:aC:=(fu (fE (fm cD.iP 2<|fc (dV 2)<|fc (dV 4) fg)<|fe 5)<|fu (aH (dB<|dz ah (d2 af aq (dV 3) zr)<|dV 5) (fF zg) aL)<|fu (fE (cj (dV 5)<|d2 af aq (dV 3) zr)<|fe 6)<|fu (fE (fm K2.iO 4<|fc (dV 0)<|fc (dV 1)<|fc (dV 6)<|fc (dV 4) fg)<|fe 7)<|fu (aH (dB<|fm K23.iW 3<|fc (dV 2)<|fc (dV 6)<|fc (dV 4) fg) (fE (dN af maxD<|fc zg<|fc (d2 af bR (dV 7) zd) fg)<|fe 7) aL)<|fF<|d2 af aq (d2 af aq (d2 af aq (d2 af aq (dV 0) zd)<|d2 af aq (dV 3) zo) zd)<|dV 7)
def iX:List W->List Bx->O W:=aV 8<|aP DJ
def DM:aC:=(fu (fE (fm K23.gO 2<|fc (dV 0)<|fc (dV 1) fg)<|fe 4)<|fu (iN (bj<|dV 2) (fL 3<|fq (fe 5)<|fq (fe 6)<|fq (fe 7) fO)<|gh<|rz (dV 4)<|gx af<|fc (d2 af aq (dV 5) zg)<|fc (d2 af fI (d2 af aq (dV 5) zg) zd) fg)<|fu (fE (fK af [ag,ae 3] (bj<|dN af wb<|fc (dV 4) fg) (fe 0) (dB<|d2 af ny (dV 0)<|d2 af aq (dV 1) zg)<|dV 0)<|fe 8)<|fu (fE (d2 af fI (kY af (dV 8) (kX zd) nz)<|gx af<|fc (dC .non) fg)<|fe 9)<|fF<|fK af [ag,ag,ae 0,ae 1,ae 2,ae 3] (uc<|fc (dV 8)<|fc (dV 9) fg) (fL 2<|fq (fe 0)<|fq (fe 1) fO) fN<|fQ<|fc (dV 0)<|fc (dV 1)<|fc (fm K23.iX 5<|fc (dV 2)<|fc (dV 3)<|fc (dV 4)<|fc (dV 5)<|fc (dV 0) fg) fg)
def iY:List W->List Bx->O W:=aV 10<|aP DM
def Lg:aC:=(fu (fE (d2 af aq (dV 3)<|dC<|.int 5)<|fe 5)<|fu (iN (bj<|fm K23.iY 4<|fc (dV 0)<|fc (dV 1)<|fc (dV 2)<|fc (dV 3) fg) (fL 3<|fq (fe 6)<|fq (fe 7)<|fq (fe 8) fO)<|fu (fE (nT (dB<|dG af<|dV 7) (dV 4)<|dN af minD<|fc (dV 7)<|fc (dV 4) fg)<|fe 9)<|rF af 5<|d2 af cC (dV 8)<|dN af maxD<|fc zg<|fc (d2 af bR (dV 9)<|dV 6) fg)<|fF<|dV 5)
def mI:List W->List Bx->O W:=aV 10<|aP Lg
def FU:aC:=(fu (gh<|fm K23.ia 4<|fc (dV 0)<|fc (dV 1)<|fc (dV 2)<|fc (dV 3) fg)<|fu (gh<|fm K23.j8 1<|fc (dV 4) fg)<|fu (fE (fm cD.gJ 2<|fc (dV 0)<|fc (dV 2) fg)<|fe 5)<|fu (fE (fm K23.ic 2<|fc (dV 5)<|fc (dV 3) fg)<|fe 6)<|fu (aH (kU (dB<|dG af<|dV 6)<|dB<|d2 af eZ (d2 af aq (dV 6) zg)<|dV 4) (fF<|dC .non) aL)<|fF<|fm K23.mI 5<|fc (dV 0)<|fc (dV 1)<|fc (dV 5)<|fc (dV 6)<|fc (dV 4) fg)
def jr:List W->List Bx->O W:=aV 7<|aP FU
def An:aC:=(fu (eY 5 6<|fc (d2 af aq (d2 af aq (d2 af aq (dV 0) zd)<|d2 af aq (dV 3) zo) zg)<|fc (d2 af aq (dV 3) zr) fg)<|fu (aH (dB<|d2 af cT (fm K23.jr 5<|fc (dV 0)<|fc (dV 1)<|fc (dV 2)<|fc (dV 6)<|fc (dV 4) fg)<|dV 5) (fF<|dC<|.bl af) aL)<|fF<|vR (d2 af aY (dV 4)<|d2 af aq (dV 3) zg)<|d2 af cT (fm K23.jr 5<|fc (dV 0)<|fc (dV 1)<|fc (dV 2)<|fc (dV 6)<|fc (d2 af bR (dV 4) zd) fg)<|dV 5)
def gK:List W->List Bx->O W:=aV 7<|aP An
def FV:aC:=(fF<|d2 af aq (d2 af aq (d2 af aq (dV 0) zd)<|d2 af aq (dV 1) zo) zg)
def jt:List W->List Bx->O W:=aV 2<|aP FV
def BI:aC:=(fu (fE (d2 af bR (fm K23.jt 2<|fc (dV 0)<|fc (dV 3) fg)<|d2 af aq (dV 3)<|dC<|.int 5)<|fe 4)<|fu (aH (dB<|d2 af dq (dV 4) zg) (fF<|d2 af aq (dV 3) zg) aL)<|fu (iN (bj<|fm K23.iY 4<|fc (dV 0)<|fc (dV 1)<|fc (dV 2)<|fc (dV 3) fg) (fL 3<|fq (fe 5)<|fq (fe 6)<|fq (fe 7) fO)<|aH (dB<|d2 af eZ (dV 7) zg) (fu (fE (d2 af fI (dV 5)<|d2 af kh (d2 af bR (d2 af fI (dV 4)<|dV 7) zd)<|dV 7)<|fe 8)<|fu (aH (kU (dB<|dG af<|dV 6)<|dB<|d2 af dq (dV 8)<|dV 6) (fF<|dV 8) aL)<|rF ah 4<|d2 af cC (dV 7)<|d2 af bR (dV 6)<|dV 5) aL)<|fF<|dC .non)
def jf:List W->List Bx->O W:=aV 9<|aP BI
def DN:aC:=(fu (gh<|fm K23.ia 4<|fc (dV 0)<|fc (dV 1)<|fc (dV 2)<|fc (dV 3) fg)<|fu (fE (fm cD.gJ 2<|fc (dV 0)<|fc (dV 2) fg)<|fe 4)<|fu (fE (fm K23.ic 2<|fc (dV 4)<|fc (dV 3) fg)<|fe 5)<|fu (aH (dB<|dG af<|dV 5) (fF<|dC .non) aL)<|fF<|fm K23.jf 4<|fc (dV 0)<|fc (dV 1)<|fc (dV 4)<|fc (dV 5) fg)
def iZ:List W->List Bx->O W:=aV 6<|aP DN
def M3:aC:=(fu (iN (c9<|fc (dN af maxD<|fc zd<|fc (dN af minD<|fc (ub<|dV 0)<|fc (dC<|.int 5) fg) fg) fg) (fe 1)<|fu (fE (fm K1.jV 1<|fc (fm K1.gY 2<|fc (dV 0)<|fc (dV 1) fg) fg)<|fe 2)<|fu (fE (fm aJ.iT 1<|fc (dV 2) fg)<|fe 3)<|fu (fE (fm aJ.iU 4<|fc (dV 2)<|fc (dV 3)<|fc (dC<|.int 14)<|fc (d2 af aq (gx af<|fc (dC<|.int 8)<|fc (dC<|.int 40) fg)<|fm K1.fr 2<|fc (dV 2)<|fc zr fg) fg)<|fe 4)<|fu (fE (fm K2.jW 3<|fc (dV 2)<|fc (fm K2.jn 2<|fc (dV 2)<|fc (d2 af aq (gx af<|fc (dC<|.int 9)<|fc (dC<|.int 25) fg)<|fm K1.fr 2<|fc (dV 2)<|fc zr fg) fg)<|fc (dV 4) fg)<|fL 3<|fq (fe 5)<|fq (fe 6)<|fq (fe 7) fO)<|fu (eY 8 9<|fc (fm aJ.jp 2<|fc (dV 3)<|fc (dV 6) fg)<|fc (qY<|fQ<|fc (dV 3)<|fc (dV 5)<|fc (dV 6) fg) fg)<|fu (fE (dN af EE<|fc (d2 af fI (d2 af fI (gx af<|fc (dV 7) fg)<|fK af [ag] (bj<|dV 6) (fe 0) fN<|d2 af aq (dV 0) zg)<|fK af [ag,ag] (bj<|dV 5) (fL 2<|fq (fe 0)<|fq (fe 1) fO) fN<|dV 1) fg)<|fe 10)<|fu (iN (c9<|fc (dC<|.int 10) fg) (fe 11)<|fu (fE (fm K23.iI 5<|fc (dV 3)<|fc (dV 5)<|fc (dV 8)<|fc (dV 11)<|fc (dV 10) fg)<|fe 12)<|fu (aH (dB<|d2 af eK (fK af [ag,ae 3,ae 5,ae 6,ae 11] (c9<|fc zr fg) (fe 0) fN<|qY<|fm K23.iZ 4<|fc (dV 1)<|fc (dV 2)<|fc (dV 3)<|fc (dV 4) fg)<|d2 af cC (gx af<|fc (qY<|dV 12) fg) zr) (fF<|dC<|.bl af) aL)<|aH (dB<|dG ah<|dV 12) (aH (eJ<|dB<|fm K23.gK 5<|fc (dV 3)<|fc (dV 5)<|fc (dV 6)<|fc (cj (bW (dV 8) "came")<|dV 11)<|fc (dV 12) fg) (fF<|dC<|.bl af) aL) aL)<|aH (dB<|d2 af eK (qY<|fQ<|fc (dV 3)<|fc (dV 5)<|fc (dV 6) fg)<|dV 9) (fF<|dC<|.bl af) aL)<|fF<|dC<|.bl ah)
def Cz:List W->List Bx->O W:=aV 13<|aP M3
end
end K23
namespace L2.DL
section
variable {β:Type}
@[simp] theorem fS {a:α}{k:α->List Bx->O β}:fB (.val a bx) k=k a bx:=rfl
@[simp] theorem Yv {k:α->List Bx->O β}:fB .bad k=.bad:=rfl
@[simp] theorem iq {a:α}{k:α->List Bx->OS}:bB (.val a bx) k=k a bx:=rfl
@[simp] theorem Yw {k:α->List Bx->OS}:bB (.bad:O α) k=.bad:=rfl
@[simp] theorem oH {a:α}{k:α->List Bx->O β}:bindB (.val a bx) k=k a bx:=rfl
end
@[simp] theorem oJ {i:Nat}:dV i env bx=match env[i]? with|some (ae w)=>.val w bx|_=>.bad:=rfl
@[simp] theorem Wv {d:D}:dC d env bx=.val (.d d) bx:=rfl
@[simp] theorem UO:fg env bx=.val [] bx:=rfl
@[simp] theorem GO {k:DE (List W)}:fc m k env bx=fB zz λw bx1=>fB (k env bx1) λl ay=>.val (w::l) ay:=rfl
@[simp] theorem Rb {k:DE (List W)}:fm fn n k env bx=fB (k env bx) λws bx1=>if ws.length=n then fn ws bx1 else .bad:=rfl
@[simp] theorem Yk:dB m env bx=fB zz λw bx1=>match w with|.d (.bl k)=>.val k bx1|_=>.bad:=rfl
@[simp] theorem M4 {m k:DE Bool}:nv m k env bx=fB zz λb bx1=>match b with|true=>k env bx1|false=>.val af bx1:=rfl
@[simp] theorem SN {m k:DE Bool}:kU m k env bx=fB zz λb bx1=>match b with|true=>.val ah bx1|false=>k env bx1:=rfl
@[simp] theorem UP {m:DE Bool}:eJ m env bx=fB zz λb bx1=>.val (!b) bx1:=rfl
@[simp] theorem Rc {k:DE W}:gz m k env bx=fB zz λw bx1=>match w with|.d (.bl ah)=>k env bx1|.d (.bl af)=>.val (.d<|.bl af) bx1|_=>.bad:=rfl
@[simp] theorem M5 {k:DE W}:vR m k env bx=fB zz λw bx1=>match w with|.d (.bl ah)=>.val (.d<|.bl ah) bx1|.d (.bl af)=>k env bx1|_=>.bad:=rfl
@[simp] theorem Yd:Ik m env bx=fB zz λw bx1=>match w with|.d (.bl k)=>.val (.d<|.bl<|!k) bx1|_=>.bad:=rfl
@[simp] theorem GP:fN env bx=.val ah bx:=rfl
@[simp] theorem Ye {n:String}:ly n m env bx=fB zz λw bx1=>match bV bx1 w with|some d=>.val (.d<|.bl<|uR (qT d) n) bx1|none=>.bad:=rfl
@[simp] theorem M6 {b:Bool}:d2 b g ma mb env bx=fB (ma env bx) λx bx1=>fB (mb env bx1) λy ay=>cq b ((bV ay x).bind λp=>(bV ay y).bind λq=>g p q) ay:=rfl
@[simp] theorem Lh {b:Bool}{g:List D->Option Res}{k:DE (List W)}:dN b g k env bx=fB (k env bx) λws bx1=>cq b ((eW bx1 ws).bind g) bx1:=rfl
@[simp] theorem Yx {g':D->D->Option Res}{mc:DE W}:d3 g g' ma mb mc env bx=fB (ma env bx) λx bx1=>fB (mb env bx1) λy ay=>
 fB (cq af ((bV ay x).bind λp=>(bV ay y).bind λq=>g p q) ay) λz bQ=>match z with
  |.d (.bl ah)=>fB (mc env bQ) λw cU=>cq af ((bV cU y).bind λp=>(bV cU w).bind λq=>g' p q) cU
  |.d (.bl af)=>.val (.d<|.bl af) bQ
  |_=>.bad:=rfl
@[simp] theorem A7 {d:D}:bV bx (.d d)=ae d:=rfl
@[simp] theorem M7:eW bx []=ae []:=rfl
@[simp] theorem M8 {d:D}{l:List W}:eW bx (.d d::l)=(eW bx l).map λt=>d::t:=by
 erw[eW];cases eW bx l<;>rfl
@[simp] theorem VU {b:Bool}:cq b ag bx=.bad:=rfl
@[simp] theorem jg {q:Res}:cq af (ae q) bx=.val (.d q.toD) bx:=by cases q<;>rfl
@[simp] theorem Yl {l:List D}:cq ah (ae<|.lst l) bx=.val (.b bx.length) (bx++[.lst l]):=rfl
@[simp] theorem GQ {d:D}:(Res.old d).toD=d:=rfl
@[simp] theorem Re {l:List D}:(Res.tup l).toD=.tup l:=rfl
@[simp] theorem mZ {l:List D}:(Res.lst l).toD=.lst l:=rfl
@[simp] theorem Yf {l:List (Key×D)}:(Res.aB l).toD=.aB l:=rfl
@[simp] theorem Ym:aL env bx=.nx env bx:=rfl
@[simp] theorem gQ {m k:aC}:fu m k env bx=match m env bx with|.nx env1 bx1=>k env1 bx1|o=>o:=rfl
@[simp] theorem Rf:gh m env bx=bB zz λ_ bx1=>.nx env bx1:=rfl
@[simp] theorem M9:fF m env bx=bB zz λw bx1=>.rt w bx1:=rfl
@[simp] theorem SO {t:DE Bool}{m k:aC}:aH t m k env bx=bB (t env bx) λb bx1=>match b with|true=>m env bx1|false=>k env bx1:=rfl
@[simp] theorem FW {g:DG}:fE m g env bx=bB zz λw bx1=>match g w env bx1 with|some (env1,ay)=>.nx env1 ay|none=>.bad:=rfl
@[simp] theorem UQ {m:DE (List W)}{g:DG}{body:aC}:iN m g body env bx=bB zz λds bx1=>bL g body ds env bx1:=rfl
@[simp] theorem DO {i:Nat}{w:W}:fe i w env bx=ae (env.set i<|ae w,bx):=rfl
@[simp] theorem Yg:fO [] env bx=ae (env,bx):=rfl
@[simp] theorem Ww {g:DG}{k:nV}{w:W}{l:List W}:fq g k (w::l) env bx=(g w env bx).bind λ(env1,bx1)=>k l env1 bx1:=rfl
@[simp] theorem Yh {k:nV}{l:List D}:fL n k (.d<|.tup l) env bx=if l.length=n then k (l.map W.d) env bx else ag:=rfl
@[simp] theorem CA {src:List (Option Nat)}{g:DG}:fK bo src mi g tf te env bx=fB (mi env bx) λds bx1=>fB (bG g tf te ds (eD src env) bx1 []) λl ay=>cq bo (ae<|.lst l) ay:=rfl
@[simp] theorem A8:eD [] env=[]:=rfl
@[simp] theorem Af {l:List (Option Nat)}:eD (ag::l) env=ag::eD l env:=rfl
@[simp] theorem Ag {i:Nat}{l:List (Option Nat)}:eD (ae i::l) env=((env[i]?).bind id)::eD l env:=rfl
@[simp] theorem GR:bj m env bx=fB zz λw bx1=>match w with|.d (.lst l)=>.val (l.map W.d) bx1|.d (.tup l)=>.val (l.map W.d) bx1|_=>.bad:=rfl
@[simp] theorem UR {k:DE (List W)}:fQ k env bx=fB (k env bx) λws bx1=>cq af ((nU ws).bind λl=>if l.length<=sizeLine then ae (.tup l) else ag) bx1:=rfl
@[simp] theorem Na {k:DE (List W)}:gx bo k env bx=fB (k env bx) λws bx1=>cq bo ((nU ws).bind λl=>if l.length<=sizeLine then ae (.lst l) else ag) bx1:=rfl
@[simp] theorem Wx:nU []=ae []:=rfl
@[simp] theorem US {d:D}{l:List W}:nU (.d d::l)=(nU l).map λt=>d::t:=rfl
@[simp] theorem UT:xH m env bx=fB zz λw bx1=>match w with|.d (.int i)=>.val (.d<|.int<|-i) bx1|_=>.bad:=rfl
@[simp] theorem Wy {l u:DE (Option Int)}:kY bo m l u env bx=fB zz λx bx1=>fB (l env bx1) λi ay=>fB (u env ay) λj bQ=>cq bo ((bV bQ x).bind λd=>sF d i j) bQ:=rfl
@[simp] theorem Yu:nz env bx=.val ag bx:=rfl
@[simp] theorem Rg:kX m env bx=fB zz λw bx1=>match w with|.d (.int i)=>.val (ae i) bx1|_=>.bad:=rfl
@[simp] theorem Yn:Ir bo m env bx=fB zz λx bx1=>cq bo ((bV bx1 x).bind λd=>match d with|.lst l=>ae (.lst l.reverse)|_=>ag) bx1:=rfl
theorem fT {m:aC}{ws:List W}{d:D}(h:m (ws.map ae++List.replicate (n-ws.length) ag) bx=.rt (.d d) bx):aV n (aP m) ws bx=.val (.d d) bx:=by
 simp[aV,aP,DL.envOf,h,nW,nX,Hi]
end L2.DL
namespace K1
open L2 L2.DL
noncomputable def wh:D->Bool
 |.int _=>ah
 |_=>af
noncomputable def wi (d:D) (lo hi:Int):Bool:=match d with
 |.int i=>decide (lo<=i)&&decide (i<=hi)
 |_=>af
noncomputable def tl (d:D) (lo hi:Int):Bool:=match d with
 |.tup l=>decide (lo<=(l.length:Int))&&decide ((l.length:Int)<=hi)
 |_=>af
theorem UU (d:D):uR (qT d) "int"=(match d with|.int _=>ah|.bl _=>ah|_=>af):=by cases d<;>rfl
theorem Rh (d:D):uR (qT d) "bool"=(match d with|.bl _=>ah|_=>af):=by cases d<;>rfl
theorem UV (d:D):uR (qT d) "tuple"=(match d with|.tup _=>ah|_=>af):=by cases d<;>rfl
theorem DP (d:D) (bx:List Bx):jm [.d d] bx=.val (.d<|.bl<|wh d) bx:=
 fT (by cases d<;>simp[AZ,UU,Rh,wh])
theorem oK (d:D) (lo hi:Int) (bx:List Bx):fY [.d d,.d<|.int lo,.d<|.int hi] bx=.val (.d<|.bl<|wi d lo hi) bx:=
 fT (by
  cases d<;>simp[Aa,DP,wh,wi,dq];ext i;by_cases h:lo<=i<;>simp[h])
theorem Nb (d:D) (lo hi:Int) (bx:List Bx):f9 [.d d,.d<|.int lo,.d<|.int hi] bx=.val (.d<|.bl<|tl d lo hi) bx:=
 fT (by
  cases d<;>simp[A0,UV,tl,dq,cM];ext l;by_cases h:lo<=(l.length)<;>simp[h])
theorem Ri {g:DG}(J:aQ->zt) (p:D->Bool) (f:D->D):∀ (l:List D) (env:aQ) (acc:List D),J env ->
 (∀ d∈l,∀ env,J env->∃ aO,g (.d d) env bx=ae (aO,bx) /\ J aO /\ tf aO bx=.val (p d) bx /\ (p d=ah->te aO bx=.val (.d<|f d) bx))->acc.length+l.length<=sizeLine ->
 bG g tf te (l.map W.d) env bx acc=.val (acc++(l.filter p).map f) bx:=by
 intro l_;induction l_ with
 |nil=>(intro env acc _ _ _;simp[bG])
 |cons d l az=>
   intro env acc j h n;let#[aO,e1,j',e2,e3]:=h d (bC ..) env j;have n':acc.length<sizeLine:=by simp[bD]at n;lia
   simp[aU,bG,e1,e2];have h':=λx (m)=>h x<|bu _ m;cases q:p d with
   |false=>
     simp[Hj,q];show az aO acc j' h' (by simp[bD]at n;lia)
   |true=>
     simp[Hj,q,e3 q,oH,if_pos n'];rw[az aO _ j' h' (by simp[cX,bD,p6]at n ⊢;lia)];simp
theorem A9 {g:DG}(J:aQ->zt) (f:D->D) {l:List D}(j:J env) (h:∀ d∈l,∀ env,J env->∃ aO,g (.d d) env bx=ae (aO,bx) /\ J aO /\ te aO bx=.val (.d<|f d) bx) (n:l.length<=sizeLine) :
 bG g fN te (l.map W.d) env bx []=.val (l.map f) bx:=by
 rw[Ri (tf:=fN) J _ f l env [] j (λd m e je=>let ⟨e',a,b,c⟩:=h d m e je;#[e',a,b,rfl,λ_=>c]) (by simpa using n)];rw[List.filter_eq_self.mpr λ_ _=>rfl];rfl
theorem Nc (l:List D) (p:D->Bool):pN (l.map λd=>D.bl<|p d)=ae (l.map p):=by
 induction l with
 |nil=>rfl
 |cons d l ih=>simp[pN,ih]
@[simp] theorem all_map (l:List D) (p:D->Bool):dj [.lst<|l.map λd=>D.bl<|p d]=ae (.old<|.bl<|l.all p):=by
 simp[dj,Nc]
def rooms (d:D):Bool:=match d with
 |.tup l=>tl (.tup l) 1 5&&l.all λx=>wi x 0 3
 |_=>af
theorem adR:(5:Nat)<=sizeLine:=by decide
theorem oM {l:List D}{lo hi:Int}(h:tl (.tup l) lo hi=ah):lo<=(l.length:Int) /\ (l.length:Int)<=hi:=by simpa[tl] using h
noncomputable def wo:List D->Bool
 |x::y::l=>(match x,y with|.int i,.int j=>decide (j<=i)|_,_=>af)&&wo (y::l)
 |_=>ah
def yd (d:D):Bool:=match d with
 |.tup l=>tl (.tup l) 4 4&&(l.all (λx=>wi x 0 9)&&wo l)
 |_=>af
theorem adS {l:List D}(h:tl (.tup l) 2 2=ah):∃ a b,l=[a,b]:=by
 have n:=oM h;obtain⟨a,l,rfl⟩:∃ a t,l=a::t:=wZ za;obtain⟨b,l,rfl⟩:∃ a t,l=a::t:=wZ (by simp at n;lia);have:l.length=0:=by simp at n;lia
 show#[a,b,by rw[wX this]]
theorem aiD {l:List D}(h:tl (.tup l) 4 4=ah):∃ a b c e,l=[a,b,c,e]:=by
 have n:=oM h;obtain⟨a,l,rfl⟩:∃ a t,l=a::t:=wZ za;obtain⟨b,l,rfl⟩:∃ a t,l=a::t:=wZ (by simp at n;lia);obtain⟨c,l,rfl⟩:∃ a t,l=a::t:=wZ (by simp at n;lia);obtain⟨e,l,rfl⟩:∃ a t,l=a::t:=wZ (by simp at n;lia);have:l.length=0:=by simp at n;lia
 show#[a,b,c,e,by rw[wX this]]
theorem mJ {x:D}{lo hi:Int}(h:wi x lo hi=ah):∃ i,x=.int i /\ lo<=i /\ i<=hi:=by
 cases x<;>simp[wi]at h;show#[_,rfl,h]
def kind (d:D):Bool:=match d with
 |.tup l=>tl (.tup l) 2 2&&(match l with|[a,b]=>wi a 1 999&&yd b|_=>af)
 |_=>af
def kinds (d:D):Bool:=match d with
 |.tup l=>tl (.tup l) 1 4&&l.all kind
 |_=>af
def sU (n:Int) (d:D):Bool:=match d with
 |.tup l=>tl (.tup l) 2 2&&(match l with|[.int a,.int b]=>decide (0<=a)&&decide (a<b)&&decide (b<=n-1)|_=>af)
 |_=>af
noncomputable abbrev dP (p:Int×Int):D:=.tup [.int p.1,.int p.2]
abbrev xP (l:List<|Int×Int):Option W:=ae<|.d<|.lst<|l.map dP
def pQ (p q:Int×Int):Bool:=HT.lexLt [p.1,p.2] [q.1,q.2]
noncomputable def rP (p:Int×Int):List HT.aT:=[.i p.1,.i p.2]
theorem Wz (p q:Int×Int):HT.cH (rP p) (rP q)=pQ p q:=by simp[rP,pQ,HT.cH,HT.lexLt,HT.aT.lt]
theorem WA (p q:Int×Int):cT (dP p) (dP q)=ae (.old<|.bl<|pQ p q):=by
 rw[<-Wz];change (if HT.hG (rP p) (rP q)=ah then ae _ else ag)=_;show if_pos zc
theorem Nd {n:Int}{d:D}(h:sU n d=ah):∃ p:Int×Int,d=dP p /\ 0<=p.1 /\ p.1<p.2 /\ p.2<=n-1:=by
 cases d with
 |tup l=>
   simp[sU,aI]at h;let#[a,b,rfl]:=adS h.1;have h2:=h.2;cases a<;>cases b<;>simp at h2;show#[(_,_),rfl,h2.1.1,h2.1.2,h2.2]
 |_=>simp[sU]at h
theorem Nf {n:Int}:∀ {l:List D},l.all (sU n)=ah->∃ ps:List (Int×Int),l=ps.map dP /\ ∀ p∈ps,0<=p.1 /\ p.1<p.2 /\ p.2<=n-1:=by
 intro l_;induction l_ with
 |nil=>show λ_=>#[[],rfl,λp m=>by cases m]
 |cons d l az=>
   intro h;erw[tu,aI]at h;let#[p,rfl,hp]:=Nd h.1;let#[ps,rfl,hs]:=az h.2;show#[p::ps,rfl,λq m=>by
    rcases bq.mp m with rfl|m
    .show hp
    .show hs q m]
def uo:List (Int×Int)->Bool
 |p::q::r=>pQ p q&&uo (q::r)
 |_=>ah
theorem Ba:∀ ps:List (Int×Int),uo ps=(List.range<|ps.length-1).all λi=>pQ (ps.getD i (0,0)) (ps.getD (i+1) (0,0))
 |[]=>rfl
 |[p]=>rfl
 | p::q::r=>by
   rw[uo,Ba _];simp[bD,aaP];rw[aa7,tu,vk];rfl
theorem GS {i:Nat}(h:i<ps.length):bF (ps.map dP) (i:Int)=ae (dP<|ps.getD i (0,0)):=by
 unfold bF cy;simp[h]
theorem CB {k:DE (List W)}{i j:Int}(e:k env bx=.val [.d<|.int i,.d<|.int j] bx1):qQ k env bx=.val (fM i (j-i).toNat) bx1:=by
 unfold qQ;rw[e,fS]
theorem lJ {k:DE (List W)}{j:Int}(e:k env bx=.val [.d<|.int j] bx1) (h:-(2 ^ 62)<=j /\ j<2 ^ 62):c9 k env bx=.val (fM 0 j.toNat) bx1:=by
 unfold c9;rw[e,fS];show if_pos h
theorem Rj (lo:Int) (n:Nat):fM lo n=((List.range n).map λ(i:Nat)=>D.int<|lo+(i:Int)).map W.d:=by
 rw[bJ];rfl
theorem Li (ps:List<|Int×Int) (n:ps.length<=sizeLine) (bx:List Bx):gX [.d<|.tup<|ps.map dP] bx=.val (.d<|.bl<|uo ps) bx:=
 fT (by
  have s2:sizeLine=16777216:=bp;have r:qQ (fc zd<|fc (dN af cM<|fc (dV 0) fg) fg) [ae<|.d<|.tup<|ps.map dP] bx=.val (fM 1 (((ps.length):Int)-1).toNat) bx:=CB (by simp[cM]);erw[Ab,M9,Lh,GO,CA,aU,aa8,bD,p6,sZ,List.replicate_zero,uC,r,fS,Rj,Af,Ag,A8,aa9,bY,id];rw[A9 (λe=>∃ w,e=[w,ae _]) _ #[ag,rfl] ?_ (by rw[a5,wU];lia)]
  .erw[fS,UO,jg,mZ,M8,M7,rV,bY];rw[all_map,jg,GQ,iq,vk,show ((ps.length:Int)-1).toNat=ps.length-1 by lia];have z:((λx:D=>match x with|.int i=>pQ (ps.getD (i.toNat-1) (0,0)) (ps.getD i.toNat (0,0))|_=>af)∘λ(i:Nat)=>D.int<|1+(i:Int))=λi=>pQ (ps.getD i (0,0)) (ps.getD (i+1) (0,0)):=by
    funext i;change pQ (ps.getD ((1+(i:Int)).toNat-1) (0,0)) (ps.getD (1+(i:Int)).toNat (0,0))=_;rw[show (1+(i:Int)).toNat=i+1 by lia,aaP]
   rw[z,<-Ba]
  .intro x m e ⟨w,je⟩;let#[i,mi,rfl]:=bA.mp m;have hi:i<((ps.length:Int)-1).toNat:=List.mem_range.mp mi;refine#[[xN<|1+(i:Int),ae<|.d<|.tup<|ps.map dP],by simp[je],#[_,rfl],?_];have a2:=GS (ps:=ps) (i:=i+1) za;rw[show ((i+1:Nat):Int)=1+(i:Int) by lia]at a2;erw[M6,oJ,Wv,aa9,List.getElem?_cons_succ,fS,A7,bY,aq,bR,jg,GQ,show 1+(i:Int)-1=(i:Int) by lia,(GS (ps:=ps) (i:=i) (by lia)),a2,rV,WA];rw[show (1+(i:Int)).toNat=i+1 by lia];rfl)
noncomputable def Zg:D->Option (Int×Int)
 |.tup [.int a,.int b]=>ae (a,b)
 |_=>ag
theorem GT (ps:List<|Int×Int):(ps.map dP).filterMap Zg=ps:=by
 induction ps with
 |nil=>rfl
 |cons p ps ih=>rw[aU,qB,ih];rfl
def apart (n:Int) (d:D):Bool:=match d with
 |.tup l=>l.all (sU n)&&uo (l.filterMap Zg)
 |_=>af
noncomputable def lenOf:D->Int
 |.tup l=>l.length
 |_=>0
def house (d:D):Bool:=match d with
 |.tup [r,k,p,h]=>rooms r&&(kinds k&&(apart (lenOf k) p&&wi h 1 9))
 |_=>af
end K1
namespace L2.DL
noncomputable def adT:Key->Nat
 |.inl _=>1921
 |.inr x=>(reprText x).length
mutual
noncomputable def wt:D->Nat
 |.non=>4
 |.bl _=>5
 |.int _=>1921
 |.str x=>(reprText x).length
 |.tup l=>3+u5 l
 |.lst l=>3+u5 l
 |.aB l=>3+EF l
noncomputable def u5:List D->Nat
 |[]=>0
 |d::l=>wt d+2+u5 l
noncomputable def EF:List (Key×D)->Nat
 |[]=>0
 |(k,d)::l=>adT k+wt d+4+EF l
end
theorem GU (ts:List Str):(Str.join ", " ts).length<=piled ts:=by
 by_cases h:ts=[]
 .subst h;show aE _
 .have:=join_length_add ts h;lia
theorem CC (ts:List Str):(tupleText ts).length<=3+piled ts:=by
 unfold tupleText;have h:=GU ts;have e1:(("("):Str).length=1:=rfl;have e2:((",)"):Str).length=2:=rfl;have e3:((")"):Str).length=1:=rfl;rw[pC,pC];split<;>lia
theorem DQ:∀ (ts:List Str) (k:Nat) (acc:Str),(textFrom k acc ts).length<=acc.length+piled ts:=by
 intro l_;induction l_ with
 |nil=>(intro k acc;change acc.length<=_;lia)
 |cons t r az=>
   intro k acc;have h:=az (k+1)<|acc++(if k>0 then ", " else "")++t;have e1:((", "):Str).length=2:=rfl;have e2:((""):Str).length=0:=rfl;rw[pC,pC]at h;rw[QO];change (textFrom _ _ r).length<=_;split at h<;>ext hk<;>simp[hk,if_true,if_false]at h ⊢<;>lia
theorem DR (ts:List Str):(listText ts).length<=3+piled ts:=by
 unfold listText;have h:=DQ ts 0 "[";have e1:(("["):Str).length=1:=rfl;have e2:(("]"):Str).length=1:=rfl;rw[pC];lia
theorem DS (ts:List Str):(dictText ts).length<=3+piled ts:=by
 unfold dictText;have h:=GU ts;have e1:(("{"):Str).length=1:=rfl;have e2:(("}"):Str).length=1:=rfl;rw[pC,pC];lia
theorem DT {i:Int}(h:i.natAbs.log2<1920):(Str.ofString<|toString i).length<=1921:=by
 have:=int_text_length_le ze h;rw[PySem.ofString_length];show this
mutual
theorem Bb:∀ (d:D),(toPy d).showable=ah->(toPy d).shown.length<=wt d
 |.non,_=>by erw[toPy,PyData.shown,wt];decide
 |.bl b,_=>by cases b<;>erw[toPy,PyData.shown,wt]<;>decide
 | .int i,h=>by
   erw[toPy,PyData.shown,wt];show DT (by simpa[toPy,PyData.showable] using h)
 |.str x,_=>by erw[toPy,PyData.shown,wt];show aE _
 | .tup l,h=>by
   erw[toPy,PyData.shown,wt];have:=oN l (by simpa[toPy,PyData.showable] using h);have:=CC<|PyData.shownAll<|bI l;lia
 | .lst l,h=>by
   erw[toPy,PyData.shown,wt];have:=oN l (by simpa[toPy,PyData.showable] using h);have:=DR<|PyData.shownAll<|bI l;lia
 | .aB l,h=>by
   erw[toPy,PyData.shown,wt];have:=DU l (by simpa[toPy,PyData.showable] using h);have:=DS<|PyData.shownKv<|bZ l;lia
theorem oN:∀ (l:List D),PyData.showableAll (bI l)=ah->piled (PyData.shownAll<|bI l)<=u5 l
 |[],_=>by erw[bI,PyData.shownAll,u5];show aE _
 | d::l,h=>by
   erw[bI,PyData.showableAll,aI]at h;have h1:=Bb d h.1;have h2:=oN l h.2;erw[bI,PyData.shownAll,u5,QO];lia
theorem DU:∀ (l:List<|Key×D),PyData.showableKv (bZ l)=ah->piled (PyData.shownKv<|bZ l)<=EF l
 |[],_=>by erw[bZ,PyData.shownKv,EF];show aE _
 | (k,d)::l,h=>by
   erw[bZ,PyData.showableKv,aI]at h;have h1:=Bb d h.1.2;have h2:=DU l h.2;have e1:((": ":String):Str).length=2:=rfl;have hk:(PyData.shown<|dn k).length<=adT k:=by
    cases k with
    |inl i=>show DT (by simpa[dn,PyData.showable] using h.1.1)
    |inr x=>show aE _
   erw[bZ,PyData.shownKv,EF,QO];rw[pC,pC];lia
end
mutual
noncomputable def ib (B:Nat):D->Bool
 |.int i=>decide (i.natAbs<=B)
 |.tup l=>wq B l
 |.lst l=>wq B l
 |.aB l=>Ka B l
 |_=>ah
noncomputable def wq (B:Nat):List D->Bool
 |[]=>ah
 |d::l=>ib B d&&wq B l
noncomputable def Ka (B:Nat):List (Key×D)->Bool
 |[]=>ah
 |(k,d)::l=>(match k with|.inl i=>decide (i.natAbs<=B)|_=>ah)&&ib B d&&Ka B l
end
theorem Ng {B:Nat}(hB:B<2 ^ 1900) {i:Int}(h:i.natAbs<=B):i.natAbs.log2<1920:=by
 by_cases h0:i.natAbs=0
 .rw[h0];decide
 .show(Nat.log2_lt h0).mpr (eT (yA h hB)<|Nat.pow_le_pow_right ze ze)
mutual
theorem CD {B:Nat}(hB:B<2 ^ 1900):∀ (d:D),ib B d=ah->(toPy d).showable=ah
 |.non,_=>by simp[toPy,PyData.showable]
 |.bl b,_=>by simp[toPy,PyData.showable]
 | .int i,h=>by
   erw[toPy,PyData.showable,decide_eq_true_eq];show Ng hB (by simpa[ib] using h)
 |.str x,_=>by simp[toPy,PyData.showable]
 | .tup l,h=>by
   erw[toPy,PyData.showable];show Bc hB l (by simpa[ib] using h)
 | .lst l,h=>by
   erw[toPy,PyData.showable];show Bc hB l (by simpa[ib] using h)
 | .aB l,h=>by
   erw[toPy,PyData.showable];show DV hB l (by simpa[ib] using h)
theorem Bc {B:Nat}(hB:B<2 ^ 1900):∀ (l:List D),wq B l=ah->PyData.showableAll (bI l)=ah
 |[],_=>by simp[bI,PyData.showableAll]
 | d::l,h=>by
   erw[wq,aI]at h;erw[bI,PyData.showableAll,CD hB d h.1,Bc hB l h.2,Hc]
theorem DV {B:Nat}(hB:B<2 ^ 1900):∀ (l:List<|Key×D),Ka B l=ah->PyData.showableKv (bZ l)=ah
 |[],_=>by simp[bZ,PyData.showableKv]
 | (k,d)::l,h=>by
   erw[Ka,aI]at h;have hk:(dn k).showable=ah:=by
    cases k with
    |inl i=>
      erw[dn,PyData.showable,decide_eq_true_eq];show Ng hB (by simpa using h.1.1)
    |inr x=>simp[dn,PyData.showable]
   erw[bZ,PyData.showableKv,hk,CD hB d h.1.2,DV hB l h.2,Hc]
end
structure Sm (B a b:Nat) (d:D):zt where
 s:ib B d=ah
 e:(toPy d).depth<=a
 w:wt d<=b
structure ba (B a b:Nat) (l:List D):zt where
 s:wq B l=ah
 e:PyData.depthAll (bI l)<=a
 w:u5 l<=b
theorem mK {B a b:Nat}{d:D}(h:Sm B a b d) (hB:B<2 ^ 1900) (ha:a<=60) (hb:b<=sizeLine):vV d=ah:=by
 have hs:=CD hB d h.s;have:=Bb d hs;have h1:=h.e;have h2:=h.w;unfold vV;rw[hs,decide_eq_true za,decide_eq_true za];rfl
theorem Sm.mono {B a b a' b':Nat}{d:D}(h:Sm B a b d) (ha:a<=a') (hb:b<=b'):Sm B a' b' d:=#[h.s,cx h.e ha,cx h.w hb]
theorem ba.mono {B a b a' b':Nat}{l:List D}(h:ba B a b l) (ha:a<=a') (hb:b<=b'):ba B a' b' l:=#[h.s,cx h.e ha,cx h.w hb]
theorem ba.nil {B a:Nat}:ba B a 0 []:=#[rfl,by simp[bI,PyData.depthAll],aE _]
theorem ba.cons {B a b c:Nat}{d:D}{l:List D}(h:Sm B a b d) (t:ba B a c l):ba B a (b+2+c) (d::l):=
 #[by simp[wq,h.s,t.s],Nat.max_le.mpr #[h.e,t.e],by simp[u5];have:=h.w;have:=t.w;lia]
theorem Sm.tup {B a b:Nat}{l:List D}(h:ba B a b l):Sm B (a+1) (3+b) (.tup l):=
 #[by simp[ib,h.s],by simp[toPy,PyData.depth];have:=h.e;lia,by simp[wt];have:=h.w;lia]
theorem Sm.lst {B a b:Nat}{l:List D}(h:ba B a b l):Sm B (a+1) (3+b) (.lst l):=
 #[by simp[ib,h.s],by simp[toPy,PyData.depth];have:=h.e;lia,by simp[wt];have:=h.w;lia]
theorem Sm.int {B a:Nat}{i:Int}(h:i.natAbs<=B):Sm B a 1921 (.int i):=
 #[by simp[ib,h],by simp[toPy,PyData.depth],aE _]
theorem Sm.str {B a:Nat}{x:Str}:Sm B a (reprText x).length (.str x):=
 #[rfl,by simp[toPy,PyData.depth],aE _]
theorem Sm.non {B a:Nat}:Sm B a 4 .non:=#[rfl,by simp[toPy,PyData.depth],aE _]
theorem ba.of {B a b:Nat}:∀ {l:List D},(∀ d∈l,Sm B a b d)->ba B a (l.length*(b+2)) l:=by
 intro l_;induction l_ with
 |nil=>(intro _;simpa using ba.nil)
 |cons d l az=>
   intro h;show(ba.cons (h d<|bC ..)<|az λx m=>h x<|bu _ m).mono (aE _) (by rw[bD,aaM];lia)
section
variable {env1 bw:aQ} {ay bQ:List Bx} {k:DE W} {ks:DE (List W)} {w u:W} {l:List W}
theorem fj (h1:m env bx=.val w bx1) (h2:ks env bx1=.val l ay):fc m ks env bx=.val (w::l) ay:=by rw[GO,h1,fS,h2,fS]
theorem Rm:∀ {ds:List D},eW bx (ds.map W.d)=ae ds:=by
 intro l_;induction l_ with
 |nil=>show rfl
 |cons d ds az=>(rw[aU,M8,az];rfl)
theorem CF:∀ {ds:List D},nU (ds.map W.d)=ae ds:=by
 intro l_;induction l_ with
 |nil=>show rfl
 |cons d ds az=>(rw[aU,US,az];rfl)
theorem iQ {g:List D->Option Res}{r:Res}(ds:List D) (h:ks env bx=.val (ds.map W.d) bx1) (hg:g ds=ae r):dN af g ks env bx=.val (.d r.toD) bx1:=by rw[Lh,h,fS,Rm,bY,hg,jg]
theorem gj (ds:List D) (h:ks env bx=.val (ds.map W.d) bx1) (hl:ds.length<=sizeLine):fQ ks env bx=.val (.d<|.tup ds) bx1:=by rw[UR,h,fS,CF,bY,if_pos hl,jg,Re]
theorem j9 (ds:List D) (h:ks env bx=.val (ds.map W.d) bx1) (hl:ds.length<=sizeLine):gx af ks env bx=.val (.d<|.lst ds) bx1:=by rw[Na,h,fS,CF,bY,if_pos hl,jg,mZ]
theorem oO (ds:List D) (h:ks env bx=.val (ds.map W.d) bx1) (hl:ds.length<=sizeLine):gx ah ks env bx=.val (.b bx1.length) (bx1++[.lst ds]):=by rw[Na,h,fS,CF,bY,if_pos hl];rfl
theorem fw {r:Res}{x y:D}(h1:m env bx=.val (.d x) bx1) (h2:k env bx1=.val (.d y) ay) (hg:g x y=ae r):d2 af g m k env bx=.val (.d r.toD) ay:=by rw[M6,h1,fS,h2,fS,A7,A7,bY,bY,hg,jg]
theorem fJ (h:ks env bx=.val l bx1) (hn:l.length=n) (hf:fn l bx1=.val w ay):fm fn n ks env bx=.val w ay:=by rw[Rb,h,fS,if_pos hn,hf]
theorem fV {b:Bool}(h:m env bx=.val (.d<|.bl b) bx1):dB m env bx=.val b bx1:=by rw[Yk,h,fS]
theorem iC {t:DE Bool}{b:Bool}(h:t env bx=.val b bx1):eJ t env bx=.val (!b) bx1:=by rw[UP,h,fS]
theorem SQ {t s:DE Bool}(h:t env bx=.val ah bx1):kU t s env bx=.val ah bx1:=by rw[SN,h,fS]
theorem lK {t s:DE Bool}{b:Bool}(h:t env bx=.val af bx1) (h2:s env bx1=.val b ay):kU t s env bx=.val b ay:=by rw[SN,h,fS,h2]
theorem oP {t s:DE Bool}(h:t env bx=.val af bx1):nv t s env bx=.val af bx1:=by rw[M4,h,fS]
theorem oQ {t s:DE Bool}{b:Bool}(h:t env bx=.val ah bx1) (h2:s env bx1=.val b ay):nv t s env bx=.val b ay:=by rw[M4,h,fS,h2]
theorem CG {b:Bool}(h:m env bx=.val (.d<|.bl b) bx1):gz m k env bx=if b then k env bx1 else .val (.d<|.bl af) bx1:=by rw[Rc,h];cases b<;>rfl
theorem gn {src:List (Option Nat)}{g:DG}{ds:List D}{e2:aQ}(h1:mi env bx=.val l bx1) (he:eD src env=e2) (h2:bG g tf te l e2 bx1 []=.val ds ay):fK af src mi g tf te env bx=.val (.d<|.lst ds) ay:=by
 subst he;rw[CA,h1,fS,h2,fS,jg,mZ]
theorem SR {x:D}{r:Res}{lo hi:DE (Option Int)}{i j:Option Int}(h1:m env bx=.val (.d x) bx1) (h2:lo env bx1=.val i ay) (h3:hi env ay=.val j bQ) (hs:sF x i j=ae r):kY af m lo hi env bx=.val (.d r.toD) bQ:=by
 rw[Wy,h1,fS,h2,fS,h3,fS,A7,bY,hs,jg]
theorem Rn {i:Int}(h:m env bx=.val (.d<|.int i) bx1):kX m env bx=.val (ae i) bx1:=by rw[Rg,h,fS]
theorem gp {ds:List D}(h:m env bx=.val (.d<|.lst ds) bx1):bj m env bx=.val (ds.map W.d) bx1:=by rw[GR,h,fS]
theorem gM {ds:List D}(h:m env bx=.val (.d<|.tup ds) bx1):bj m env bx=.val (ds.map W.d) bx1:=by rw[GR,h,fS]
theorem UW {i:Int}(h:m env bx=.val (.d<|.int i) bx1):xH m env bx=.val (.d<|.int<|-i) bx1:=by rw[UT,h,fS]
theorem CH {d:D}(h:m env bx=.val (.d d) bx1) (c:vV d=ah):qY m env bx=.val (.d<|.str (toPy d).shown) bx1:=by
 unfold qY;rw[h,fS];show if_pos c
theorem fv {a b:aC}(h:a env bx=.nx env1 bx1):fu a b env bx=b env1 bx1:=by rw[gQ,h]
theorem gF {a b:aC}(h:a env bx=.rt w bx1):fu a b env bx=.rt w bx1:=by rw[gQ,h]
theorem gk {i:Nat}(h:m env bx=.val w bx1):fE m (fe i) env bx=.nx (env.set i<|ae w) bx1:=by rw[FW,h,iq,DO]
theorem fU (h:m env bx=.val w bx1):fF m env bx=.rt w bx1:=by rw[M9,h,iq]
theorem ig (h:m env bx=.val w bx1):gh m env bx=.nx env bx1:=by rw[Rf,h,iq]
theorem ij {t:DE Bool}{a b:aC}(h:t env bx=.val ah bx1):aH t a b env bx=a env bx1:=by rw[SO,h,iq]
theorem gu {t:DE Bool}{a b:aC}(h:t env bx=.val af bx1):aH t a b env bx=b env bx1:=by rw[SO,h,iq]
theorem im {g:DG}{body:aC}(h:mi env bx=.val l bx1):iN mi g body env bx=bL g body l env bx1:=by rw[UQ,h,iq]
theorem gR {g:DG}{body:aC}(h1:g w env bx=ae (env1,bx1)) (h2:body env1 bx1=.nx bw ay):bL g body (w::l) env bx=bL g body l bw ay:=by
 rw[bL,h1];simp[h2]
theorem Be {g:DG}{body:aC}(h1:g w env bx=ae (env1,bx1)) (h2:body env1 bx1=.rt u ay):bL g body (w::l) env bx=.rt u ay:=by
 rw[bL,h1];simp[h2]
theorem m7 {g:DG}{body:aC}(I:Nat->aQ->List Bx->zt):∀ (l:List W) (k:Nat) (env:aQ) (bx:List Bx),I k env bx ->
 (∀ i w env bx,l[i]?=ae w->I (k+i) env bx->∃ env1 bx1 bw ay,g w env bx=ae (env1,bx1) /\ body env1 bx1=.nx bw ay /\ I (k+i+1) bw ay) ->
 ∃ aO bx',bL g body l env bx=.nx aO bx' /\ I (k+l.length) aO bx':=by
 intro l;induction l with
 |nil=>intro k env bx h _;show#[env,bx,rfl,h]
 |cons w l ih=>
   intro k env bx h st;let#[env1,bx1,bw,ay,e1,e2,h2]:=st 0 w env bx zc h;let#[aO,bx',e3,h3]:=ih _ bw ay h2 λi x env bx e hi=>by
    have:=st (i+1) x env bx (by simpa using e) (by rw[show k+(i+1)=k+1+i by lia];show hi);rw[show k+(i+1)+1=k+1+i+1 by lia]at this;show this
   show#[aO,bx',by rw[gR e1 e2,e3],by rw[bD,show k+(l.length+1)=k+1+l.length by lia];show h3]
section
variable {b c:aC} {o:OS} {i:Nat} {t:DE Bool} {g:DG} 
theorem qS (h:m env bx=.val w bx1) (k:b (env.set i<|ae w) bx1=o):fu (fE m<|fe i) b env bx=o:=(fv<|gk h).trans k
theorem qG (h:m env bx=.val w bx1) (hg:g w env bx1=ae (bw,ay)) (k:b bw ay=o):fu (fE m g) b env bx=o:=by
 rw[gQ,FW,h,iq,hg];show k
theorem qF (h:t env bx=.val af bx1) (k:b env bx1=o):fu (aH t c aL) b env bx=o:=(fv<|(gu h)).trans k
theorem qR (h:t env bx=.val ah bx1) (k:m env bx1=.val w ay):fu (aH t (fF m) aL) b env bx=.rt w ay:=gF<|(ij h).trans<|fU k
theorem qE (h:m env bx=.val w bx1) (k:b env bx1=o):fu (gh m) b env bx=o:=(fv<|ig h).trans k
theorem cV (hf:fn l bx1=.val w ay) (h:ks env bx=.val l bx1:=by rfl) (hn:l.length=n:=by rfl):fm fn n ks env bx=.val w ay:=fJ h hn hf
end
end
theorem uq {e:α->D}{g:DG}{E:α->aQ}{J:aQ->zt}(p:α->Bool) (f:α->D) (hJ:∀ a,J<|E a):∀ (l:List α) (env:aQ) (acc:List D),acc.length+l.length<=sizeLine->J env ->
 (∀ a∈l,∀ env,J env->g (.d<|e a) env B=ae (E a,B))->(∀ a∈l,tf (E a) B=.val (p a) B /\ (p a=ah->te (E a) B=.val (.d<|f a) B))->bG g tf te ((l.map e).map W.d) env B acc=.val (acc++(l.filter p).map f) B:=by
 intro l_;induction l_ with
 |nil=>(intro _ _ _ _ _ _;simp[bG])
 |cons a l az=>
   intro env acc n j hg h;let#[h1,h2]:=h a<|bC ..;rw[bD]at n;have n':acc.length<sizeLine:=by lia
   have e0:=hg a (bC ..) env j;cases c:p a with
   |false=>
     rw[c]at h1;rw[tF (by simp[c]),<-(az _ acc za (hJ a) (λx m=>hg x<|bu _ m) λx m=>h x<|bu _ m)];simp[aU,bG,e0,h1,oH]
   |true=>
     rw[c]at h1;rw[tH c];erw[aU,bG,e0,h1,h2 c,oH,if_pos n',(az _ (acc++[f a]) zh (hJ a) (λx m=>hg x<|bu _ m) λx m=>h x<|bu _ m)];simp
end L2.DL
namespace aJ
open L2 L2.DL K1
open HT (aT br hG cH lexLt)
inductive Pg where
 |aF (h l k r p w:Int)|to (h l r:Int)|out (h l:Int)
noncomputable def cJ:Pg->List aT
 |.aF h l k r p w=>[.i h,.s "in",.i l,.i k,.i r,.i p,.i w]
 |.to h l r=>[.i h,.s "to",.i l,.i r]
 |.out h l=>[.i h,.s "out",.i l]
def enc (g:Pg):D:=eF<|cJ g
theorem CI (g:Pg):rowOf (enc g)=ae (cJ g):=by cases g<;>rfl
theorem Nh:∀ gs:List Pg,rowsOf (gs.map enc)=ae (gs.map cJ):=by
 intro l_;induction l_ with
 |nil=>show rfl
 |cons g gs az=>(simp[rowsOf,CI,az])
theorem GV {a b:Pg}(h:cJ a=cJ b):a=b:=by
 cases a<;>cases b<;>simp[cJ]at h<;>simp_all
theorem Ro {a b:Pg}(h:enc a=enc b):a=b:=by
 have:=CI a;rw[h,CI]at this;show(GV<|Option.some.inj this).symm
theorem Au (a b:Pg):hG (cJ a) (cJ b)=ah:=by cases a<;>cases b<;>rfl
theorem DW (gs:List Pg):v7 (gs.map cJ)=ah:=by
 erw[v7,cZ,bA];rintro _ ⟨a,_,rfl⟩ _ ⟨b,_,rfl⟩;show Au a b
theorem Ni {g:Pg}{gs:List Pg}(h:(g::gs).length<64):dX [.lst<|(g::gs).map enc]=ae (.lst<|(sM<|(g::gs).map cJ).map eF):=by
 have e:uS [.lst<|(g::gs).map enc]=ag:=by cases g<;>rfl
 unfold dX;rw[e];erw[Nh,bY,DW,a5,and_true,if_pos h]
abbrev EG (gs:List Pg):zt:=gs.Pairwise λa b=>cH (cJ a) (cJ b)=ah
theorem UX {gs:List Pg}(nd:gs.Nodup) (h:(gs.map cJ).Pairwise λa b=>lexLt (br b) (br a)=af):EG gs:=by
 rw[tJ]at h;refine List.Pairwise.imp₂ (λ{a b} (x) (y)=>?_) h nd;rw[<-HT.Cs _ _ (Au a b)];cases e:lexLt _ (br _) with
 |true=>rfl
 |false=>show absurd (GV<|AS (Au a b)<|HT.jb _ _ e x) y
theorem GW {gs:List Pg}(nd:gs.Nodup) (h:gs.length<64):∃ qs:List Pg,qs.Perm gs /\ EG qs /\ ∀ g2:List Pg,g2.Perm gs->dX [.lst<|g2.map enc]=ae (.lst<|qs.map enc):=by
 let#[qs,e,p]:=AT (iL _) zc;refine#[qs,p,UX (p.nodup_iff.mpr nd) (by rw[<-e];show iG _),λg2 p2=>?_];cases g2 with
 |nil=>
   have z:=p2.length_eq;have:gs=[]:=by cases gs with|nil=>rfl|cons=>simp at z
   subst this;have:qs=[]:=by have:=p.length_eq;cases qs with|nil=>rfl|cons=>simp at this
   subst this;simp[dX,uS,intsOf,sortI]
 |cons g g2=>
   rw[Ni (by rw[p2.length_eq];show h)];have:=o8 (DW gs) ((iL _).trans<|p2.map cJ)<|iG _;rw[this,e,bJ];rfl
theorem UY (a b:Pg):cT (enc a) (enc b)=ae (.old<|.bl<|cH (cJ a)<|cJ b):=by
 have:∀ g,∃ l,enc g=.tup l /\ sL l=ae (cJ g):=λg=>by cases g<;>show#[_,rfl,rfl]
 let#[l,e1,e3]:=this a;let#[m,f1,f3]:=this b;rw[e1,f1];unfold cT;simp[e3,f3,Au,if_true]
end aJ
variable {gs qs:List aJ.Pg}{ca:List (Int × aJ.Pg)}
namespace K1
open L2 L2.DL
theorem Bf:∀ ns:List Int,intsOf (ns.map D.int)=ae ns:=by
 intro l_;induction l_ with
 |nil=>show rfl
 |cons n ns az=>(rw[aU,intsOf,az];rfl)
theorem GX:∀ ns:List Int,wo (ns.map D.int)=ah ↔ ns.Pairwise (λa b=>b<=a)
 |[]=>by simp[wo]
 |[x]=>by simp[wo]
 | x::y::l=>by
   have ih:=GX (y::l);erw[aU]at ih ⊢;erw[wo,aI,decide_eq_true_eq,ih];constructor
   .intro ⟨h,p⟩;refine List.pairwise_cons.mpr #[λz m=>?_,p];rcases bq.mp m with rfl|m
    .show h
    .show Int.le_trans ((List.pairwise_cons.mp p).1 z m) h
   .intro p;have q:=List.pairwise_cons.mp p;show#[q.1 y<|bC ..,q.2]
theorem DX {lo hi:Int}:∀ {l:List D},(l.all λx=>wi x lo hi)=ah->∃ ns:List Int,l=ns.map D.int:=by
 intro l_;induction l_ with
 |nil=>show λ_=>#[[],rfl]
 |cons d l az=>
   intro h;erw[tu,aI]at h;let#[i,rfl,_]:=mJ h.1;let#[ns,rfl]:=az h.2;show#[i::ns,rfl]
noncomputable def pt (bx:List Bx) (n:Nat) (p:Int):List Bx:=bx.set n<|.lst [.int p]
theorem gG {p:Int}:(pt bx n p).length=bx.length:=p5 ..
theorem UZ {p:Int}(h:n<bx.length):(pt bx n p)[n]?=ae (.lst [.int p]):=by simp[pt,h]
theorem B7 {m:aC}{ws:List W}{d:D}{bx':List Bx}(h:m (ws.map ae++List.replicate (n-ws.length) ag) bx=.rt (.d d) bx') (l:bx'.length<=bx.length):aV n (aP m) ws bx=.val (.d d) bx':=by
 simp[aV,aP,DL.envOf,h,nW,nX,Hm l]
theorem ju (h:n<bx.length) (p k:Int) (hk:0<k) (vY:k<1073741824):fr [.b n,.d<|.int k] (pt bx n p)=.val (.d<|.int<|p % k) (pt bx n<|p / k):=by
 refine B7 ?_ (by rw[gG,gG];show aE _);have c:uJ p k:=#[hk,vY];simp[A3,bV,(UZ (p:=p) h),aq,bF,cy,nY,kh,hk,c,Eg];rw[pt,pt,aba]
theorem lV {l:List α}{i:Int}(h0:0<=i) (h1:i<l.length):∃ d,bF l i=ae d /\ d∈l:=by
 have h2:i.toNat<l.length:=by lia
 refine#[l[i.toNat],?_,pF h2];simp[bF,cy,h0,h1]
def Dr (o:O W) (bx:List Bx) (n:Nat) (P:D->zt):zt:=∃ d p,o=.val (.d d) (pt bx n p) /\ P d
theorem oR (p:Int) {k:Int}(h:0<k):0<=p % k:=Xq _ za
theorem oS (p:Int) {k:Int}(h:0<k):p % k<k:=Hw _ h
theorem Nj (l:List D) (i:Nat) (h:i<=l.length):DL.cutD l (ae (i:Int)) ag=l.drop i:=by
 unfold DL.cutD;rw[HT.OE,HT.LS,QS h];show Hm (by rw[He];show aE _)
theorem U0 (l:List α) (i:Nat) (h:i<l.length):bF l (i:Int)=ae l[i]:=by
 simp[bF,cy,h]
theorem GY {g:DG}(J:aQ->zt) (P:D->zt):∀ (l:List W) (env:aQ) (p:Int) (acc:List D),J env ->
 (∀ w∈l,∀ env p,J env->∃ aO,g w env (pt bx n p)=ae (aO,pt bx n p) /\ J aO /\ Dr (te aO<|pt bx n p) bx n P)->acc.length+l.length<=sizeLine ->
 ∃ ds p',bG g fN te l env (pt bx n p) acc=.val (acc++ds) (pt bx n p') /\ ds.length=l.length /\ ∀ d∈ds,P d:=by
 intro l_;induction l_ with
 |nil=>show λenv p acc _ _ _=>#[[],p,by simp[bG],rfl,λd m=>by cases m]
 |cons w l az=>
   intro env p acc j h z;let#[aO,e1,j',d,q,e2,hd]:=h w (bC ..) env p j;have z':acc.length<sizeLine:=by simp[bD]at z;lia
   let#[ds,p',e3,e4,e5]:=az aO q (acc++[d]) j' (λx m=>h x<|bu _ m) (by simp[cX,bD,p6]at z ⊢;lia);refine#[d::ds,p',?_,by simp[e4],λx m=>?_]
   .erw[bG,e1,GP,oH,e2,if_pos z',e3];simp
   .rcases bq.mp m with rfl|m
    .show hd
    .show e5 x m
theorem Nk {g:DG}(J:aQ->zt) (f:W->D):∀ (l:List W) (env:aQ) (p:Int) (acc:List D),J env ->
 (∀ w∈l,∀ env p,J env->∃ aO b q,g w env (pt bx n p)=ae (aO,pt bx n p) /\ J aO /\ tf aO (pt bx n p)=.val b (pt bx n q) /\ te aO (pt bx n q)=.val (.d<|f w) (pt bx n q))->acc.length+l.length<=sizeLine ->
 ∃ l' p',bG g tf te l env (pt bx n p) acc=.val (acc++l'.map f) (pt bx n p') /\ List.Sublist l' l:=by
 intro l_;induction l_ with
 |nil=>show λenv p acc _ _ _=>#[[],p,by simp[bG],.slnil]
 |cons w l az=>
   intro env p acc j h z;let#[aO,b,q,e1,j',e2,e3]:=h w (bC ..) env p j;have z':acc.length<sizeLine:=by simp[bD]at z;lia
   cases b with
   |false=>
     let#[ds,p',e4,e5]:=az aO q acc j' (λx m=>h x<|bu _ m) (by simp[bD]at z;lia);show#[ds,p',by simp[bG,e1,e2,oH,e4],.cons _ e5]
   |true=>
     let#[ds,p',e4,e5]:=az aO q (acc++[f w]) j' (λx m=>h x<|bu _ m) (by simp[cX,bD,p6]at z ⊢;lia);refine#[w::ds,p',?_,.cons_cons _ e5];erw[bG,e1,e2,oH,e3,if_pos z',e4];simp
def digit (d:D):zt:=∃ i:Int,d=.int i /\ 0<=i /\ i<=9
theorem Lj:∀ {l:List D},(∀ d∈l,digit d)->∃ ns:List Int,l=ns.map D.int /\ ∀ i∈ns,0<=i /\ i<=9:=by
 intro l_;induction l_ with
 |nil=>show λ_=>#[[],rfl,λ_ m=>by cases m]
 |cons d l az=>
   intro h;let#[i,rfl,h1]:=h d<|bC ..;let#[ns,rfl,h2]:=az λx m=>h x<|bu _ m;show#[i::ns,rfl,λx m=>by
    rcases bq.mp m with rfl|m
    .show h1
    .show h2 x m]
theorem Nl (h4:ns.length=4) (h:∀ i∈ns,0<=i /\ i<=9):yd (.tup ((sortI ns).map D.int).reverse)=ah:=by
 have l4:(sortI ns).length=4:=by rw[(gD ns).length_eq,h4]
 rw[<-List.map_reverse];have a1:tl (.tup<|(sortI ns).reverse.map D.int) 4 4=ah:=by simp[tl,l4]
 have a2:(((sortI ns).reverse.map D.int).all λx=>wi x 0 9)=ah:=by
  rw[vk,cZ];intro i m;have:=h i<|(gD ns).mem_iff.mp<|List.mem_reverse.mp m;simp[wi,this.1,this.2]
 erw[yd,a1,a2,((GX _).mpr<|List.pairwise_reverse.mpr<|iS ns),Hc]
theorem Rp (h:n<bx.length) (p:Int):Dr (gZ [.b n]<|pt bx n p) bx n (λd=>kind d=ah):=by
 have t4:=ju h p 4 ze ze;let#[y,e,m]:=lV (l:=[D.int 9,.int 3,.int 1,.int 9]) (oR p (k:=4) ze) (by change _<(4);show oS p ze);obtain⟨top,rfl,h0,h9⟩:∃ i:Int,y=.int i /\ 0<=i /\ i<=9:=by
  simp at m;rcases m with rfl|rfl|rfl|rfl<;>show#[_,rfl,by decide,by decide]
 have z4:(4)<=sizeLine:=by decide
 let#[ds,q,e1,e2,e3]:=GY (g:=fe 0) (te:=fm fr 2<|fc (dV 1)<|fc (d2 af fI (dV 2) zd) fg) (λe=>∃ w,e=[w,xB n,xN top]) digit (bx:=bx) (n:=n) (fM 0 4) [ag,xB n,xN top] (p / 4) [] #[ag,rfl] (by
  intro w _ env p ⟨w0,je⟩;refine#[[ae w,xB n,xN top],by simp[je],#[_,rfl],?_];show#[.int<|p % (top+1),p / (top+1),by simp[fI,(ju h p (top+1) (by lia) (by lia))],_,rfl,oR _ za,by have:=oS p (k:=top+1) za;lia]) (by
  simp;show z4)
 let#[ns,rfl,eA]:=Lj e3;have n4:ns.length=4:=by
  rw[a5]at e2;rw[e2];simp[fM]
 have so:dX [.lst<|ns.map D.int]=ae (.lst<|(sortI ns).map D.int):=by simp[dX,uS,Bf,n4]
 have adU:=ju h q 20 ze ze;have tx:=ju h (q / 20) 4 ze ze;have b0:=oR q (k:=20) ze;have b1:=oS q (k:=20) ze;let#[y,ey,my]:=lV (l:=[D.int 30,.int<|1+q % 20,.int 999,.int 8]) (oR (q / 20) (k:=4) ze) (by change _<(4:Int);show oS _ ze);have hy:wi y 1 999=ah:=by
  simp at my;rcases my with rfl|rfl|rfl|rfl
  .rfl
  .simp[wi];lia
  .rfl
  .rfl
 refine#[.tup [y,.tup ((sortI ns).map D.int).reverse],q / 20 / 4,B7 ?_ (by rw[gG,gG];show aE _),by simp[kind,tl,hy,(Nl n4 eA)]];have rg:∀ env bx,c9 (fc (dC<|.int 4) fg) env bx=.val (fM 0 4) bx:=λenv bx=>lJ (j:=4) (bx1:=bx) zj ze;have z2:(2:Nat)<=sizeLine:=by decide
 unfold l6;generalize fr=ft at t4 adU tx e1 ⊢;erw[ng]at e1;simp[z4,z2,t4,aq,e,rg,e1,so,adU,tx,fI,ey,tZ]
noncomputable def Kb:List HT.aT->Int×Int
 |[.i a,.i b]=>(a,b)
 |_=>(0,0)
theorem FX:∀ ps:List (Int×Int),rowsOf (ps.map dP)=ae (ps.map rP):=by
 intro l_;induction l_ with
 |nil=>show rfl
 |cons p ps az=>(simp[rowsOf,rowOf,sL,IL,az,rP])
theorem Rq (ps:List<|Int×Int) (h:ps.length<64):∃ qs:List (Int×Int),qs.Perm ps /\ qs.Pairwise (λa b=>pQ b a=af) /\ dX [.lst<|ps.map dP]=ae (.lst<|qs.map dP):=by
 cases ps with
 |nil=>show#[[],.refl _,.nil,by simp[dX,uS,intsOf,sortI]]
 |cons p ps=>
   have pe:=iL<|(p::ps).map rP;have e:(sM<|(p::ps).map rP).map (rP∘Kb)=sM ((p::ps).map rP):=by
    conv=>rhs;rw[<-abb (sM _)]
    refine qD λx m=>?_;let#[p,_,rfl]:=bA.mp<|pe.mem_iff.mp m;rfl
   refine#[(sM<|(p::ps).map rP).map Kb,?_,?_,?_]
   .have:=pe.map Kb;rw[bJ]at this
    rwa [show (Kb∘rP)=id from rfl,abb]at this
   .have so:=iG<|(p::ps).map rP;rw[<-e,<-bJ]at so;show(tJ.mp so).imp λ{a b} h=>h
   .change ((rowsOf _).bind λrs=>if rs.length<64 /\ v7 rs=ah then ae _ else ag)=_;rw[FX,bY,if_pos #[by rw[a5];show h,by erw[v7,cZ,bA];rintro _ ⟨a,_,rfl⟩ _ ⟨b,_,rfl⟩;rfl],bJ]
    conv=>lhs;rw[<-e]
    rw[bJ];rfl
theorem WB {p q:Int×Int}(h:pQ q p=af) (n:p≠q):pQ p q=ah:=by
 cases e:pQ p q with
 |true=>rfl
 |false=>
   have:=HT.jb _ _ e h;simp[List.cons.injEq,and_true]at this;show absurd (Prod.ext this.1 this.2) n
theorem GZ:∀ {qs:List (Int×Int)},qs.Pairwise (λa b=>pQ b a=af)->qs.Nodup->uo qs=ah
 |[],_,_=>rfl
 |[p],_,_=>rfl
 | p::q::r,h,n=>by
   have h1:=List.pairwise_cons.mp h;have n1:=tK.mp n;simp[uo,aI];show#[WB (h1.1 q<|bC ..) λe=>n1.1 (by rw[e];show bC ..),GZ h1.2 n1.2]
structure EH (k:Nat) (ps:List<|Int×Int):zt where
 nd:ps.Nodup
 b:∀ p∈ps,0<=p.1 /\ p.1<p.2 /\ p.2<(k:Int)
 l:ps.length<=4*k
theorem EH.more {k:Nat}{is:List Nat}(s:EH k ps) (s1:is.Sublist<|List.range k) (hk:k<=4):EH (k+1) (ps++is.map λ(i:Nat)=>((i:Int),(k:Int))):=by
 have li:is.length<=k:=by have:=s1.length_le;simpa using this
 refine#[vn.mpr #[s.nd,?_,?_],?_,?_]
 .show tJ.mpr<|(s1.nodup List.nodup_range).imp λ{a b} h e=>h (by have z:=congrArg Prod.fst e;lia)
 .intro a ma b mb e;subst e;let#[i,_,rfl]:=bA.mp mb;have:=(s.b _ ma).2.2;simp at this
 .intro a ma;rcases List.mem_append.mp ma with m|m
  .have:=s.b a m;lia
  .let#[i,mi,rfl]:=bA.mp m;have:=List.mem_range.mp<|s1.subset mi;lia
 .have:=s.l;simp;lia
theorem CJ {k:Nat}{m:DE (List W)}(e:m env bx=.val [.d<|.int (k:Int)] bx) (hk:k<=1000000):c9 m env bx=.val (fM 0 k) bx:=by
 rw[lJ e za,nM]
theorem Rr (h:n<bx.length) (p:Int) (x1 x2 x3 x4:Option W):∃ (d:D) (q:Int),wi d 1 9=ah /\
 d2 af aq (gx af<|fc zd<|fc zr<|fc (dC<|.int 9)<|fc (d2 af fI zd<|fm fr 2<|fc (dV 0)<|fc (dC<|.int 9) fg) fg) (fm fr 2<|fc (dV 0)<|fc (dC<|.int 4) fg) [xB n,x1,x2,x3,x4] (pt bx n p)=.val (.d d) (pt bx n q):=by
 let#[y,ey,my]:=lV (l:=[D.int 1,.int 2,.int 9,.int<|1+p % 9]) (oR (p / 9) (k:=4) ze)<|oS _ ze;have z4:(4)<=sizeLine:=by decide
 refine#[y,p / 9 / 4,?_,?_]
 .simp at my;rcases my with rfl|rfl|rfl|rfl
  .rfl
  .rfl
  .rfl
  .simp[wi];lia
 .simp[(ju h p 9 (by decide) (by decide)),fI,z4,(ju h _ 4 (by decide) (by decide)),aq,ey]
theorem B8 {k:DE W}{ay:List Bx}{i:Nat}{l l0:List D}{d:D}(h1:m env bx=.val (.b i) bx1) (adV:bx1[i]?=ae (.lst l0)) (h2:k env bx1=.val (.d d) ay) (hb:ay[i]?=ae (.lst l)) (hl:l.length<sizeLine):kG m k env bx=.val (.d .non) (ay.set i<|.lst<|l++[d]):=by
 unfold kG;rw[h1,fS];simp[adV,h2,fS,hb,if_pos hl]
section
variable {d lim rt:D} {ps:List D} {fo so fi tw th:Option W} 
end
section
variable {d lim rt:D} {ps:List D} {fo so fi tw th:Option W} 
end
theorem lL {m:aC}{ws:List W}{d:D}{bx':List Bx}(h:m (ws.map ae++List.replicate (n-ws.length) ag) bx=.rt (.d d) bx'):aV n (aP m) ws bx=.val (.d d) (bx'.take bx.length):=by
 simp[aV,aP,DL.envOf,h,nW,nX]
theorem SS {i k:Nat}{l:List D}(h:env[k]?=ae (xB i)) (hb:bx[i]?=ae (.lst l)):sI k env bx=.val (.d<|.lst l) (bx.set i .dead):=by
 unfold sI;simp[h,hb]
theorem U1 (l:List Int) (k:Nat) (bx:List Bx):∃ c:Int,gY [.s l,.d<|.int (k:Int)] bx=.val (.d<|.int c) bx:=by
 by_cases h:k<l.length
 .refine#[l[k],fT ?_];have h':(k)<(l.length):=by lia
  simp[jy,ub,cT,h',Eh,(U0 l k h)]
 .refine#[0,fT ?_];have h':¬ (k)<(l.length):=by lia
  simp[jy,ub,cT,h']
abbrev adW:aC:=zA
theorem Nm {i j:Int}(h1:-(2 ^ 64)<i) (h2:i<2 ^ 64):cC (.int i) (.int j)=ae (.old<|.int<|i*j):=if_pos<|.inl #[h1,h2]
theorem SU {i j:Int}(h1:-(2 ^ 64)<j) (h2:j<2 ^ 64):cC (.int i) (.int j)=ae (.old<|.int<|i*j):=if_pos<|.inr #[h1,h2]
theorem Nn {i j:Int}(h1:0<j):nY (.int i) (.int j)=ae (.old<|.int<|i % j):=if_pos h1
theorem No {i j:Int}(h1:xt i j):uQ (.int i) (.int j)=ae (.old<|.int<|i ^ j.toNat):=if_pos h1
theorem Lk (c x j:Int) (w:Option W) (bx:List Bx):∃ x' y,adW [xN c,xN x,xN j,w] bx=.nx [xN c,xN x',xN j,xN y] bx:=by
 let a:=(c % 2147483629+7919*j+1)*48271 % 2147483647
 let b:=(a*a+69621*j+7) % 2147483587
 have e1:fE (d2 af nY (d2 af cC (d2 af fI (d2 af fI (d2 af nY (dV 0)<|dC _)<|d2 af cC (dC _)<|dV 2) zd)<|dC _)<|dC _) (fe 3) [ae _,ae _,ae _,w] bx=.nx [ae _,xN x,xN j,xN a] bx:=
  gk (fw (fw (fw (r:=.old _) (fw (fw zc zc<|Nn ze) (fw zc zc<|Nm ze ze) zc) zc zc) zc<|SU ze ze) zc<|Nn ze)
 have e2:fE (d2 af nY (d2 af fI (d2 af fI (d2 af cC (dV 3)<|dV 3)<|d2 af cC (dC<|.int 69621)<|dV 2)<|dC<|.int 7)<|dC<|.int 2147483587) (fe 3) [xN c,xN x,xN j,xN a] bx=.nx [xN c,xN x,xN j,xN b] bx:=
  gk (fw (fw (r:=.old _) (fw (fw zc zc<|Nm za za) (fw zc zc<|Nm ze ze) zc) zc zc) zc<|Nn ze)
 have e3:fE (d2 af fI (d2 af cC (dV 1)<|dC<|.int 2147483587)<|dV 3) (fe 1) [xN c,xN x,xN j,xN b] bx=.nx [xN c,xN<|x*2147483587+b,xN j,xN b] bx:=
  gk (fw (r:=.old _) (fw zc zc<|SU ze ze) zc zc)
 show#[_,_,by unfold adW;rw[fv e1,fv e2,e3]]
theorem Np {m:aC}{ws:List W}{i:Nat}{bx':List Bx}(h:m (ws.map ae++List.replicate (n-ws.length) ag) bx=.rt (.b i) bx'):aV n (aP m) ws bx=.val (.b i) bx':=by
 simp[aV,aP,DL.envOf,h,nW,nX]
theorem WC (c:Int) (bx:List Bx):∃ p:Int,jV [.d<|.int c] bx=.val (.b bx.length) (bx++[.lst [.int p]]):=by
 have sz:=bp;have adX:∀ e b,d2 af uQ (dC _) (dC<|.int 18) e b=.val (.d<|.int<|10 ^ 18) b:=λe b=>fw (r:=.old _) zc zc<|No ze;have t:dB (d2 af ny (dV 0) _) [xN c,ag,ag,ag] bx=.val (decide (10 ^ 18<=c)) bx:=fV<|fw (r:=.old _) zc (adX _ _) zc;by_cases h:10 ^ 18<=c
 .rw[decide_eq_true h]at t;refine#[c-10 ^ 18,Np ?_];change jE [xN c,ag,ag,ag] bx=_;unfold jE;refine(gF<|(ij t).trans<|fU<|oO [.int<|c-10 ^ 18] (fj (fw (r:=.old _) zc (adX _ _) zc) zc) (show (1)<=sizeLine by lia))
 .rw[decide_eq_false h]at t;have rg:=CJ (env:=[xN c,xN 0,ag,ag]) (bx:=bx) (m:=fc (dC<|.int 64) fg) zc ze;let#[aO,bx',e,x,w2,w3,rfl,rfl]:=m7 (g:=fe 2) (λ_ env b=>∃ (x:Int) (w2 w3:Option W),env=[xN c,xN x,w2,w3] /\ b=bx) (fM 0 64) 0 [xN c,xN 0,ag,ag] bx #[0,ag,ag,rfl,rfl] (by
   rintro i w env b hw ⟨x,w2,w3,rfl,rfl⟩;let#[j,_,rfl]:=bA.mp<|pD hw;let#[x',y,e]:=Lk c x (0+(j)) w3 b;show#[_,_,_,_,rfl,e,x',_,_,rfl,rfl])
  refine#[x,Np ?_];change jE [xN c,ag,ag,ag] bx'=_;unfold jE;refine(fv<|gu t).trans ?_;refine(fv<|gk zc).trans ?_;refine(fv<|(im rg).trans e).trans ?_;show fU<|oO [.int x] zc (show (1)<=sizeLine by lia)
end K1
namespace K2
open L2 L2.DL K1
noncomputable def hr (d:D):Bool:=match d with
 |.int i=>decide (0<=i)
 |_=>af
noncomputable def eO:List (Int×Int)->Bool
 |p::q::r=>decide (p.2<q.1)&&eO (q::r)
 |_=>ah
theorem B9:∀ (p:Int×Int) (ps:List<|Int×Int),kJ ((p::ps).map dP) (ps.map dP)=((p::ps).zip ps).map λx=>W.d (.tup [dP x.1,dP x.2])
 |p,[]=>rfl
 | p,q::ps=>by
   have:=B9 q ps;simp[aU]at this ⊢;simp[kJ,vj,aU,this]
theorem Ca:∀ (p:Int×Int) (ps:List<|Int×Int),eO (p::ps)=((p::ps).zip ps).all λx=>decide (x.1.2<x.2.1)
 |p,[]=>rfl
 | p,q::ps=>by
   rw[eO,Ca q ps];simp
theorem U2 (ps:List<|Int×Int) (n:ps.length<=1000) (bx:List Bx):jX [.d<|.tup<|ps.map dP] bx=.val (.d<|.bl<|eO ps) bx:=
 fT (by
  have sz:=bp;have cut:DL.cutD (ps.map dP) (ae 1) ag=ps.tail.map dP:=by
   cases ps with
   |nil=>rfl
   |cons p ps=>
     have:=Nj ((p::ps).map dP) 1 zj;simpa using this
  cases ps with
  |nil=>simp[jo,sF,uc,kJ,bG,dj,pN,eO]
  |cons p ps=>
    have c:=A9 (g:=fL 2<|fq (fe 0)<|fq (fe 1) fO) (te:=d2 af cT (d2 af aq (dV 0) zd)<|d2 af aq (dV 1) zg) (bx:=bx) (l:=((p::ps).zip ps).map λx=>D.tup [dP x.1,dP x.2]) (λe=>∃ a b,e=[a,b]) (λd=>.bl (match d with|.tup [.tup [_,.int i],.tup [.int j,_]]=>decide (i<j)|_=>af)) #[ag,ag,rfl] (by
     intro d m e ⟨a,b,je⟩;let#[x,_,rfl]:=bA.mp m;show#[[ae<|.d<|dP x.1,ae<|.d<|dP x.2],by simp[je],#[_,_,rfl],rfl]) (by
     rw[a5,abd];simp at n ⊢;lia)
    rw[bJ]at c;have r:(uc<|fc (dV 0)<|fc (kY af (dV 0) (kX zd) nz) fg) [ae<|.d<|.tup<|(p::ps).map dP] bx=.val (((p::ps).zip ps).map λx=>W.d<|.tup [dP x.1,dP x.2]) bx:=by
     unfold uc;rw[fj (w:=.d<|.tup<|(p::ps).map dP) (l:=[.d<|.tup<|ps.map dP]) rfl<|fj (SR (r:=.tup<|ps.map dP) rfl (Rn rfl) rfl (by rw[sF,cut];rfl)) rfl,fS,<-(B9 p ps)]
    change jo [ae<|.d<|.tup<|(p::ps).map dP] bx=_;unfold jo;refine fU ?_;refine(iQ (r:=.old<|.bl<|eO (p::ps)) [.lst _] (fj (gn r zc c) zc) ?_);rw[bJ];have:=all_map (((p::ps).zip ps).map λx=>D.tup [dP x.1,dP x.2]) λd=>match d with|.tup [.tup [_,.int i],.tup [.int j,_]]=>decide (i<j)|_=>af;rw[bJ,vk]at this;rw[Ca];show this)
noncomputable def dg (c hold hour:Int):List (Int×Int)->Int
 |[]=>c
 |p::ps=>if p.1<=hour /\ hour<p.2 then max 0 (c-(hour-p.1) / hold) else dg c hold hour ps
theorem Bg {c hold hour:Int}(h:0<=c):∀ ps,0<=dg c hold hour ps
 |[]=>h
 | p::ps=>by
   unfold dg;split
   .show Int.le_max_left ..
   .show Bg h ps
theorem Bh {c hold hour:Int}(h:0<=c) (hh:0<hold):∀ ps,dg c hold hour ps<=c
 |[]=>uE _
 | p::ps=>by
   unfold dg;split
   .have:0<=(hour-p.1) / hold:=abC za za;lia
   .show Bh h hh ps
theorem G0 (x:Int):maxD [.int 0,.int x]=ae (.old<|.int<|max 0 x):=by
 change ae _=_;congr 3;split<;>lia
theorem WD (x:Int):maxD [.int x,.int 0]=ae (.old<|.int<|max 0 x):=by
 change ae _=_;congr 3;split<;>lia
theorem CK {i j:Int}(h:0<j) (h2:j<1073741824):kh (.int i) (.int j)=ae (.old<|.int<|i / j):=if_pos #[h,h2]
theorem WE {g':D->D->Option Res}{mc:DE W}{x y z:D}{r:Res}(h1:ma env bx=.val (.d x) bx) (h2:mb env bx=.val (.d y) bx) (h3:g x y=ae (.old<|.bl ah)) (h4:mc env bx=.val (.d z) bx) (h5:g' y z=ae r):d3 g g' ma mb mc env bx=.val (.d r.toD) bx:=by
 simp[h1,h2,h3,h4,h5]
theorem Yo {g':D->D->Option Res}{mc:DE W}{x y:D}(h1:ma env bx=.val (.d x) bx) (h2:mb env bx=.val (.d y) bx) (h3:g x y=ae (.old<|.bl af)):d3 g g' ma mb mc env bx=.val (.d<|.bl af) bx:=by
 simp[h1,h2,h3]
section
variable {hs:List D} {c hour:Int} {x1 x2:Option W} 
abbrev Kc:DE Bool:=dB<|d3 dq cT (dV 5) (dV 3)<|dV 6
theorem Rs (p:Int×Int) (x0 x1 x2 x4:Option W):Kc [x0,x1,x2,xN hour,x4,xN p.1,xN p.2] bx=.val (decide (p.1<=hour /\ hour<p.2)) bx:=by
 by_cases h:p.1<=hour
 .by_cases h2:hour<p.2
  .rw[decide_eq_true #[h,h2]];show fV<|WE (r:=.old _) zc zc (by simp[dq,h]) zc (by simp[cT,h2])
  .rw[decide_eq_false λz=>h2 z.2];show fV<|WE (r:=.old _) zc zc (by simp[dq,h]) zc (by simp[cT,h2])
 .rw[decide_eq_false λz=>h z.1];show fV<|Yo zc zc (by simp[dq,h])
theorem Zh (x0 x1 x2:Option W) (rt:DE W) (hr:∀ p:Int×Int,rt [x0,x1,x2,xN hour,xN c,xN p.1,xN p.2] bx=.val (.d<|.int<|max 0<|c-(hour-p.1) / hold) bx) :
 ∀ (ps:List<|Int×Int) (x5 x6:Option W),(∃ y5 y6,bL (fL 2<|fq (fe 5)<|fq (fe 6) fO) (aH Kc (fF rt) aL) ((ps.map dP).map W.d) [x0,x1,x2,xN hour,xN c,x5,x6] bx=.nx [x0,x1,x2,xN hour,xN c,y5,y6] bx /\ dg c hold hour ps=c) \/
  bL (fL 2<|fq (fe 5)<|fq (fe 6) fO) (aH Kc (fF rt) aL) ((ps.map dP).map W.d) [x0,x1,x2,xN hour,xN c,x5,x6] bx=.rt (.d<|.int<|dg c hold hour ps) bx
 |[],x5,x6=>.inl #[x5,x6,rfl,rfl]
 | p::ps,x5,x6=>by
   have g:fL 2 (fq (fe 5)<|fq (fe 6) fO) (W.d<|dP p) [x0,x1,x2,ae _,ae _,x5,x6] bx=ae ([x0,x1,x2,xN hour,xN c,ae _,ae _],bx):=rfl;have t:=Rs (hour:=hour) (bx:=bx) p x0 x1 x2<|xN c;erw[aU];by_cases h:p.1<=hour /\ hour<p.2
   .rw[decide_eq_true h]at t;have e:dg c hold hour (p::ps)=max 0 (c-(hour-p.1) / hold):=by rw[dg,if_pos h]
    show .inr (by rw[Be g<|(ij t).trans<|fU<|hr p,e])
   .rw[decide_eq_false h]at t;have e:dg c hold hour (p::ps)=dg c hold hour ps:=by rw[dg,if_neg h]
    have st:aH Kc (fF rt) aL _ bx=.nx _ bx:=gu t;rw[e];rcases Zh x0 x1 x2 rt hr ps _ _ with⟨y5,y6,z,q⟩|z
    .show .inl #[y5,y6,by rw[gR g st];show z,q]
    .show .inr (by rw[gR g st];show z)
end
structure Zi (d:D) (rs:List Int) (hold:Int):zt where
 e:∃ k p,d=.tup [.tup<|rs.map D.int,k,p,.int hold]
 r:∀ c∈rs,0<=c /\ c<=3
 n:1<=rs.length /\ rs.length<=5
 h:1<=hold /\ hold<=9
section
variable {d:D} {rs:List Int} {hour:Int} 
theorem U3 (H:Zi d rs hold) (j:Nat) (hj:j<rs.length) (ps:List<|Int×Int):iO [.d d,.d<|.tup<|ps.map dP,.d<|.int (j:Int),.d<|.int hour] bx=.val (.d<|.int<|dg rs[j] hold hour ps) bx:=by
 let#[#[k,p,rfl],_,_,h1,h2]:=H;refine fT ?_;change jd _ bx=_;have e0:aq (.tup [.tup _,k,p,.int hold]) (.int 0)=ae (.old<|.tup<|rs.map D.int):=rfl;have e3:aq (.tup [.tup<|rs.map D.int,k,p,.int hold]) (.int 3)=ae _:=rfl;have ej:aq (.tup<|rs.map D.int) (.int<|j)=ae (.old<|.int rs[j]):=by simp[aq,bF,cy,hj]
 unfold jd;refine(fv<|gk<|fw (fw zc zc e0) zc ej).trans ?_;rcases(Zh (bx:=bx) (ae _) _ _ (dN af maxD<|fc zg<|fc (d2 af bR (dV 4)<|d2 af kh (d2 af bR (dV 3)<|dV 5)<|d2 af aq (dV 0) zo) fg) (λq=>iQ (r:=.old _) [.int 0,.int<|rs[j]-(hour-q.1) / hold] (fj zc<|fj (fw (r:=.old _) zc (fw (r:=.old _) (fw (r:=.old _) zc zc zc) (fw zc zc e3)<|CK za za) zc) zc)<|G0 _) ps ag ag) with⟨y5,y6,z,q⟩|z
 .rw[q];show(fv<|(im<|gM zc).trans z).trans (fU zc)
 .show gF<|(im<|gM zc).trans z
theorem Rt (H:Zi d rs hold) (j:Nat) (hj:j<rs.length) (ps:List<|Int×Int):lE [.d d,.d<|.tup<|ps.map dP,.d<|.int (j:Int),.d<|.int hour] bx=.val (.d<|.int<|dg rs[j] hold hour ps) bx:=by
 let#[#[k,p,rfl],_,_,h1,h2]:=H;refine fT ?_;change mF _ bx=_;have e0:aq (.tup [.tup _,k,p,.int hold]) (.int 0)=ae (.old<|.tup<|rs.map D.int):=rfl;have e3:aq (.tup [.tup<|rs.map D.int,k,p,.int hold]) (.int 3)=ae _:=rfl;have ej:aq (.tup<|rs.map D.int) (.int<|j)=ae (.old<|.int rs[j]):=by simp[aq,bF,cy,hj]
 unfold mF;refine(fv<|gk<|fw (fw zc zc e0) zc ej).trans ?_;rcases(Zh (bx:=bx) (ae<|.d<|.tup [.tup<|rs.map D.int,k,p,.int hold]) _ (xN (j:Int)) (dN af maxD<|fc (d2 af bR (dV 4)<|d2 af kh (d2 af bR (dV 3)<|dV 5)<|d2 af aq (dV 0) zo)<|fc zg fg) (λq=>iQ (r:=.old _) [.int<|rs[j]-(hour-q.1) / hold,.int 0] (fj (fw (r:=.old _) zc (fw (r:=.old _) (fw (r:=.old _) zc zc zc) (fw zc zc e3)<|CK za za) zc)<|fj zc zc)<|WD _) ps ag ag) with⟨y5,y6,z,q⟩|z
 .rw[q];show(fv<|(im<|gM zc).trans z).trans (fU zc)
 .show gF<|(im<|gM zc).trans z
end
end K2
namespace L2.DL
section
variable {env1:aQ} {ay:List Bx} {ks:DE (List W)} {l:List W} {c:Nat}
theorem WF {t:DE Bool}{k:DE W}{w:W}(h:t env bx=.val ah bx1) (h2:m env bx1=.val w ay):nT t m k env bx=.val w ay:=by unfold nT;rw[h,fS];show h2
theorem WG {t:DE Bool}{k:DE W}{w:W}(h:t env bx=.val af bx1) (h2:k env bx1=.val w ay):nT t m k env bx=.val w ay:=by unfold nT;rw[h,fS];show h2
end
end L2.DL
namespace K2
open L2 L2.DL K1
section
variable {h:D} {rs:List Int} 
end
end K2
namespace K1
open L2 L2.DL
section
variable {p:Int} {x y:Bx} {E:List Bx}
theorem mL (h:n<bx.length):pt bx n p++E=pt (bx++E) n p:=by
 unfold pt;rw[Q4 _ _ h]
theorem jv (h:n<bx.length):(pt (bx++[x]) n p)[bx.length]?=ae x:=by
 rw[<-mL h,<-gG];show List.getElem?_concat_length
theorem CL (h:n<bx.length):(pt (bx++[x]) n p).set bx.length y=pt (bx++[y]) n p:=by
 rw[<-mL h,<-mL h,<-gG,List.set_append_right _ _<|aE _,sZ];rfl
theorem Bi (h:n<bx.length):(pt (bx++E) n p).take bx.length=pt bx n p:=by
 rw[<-mL h,<-gG,List.take_left]
end
theorem G1 (h:n<bx.length) (p k:Int) (hk:0<k) (vY:k<1073741824):∃ r q,fr [.b n,.d<|.int k] (pt bx n p)=.val (.d<|.int r) (pt bx n q) /\ 0<=r /\ r<k:=
 #[_,_,ju h p k hk vY,oR p hk,oS p hk]
end K1
namespace K2
open L2 L2.DL K1
theorem SV {m:Nat}{l:List D}(h:bx[m]?=ae (.lst l)):bV bx (.b m)=ae (.lst l):=by simp[bV,h]
abbrev aiE:aC:=(fu (gh<|kG (dV 2)<|fQ<|fc (dV 3)<|fc (d2 af fI (d2 af fI (dV 3) zd)<|fm K1.fr 2<|fc (dV 0)<|fc (dV 1) fg) fg)<|fE (d2 af fI (d2 af fI (d2 af aq (d2 af aq (dV 2)<|xH zd) zd) zd)<|fm K1.fr 2<|fc (dV 0)<|fc (dV 1) fg)<|fe 3)
end K2
namespace bM
open L2 L2.DL K1
section
variable {i:Nat}
theorem FY (h:n<bx.length) {p p1:Int}(he:env[i]?=ae (xB n)) {k:Int}(hm:m env (pt bx n p)=.val (.d<|.int k) (pt bx n p1)) (h0:0<k) (h1:k<1073741824) :
 ∃ r q,fm K1.fr 2 (fc (dV i)<|fc m fg) env (pt bx n p)=.val (.d<|.int r) (pt bx n q) /\ 0<=r /\ r<k:=by
 let#[r,q,t,a,b]:=G1 h p1 k h0 h1;refine#[r,q,?_,a,b];have e0:dV i env (pt bx n p)=.val (.b n) (pt bx n p):=by unfold dV;rw[he]
 show fJ (fj e0<|fj hm zc) zc t
theorem aiF (h:n<bx.length) (p:Int) (he:env[i]?=ae (xB n)) (k:Int) (h0:0<k) (h1:k<1073741824) :
 ∃ r q,fm K1.fr 2 (fc (dV i)<|fc (dC<|.int k) fg) env (pt bx n p)=.val (.d<|.int r) (pt bx n q) /\ 0<=r /\ r<k:=
 FY h he zc h0 h1
theorem k6 (h:n<bx.length) (p k:Int) (h0:0<k) (h1:k<1073741824):∃ r q,(∀ {env:aQ}{i:Nat}{m:DE W}{p0:Int},env[i]?=ae (xB n)->m env (pt bx n p0)=.val (.d<|.int k) (pt bx n p)->fm K1.fr 2 (fc (dV i)<|fc m fg) env (pt bx n p0)=.val (.d<|.int r) (pt bx n q)) /\ 0<=r /\ r<k:=by
 let#[r,q,t,a,b]:=G1 h p k h0 h1;show#[r,q,λhe hm=>fJ (fj (by rw[oJ,he])<|fj hm zc) zc t,a,b]
theorem Kd (h:n<bx.length) (p:Int) (l:List Int) (ks:DE<|List W) (hk:∀ e b,ks e b=.val ((l.map D.int).map W.d) b) {k:Int}(hl:(l.length:Int)=k) (h0:0<k) (h1:k<1000) :
 ∃ v q,(∀ (env:aQ) (i:Nat),env[i]?=ae (xB n)->d2 af aq (gx af ks) (fm K1.fr 2<|fc (dV i)<|fc (dC<|.int k) fg) env (pt bx n p)=.val (.d<|.int v) (pt bx n q)) /\ v∈l:=by
 let#[r,q,t,a,b]:=k6 h p k h0 za;let#[d,e,m]:=lV (l:=l.map D.int) a (by rw[a5,hl];show b);let#[v,mv,rfl]:=bA.mp m;have sz:=bp;show#[v,q,λenv i he=>fw (r:=.old _) (j9 _ (hk _ _) (by rw[a5];lia)) (t he zc) (by simp[aq,e,rV]),mv]
theorem U4 {l:List D}(h:m env bx=.val (.b j) bx1) (g:bx1[j]?=ae (.lst l)):dN af cM (fc m fg) env bx=.val (.d<|.int l.length) bx1:=by
 rw[Lh,fj h rfl,fS];have:eW bx1 [.b j]=ae [.lst l]:=by simp[eW,bV,g,bY,rV]
 rw[this];rfl
end
theorem Bj {lo:Int}{m:Nat}{w:W}(h:(fM lo m)[j]?=ae w):w=.d (.int<|lo+j) /\ j<m:=by
 have hm:j<m:=by simpa[fM] using (List.getElem?_eq_some_iff.mp h).1
 simp[fM,hm]at h;show#[h.symm,hm]
section
variable {ay:List Bx}
theorem l7 {i:Nat}{x y:W}{a b:DE W}(h1:a env bx=.val x bx1) (h2:b env bx1=.val y ay):eY i j (fc a<|fc b fg) env bx=.nx ((env.set i<|ae x).set j<|ae y) ay:=by
 unfold eY;rw[fj h1<|fj h2 rfl,iq]
end
end bM
namespace K2
open L2 L2.DL K1
end K2
namespace bM
open L2 L2.DL K1
section
variable {ay:List Bx}
theorem Ru {k:DE W}{t:Nat}{i:Int}{l l0:List D}{d:D}(h1:m env bx=.val (.b j) bx1) (g0:bx1[j]?=ae (.lst l0)) (h2:k env bx1=.val (.d<|.int i) ay) (g:ay[j]?=ae (.lst l)) (hi:-(2 ^ 63)<=i /\ i<2 ^ 63) (hx:cy l.length i=ae t) (hd:l[t]?=ae d) :
 wa m k env bx=.val (.d d) (ay.set j<|.lst<|l.eraseIdx t):=by
 unfold wa;rw[h1,fS];erw[g0,h2,fS,g,if_pos hi,hx,hd]
end
theorem Rv {m t:Nat}(h:t<m):cy m (t:Int)=ae t:=by
 unfold cy;simp;lia
open K2
theorem gT {k:DE W}{r:O W}(h:m env bx=.val (.d<|.bl ah) bx1) (h2:k env bx1=r):gz m k env bx=r:=by rw[CG h];show h2
theorem U5 {k:DE W}(h:m env bx=.val (.d<|.bl af) bx1):gz m k env bx=.val (.d<|.bl af) bx1:=by rw[CG h];rfl
section
variable {h:D} {k:Nat}
end
theorem Nq (is:List Int) (b:Int):nF (.int b) (is.map D.int)=is.any λz=>decide (z=b):=by
 unfold nF;rw[Hl];rfl
theorem Ll (is:List Int):(is.map D.int).all kL=ah:=by rw[vk];show cZ.mpr λ_ _=>rfl
end bM
namespace kn
open L2 L2.DL
open K1 bM
section
variable {enc:α -> D} {r:aQ}
theorem adY (p:α->Bool) (f:α->D):∀ (l:List α) (w:Option W) (acc:List D),acc.length+l.length<=sizeLine->(∀ a∈l,tf (ae (.d<|enc a)::r) bx=.val (p a) bx /\ (p a=ah->te (ae (.d<|enc a)::r) bx=.val (.d<|f a) bx)) ->
 bG (fe 0) tf te ((l.map enc).map W.d) (w::r) bx acc=.val (acc++(l.filter p).map f) bx:=by
 intro l_;induction l_ with
 |nil=>(intro w acc _ _;simp[bG])
 |cons a l az=>
   intro w acc n h;let#[h1,h2]:=h a<|bC ..;rw[bD]at n;have n':acc.length<sizeLine:=by lia
   have e0:fe 0 _ (w::r) bx=ae (ae (W.d<|enc a)::r,bx):=rfl;cases c:p a with
   |false=>
     rw[tF (by simp[c]),<-az (ae<|W.d<|enc a) acc za λx m=>h x<|bu _ m];rw[c]at h1;simp[aU,bG,e0,h1,oH]
   |true=>
     rw[tH c];rw[c]at h1;erw[aU,bG,e0,h1,h2 c,oH,if_pos n',(az _ (acc++[f a]) zh λx m=>h x<|bu _ m)];simp
theorem aiG {src:List (Option Nat)}{qw:List Bx}{l:List α}(p:α->Bool) (f:α->D) (h1:mi env qw=.val ((l.map enc).map W.d) bx) (he:eD src env=ag::r) (n:l.length<=sizeLine)
 (h:∀ a∈l,tf (ae (.d<|enc a)::r) bx=.val (p a) bx /\ (p a=ah->te (ae (.d<|enc a)::r) bx=.val (.d<|f a) bx)):fK af src mi (fe 0) tf te env qw=.val (.d<|.lst<|(l.filter p).map f) bx:=
 gn h1 he (by rw[adY p f l ag [] (by simpa using n) h];rfl)
theorem Zj {src:List (Option Nat)}{qw:List Bx}{l:List α}(f:α->D) (h1:mi env qw=.val ((l.map enc).map W.d) bx) (he:eD src env=ag::r) (n:l.length<=sizeLine)
 (h:∀ a∈l,te (ae (.d<|enc a)::r) bx=.val (.d<|f a) bx):fK af src mi (fe 0) fN te env qw=.val (.d<|.lst<|l.map f) bx:=by
 have:=aiG (tf:=fN) _ f h1 he n λa m=>#[rfl,λ_=>h a m]
 rwa [List.filter_eq_self.mpr λ_ _=>rfl]at this
theorem Cb (l:List α) (p:α->Bool):pN (l.map λd=>D.bl<|p d)=ae (l.map p):=by
 induction l with
 |nil=>rfl
 |cons d l ih=>simp[pN,ih]
theorem Zk {src:List (Option Nat)}{qw:List Bx}{l:List α}(p:α->Bool) (h1:mi env qw=.val ((l.map enc).map W.d) bx) (he:eD src env=ag::r) (n:l.length<=sizeLine)
 (h:∀ a∈l,te (ae (.d<|enc a)::r) bx=.val (.d<|.bl<|p a) bx):dN af dj (fc (fK af src mi (fe 0) fN te) fg) env qw=.val (.d<|.bl<|l.all p) bx:=
 iQ (r:=.old _) [.lst _] (fj (Zj _ h1 he n h) zc) (by simp[dj,Cb])
end
noncomputable abbrev tupI (l:List Int):D:=.tup<|l.map D.int
abbrev xU (l:List Int):Option W:=ae<|.d<|tupI l
theorem DY:∀ l:List Int,PyData.canLayAll0 (bI<|l.map D.int)=ah /\ PyData.depthAll (bI<|l.map D.int)=0:=by
 intro l_;induction l_ with
 |nil=>show#[rfl,rfl]
 |cons i l az=>
   let#[a,b]:=az;simp[bI,toPy,PyData.canLayAll0,PyData.canLay0,PyData.depthAll,PyData.depth,a,b]
theorem Nr:∀ l:List (List Int),PyData.canLayAll0 (bI<|l.map tupI)=ah /\ PyData.depthAll (bI<|l.map tupI)<=1:=by
 intro l_;induction l_ with
 |nil=>show#[rfl,dM _]
 |cons i l az=>
   let#[a,b]:=az;let#[c,d]:=DY i;erw[aU,bI,toPy,PyData.canLayAll0,PyData.canLay0,PyData.depthAll,PyData.depth,a,c];show#[rfl,by lia]
theorem Rw (l:List Int):e9 (tupI l)=ah:=by
 let#[c,d]:=DY l;simp[e9,toPy,PyData.canLay0,PyData.depth,c,d]
theorem Nt (l:List<|List Int):e9 (.lst<|l.map tupI)=ah:=by
 let#[c,d]:=Nr l;unfold e9;simp[toPy,PyData.canLay0,PyData.depth,c,Bool.true_and,decide_eq_true_eq];lia
theorem FZ (ps:List<|Int×Int):ps.map dP=(ps.map λq=>[q.1,q.2]).map tupI:=by rw[bJ];rfl
theorem Nu (a b:Int×Int):eqv (dP a) (dP b)=decide (a=b):=by
 rw[kQ];let#[a1,a2]:=a;let#[b1,b2]:=b;simp[eqv,toPy,bI,PyData.eqv,PyData.eqvAll]
theorem U6 (ps:List<|Int×Int) (q:Int×Int):((ps.map dP).any λz=>eqv z<|dP q)=decide (q∈ps):=by
 rw[kQ,kz,decide_eq_true_eq];constructor
 .rintro⟨z,m,e⟩;let#[x,mx,rfl]:=bA.mp m;rw[Nu,decide_eq_true_eq]at e;show e▸mx
 .intro m;show#[dP q,bA.mpr #[q,m,rfl],by rw[Nu,decide_eq_true_eq]]
end kn
namespace aJ
open L2 L2.DL K1 kn
open HT (cH)
abbrev hs (rs ks:List D) (ps:List<|Int×Int) (hd:D):D:=.tup [.tup rs,.tup ks,.tup<|ps.map dP,hd]
structure Hs (rs ks:List D) (ps:List<|Int×Int) (hd:D):zt where
 r1:1<=rs.length
 r5:rs.length<=5
 k1:1<=ks.length
 k4:ks.length<=4
 b:∀ p∈ps,p.1<p.2
 l:ps.length<=1000
 hh:house zb=ah
noncomputable def pR (nr nk:Nat):Pg->zt
 |.aF h l k r p w=>0<=h /\ (0<=l /\ l<=9) /\ (0<=k /\ k<(nk:Int)) /\ (0<=r /\ r<(nr:Int)) /\ (0<=p /\ p<=999) /\ 0<=w /\ w<=99
 |.to h l r=>0<=h /\ (0<=l /\ l<=9) /\ 0<=r /\ r<(nr:Int)
 |.out h l=>0<=h /\ 0<=l /\ l<=9
theorem eq_str (a b:Str):aY (.str a) (.str b)=ae (.old<|.bl<|decide (a=b)):=rfl
theorem ne_str (a b:Str):eK (.str a) (.str b)=ae (.old<|.bl<|!decide (a=b)):=rfl
theorem U7:(("in":Str)="out")=False:=eq_false ze
theorem WH:(("in":Str)="to")=False:=eq_false ze
theorem Lm:(("out":Str)="in")=False:=eq_false ze
theorem WI:(("out":Str)="to")=False:=eq_false ze
theorem F6:(("to":Str)="in")=False:=eq_false ze
theorem Rx:(("to":Str)="out")=False:=eq_false ze
noncomputable def adZ (rs ks:List D):Pg->List D
 |.aF ..=>[.int 9,.int<|(ks.length:Int)-1,.int<|(rs.length:Int)-1,.int 999,.int 99]
 |.to ..=>[.int 9,.int<|(rs.length:Int)-1]
 |.out ..=>[.int 9]
noncomputable def cu:Pg->Str
 |.aF ..=>"in"
 |.to ..=>"to"
 |.out ..=>"out"
theorem CM (g:Pg):g9 [.d zb,.d<|.str<|cu g] bx=.val (.d<|.tup<|adZ rs ks g) bx:=
 fT (by
  have s5:(5)<=sizeLine:=by decide
  have s1:(1)<=sizeLine:=by decide
  have s2:(2)<=sizeLine:=by decide
  cases g<;>simp[jF,eY,cM,aq,bF,cy,bR,eq_str,cu,adZ,U7,WH,Lm,WI,F6,Rx,s5,s1,s2])
theorem oT {i:Int}(h:0<=i):K2.iB [.d<|.int i] bx=.val (.d<|.bl ah) bx:=
 fT (by simp[K2.B6,DP,wh,ny,h])
theorem U8 (g:Pg) (ok:pR rs.length ks.length g):j0 [.d zb,.d<|enc g] bx=.val (.d<|.bl ah) bx:=by
 have z:=bp;have fin:∀ (l:List<|Int×Int) {env:aQ}{k:DE _},l.length<=5->(∀ a∈l,0<=a.1 /\ a.1<=a.2)->k env bx=.val ((l.map λa=>D.tup [.int a.1,.int a.2]).map W.d) bx->dN af dj (fc (fK af [ag,ag] k (fL 2<|fq (fe 0)<|fq (fe 1) fO) fN<|fm K1.fY 3<|fc (dV 0)<|fc zg<|fc (dV 1) fg) fg) env bx=.val (.d<|.bl ah) bx:=λl env k n h e=>by
  refine(iQ [.lst<|(l.map λa=>D.int a.1).map λd=>.bl<|(λ_=>ah) d] (fj (gn e zc<|(uq (J:=λe=>∃ a b,e=[a,b]) (λ_=>ah) (λ_=>.bl ah) (λ_=>#[_,_,rfl]) l [ag,ag] [] zh #[_,_,rfl] (λx _ env ⟨a,b,e⟩=>by subst e;rfl) λx m=>#[rfl,λ_=>(cV<|oK (.int x.1) 0 x.2 bx).trans (by rw[show wi (.int x.1) 0 x.2=ah by simp[wi];show h x m])]).trans (by rw[List.filter_eq_self.mpr λ_ _=>rfl,bJ];rfl)) zc)<|all_map (l.map λa=>D.int a.1) λ_=>ah).trans zj
 cases g with
 |aF h l k r p w=>
   let#[a,b,c,d,e,f]:=ok;show fT<|qF (lK zc<|lK zc<|iC<|fV<|cV<|oT a)<|qS (cV<|CM<|.aF h l k r p w)<|qF zc<|fU<|fin [(l,9),(k,(ks.length)-1),(r,(rs.length)-1),(p,999),(w,99)] zj zh zc
 |to h l r=>
   let#[a,b,c]:=ok;show fT<|qF (lK zc<|lK zc<|iC<|fV<|cV<|oT a)<|qS (cV<|CM<|.to h l r)<|qF zc<|fU<|fin [(l,9),(r,(rs.length)-1)] zj zh zc
 |out h l=>
   let#[a,b]:=ok;show fT<|qF (lK zc<|lK zc<|iC<|fV<|cV<|oT a)<|qS (cV<|CM<|.out h l)<|qF zc<|fU<|fin [(l,9)] zj zh zc
theorem WJ {i:Nat}{g:Pg}(h:qs[i]?=ae g):bF (qs.map enc) (i:Int)=ae (enc g):=Ck (by rw[kr,h];rfl)
theorem WK (h:EG qs) (hl:qs.length<=16):K1.gX [.d<|.lst<|qs.map enc] bx=.val (.d<|.bl ah) bx:=by
 have z:sizeLine=16777216:=bp;refine fT<|fU ?_;have rg:qQ (fc zd<|fc (dN af cM<|fc (dV 0) fg) fg) [ae<|.d<|.lst<|qs.map enc] bx=.val (((List.range<|qs.length-1).map λ(i:Nat)=>D.int<|1+(i)).map W.d) bx:=by
  rw[CB (i:=1) (j:=(qs.length)) (bx1:=bx) (by simp[cM]),show ((qs.length:Int)-1).toNat=qs.length-1 by lia,bJ];rfl
 have:=Zk (r:=[ae _]) (te:=d2 af cT (d2 af aq (dV 1)<|d2 af bR (dV 0)<|dC _)<|d2 af aq (dV 1)<|dV 0) (src:=[ag,ae 0]) _ rg zc (by simp;lia) λi m=>by
  have hi:=List.mem_range.mp m;have e1:qs[i]?=ae qs[i]:=cY za;have e2:qs[i+1]?=ae qs[i+1]:=cY za;refine fw (r:=.old<|.bl ah) (x:=enc qs[i]) (y:=enc qs[i+1]) (fw (r:=.old<|enc qs[i]) (x:=.lst<|qs.map enc) (y:=.int (i:Int)) zc (fw (r:=.old<|.int (i:Int)) (x:=.int<|1+(i:Int)) (y:=.int 1) zc zc ?_) ?_) (fw (r:=.old<|enc qs[i+1]) (x:=.lst<|qs.map enc) (y:=.int<|1+(i:Int)) zc zc ?_) ?_
  .simp[bR];lia
  .simp[aq,WJ e1]
  .have:=WJ e2;rw[show ((i+1:Nat):Int)=1+(i:Int) by lia]at this;simp[aq,this]
  .rw[UY,(List.pairwise_iff_getElem.mp h i (i+1) za za za)]
 rw[cZ.mpr λ_ _=>rfl]at this;show this
theorem Cc {e2:aQ}{s:List (Option Nat)}{l:List D}(hm:mi env bx=.val (l.map W.d) bx) (he:eD s env=ag::e2) (n:l.length<=1000) (h:∀ x∈l,te (ae (.d x)::e2) bx=.val (.d<|.bl ah) bx):dN af dj (fc (fK af s mi (fe 0) fN te) fg) env bx=.val (.d<|.bl ah) bx:=by
 have z:=bp;show(iQ _ (fj (gn hm he<|A9 (λe=>∃ w,e=w::e2) _ #[_,rfl] (λx m e ⟨w,je⟩=>#[ae _::e2,by rw[je];rfl,#[_,rfl],h x m]) za) zc)<|all_map l λ_=>ah).trans zj
theorem Bm {d:D}{lo hi:Int}(h:wi d lo hi=ah):K1.fY [.d d,.d<|.int lo,.d<|.int hi] bx=.val (.d<|.bl ah) bx:=by rw[oK,h]
theorem Ah {l:List D}{lo hi:Int}(h:tl (.tup l) lo hi=ah):K1.f9 [.d<|.tup l,.d<|.int lo,.d<|.int hi] bx=.val (.d<|.bl ah) bx:=by rw[Nb,h]
theorem Ry {d:D}(h:yd d=ah):K1.jS [.d d] bx=.val (.d<|.bl ah) bx:=by
 have z:=bp;cases d with
 |tup l=>
   simp[yd,aI,cZ]at h;let#[t,a,f]:=h;refine fT<|qF (lK (iC<|fV<|cV<|Ah t)<|iC<|fV<|Cc (gM zc) zc (by have:=oM t;lia) λx m=>cV<|Bm<|a x m)<|fU ?_;let#[p,q,r,s,rfl]:=aiD t;let#[p,rfl,_]:=mJ<|a p zj;let#[q,rfl,_]:=mJ<|a q zj;let#[r,rfl,_]:=mJ<|a r zj;let#[s,rfl,_]:=mJ<|a s zj;simp[wo,aI,decide_eq_true_eq]at f;refine(iQ (r:=.old _) [.lst _] (fj (gn (l:=([(p,q),(q,r),(r,s)].map λa:Int×Int=>D.tup [.int a.1,.int a.2]).map W.d) zc zc<|(uq (J:=λe=>∃ a b,e=[a,b]) _ _ (λ_=>#[_,_,rfl]) _ _ [] zh #[_,_,rfl] (λx _ env ⟨a,b,e⟩=>by subst e;rfl) λx m=>#[rfl,λ_=>(fw (r:=.old<|.bl ah) zc zc (by simp at m;simp[dq];rcases m with rfl|rfl|rfl<;>lia))])) zc) zc)
 |_=>cases h
theorem U9 {d:D}(h:kind d=ah):K1.mE [.d d] bx=.val (.d<|.bl ah) bx:=by
 cases d with
 |tup l=>
   simp[kind,aI]at h;let#[t,h]:=h;let#[a,b,rfl]:=adS t;simp[aI]at h;show fT<|fU<|bM.gT (cV<|Ah t)<|bM.gT (cV<|Bm h.1)<|cV<|Ry h.2
 |_=>cases h
theorem Va {d:D}{n:Int}(h:sU n d=ah):K1.iA [.d d,.d<|.int n] bx=.val (.d<|.bl ah) bx:=by
 cases d with
 |tup l=>
   simp[sU,aI]at h;let#[t,h]:=h;split at h
   .simp[aI,decide_eq_true_eq]at h;show fT<|qF (iC<|fV<|cV<|Ah t)<|fU<|bM.gT (Cc (gM zc) zc (by simp) λx m=>cV<|Bm (d:=x) (lo:=0) (hi:=n-1) (by simp at m;rcases m with rfl|rfl<;>(simp[wi,aI,decide_eq_true_eq];lia)))<|fw (r:=.old _) zc zc (by simp[cT];show h.1.2)
   .cases h
 |_=>cases h
theorem Rz (h:Hs rs ks ps hd):K1.lD [.d zb] bx=.val (.d<|.bl ah) bx:=by
 have z:=bp;have l:=h.l;have q:=h.hh;erw[house,aI,rooms,kinds,apart,cZ]at q;let#[#[t1,q1],#[t2,q2],#[q3,i],q4]:=q;rw[GT]at i;have ri:=Li ps za bx;rw[i]at ri;have e1:K1.jR [.d _] bx=.val _ bx:=fT<|fU<|bM.gT (cV<|Ah t1)<|Cc (gM zc) zc (by have:=oM t1;lia) λx m=>cV<|Bm<|q1 x m;have e2:K1.jT [.d _] bx=.val _ bx:=fT<|fU<|bM.gT (cV<|Ah t2)<|Cc (gM zc) zc (by have:=oM t2;lia) λx m=>cV<|U9<|q2 x m;have e3:K1.jU [.d _,.d _] bx=.val _ bx:=fT<|qF zc<|fU<|bM.gT (Cc (gM zc) zc (by rw[a5];lia) λx m=>cV<|Va<|q3 x m)<|cV ri;show fT<|qF (iC<|fV<|cV<|Ah zc)<|qG zc zc<|fU<|bM.gT (cV e1)<|bM.gT (cV e2)<|bM.gT (cV e3)<|cV<|Bm q4
theorem m8 (h:Hs rs ks ps hd):bM.iH [.d zb] bx=.val (.d .non) bx:=by
 have b:bM.jY _ bx=.nx [ae _] bx:=
  (gu<|iC<|fV<|fJ zc zc<|Rz (bx:=bx) h)
 change nX bx.length (nW<|aP bM.jY [ae _] bx)=_;unfold aP;rw[b];simp[nW,nX]
theorem Nv (l:List D):uR (qT<|.lst l) "list"=ah:=rfl
structure Gs (nr nk:Nat) (gs:List Pg):zt where
 ok:∀ g∈gs,pR nr nk g
 nd:gs.Nodup
 l:gs.length<=16
theorem Gs.perm {nr nk:Nat}{g2:List Pg}(G:Gs nr nk gs) (p:g2.Perm gs):Gs nr nk g2:=#[λg m=>G.ok g<|p.mem_iff.mp m,p.nodup_iff.mpr G.nd,by rw[p.length_eq];show G.l]
theorem RC (G:Gs rs.length ks.length gs):j5 [.d zb,.d zk] bx=.val (.d<|.bl ah) bx:=by
 have z:=bp;have gl:=G.l;let#[qs,p,r,e]:=GW G.nd za;have ql:=p.length_eq;refine fT ?_;have t:kU (eJ<|dB<|ly "list"<|dV 1) (dB<|d2 af eZ (dN af cM<|fc (dV 1) fg)<|dC<|.int 16) [ae<|.d zb,ae<|.d zk] bx=.val af bx:=by
  simp[Nv,cM,eZ];lia
 have a:dN af dj (fc (fK af [ag,ae 0] (bj<|dV 1) _ fN<|fm aJ.j0 2<|fc (dV 1)<|fc (dV 0) fg) fg) [ae<|.d zb,ae<|.d zk] bx=.val (.d<|.bl<|gs.all λ_=>ah) bx:=
  Zk _ (gp zc) zc (by lia) λg m=>fJ zc zc<|U8 g<|G.ok g m
 rw[cZ.mpr λ_ _=>rfl]at a;refine(fv<|gu t).trans (fU ?_);rw[CG a,if_pos rfl];show fJ (fj (iQ [.lst<|gs.map enc] (fj zc zc)<|e gs<|.refl _) zc) zc<|WK r za
theorem CN (h:Hs rs ks ps hd) (G:Gs rs.length ks.length gs):jz [.d zb,.d zk] bx=.val (.d .non) bx:=by
 have b:j6 [ae<|.d zb,ae<|.d zk] bx=.nx [ae<|.d zb,ae<|.d zk] bx:=by
  refine(fv<|ig<|fJ zc zc<|m8 h).trans ?_;show(gu<|iC<|fV<|fJ zc zc<|RC G)
 change nX bx.length (nW<|aP j6 [ae _,ae _] bx)=_;unfold aP;rw[b];simp[nW,nX]
noncomputable abbrev Al:=List<|Int×Int
noncomputable def look (l:Al) (x:Int):Option Int:=(l.find? λq=>decide (q.1=x)).map (·.2)
noncomputable def put (l:List<|Int×α) (x:Int) (v:α):List (Int×α):=if (l.any λq=>decide (q.1=x))=ah then l.map (λq=>if q.1=x then (q.1,v) else q) else l++[(x,v)]
noncomputable def eP (l:List<|Int×α) (x:Int):List (Int×α):=l.filter λq=>decide (q.1≠x)
def kk (K:Al) (l:Int):Int:=(look K l).getD 0
noncomputable def dh (ps:Al) (a b:Int):Bool:=decide ((a,b)∈ps)||decide ((b,a)∈ps)
def kN (ps K R:Al) (k r:Int):Bool:=R.any λq=>decide (q.2=r)&&dh ps k (kk K q.1)
def word (ps K R:Al):Pg->Str
 |.aF _ l k r _ _=>if (look K l).isSome then "there" else if kN ps K R k r then "apart" else "takes"
 | .to _ l r=>match look R l with
   |none=>"none"
   |some r0=>if r0=r then "same" else if kN ps K R (kk K l) r then "apart" else "takes"
 | .out _ l=>match look R l with
   |none=>"none"
   |some _=>"takes"
noncomputable def a6:Pg->Int
 |.aF _ l ..=>l
 |.to _ l _=>l
 |.out _ l=>l
def stK (K:Al):Pg->Al
 |.aF _ l k ..=>put K l k
 |_=>K
def pS (R:Al):Pg->Al
 |.aF _ l _ r ..=>put R l r
 |.to _ l r=>put R l r
 |.out _ l=>eP R l
def wordsOf (ps:Al):Al->Al->List Pg->List Str
 |_,_,[]=>[]
 |K,R,g::gs=>word ps K R g::(if word ps K R g="takes" then wordsOf ps (stK K g) (pS R g) gs else wordsOf ps K R gs)
structure dA (K R:Al) (n:Nat):zt where
 nd:(R.map (·.1)).Nodup
 sub:∀ q∈R,(look K q.1).isSome=ah
 lk:K.length<=n
 lr:R.length<=n
section
variable {e:α -> D}
noncomputable def a8 (e:α->D) (l:List<|Int×α):List (Key×D):=l.map λq=>(.inl q.1,e q.2)
abbrev bz (l:Al):List (Key×D):=a8 D.int l
theorem G2 (a b:Int):decide ((Sum.inl a:Key)=Sum.inl b)=decide (a=b):=by
 by_cases h:a=b
 .simp
 .rw[decide_eq_false h];show decide_eq_false λz=>h<|Sum.inl.inj z
theorem lc (l:List<|Int×α) (x:Int):hV (a8 e l) (.inl x)=((l.find? λq=>decide (q.1=x)).map (·.2)).map e:=by
 unfold hV a8;rw[abe];have:((λkv:Key×D=>decide (kv.1=Sum.inl x))∘λq:Int×α=>((Sum.inl q.1),e q.2))=λq=>decide (q.1=x):=by
  funext q;show G2 q.1 x
 rw[this];cases l.find? λq=>decide (q.1=x)<;>rfl
theorem RD (l:List<|Int×α) (x:Int):((a8 e l).any λkv=>decide (kv.1=Sum.inl x))=l.any λq=>decide (q.1=x):=by
 unfold a8;rw[Hl];congr 1;funext q;show G2 q.1 x
theorem G3 (l:List<|Int×α) (x:Int) (v:α):Ex (a8 e l) (.inl x) (e v)=a8 e (put l x v):=by
 unfold Ex put;rw[RD];split
 .unfold a8;rw[bJ,bJ];refine qD λq _=>?_;by_cases h:q.1=x
  .simp[h]
  .simp[h]
 .unfold a8;simp
theorem DZ (l:List<|Int×α) (x:Int):uj (a8 e l) (.inl x)=a8 e (eP l x):=by
 unfold uj eP a8;rw[abf];congr 1;congr 1;funext q;by_cases h:q.1=x<;>simp
theorem m9 (l:List<|Int×α) (x:Int) (v:α):(put l x v).length<=l.length+1:=by
 unfold put;split<;>simp
end
theorem D0 {R:Al}(nd:(R.map (·.1)).Nodup) {q:Int×Int}(m:q∈R):look R q.1=ae q.2:=by
 induction R with
 |nil=>cases m
 |cons a R ih=>
   rw[aU,tK]at nd;unfold look;rw[rQ];rcases bq.mp m with rfl|m
   .simp
   .have:¬ a.1=q.1:=λz=>nd.1 (by rw[z];show rR m);rw[decide_eq_false this];show ih nd.2 m
theorem F7 (ps:Al):e9 (.tup<|ps.map dP)=ah:=by
 have h:=Nt<|ps.map λq=>[q.1,q.2];rw[<-FZ]at h;unfold e9 at h ⊢;simpa[toPy,PyData.canLay0,PyData.depth] using h
theorem D3 (neg:Bool) (q:Int×Int) (ps:Al):inD neg (dP q) (.tup<|ps.map dP)=ae (.old<|.bl (if neg then !decide (q∈ps) else decide (q∈ps))):=by
 change (if kL (dP q)=ah /\ (ps.map dP).all kL=ah then ae (Res.old<|.bl (if neg then !nF (dP q) (ps.map dP) else nF (dP q) (ps.map dP))) else v9 neg _ _ _)=_;unfold v9;rw[show e9 (dP q)=ah from Rw [q.1,q.2],F7,U6];rfl
theorem RE (h:Hs rs ks ps hd) (a b:Int):iV [.d zb,.d<|.int a,.d<|.int b] bx=.val (.d<|.bl<|!dh ps a b) bx:=by
 have z:(2)<=sizeLine:=by decide
 refine fT<|fU ?_;have e1:fQ (fc (dN af minD<|fc (dV 1)<|fc (dV 2) fg)<|fc (dN af maxD<|fc (dV 1)<|fc (dV 2) fg) fg) [ae<|.d zb,xN a,xN b] bx=.val (.d<|dP (if b<a then b else a,if b>a then b else a)) bx:=rfl;have e2:d2 af aq (dV 0) zr [ae<|.d zb,xN a,xN b] bx=.val _ bx:=rfl;refine(fw e1 e2<|D3 ah _ ps).trans ?_;have:decide ((if b<a then b else a,if b>a then b else a)∈ps)=dh ps a b:=by
  unfold dh;rw[kQ];simp[wO,decide_eq_true_eq];by_cases c:b<a
  .rw[if_pos c,if_neg za];show#[.inr,λz=>z.elim (λz=>absurd (h.b _ z) zh) id]
  .rw[if_neg c];by_cases d:b>a
   .rw[if_pos d];show#[.inl,λz=>z.elim id λz=>absurd (h.b _ z) zh]
   .rw[if_neg d];have:a=b:=by lia
    subst this;show#[.inl,λz=>z.elim id id]
 rw[this];rfl
theorem CO (g:Pg):fP [.d<|enc g] bx=.val (.d (match g with|.aF _ _ _ r _ _=>.int r|.to _ _ r=>.int r|.out ..=>.non)) bx:=
 fT (by cases g<;>simp[lG,enc,eF,cJ,kK,aq,bF,cy,eq_str,F6,Lm,WI])
section
variable {e:α -> D} {L:List (Int × α)} {k:DE W} {i:Nat} {l:Int}
theorem D4 (neg:Bool) (hk:k env bx=.val (.d<|.int l) bx) (hm:m env bx=.val (.b i) bx) (hb:rn bx (.b i)=ae (a8 e L)) :
 dz neg k m env bx=.val (.d (.bl (if neg then !((L.find? λq=>decide (q.1=l)).map (·.2)).isSome else ((L.find? λq=>decide (q.1=l)).map (·.2)).isSome))) bx:=by
 unfold dz;rw[hk,fS,hm,fS,hb];change O.val _ bx=_;rw[lc,pG]
theorem lM {v:α}(hk:k env bx=.val (.d<|.int l) bx) (hm:m env bx=.val (.b i) bx) (hb:rn bx (.b i)=ae (a8 e L)) (hf:(L.find? λq=>decide (q.1=l)).map (·.2)=ae v):cj m k env bx=.val (.d<|e v) bx:=by
 unfold cj;rw[hm,fS,hk,fS,hb];change (match hV _ _ with|some u=>O.val _ bx|none=>.bad)=_;rw[lc,hf];rfl
theorem lh {l:List (Key×D)}(h:bx[i]?=ae (.aB l)):rn bx (.b i)=ae l:=by unfold rn;simp[h]
theorem SW {l:List (Key×D)}(h:bx[i]?=ae (.fD l)):rn bx (.b i)=ae l:=by unfold rn;simp[h]
theorem D5:rC (a8 e L)=(L.map λq=>D.int q.1).map W.d:=by
 unfold rC a8;rw[bJ,bJ];rfl
end
theorem D6 {x y:Bx}(h:bx[j]?=ae x):(bx.set j y).set j x=bx:=by
 rw[aba];apply wV;intro n;by_cases e:j=n
 .subst e;rw[pZ (List.getElem?_eq_some_iff.mp h).1,h]
 .rw[tm e]
theorem WL {l:List (Key×D)}(h:bx[j]?=ae (.aB l)):pb j (bx.set j<|.fD l)=ae bx:=by
 unfold pb;rw[pZ (List.getElem?_eq_some_iff.mp h).1];simp[D6 h]
section
variable {K R:List (Int × Int)} {i:Nat} 
abbrev Zl:DE W:=we af [ag,ae 2,ae 6] 2 (fe 0) (dB<|d2 af aY (cj (dV 1)<|dV 0)<|dV 2)<|dV 0
theorem Yp (J:dA K R n) (hn:n<=100) (hj:bx[j]?=ae (.aB<|bz R)) {r:Int}(h2:env[2]?=ae (xB j)) (h6:env[6]?=ae (xN r)) :
 Zl env bx=.val (.d<|.lst<|(R.filter λq=>decide (q.2=r)).map λq=>D.int q.1) bx:=by
 have z:sizeLine=16777216:=bp;have lr:=J.lr;unfold Zl we;erw[h2,hj];have s:eD [ag,ae 2,ae 6] env=[ag,xB j,xN r]:=by simp[h2,h6]
 rw[s,show rC (bz R)=(R.map λq=>D.int q.1).map W.d from D5,(adY (tf:=dB _) (te:=dV 0) (r:=[ae _,ae _]) _ _ R ag [] zh λq m=>
  #[fV<|fw (r:=.old _) (lM zc zc (SW<|pZ (a:=.fD<|bz R) (List.getElem?_eq_some_iff.mp hj).1)<|D0 J.nd m) zc<|rfl,λ_=>rfl]),fS]
 change xZ j (.val _ _)=_;unfold xZ;erw[WL hj];rfl
abbrev ad0:DE W:=dN af dj<|fc (fK af [ag,ae 0,ae 1,ae 7] (bj<|dV 8) (fe 0) fN<|fm aJ.iV 3<|fc (dV 1)<|fc (dV 3)<|fc (cj (dV 2)<|dV 0) fg) fg
theorem Yq (h:Hs rs ks ps hd) (J:dA K R n) (hn:n<=100) (hi:bx[i]?=ae (.aB<|bz K)) {r k:Int}(h0:env[0]?=ae (ae<|.d zb)) (h1:env[1]?=ae (xB i)) (h7:env[7]?=ae (xN k))
 (h8:env[8]?=ae (ae<|.d<|.lst<|(R.filter λq=>decide (q.2=r)).map λq=>D.int q.1)):ad0 env bx=.val (.d<|.bl<|!kN ps K R k r) bx:=by
 have z:sizeLine=16777216:=bp;have lr:=J.lr;have fl:=wW (λq:Int×Int=>decide (q.2=r)) R;have it:bj (dV 8) env bx=.val _ bx:=gp (by unfold dV;rw[h8]);have s:eD [ag,ae 0,ae 1,ae 7] env=ag::[ae<|.d zb,xB i,xN k]:=by simp[h0,h1,h7]
 refine(Zk (λq=>!dh ps k (kk K q.1)) it s za λq m=>?_).trans ?_
 .let#[v,hv]:=Option.isSome_iff_exists.mp<|J.sub q (rS.mp m).1;have e:kk K q.1=v:=by unfold kk;rw[hv];rfl
  rw[e];show fJ (fj zc<|fj zc<|fj (lM zc zc (lh hi) hv) zc) zc<|RE h k v
 .congr 3;unfold kN;rw[kQ];erw[cZ,rS,tj,Hd,aI,decide_eq_true_eq,not_and,Bool.not_eq_true];show#[λa q m c=>a q #[m,c],λa q m=>a q m.1 m.2]
def aiH:aC:=(fu (fE Zl<|fe 8)<|fu (aH (dB ad0) (fF<|dC<|.str "takes") aL)<|fF<|dC<|.str "apart")
theorem WM (h:Hs rs ks ps hd) (J:dA K R n) (hn:n<=100) (hi:bx[i]?=ae (.aB<|bz K)) (hj:bx[j]?=ae (.aB<|bz R)) (x3 x4 x5 x8:Option W) (k r:Int) :
 aiH [ae<|.d zb,xB i,xB j,x3,x4,x5,xN r,xN k,x8] bx=.rt (.d<|.str (if kN ps K R k r then "apart" else "takes")) bx:=by
 have b:=Yq (env:=[ae _,ae _,xB j,x3,x4,x5,xN r,xN k,ae<|.d<|.lst<|(R.filter λq=>decide (q.2=r)).map λq=>D.int q.1]) h J hn hi zc zc zc zc;refine(fv<|gk<|Yp (env:=[ae _,ae _,ae _,x3,x4,x5,ae _,ae _,x8]) J hn hj zc zc).trans ?_;cases c:kN ps K R k r with
 |true=>
   rw[c]at b;show(fv<|gu<|fV b)
 |false=>
   rw[c]at b;show gF<|(ij<|fV b)
theorem Vb (h:Hs rs ks ps hd) (J:dA K R n) (hn:n<=100) (hi:bx[i]?=ae (.aB<|bz K)) (hj:bx[j]?=ae (.aB<|bz R)) (g:Pg) :
 iM [.d zb,.b i,.b j,.d<|enc g] bx=.val (.d<|.str<|word ps K R g) bx:=by
 refine fT ?_;change mH _ bx=_;have eM:mH=(fu _ _):=rfl;rw[eM];have p1:eY 4 5 (fc (d2 af aq (dV 3) zd)<|fc (d2 af aq (dV 3) zr) fg) [ae<|.d zb,xB i,xB j,ae zB,ag,ag,ag,ag,ag] bx=.nx [ae<|.d zb,xB i,xB j,ae zB,ae<|.d<|.str<|cu g,xN<|a6 g,ag,ag,ag] bx:=by
  cases g<;>simp[eY,enc,eF,cJ,kK,aq,bF,cy,cu,a6]
 refine(fv p1).trans ?_;have tE:∀ (w:Str) (x6 x7:Option W),dB (d2 af aY (dV 4)<|dC<|.str w) [ae<|.d zb,xB i,xB j,ae zB,ae<|.d<|.str<|cu g,xN<|a6 g,x6,x7,ag] bx=.val (decide (cu g=w)) bx:=λw x6 x7=>fV<|fw zc zc<|eq_str _ _;have tN:dB (d2 af eK (dV 4)<|dC<|.str "in") [ae<|.d zb,xB i,xB j,ae zB,ae<|.d<|.str<|cu g,xN<|a6 g,ag,ag,ag] bx=.val (!decide (cu g="in")) bx:=fV<|fw zc zc<|ne_str _ _;have iK:dB (dz af (dV 5)<|dV 1) [ae<|.d zb,xB i,xB j,ae zB,ae<|.d<|.str<|cu g,xN<|a6 g,ag,ag,ag] bx=.val (look K<|a6 g).isSome bx:=fV<|D4 af zc zc<|lh hi;have iR:dB (dz ah (dV 5)<|dV 2) [ae<|.d zb,xB i,xB j,ae zB,ae<|.d<|.str<|cu g,xN<|a6 g,ag,ag,ag] bx=.val (!(look R<|a6 g).isSome) bx:=fV<|D4 ah zc zc<|lh hj;cases g with
 |aF h' l k r p w=>
   change _=OS.rt (W.d<|.str (if (look K l).isSome then "there" else if kN ps K R k r then "apart" else "takes")) bx;have t1:=oQ (tE "in" ag ag) iK;cases c:(look K l).isSome with
   |true=>
     rw[show (look K<|a6<|.aF h' l k r p w).isSome=ah from c]at t1;show gF<|(ij t1).trans zc
   |false=>
     rw[show (look K<|a6<|.aF h' l k r p w).isSome=af from c]at t1;refine(fv<|(gu t1).trans zc).trans ?_;refine(fv<|(gu<|oP tN).trans zc).trans ?_;have t3:=tE "out" ag ag;rw[decide_eq_false (show ¬ cu (.aF h' l k r p w)="out" by change ¬ ("in":Str)="out";rw[U7];show id)]at t3;refine(fv<|(gu t3).trans zc).trans ?_;refine(fv<|gk<|fJ (l:=[.d<|enc<|.aF h' l k r p w]) zc zc<|CO _).trans ?_;have t4:=tE "to" (xN r) ag;rw[decide_eq_false (show ¬ cu (.aF h' l k r p w)="to" by change ¬ ("in":Str)="to";rw[WH];show id)]at t4;refine(fv<|(gu<|oP t4).trans zc).trans ?_;have kv:nT (dB<|d2 af aY (dV 4)<|dC<|.str "in") (d2 af aq (dV 3) zo) (cj (dV 1)<|dV 5) [ae<|.d zb,xB i,xB j,ae<|.d<|enc<|.aF h' l k r p w,ae<|.d<|.str<|cu<|.aF h' l k r p w,xN<|a6<|.aF h' l k r p w,xN r,ag,ag] bx=.val (.d<|.int k) bx:=by
      unfold nT;rw[(tE "in" (xN r) ag),fS];rfl
     show(fv<|gk kv).trans (WM h J hn hi hj _ _ _ _ k r)
 |to h' l r=>
   have t1:=tE "in" ag ag;rw[decide_eq_false (show ¬ cu (.to h' l r)="in" by change ¬ ("to":Str)="in";rw[F6];show id)]at t1 tN;refine(fv<|(gu<|oP t1).trans zc).trans ?_;have t2:=oQ tN iR;change _=OS.rt (W.d<|.str (match look R l with|none=>"none"|some r0=>if r0=r then "same" else if kN ps K R (kk K l) r then "apart" else "takes")) bx;cases c:look R l with
   |none=>
     rw[show look R (a6<|.to h' l r)=ag from c]at t2;show gF<|(ij t2).trans zc
   |some r0=>
     rw[show look R (a6<|.to h' l r)=ae r0 from c]at t2;refine(fv<|(gu t2).trans zc).trans ?_;have t3:=tE "out" ag ag;rw[decide_eq_false (show ¬ cu (.to h' l r)="out" by change ¬ ("to":Str)="out";rw[Rx];show id)]at t3;refine(fv<|(gu t3).trans zc).trans ?_;refine(fv<|gk<|fJ (l:=[.d<|enc<|.to h' l r]) zc zc<|CO _).trans ?_;have t4:nv (dB<|d2 af aY (dV 4)<|dC<|.str "to") (dB<|d2 af aY (cj (dV 2)<|dV 5)<|dV 6) [ae<|.d zb,xB i,xB j,ae<|.d<|enc<|.to h' l r,ae<|.d<|.str<|cu<|.to h' l r,xN<|a6<|.to h' l r,xN r,ag,ag] bx=.val (decide (r0=r)) bx:=
      oQ (tE "to" (xN r) ag) (fV<|fw (r:=.old<|.bl<|decide (r0=r)) (x:=.int r0) (y:=.int r) (lM (e:=D.int) (L:=R) zc zc (lh hj) c) zc<|rfl)
     by_cases d:r0=r
     .rw[decide_eq_true d]at t4;change _=OS.rt (W.d<|.str (if r0=r then "same" else if kN ps K R (kk K l) r then "apart" else "takes")) bx;rw[if_pos d];show gF<|(ij t4).trans zc
     .rw[decide_eq_false d]at t4;change _=OS.rt (W.d<|.str (if r0=r then "same" else if kN ps K R (kk K l) r then "apart" else "takes")) bx;rw[if_neg d];refine(fv<|(gu t4).trans zc).trans ?_;obtain⟨q,mq,eq⟩:∃ q∈R,q.1=l:=by
       unfold look at c;cases f:R.find? λq=>decide (q.1=l) with
       |none=>rw[f]at c;cases c
       |some q=>show#[q,Hn f,by have:=Q5 f;simpa using this]
      let#[v,hv]:=Option.isSome_iff_exists.mp<|J.sub q mq;rw[eq]at hv;have ev:kk K l=v:=by unfold kk;rw[hv];rfl
      have t5:=tE "in" (xN r) ag;rw[decide_eq_false (show ¬ cu (.to h' l r)="in" by change ¬ ("to":Str)="in";rw[F6];show id)]at t5;have kv:nT (dB<|d2 af aY (dV 4)<|dC<|.str "in") (d2 af aq (dV 3) zo) (cj (dV 1)<|dV 5) [ae<|.d zb,xB i,xB j,ae<|.d<|enc<|.to h' l r,ae<|.d<|.str<|cu<|.to h' l r,xN<|a6<|.to h' l r,xN r,ag,ag] bx=.val (.d<|.int<|kk K l) bx:=by
       unfold nT;rw[t5,fS,ev];show lM (e:=D.int) (L:=K) zc zc (lh hi) hv
      show(fv<|gk kv).trans (WM h J hn hi hj _ _ _ _ (kk K l) r)
 |out h' l=>
   have t1:=tE "in" ag ag;rw[decide_eq_false (show ¬ cu (.out h' l)="in" by change ¬ ("out":Str)="in";rw[Lm];show id)]at t1 tN;refine(fv<|(gu<|oP t1).trans zc).trans ?_;have t2:=oQ tN iR;change _=OS.rt (W.d<|.str (match look R l with|none=>"none"|some _=>"takes")) bx;cases c:look R l with
   |none=>
     rw[show look R (a6<|.out h' l)=ag from c]at t2;show gF<|(ij t2).trans zc
   |some r0=>
     rw[show look R (a6<|.out h' l)=ae r0 from c]at t2;refine(fv<|(gu t2).trans zc).trans ?_;show gF<|(ij<|tE "out" ag ag).trans zc
end
open bM
theorem oh {L:List (Int×α)}{x:Int}{v:α}{q:Int×α}(m:q∈put L x v):(q.1=x /\ q.2=v) \/ q∈L:=by
 unfold put at m;split at m
 .let#[p,mp,rfl]:=bA.mp m;by_cases h:p.1=x
  .rw[if_pos h];show .inl #[h,rfl]
  .rw[if_neg h];show .inr mp
 .rcases List.mem_append.mp m with m|m
  .show .inr m
  .cases eU.mp m;show .inl #[rfl,rfl]
theorem Nw {L:List (Int×α)}{x:Int}{v:α}(nd:(L.map (·.1)).Nodup):((put L x v).map (·.1)).Nodup:=by
 unfold put;split
 .rw[bJ];have:((λq:Int×α=>q.1)∘λq=>if q.1=x then (q.1,v) else q)=λq=>q.1:=by
   funext q;by_cases h:q.1=x<;>simp[h]
  rw[this];show nd
 .ext h;rw[wY,vn];refine#[nd,by simp,λa ma b mb=>?_];cases (eU.mp mb);let#[q,mq,rfl]:=bA.mp ma;show λz=>h<|kz.mpr #[q,mq,decide_eq_true z]
theorem Vc {L:List (Int×α)}{x:Int}(nd:(L.map (·.1)).Nodup):((eP L x).map (·.1)).Nodup:=nd.sublist<|(List.filter_sublist).map _
theorem oU {L:Al}{x v:Int}(h:look L x=ae v):∃ q∈L,q.1=x:=by
 unfold look at h;cases f:L.find? λq=>decide (q.1=x) with
 |none=>rw[f]at h;cases h
 |some q=>show#[q,Hn f,by have:=Q5 f;simpa using this]
theorem lW {L:Al}{x:Int}:(look L x).isSome=ah ↔ ∃ q∈L,q.1=x:=by
 constructor
 .intro h;let#[v,h]:=Option.isSome_iff_exists.mp h;show oU h
 .rintro⟨q,m,rfl⟩;unfold look;rw[pG,Q6];show#[q,m,by simp]
theorem Nx {L:Al}{x v y:Int}(h:y=x \/ (look L y).isSome=ah):(look (put L x v) y).isSome=ah:=by
 rw[lW];have key:∀ z,(∃ q∈L,q.1=z)->∃ q∈put L x v,q.1=z:=λz ⟨q,m,e⟩=>by
  unfold put;split
  .refine#[if q.1=x then (q.1,v) else q,rR m,?_];split<;>show e
  .show#[q,pY _ m,e]
 rcases h with rfl|h
 .by_cases c:(look L y).isSome=ah
  .show key y<|lW.mp c
  .unfold put;rw[if_neg]
   .show#[(y,v),by simp,rfl]
   .intro z;let#[q,m,e]:=kz.mp z;show c<|lW.mpr #[q,m,of_decide_eq_true e]
 .show key y<|lW.mp h
theorem dA.step {ps K R:Al}(J:dA K R n) {g:Pg}(h:word ps K R g="takes"):dA (stK K g) (pS R g) (n+1):=by
 have lk:=J.lk;have lr:=J.lr;cases g with
 |aF h' l k r p w=>
   have a:=m9 K l k;have b:=m9 R l r;refine#[Nw J.nd,λq m=>?_,by change (put K l k).length<=_;lia,by change (put R l r).length<=_;lia];rcases oh m with m|m
   .show Nx<|.inl m.1
   .show Nx<|.inr<|J.sub q m
 |to h' l r=>
   have b:=m9 R l r;refine#[Nw J.nd,λq m=>?_,by change K.length<=_;lia,by change (put R l r).length<=_;lia];rcases oh m with m|m
   .rw[m.1];cases c:look R l with
    |none=>
      simp[word,c]at h;show absurd h ze
    |some v=>
      let#[q0,m0,e0]:=oU c;rw[<-e0];show J.sub q0 m0
   .show J.sub q m
 |out h' l=>
   refine#[Vc J.nd,λq m=>J.sub q (rS.mp m).1,by change K.length<=_;lia,?_];have:=wW (λq:Int×Int=>decide (q.1≠l)) R;change (eP R l).length<=_;unfold eP;lia
def tq (x:Pg×Str×D×D):D:=.tup [enc x.1,.str x.2.1,x.2.2.1,x.2.2.2]
section
def Bk (bx:List Bx) (T:List<|Pg×Str×D×D) (K R:Al):List Bx:=bx++[.lst<|T.map tq,.aB<|bz K,.aB<|bz R]
variable {T T':List (Pg × Str × D × D)} {K R K' R':Al}
theorem EI:(Bk bx T K R)[bx.length]?=ae (.lst<|T.map tq):=by simp[Bk]
theorem ad1:(Bk bx T K R)[bx.length+1]?=ae (.aB<|bz K):=by simp[Bk]
theorem EJ:(Bk bx T K R)[bx.length+2]?=ae (.aB<|bz R):=by simp[Bk]
theorem ad2:(Bk bx T K R).set bx.length (.lst<|T'.map tq)=Bk bx T' K R:=by simp[Bk]
theorem aiI:(Bk bx T K R).set (bx.length+1) (.aB<|bz K')=Bk bx T K' R:=by simp[Bk]
theorem Zm:(Bk bx T K R).set (bx.length+2) (.aB<|bz R')=Bk bx T K R':=by simp[Bk]
abbrev rB:aC:=(fu (fE (d2 af aq (dV 5) zr)<|fe 6)<|fu (fE (fm aJ.iM 4<|fc (dV 0)<|fc (dV 3)<|fc (dV 4)<|fc (dV 5) fg)<|fe 7)<|fu (aH (dB<|d2 af eK (dV 7)<|dC<|.str "takes") (fu (gh<|kG (dV 2)<|fQ<|fc (dV 5)<|fc (dV 7)<|fc (dC .non)<|fc (dC .non) fg) Im) aL)<|fu (gh<|kG (dV 2)<|fQ<|fc (dV 5)<|fc (dV 7)<|fc (uW (dV 4)<|dV 6)<|fc (fm aJ.fP 1<|fc (dV 5) fg) fg)<|fu (aH (dB<|d2 af aY (d2 af aq (dV 5) zd)<|dC<|.str "in") (kM (dV 3) (dV 6)<|d2 af aq (dV 5) zo) aL)<|aH (dB<|d2 af aY (d2 af aq (dV 5) zd)<|dC<|.str "out") (uk (dV 4)<|dV 6)<|kM (dV 4) (dV 6)<|fm aJ.fP 1<|fc (dV 5) fg)
theorem Vd {env1 bw:aQ}{ay:List Bx}{w:W}{l:List W}{g:DG}{body:aC}(h1:g w env bx=ae (env1,bx1)) (h2:body env1 bx1=.ct bw ay):bL g body (w::l) env bx=bL g body l bw ay:=by
 rw[bL,h1];simp[h2]
noncomputable abbrev rE (H P:D) (t:Nat) (x5 x6 x7:Option W):aQ:=[ae<|.d H,ae<|.d P,ae<|.b t,ae<|.b<|t+1,ae<|.b<|t+2,x5,x6,x7]
variable {P:D}
theorem D7 (g:Pg) (h:env[5]?=ae (ae zB)):d2 af aq (dV 5) zr env B=.val (.d<|.int<|a6 g) B:=by
 cases g<;>simp[h,enc,eF,cJ,kK,aq,bF,cy,a6]
theorem SX (g:Pg) (w:Str) (h:env[5]?=ae (ae zB)):dB (d2 af aY (d2 af aq (dV 5) zd)<|dC<|.str w) env B=.val (decide (cu g=w)) B:=by
 refine fV<|fw ?_ zc<|eq_str _ _;cases g<;>simp[h,enc,eF,cJ,kK,aq,bF,cy,cu]
theorem Ny (h:Hs rs ks ps hd) (J:dA K R n) (hn:n<=100) (g:Pg) (x6 x7:Option W) {k:aC} :
 fu (fE (d2 af aq (dV 5) zr)<|fe 6) (fu (fE (fm aJ.iM 4<|fc (dV 0)<|fc (dV 3)<|fc (dV 4)<|fc (dV 5) fg)<|fe 7) k) (rE zb P bx.length (ae zB) x6 x7) (Bk bx T K R) =
  k (rE zb P bx.length (ae zB) (xN<|a6 g)<|ae<|.d<|.str<|word ps K R g) (Bk bx T K R):=
 (fv<|gk<|D7 g zc).trans (fv<|gk<|fJ zc zc<|Vb h J hn ad1 EJ g)
theorem SY (w:Str) (h:env[7]?=ae (ae<|.d<|.str w)):dB (d2 af eK (dV 7)<|dC<|.str "takes") env B=.val (!decide (w="takes")) B:=
 fV (fw (by unfold dV;rw[h]) zc<|ne_str _ _)
theorem WN (h:Hs rs ks ps hd) (J:dA K R n) (hn:n<=100) (hT:T.length<=100) (g:Pg) (x6 x7:Option W) (c:¬ word ps K R g="takes") :
 rB (rE zb P bx.length (ae zB) x6 x7) (Bk bx T K R)=.ct (rE zb P bx.length (ae zB) (xN<|a6 g)<|ae<|.d<|.str<|word ps K R g) (Bk bx (T++[(g,word ps K R g,.non,.non)]) K R):=by
 have z:=bp;refine(Ny h J hn g x6 x7).trans ?_;have t:=SY _ (env:=rE zb P bx.length (ae zB) (xN<|a6 g)<|ae<|.d<|.str<|word ps K R g) (B:=Bk bx T K R) zc;rw[decide_eq_false c]at t;have a:=B8 (m:=dV 2) (k:=fQ<|fc (dV 5)<|fc (dV 7)<|fc (dC .non)<|fc (dC .non) fg) (env:=rE zb P bx.length (ae zB) (xN<|a6 g)<|ae<|.d<|.str<|word ps K R g) (bx:=Bk bx T K R) (d:=tq (g,word ps K R g,.non,.non)) zc EI (gj [enc g,.str<|word ps K R g,.non,.non] zc zh) EI zh;rw[show T.map tq++[tq (g,word ps K R g,D.non,D.non)]=(T++[(g,word ps K R g,D.non,D.non)]).map tq by simp,ad2]at a;rw[gQ,ij t,fv<|ig a];rfl
noncomputable def dI:Pg->D
 |.aF _ _ _ r _ _=>.int r
 |.to _ _ r=>.int r
 |.out ..=>.non
theorem D8 {L:Al}{k v:DE W}{i:Nat}{l x:Int}(hv:v env B=.val (.d<|.int x) B) (hm:m env B=.val (.b i) B) (hk:k env B=.val (.d<|.int l) B) (hb:B[i]?=ae (.aB<|bz L)) (hl:L.length<=1000):kM m k v env B=.nx env (B.set i<|.aB<|bz<|put L l x):=by
 have z:=bp;unfold kM;rw[hv,iq,hm,iq,hk,iq];simp[hb,n8];rw[if_pos (by unfold bz a8;simp;lia),G3]
theorem SZ {L:Al}{k:DE W}{i:Nat}{l:Int}(hm:m env B=.val (.b i) B) (hk:k env B=.val (.d<|.int l) B) (hb:B[i]?=ae (.aB<|bz L)) (hs:(look L l).isSome=ah):uk m k env B=.nx env (B.set i<|.aB<|bz<|eP L l):=by
 unfold uk;rw[hm,iq,hk,iq];simp[hb,n8];rw[if_pos (by rw[lc,pG];show hs),DZ]
theorem Ve {L:Al}{k:DE W}{i:Nat}{l:Int}(hm:m env B=.val (.b i) B) (hk:k env B=.val (.d<|.int l) B) (hb:B[i]?=ae (.aB<|bz L)):uW m k env B=.val (.d<|((look L l).map D.int).getD .non) B:=by
 unfold uW;rw[hm,fS];simp[hb,hk,fS,n8];rw[lc];rfl
theorem D9 {h' l:Int}(c:word ps K R (.out h' l)="takes"):(look R l).isSome=ah:=by
 simp[word]at c;cases e:look R l with
 |none=>rw[e]at c;show absurd c ze
 |some v=>rfl
theorem Vf (h:Hs rs ks ps hd) (J:dA K R n) (hn:n<=100) (hT:T.length<=100) (g:Pg) (x6 x7:Option W) (c:word ps K R g="takes") :
 rB (rE zb P bx.length (ae zB) x6 x7) (Bk bx T K R)=.nx (rE zb P bx.length (ae zB) (xN<|a6 g)<|ae<|.d<|.str<|word ps K R g) (Bk bx (T++[(g,word ps K R g,((look R<|a6 g).map D.int).getD .non,dI g)]) (stK K g)<|pS R g):=by
 have z:sizeLine=16777216:=bp;have lk:=J.lk;have lr:=J.lr;refine(Ny h J hn g x6 x7).trans ?_;generalize hE:rE _ P bx.length _ _ _=E;have e2:∀ B,dV 2 E B=.val _ B:=λB=>by subst hE;rfl
 have e3:∀ B,dV 3 E B=.val _ B:=λB=>by subst hE;rfl
 have e4:∀ B,dV 4 E B=.val _ B:=λB=>by subst hE;rfl
 have e5:E[5]?=ae (ae zB):=by subst hE;rfl
 have v5:∀ B,dV 5 E B=.val _ B:=λB=>by subst hE;rfl
 have e6:∀ B,dV 6 E B=.val _ B:=λB=>by subst hE;rfl
 have e7:∀ B,dV 7 E B=.val _ B:=λB=>by subst hE;rfl
 have t:=SY _ (env:=E) (B:=Bk bx T K R) (by subst hE;rfl);rw[decide_eq_true c]at t;refine(fv<|(gu t).trans zc).trans ?_;have en:∀ B,fm aJ.fP 1 (fc _ fg) E B=.val (.d<|dI g) B:=λB=>(fJ (fj (v5 B) zc) zc<|CO g).trans (by cases g<;>rfl);have a:=B8 (k:=fQ<|fc (dV 5)<|fc (dV 7)<|fc (uW (dV 4)<|dV 6)<|fc (fm aJ.fP 1<|fc (dV 5) fg) fg) (bx:=Bk bx T K R) (d:=tq (g,word ps K R g,((look R<|a6 g).map D.int).getD .non,dI g)) (e2 _) EI
  (gj [enc g,.str<|word ps K R g,((look R<|a6 g).map D.int).getD .non,dI g] (fj (v5 _)<|fj (e7 _)<|fj (Ve (e4 _) (e6 _) EJ)<|fj (en _) zc) zh) EI zh
 rw[show T.map tq++[tq (g,word ps K R g,((look R<|a6 g).map D.int).getD .non,dI g)]=(T++[(g,word ps K R g,((look R<|a6 g).map D.int).getD .non,dI g)]).map tq by simp,ad2]at a;refine(fv<|ig a).trans ?_;generalize T++[(g,word ps K R g,((look R<|a6 g).map D.int).getD .non,dI g)]=T2;have ti:=SX g "in" (B:=Bk bx T2 K R) e5;have to:=λK2=>SX g "out" (B:=Bk bx T2 K2 R) e5;cases g with
 |aF h' l k r p w=>
   have p1:=D8 (v:=d2 af aq (dV 5) zo) (B:=Bk bx T2 K R) (env:=E) (by rw[M6,v5];rfl) (e3 _) (e6 _) ad1 za;rw[aiI]at p1;refine(fv<|(ij ti).trans p1).trans ?_;have to:=to<|put K l k;rw[decide_eq_false (show ¬ cu (.aF h' l k r p w)="out" by change ¬ ("in":Str)="out";rw[U7];show id)]at to;have p2:=D8 (v:=fm aJ.fP 1<|fc (dV 5) fg) (x:=r) (B:=Bk bx T2 (put K l k) R) (env:=E) (en _) (e4 _) (e6 _) EJ za;rw[Zm]at p2;show(gu to).trans p2
 |to h' l r=>
   rw[decide_eq_false (show ¬ cu (.to h' l r)="in" by change ¬ ("to":Str)="in";rw[F6];show id)]at ti;refine(fv<|(gu ti).trans zc).trans ?_;have to:=to K;rw[decide_eq_false (show ¬ cu (.to h' l r)="out" by change ¬ ("to":Str)="out";rw[Rx];show id)]at to;have p2:=D8 (v:=fm aJ.fP 1<|fc (dV 5) fg) (x:=r) (B:=Bk bx T2 K R) (env:=E) (en _) (e4 _) (e6 _) EJ za;rw[Zm]at p2;show(gu to).trans p2
 |out h' l=>
   rw[decide_eq_false (show ¬ cu (.out h' l)="in" by change ¬ ("out":Str)="in";rw[Lm];show id)]at ti;refine(fv<|(gu ti).trans zc).trans ?_;have p2:=SZ (B:=Bk bx T2 K R) (env:=E) (e4 _) (e6 _) EJ<|D9 c;rw[show a6 (.out h' l)=l from rfl,Zm]at p2;show(ij<|to K).trans p2
def Ke (ps:Al) (qs:List Pg):List D:=(qs.zip<|wordsOf ps [] [] qs).map λp=>.tup [enc p.1,.str p.2]
theorem Zn:dA [] [] 0:=#[by simp,(λq m=>nomatch m),aE _,aE _]
abbrev g4:DG:=fL 4<|fq (fe 0)<|fq (fe 1)<|fq (fe 2)<|fq (fe 3) fO
end
noncomputable abbrev At:=List<|Int×(Int×Int)
def aS (K R:Al):At:=R.map λq=>(q.1,(kk K q.1,q.2))
theorem Nz {L:List (Int×α)}(nd:(L.map (·.1)).Nodup) {q:Int×α}(m:q∈L):(L.find? λp=>decide (p.1=q.1)).map (·.2)=ae q.2:=by
 induction L with
 |nil=>cases m
 |cons a L ih=>
   rw[aU,tK]at nd;rw[rQ];rcases bq.mp m with rfl|m
   .simp
   .have:¬ a.1=q.1:=λz=>nd.1 (by rw[z];show rR m);rw[decide_eq_false this];show ih nd.2 m
theorem Fa {K R:Al}:(aS K R).map (·.1)=R.map (·.1):=by unfold aS;rw[bJ];rfl
theorem jG {K R:Al}{l:Int}:((aS K R).find? λp=>decide (p.1=l)).map (·.2)=(look R l).map λr=>(kk K l,r):=by
 unfold aS look;induction R with
 |nil=>rfl
 |cons a R ih=>
   rw[aU,rQ,rQ];by_cases h:a.1=l
   .simp[h]
   .rw[decide_eq_false h];show ih
theorem lN {β:Type}{L:List (Int×α)}{M:List (Int×β)}(h:L.map (·.1)=M.map (·.1)) (x:Int):(L.any λq=>decide (q.1=x))=M.any λq=>decide (q.1=x):=by
 have:∀ {γ}(N:List<|Int×γ),(N.any λq=>decide _)=(N.map (·.1)).any λy=>decide (y=x):=λN=>by rw[Hl];rfl
 rw[this,this,h]
theorem NA {β:Type}{L:List (Int×α)}{M:List (Int×β)}(h:L.map (·.1)=M.map (·.1)) (x:Int) (v:α) (w:β):(put L x v).map (·.1)=(put M x w).map (·.1):=by
 unfold put;rw[lN h];split
 .have:∀ {γ}(N:List<|Int×γ) (u),(N.map λq=>if q.1=x then (q.1,u) else q).map (·.1)=N.map (·.1):=λN u=>by
   rw[bJ];refine qD λq _=>?_;by_cases c:q.1=x<;>simp[c]
  rw[this,this,h]
 .rw[wY,wY,h];rfl
theorem Ln {β:Type}{L:List (Int×α)}{M:List (Int×β)}(h:L.map (·.1)=M.map (·.1)) (x:Int):((L.find? λq=>decide (q.1=x)).map (·.2)).isSome=((M.find? λq=>decide (q.1=x)).map (·.2)).isSome:=by
 rw[pG,pG,kQ,Q6,Q6];have:=lN h x;rw[kQ,kz,kz]at this;show this
theorem G4 {K R:Al}{l r:Int}:put (aS K R) l (kk K l,r)=aS K (put R l r):=by
 unfold put;rw[lN Fa];split
 .unfold aS;rw[bJ,bJ];refine qD λq _=>?_;by_cases c:q.1=l<;>simp[c]
 .unfold aS;simp
theorem RF {K R:Al}{l:Int}:eP (aS K R) l=aS K (eP R l):=by
 unfold eP aS;rw[abf];rfl
theorem CP {K:Al}{l k x:Int}(h:look K l=ag):kk (put K l k) x=if x=l then k else kk K x:=by
 have na:¬ (K.any λq=>decide (q.1=l))=ah:=λz=>by
  let#[q,m,e]:=kz.mp z;have:=lW.mpr #[q,m,of_decide_eq_true e];rw[h]at this;cases this
 unfold kk put;rw[if_neg na];unfold look at h ⊢;rw[Q7];by_cases c:x=l
 .subst c;rw[Option.map_eq_none_iff]at h;simp[h]
 .rw[if_neg c];have c':¬ l=x:=λz=>c z.symm;cases K.find? λq=>decide (q.1=x)<;>simp[c']
theorem RG {K R:Al}{l k r:Int}(J:dA K R n) (h:look K l=ag):put (aS K R) l (k,r)=aS (put K l k) (put R l r):=by
 have e:aS (put K l k) R=aS K R:=by
  refine qD λq m=>?_;have:q.1≠l:=λz=>by
   have:=J.sub q m;rw[z,h]at this;cases this
  rw[CP h,if_neg this]
 have:kk (put K l k) l=k:=by rw[CP h,if_pos rfl]
 rw[<-G4,e,this]
section
variable {K R:List (Int × Int)} {b:Nat} {k:Int}
theorem S0 {C:List Bx}{x y:DE W}{k v:Int}(h0:env[0]?=ae (ae<|.d zb)) (hx:x env C=.val (.d<|.int k) C) (hy:y env C=.val (.d<|.int v) C) :
 dB (d2 af (inD af) (fQ<|fc x<|fc y fg)<|d2 af aq (dV 0) zr) env C=.val (decide ((k,v)∈ps)) C:=by
 have z:(2)<=sizeLine:=by decide
 refine fV<|fw (gj [.int k,.int v] (fj hx<|fj hy zc) z) ?_<|D3 af (k,v) ps;simp[h0,aq,bF,cy]
abbrev Kf:aC:=(fu (fE (d2 af aq (cj (dV 1)<|dV 4) zg)<|fe 5)<|aH (kU (dB<|d2 af (inD af) (fQ<|fc (dV 2)<|fc (dV 5) fg)<|d2 af aq (dV 0) zr)<|dB<|d2 af (inD af) (fQ<|fc (dV 5)<|fc (dV 2) fg)<|d2 af aq (dV 0) zr) (gh<|kG (dV 3)<|fQ<|fc (dV 4)<|fc (d2 af aq (cj (dV 1)<|dV 4) zd) fg) aL)
theorem RH (hb:B[b]?=ae (.fD<|a8 dP<|aS K R)) (nd:(R.map (·.1)).Nodup):∀ (L:Al) (acc:List D) (x4 x5:Option W),(∀ q∈L,q∈R)->acc.length+L.length<=1000 ->
 ∃ y4 y5,bL (fe 4) Kf ((L.map λq=>D.int q.1).map W.d) [ae<|.d zb,xB b,xN k,xB B.length,x4,x5] (B++[.lst acc])=.nx [ae<|.d zb,xB b,xN k,xB B.length,y4,y5] (B++[.lst<|acc++(L.filter λq=>dh ps k<|kk K q.1).map dP]):=by
 intro l_;induction l_ with
 |nil=>show λacc x4 x5 _ _=>#[x4,x5,by simp[bL]]
 |cons q L az=>
   intro acc x4 x5 hm hl;have z:sizeLine=16777216:=bp;rw[bD]at hl;have nt:((aS K R).map (·.1)).Nodup:=by rw[Fa];show nd
   have mt:(q.1,(kk K q.1,q.2))∈aS K R:=bA.mpr #[q,(hm q<|bC ..),rfl];have ED:∀ a,(B++[Bx.lst a])[b]?=ae (.fD<|a8 dP<|aS K R):=λa=>by rw[dZ (List.getElem?_eq_some_iff.mp hb).1];show hb
   have g1:∀ (x5:Option W) (a:List D),cj (dV 1) (dV 4) [ae<|.d zb,xB b,xN k,xB B.length,xN q.1,x5] (B++[.lst a])=.val (.d<|dP (kk K q.1,q.2)) (B++[.lst a]):=λx5 a=>lM zc zc (SW<|ED a)<|Nz nt mt;have s1:fE (d2 af aq (cj (dV 1)<|dV 4) zg) (fe 5) [ae<|.d zb,xB b,xN k,xB B.length,xN q.1,x5] (B++[.lst acc])=.nx [ae<|.d zb,xB b,xN k,xB B.length,xN q.1,xN<|kk K q.1] (B++[.lst acc]):=
    gk (fw (r:=.old<|.int<|kk K q.1) (g1 _ _) zc zc)
   have t1:=S0 (env:=[ae<|.d zb,xB b,xN k,xB B.length,xN q.1,xN<|kk K q.1]) (C:=B++[.lst acc]) (x:=dV 2) (y:=dV 5) (k:=k) (v:=kk K q.1) zc zc zc;have t2:=S0 (env:=[ae<|.d zb,xB b,xN k,xB B.length,xN q.1,xN<|kk K q.1]) (C:=B++[.lst acc]) (x:=dV 5) (y:=dV 2) (k:=kk K q.1) (v:=k) zc zc zc;have t:kU (dB<|d2 af (inD af) (fQ<|fc (dV 2)<|fc (dV 5) fg)<|d2 af aq (dV 0) zr) (dB<|d2 af (inD af) (fQ<|fc (dV 5)<|fc (dV 2) fg)<|d2 af aq (dV 0) zr) [ae<|.d zb,xB b,xN k,xB B.length,xN q.1,xN<|kk K q.1] (B++[.lst acc])=.val (dh ps k<|kk K q.1) (B++[.lst acc]):=by
    unfold dh;by_cases c:(k,kk K q.1)∈ps
    .rw[decide_eq_true c]at t1 ⊢;show SQ t1
    .rw[decide_eq_false c]at t1 ⊢;rw[QW];show lK t1 t2
   have f1:fe 4 (W.d<|.int q.1) [ae<|.d zb,xB b,xN k,xB B.length,x4,x5] (B++[.lst acc])=ae ([ae<|.d zb,xB b,xN k,xB B.length,xN q.1,x5],B++[.lst acc]):=rfl;cases c:dh ps k (kk K q.1) with
   |false=>
     rw[c]at t;let#[y4,y5,e]:=az acc (xN q.1) (xN<|kk K q.1) (λq m=>hm q<|bu _ m) za;refine#[y4,y5,?_];have bd:Kf [ae<|.d zb,xB b,xN k,xB B.length,xN q.1,x5] (B++[.lst acc])=.nx [ae<|.d zb,xB b,xN k,xB B.length,xN q.1,xN<|kk K q.1] (B++[.lst acc]):=(fv s1).trans<|(gu t).trans zc;rw[aU,aU,gR f1 bd,e,tF (by simp[c])]
   |true=>
     rw[c]at t;let#[y4,y5,e]:=az (acc++[dP q]) (xN q.1) (xN<|kk K q.1) (λq m=>hm q<|bu _ m) zh;have b0:(B++[Bx.lst acc])[B.length]?=ae (.lst acc):=by simp
     have a:=B8 (m:=dV 3) (k:=fQ<|fc (dV 4)<|fc (d2 af aq (cj (dV 1)<|dV 4) zd) fg) (env:=[ae<|.d zb,xB b,xN k,xB B.length,xN q.1,xN<|kk K q.1]) (bx:=B++[.lst acc]) (i:=B.length) (d:=dP q) zc b0 (gj [.int q.1,.int q.2] (fj zc<|fj (fw (r:=.old<|.int q.2) (g1 _ _) zc zc) zc) zh) b0 za;rw[show (B++[Bx.lst acc]).set B.length (.lst<|acc++[dP q])=B++[.lst<|acc++[dP q]] by simp]at a;refine#[y4,y5,?_];have bd:Kf [ae<|.d zb,xB b,xN k,xB B.length,xN q.1,x5] (B++[.lst acc])=.nx [ae<|.d zb,xB b,xN k,xB B.length,xN q.1,xN<|kk K q.1] (B++[.lst<|acc++[dP q]]):=(fv s1).trans<|(ij t).trans<|ig a;rw[aU,aU,gR f1 bd,e,tH (by simp[c])];simp
theorem G5 (J:dA K R n) (hn:n<=100) (hb:B[b]?=ae (.aB<|a8 dP<|aS K R)):gm [.d zb,.b b,.d<|.int k] B=.val (.d<|.lst<|(R.filter λq=>dh ps k<|kk K q.1).map dP) B:=by
 have lr:=J.lr;have bl:=(List.getElem?_eq_some_iff.mp hb).1;have hf:(B.set b _)[b]?=ae (.fD<|a8 dP<|aS K R):=pZ bl;let#[y4,y5,e]:=RH hf J.nd R [] ag ag (λq m=>m) zh;rw[p5,ng]at e;have kw:rC (a8 dP<|aS K R)=(R.map λq=>D.int q.1).map W.d:=by
  rw[D5];simp[aS]
 have b1:(B++[Bx.lst []])[b]?=ae (.aB<|a8 dP<|aS K R):=by rw[dZ bl];show hb
 have fk:wc 1 (fe 4) Kf [ae<|.d zb,xB b,xN k,xB B.length,ag,ag] (B++[.lst []])=.nx [ae<|.d zb,xB b,xN k,xB B.length,y4,y5] (B++[.lst<|(R.filter λq=>dh ps k<|kk K q.1).map dP]):=by
  unfold wc;simp[show ([ae<|.d<|hs rs ks ps hd,xB b,xN k,xB B.length,ag,ag])[1]?=ae (ae<|W.b b) from rfl,b1];rw[kw,Q4 _ _ bl,e];change uZ b (.nx _ _)=_;unfold uZ;have th:pb b (B.set b (.fD<|a8 dP<|aS K R)++[.lst<|(R.filter λq=>dh ps k<|kk K q.1).map dP])=ae (B++[.lst<|(R.filter λq=>dh ps k<|kk K q.1).map dP]):=by
   unfold pb;rw[dZ (by rw[p5];show bl),hf];simp;rw[Q4 _ _ (by rw[p5];show bl),D6 hb]
  simp[th]
 have m:Ad [ae<|.d zb,xB b,xN k,ag,ag,ag] B=.rt (.d<|.lst<|(R.filter λq=>dh ps k<|kk K q.1).map dP) ((B++[Bx.lst<|(R.filter λq=>dh ps k<|kk K q.1).map dP]).set B.length .dead):=by
  refine(fv<|gk<|oO [] zc<|dM _).trans ((fv fk).trans ?_);show fU<|SS zc zj
 refine(lL m).trans ?_;simp
end
def Bl (bx:List Bx) (th:At) (ca:List<|Int×Pg) (go:Al) (dr:List<|List Key×D) (av wd:List D):List Bx:=bx++[.aB<|a8 dP th,.aB<|a8 enc ca,.aB<|bz go,.dT dr,.lst av,.lst wd]
noncomputable abbrev ml (n:Nat):List (Str×Nat):=[("there",n),("came",n+1),("gone",n+2),("doors",n+3),("at",n+4),("words",n+5)]
section
variable {th ad3:At} {ad4:List (Int × Pg)} {go go':Al} {ck:List (List Key × D)} {av ad5 wd ad6:List D}
theorem u6:(Bl bx th ca go dr av wd)[bx.length]?=ae (.aB<|a8 dP th):=by simp[Bl]
theorem Zo:(Bl bx th ca go dr av wd)[bx.length+1]?=ae (.aB<|a8 enc ca):=by simp[Bl]
theorem aiJ:(Bl bx th ca go dr av wd)[bx.length+2]?=ae (.aB<|bz go):=by simp[Bl]
theorem ad7:(Bl bx th ca go dr av wd)[bx.length+3]?=ae (.dT dr):=by simp[Bl]
theorem Zp:(Bl bx th ca go dr av wd)[bx.length+4]?=ae (.lst av):=by simp[Bl]
theorem ad8:(Bl bx th ca go dr av wd)[bx.length+5]?=ae (.lst wd):=by simp[Bl]
theorem Zq:(Bl bx th ca go dr av wd).set bx.length (.aB<|a8 dP ad3)=Bl bx ad3 ca go dr av wd:=by simp[Bl]
theorem Zr:(Bl bx th ca go dr av wd).set (bx.length+1) (.aB<|a8 enc ad4)=Bl bx th ad4 go dr av wd:=by simp[Bl]
theorem se:(Bl bx th ca go dr av wd).set (bx.length+2) (.aB<|bz go')=Bl bx th ca go' dr av wd:=by simp[Bl]
theorem aiK:(Bl bx th ca go dr av wd).set (bx.length+3) (.dT ck)=Bl bx th ca go ck av wd:=by simp[Bl]
theorem aiL:(Bl bx th ca go dr av wd).set (bx.length+4) (.lst ad5)=Bl bx th ca go dr ad5 wd:=by simp[Bl]
theorem adR:(Bl bx th ca go dr av wd).set (bx.length+5) (.lst ad6)=Bl bx th ca go dr av ad6:=by simp[Bl]
theorem NB:(Bl bx th ca go dr av wd).length=bx.length+6:=by simp[Bl]
end
theorem jH {k:Str}(h:m env B=.val (.m<|ml n) B) (hk:(ml n).lookup k=ae j):bW m k env B=.val (.b j) B:=by
 unfold bW;rw[h,fS];simp[hk]
theorem ad9:(ml n).lookup ("there":Str)=ae n:=rfl
theorem EK:(ml n).lookup ("came":Str)=ae (n+1):=by rfl
theorem aiM:(ml n).lookup ("gone":Str)=ae (n+2):=by rfl
theorem aea:(ml n).lookup ("doors":Str)=ae (n+3):=by rfl
theorem aeb:(ml n).lookup ("at":Str)=ae (n+4):=by rfl
theorem aiN:(ml n).lookup ("words":Str)=ae (n+5):=by rfl
noncomputable def aN:Pg->Int
 |.aF h ..=>h
 |.to h ..=>h
 |.out h _=>h
section
variable {e:α -> D} {L:List (Int × α)} {k v:DE W} {i:Nat} {l:Int}
theorem CQ {x:α}(hv:v env B=.val (.d<|e x) B) (hm:m env B=.val (.b i) B) (hk:k env B=.val (.d<|.int l) B) (hb:B[i]?=ae (.aB<|a8 e L)) (hl:L.length<=1000):kM m k v env B=.nx env (B.set i<|.aB<|a8 e<|put L l x):=by
 have z:=bp;unfold kM;rw[hv,iq,hm,iq,hk,iq];simp[hb,n8];rw[if_pos (by unfold a8;simp;lia),G3]
theorem Vg {x:α}(hm:m env B=.val (.b i) B) (hk:k env B=.val (.d<|.int l) B) (hb:B[i]?=ae (.aB<|a8 e L)) (hs:(L.find? λq=>decide (q.1=l)).map (·.2)=ae x):xY m k env B=.val (.d<|e x) (B.set i<|.aB<|a8 e<|eP L l):=by
 unfold xY;rw[hm,fS];simp[hb,hk,fS,n8];rw[lc,hs,DZ];rfl
end
end aJ
namespace bM
open L2 L2.DL K1 K2
section
variable {ay bQ:List Bx}
end
end bM
namespace K2
open L2 L2.DL K1
section
variable {h:D} {rs:List Int} {x0 x1 x2 x4 x5 x6 x7 x8 x9 aiO u7 rG aec aiP:Option W}
end
section
variable {h:D} {rs:List Int} {x0 x1 x4 x5 x6 x7 x8 rG aec aiP:Option W}
end
end K2
namespace K1
open L2 L2.DL
end K1
namespace K2
open L2 L2.DL K1
end K2
namespace bM
open L2 L2.DL K1 K2
section
variable {x0 x1 x2 x5 x7 x8 x9 aiO:Option W}
end
section
variable {ay:List Bx}
end
section
variable {x0 x1 x3 x5 x6 x7 u7 rG aec:Option W}
end
theorem aiQ {c:List D}{k:Int}(h0:0<=k) (h1:k<=100) (h:c.length<=1000):cC (.lst c) (.int k)=ae (.lst (List.replicate k.toNat c).flatten):=by
 have sz:=bp;refine if_pos #[by lia,by lia,?_];have:c.length*k.toNat<=1000*100:=Nat.mul_le_mul h za;lia
section
variable {x0 x1 x5:Option W}
end
end bM
namespace kn
open L2 L2.DL K1 bM
section
variable {r:aQ}
abbrev gP:DG:=fL 2<|fq (fe 0)<|fq (fe 1) fO
theorem aed (p:Int×Int->Bool) (f:Int×Int->D):∀ (l:List<|Int×Int) (w v:Option W) (acc:List D),acc.length+l.length<=sizeLine->(∀ a∈l,tf (xN a.1::xN a.2::r) bx=.val (p a) bx /\ (p a=ah->te (xN a.1::xN a.2::r) bx=.val (.d<|f a) bx)) ->
 bG gP tf te ((l.map dP).map W.d) (w::v::r) bx acc=.val (acc++(l.filter p).map f) bx:=by
 intro l_;induction l_ with
 |nil=>(intro w v acc _ _;simp[bG])
 |cons a l az=>
   intro w v acc n h;let#[h1,h2]:=h a<|bC ..;rw[bD]at n;have n':acc.length<sizeLine:=by lia
   have e0:gP (W.d<|dP a) (w::v::r) bx=ae (ae _::ae _::r,bx):=rfl;cases c:p a with
   |false=>
     rw[tF (by simp[c]),<-az (ae<|W.d<|.int a.1) (ae<|W.d<|.int a.2) acc za λx m=>h x<|bu _ m];rw[c]at h1;simp[aU,bG,e0,h1,oH]
   |true=>
     rw[tH c];rw[c]at h1;erw[aU,bG,e0,h1,h2 c,oH,if_pos n',(az _ _ (acc++[f a]) zh λx m=>h x<|bu _ m)];simp
end
section
variable {ay:List Bx}
end
theorem NC (neg:Bool) (is:List Int) (b:Int):inD neg (.int b) (.lst<|is.map D.int)=ae (.old<|.bl (if neg then !decide (b∈is) else decide (b∈is))):=by
 change (if kL _=ah /\ (is.map D.int).all kL=ah then ae _ else v9 neg _ _ _)=_;rw[if_pos #[rfl,Ll is],Nq];have:(is.any λz=>decide (z=b))=decide (b∈is):=by
  rw[kQ];simp
 rw[this]
end kn
namespace aJ
open L2 L2.DL K1 kn bM
def cR (ps K R:Al) (g:Pg):Al:=if word ps K R g="takes" then stK K g else K
def cW (ps K R:Al) (g:Pg):Al:=if word ps K R g="takes" then pS R g else R
theorem aee (L:Al) (r:Int):inD af (.int r) (.lst<|L.map λq=>.int q.2)=ae (.old (.bl (decide (r∈L.map (·.2))))):=by
 have:=NC af (L.map (·.2)) r;rw[bJ]at this;show this
theorem ir {ps K R:Al}{g:Pg}(h:¬ word ps K R g="takes"):cR ps K R g=K /\ cW ps K R g=R:=#[if_neg h,if_neg h]
theorem gq {ps K R:Al}{g:Pg}(h:word ps K R g="takes"):cR ps K R g=stK K g /\ cW ps K R g=pS R g:=#[if_pos h,if_pos h]
section
variable {K R:List (Int × Int)} 
theorem S5 (k r:Int):decide (r∈(R.filter λq=>dh ps k<|kk K q.1).map (·.2))=kN ps K R k r:=by
 unfold kN;rw[kQ,decide_eq_true_eq,kz];erw[bA,rS,aI,decide_eq_true_eq];show#[λ⟨q,m,e⟩=>#[q,m.1,e,m.2],λ⟨q,m,e,a⟩=>#[q,#[m,a],e]]
theorem WO {l r0 r:Int}(nd:(R.map (·.1)).Nodup) (h:look R l=ae r0) (d:¬ r0=r) (k:Int):decide (r∈(((R.filter λq=>dh ps k<|kk K q.1).filter λq=>!decide (q.1=l))).map (·.2))=kN ps K R k r:=by
 rw[<-S5,kQ,decide_eq_true_eq,decide_eq_true_eq];erw[bA,rS,tj,decide_eq_false_iff_not];refine#[λ⟨q,m,e⟩=>#[q,m.1,e],λ⟨q,m,e⟩=>#[q,#[m,λz=>?_],e]];have:=D0 nd m.1;rw[z,h]at this;show d<|(Option.some.inj this).trans e
abbrev oE (H:D) (n:Nat) (g:Pg) (x6 x7 x8:Option W):aQ:=[ae<|.d H,ae<|.m<|ml n,ae zB,ae<|.d<|.int<|aN g,ae<|.d<|.str<|cu g,ae<|.d<|.int<|a6 g,x6,x7,x8]
theorem WP (J:dA K R n) (hn:n<=100) (hb:B[bx.length]?=ae (.aB<|a8 dP<|aS K R)) {mk mr:DE W}{k r:Int}(h0:env[0]?=ae (ae<|.d zb)) (h6:env[6]?=ae (xB bx.length)) (hk:mk env B=.val (.d<|.int k) B) (hr:mr env B=.val (.d<|.int r) B) :
 dB (d2 af (inD af) mr<|fK af [ag,ag] (bj<|fm aJ.gm 3<|fc (dV 0)<|fc (dV 6)<|fc mk fg) gP fN<|dV 1) env B=.val (kN ps K R k r) B:=by
 have z:=bp;have lr:=J.lr;have fl:=wW (λq:Int×Int=>dh ps k<|kk K q.1) R;have v0:dV 0 env B=.val (.d zb) B:=by unfold dV;rw[h0]
 have v6:dV 6 env B=.val (.b bx.length) B:=by unfold dV;rw[h6]
 have it:bj (fm aJ.gm 3<|fc _<|fc _<|fc mk fg) env B=.val (((R.filter λq=>dh ps k<|kk K q.1).map dP).map W.d) B:=
  gp (fJ (fj v0<|fj v6<|fj hk zc) zc<|G5 J hn hb)
 have c:=aed (tf:=fN) (te:=dV 1) (bx:=B) (r:=[]) (λ_=>ah) (λq=>.int q.2) (R.filter λq=>dh ps k<|kk K q.1) ag ag [] zh λq _=>#[rfl,λ_=>rfl];rw[ng,List.filter_eq_self.mpr λ_ _=>rfl]at c;rw[<-S5];refine fV (fw (r:=.old (.bl (decide (r∈(R.filter λq=>dh ps k<|kk K q.1).map (·.2))))) hr (gn it zc c) ?_);show aee _ r
theorem WQ (J:dA K R n) (hn:n<=100) (hb:B[bx.length]?=ae (.aB<|a8 dP<|aS K R)) {mk mr:DE W}{k r l r0:Int}(h0:env[0]?=ae (ae<|.d zb)) (h5:env[5]?=ae (xN l)) (h6:env[6]?=ae (xB bx.length)) (hk:mk env B=.val (.d<|.int k) B) (hr:mr env B=.val (.d<|.int r) B) (hl:look R l=ae r0) (d:¬ r0=r) :
 dB (d2 af (inD af) mr<|fK af [ag,ag,ae 5] (bj<|fm aJ.gm 3<|fc (dV 0)<|fc (dV 6)<|fc mk fg) gP (dB<|d2 af eK (dV 0)<|dV 2)<|dV 1) env B=.val (kN ps K R k r) B:=by
 have z:=bp;have lr:=J.lr;have fl:=wW (λq:Int×Int=>dh ps k<|kk K q.1) R;have v0:dV 0 env B=.val (.d zb) B:=by unfold dV;rw[h0]
 have v6:dV 6 env B=.val (.b bx.length) B:=by unfold dV;rw[h6]
 have it:bj (fm aJ.gm 3<|fc (dV 0)<|fc (dV 6)<|fc mk fg) env B=.val (((R.filter λq=>dh ps k<|kk K q.1).map dP).map W.d) B:=
  gp (fJ (fj v0<|fj v6<|fj hk zc) zc<|G5 J hn hb)
 have c:=aed (tf:=dB<|d2 af eK (dV 0)<|dV 2) (te:=dV 1) (bx:=B) (r:=[xN l]) (λq=>!decide (q.1=l)) (λq=>.int q.2) (R.filter λq=>dh ps k<|kk K q.1) ag ag [] zh λq _=>#[fV<|fw (r:=.old<|.bl<|!decide (q.1=l)) zc zc<|rfl,λ_=>rfl];rw[ng]at c;rw[<-WO J.nd hl d];refine fV (fw (r:=.old (.bl (decide (r∈(((R.filter λq=>dh ps k<|kk K q.1).filter λq=>!decide (q.1=l))).map (·.2))))) hr (gn it (by simp[h5]) c) ?_);show aee _ r
variable {go:Al} {av wd:List D}
noncomputable def aef:Pg->Int
 |.aF _ _ k ..=>k
 |_=>0
noncomputable def isIn:Pg->Bool
 |.aF ..=>ah
 |_=>af
abbrev ye (ca:List<|Int×Pg):Al:=ca.map λq=>(q.1,aef q.2)
theorem Vh {l:Int}{g:Pg}:ye (put ca l g)=put (ye ca) l (aef g):=by
 have e:(ye ca).map (·.1)=ca.map (·.1):=by rw[bJ];rfl
 unfold put;rw[lN e];split
 .unfold ye;rw[bJ,bJ];refine qD λq _=>?_;by_cases c:q.1=l<;>simp[c]
 .simp
structure Lb (K:Al) (ca:List<|Int×Pg) (go:Al) (dr:List<|List Key×D) (m:Nat):zt where
 k:ye ca=K
 i:∀ q∈ca,isIn q.2=ah
 c:ca.length<=m
 g:go.length<=m
 d:dr.length<=2*m
theorem Lb.keys {m:Nat}(Q:Lb K ca go dr m):ca.map (·.1)=K.map (·.1):=by rw[<-Q.k,bJ];rfl
end
theorem dA.nx {ps K R:Al}(J:dA K R n) (g:Pg):dA (cR ps K R g) (cW ps K R g) (n+1):=by
 by_cases c:word ps K R g="takes"
 .rw[(gq c).1,(gq c).2];show J.step c
 .rw[(ir c).1,(ir c).2];show#[J.nd,J.sub,E9 J.lk,E9 J.lr]
theorem F8 {ps K R:Al}{g:Pg}:wordsOf ps K R (g::gs)=word ps K R g::wordsOf ps (cR ps K R g) (cW ps K R g) gs:=by
 change word ps K R g::_=_;by_cases c:word ps K R g="takes"
 .rw[(gq c).1,(gq c).2,if_pos c]
 .rw[(ir c).1,(ir c).2,if_neg c]
abbrev EL (p:Pg×Str):D:=.tup [enc p.1,.str p.2]
abbrev aeg:aC:=(fu (gh<|kG (bW (dV 2) "words")<|fQ<|fc (dV 3)<|fc (fm aJ.gH 3<|fc (dV 0)<|fc (dV 2)<|fc (dV 3) fg) fg)<|gh<|kG (bW (dV 2) "at")<|fQ<|fc (d2 af aq (dV 3) zg)<|fc (wg af<|bW (dV 2) "there") fg)
def wu (ps:Al):Al->Al->List Pg->Al
 |K,_,[]=>K
 |K,R,g::gs=>wu ps (cR ps K R g) (cW ps K R g) gs
def sV (ps:Al):Al->Al->List Pg->List D
 |_,_,[]=>[]
 |K,R,g::gs=>.tup [.int<|aN g,.aB<|a8 dP<|aS (cR ps K R g)<|cW ps K R g]::sV ps (cR ps K R g) (cW ps K R g) gs
section
variable {P:D} 
theorem Vi (g:Pg) (h:env[3]?=ae (ae zB)):d2 af aq (dV 3) zg env B=.val (.d<|.int<|aN g) B:=by
 cases g<;>simp[h,enc,eF,cJ,kK,aq,bF,cy,aN]
end
abbrev Zs (ft:List W->List Bx->O W):aC:=(fE (d2 af fI (dV 3)<|fK af [ag,ae 0,ae 4] (c9<|fc (dV 4) fg) (fe 0) (dB<|d2 af aY (fm ft 2<|fc (dV 1)<|fc zo fg) zg)<|fQ<|fc (dV 0)<|fc (dV 2) fg)<|fe 3)
theorem Lo (h:n<bx.length) (k:Nat) (hk:k<=4) (p:Int):∃ is:List Nat,∃ q,is.Sublist (List.range k) /\
 bG (fe 0) (dB<|d2 af aY (fm K1.fr 2<|fc (dV 1)<|fc zo fg) zg) (fQ<|fc (dV 0)<|fc (dV 2) fg) (fM 0 k) [ag,xB n,xN k] (pt bx n p) []=.val (is.map λ(i:Nat)=>dP ((i:Int),(k:Int))) (pt bx n q):=by
 have z2:(2)<=sizeLine:=by decide
 have sz:=bp
 let#[l',q,e,s]:=Nk (g:=fe 0) (tf:=dB<|d2 af aY (fm K1.fr 2<|fc (dV 1)<|fc zo fg) zg) (te:=fQ<|fc (dV 0)<|fc (dV 2) fg) (λe=>∃ w,e=[w,xB n,xN k]) (λw=>.tup [match w with|.d x=>x|_=>.non,.int k]) (bx:=bx) (n:=n) (fM 0 k) [ag,xB n,xN k] p [] #[ag,rfl] (by
  intro w mw env p ⟨w0,je⟩;let#[i,_,rfl]:=bA.mp mw;show#[[xN<|0+(i),xB n,xN k],decide (p % 3=0),p / 3,by simp[je],#[_,rfl],by simp[(ju h p 3 (by decide) (by decide)),aY],rfl]) (by simp[fM];lia)
 let#[is,s1,rfl]:=List.sublist_map_iff.mp s;refine#[is,q,s1,?_];rw[e,ng,bJ];congr 1;refine qD λi _=>?_;simp
theorem ND {ft:List W->List Bx->O W}{k:Nat}{p q:Int}(x1 x2:Option W) {is:List Nat}(hk:k<=4) (y:ps.length+is.length<=sizeLine)
 (e:bG (fe 0) (dB<|d2 af aY (fm ft 2<|fc (dV 1)<|fc zo fg) zg) (fQ<|fc (dV 0)<|fc (dV 2) fg) (fM 0 k) [ag,xB n,xN k] (pt bx n p) []=.val (is.map λ(i:Nat)=>dP ((i:Int),(k:Int))) (pt bx n q)) :
 Zs ft [xB n,x1,x2,xP ps,xN (k:Int)] (pt bx n p)=.nx [xB n,x1,x2,xP<|ps++is.map λ(i:Nat)=>((i:Int),(k:Int)),xN (k:Int)] (pt bx n q):=by
 have ad:fI (.lst<|ps.map dP) (.lst<|is.map λ(i:Nat)=>dP ((i),(k)))=ae (.lst<|(ps++is.map λ(i:Nat)=>((i:Int),(k:Int))).map dP):=by
  refine(if_pos (by rw[a5,a5];show y)).trans ?_;rw[wY,bJ];rfl
 unfold Zs
 rw[FW,M6,show dV 3 _ _=.val _ _ from rfl,fS,CA,(CJ (env:=[ae _,x1,x2,ae _,ae _]) (bx:=pt bx n p) (k:=k) (m:=fc _ fg) (rfl) za),fS,
  show eD _ _=[ag,ae _,ae _] from rfl,e,fS,jg,fS,mZ,A7,A7,bY,bY,ad,jg,mZ,iq,DO]
 rfl
theorem NE (h:n<bx.length) (x1 x2:Option W):∀ (c k:Nat) (p:Int) (ps:List<|Int×Int) (w:Option W),k+c<=4->EH k ps ->
 ∃ sN w' q,bL (fe 4) (Zs K1.fr) ((List.range' k c).map λ(i:Nat)=>W.d<|.int<|0+(i:Int)) [xB n,x1,x2,xP ps,w] (pt bx n p)=.nx [xB n,x1,x2,xP sN,w'] (pt bx n q) /\ EH (k+c) sN:=by
 intro c;induction c with
 |zero=>intro k p ps w _ s;show#[ps,w,p,rfl,s]
 |succ c ih=>
   intro k p ps w hk s;let#[is,q,s1,e]:=Lo h k za p;have li:is.length<=k:=by have:=s1.length_le;simpa using this
   let#[sN,w',q',e2,s2]:=ih _ q _ _ za<|s.more s1 za;refine#[sN,w',q',?_,by rw[show k+(c+1)=k+1+c by lia];show s2];have sz:=bp;have pl:=s.l;have g1:fe 4 (W.d<|.int<|0+(k)) [xB n,x1,x2,xP ps,w] (pt bx n p)=ae ([xB n,x1,x2,xP ps,xN<|k],pt bx n p):=by
    rw[abD];rfl
   rw[List.range'_succ,aU,gR g1<|ND x1 x2 (ps:=ps) za za e];show e2
theorem G6 (h:n<bx.length) (p:Int) {P:D->zt}{k:Int}(k0:0<k) (k5:k<=5) (ht:∀ (w:W) (p:Int),∃ d q,te [ae w,xB n] (pt bx n p)=.val (.d d) (pt bx n q) /\ P d):∃ ds q,(∀ d∈ds,P d) /\ 1<=ds.length /\ (ds.length:Int)<=k /\ ∀ {env:aQ},env[0]?=ae (xB n)->dN af tZ (fc (fK af [ag,ae 0] (c9<|fc (d2 af fI zd<|fm K1.fr 2<|fc (dV 0)<|fc (dC<|.int k) fg) fg) (fe 0) fN te) fg) env (pt bx n p)=.val (.d<|.tup ds) (pt bx n q):=by
 have sz:=bp;let#[r,q1,t,r0,r1]:=bM.k6 h p k k0 za;let#[j,rfl]:=Hx r0
 let#[ds,q,e1,e2,e3]:=GY (g:=fe 0) (λe=>∃ w,e=[w,xB n]) P (fM 0<|1+j) _ q1 [] #[ag,rfl] (by
  intro w _ env p ⟨w0,je⟩;let#[d,q,e,m]:=ht w p;show#[[ae w,xB n],by simp[je],#[_,rfl],d,q,e,m]) (by simp[fM];lia)
 have n5:ds.length=1+j:=by rw[e2];simp[fM]
 simp[ng]at e1;refine#[ds,q,e3,by lia,by lia,λ{env} he=>?_];have rg:=lJ (fj (ks:=fg) (fw (g:=fI) (m:=dC<|.int 1) zc (t (env:=env) he (m:=dC<|.int k) zc) zc) zc) za;rw[show (1+(j:Int)).toNat=1+j by lia]at rg;show iQ (r:=.tup ds) [.lst ds] (fj (gn rg (by simp[Af,Ag,A8,he,bY,id]) e1) zc) zc
theorem NG (h:n<bx.length) (p:Int):∃ rs ks ps hd q,iT [.b n] (pt bx n p)=.val (.d zb) (pt bx n q) /\ Hs rs ks ps hd:=by
 let#[rs,q1,hr,r1,r5,e1]:=G6 h p (te:=fm K1.fr 2<|fc (dV 1)<|fc (dC<|.int 4) fg) (P:=λd=>wi d 0 3=ah) (k:=5) ze ze (λw p=>by
  let#[r,q,t,a,b]:=bM.k6 h p 4 ze ze;show#[.int r,q,t zc zc,by simp[wi];lia])
 let#[ks,q2,hk,k1,k4,e2]:=G6 h q1 (te:=fm K1.gZ 1<|fc (dV 1) fg) (k:=4) ze ze (λw p=>by
  let#[d,q,e,m]:=Rp h p;show#[d,q,fJ zc zc e,m])
 let#[ps,w',q3,e3,s3]:=NE h (ae<|.d<|.tup rs) (ae<|.d<|.tup ks) ks.length 0 q2 [] ag za #[.nil,(λp m=>nomatch m),aE _];rw[QR]at s3;have pl:=s3.l;let#[qs,pq,so,e4]:=Rq ps za;let#[hd,q4,hh,e5]:=Rr h q3 (ae<|.d<|.tup rs) (ae<|.d<|.tup ks) (xP ps) w';have hb:∀ p∈qs,0<=p.1 /\ p.1<p.2 /\ p.2<(ks.length):=λp m=>s3.b p<|pq.mem_iff.mp m;have lq:qs.length<=16:=by rw[pq.length_eq];lia
 refine#[rs,ks,qs,hd,q4,B7 ?_ (by rw[gG,gG];show aE _),#[by lia,by lia,by lia,by lia,λp m=>(hb p m).2.1,by lia,?_]]
 .have sz:=bp;show qS (e1 zc)<|qS (e2 zc)<|qS (j9 [] zc<|dM _)<|(fv<|(im<|CJ (env:=[xB n,ae<|.d<|.tup rs,ae<|.d<|.tup ks,xP<|[],ag]) (bx:=pt bx n q2) (k:=ks.length) (m:=fc (dN af cM<|fc (dV 2) fg) fg) (rfl) za).trans (by unfold fM;rw[List.range_eq_range'];show e3)).trans<|fU<|gj [.tup rs,.tup ks,.tup<|qs.map dP,hd] (fj zc<|fj zc<|fj (iQ (r:=.tup<|qs.map dP) [.lst<|qs.map dP] (fj (iQ (r:=.lst<|qs.map dP) [.lst<|ps.map dP] (fj zc zc) e4) zc) zc)<|fj e5 zc) (show (4:Nat)<=sizeLine by lia)
 .have a:apart (ks.length:Int) (.tup<|qs.map dP)=ah:=by
   have b1:(qs.map dP).all (sU (ks.length:Int))=ah:=by
    rw[vk,cZ];intro p m;have:=hb p m;simp[sU,tl];lia
   have b2:uo qs=ah:=GZ so<|pq.nodup_iff.mpr s3.nd;change (((qs.map dP).all<|sU (ks.length:Int))&&uo ((qs.map dP).filterMap Zg))=ah;rw[GT,b1,b2];rfl
  have aiR:rooms (.tup rs)=ah:=by simp[rooms,tl,cZ.mpr hr];lia
  have tR:kinds (.tup ks)=ah:=by simp[kinds,tl,cZ.mpr hk];lia
  simp[house,lenOf,aiR,tR,a,hh,Hc]
theorem Bn {α:Type}:∀ {l:List α}{c:Nat}(h:c<l.length),(l[c]::l.eraseIdx c).Perm l
 |a::l,0,_=>.refl _
 | a::l,c+1,h=>by
   show(List.Perm.swap _ _ _).trans ((Bn<|Nat.lt_of_succ_lt_succ h).cons a)
abbrev aiS:DE W:=wa (dV 2)<|fm K1.fr 2<|fc (dV 1)<|fc (dN af cM<|fc (dV 2) fg) fg
theorem F9 (h:n<bx.length):∀ (l:List W) (left:List D) (w:Option W) (p:Int) (acc:List D),left.length=l.length->left.length<=1000->acc.length+l.length<=sizeLine ->
 ∃ ds q,bG (fe 0) fN aiS l [w,xB n,xB bx.length] (pt (bx++[.lst left]) n p) acc=.val (acc++ds) (pt (bx++[.lst []]) n q) /\ ds.Perm left:=by
 intro l_;induction l_ with
 |nil=>
   intro left w p acc hl _ _;cases left with
   |nil=>show#[[],p,by simp[bG],.refl _]
   |cons a b=>simp at hl
 |cons u l az=>
   intro left w p acc hl ak8 z;have h1:n<(bx++[Bx.lst left]).length:=by simp;lia
   have b0:=jv (p:=p) (x:=.lst left) h;have ln:dN af cM (fc (dV 2) fg) [ae u,xB n,ae _] _=.val (.d<|.int left.length) (pt (bx++[.lst left]) n p):=U4 zc b0;have lp:0<left.length:=by rw[hl];simp
   let#[r,q,t,r0,r1]:=FY h1 (i:=1) zc ln za za;let#[c,rfl]:=Hx r0;have hc:c<left.length:=by lia
   have pv:=Ru (m:=dV 2) zc b0 t (jv (p:=q) (x:=.lst left) h) #[by lia,by lia] (Rv hc)<|cY hc;rw[CL h]at pv;have z':acc.length<sizeLine:=by simp[bD]at z;lia
   have el:(left.eraseIdx c).length=l.length:=by rw[Q3 hc,hl];simp
   let#[ds,q',e3,e4]:=az (left.eraseIdx c) (ae u) q (acc++[left[c]]) el (by rw[el];simp at hl;lia) (by simp[cX,bD,p6]at z ⊢;lia);refine#[left[c]::ds,q',?_,?_]
   .have g0:fe 0 u [w,xB n,xB bx.length] (pt (bx++[.lst left]) n p)=ae ([ae u,xB n,xB bx.length],pt (bx++[.lst left]) n p):=rfl;erw[bG,g0,GP,oH,pv,if_pos z',e3];simp
   .show(e4.cons _).trans (Bn hc)
theorem RI (h:n<bx.length) (p:Int) (l:List D) (hl:l.length<=1000):∃ ds q,jZ [.b n,.d<|.lst l] (pt bx n p)=.val (.d<|.lst ds) (pt bx n q) /\ ds.Perm l:=by
 have sz:=bp;let#[ds,q,e1,e2]:=F9 h (l.map W.d) l ag p [] zj hl zh;have s1:fE (dN ah xG<|fc (dV 1) fg) (fe 2) [xB n,ae<|.d<|.lst l,ag] (pt bx n p)=.nx [xB n,ae<|.d<|.lst l,xB bx.length] (pt (bx++[.lst l]) n p):=by
  have a:dN ah xG (fc (dV 1) fg) [xB n,ae<|.d<|.lst l,ag] (pt bx n p)=.val (.b bx.length) (pt (bx++[.lst l]) n p):=by
   rw[Lh,fj rfl rfl,fS,<-mL h];have:=gG (bx:=bx) (n:=n) (p:=p);change O.val (W.b (pt bx n p).length) _=_;rw[this]
  show gk a
 have M:lF [xB n,ae<|.d<|.lst l,ag] (pt bx n p)=.rt (.d<|.lst ds) (pt (bx++[.lst []]) n q):=by
  unfold lF;show(fv s1).trans (fU<|gn (gp zc) zc e1)
 refine#[ds,q,(lL M).trans ?_,e2];rw[gG,Bi h]
theorem Ga {i:Nat}(h:env[i]?=ae (ae<|.d zb)):dN af cM (fc (d2 af aq (dV i) zg) fg) env B=.val (.d<|.int (rs.length:Int)) B:=by
 have v:dV i env B=.val (.d zb) B:=by unfold dV;rw[h]
 show iQ (r:=.old<|.int<|rs.length) [.tup rs] (fj (fw (r:=.old<|.tup rs) v zc zc) zc)<|rfl
theorem Vj {i:Nat}(h:env[i]?=ae (ae<|.d zb)):dN af cM (fc (d2 af aq (dV i) zd) fg) env B=.val (.d<|.int (ks.length:Int)) B:=by
 have v:dV i env B=.val (.d zb) B:=by unfold dV;rw[h]
 show iQ (r:=.old<|.int<|ks.length) [.tup ks] (fj (fw (r:=.old<|.tup ks) v zc zc) zc)<|rfl
theorem RJ (h:n<bx.length) (H:Hs rs ks ps hd) (p near:Int) (h0:0<near) (h1:near<=40):∃ g q,gU [.b n,.d zb,.d<|.int near] (pt bx n p)=.val zB (pt bx n q) /\ pR rs.length ks.length g /\ aN g<near:=by
 have sz:=bp;have r1:=H.r1;have r5:=H.r5;have k1:=H.k1;have k4:=H.k4;let#[a,q1,t1,a0,a1]:=k6 h p near h0 za;let#[v,q2,t2,mv]:=Kd h q1 [3,10] (fc zo<|fc (dC<|.int 10) fg) (λ_ _=>rfl) zc (by decide) ze;have hv:0<v /\ v<=10:=by simp at mv;lia
 let#[l,q3,t3,l0,l1]:=k6 h q2 v hv.1 za;let#[r,q4,t4,c0,c1]:=k6 h q3 rs.length za za;let#[w,q5,t5,w0,w1]:=k6 h q4 5 ze ze;have fin:∀ {g:Pg}{q:Int},A4 [xB n,ae<|.d zb,xN near,ag,ag,ag,ag,ag] (pt bx n p)=.rt zB (pt bx n q)->gU [.b n,.d zb,.d<|.int near] (pt bx n p)=.val zB (pt bx n q):=λe=>B7 e (by rw[gG,gG];show aE _);have tz:∀ {e:aQ},e[6]?=ae (xN w)->dB (d2 af aY (dV 6) zg) e (pt bx n q5)=.val (decide (w=0)) (pt bx n q5):=λe=>fV<|fw (r:=.old<|.bl<|decide (w=0)) (by rw[oJ,e]) zc<|rfl;have tt:∀ {e:aQ},e[6]?=ae (xN w)->dB (d2 af cT (dV 6) zo) e (pt bx n q5)=.val (decide (w<3)) (pt bx n q5):=λe=>fV<|fw (r:=.old<|.bl<|decide (w<3)) (by rw[oJ,e]) zc<|rfl;by_cases aeh:w=0
 .rw[decide_eq_true aeh]at tz;show#[.out a l,q5,fin<|(fv<|l7 (t1 zc zc)<|t3 zc<|t2 _ _ zc).trans<|(fv<|l7 (t4 zc<|Ga zc)<|t5 zc zc).trans<|qR (tz zc)<|gj [.int a,.str "out",.int l] zc zh,#[a0,l0,by lia],a1]
 .rw[decide_eq_false aeh]at tz;by_cases c2:w<3
  .rw[decide_eq_true c2]at tt;show#[.to a l r,q5,fin<|(fv<|l7 (t1 zc zc)<|t3 zc<|t2 _ _ zc).trans<|(fv<|l7 (t4 zc<|Ga zc)<|t5 zc zc).trans<|qF (tz zc)<|qR (tt zc)<|gj [.int a,.str "to",.int l,.int r] zc zh,#[a0,#[l0,by lia],c0,c1],a1]
  .rw[decide_eq_false c2]at tt;let#[x,q6,t6,x0,x1]:=k6 h q5 9 ze ze;let#[y,q7,t7,y0,y1]:=k6 h q6 40 ze ze;let#[c,q8,t8,e0,e1]:=k6 h q7 4 ze ze;let#[d,ed,md]:=lV (l:=[D.int 0,.int x,.int y,.int 999]) e0 (by simpa using e1);obtain⟨z,rfl,z0,z1⟩:∃ z,d=.int z /\ 0<=z /\ z<=999:=by
    simp at md;rcases md with rfl|rfl|rfl|rfl<;>show#[_,rfl,by lia,by lia]
   let#[k,q9,t9,f0,f1]:=k6 h q8 ks.length za za;let#[u,qa,ta,u0,u1]:=k6 h q9 100 ze ze;show#[.aF a l k r z u,qa,fin<|(fv<|l7 (t1 zc zc)<|t3 zc<|t2 _ _ zc).trans<|(fv<|l7 (t4 zc<|Ga zc)<|t5 zc zc).trans<|qF (tz zc)<|qF (tt zc)<|qS (fw (r:=.old<|.int z) (j9 [.int 0,.int x,.int y,.int 999] (fj zc<|fj (t6 zc zc)<|fj (t7 zc zc)<|fj zc zc) zh) (t8 zc zc) (by erw[aq,ed,rV]))<|fU<|gj [.int a,.str "in",.int l,.int k,.int r,.int z,.int u] (fj zc<|fj zc<|fj zc<|fj (t9 zc<|Vj zc)<|fj zc<|fj zc<|fj (ta zc zc) zc) zh,#[a0,#[l0,by lia],#[f0,f1],#[c0,c1],#[z0,z1],u0,by lia],a1]
noncomputable def dn:Pg->List Key
 |.aF h l k r p w=>[.inl h,.inr "in",.inl l,.inl k,.inl r,.inl p,.inl w]
 |.to h l r=>[.inl h,.inr "to",.inl l,.inl r]
 |.out h l=>[.inl h,.inr "out",.inl l]
def ke (g:Pg):List Key×D:=(dn g,.bl ah)
theorem CS (g:Pg):D.tup ((dn g).map IW)=enc g:=by cases g<;>rfl
theorem NH (g:Pg):∃ l,enc g=.tup l /\ ui l=ae (dn g):=by cases g<;>show#[_,rfl,rfl]
theorem NI {a b:Pg}(h:dn a=dn b):a=b:=Ro (by rw[<-CS,<-CS,h])
theorem RK (gs:List Pg):IZ (gs.map ke)=gs.map enc:=by
 unfold IZ;rw[bJ];show qD λg _=>CS g
theorem Vk {g:Pg}:∃ g2:List Pg,sP (gs.map ke) (dn g) (.bl ah)=g2.map ke /\ (gs.Nodup->g2.Nodup) /\ (∀ x∈g2,x∈gs \/ x=g) /\ g2.length<=gs.length+1:=by
 by_cases m:g∈gs
 .refine#[gs,?_,id,λx m=>.inl m,by lia];unfold sP;rw[if_pos]
  .rw[bJ];refine qD λx _=>?_;change (if dn x=dn g then (dn x,D.bl ah) else ke x)=ke x;split<;>rfl
  .show kz.mpr #[ke g,rR m,by simp[ke]]
 .refine#[gs++[g],?_,λnd=>?_,λx mx=>?_,by simp]
  .unfold sP;rw[if_neg]
   .simp[ke]
   .intro z;let#[x,mx,e]:=kz.mp z;let#[y,my,rfl]:=bA.mp mx;show m<|NI (of_decide_eq_true e)▸my
  .rw[vn];show#[nd,by simp,λa ma b mb=>by cases eU.mp mb;show λz=>m<|z▸ma]
  .rcases List.mem_append.mp mx with z|z
   .show .inl z
   .show .inr<|eU.mp z
abbrev gB:aC:=(fu (fE (fm aJ.gU 3<|fc (dV 0)<|fc (dV 1)<|fc (dV 3) fg)<|fe 6)<|fu (aH (nv (dB<|d2 af aY (d2 af aq (dV 6) zd)<|dC<|.str "in")<|dB<|d2 af eZ (fm K1.fr 2<|fc (dV 0)<|fc zo fg) zg) (fE (d2 af fI (fQ<|fc (d2 af kh (d2 af aq (dV 6) zg) zo) fg)<|kY af (dV 6) (kX zd) nz)<|fe 6) aL)<|rD (dV 4) (dV 6)<|dC<|.bl ah)
noncomputable abbrev gE (n b:Nat) (H:D) (mo near:Int) (x5 x6:Option W):aQ:=[ae<|.b n,ae<|.d H,ae<|.d<|.int mo,ae<|.d<|.int near,ae<|.b b,x5,x6]
def Gd (nr nk:Nat) (near:Int) (g:Pg):zt:=pR nr nk g /\ aN g<near
theorem Yr (g:Pg) (near:Int) (h:env[6]?=ae (ae zB)):dB (d2 af aY (d2 af aq (dV 6) zd)<|dC<|.str "in") env B=.val (decide (cu g="in")) B:=by
 refine fV<|fw ?_ zc<|eq_str _ _;cases g<;>simp[h,enc,eF,cJ,kK,aq,bF,cy,cu]
theorem RL {h' l k r p w:Int}{mo near:Int}(x5:Option W) {H:D}{b:Nat}:fE (d2 af fI (fQ<|fc (d2 af kh (d2 af aq (dV 6) zg) zo) fg)<|kY af (dV 6) (kX zd) nz) (fe 6) (gE n b H mo near x5<|ae<|.d<|enc<|.aF h' l k r p w) B=.nx (gE n b H mo near x5<|ae<|.d<|enc<|.aF (h' / 3) l k r p w) B:=by
 have c:uJ h' 3:=by unfold uJ;lia
 simp[enc,eF,cJ,kK,aq,bF,cy,kh,c,sF,DL.cutD,HT.a9,fI,bp]
theorem Ys {mo:Int}(h:n<bx.length) (H:Hs rs ks ps hd) (near:Int) (h0:0<near) (h1:near<=40) (nd:gs.Nodup) (ok:∀ g∈gs,Gd rs.length ks.length near g) (hl:gs.length<=100) (q:Int) (x5 x6:Option W) :
 ∃ (g2:List Pg) (q':Int) (y6:Option W),gB (gE n bx.length zb mo near x5 x6) (pt (bx++[.dT<|gs.map ke]) n q)=.nx (gE n bx.length zb mo near x5 y6) (pt (bx++[.dT<|g2.map ke]) n q') /\ g2.Nodup /\ (∀ g∈g2,Gd rs.length ks.length near g) /\ g2.length<=gs.length+1:=by
 have sz:=bp;have hn:n<(bx++[Bx.dT<|gs.map ke]).length:=by simp;lia
 let#[g,q1,e,og,hg]:=RJ hn H q near h0 h1;have s1:fE (fm aJ.gU 3<|fc (dV 0)<|fc (dV 1)<|fc (dV 3) fg) (fe 6) (gE n bx.length zb mo near x5 x6) (pt (bx++[.dT<|gs.map ke]) n q)=.nx (gE n bx.length zb mo near x5<|ae zB) (pt (bx++[.dT<|gs.map ke]) n q1):=
  gk (fJ zc zc e)
 have pu:∀ (g:Pg) (q2:Int),Gd rs.length ks.length near g->∃ g2:List Pg,rD (dV 4) (dV 6) (dC<|.bl ah) (gE n bx.length zb mo near x5<|ae zB) (pt (bx++[.dT<|gs.map ke]) n q2)=.nx (gE n bx.length zb mo near x5<|ae zB) (pt (bx++[.dT<|g2.map ke]) n q2) /\ g2.Nodup /\ (∀ g∈g2,Gd rs.length ks.length near g) /\ g2.length<=gs.length+1:=λg q2 og=>by
  let#[g2,e2,n2,m2,l2]:=Vk;let#[l,el,kl]:=NH g;refine#[g2,?_,n2 nd,λx mx=>(m2 x mx).elim (ok x) λz=>z▸og,l2];unfold rD;have v6:dV 6 (gE n bx.length zb mo near x5<|ae zB) (pt (bx++[.dT<|gs.map ke]) n q2)=.val (.d<|.tup l) (pt (bx++[.dT<|gs.map ke]) n q2):=by rw[<-el];rfl
  have v4:dV 4 (gE n bx.length zb mo near x5<|ae zB) (pt (bx++[.dT<|gs.map ke]) n q2)=.val (.b bx.length) (pt (bx++[.dT<|gs.map ke]) n q2):=rfl;rw[Wv,iq,v4,iq,v6,iq];erw[(jv (p:=q2) (x:=.dT<|gs.map ke) h),kl];rw[if_pos zh,e2,CL h]
 have tg:=Yr g near (env:=gE n bx.length zb mo near x5<|ae zB) (B:=pt (bx++[.dT<|gs.map ke]) n q1) zc;by_cases c:cu g="in"
 .rw[decide_eq_true c]at tg;let#[r,q2,t,r0,r1]:=aiF hn q1 (env:=gE n bx.length zb mo near x5<|ae zB) (i:=0) zc 3 ze ze;have tt:=oQ tg<|fV<|fw (g:=eZ) (r:=.old<|.bl<|decide (0<r)) (x:=.int r) (y:=.int 0) (m:=fm K1.fr 2<|fc (dV 0)<|fc zo fg) (k:=dC<|.int 0) t zc<|rfl;by_cases d:0<r
  .rw[decide_eq_true d]at tt;cases g with
   |aF h' l k r' p w=>
     let#[o1,o2]:=og;have xF:h'<near:=hg;let#[g2,e2,n2,m2,l2]:=pu (.aF (h' / 3) l k r' p w) q2 #[#[by lia,o2],by change h' / 3<near;lia];show#[g2,q2,_,(fv s1).trans<|(fv<|(ij tt).trans<|RL x5).trans e2,n2,m2,l2]
   |to _ _ _=>show absurd c (by change ¬ ("to":Str)="in";rw[F6];show id)
   |out _ _=>show absurd c (by change ¬ ("out":Str)="in";rw[Lm];show id)
  .rw[decide_eq_false d]at tt;let#[g2,e2,n2,m2,l2]:=pu g q2 #[og,hg];show#[g2,q2,_,(fv s1).trans<|(fv<|(gu tt).trans zc).trans e2,n2,m2,l2]
 .rw[decide_eq_false c]at tg;let#[g2,e2,n2,m2,l2]:=pu g q1 #[og,hg];show#[g2,q1,_,(fv s1).trans<|(fv<|(gu<|oP tg).trans zc).trans e2,n2,m2,l2]
theorem NJ {mo:Int}(h:n<bx.length) (H:Hs rs ks ps hd) (p near:Int) (h0:0<near) (h1:near<=40) (m0:0<=mo) (m1:mo<=16):∃ (gs:List Pg) (q:Int),iU [.b n,.d zb,.d<|.int mo,.d<|.int near] (pt bx n p)=.val (.d zk) (pt bx n q) /\ gs.Nodup /\ (∀ g∈gs,Gd rs.length ks.length near g) /\ gs.length<=16:=by
 have sz:=bp;have hn:n<(bx++[Bx.dT []]).length:=by simp;lia
 have s1:fE xX (fe 4) [xB n,ae<|.d zb,xN mo,xN near,ag,ag,ag] (pt bx n p)=.nx (gE n bx.length zb mo near ag ag) (pt (bx++[.dT<|([]).map ke]) n p):=by
  have:xX [xB n,ae<|.d zb,xN mo,xN near,ag,ag,ag] (pt bx n p)=.val (.b bx.length) (pt (bx++[.dT []]) n p):=by
   unfold xX;rw[gG,mL h]
  show gk this
 let#[c,q1,t,c0,c1]:=FY hn (env:=gE n bx.length zb mo near ag ag) (i:=0) (m:=d2 af fI (dV 2) zd) zc (fw (r:=.old<|.int<|mo+1) zc zc<|rfl) za za;let#[c,rfl]:=Hx c0;have rg:c9 (fc (fm K1.fr 2<|fc (dV 0)<|fc (d2 af fI (dV 2) zd) fg) fg) (gE n bx.length zb mo near ag ag) (pt (bx++[.dT []]) n p)=.val (fM 0 c) (pt (bx++[.dT []]) n q1):=by
  rw[lJ (fj t rfl) za,nM]
 let#[aO,bx',e,gs,q,w5,w6,rfl,rfl,nd,ok,l]:=m7 (g:=fe 5) (body:=gB) (λi env b=>∃ (gs:List Pg) (q:Int) (w5 w6:Option W),env=gE n bx.length zb mo near w5 w6 /\ b=pt (bx++[.dT<|gs.map ke]) n q /\ gs.Nodup /\ (∀ g∈gs,Gd rs.length ks.length near g) /\ gs.length<=i) (fM 0 c) 0 (gE n bx.length zb mo near ag ag) (pt (bx++[.dT<|([]:List Pg).map ke]) n q1) #[[],q1,ag,ag,rfl,rfl,.nil,(λg m=>nomatch m),aE _] (by
  rintro i w env b hw ⟨gs,q,w5,w6,rfl,rfl,nd,ok,l⟩;let#[_,hi]:=Bj hw;let#[g2,q',y6,e2,n2,m2,l2]:=Ys h H near h0 h1 nd ok za q (ae w) w6;show#[gE n bx.length zb mo near (ae w) w6,_,gE n bx.length zb mo near (ae w) y6,_,rfl,e2,g2,q',_,y6,rfl,rfl,n2,m2,by lia])
 have lr:(fM 0 c).length=c:=by simp[fM]
 rw[lr]at l;let#[ds,q2,e3,pm]:=RI (bx:=bx++[.dT<|gs.map ke]) (n:=n) zh q (gs.map enc) zh;let#[g2,rfl,pg]:=AT pm zc;have lt:EC af (dV 4) (gE n bx.length zb mo near w5 w6) (pt (bx++[.dT<|gs.map ke]) n q)=.val (.d zk) (pt (bx++[.dT<|gs.map ke]) n q):=by
  have v4:dV 4 (gE n bx.length zb mo near w5 w6) (pt (bx++[.dT<|gs.map ke]) n q)=.val (.b bx.length) (pt (bx++[.dT<|gs.map ke]) n q):=rfl;unfold EC;rw[v4,fS];erw[(jv (p:=q) (x:=.dT<|gs.map ke) h),RK];rfl
 refine#[g2,q2,?_,pg.nodup_iff.mpr nd,λg m=>ok g<|pg.mem_iff.mp m,by rw[pg.length_eq];lia];have M:Ac [xB n,ae<|.d zb,xN mo,xN near,ag,ag,ag] (pt bx n p)=.rt (.d<|.lst<|g2.map enc) (pt (bx++[.dT<|gs.map ke]) n q2):=
  (fv s1).trans ((fv<|(im rg).trans e).trans<|fU<|fJ (l:=[.b n,.d zk]) (fj zc<|fj lt zc) zc e3)
 refine(lL (ws:=[.b n,.d zb,.d<|.int mo,.d<|.int near]) M).trans ?_;rw[gG,Bi h]
noncomputable def sh (c:Int):Pg->Pg
 |.aF h l k r p w=>.aF (h+c) l k r p w
 |.to h l r=>.to (h+c) l r
 |.out h l=>.out (h+c) l
theorem Vl {c:Int}{a b:Pg}(h:sh c a=sh c b):a=b:=by
 cases a<;>cases b<;>simp[sh]at h<;>simp_all
def Lt (nr nk:Nat) (g:Pg):zt:=pR nr nk g /\ (aN g).natAbs<=10 ^ 40
theorem WR {nr nk:Nat}{c near:Int}{g:Pg}(h:Gd nr nk near g) (c0:0<=c) (c1:c<=10 ^ 39) (hn:near<=40):Lt nr nk (sh c g):=by
 let#[o,t]:=h;cases g with
 |aF h l k r p w=>
   let#[o1,o2]:=o;have t':h<near:=t;show#[#[by lia,o2],by change (h+c).natAbs<=_;lia]
 |to h l r=>
   let#[o1,o2]:=o;have t':h<near:=t;show#[#[by lia,o2],by change (h+c).natAbs<=_;lia]
 |out h l=>
   let#[o1,o2]:=o;have t':h<near:=t;show#[#[by lia,o2],by change (h+c).natAbs<=_;lia]
theorem WS (c:Int) (g:Pg) (B:List Bx):d2 af fI (fQ<|fc (d2 af fI (d2 af aq (dV 0) zg)<|dV 1) fg) (kY af (dV 0) (kX zd) nz) [ae zB,xN c] B=.val (.d<|enc<|sh c g) B:=by
 cases g<;>simp[enc,eF,cJ,kK,aq,bF,cy,sF,DL.cutD,HT.a9,fI,bp,sh]
theorem RM {B nr nk:Nat}(hB:999<=B) (r5:nr<=5) (k4:nk<=4) {g:Pg}(o:pR nr nk g) (t:(aN g).natAbs<=B):Sm B 1 14000 (enc g):=by
 have li:(reprText<|"in").length<=20:=by decide +kernel
 have lt:(reprText<|"to").length<=20:=by decide +kernel
 have lo:(reprText<|"out").length<=20:=by decide +kernel
 have si:=Sm.str (B:=B) (a:=0) (x:="in");have st:=Sm.str (B:=B) (a:=0) (x:="to");have so:=Sm.str (B:=B) (a:=0) (x:="out");have it:∀ {i:Int},i.natAbs<=B->Sm B 0 1921 _:=λh=>Sm.int h;generalize (reprText _).length=L1 at li si;generalize (reprText _).length=L2 at lt st;generalize (reprText _).length=L3 at lo so;cases g with
 |aF h l k r p w=>
   let#[o1,o2,o3,o4,o5,o6]:=o;show(Sm.tup<|ba.cons (it t)<|ba.cons si<|ba.cons (it (i:=l) za)<|ba.cons (it (i:=k) za)<|ba.cons (it (i:=r) za)<|ba.cons (it (i:=p) za)<|ba.cons (it (i:=w) za) ba.nil).mono (aE _) za
 |to h l r=>
   let#[o1,o2,o3]:=o;show(Sm.tup<|ba.cons (it t)<|ba.cons st<|ba.cons (it (i:=l) za)<|ba.cons (it (i:=r) za) ba.nil).mono (aE _) za
 |out h l=>
   let#[o1,o2]:=o;show(Sm.tup<|ba.cons (it t)<|ba.cons so<|ba.cons (it (i:=l) za) ba.nil).mono (aE _) za
end aJ
namespace cD
open L2 L2.DL K1 kn bM aJ
def pre (h:Int) (ps:Al):Al->Al->List Pg->Al×Al
 |K,R,[]=>(K,R)
 |K,R,g::gs=>if aN g<=h then pre h ps (cR ps K R g) (cW ps K R g) gs else (K,R)
abbrev pT (gs:List Pg):zt:=gs.Pairwise λa b=>aN a<=aN b
theorem Vm (r:EG gs):pT gs:=by
 refine r.imp λ{a b} h=>?_;have:∀ {l m}{i j},HT.cH (.i i::l) (.i j::m)=ah->i<=j:=λ{l m i j} h=>by
  unfold HT.cH at h;split at h
  .ext e;cases e;show uE _
  .have:decide _=ah:=h;simp at this;lia
 cases a<;>cases b<;>show this h
theorem Fb {h:Int}{ps K R:Al}:∀ {gs:List Pg},(∀ g∈gs,¬ aN g<=h)->pre h ps K R gs=(K,R)
 |[],_=>rfl
 |g::gs,l=>by unfold pre;rw[if_neg<|l g<|bC ..]
def yf (ps:Al):Al->Al->List Pg->List (Int×At)
 |_,_,[]=>[]
 |K,R,g::gs=>(aN g,aS (cR ps K R g)<|cW ps K R g)::yf ps (cR ps K R g) (cW ps K R g) gs
abbrev aei (e:Int×At):D:=.tup [.int e.1,.aB<|a8 dP e.2]
theorem G7 (ps:Al):∀ (K R:Al) (gs:List Pg),sV ps K R gs=(yf ps K R gs).map aei
 |_,_,[]=>rfl
 |K,R,g::gs=>by unfold sV yf;rw[aU,G7 ps _ _ gs]
theorem Fc {ps:Al}{e:Int×At}:∀ {K R:Al}{gs:List Pg},e∈yf ps K R gs->∃ g∈gs,aN g=e.1
 |_,_,[],m=>nomatch m
 | K,R,g::gs,m=>by
   rcases bq.mp m with rfl|m
   .show#[g,bC ..,rfl]
   .let#[g',m',e']:=Fc m;show#[g',bu _ m',e']
noncomputable abbrev qx (h:Int) (acc:At) (e:Int×At):At:=if e.1<=h then e.2 else acc
theorem Lp {h:Int}{acc:At}:∀ {l:List (Int×At)},(∀ e∈l,¬ e.1<=h)->l.foldl (qx h) acc=acc:=by
 intro l_;induction l_ with
 |nil=>show λ_=>rfl
 |cons e l az=>
   intro q;change l.foldl _ (if e.1<=h then e.2 else acc)=acc;rw[if_neg<|q e<|bC ..];show az λe m=>q e<|bu _ m
theorem Fd {h:Int}{ps:Al}:∀ {K R:Al}{gs:List Pg},pT gs->(yf ps K R gs).foldl (qx h) (aS K R)=aS (pre h ps K R gs).1 (pre h ps K R gs).2
 |_,_,[],_=>rfl
 | K,R,g::gs,s=>by
   let#[s1,s2]:=List.pairwise_cons.mp s;unfold yf pre;rw[Hg];by_cases c:aN g<=h
   .rw[if_pos c,show qx h _ (aN g,aS _ _)=aS _ _ from if_pos c];show Fd s2
   .rw[if_neg c,show qx h _ (aN g,aS _ _)=aS K R from if_neg c];refine Lp λe m=>?_;let#[g',m',e']:=Fc m;have:=s1 g' m';lia
def taken (ps:Al):Al->Al->List Pg->List Pg
 |_,_,[]=>[]
 |K,R,g::gs=>if word ps K R g="takes" then g::taken ps (stK K g) (pS R g) gs else taken ps K R gs
theorem iD {a:Int×Int}{K:Al}{x:Int}:look (a::K) x=if a.1=x then ae a.2 else look K x:=by
 unfold look;rw[rQ];by_cases h:a.1=x
 .rw[decide_eq_true h,if_pos h];rfl
 .rw[decide_eq_false h,if_neg h]
theorem NK {l k x:Int}:∀ {K:Al},look (K.map λq=>if q.1=l then (q.1,k) else q) x=if x=l /\ (K.any λq=>decide (q.1=l))=ah then ae k else look K x:=by
 intro l_;induction l_ with
 |nil=>(simp)
 |cons a K az=>
   rw[aU,iD,az,iD,rN];by_cases h:a.1=l
   .rw[if_pos h,decide_eq_true h,aaQ];by_cases e:a.1=x
    .rw[if_pos e,if_pos #[by lia,rfl]]
    .rw[if_neg e,if_neg λz=>e za,if_neg λz=>e za,if_neg e]
   .rw[if_neg h,decide_eq_false h,QW];by_cases e:a.1=x
    .rw[if_pos e,if_pos e,if_neg λz=>h za]
    .rw[if_neg e,if_neg e]
theorem NL {k l x:Int}:∀ {K:Al},(K.any λq=>decide (q.1=l))=af->look (K++[(l,k)]) x=if x=l then ae k else look K x:=by
 intro l_;induction l_ with
 |nil=>
   intro _;rw[ng,iD];by_cases e:x=l
   .rw[if_pos e,if_pos e.symm]
   .rw[if_neg e,if_neg λz=>e z.symm]
 |cons a K az=>
   intro h;rw[rN,Bool.or_eq_false_iff,decide_eq_false_iff_not]at h;rw[Hh,iD,az h.2,iD];by_cases e:a.1=x
   .rw[if_pos e,if_pos e,if_neg λz=>h.1 za]
   .rw[if_neg e,if_neg e]
theorem lO {K:Al}{l k x:Int}:look (put K l k) x=if x=l then ae k else look K x:=by
 unfold put;split
 .ext c;rw[NK];by_cases e:x=l
  .rw[if_pos #[e,c],if_pos e]
  .rw[if_neg λz=>e z.1,if_neg e]
 .ext c;show NL<|Bool.eq_false_iff.mpr c
theorem CP {K:Al}{l k x:Int}:kk (put K l k) x=if x=l then k else kk K x:=by
 unfold kk;rw[lO];split<;>rfl
theorem S6 {ps K R:Al}{g:Pg}{x:Int}(h:(look K x).isSome=ah):kk (cR ps K R g) x=kk K x /\ (look (cR ps K R g) x).isSome=ah:=by
 by_cases c:word ps K R g="takes"
 .rw[(gq c).1];cases g with
  |aF h' l k r p w=>
    have hl:(look K l).isSome=af:=by
     simp[word]at c;split at c
     .show absurd c ze
     .ext z;simpa using z
    have ne:x≠l:=λz=>by rw[z,hl]at h;cases h
    change kk (put K l k) x=_ /\ (look (put K l k) x).isSome=ah;rw[CP,lO,if_neg ne,if_neg ne];show#[rfl,h]
  |to h' l r=>show#[rfl,h]
  |out h' l=>show#[rfl,h]
 .rw[(ir c).1];show#[rfl,h]
theorem Fe {k:Nat}{g:DG}{body:aC}{B:List Bx}{l:List D}(hb:B[k]?=ae (.lst l)) (P:Nat->aQ->zt)
 (step:∀ i x env,l[i]?=ae x->P i env->∃ env1 bw,g (.d x) env B=ae (env1,B) /\ body env1 B=.nx bw B /\ P (i+1) bw) :
 ∀ (f i:Nat) (env:aQ),P i env->i<=l.length->l.length<i+f->∃ aO,forL k g body f i env B=.nx aO B /\ P l.length aO
 |0,i,env,_,h1,h2=>by lia
 | f+1,i,env,p,h1,h2=>by
   unfold forL;simp[hb];cases e:l[i]? with
   |none=>
     have:=List.getElem?_eq_none_iff.mp e;have:i=l.length:=by lia
     subst this;show#[env,rfl,p]
   |some x=>
     have:=(List.getElem?_eq_some_iff.mp e).1;let#[env1,bw,a,b,p2]:=step i x env e p;let#[aO,c,d]:=Fe hb P step f _ bw p2 za za;simp[a,b];show#[aO,c,d]
theorem Vn {g:DG}{body:aC}{B0:List Bx}{k:Nat}{l:List D}(hm:m env B0=.val (.b k) B) (hb:B[k]?=ae (.lst l)) (P:Nat->aQ->zt) (p0:P 0 env)
 (step:∀ i x env,l[i]?=ae x->P i env->∃ env1 bw,g (.d x) env B=ae (env1,B) /\ body env1 B=.nx bw B /\ P (i+1) bw):∃ aO,yc m g body env B0=.nx aO B /\ P l.length aO:=by
 unfold yc;rw[hm,iq];have:Za B k=l.length:=by unfold Za;rw[hb]
 simp[this];show Fe hb P step _ 0 env p0 (dM _) za
abbrev pb:aC:=(aH (dB<|d2 af dq (dV 3)<|dV 1) (fE (dV 4)<|fe 2) aL)
theorem RN {h:Int}{E:List (Int×At)}(hb:B[n+4]?=ae (.lst<|E.map aei)) :
 f7 [.m<|ml n,.d<|.int h] B=.val (.d<|.aB<|a8 dP<|E.foldl (qx h) []) B:=by
 refine fT ?_;refine(fv<|gk zc).trans ?_;let#[aO,e,y3,y4,rfl]:=Vn (m:=bW (dV 0) "at") (g:=fL 2<|fq (fe 3)<|fq (fe 4) fO) (body:=pb) (jH zc aeb) hb
  (λi env=>∃ y3 y4,env=[ae<|.m<|ml n,xN h,ae<|.d<|.aB<|a8 dP<|(E.take i).foldl (qx h) [],y3,y4]) #[ag,ag,rfl] (by
  rintro i x env hx ⟨y3,y4,rfl⟩;rw[kr]at hx;let#[e,he,rfl]:=Option.map_eq_some_iff.mp hx;have tk:E.take (i+1)=E.take i++[e]:=by rw[List.take_add_one,he];rfl
  have t:dB (d2 af dq (dV 3)<|dV 1) [ae<|.m<|ml n,xN h,ae<|.d<|.aB<|a8 dP<|(E.take i).foldl (qx h) [],xN e.1,ae<|.d<|.aB<|a8 dP e.2] B=.val _ B:=fV<|fw (r:=.old _) zc zc<|rfl;rw[tk,List.foldl_append];by_cases c:e.1<=h
  .rw[decide_eq_true c]at t;show#[_,_,rfl,(ij t).trans<|gk zc,xN e.1,ae<|.d<|.aB<|a8 dP e.2,by rw[show ([e].foldl (qx h)<|(E.take i).foldl (qx h) [])=e.2 from if_pos c];rfl]
  .rw[decide_eq_false c]at t;show#[_,_,rfl,(gu t).trans zc,xN e.1,ae<|.d<|.aB<|a8 dP e.2,by rw[show ([e].foldl (qx h)<|(E.take i).foldl (qx h) [])=(E.take i).foldl (qx h) [] from if_neg c]])
 rw[a5,Hi]at e;show(fv e).trans (fU zc)
abbrev nG:aC:=(fu (aH (dB<|d2 af eZ (d2 af aq (dV 3) zg)<|dV 1) Il aL)<|aH (dB<|dG af<|dV 5) (uk (dV 2)<|d2 af aq (dV 3) zr)<|kM (dV 2) (d2 af aq (dV 3) zr)<|dV 5)
abbrev sW (q:Pg×D):D:=.tup [enc q.1,q.2,dI q.1]
abbrev g3:DG:=fL 3<|fq (fe 3)<|fq (fe 4)<|fq (fe 5) fO
theorem Zt (g:Pg) (h:env[3]?=ae (ae zB)):d2 af aq (dV 3) zr env B=.val (.d<|.int<|a6 g) B:=by
 cases g<;>simp[h,enc,eF,cJ,kK,aq,bF,cy,a6]
theorem Vo {env1 bw:aQ}{ay:List Bx}{w:W}{l:List W}{g:DG}{body:aC}(h1:g w env bx=ae (env1,bx1)) (h2:body env1 bx1=.bk bw ay):bL g body (w::l) env bx=.nx bw ay:=by
 rw[bL,h1];simp[h2]
theorem Vp {a b:aC}{env1:aQ}(h:a env bx=.bk env1 bx1):fu a b env bx=.bk env1 bx1:=by rw[gQ,h]
section
variable {ps:Al} {h:Int} {x0:Option W}
theorem Vq {K R:Al}(J:dA K R n) (hn:n<=100) {g:Pg}(c:word ps K R g="takes") (t:aN g<=h) (x:D) :
 nG [x0,xN h,xB bx.length,ae zB,ae<|.d x,ae<|.d<|dI g] (bx++[.aB<|bz R])=.nx [x0,xN h,xB bx.length,ae zB,ae<|.d x,ae<|.d<|dI g] (bx++[.aB<|bz<|pS R g]):=by
 have lr:=J.lr;have tt:dB (d2 af eZ _<|dV 1) [x0,xN h,xB bx.length,ae _,ae<|.d x,ae<|.d<|dI g] _=.val af (bx++[.aB<|bz R]):=
  fV (fw (r:=.old<|.bl af) (Vi g zc) zc (by simp[eZ];lia))
 refine(fv<|(gu tt).trans zc).trans ?_;have b0:(bx++[Bx.aB<|bz R])[bx.length]?=ae (.aB<|bz R):=by simp
 have st:∀ L:Al,(bx++[Bx.aB<|bz R]).set bx.length (.aB<|bz L)=bx++[.aB<|bz L]:=λL=>by simp
 cases g with
 |aF h' l k r p w=>
   have p2:=D8 (m:=dV 2) (v:=dV 5) (env:=[x0,xN h,xB bx.length,ae<|.d<|enc<|.aF h' l k r p w,ae<|.d x,ae<|.d<|dI<|.aF h' l k r p w]) zc zc (Zt (.aF h' l k r p w) zc) b0 za;rw[st]at p2;show(gu zc).trans p2
 |to h' l r=>
   have p2:=D8 (L:=R) (m:=dV 2) (k:=d2 af aq (dV 3) zr) (v:=dV 5) (x:=r) (l:=l) (i:=bx.length) (B:=bx++[.aB<|bz R]) (env:=[x0,xN h,xB bx.length,ae<|.d<|enc<|.to h' l r,ae<|.d x,ae<|.d<|dI<|.to h' l r]) zc zc (Zt (.to h' l r) zc) b0 za;rw[st]at p2;show(gu (t:=dB<|dG af<|dV 5) zc).trans p2
 |out h' l=>
   have p2:=SZ (L:=R) (m:=dV 2) (k:=d2 af aq (dV 3) zr) (l:=l) (i:=bx.length) (B:=bx++[.aB<|bz R]) (env:=[x0,xN h,xB bx.length,ae<|.d<|enc<|.out h' l,ae<|.d x,ae<|.d<|dI<|.out h' l]) zc (Zt (.out h' l) zc) b0<|D9 c;rw[st]at p2;show(ij (t:=dB<|dG af<|dV 5) zc).trans p2
theorem RP:∀ (gs:List Pg) (K R:Al) (n:Nat) (S:List<|Pg×D) (y3 y4 y5:Option W),pT gs->dA K R n->n+gs.length<=100->S.map (·.1)=taken ps K R gs ->
 ∃ z3 z4 z5,bL g3 nG ((S.map sW).map W.d) [x0,xN h,xB bx.length,y3,y4,y5] (bx++[.aB<|bz R])=.nx [x0,xN h,xB bx.length,z3,z4,z5] (bx++[.aB<|bz (pre h ps K R gs).2]):=by
 intro l_;induction l_ with
 |nil=>
   intro K R n S y3 y4 y5 _ _ _ e;have:=List.map_eq_nil_iff.mp e;subst this;show#[y3,y4,y5,rfl]
 |cons g gs az=>
   intro K R n S y3 y4 y5 s J hn e;let#[s1,s2]:=List.pairwise_cons.mp s;rw[bD]at hn;by_cases c:word ps K R g="takes"
   .rw[show taken ps K R (g::gs)=g::taken ps _ _ gs from if_pos c]at e;cases S with
    |nil=>cases e
    |cons q S=>
      let#[q1,x]:=q;rw[aU]at e;injection e with e1 e2;subst e1;have g1:g3 (W.d<|sW (q1,x)) [x0,ae _,ae _,y3,y4,y5] _=ae ([x0,xN h,xB bx.length,ae _,ae<|.d x,ae<|.d<|dI q1],bx++[.aB<|bz R]):=rfl;by_cases t:aN q1<=h
      .let#[z3,z4,z5,ih]:=az (stK K q1) (pS R q1) (n+1) S (ae<|.d<|enc q1) (ae<|.d x) (ae<|.d<|dI q1) s2 (J.step c) za e2;refine#[z3,z4,z5,?_];rw[aU,aU,gR g1<|Vq J za c t x,ih,show pre h ps K R (q1::gs)=pre h ps (cR ps K R q1) (cW ps K R q1) gs from if_pos t,(gq c).1,(gq c).2]
      .have tt:dB (d2 af eZ (d2 af aq (dV 3) zg)<|dV 1) [x0,xN h,xB bx.length,ae<|.d<|enc q1,ae<|.d x,ae<|.d<|dI q1] (bx++[.aB<|bz R])=.val ah (bx++[.aB<|bz R]):=
        fV (fw (r:=.old<|.bl ah) (Vi q1 zc) zc (by simp[eZ];lia))
       refine#[ae<|.d<|enc q1,ae<|.d x,ae<|.d<|dI q1,?_];have bk:nG [x0,xN h,xB bx.length,ae<|.d<|enc q1,ae<|.d x,ae<|.d<|dI q1] (bx++[.aB<|bz R])=.bk [x0,xN h,xB bx.length,ae<|.d<|enc q1,ae<|.d x,ae<|.d<|dI q1] (bx++[.aB<|bz R]):=Vp<|(ij tt).trans zc;rw[aU,aU,Vo g1 bk,show pre h ps K R (q1::gs)=(K,R) from if_neg t]
   .rw[show taken ps K R (g::gs)=taken ps K R gs from if_neg c]at e;let#[z3,z4,z5,ih]:=az K R n S y3 y4 y5 s2 J za e;refine#[z3,z4,z5,ih.trans ?_];by_cases t:aN g<=h
    .rw[show pre h ps K R (g::gs)=pre h ps (cR ps K R g) (cW ps K R g) gs from if_pos t,(ir c).1,(ir c).2]
    .rw[show pre h ps K R (g::gs)=(K,R) from if_neg t,Fb λg' m=>by have:=s1 g' m;lia]
end
theorem WT {i k:Nat}{l:List (Key×D)}(h:env[k]?=ae (xB i)) (hb:bx[i]?=ae (.aB l)):sI k env bx=.val (.d<|.aB l) (bx.set i .dead):=by
 unfold sI;simp[h,hb]
theorem RQ {h:Int}{S:List (Pg×D)}(s:pT qs) (hl:qs.length<=16) (e:S.map (·.1)=taken ps [] [] qs) :
 iP [.d<|.lst<|S.map sW,.d<|.int h] bx=.val (.d<|.aB<|bz (pre h ps [] [] qs).2) bx:=by
 let#[z3,z4,z5,f]:=RP qs [] [] 0 S ag ag ag s Zn za e;have s1:fE (n6 ah []) (fe 2) [ae<|.d<|.lst<|S.map sW,xN h,ag,ag,ag,ag] bx=.nx [ae<|.d<|.lst<|S.map sW,xN h,xB bx.length,ag,ag,ag] (bx++[.aB<|bz []]):=by
  have:n6 ah [] [ae<|.d<|.lst<|S.map sW,xN h,ag,ag,ag,ag] bx=.val (.b bx.length) (bx++[.aB<|bz []]):=rfl;show gk this
 have b:lH [ae<|.d<|.lst<|S.map sW,xN h,ag,ag,ag,ag] bx=.rt (.d<|.aB<|bz (pre h ps [] [] qs).2) ((bx++[Bx.aB<|bz (pre h ps [] [] qs).2]).set bx.length .dead):=
  (fv s1).trans ((fv<|(im<|gp zc).trans f).trans<|fU<|WT zc zj)
 refine(lL b).trans ?_;simp
theorem aiT:∀ (T:List<|Pg×Str×D×D) (w0 w1 w2 w3:Option W) (acc:List D),acc.length+T.length<=1000 ->
 bG g4 (dB<|d2 af aY (dV 1)<|dC<|.str "takes") (fQ<|fc (dV 0)<|fc (dV 2)<|fc (dV 3) fg) ((T.map tq).map W.d) [w0,w1,w2,w3] B acc=.val (acc++(T.filter λx=>decide (x.2.1=("takes":Str))).map λx=>.tup [enc x.1,x.2.2.1,x.2.2.2]) B:=by
 intro l_;induction l_ with
 |nil=>(intro _ _ _ _ acc _;simp[bG])
 |cons x T az=>
   intro w0 w1 w2 w3 acc hl;have z:sizeLine=16777216:=bp;rw[bD]at hl;have e0:g4 (W.d<|tq x) [w0,w1,w2,w3] B=ae ([ae _,ae _,ae _,ae _],B):=rfl;have t:dB (d2 af aY (dV 1)<|dC<|.str "takes") [ae<|.d<|enc x.1,ae<|.d<|.str x.2.1,ae<|.d x.2.2.1,ae<|.d x.2.2.2] B=.val (decide (x.2.1="takes")) B:=fV<|fw zc zc<|eq_str _ _;have e1:fQ (fc (dV 0)<|fc (dV 2)<|fc (dV 3) fg) [ae<|.d<|enc x.1,ae<|.d<|.str x.2.1,ae<|.d x.2.2.1,ae<|.d x.2.2.2] B=.val (.d<|.tup [enc x.1,x.2.2.1,x.2.2.2]) B:=gj [enc x.1,x.2.2.1,x.2.2.2] zc zh;by_cases c:x.2.1=("takes")
   .have ih:=az (ae<|.d<|enc x.1) (ae<|.d<|.str x.2.1) (ae<|.d x.2.2.1) (ae<|.d x.2.2.2) (acc++[.tup [enc x.1,x.2.2.1,x.2.2.2]]) zh;rw[decide_eq_true c]at t;erw[aU,bG,e0,t,oH,e1];rw[if_pos za,ih,tH (by simpa using c)];simp
   .rw[decide_eq_false c]at t;erw[aU,bG,e0,t,oH];rw[(az (ae<|.d<|enc x.1) (ae<|.d<|.str x.2.1) (ae<|.d x.2.2.1) (ae<|.d x.2.2.2) acc za),tF (by simpa using c)]
end cD
namespace K23
noncomputable def sm (f:Int->Int) (a:Int):Nat->Int
 |0=>0
 |n+1=>sm f a n+f (a+n)
theorem Bo (f:Int->Int) (a:Int) (m:Nat):∀ n,sm f a (m+n)=sm f a m+sm f (a+m) n
 |0=>by simp[sm]
 | n+1=>by
   change sm f a (m+n)+f (a+((m+n)))=sm f a m+(sm f _ n+f _);rw[Bo f a m n,show a+((m+n))=a+m+n by lia];lia
theorem io {f:Int->Int}{a c:Int}:∀ {n:Nat},(∀ h,a<=h->h<a+n->f h=c)->sm f a n=c*n:=by
 intro l_;induction l_ with
 |zero=>(intro _;simp[sm])
 |succ n az=>
   intro h;change sm f a n+f _=_;rw[az λx h1 h2=>h x h1 za,h _ za za,Int.natCast_succ,abE,xg]
theorem G8 {f:Int->Int}{a:Int}(p:∀ h,0<=f h) (m:Nat):∀ n,sm f a m<=sm f a (m+n)
 |0=>uE _
 |n+1=>by have:=G8 p m n (a:=a);have:=p<|a+((m+n));change _<=sm f a (m+n)+f (a+((m+n)));lia
theorem NM {f:Int->Int}{a:Int}(p:∀ h,0<=f h) {m:Nat}(h:m<=n):sm f a m<=sm f a n:=by
 let#[k,rfl]:=Nat.exists_eq_add_of_le h;show G8 p m k
noncomputable abbrev Sx:=Int×Option Int×Int
noncomputable def u9 (f:Int->Int):List Int->List Sx
 |[]=>[]
 |[b]=>[(b,ag,f b)]
 |b::c::r=>(b,ae c,f b)::u9 f (c::r)
noncomputable def EM (f:Int->Int):List Int->zt
 |[]=>True
 |[b]=>∀ h,b<=h->f h=f b
 |b::c::r=>b<c /\ (∀ h,b<=h->h<c->f h=f b) /\ EM f (c::r)
noncomputable def oV (h:Int):Option Int->Int
 |none=>h
 |some e=>min e h
def Kg (h:Int):Int->List Sx->Int
 |r,[]=>r
 |r,q::t=>Kg h (r+q.2.2*max 0 (oV h q.2.1-q.1)) t
theorem Ff {f:Int->Int}{h:Int}:∀ {r:List Int}{b x:Int},EM f (b::r)->Kg h x (u9 f (b::r))=x+sm f b (h-b).toNat
 | [],b,x,c=>by
   change x+f b*max 0 (h-b)=_;rw[io λy h1 _=>c y h1];congr 1;congr 1;lia
 | c::r,b,x,⟨l,k,t⟩=>by
   change Kg h (x+f b*max 0 (min c h-b)) _=_;rw[Ff t];by_cases q:h<=c
   .rw[show (h-c).toNat=0 by lia,show min c h=h by lia,io λy h1 h2=>k y h1 za];change _+(0)=_;rw[show max 0 (h-b)=(((h-b).toNat)) by lia];lia
   .rw[show (h-b).toNat=(c-b).toNat+(h-c).toNat by lia,Bo,io λy h1 h2=>k y h1 za,show min c h=c by lia,show max 0 (c-b)=(((c-b).toNat)) by lia,show b+(((c-b).toNat))=c by lia];lia
def dJ (f:Int->Int) (a need:Int):Option Int->zt
 |none=>∀ n,sm f a n<need
 |some t=>a<=t /\ need<=sm f a (t-a).toNat /\ ∀ n:Nat,(n:Int)<t-a->sm f a n<need
theorem dJ.uniq {f:Int->Int}{a need:Int}:∀ {x y:Option Int},dJ f a need x->dJ f a need y->x=y
 |none,ag,_,_=>rfl
 |none,ae t,h,⟨_,k,_⟩=>absurd (h (t-a).toNat) za
 |some t,ag,⟨_,k,_⟩,h=>absurd (h (t-a).toNat) za
 | some t,ae u,⟨a1,b1,c1⟩,⟨a2,b2,c2⟩=>by
   rcases Int.lt_trichotomy t u with h|h|h
   .have:=c2 (t-a).toNat za;lia
   .rw[h]
   .have:=c1 (u-a).toNat za;lia
theorem dJ.of {f:Int->Int}{a need:Int}(p:∀ h,0<=f h) {m:Nat}(hm:sm f a m<need):∀ {x:Option Int},dJ f (a+m) (need-sm f a m) x->dJ f a need x
 | none,h=>λn=>by
   have h1:=h n;have h2:=NM (a:=a) p<|Nat.le_add_left n m;rw[Bo]at h2;lia
 | some t,⟨k1,k2,k3⟩=>by
   refine#[by lia,?_,λn hn=>?_]
   .rw[show (t-a).toNat=m+(t-(a+m)).toNat by lia,Bo];lia
   .by_cases q:n<=m
    .have:=NM (a:=a) p q;lia
    .have:=k3 (n-m) za;rw[show n=m+(n-m) by lia,Bo];lia
theorem Bp {x p:Int}(hp:0<p) (hx:0<x):0<(x+p-1) / p /\ x<=p*((x+p-1) / p) /\ p*((x+p-1) / p)<x+p:=by
 have e:=Xr (x+p-1) p;have m0:=Xq (x+p-1) (show p≠0 by lia);have m1:=Hw (x+p-1) hp;generalize (x+p-1) / p=q at *;refine#[?_,by lia,by lia];rcases abF 0 q with h|h
 .show h
 .have:p*q<=0:=Int.mul_nonpos_of_nonneg_of_nonpos za h;lia
theorem Bq {f:Int->Int}{b p x:Int}(hp:0<p) (hx:0<x) (k:∀ h,b<=h->h<b+(x+p-1) / p->f h=p):dJ f b x (ae<|b+(x+p-1) / p):=by
 let#[c0,c1,c2]:=Bp hp hx;generalize (x+p-1) / p=q at *;refine#[by lia,?_,λn hn=>?_]
 .rw[io λh h1 h2=>k h h1 za,show (((b+q-b).toNat))=q by lia];show c1
 .rw[io λh h1 h2=>k h h1 za];have:p*(n)<=p*(q-1):=Xt za za;rw[abG,xg]at this;lia
noncomputable def ur:Int->List Sx->Option Int
 |_,[]=>ag
 |x,q::t=>if 0<q.2.2 then (match q.2.1 with
  |none=>ae<|q.1+(x+q.2.2-1) / q.2.2
  |some e=>if q.1+(x+q.2.2-1) / q.2.2<=e then ae (q.1+(x+q.2.2-1) / q.2.2) else ur (x-q.2.2*(e-q.1)) t) else ur x t
theorem Br {f:Int->Int}(p:∀ h,0<=f h):∀ {r:List Int}{b x:Int},EM f (b::r)->0<x->dJ f b x (ur x<|u9 f (b::r))
 | [],b,x,c,hx=>by
   change dJ f b x (if 0<f b then ae _ else ag);split
   .ext h;show Bq h hx λy h1 _=>c y h1
   .have h0:=p b;intro n;rw[io (c:=0) λy h1 _=>by rw[c y h1];lia];lia
 | c::r,b,x,⟨l,k,t⟩,hx=>by
   have EN:sm f b (c-b).toNat=f b*(c-b):=by rw[io λy h1 h2=>k y h1 za,show (((c-b).toNat))=c-b by lia]
   have ec:b+(((c-b).toNat))=c:=by lia
   change dJ f b x (if 0<f b then (if b+(x+f b-1) / f b<=c then ae (b+(x+f b-1) / f b) else ur _ _) else ur x _);split
   .ext h;split
    .show Bq h hx λy h1 h2=>k y h1 za
    .let#[c0,c1,c2]:=Bp h hx;have lt:f b*(c-b)<x:=by
      generalize (x+f b-1) / f b=d at *;have:f b*(c-b)<=f b*(d-1):=Xt za za;have e:f b*(d-1)=f b*d-f b:=by rw[abG,xg]
      lia
     refine dJ.of p (by rw[EN];show lt) ?_;rw[EN,ec];show Br p t za
   .ext h;have h0:=p b;have z:f b=0:=by lia
    rw[z,Int.zero_mul]at EN;refine dJ.of p (by rw[EN];show hx) ?_;rw[EN,ec,Xu];show Br p t hx
open L2 L2.DL K2 aJ cD
noncomputable def yh:Pg->List Int
 |.aF _ _ _ r _ _=>[r]
 |.to _ _ r=>[r]
 |.out ..=>[]
def rH (R:Al) (g:Pg):Al:=(yh g++(look R<|a6 g).toList).map λr=>(aN g,r)
def ops (ps:Al):Al->Al->List Pg->Al
 |_,_,[]=>[]
 |K,R,g::gs=>if word ps K R g="takes" then rH R g++ops ps (stK K g) (pS R g) gs else ops ps K R gs
theorem Bs {ps:Al}{q:Int×Int}:∀ {gs:List Pg}{K R:Al},q∈ops ps K R gs->∃ g∈taken ps K R gs,aN g=q.1:=by
 intro l_;induction l_ with
 |nil=>(intro _ _ m;show nomatch m)
 |cons g gs az=>
   intro K R m;unfold ops at m;unfold taken;split at m
   .ext c;rw[if_pos c];rcases List.mem_append.mp m with m|m
    .let#[r,_,rfl]:=bA.mp m;show#[g,bC ..,rfl]
    .let#[x,mx,e]:=az m;show#[x,bu _ mx,e]
   .ext c;rw[if_neg c];show az m
theorem NO {ps:Al}{b h:Int}(hb:b<=h):∀ {gs:List Pg}{K R:Al},pT gs->(∀ g∈taken ps K R gs,¬ (b<aN g /\ aN g<=h))->pre h ps K R gs=pre b ps K R gs:=by
 intro l_;induction l_ with
 |nil=>(intro _ _ _ _;show rfl)
 |cons g gs az=>
   intro K R s t;have s2:=(List.pairwise_cons.mp s).2;unfold pre;by_cases c:word ps K R g="takes"
   .unfold taken at t;rw[if_pos c]at t;have tg:=t g<|bC ..;rw[(gq c).1,(gq c).2];by_cases q:aN g<=b
    .rw[if_pos q,if_pos za,(az s2 λx m=>t x<|bu _ m)]
    .rw[if_neg q,if_neg za]
   .unfold taken at t;rw[if_neg c]at t;have ih:=az s2 t;rw[(ir c).1,(ir c).2];by_cases q:aN g<=b
    .rw[if_pos q,if_pos za,ih]
    .rw[if_neg q];by_cases q2:aN g<=h
     .rw[if_pos q2,ih];show Fb λx m=>by have:=(List.pairwise_cons.mp s).1 x m;lia
     .rw[if_neg q2]
theorem RR {c b h:Int}(hc:c<=3) (hh:1<=hold) (hb:b<=h):∀ {ps:Al},(∀ p∈ps,∀ x∈[p.1,p.2,p.1+1*hold,p.1+2*hold,p.1+3*hold],¬ (b<x /\ x<=h))->dg c hold h ps=dg c hold b ps:=by
 intro l_;induction l_ with
 |nil=>show λ_=>rfl
 |cons p ps az=>
   intro t;have tp:=t p<|bC ..;simp[bq,forall_eq_or_imp]at tp;unfold dg;by_cases q:p.1<=b /\ b<p.2
   .rw[if_pos q,if_pos za];have eb:=Xr (b-p.1) hold;have b1:=Hw (b-p.1) (show 0<hold by lia);have eh:=Xr (h-p.1) hold;have h0:=Xq (h-p.1) (show hold≠0 by lia);have h1:=Hw (h-p.1) (show 0<hold by lia);have le:(b-p.1) / hold<=(h-p.1) / hold:=Int.ediv_le_ediv za za;have nn:0<=(b-p.1) / hold:=abC za za;generalize (b-p.1) / hold=u at *;generalize (h-p.1) / hold=v at *;by_cases u3:3<=u
    .rw[show max 0 (c-v)=0 by lia,show max 0 (c-u)=0 by lia]
    .have:v=u:=by
      rcases abF u v with lt|ge
      .have m1:hold*(u+1)<=hold*v:=Xt za za;rw[abE,xg]at m1;have:u=0 \/ u=1 \/ u=2:=by lia
       rcases this with rfl|rfl|rfl<;>lia
      .lia
     rw[this]
   .rw[if_neg q,if_neg za,(az λx m=>t x<|bu _ m)]
def wx (rl:List Int) (hold:Int) (outs:Al) (rt:List Int) (D:Al) (h:Int):Option Int->Int
 |none=>0
 |some r=>rt.getD (max 0<|dg (rl.getD r.toNat 0) hold h outs-if (h,r)∈D then 1 else 0).toNat 0
abbrev nG (ps:Al) (qs:List Pg) (l h:Int):Option Int:=look (pre h ps [] [] qs).2 l
abbrev bS (rl:List Int) (hold:Int) (outs:Al) (rt:List Int) (ps:Al) (qs:List Pg) (l h:Int):Int:=wx rl hold outs rt (ops ps [] [] qs) h<|nG ps qs l h
abbrev chg (hold:Int) (outs:Al) (tk:List Pg):List Int:=(outs.map λp=>[p.1,p.2,p.1+1*hold,p.1+2*hold,p.1+3*hold]).flatten++(tk.map λg=>[aN g,aN g+1]).flatten
theorem RS {outs:Al}{rt:List Int}{ps:Al}{l:Int}(s:pT qs) (hr:∀ c∈rl,c<=3) (hh:1<=hold) {b h:Int}(hb:b<=h)
 (t:∀ x∈chg hold outs (taken ps [] [] qs),¬ (b<x /\ x<=h)) :
 bS rl hold outs rt ps qs l h=bS rl hold outs rt ps qs l b:=by
 have t2:∀ g∈taken ps [] [] qs,¬ (b<aN g /\ aN g<=h) /\ ¬ (b<aN g+1 /\ aN g+1<=h):=λg m=>
  #[t _<|eG _ (List.mem_flatten.mpr #[_,bA.mpr #[g,m,rfl],by simp]),t _<|eG _ (List.mem_flatten.mpr #[_,bA.mpr #[g,m,rfl],by simp])]
 rcases Int.lt_or_eq_of_le hb with lt|rfl
 .unfold bS nG;rw[NO hb s λg m=>(t2 g m).1];cases look (pre b ps [] [] qs).2 l with
  |none=>rfl
  |some r=>
    have c3:rl.getD r.toNat 0<=3:=by
     rw[vm];cases q:rl[r.toNat]? with
     |none=>simp
     |some v=>show hr v<|pD q
    erw[wx];rw[RR c3 hh hb λp m x mx=>t x<|pY _<|List.mem_flatten.mpr #[_,bA.mpr #[p,m,rfl],mx],if_neg λm=>?_,if_neg λm=>?_]
    .let#[g,mg,e]:=Bs m;have:=(t2 g mg).2;lia
    .let#[g,mg,e]:=Bs m;have:=(t2 g mg).1;lia
 .rfl
theorem NP {f:Int->Int}{C:List Int}(k:∀ b h,b<=h->(∀ x∈C,¬ (b<x /\ x<=h))->f h=f b):∀ {L:List Int},L.Pairwise (·<·)->(∀ x∈C,∀ b,L.head?=ae b->b<x->x∈L)->EM f L
 |[],_,_=>True.intro
 | [b],_,t=>λh hb=>k b h hb λx m q=>by
   have:=t x m b zc q.1;cases eU.mp this;lia
 | b::c::r,s,t=>by
   have s1:=List.pairwise_cons.mp s;have lt:=s1.1 c<|bC ..;refine#[lt,λh h1 h2=>k b h h1 λx m q=>?_,NP k s1.2 λx m b' e q=>?_]
   .have:=t x m b zc q.1;rcases bq.mp this with rfl|this
    .lia
    .rcases bq.mp this with rfl|this
     .lia
     .have:=(List.pairwise_cons.mp s1.2).1 x this;lia
   .cases e;have:=t x m b zc za;rcases bq.mp this with rfl|this
    .lia
    .show this
open K1
abbrev EO (R:Al) (g:Pg):D:=((look R<|a6 g).map D.int).getD .non
def pU (ps:Al):Al->Al->List Pg->List (Pg×Str×D×D)
 |_,_,[]=>[]
 |K,R,g::gs=>if word ps K R g="takes" then (g,word ps K R g,EO R g,dI g)::pU ps (stK K g) (pS R g) gs else (g,word ps K R g,.non,.non)::pU ps K R gs
def sX (ps:Al):Al->Al->List Pg->List (Pg×D)
 |_,_,[]=>[]
 |K,R,g::gs=>if word ps K R g="takes" then (g,EO R g)::sX ps (stK K g) (pS R g) gs else sX ps K R gs
theorem Lq {ps:Al}:∀ {gs:List Pg}{K R:Al},(sX ps K R gs).map (·.1)=taken ps K R gs:=by
 intro l_;induction l_ with
 |nil=>(intro _ _;show rfl)
 |cons g gs az=>
   intro K R;unfold sX taken;split
   .rw[aU,az]
   .show az
theorem RT {ps:Al}:∀ {gs:List Pg}{K R:Al},(pU ps K R gs).length=gs.length:=by
 intro l_;induction l_ with
 |nil=>(intro _ _;show rfl)
 |cons g gs az=>
   intro K R;unfold pU;split<;>rw[bD,az,bD]
theorem RU {ps:Al}:∀ {gs:List Pg}{K R:Al},((pU ps K R gs).filter λx=>decide (x.2.1=("takes":Str))).map (λx=>D.tup [enc x.1,x.2.2.1,x.2.2.2])=(sX ps K R gs).map sW:=by
 intro l_;induction l_ with
 |nil=>(intro _ _;show rfl)
 |cons g gs az=>
   intro K R;unfold pU sX;by_cases c:word ps K R g="takes"
   .rw[if_pos c,if_pos c,tH (by simpa using c),aU,aU,az]
   .rw[if_neg c,if_neg c,tF (by simpa using c),az]
section
variable {P:D} 
theorem Lr (h:Hs rs ks ps hd):∀ (gs:List Pg) (T:List<|Pg×Str×D×D) (K R:Al) (n:Nat) (x5 x6 x7:Option W),dA K R n->n+gs.length<=100->T.length+gs.length<=100 ->
 ∃ K' R' y5 y6 y7,bL (fe 5) rB ((gs.map enc).map W.d) (rE zb P bx.length x5 x6 x7) (Bk bx T K R)=.nx (rE zb P bx.length y5 y6 y7) (Bk bx (T++pU ps K R gs) K' R'):=by
 intro l_;induction l_ with
 |nil=>show λT K R n x5 x6 x7 _ _ _=>#[K,R,x5,x6,x7,by simp[bL,pU]]
 |cons g gs az=>
   intro T K R n x5 x6 x7 J hn hT;rw[bD]at hn hT;have g1:fe 5 _ (rE _ P bx.length x5 x6 x7) _=ae (rE zb P bx.length (ae zB) x6 x7,Bk bx T K R):=rfl;unfold pU;by_cases c:word ps K R g="takes"
   .let#[K',R',y5,y6,y7,e2]:=az (T++[(g,word ps K R g,EO R g,dI g)]) _ _ _ _ _ _ (J.step c) za zh;refine#[K',R',y5,y6,y7,?_];rw[if_pos c,aU,aU,gR g1<|Vf (P:=P) (bx:=bx) (T:=T) h J za za g x6 x7 c,e2,qC];rfl
   .let#[K',R',y5,y6,y7,e2]:=az (T++[(g,word ps K R g,.non,.non)]) K R n (ae zB) (xN<|a6 g) (ae<|.d<|.str<|word ps K R g) J za zh;refine#[K',R',y5,y6,y7,?_];rw[if_neg c,aU,aU,Vd g1<|WN (P:=P) (bx:=bx) h J za za (T:=T) g x6 x7 c,e2,qC];rfl
theorem Vr (h:Hs rs ks ps hd) (hl:qs.length<=16) (so:dX [.lst<|gs.map enc]=ae (.lst<|qs.map enc)) :
 aJ.Cw [.d zb,.d zk] bx=.val (.d<|.lst<|(pU ps [] [] qs).map tq) bx:=by
 let#[K',R',y5,y6,y7,e]:=Lr h qs [] [] [] 0 ag ag ag Zn za zh;have s1:fE (gx ah fg) (fe 2) [ae _,ae _,ag,ag,ag,ag,ag,ag] bx=.nx [ae<|.d zb,ae<|.d zk,ae _,ag,ag,ag,ag,ag] _:=gk<|oO [] zc<|dM _;have s2:fE (n6 ah []) (fe 3) [ae<|.d zb,ae<|.d zk,xB bx.length,ag,ag,ag,ag,ag] (bx++[.lst []])=.nx [ae<|.d zb,ae<|.d zk,xB bx.length,xB<|bx.length+1,ag,ag,ag,ag] (bx++[.lst [],.aB []]):=by
  have:n6 ah [] [ae<|.d zb,ae<|.d zk,xB bx.length,ag,ag,ag,ag,ag] (bx++[.lst []])=.val (.b<|bx.length+1) (bx++[.lst [],.aB []]):=by
   simp[n6,cq]
  show gk this
 have s3:fE (n6 ah []) (fe 4) [ae<|.d zb,ae<|.d zk,xB bx.length,xB<|bx.length+1,ag,ag,ag,ag] (bx++[.lst [],.aB []])=.nx (rE zb zk bx.length ag ag ag) (Bk bx [] [] []):=by
  have:n6 ah [] [ae<|.d zb,ae<|.d zk,xB bx.length,xB<|bx.length+1,ag,ag,ag,ag] (bx++[.lst [],.aB []])=.val (.b<|bx.length+2) (Bk bx [] [] []):=by
   simp[n6,cq,Bk,a8]
  show gk this
 have it:bj (dN af dX<|fc (dV 1) fg) (rE zb zk bx.length ag ag ag) (Bk bx [] [] [])=.val ((qs.map enc).map W.d) (Bk bx [] [] []):=
  gp (iQ (r:=.lst<|qs.map enc) [.lst<|gs.map enc] (fj zc zc) so)
 have b:M2 [ae<|.d zb,ae<|.d zk,ag,ag,ag,ag,ag,ag] bx=.rt (.d<|.lst<|(pU ps [] [] qs).map tq) ((Bk bx (pU ps [] [] qs) K' R').set bx.length .dead):=by
  refine(fv s1).trans ((fv s2).trans<|(fv s3).trans<|(fv<|(im it).trans e).trans ?_);rw[ng];show fU<|SS zc EI
 refine(lL (ws:=[.d zb,.d zk]) b).trans ?_;simp[Bk,abg]
theorem RV (H:Hs rs ks ps hd) (hl:qs.length<=16) (so:dX [.lst<|gs.map enc]=ae (.lst<|qs.map enc)) :
 cD.gJ [.d zb,.d zk] bx=.val (.d<|.lst<|(sX ps [] [] qs).map sW) bx:=by
 have c:=aiT (B:=bx) (pU ps [] [] qs) ag ag ag ag [] (by rw[RT];simp;lia);rw[RU,ng]at c;show fT<|fU<|gn (gp<|fJ zc zc<|Vr H hl so) zc c
end
def stC (ca:List<|Int×Pg):Pg->List (Int×Pg)
 |.aF h l k r p w=>put ca l<|.aF h l k r p w
 |_=>ca
def rJ (ps K R:Al) (ca:List<|Int×Pg) (g:Pg):List (Int×Pg):=if word ps K R g="takes" then stC ca g else ca
def ER (ps K R:Al) (g:Pg):Al:=if word ps K R g="takes" then rH R g else []
theorem oW {ps K R:Al}{g:Pg}(h:¬ word ps K R g="takes"):rJ ps K R ca g=ca /\ ER ps K R g=[]:=#[if_neg h,if_neg h]
theorem iJ {ps K R:Al}{g:Pg}(h:word ps K R g="takes"):rJ ps K R ca g=stC ca g /\ ER ps K R g=rH R g:=#[if_pos h,if_pos h]
noncomputable abbrev k2 (q:Int×Int):List Key:=[.inl q.1,.inl q.2]
def rK (dr ck:List<|List Key×D) (l:Al):zt:=∀ q:Int×Int,(eN ck<|k2 q).isSome=((eN dr<|k2 q).isSome||decide (q∈l))
theorem rK.refl:rK dr dr []:=λq=>by simp
theorem rK.trans {a b c:List (List Key×D)}{l m:Al}(h:rK a b l) (k:rK b c m):rK a c (l++m):=λq=>by
 simp[k q,h q,Bool.or_assoc]
theorem Ls {k k':List Key}{d:D}:(eN (sP dr k d) k').isSome=((eN dr k').isSome||decide (k'=k)):=by
 unfold eN sP;rw[pG,pG];split
 .ext h;rw[abe,pG,show ((λx:List Key×D=>decide _)∘λkv=>if kv.1=k then (kv.1,d) else kv)=λx=>decide _ from funext λx=>by change decide ((if x.1=k then (x.1,d) else x).1=k')=_;split<;>rfl];by_cases e:k'=k
  .subst e;have:(dr.find? λx=>decide (x.1=k')).isSome=ah:=by simpa using h
   rw[this];rfl
  .simp[e]
 .congr 1;by_cases e:k'=k
  .subst e;simp
  .simp[e,Ne.symm e]
section
variable {K R:List (Int × Int)} 
variable {go:Al} {av wd:List D}
theorem RW {th:At}{mk:DE W}{a b:Int}(e1:env[1]?=ae (ae<|.m<|ml bx.length)) (hk:∀ B,mk env B=.val (.d<|dP (a,b)) B) (hl:dr.length<=1000):∃ ck,ck.length<=dr.length+1 /\ rK dr ck [(a,b)] /\ rD (bW (dV 1) "doors") mk (dC<|.bl ah) env (Bl bx th ca go dr av wd)=.nx env (Bl bx th ca go ck av wd):=by
 have z:=bp;refine#[sP dr [.inl a,.inl b]<|.bl ah,?_,λq=>?_,?_]
 .unfold sP;split<;>simp
 .rw[Ls];congr 1;simp[Prod.ext_iff]
 .unfold rD;rw[show dC _ env _=.val _ _ from rfl,iq,jH (by rw[oJ,e1]) aea,iq,hk,iq];change (match (Bl bx th ca go dr av wd)[bx.length+3]?,ui _ with|some (.dT l),ae k=>if l.length<sizeLine then OS.nx env _ else .bad|_,_=>.bad)=_;rw[ad7];show(if_pos za).trans (by rw[aiK])
theorem aiU (h:Hs rs ks ps hd) (J:dA K R n) (hn:n<=100) {m:Nat}(Q:Lb K ca go dr m) (hm:m<=100) (g:Pg) :
 ∃ go' ck,g6 [ae<|.d zb,ae<|.m<|ml bx.length,ae zB,ag,ag,ag,ag,ag,ag] (Bl bx (aS K R) ca go dr av wd)=.rt (.d<|.str<|word ps K R g) (Bl bx (aS (cR ps K R g)<|cW ps K R g) (rJ ps K R ca g) go' ck av wd) /\ Lb (cR ps K R g) (rJ ps K R ca g) go' ck (m+1) /\ rK dr ck (ER ps K R g):=by
 have z:sizeLine=16777216:=bp;have qc:=Q.c;have qg:=Q.g;have qd:=Q.d
 let E:=λx7 x8=>oE zb bx.length g (xB bx.length) x7 x8
 let B0:=Bl bx (aS K R) ca go dr av wd
 have pf:∀ {k:aC}{o:OS},k (E ag ag) B0=o->fu (fE (kY af (dV 2) nz<|kX zo)<|fL 3<|fq (fe 3)<|fq (fe 4)<|fq (fe 5) fO) (fu (fE (bW (dV 1) "there")<|fe 6) k) [ae<|.d zb,ae<|.m<|ml bx.length,ae zB,ag,ag,ag,ag,ag,ag] B0=o:=λq=>(fv (env1:=oE zb bx.length g ag ag ag) (by cases g<;>simp[enc,eF,cJ,kK,sF,DL.cutD,HT.a9,aN,cu,a6])).trans<|qS (jH zc ad9) q
 suffices H:∀ P:zt,(∀ s:Str,word ps K R g=s->¬ s="takes"->g6 [ae<|.d zb,ae<|.m<|ml bx.length,ae zB,ag,ag,ag,ag,ag,ag] B0=.rt (.d<|.str s) B0->P)->(word ps K R g="takes"->∀ go' ck,g6 [ae<|.d zb,ae<|.m<|ml bx.length,ae zB,ag,ag,ag,ag,ag,ag] B0=.rt (.d<|.str "takes") (Bl bx (aS (stK K g)<|pS R g) (stC ca g) go' ck av wd)->Lb (stK K g) (stC ca g) go' ck (m+1)->rK dr ck (rH R g)->P)->P from H _ (λs e d q=>by
  subst e;show#[go,dr,by rw[(ir d).1,(ir d).2,(oW d).1];show q,by rw[(ir d).1,(oW d).1];show#[Q.k,Q.i,by lia,by lia,by lia],by rw[(oW (ca:=ca) d).2];show .refl]) λe go' ck a b c=>#[go',ck,by rw[(gq e).1,(gq e).2,(iJ e).1,e];show a,by rw[(gq e).1,(iJ e).1];show b,by rw[(iJ (ca:=ca) e).2];show c]
 intro P no ys;have tw:∀ (w:Str) (x7 x8:Option W) (B:List Bx),dB (d2 af aY (dV 4)<|dC<|.str w) (E x7 x8) B=.val (decide (cu g=w)) B:=λw x7 x8 B=>fV<|fw (r:=.old<|.bl<|decide (cu g=w)) zc zc<|eq_str _ _;have ni:=fV<|D4 (e:=dP) (L:=aS K R) (k:=dV 5) (m:=dV 6) (env:=E ag ag) (bx:=B0) (l:=a6 g) ah zc zc<|lh u6;rw[jG,pG]at ni;have g2:∀ {r0:Int}{k:aC}{o:OS},look R (a6 g)=ae r0->k (E (xN<|kk K<|a6 g)<|xN r0) B0=o->fu (fE (cj (dV 6)<|dV 5)<|fL 2<|fq (fe 7)<|fq (fe 8) fO) k (E ag ag) B0=o:=λ{r0} _ _ c q=>qG (lM (e:=dP) (L:=aS K R) (l:=a6 g) (v:=(kk K<|a6 g,r0)) zc zc (lh u6) (by rw[jG,c];rfl)) zc q;have dk:∀ {r0:Int}{x7:Option W}{B:List Bx},fQ (fc (dV 3)<|fc (dV 8) fg) (E x7<|xN r0) B=.val (.d<|dP (aN g,r0)) B:=λ{r0 _ _}=>gj [.int<|aN g,.int r0] zc zh;cases g with
 |aF h' l k r p w=>
   have t1:=fV<|D4 (e:=enc) (L:=ca) (k:=dV 5) (m:=bW (dV 1) "came") (env:=E ag ag) (bx:=B0) (l:=l) af zc (jH zc EK)<|lh Zo;rw[Ln Q.keys]at t1;have t2:=WP (rs:=rs) (ks:=ks) (ps:=ps) (hd:=hd) (bx:=bx) (B:=B0) (env:=E ag ag) (mk:=d2 af aq (dV 2) zo) (mr:=d2 af aq (dV 2)<|dC<|.int 4) (k:=k) (r:=r) J hn u6 zc zc zc zc;cases c:(look K l).isSome with
   |true=>show no _ (by simp[word,c,if_true]) ze (pf (gF ((ij<|tw "in" ag ag _).trans (qR (t1.trans (congrArg (O.val · B0) c)) zc))))
   |false=>
     have t1:=t1.trans (congrArg (O.val · B0) c);have hl:look K l=ag:=by cases q:look K l with|none=>rfl|some v=>rw[q]at c;cases c
     cases cc:kN ps K R k r with
     |true=>show no "apart" (by simp[word,c,cc]) ze (pf (gF ((ij<|tw "in" ag ag _).trans (qF t1 (qR (t2.trans (congrArg (O.val · B0) cc)) zc)))))
     |false=>
       have p1:=CQ (e:=enc) (L:=ca) (x:=.aF h' l k r p w) (v:=dV 2) (m:=bW (dV 1) "came") (k:=dV 5) (env:=E ag ag) (B:=B0) zc (jH zc EK) zc Zo za;rw[Zr]at p1;have p2:=CQ (e:=dP) (L:=aS K R) (x:=(k,r)) (v:=fQ<|fc (d2 af aq (dV 2) zo)<|fc (d2 af aq (dV 2)<|dC<|.int 4) fg) (m:=dV 6) (k:=dV 5) (env:=E ag ag) (B:=Bl bx (aS K R) (put ca l<|.aF h' l k r p w) go dr av wd) (gj [.int k,.int r] zc zh) zc zc u6 (by unfold aS;rw[a5];have:=J.lr;lia);rw[show a6 (.aF h' l k r p w)=l from rfl,RG J hl,Zq]at p2;let#[ck,ld,o1,p3]:=RW (go:=go) (ca:=put ca l<|.aF h' l k r p w) (dr:=dr) (av:=av) (wd:=wd) (th:=aS (put K l k)<|put R l r) (mk:=fQ<|fc (dV 3)<|fc (d2 af aq (dV 2)<|dC<|.int 4) fg) (a:=h') (b:=r) (env:=E ag ag) zc (λ_=>gj [.int h',.int r] zc zh) za;refine ys (by simp[word,c,cc]) go ck (pf (gF ((ij<|tw "in" ag ag _).trans (qF t1 (qF (t2.trans (congrArg (O.val · B0) cc))<|(fv p1).trans<|(fv p2).trans<|(fv p3).trans zc))))) ?_ ?_
       .have:=m9 ca l<|.aF h' l k r p w;show#[by change ye (put ca l<|.aF h' l k r p w)=_;rw[Vh,Q.k];rfl,λq m=>(oh m).elim (λz=>by rw[z.2];rfl)<|Q.i q,by change (put ca l<|.aF h' l k r p w).length<=_;lia,by lia,by lia]
       .have hR:look R l=ag:=by
         cases q:look R l with
         |none=>rfl
         |some v=>let#[x,mx,ex]:=oU q;have:=J.sub x mx;rw[ex,hl]at this;cases this
        rw[show rH R (.aF h' l k r p w)=[(h',r)] by simp[rH,yh,a6,aN,hR]];show o1
 |to h' l r=>
   have ti:∀ {k:aC}{o:OS}{a:aC},k (E ag ag) B0=o->fu (aH (dB<|d2 af aY (dV 4)<|dC<|.str "in") a aL) k (E ag ag) B0=o:=λq=>qF ((tw "in" ag ag B0).trans (congrArg (O.val · B0)<|decide_eq_false (show ¬ ("to":Str)="in" by rw[F6];show id))) q;cases c:look R l with
   |none=>show no "none" (by erw[word,c]) ze<|pf<|ti<|qR (ni.trans (by rw[show look R (a6<|.to h' l r)=ag from c];rfl)) zc
   |some r0=>
     have ni:dB (dz ah (dV 5)<|dV 6) (E ag ag) B0=.val af B0:=ni.trans (by rw[show look R (a6<|.to h' l r)=ae r0 from c];rfl);have to:∀ {a b:aC}{x7 x8:Option W},aH (dB<|d2 af aY (dV 4)<|dC<|.str "out") a b (E x7 x8) B0=b (E x7 x8) B0:=gu ((tw "out" _ _ B0).trans (congrArg (O.val · B0)<|decide_eq_false (show ¬ ("to":Str)="out" by rw[Rx];show id)));have ts:dB (d2 af aY (dV 8)<|d2 af aq (dV 2) zo) (E (xN<|kk K l)<|xN r0) B0=.val (decide (r0=r)) B0:=
      fV (fw (r:=.old<|.bl<|decide (r0=r)) (x:=.int r0) (y:=.int r) zc zc (by simp[aY]))
     by_cases d:r0=r
     .show no "same" (by erw[word,c,if_pos d]) ze (pf (ti (qF ni (g2 c (gF (to.trans ((ij (ts.trans (congrArg (O.val · B0)<|decide_eq_true d))).trans zc)))))))
     .have ts:=ts.trans (congrArg (O.val · B0)<|decide_eq_false d);have tc:=WQ (rs:=rs) (ks:=ks) (ps:=ps) (hd:=hd) (bx:=bx) (B:=B0) (env:=E (xN<|kk K l)<|xN r0) (mk:=dV 7) (mr:=d2 af aq (dV 2) zo) (k:=kk K l) (r:=r) (l:=l) (r0:=r0) J hn u6 zc zc zc zc zc c d;cases cc:kN ps K R (kk K l) r with
      |true=>show no "apart" (by simp[word,c,d,cc]) ze (pf (ti (qF ni (g2 c (gF (to.trans ((gu ts).trans ((ij (tc.trans (congrArg (O.val · B0) cc))).trans zc))))))))
      |false=>
        have p2:=CQ (e:=dP) (L:=aS K R) (x:=(kk K l,r)) (v:=fQ<|fc (dV 7)<|fc (d2 af aq (dV 2) zo) fg) (m:=dV 6) (k:=dV 5) (env:=E (xN<|kk K l)<|xN r0) (B:=B0) (gj [.int<|kk K l,.int r] zc zh) zc zc u6 (by unfold aS;rw[a5];have:=J.lr;lia);rw[show a6 (.to h' l r)=l from rfl,G4,Zq]at p2;let#[d1,l1,o1,p3]:=RW (go:=go) (ca:=ca) (dr:=dr) (av:=av) (wd:=wd) (th:=aS K<|put R l r) (mk:=fQ<|fc (dV 3)<|fc (d2 af aq (dV 2) zo) fg) (a:=h') (b:=r) (env:=E (xN<|kk K l)<|xN r0) zc (λ_=>gj [.int h',.int r] zc zh) za;let#[YO,l2,o2,p4]:=RW (go:=go) (ca:=ca) (dr:=d1) (av:=av) (wd:=wd) (th:=aS K<|put R l r) (env:=E (xN<|kk K l)<|xN r0) zc (λ_=>dk) za;refine ys (by simp[word,c,d,cc]) go YO (pf (ti (qF ni (g2 c ((fv (to.trans ((gu ts).trans ((gu (tc.trans (congrArg (O.val · B0) cc))).trans<|(fv p2).trans p3)))).trans<|(fv p4).trans zc))))) #[Q.k,Q.i,by change ca.length<=_;lia,by lia,by lia] ?_;rw[show rH R (.to h' l r)=[(h',r)]++[(h',r0)] by simp[rH,yh,a6,aN,c]];show o1.trans o2
 |out h' l=>
   have ti:∀ {k:aC}{o:OS}{a:aC},k (E ag ag) B0=o->fu (aH (dB<|d2 af aY (dV 4)<|dC<|.str "in") a aL) k (E ag ag) B0=o:=λq=>qF ((tw "in" ag ag B0).trans (congrArg (O.val · B0)<|decide_eq_false (show ¬ ("out":Str)="in" by rw[Lm];show id))) q;cases c:look R l with
   |none=>show no "none" (by erw[word,c]) ze<|pf<|ti<|qR (ni.trans (by rw[show look R (a6<|.out h' l)=ag from c];rfl)) zc
   |some r0=>
     have ff:((aS K R).find? λp=>decide (p.1=l)).map (·.2)=ae (kk K l,r0):=by rw[jG,c];rfl
     have p1:=Vg (e:=dP) (L:=aS K R) (m:=dV 6) (k:=dV 5) (env:=E (xN<|kk K l)<|xN r0) (B:=B0) (l:=l) zc zc u6 ff;rw[RF,Zq]at p1;have p2:=CQ (e:=D.int) (L:=go) (x:=h') (v:=dV 3) (m:=bW (dV 1) "gone") (k:=dV 5) (env:=E (xN<|kk K l)<|xN r0) (B:=Bl bx (aS K<|eP R l) ca go dr av wd) zc (jH zc aiM) zc aiJ za;rw[show a6 (.out h' l)=l from rfl,se]at p2;let#[d1,l1,o1,p3]:=RW (go:=put go l h') (ca:=ca) (dr:=dr) (av:=av) (wd:=wd) (th:=aS K<|eP R l) (env:=E (xN<|kk K l)<|xN r0) zc (λ_=>dk) za;have:=m9 go l h';refine ys (by erw[word,c]) (put go l h') d1 (pf<|ti<|qF (ni.trans (by rw[show look R (a6<|.out h' l)=ae r0 from c];rfl))<|g2 c<|(fv<|(ij<|tw "out" _ _ _).trans<|(fv<|ig p1).trans p2).trans<|(fv p3).trans zc) #[Q.k,Q.i,by change ca.length<=_;lia,by lia,by lia] ?_;rw[show rH R (.out h' l)=[(h',r0)] by simp[rH,yh,a6,aN,c]];show o1
theorem WU (h:Hs rs ks ps hd) (J:dA K R n) (hn:n<=100) {m:Nat}(Q:Lb K ca go dr m) (hm:m<=100) (g:Pg) :
 ∃ go' ck,gH [.d zb,.m<|ml bx.length,.d<|enc g] (Bl bx (aS K R) ca go dr av wd)=.val (.d<|.str<|word ps K R g) (Bl bx (aS (cR ps K R g)<|cW ps K R g) (rJ ps K R ca g) go' ck av wd) /\ Lb (cR ps K R g) (rJ ps K R ca g) go' ck (m+1) /\ rK dr ck (ER ps K R g):=by
 let#[go',ck,e,q]:=aiU h J hn Q hm g;show#[go',ck,B7 e (by rw[NB,NB];show aE _),q]
end
def k7 (ps:Al):Al->Al->List (Int×Pg)->List Pg->List (Int×Pg)
 |_,_,ca,[]=>ca
 |K,R,ca,g::gs=>k7 ps (cR ps K R g) (cW ps K R g) (rJ ps K R ca g) gs
theorem NQ {ps K R:Al}{g:Pg}:ops ps K R (g::gs)=ER ps K R g++ops ps (cR ps K R g) (cW ps K R g) gs:=by
 by_cases c:word ps K R g="takes"
 .rw[(gq c).1,(gq c).2,(iJ (ca:=[]) c).2];show if_pos c
 .rw[(ir c).1,(ir c).2,(oW (ca:=[]) c).2];show if_neg c
theorem Bt {ps K R:Al}{g:Pg}:taken ps K R (g::gs)=(if word ps K R g="takes" then [g] else [])++taken ps (cR ps K R g) (cW ps K R g) gs:=by
 by_cases c:word ps K R g="takes"
 .rw[(gq c).1,(gq c).2,if_pos c];show if_pos c
 .rw[(ir c).1,(ir c).2,if_neg c];show if_neg c
abbrev nH (l:Int) (g:Pg):Bool:=isIn g&&decide (a6 g=l)
theorem NR {l l':Int}{g:Pg}(h:(ca.any λq=>decide (q.1=l))=af):((put ca l g).find? λq=>decide (q.1=l')).map (·.2)=if l=l' then ae g else (ca.find? λq=>decide (q.1=l')).map (·.2):=by
 unfold put;rw[h];erw[Hb,if_false];rw[Q7];by_cases e:l=l'
 .subst e;have:ca.find? (λq=>decide (q.1=l))=ag:=by
   rw[abh];intro q m;rw[Hd]at h;show h q m
  rw[this,if_pos rfl];simp
 .simp[e]
theorem Vs {ps:Al}{l:Int}:∀ {gs:List Pg}{K R:Al}{ca:List (Int×Pg)},ca.map (·.1)=K.map (·.1)->((k7 ps K R ca gs).find? λq=>decide (q.1=l)).map (·.2)=((ca.find? λq=>decide (q.1=l)).map (·.2)).or ((taken ps K R gs).find?<|nH l):=by
 intro l_;induction l_ with
 |nil=>
   intro K R ca _;change _=Option.or _ ag;rw[Option.or_none];rfl
 |cons g gs az=>
   intro K R ca hk;rw[Bt];change ((k7 ps _ _ _ gs).find? λq=>decide _).map _=_;by_cases c:word ps K R g="takes"
   .rw[if_pos c];cases g with
    |aF h' l' k r p w=>
      have nk:(look K l').isSome=af:=by
       cases q:(look K l').isSome with
       |false=>rfl
       |true=>rw[show word ps K R _="there" by simp[word,q,if_true]]at c;show absurd c ze
      have na:(K.any λq=>decide (q.1=l'))=af:=by
       cases q:K.any λq=>decide (q.1=l') with
       |false=>rfl
       |true=>
         let#[x,mx,ex]:=kz.mp q;have:=lW.mpr #[x,mx,of_decide_eq_true ex];rw[this]at nk;cases nk
      have Zu:(ca.any λq=>decide (q.1=l'))=af:=by rw[lN hk];show na
      rw[az (by rw[(gq c).1,(iJ c).1];show NA hk _ _ _),(iJ c).1];rw[show stC ca _=put ca l' _ from rfl,NR Zu,Q7];by_cases e:l'=l
      .subst e;have f0:ca.find? (λq=>decide (q.1=l'))=ag:=by
        rw[abh];intro q m;rw[Hd]at Zu;show Zu q m
       rw[if_pos rfl,f0];simp[isIn,a6]
      .rw[if_neg e];simp[a6,e]
    |to h' l' r=>
      rw[az (by rw[(gq c).1,(iJ c).1];show hk),(iJ c).1];rfl
    |out h' l'=>
      rw[az (by rw[(gq c).1,(iJ c).1];show hk),(iJ c).1];rfl
   .rw[if_neg c,az (by rw[(ir c).1,(oW c).1];show hk),(oW c).1];rfl
section
variable {P:D} 
theorem RX (h:Hs rs ks ps hd):∀ (gs:List Pg) (K R:Al) (ca:List<|Int×Pg) (go:Al) (dr:List<|List Key×D) (av wd:List D) (n m:Nat) (x3:Option W),dA K R n->Lb K ca go dr m->n+gs.length<=100->m+gs.length<=100->av.length+gs.length<=100->wd.length+gs.length<=100 ->
 ∃ R' go' ck y3,bL (fe 3) aeg ((gs.map enc).map W.d) [ae<|.d zb,ae<|.d P,ae<|.m<|ml bx.length,x3] (Bl bx (aS K R) ca go dr av wd)=.nx [ae<|.d zb,ae<|.d P,ae<|.m<|ml bx.length,y3] (Bl bx (aS (wu ps K R gs) R') (k7 ps K R ca gs) go' ck (av++sV ps K R gs)<|wd++(gs.zip<|wordsOf ps K R gs).map EL) /\ Lb (wu ps K R gs) (k7 ps K R ca gs) go' ck (m+gs.length) /\ rK dr ck (ops ps K R gs):=by
 intro l_;induction l_ with
 |nil=>show λK R ca go dr av wd n m x3 _ Q _ _ _ _=>#[R,go,dr,x3,by simp[bL,sV,wu,k7],Q,.refl]
 |cons g gs az=>
   intro K R ca go dr av wd n m x3 J Q hn hm ha hw
   let E:aQ:=[ae<|.d zb,ae<|.d P,ae<|.m<|ml bx.length,ae zB]
   have z:sizeLine=16777216:=bp;rw[bD]at hn hm ha hw;let#[Kh,Ki,e,Q1,O1]:=K23.WU h J za Q za g;have a:=B8 (m:=bW (dV 2) "words") (k:=fQ<|fc (dV 3)<|fc (fm aJ.gH 3<|fc (dV 0)<|fc (dV 2)<|fc (dV 3) fg) fg) (env:=E) (bx:=Bl bx _ ca go dr av wd) (jH zc aiN) ad8 (gj [enc g,.str _] (fj zc<|fj (fJ zc zc e) zc) zh) ad8 za;rw[aJ.adR]at a;have dc:wg af (bW (dV 2) "there") E (Bl bx (aS (cR ps K R g)<|cW ps K R g) (rJ ps K R ca g) Kh Ki av<|wd++[EL (g,word ps K R g)])=.val (.d<|.aB<|a8 dP<|aS (cR ps K R g)<|cW ps K R g) (Bl bx (aS (cR ps K R g)<|cW ps K R g) (rJ ps K R ca g) Kh Ki av<|wd++[EL (g,word ps K R g)]):=by
    unfold wg;rw[jH rfl ad9,fS,lh u6];rfl
   have b:=B8 (m:=bW (dV 2) "at") (k:=fQ<|fc (d2 af aq (dV 3) zg)<|fc (wg af<|bW (dV 2) "there") fg) (jH zc aeb) Zp (gj [.int<|aN g,.aB<|a8 dP<|aS (cR ps K R g)<|cW ps K R g] (fj (Vi g zc)<|fj dc zc) zh) Zp za;rw[aJ.aiL]at b;have bd:aeg E (Bl bx (aS K R) ca go dr av wd)=.nx E (Bl bx (aS (cR ps K R g)<|cW ps K R g) (rJ ps K R ca g) Kh Ki (av++[.tup [.int<|aN g,.aB<|a8 dP<|aS (cR ps K R g)<|cW ps K R g]])<|wd++[EL (g,word ps K R g)]):=(fv<|ig a).trans<|ig b;let#[R',go',ck,y3,e2,Q2,O2]:=az (cR ps K R g) (cW ps K R g) (rJ ps K R ca g) Kh Ki (av++[.tup [.int<|aN g,.aB<|a8 dP<|aS (cR ps K R g)<|cW ps K R g]]) (wd++[EL (g,word ps K R g)]) (n+1) (m+1) (ae zB) (J.nx g) Q1 za za zh zh;refine#[R',go',ck,y3,?_,by rw[bD,show m+(gs.length+1)=m+1+gs.length by lia];show Q2,by rw[NQ];show O1.trans O2];rw[aU,aU,gR rfl bd,e2,F8,vj,aU,qC,qC];rfl
theorem RY (h:Hs rs ks ps hd) (hl:qs.length<=16) (so:dX [.lst<|gs.map enc]=ae (.lst<|qs.map enc)) :
 ∃ th go dr,jp [.d zb,.d zk] bx=.val (.m<|ml bx.length) (Bl bx th (k7 ps [] [] [] qs) go dr (sV ps [] [] qs)<|Ke ps qs) /\ Lb (wu ps [] [] qs) (k7 ps [] [] [] qs) go dr (0+qs.length) /\ ∀ q:Int×Int,(eN dr<|k2 q).isSome=decide (q∈ops ps [] [] qs):=by
 let#[R',go',ck,y3,e,QQ,OO]:=RX h qs [] [] [] [] [] [] [] 0 0 ag Zn #[rfl,(λ_ m=>nomatch m),aE _,aE _,aE _] za za zh zh;refine#[aS (wu ps [] [] qs) R',go',ck,?_,QQ,λq=>by rw[OO q];rfl];have b0:ya [("there",1),("came",1),("gone",1),("doors",2),("at",0),("words",0)] [ae<|.d zb,ae<|.d zk,ag,ag] bx=.val (.m<|ml bx.length) (Bl bx (aS [] []) [] [] [] [] []):=by
  unfold ya;rfl
 have it:bj (dN af dX<|fc (dV 1) fg) [ae<|.d zb,ae _,ae<|.m<|ml bx.length,ag] _=.val _ (Bl bx (aS [] []) [] [] [] [] []):=
  gp (iQ [.lst<|gs.map enc] (fj zc zc) so)
 have b:mG [ae<|.d zb,ae<|.d zk,ag,ag] bx=.rt (.m<|ml bx.length) (Bl bx (aS (wu ps [] [] qs) R') (k7 ps [] [] [] qs) go' ck (sV ps [] [] qs)<|Ke ps qs):=by
  refine(fv<|gk b0).trans ((fv<|(im it).trans e).trans ?_);rfl
 change nX bx.length (nW<|aP mG [ae<|.d zb,ae<|.d zk,ag,ag] bx)=_;unfold aP;rw[b];rfl
end
open kn bM
noncomputable abbrev oI:Option Int->D
 |none=>.non
 |some r=>.int r
noncomputable def pd:Pg->Option Int
 |.aF _ _ _ r _ _=>ae r
 |.to _ _ r=>ae r
 |.out ..=>ag
theorem WV (g:Pg):dI g=oI (pd g):=by cases g<;>rfl
theorem WW (R:Al) (g:Pg):EO R g=oI (look R<|a6 g):=by unfold EO;cases look R _<;>rfl
theorem WX (a b:Int):IM (.int a) (.int b)=decide (a=b):=by rw[kQ];simp[IM,v8,sr]
theorem WY (b:Int):IM .non (.int b)=af:=rfl
theorem Vt (r:Int) (a b:Option Int):inD af (.int r) (.tup [oI a,oI b])=ae (.old<|.bl<|decide (a=ae r \/ b=ae r)):=by
 cases a<;>cases b<;>simp[inD,kL,nF,WX,WY]
abbrev c5 (q:Pg×Option Int):D:=.tup [enc q.1,oI q.2,oI<|pd q.1]
def di (ps:Al):Al->Al->List Pg->List (Pg×Option Int)
 |_,_,[]=>[]
 |K,R,g::gs=>if word ps K R g="takes" then (g,look R<|a6 g)::di ps (stK K g) (pS R g) gs else di ps K R gs
theorem S7 {ps:Al}:∀ {gs:List Pg}{K R:Al},(sX ps K R gs).map sW=(di ps K R gs).map c5:=by
 intro l_;induction l_ with
 |nil=>(intro _ _;show rfl)
 |cons g gs az=>
   intro K R;unfold sX di;split
   .rw[aU,aU,az];change D.tup _::_=D.tup _::_;rw[WW,WV]
   .show az
theorem Cd {ps:Al}:∀ {gs:List Pg}{K R:Al},(di ps K R gs).map (·.1)=taken ps K R gs:=by
 intro l_;induction l_ with
 |nil=>(intro _ _;show rfl)
 |cons g gs az=>
   intro K R;unfold di taken;split
   .rw[aU,az]
   .show az
theorem CT {ps:Al}:∀ {gs:List Pg}{K R:Al},(di ps K R gs).length<=gs.length:=by
 intro l_;induction l_ with
 |nil=>(intro _ _;show aE _)
 |cons g gs az=>
   intro K R;unfold di;split
   .show aaL az
   .show E9 az
theorem RZ {ps:Al}{h r:Int}:∀ {gs:List Pg}{K R:Al},((di ps K R gs).any λq=>decide (aN q.1=h)&&decide (q.2=ae r \/ pd q.1=ae r))=decide ((h,r)∈ops ps K R gs):=by
 intro l_;induction l_ with
 |nil=>(intro _ _;show rfl)
 |cons g gs az=>
   intro K R;unfold di ops;split
   .rw[rN,az,kQ];simp[wO,aI,decide_eq_true_eq,List.mem_append];refine or_congr ?_ Iff.rfl;unfold rH;rw[bA];constructor
    .rintro⟨rfl,e|e⟩
     .show#[r,by rw[e];simp,rfl]
     .show#[r,pY _ (by cases g<;>simp_all[pd,yh]),rfl]
    .rintro⟨x,m,e⟩;let#[rfl,rfl]:=Prod.mk.inj e;refine#[rfl,?_];rcases List.mem_append.mp m with m|m
     .show .inr (by cases g<;>simp_all[pd,yh])
     .show .inl (by simpa using m)
   .show az
section
variable {S:List (Pg × Option Int)}
theorem uu (g:Pg) {i:Nat}(h:env[i]?=ae (ae zB)):d2 af aq (dV i) zg env B=.val (.d<|.int<|aN g) B:=
 fw (r:=.old _) (by rw[oJ,h]) zc (by cases g<;>rfl)
theorem G9 (g:Pg) {i:Nat}(h:env[i]?=ae (ae zB)):d2 af aq (dV i) zr env B=.val (.d<|.int<|a6 g) B:=
 fw (r:=.old _) (by rw[oJ,h]) zc (by cases g<;>rfl)
theorem WZ (g:Pg) {i:Nat}(h:env[i]?=ae (ae zB)) (w:Str):dB (d2 af aY (d2 af aq (dV i) zd)<|dC<|.str w) env B=.val (decide (cu g=w)) B:=
 fV (fw (fw (r:=.old _) (by rw[oJ,h]) zc (by cases g<;>rfl)) zc<|eq_str _ _)
theorem NS (hl:S.length<=16) (r h:Int):iW [.d<|.lst<|S.map c5,.d<|.int r,.d<|.int h] bx=.val (.d<|.bl<|S.any λq=>decide (aN q.1=h)&&decide (q.2=ae r \/ pd q.1=ae r)) bx:=by
 have z:=bp;refine fT<|fU<|iQ (r:=.old<|.bl _) [.lst<|(S.filter λ_=>ah).map λq=>D.bl<|decide (aN q.1=h)&&decide (q.2=ae r \/ pd q.1=ae r)] (fj (gn (gp zc) zc ?_) zc) ?_
 .refine uq (J:=λenv=>∃ a b c,env=[a,b,c,xN r,xN h]) (λ_=>ah) (λq=>D.bl<|decide (aN q.1=h)&&decide (q.2=ae r \/ pd q.1=ae r)) (λq=>#[_,_,_,rfl]) S _ [] zh #[_,_,_,rfl] (λq _ env ⟨a,b,c,e⟩=>by subst e;rfl) λq _=>#[rfl,λ_=>?_];have t1:d2 af aY (d2 af aq (dV 0) zg) (dV 4) [ae<|.d<|enc q.1,ae<|.d<|oI q.2,ae<|.d<|oI<|pd q.1,xN r,xN h] bx=.val (.d<|.bl<|decide (aN q.1=h)) bx:=fw (r:=.old<|.bl<|decide (aN q.1=h)) (uu q.1 zc) zc<|rfl;cases c:decide (aN q.1=h) with
  |false=>rw[c]at t1;show U5 t1
  |true=>
    rw[c]at t1;show gT t1<|fw zc (gj [oI q.2,oI<|pd q.1] zc zh)<|Vt _ _ _
 .simp[Ey,Cb]
theorem NT (hl:S.length<=16) (l:Int):ic [.d<|.lst<|S.map c5,.d<|.int l] bx=.val (.d (match (S.map (·.1)).find? (nH l) with|some g=>enc g|none=>.non)) bx:=by
 have go:∀ (T:List<|Pg×Option Int) (w2 w3 w4:Option W),(fu (λenv bx=>bL (fL 3<|fq (fe 2)<|fq (fe 3)<|fq (fe 4) fO) (aH (nv (dB<|d2 af aY (d2 af aq (dV 2) zd)<|dC<|.str "in")<|dB<|d2 af aY (d2 af aq (dV 2) zr)<|dV 1) (fF<|dV 2) aL) ((T.map c5).map W.d) env bx)<|fF<|dC .non) [ae<|.d<|.lst<|S.map c5,xN l,w2,w3,w4] bx=.rt (.d (match (T.map (·.1)).find? (nH l) with|some g=>enc g|none=>.non)) bx:=by
  intro T;induction T with
  |nil=>intro w2 w3 w4;rfl
  |cons q T ih=>
    intro w2 w3 w4
    let E:aQ:=[ae<|.d<|.lst<|S.map c5,xN l,ae<|.d<|enc q.1,ae<|.d<|oI q.2,ae<|.d<|oI<|pd q.1]
    have t:nv (dB<|d2 af aY (d2 af aq (dV 2) zd)<|dC<|.str "in") (dB<|d2 af aY (d2 af aq (dV 2) zr)<|dV 1) E bx=.val (nH l q.1) bx:=by
     have a:=WZ q.1 (env:=E) (B:=bx) (i:=2) zc "in";have b:dB (d2 af aY (d2 af aq (dV 2) zr)<|dV 1) E bx=.val (decide (a6 q.1=l)) bx:=fV<|fw (r:=.old<|.bl<|decide (a6 q.1=l)) (G9 q.1 zc) zc<|rfl;have w:decide (cu q.1="in")=isIn q.1:=by cases q.1<;>rfl
     rw[w]at a;unfold nH;cases c:isIn q.1 with
     |false=>rw[c]at a;show oP a
     |true=>rw[c]at a;show oQ a b
    rw[aU,aU,aU,rQ];cases c:nH l q.1 with
    |true=>
      rw[c]at t;show gF<|Be zc<|(ij t).trans zc
    |false=>
      rw[c]at t;have e:=ih (ae<|.d<|enc q.1) (ae<|.d<|oI q.2)<|ae<|.d<|oI<|pd q.1;have bd:aH (nv (dB<|d2 af aY (d2 af aq (dV 2) zd)<|dC<|.str "in")<|dB<|d2 af aY (d2 af aq (dV 2) zr)<|dV 1) (fF<|dV 2) aL E bx=.nx E bx:=(gu t).trans zc;rw[gQ]at e ⊢;rw[gR rfl bd];show e
 refine fT ?_;have:=go S ag ag ag;rw[gQ]at this;change fu (iN (bj<|dV 0) _ _) _ _ _=_;rw[gQ,im<|gp rfl];show this
end
noncomputable abbrev yi (q:Int×List Int):D:=.tup [.int q.1,.tup<|q.2.map D.int]
structure Hk (rs ks:List D) (ps:Al) (hd:D) (rl:List Int) (hold:Int) (kl:List<|Int×List Int):zt where
 H:Hs rs ks ps hd
 er:rs=rl.map D.int
 eh:hd=.int hold
 ek:ks=kl.map yi
 r:∀ c∈rl,0<=c /\ c<=3
 h:1<=hold /\ hold<=9
 k:∀ q∈kl,1<=q.1 /\ q.1<=999 /\ q.2.length=4 /\ ∀ x∈q.2,0<=x /\ x<=9
theorem R0 {d:D}(h:kind d=ah):∃ q:Int×List Int,d=yi q /\ 1<=q.1 /\ q.1<=999 /\ q.2.length=4 /\ ∀ x∈q.2,0<=x /\ x<=9:=by
 unfold kind at h;split at h
 .rw[aI]at h;let#[_,h]:=h;split at h
  .rw[aI]at h;let#[h1,h2]:=h;let#[i,rfl,i1,i2]:=mJ h1;unfold yd at h2;split at h2
   .erw[aI]at h2;let#[h3,h4,_]:=h2;let#[rt,rfl]:=DX h4;have n:=oM h3;rw[a5]at n;refine#[(i,rt),rfl,i1,i2,by change rt.length=4;lia,λx m=>?_];have:=cZ.mp h4 _<|rR m;simpa[wi] using this
   .cases h2
  .cases h
 .cases h
theorem NU:∀ {l:List D},l.all kind=ah->∃ kl:List (Int×List Int),l=kl.map yi /\ ∀ q∈kl,1<=q.1 /\ q.1<=999 /\ q.2.length=4 /\ ∀ x∈q.2,0<=x /\ x<=9:=by
 intro l_;induction l_ with
 |nil=>show λ_=>#[[],rfl,λ_ m=>nomatch m]
 |cons d l az=>
   intro h;rw[tu,aI]at h;let#[q,rfl,a]:=R0 h.1;let#[kl,rfl,b]:=az h.2;show#[q::kl,rfl,λx m=>(bq.mp m).elim (λe=>e▸a)<|b x]
theorem W0 {ps:Al}(H:Hs rs ks ps hd):∃ rl hold kl,Hk rs ks ps hd rl hold kl:=by
 have h:=H.hh;simp[house,aI]at h;let#[h1,h2,_,h4]:=h;erw[rooms,aI]at h1;let#[rl,e1]:=DX h1.2;let#[i,e2,i1,i2]:=mJ h4;erw[kinds,aI]at h2;let#[kl,e3,k3]:=NU h2.2;refine#[rl,i,kl,H,e1,e2,e3,λc m=>?_,#[i1,i2],k3];have:=cZ.mp h1.2 _ (by rw[e1];show rR m);simpa[wi] using this
section
variable {ps op:Al} 
theorem Hk.i (X:Hk rs ks ps hd rl hold kl):Zi zb rl hold:=by
 have a:=X.H.r1;have b:=X.H.r5;rw[X.er,a5]at a b;show#[#[_,_,by rw[X.er,X.eh]],X.r,#[a,b],X.h]
theorem R6 {l:List Int}{i:Int}(h0:0<=i) (h1:i<l.length):aq (.tup<|l.map D.int) (.int i)=ae (.old<|.int<|l.getD i.toNat 0):=by
 have e:bF (l.map D.int) _=ae (.int<|l.getD i.toNat 0):=Ck (by rw[kr,vm,cY za];rfl);rw[show ((i.toNat))=i by lia]at e;change (bF _ i).map Res.old=_;rw[e];rfl
theorem Fg (X:Hk rs ks ps hd rl hold kl) {k:Int}(h0:0<=k) (hq:kl[k.toNat]?=ae q):aq (.tup ks) (.int k)=ae (.old<|yi q):=by
 have e:bF ks _=ae _:=Ck (by rw[X.ek,kr,hq];rfl);rw[show ((k.toNat))=k by lia]at e;change (bF ks k).map Res.old=_;rw[e];rfl
theorem Dp {e:α->D}{L:List (Int×α)}{k:DE W}{l:Int}(neg:Bool) (hk:k env bx=.val (.d<|.int l) bx) (hm:m env bx=.val (.d<|.aB<|a8 e L) bx) :
 dz neg k m env bx=.val (.d (.bl (if neg then !((L.find? λq=>decide (q.1=l)).map (·.2)).isSome else ((L.find? λq=>decide (q.1=l)).map (·.2)).isSome))) bx:=by
 unfold dz;rw[hk,fS,hm,fS];change O.val _ bx=_;rw[lc,pG]
theorem AW {e:α->D}{L:List (Int×α)}{k:DE W}{l:Int}{v:α}(hk:k env bx=.val (.d<|.int l) bx) (hm:m env bx=.val (.d<|.aB<|a8 e L) bx) (hf:(L.find? λq=>decide (q.1=l)).map (·.2)=ae v):cj m k env bx=.val (.d<|e v) bx:=by
 unfold cj;rw[hm,fS,hk,fS];change (match hV _ _ with|some u=>O.val _ bx|none=>.bad)=_;rw[lc,hf];rfl
def Rk (n:Nat) (R:Al):zt:=∀ q∈R,0<=q.2 /\ q.2<(n:Int)
theorem W1 {nr nk:Nat}{ps K R:Al}{g:Pg}(ok:pR nr nk g) (h:Rk nr R):Rk nr (cW ps K R g):=by
 unfold cW;split
 .cases g with
  |aF h' l k r p w=>show λq m=>(oh m).elim (λz=>by rw[z.2];show ok.2.2.2.1)<|h q
  |to h' l r=>show λq m=>(oh m).elim (λz=>by rw[z.2];show ok.2.2)<|h q
  |out h' l=>show λq m=>h q (rS.mp m).1
 .show h
theorem CU {nr nk:Nat}{ps:Al}{h:Int}:∀ {gs:List Pg}{K R:Al},(∀ g∈gs,pR nr nk g)->Rk nr R->Rk nr (pre h ps K R gs).2:=by
 intro l_;induction l_ with
 |nil=>(intro _ _ _ r;show r)
 |cons g gs az=>
   intro K R o r;unfold pre;split
   .show az (λx m=>o x<|bu _ m)<|W1 (o g<|bC ..) r
   .show r
theorem Av {R:Al}(h:Rk n R) {l r:Int}(e:look R l=ae r):0<=r /\ r<(n:Int):=by
 unfold look at e;let#[q,e1,rfl]:=Option.map_eq_some_iff.mp e;show h q<|Hn e1
theorem NV (X:Hk rs ks ps hd rl hold kl) (s:pT qs) (ok:∀ g∈qs,pR rs.length ks.length g) (hl:qs.length<=16) {h0 l k r p w:Int}(k0:0<=k) (hq:kl[k.toNat]?=ae q) (h:Int) :
 iX [.d zb,.d zm,.d<|.lst<|(di ps [] [] qs).map c5,.d<|enc zp,.d<|.int h] bx=.val (.d<|.int<|bS rl hold op q.2 ps qs l h) bx:=by
 have z:sizeLine=16777216:=bp;have sl:=CT (ps:=ps) (gs:=qs) (K:=[]) (R:=[]);have rv:=cD.RQ (bx:=bx) (h:=h) (S:=sX ps [] [] qs) s hl Lq;rw[S7]at rv;generalize hS:(di ps [] [] qs)=S at rv sl;have c4:=(X.k q<|pD hq).2.2.1
 let E:=λx5 x6 x7=>([ae<|.d zb,ae<|.d zm,ae<|.d<|.lst<|S.map c5,ae<|.d<|enc zp,xN h,x5,x6,x7]:aQ)
 have t1:=Dp (bx:=bx) (k:=d2 af aq (dV 3) _) (m:=dV 5) (env:=(E (ae<|.d<|.aB<|bz (pre h ps [] [] qs).2) ag ag)) ah (G9 _ zc) zc;have g1:=λv=>AW (bx:=bx) (k:=d2 af aq (dV 3) _) (m:=dV 5) (env:=(E (ae<|.d<|.aB<|bz (pre h ps [] [] qs).2) ag ag)) (v:=v) (G9 _ zc) zc;refine fT<|qS (cV rv) ?_;unfold bS nG
 change dz ah _ _ _ _=.val (.d<|.bl<|!(look (pre h ps [] [] qs).2 l).isSome) bx at t1
 change ∀ v,look (pre h ps [] [] qs).2 l=ae v->_ at g1
 cases c:look (pre h ps [] [] qs).2 l with
 |none=>
   rw[c]at t1;show qR (fV t1) zc
 |some r'=>
   rw[c]at t1;let#[r0,r1]:=Av (CU (h:=h) (ps:=ps) ok (K:=[]) (R:=[]) λq m=>nomatch m) c;rw[X.er,a5]at r1;refine qF (fV t1)<|qS (g1 r' c) ?_;have cd:=U3 (bx:=bx) (hour:=h) X.i r'.toNat za op;rw[show ((r'.toNat:Nat))=r' by lia]at cd;have eg:rl[r'.toNat]'(by lia)=rl.getD r'.toNat 0:=by rw[vm,cY za];rfl
   rw[eg]at cd;have rb:=X.r (rl.getD r'.toNat 0) (by rw[<-eg];show pF _);have lo:=Bg (hold:=hold) (hour:=h) rb.1 op;have hi:=Bh (hour:=h) rb.1 (show 0<hold by have:=X.h;lia) op;refine qS (cV cd) ?_;change fu _ _ (E (ae<|.d<|.aB<|bz (pre h ps [] [] qs).2) (xN r')<|xN<|dg (rl.getD r'.toNat 0) hold h op) bx=.rt (.d<|.int<|q.2.getD (max 0<|dg (rl.getD r'.toNat 0) hold h op-if (h,r')∈ops ps [] [] qs then 1 else 0).toNat 0) bx;generalize dg (rl.getD r'.toNat 0) hold h op=cc at *;have o:=NS (bx:=bx) (S:=S) za r' h;rw[<-hS,RZ,hS]at o;have t2:dB (fm K23.iW 3<|fc (dV 2)<|fc (dV 6)<|fc (dV 4) fg) (E (ae<|.d<|.aB<|bz (pre h ps [] [] qs).2) (xN r')<|xN cc) bx=.val (decide ((h,r')∈ops ps [] [] qs)) bx:=fV<|cV o;have fin:∀ x:Int,0<=x->x<=3->fF (d2 af aq (d2 af aq (d2 af aq (d2 af aq (dV 0) zd)<|d2 af aq (dV 3) zo) zd)<|dV 7) (E (ae<|.d<|.aB<|bz (pre h ps [] [] qs).2) (xN r')<|xN x) bx=.rt (.d<|.int<|q.2.getD x.toNat 0) bx:=λx x0 x3=>
    fU (fw (x:=.tup<|q.2.map D.int) (y:=.int x) (r:=.old _) (fw (x:=yi q) (y:=.int 1) (r:=.old<|.tup<|q.2.map D.int) (fw (x:=.tup ks) (y:=.int k) (r:=.old<|yi q) (fw (x:=hs rs ks ps hd) (y:=.int 1) (r:=.old<|.tup ks) zc zc zc) (fw (x:=enc zp) (y:=.int 3) (r:=.old<|.int k) zc zc zc)<|Fg X k0 hq) zc zc) zc<|R6 x0 za)
   by_cases d:(h,r')∈ops ps [] [] qs
   .rw[decide_eq_true d]at t2;rw[if_pos d];refine(fv<|(ij t2).trans<|gk<|iQ (r:=.old<|.int<|max 0<|cc-1) [.int 0,.int<|cc-1] (fj zc<|fj (fw (x:=.int cc) (y:=.int 1) (r:=.old<|.int<|cc-1) zc zc zc) zc)<|G0 _).trans ?_;show fin (max 0<|cc-1) za za
   .rw[decide_eq_false d]at t2;rw[if_neg d];rw[Xu,show max 0 cc=cc by lia];show qF t2<|fin cc lo za
end
end K23
namespace sY
open L2 L2.DL bM kn
noncomputable def dd (l:List Int):List Int:=l.foldl kR []
theorem NW (a:List Int) (i x:Int):x∈kR a i ↔ x∈a \/ x=i:=by
 unfold kR;split
 .ext h;let#[y,m,e]:=kz.mp h;have e':y=i:=by simpa using e
  subst e';show#[.inl,λz=>z.elim id λz=>z▸m]
 .simp
theorem Gb {a:List Int}(h:a.Nodup) (i:Int):(kR a i).Nodup:=by
 unfold kR;split
 .show h
 .ext q;rw[vn];refine#[h,by simp,λx hx y hy e=>q ?_];cases eU.mp hy;subst e;show kz.mpr #[x,hx,by simp]
theorem NX (a:List Int) (i:Int):(kR a i).length<=a.length+1:=by
 unfold kR;split<;>simp
theorem NY (x:Int):∀ (l a:List Int),x∈l.foldl kR a ↔ x∈a \/ x∈l:=by
 intro l_;induction l_ with
 |nil=>(intro a;simp)
 |cons i l az=>(intro a;rw[Hg,az,NW,bq];show or_assoc)
theorem Bu:∀ (l:List Int) {a:List Int},a.Nodup->(l.foldl kR a).Nodup
 |[],_,h=>h
 |i::l,_,h=>Bu l<|Gb h i
theorem NZ:∀ (l a:List Int),(l.foldl kR a).length<=a.length+l.length:=by
 intro l_;induction l_ with
 |nil=>(intro a;simp)
 |cons i l az=>
   intro a;have h1:=az<|kR a i;have h2:=NX a i;rw[Hg,bD];lia
theorem Vu {x:Int}{l:List Int}:x∈dd l ↔ x∈l:=by rw[dd,NY];simp
theorem N0 (l:List Int):(dd l).Nodup:=Bu l aaZ
theorem Vv (l:List Int):(dd l).length<=l.length:=by have:=NZ l [];rw[dd];simpa using this
theorem lX (l:List Int):HT.dist l=dd l:=by
 unfold HT.dist firstMet dd;congr 1;apply wV;intro j;by_cases h:j<l.length
 .simp[h]
 .simp[h]
theorem Lu {x:Int}{l:List Int}:x∈sortI l ↔ x∈l:=(gD l).mem_iff
theorem Fh {l:List Int}(h:l.Nodup):(sortI l).Nodup:=(gD l).nodup_iff.mpr h
end sY
namespace K23
open L2 L2.DL K1 K2 kn bM aJ cD
noncomputable abbrev wy (hold:Int) (p:Int×Int):List Int:=[p.1,p.2,p.1+1*hold,p.1+2*hold,p.1+3*hold]
section
variable {ps op:Al} 
theorem N1 {k:DE W}{i:Nat}{l r:List D}(h1:m env B=.val (.b i) B) (hb:B[i]?=ae (.lst l)) (h2:k env B=.val (.d<|.lst r) B) (hl:l.length+r.length<=sizeLine):rz m k env B=.val (.d .non) (B.set i<|.lst<|l++r):=by
 unfold rz;rw[h1,fS];erw[hb,h2,fS];show if_pos hl
theorem Kj {x:Bx}:(bx++[x])[bx.length]?=ae x:=by simp
theorem Zv {x y:Bx}:(bx++[x]).set bx.length y=bx++[y]:=by simp
abbrev aiV:aC:=(fu (gh<|rz (dV 2)<|gx af<|fc (dV 3)<|fc (dV 4) fg)<|gh<|rz (dV 2)<|fK af [ag,ae 0,ae 3] (qQ<|fc zd<|fc (d2 af fI zo zd) fg) (fe 0) fN<|d2 af fI (dV 2)<|d2 af cC (dV 0)<|d2 af aq (dV 1) zo)
theorem R7 (X:Hk rs ks ps hd rl hold kl) {o w2:Option W}{b e:Int}:fK af [ag,ae 0,ae 3] (qQ<|fc zd<|fc (d2 af fI zo zd) fg) (fe 0) fN (d2 af fI (dV 2)<|d2 af cC (dV 0)<|d2 af aq (dV 1) zo) [ae<|.d zb,o,w2,xN b,xN e] B=.val (.d<|.lst<|[b+1*hold,b+2*hold,b+3*hold].map D.int) B:=by
 have z:=bp;have eh:=X.eh;subst eh;refine gn (CB<|fj zc<|fj (fw (r:=.old _) zc zc zc) zc) zc ?_;refine(uq (J:=λenv=>∃ a,env=[a,ae _,ae _]) _ (λi:Int=>D.int<|b+i*hold) (λ_=>#[_,rfl]) [1,2,3] _ [] zh #[_,rfl] (λi _ env ⟨a,e⟩=>by subst e;rfl) λi m=>#[rfl,λ_=>?_]).trans ?_
 .refine fw (r:=.old _) zc (fw zc (fw zc zc zc)<|if_pos<|.inr ?_) zc;have:=X.h;lia
 .rfl
theorem R8 (X:Hk rs ks ps hd rl hold kl) (o:Option W):∀ (l:Al) (acc:List Int) (w3 w4:Option W),acc.length+l.length*5<=1000->∃ y3 y4,
 bL (fL 2<|fq (fe 3)<|fq (fe 4) fO) aiV ((l.map dP).map W.d) [ae<|.d zb,o,xB bx.length,w3,w4] (bx++[.lst<|acc.map D.int])=.nx [ae<|.d zb,o,xB bx.length,y3,y4] (bx++[.lst<|(acc++(l.map<|wy hold).flatten).map D.int]):=by
 intro l_;induction l_ with
 |nil=>show λacc w3 w4 _=>#[w3,w4,by simp[bL]]
 |cons p l az=>
   intro acc w3 w4 n;have z:sizeLine=16777216:=bp;rw[bD]at n;let#[y3,y4,e]:=az (acc++wy hold p) _ _ zh;refine#[y3,y4,?_];have g0:fL 2 (fq (fe 3)<|fq (fe 4) fO) (.d<|dP p) [ae<|.d zb,o,xB bx.length,w3,w4] (bx++[.lst<|acc.map D.int])=ae ([ae<|.d zb,o,xB bx.length,xN p.1,xN p.2],bx++[.lst<|acc.map D.int]):=rfl;have e1:=N1 (m:=dV 2) (k:=gx af<|fc (dV 3)<|fc (dV 4) fg) (env:=[ae<|.d zb,o,xB bx.length,xN p.1,xN p.2]) (B:=bx++[.lst<|acc.map D.int]) zc Kj (j9 [.int p.1,.int p.2] zc zh) zh;rw[Zv]at e1;have e2:=N1 (m:=dV 2) (env:=[ae<|.d zb,o,xB bx.length,xN p.1,xN p.2]) (B:=bx++[.lst<|acc.map D.int++[.int p.1,.int p.2]]) zc Kj (R7 X) zh;rw[Zv]at e2;rw[aU,aU,gR g0<|(fv<|ig e1).trans<|ig e2];have:acc.map D.int++[.int p.1,.int p.2]++[p.1+1*hold,p.1+2*hold,p.1+3*hold].map D.int=(acc++wy hold p).map D.int:=by simp
   rw[this,e];simp
theorem R9 (X:Hk rs ks ps hd rl hold kl) (ho:op.length<=4):gO [.d zb,.d zm] bx=.val (.b bx.length) (bx++[.lst<|((op.map<|wy hold).flatten).map D.int]):=by
 let#[y3,y4,e]:=R8 X _ op [] ag ag zh;have s1:fE (gx ah fg) (fe 2) [ae _,ae _,ag,ag,ag] bx=.nx [ae<|.d zb,ae<|.d zm,ae _,ag,ag] _:=gk<|oO [] zc<|dM _;have b:ie _ bx=.rt (.b bx.length) (bx++[.lst<|((op.map<|wy hold).flatten).map D.int]):=
  (fv s1).trans ((fv<|(im<|gM zc).trans e))
 change nX bx.length (nW<|aP ie [ae<|.d zb,ae<|.d zm,ag,ag,ag] bx)=_;unfold aP;rw[b];rfl
end
abbrev yj (q:Sx):D:=.tup [.int q.1,oI q.2.1,.int q.2.2]
noncomputable abbrev ends (bs:List Int):List (Option Int):=bs.tail.map ae++[ag]
theorem Ja (f:Int->Int):∀ bs:List Int,u9 f bs=(bs.zip<|ends bs).map λq=>(q.1,q.2,f q.1)
 |[]=>rfl
 |[b]=>rfl
 | b::c::r=>by
   change (b,ae c,f b)::u9 f _=_;rw[Ja f _];rfl
theorem S8:∀ (l:List Int) (r:List<|Option Int),kJ (l.map D.int) (r.map oI)=((l.zip r).map λq=>D.tup [.int q.1,oI q.2]).map W.d
 |[],_=>rfl
 |_::_,[]=>rfl
 | x::l,y::r=>by
   change W.d _::kJ _ _=_;rw[S8 l r];rfl
def rL (C:List Int) (h0:Int):List Int:=(sortI<|HT.dist C).filter λh=>decide (h0<=h)
theorem Fi (C:List Int) (h0:Int):(rL C h0).Pairwise (·<·):=by
 refine List.Pairwise.filter _ ?_;have nd:(sortI<|HT.dist C).Nodup:=sY.Fh (by rw[sY.lX];show sY.N0 C);show(List.pairwise_and_iff.mpr #[iS _,nd]).imp λ{a b} h=>by lia
theorem CV {C:List Int}{h0 x:Int}:x∈rL C h0 ↔ x∈C /\ h0<=x:=by
 unfold rL;rw[rS,sY.Lu,sY.lX,sY.Vu,decide_eq_true_eq]
theorem N2 {C:List Int}{h0:Int}(m:h0∈C):∃ r,rL C h0=h0::r:=by
 have r:=Fi C h0;have mh:h0∈rL C h0:=CV.mpr #[m,uE _];cases e:rL C h0 with
 |nil=>rw[e]at mh;cases mh
 |cons b l=>
   rw[e]at r mh;have hb:h0<=b:=(CV.mp (by rw[e];show bC ..)).2;rcases bq.mp mh with rfl|mh
   .show#[l,rfl]
   .have:=(List.pairwise_cons.mp r).1 h0 mh;lia
section
variable {ps op:Al} 
abbrev aiW:aC:=(gh<|rz (dV 4)<|gx af<|fc (d2 af aq (dV 5) zg)<|fc (d2 af fI (d2 af aq (dV 5) zg) zd) fg)
theorem Sa (x0 x1 x2 x3 x8 x9:Option W):∀ (S:List<|Pg×Option Int) (acc:List Int) (w5 w6 w7:Option W),acc.length+S.length*2<=1000->∃ y5 y6 y7,
 bL (fL 3<|fq (fe 5)<|fq (fe 6)<|fq (fe 7) fO) aiW ((S.map c5).map W.d) [x0,x1,x2,x3,xB bx.length,w5,w6,w7,x8,x9] (bx++[.lst<|acc.map D.int])=.nx [x0,x1,x2,x3,xB bx.length,y5,y6,y7,x8,x9] (bx++[.lst ((acc++((S.map (·.1)).map λg=>[aN g,aN g+1]).flatten).map D.int)]):=by
 intro l_;induction l_ with
 |nil=>show λacc w5 w6 w7 _=>#[w5,w6,w7,by simp[bL]]
 |cons q S az=>
   intro acc w5 w6 w7 n;have z:=bp;rw[bD]at n;let#[y5,y6,y7,e]:=az (acc++[aN q.1,aN q.1+1]) _ _ _ zh;refine#[y5,y6,y7,?_];have g0:fL 3 (fq (fe 5)<|fq (fe 6)<|fq (fe 7) fO) (.d<|c5 q) [x0,x1,x2,x3,xB bx.length,w5,w6,w7,x8,x9] (bx++[.lst<|acc.map D.int])=ae ([x0,x1,x2,x3,xB bx.length,ae<|.d<|enc q.1,ae<|.d<|oI q.2,ae<|.d<|oI<|pd q.1,x8,x9],bx++[.lst<|acc.map D.int]):=rfl;have e1:=N1 (m:=dV 4) (k:=gx af<|fc (d2 af aq (dV 5) zg)<|fc (d2 af fI (d2 af aq (dV 5) zg) zd) fg) (env:=[x0,x1,x2,x3,xB bx.length,ae<|.d<|enc q.1,ae<|.d<|oI q.2,ae<|.d<|oI<|pd q.1,x8,x9]) (B:=bx++[.lst<|acc.map D.int]) zc Kj (j9 [.int<|aN q.1,.int<|aN q.1+1] (fj (uu q.1 zc)<|fj (fw (r:=.old<|.int<|aN q.1+1) (uu q.1 zc) zc zc) zc) zh) zh;rw[Zv]at e1;rw[aU,aU,gR g0<|ig e1];have:acc.map D.int++[.int<|aN q.1,.int<|aN q.1+1]=(acc++[aN q.1,aN q.1+1]).map D.int:=by simp
   rw[this,e];simp
theorem Sb {tk:List Pg}(h1:op.length<=4) (h2:tk.length<=16):(chg hold op tk).length<64:=by
 rw[cX,abi,abi,bJ,bJ];have a:((op.map<|List.length∘λp=>[p.1,p.2,p.1+1*hold,p.1+2*hold,p.1+3*hold])).sum=op.length*5:=by
  clear h1;induction op with
  |nil=>rfl
  |cons p l ih=>rw[aU,abj,ih,bD];change 5+_=_;lia
 have b:((tk.map<|List.length∘λg=>[aN g,aN g+1])).sum=tk.length*2:=by
  clear h2;induction tk with
  |nil=>rfl
  |cons p l ih=>rw[aU,abj,ih,bD];change 2+_=_;lia
 lia
theorem Ai (X:Hk rs ks ps hd rl hold kl) (ho:op.length<=4) (s:pT qs) (ok:∀ g∈qs,pR rs.length ks.length g) (hl:qs.length<=16) {h0 l k r p w:Int}(k0:0<=k) (hq:kl[k.toNat]?=ae q) :
 iY [.d zb,.d zm,.d<|.lst<|(di ps [] [] qs).map c5,.d<|enc zp] bx=.val (.d<|.lst<|(u9 zy<|rL (chg hold op<|taken ps [] [] qs) h0).map yj) bx:=by
 have z:sizeLine=16777216:=bp;have sl:=CT (ps:=ps) (gs:=qs) (K:=[]) (R:=[]);have st:=Cd (ps:=ps) (gs:=qs) (K:=[]) (R:=[]);have pv:=λB h=>NV (bx:=B) (op:=op) X s ok hl (h0:=h0) (l:=l) (r:=r) (p:=p) (w:=w) k0 hq h;generalize (di ps [] [] qs)=S at sl st pv ⊢;have tl:(taken ps [] [] qs).length<=16:=by rw[<-st,a5];lia
 have cl:=Sb (hold:=hold) ho tl;let#[y5,y6,y7,lp]:=Sa (ae<|.d zb) (ae<|.d zm) (ae<|.d<|.lst<|S.map c5) (ae<|.d<|enc zp) ag ag S ((op.map<|wy hold).flatten) ag ag ag (by
  rw[show chg hold op _=(op.map<|wy hold).flatten++((taken ps [] [] qs).map λg=>[aN g,aN g+1]).flatten from rfl,cX]at cl;lia)
 rw[st]at lp
 change _=OS.nx _ (bx++[.lst<|(chg hold op<|taken ps [] [] qs).map D.int]) at lp
 generalize chg hold op (taken ps [] [] qs)=C at *;have dl:=sY.Vv C;have so:∀ {e:aQ},e[4]?=ae (xB bx.length)->dN af wb (fc (dV 4) fg) e (bx++[.lst<|C.map D.int])=.val (.d<|.lst<|(sortI<|HT.dist C).map D.int) (bx++[.lst<|C.map D.int]):=λh=>by
  rw[Lh,fj (by rw[oJ,h]) rfl,fS,show eW (bx++[.lst<|C.map D.int]) [.b bx.length]=ae [.lst<|C.map D.int] by simp[eW,bV,Kj,bY,rV]];have:wb [.lst<|C.map D.int]=ae (.lst<|(sortI<|HT.dist C).map D.int):=by
   change ((intsOf<|C.map D.int).bind λns=>if ns.length<4000 /\ (HT.dist ns).length<64 then ae (Res.lst<|(sortI<|HT.dist ns).map D.int) else ag)=_;rw[K1.Bf];show if_pos #[by lia,by rw[sY.lX];lia]
  rw[bY,this];rfl
 have sz:(sortI<|HT.dist C).length<64:=by rw[(gD _).length_eq,sY.lX];lia
 have bl:(rL C h0).length<64:=yA (wW ..) sz;have b1:=uq (g:=fe 0) (tf:=dB<|d2 af ny (dV 0)<|d2 af aq (dV 1) zg) (te:=dV 0) (B:=bx++[.lst<|C.map D.int]) (e:=D.int) (E:=λi:Int=>[xN i,ae<|.d<|enc zp]) (J:=λenv=>∃ a,env=[a,ae<|.d<|enc zp]) (λh=>decide (h0<=h)) (λi:Int=>D.int i) (λ_=>#[_,rfl]) (sortI<|HT.dist C) _ [] zh #[ag,rfl] (λi _ env ⟨a,e⟩=>by subst e;rfl) λi m=>#[fV<|fw (x:=.int i) (y:=.int h0) (r:=.old<|.bl<|decide (h0<=i)) zc (uu zp zc)<|rfl,λ_=>rfl]
 change _=O.val ((rL C h0).map D.int) _ at b1
 generalize rL C h0=bs at *;have Zr:DL.cutD (bs.map D.int) (ae 1) ag=bs.tail.map D.int:=by
  cases bs with
  |nil=>rfl
  |cons b t=>simp[DL.cutD,HT.a9];show Hm zj
 have e2:bs.tail.map D.int++[.non]=(ends bs).map oI:=by
  unfold ends;rw[wY,bJ];rfl
 refine(lL (ws:=[.d zb,.d zm,.d<|.lst<|S.map c5,.d<|enc zp]) (bx':=bx++[.lst<|C.map D.int]) (qS (cV<|R9 X ho) ((fv<|(im<|gp zc).trans lp).trans (qS (gn (gp<|so zc) zc b1) (qS (fw (x:=.lst<|bs.tail.map D.int) (y:=.lst [.non]) (r:=.lst<|(ends bs).map oI) (SR (x:=.lst<|bs.map D.int) (i:=ae 1) (j:=ag) (r:=.lst<|bs.tail.map D.int) zc zc zc (by rw[<-Zr];rfl)) (j9 [.non] zc zh) (by rw[<-e2];show if_pos zh)) (fU (gn (bx1:=bx++[.lst<|C.map D.int]) (congrArg (O.val · _)<|S8 bs<|ends bs) zc<|uq (g:=fL 2<|fq (fe 0)<|fq (fe 1) fO) (tf:=fN) (te:=fQ<|fc (dV 0)<|fc (dV 1)<|fc (fm K23.iX 5<|fc (dV 2)<|fc (dV 3)<|fc (dV 4)<|fc (dV 5)<|fc (dV 0) fg) fg) (B:=bx++[.lst<|C.map D.int]) (e:=λa:Int×Option Int=>D.tup [.int a.1,oI a.2]) (E:=λa:Int×Option Int=>[xN a.1,ae<|.d<|oI a.2,ae<|.d zb,ae<|.d zm,ae<|.d<|.lst<|S.map c5,ae<|.d<|enc zp]) (J:=λenv=>∃ a b,env=[a,b,ae<|.d zb,ae<|.d zm,ae<|.d<|.lst<|S.map c5,ae<|.d<|enc zp]) (λ_=>ah) (λa=>yj (a.1,a.2,bS rl hold op q.2 ps qs l a.1)) (λ_=>#[_,_,rfl]) (bs.zip<|ends bs) [ag,ag,ae<|.d zb,ae<|.d zm,ae<|.d<|.lst<|S.map c5,ae<|.d<|enc zp] [] (by rw[abd];simp;lia) #[_,_,rfl] (λi _ env ⟨a,b,e⟩=>by subst e;rfl) λa m=>#[rfl,λ_=>gj [.int a.1,oI a.2,.int<|bS rl hold op q.2 ps qs l a.1] (fj zc<|fj zc<|fj (cV<|pv _ a.1) zc) zh]))))))).trans ?_;rw[List.filter_eq_self.mpr λ_ _=>rfl,Ja,bJ,ng];simp[abg,ab7]
end
theorem W2 {B1:List Bx}{o:Option Int}(neg:Bool) (h:m env B=.val (.d<|oI o) B1):dG neg m env B=.val (.d<|.bl (if neg then o.isSome else !o.isSome)) B1:=by
 unfold dG;rw[h,fS];cases o<;>cases neg<;>rfl
theorem S9 (i j:Int):minD [.int i,.int j]=ae (.old<|.int<|min i j):=by
 change ae _=_;congr 3;split<;>lia
section
variable {ps op:Al} 
abbrev aej:aC:=(fu (fE (nT (dB<|dG af<|dV 7) (dV 4)<|dN af minD<|fc (dV 7)<|fc (dV 4) fg)<|fe 9)<|rF af 5<|d2 af cC (dV 8)<|dN af maxD<|fc zg<|fc (d2 af bR (dV 9)<|dV 6) fg)
theorem Jb (x0 x1 x2 x3:Option W) (h:Int):∀ (T:List Sx) (x:Int) (w6 w7 w8 w9:Option W),(∀ q∈T,0<=q.2.2 /\ q.2.2<=9)->∃ y6 y7 y8 y9,
 bL (fL 3<|fq (fe 6)<|fq (fe 7)<|fq (fe 8) fO) aej ((T.map yj).map W.d) [x0,x1,x2,x3,xN h,xN x,w6,w7,w8,w9] bx=.nx [x0,x1,x2,x3,xN h,xN<|Kg h x T,y6,y7,y8,y9] bx
 |[],x,w6,w7,w8,w9,_=>#[w6,w7,w8,w9,rfl]
 | (a,o,g)::T,x,w6,w7,w8,w9,b=>by
   have bg:0<=g /\ g<=9:=b _<|bC ..;let#[y6,y7,y8,y9,e]:=Jb x0 x1 x2 x3 h T _ _ _ _ _ λy m=>b y<|bu _ m;refine#[y6,y7,y8,y9,?_]
   let E:=λx w9=>([x0,x1,x2,x3,xN h,xN x,xN a,ae<|.d<|oI o,xN g,w9])
   have u:nT (dB<|dG af<|dV 7) (dV 4) (dN af minD<|fc (dV 7)<|fc (dV 4) fg) (E x w9) bx=.val (.d<|.int<|oV h o) bx:=by
    cases o with
    |none=>show WF zc zc
    |some v=>show WG zc<|iQ _ zc<|S9 v h
   have bd:aej _ bx=.nx (E _<|xN<|oV h o) bx:=qS u (by
    change bB (d2 af cC (dV 8) (dN af maxD<|fc zg<|fc (d2 af bR (dV 9)<|dV 6) fg) (E x<|xN<|oV h o) bx) _=_;rw[fw rfl (iQ [.int 0,.int<|oV h o-a] (fj rfl<|fj (fw (r:=.old<|.int<|oV h o-a) rfl rfl rfl) rfl)<|G0 _)<|if_pos<|.inl za,iq];rfl)
   rw[aU,aU,gR rfl bd,e];rfl
theorem Bv (X:Hk rs ks ps hd rl hold kl) (hq:q∈kl) (qs:List Pg) (l h:Int):0<=bS rl hold op q.2 ps qs l h /\ bS rl hold op q.2 ps qs l h<=9:=by
 unfold bS wx;split
 .lia
 .rename_i r _;rw[vm];cases c:q.2[(max 0<|dg _ hold h op-if (h,r)∈ops ps [] [] qs then 1 else 0).toNat]? with
  |none=>simp
  |some v=>show(X.k q hq).2.2.2 v (pD c)
theorem N3 {f:Int->Int}(p:∀ h,0<=f h /\ f h<=9):∀ {bs:List Int},∀ q∈u9 f bs,0<=q.2.2 /\ q.2.2<=9
 |[],_,m=>nomatch m
 |[b],q,m=>by cases eU.mp m;show p b
 | b::c::r,q,m=>by
   rcases bq.mp m with rfl|m
   .show p b
   .show N3 p q m
structure Cm (rs ks:List D) (ps:Al) (qs:List Pg) (kl:List<|Int×List Int) (h0 l k r p w:Int) (q:Int×List Int):zt where
 m:Pg.aF h0 l k r p w∈taken ps [] [] qs
 k0:0<=k
 hq:kl[k.toNat]?=ae q
theorem Ta (X:Hk rs ks ps hd rl hold kl) (s:pT qs) {h0 l k r p w:Int}(Y:Cm rs ks ps qs kl h0 l k r p w q):∃ t,rL (chg hold op<|taken ps [] [] qs) h0=h0::t /\ EM zy (h0::t):=by
 have m0:h0∈chg hold op _:=eG _<|List.mem_flatten.mpr #[_,bA.mpr #[_,Y.m,rfl],bC ..];let#[t,e]:=N2 m0;refine#[t,e,?_];rw[<-e];refine NP (λb h hb tt=>RS s (λc m=>(X.r c m).2) X.h.1 hb tt) (Fi _ _) λx m b eb hb=>CV.mpr #[m,?_];rw[e]at eb;cases eb;lia
theorem Vw (X:Hk rs ks ps hd rl hold kl) (ho:op.length<=4) (s:pT qs) (ok:∀ g∈qs,pR rs.length ks.length g) (hl:qs.length<=16) {h0 l k r p w:Int}(Y:Cm rs ks ps qs kl h0 l k r p w q) (h:Int) :
 mI [.d zb,.d zm,.d<|.lst<|(di ps [] [] qs).map c5,.d<|enc zp,.d<|.int h] bx=.val (.d<|.int<|p+sm zy h0 (h-h0).toNat) bx:=by
 let#[t,e,c]:=Ta X s Y;have sv:=Ai (bx:=bx) X ho s ok hl (h0:=h0) (l:=l) (r:=r) (p:=p) (w:=w) Y.k0 Y.hq;rw[e]at sv;let#[y6,y7,y8,y9,lp]:=Jb _ _ _ _ h _ p ag ag ag ag<|N3 λx=>Bv X (pD Y.hq) qs l x;rw[Ff c]at lp;have s1:fE (d2 af aq (dV 3)<|dC<|.int 5) (fe 5) [ae _,ae _,ae _,ae _,ae _,ag,ag,ag,ag,ag] bx=.nx [ae<|.d zb,ae<|.d zm,ae<|.d<|.lst<|(di ps [] [] qs).map c5,ae<|.d<|enc zp,xN h,ae _,ag,ag,ag,ag] bx:=gk<|fw (r:=.old<|.int p) zc zc zc;show fT<|(fv s1).trans<|(fv<|(im<|gp<|fJ zc zc sv).trans lp)
abbrev ES:aC:=(aH (dB<|d2 af eZ (dV 7) zg) (fu (fE (d2 af fI (dV 5)<|d2 af kh (d2 af bR (d2 af fI (dV 4)<|dV 7) zd)<|dV 7)<|fe 8)<|fu (aH (kU (dB<|dG af<|dV 6)<|dB<|d2 af dq (dV 8)<|dV 6) (fF<|dV 8) aL)<|rF ah 4<|d2 af cC (dV 7)<|d2 af bR (dV 6)<|dV 5) aL)
theorem Jc (x0 x1 x2 x3:Option W):∀ (T:List Sx) (x:Int) (w5 w6 w7 w8:Option W),(∀ q∈T,0<=q.2.2 /\ q.2.2<=9) ->
 fu (λenv bx=>bL (fL 3<|fq (fe 5)<|fq (fe 6)<|fq (fe 7) fO) ES ((T.map yj).map W.d) env bx) (fF<|dC .non) [x0,x1,x2,x3,xN x,w5,w6,w7,w8] bx=.rt (.d<|oI<|ur x T) bx
 |[],x,w5,w6,w7,w8,_=>rfl
 | (a,o,g)::T,x,w5,w6,w7,w8,b=>by
   have bg:0<=g /\ g<=9:=b _<|bC ..
   let E:=λx w8=>([x0,x1,x2,x3,xN x,xN a,ae<|.d<|oI o,xN g,w8])
   have t:dB (d2 af eZ (dV 7) zg) (E x w8) bx=.val _ bx:=fV<|fw (r:=.old _) zc zc<|rfl;have nx:∀ {x'}{w'},ES (E x w8) bx=.nx (E x' w') bx->fu (λenv bx=>bL (fL 3<|fq (fe 5)<|fq (fe 6)<|fq (fe 7) fO) ES ((((a,o,g)::T).map yj).map W.d) env bx) (fF<|dC .non) [x0,x1,x2,x3,xN x,w5,w6,w7,w8] bx=.rt (.d<|oI<|ur x' T) bx:=λ{x' w'} e=>by
    have:=(λx w8=>Jc x0 x1 x2 x3 T x (xN a) (ae<|.d<|oI o) (xN g) w8 λy m=>b y<|bu _ m) x' w';rw[gQ]at this ⊢;rw[aU,aU,gR rfl e];show this
   have rt:∀ {w},ES (E x w8) bx=.rt w bx->fu (λenv bx=>bL (fL 3<|fq (fe 5)<|fq (fe 6)<|fq (fe 7) fO) ES ((((a,o,g)::T).map yj).map W.d) env bx) (fF<|dC .non) [x0,x1,x2,x3,xN x,w5,w6,w7,w8] bx=.rt w bx:=λe=>gF<|Be zc e;unfold ur;by_cases c:0<g
   .rw[decide_eq_true c]at t;rw[if_pos c];have s1:d2 af fI (dV 5) (d2 af kh (d2 af bR (d2 af fI (dV 4)<|dV 7) zd)<|dV 7) (E x w8) bx=.val (.d<|.int<|a+(x+g-1) / g) bx:=fw (r:=.old<|.int<|a+(x+g-1) / g) zc (fw (fw (fw zc zc zc) zc zc) zc<|CK c za) zc;dsimp only;generalize a+(x+g-1) / g=y at *;cases o with
    |none=>show rt<|(ij t).trans<|qS s1<|qR (SQ zc) zc
    |some e=>
      have n2:dB (d2 af dq (dV 8)<|dV 6) (E x<|xN y) bx=.val (decide (y<=e)) bx:=fV<|fw (r:=.old<|.bl<|decide (y<=e)) zc zc zc;change _=OS.rt (W.d<|oI (if y<=e then ae y else ur (x-g*(e-a)) T)) bx;by_cases d:y<=e
      .rw[decide_eq_true d]at n2;rw[if_pos d];show rt<|(ij t).trans<|qS s1<|qR (lK zc n2) zc
      .rw[decide_eq_false d]at n2;rw[if_neg d];refine nx (w':=xN y)<|(ij t).trans<|qS s1<|qF (lK zc n2) ?_;unfold rF;change bB (d2 af cC (dV 7) (d2 af bR (dV 6)<|dV 5) (E x<|xN y) bx) _=_;rw[fw rfl (fw rfl rfl rfl)<|if_pos<|.inl za,iq];rfl
   .rw[decide_eq_false c]at t;rw[if_neg c];show nx<|(gu t).trans zc
theorem N4 (X:Hk rs ks ps hd rl hold kl) (ho:op.length<=4) (s:pT qs) (ok:∀ g∈qs,pR rs.length ks.length g) (hl:qs.length<=16) {h0 l k r p w:Int}(Y:Cm rs ks ps qs kl h0 l k r p w q) :
 ∃ t,jf [.d zb,.d zm,.d<|.lst<|(di ps [] [] qs).map c5,.d<|enc zp] bx=.val (.d<|oI t) bx /\ dJ zy h0 (q.1-p) t:=by
 let#[t,e,c]:=Ta X s Y;have sv:=Ai (bx:=bx) X ho s ok hl (h0:=h0) (l:=l) (r:=r) (p:=p) (w:=w) Y.k0 Y.hq;rw[e]at sv;have lp:=Jc (bx:=bx) (ae<|.d zb) (ae<|.d zm) (ae<|.d<|.lst<|(di ps [] [] qs).map c5) (ae<|.d<|enc zp) (u9 zy (h0::t)) (q.1-p) ag ag ag ag<|N3 λx=>Bv X (pD Y.hq) qs l x;have lm:jt [.d zb,.d<|enc zp] bx=.val _ bx:=fT<|fU<|fw (r:=.old _) (fw (fw zc zc zc) (fw zc zc zc)<|Fg X Y.k0 Y.hq) zc zc;have s1:∀ {b}{o},b [ae<|.d zb,ae<|.d zm,ae<|.d<|.lst<|(di ps [] [] qs).map c5,ae<|.d<|enc zp,xN<|q.1-p,ag,ag,ag,ag] bx=o->fu (fE (d2 af bR (fm K23.jt 2<|fc (dV 0)<|fc (dV 3) fg)<|d2 af aq (dV 3)<|dC<|.int 5)<|fe 4) b [ae<|.d zb,ae<|.d zm,ae<|.d<|.lst<|(di ps [] [] qs).map c5,ae<|.d<|enc zp,ag,ag,ag,ag,ag] bx=o:=λh=>qS (fw (cV lm) (fw zc zc zc) zc) h;have t0:∀ {e},e[4]?=ae (xN<|q.1-p)->dB (d2 af dq (dV 4) zg) e bx=.val (decide (q.1-p<=0)) bx:=λh=>fV<|fw (r:=.old<|.bl<|decide (q.1-p<=0)) (by rw[oJ,h]) zc zc;by_cases d:q.1-p<=0
 .rw[decide_eq_true d]at t0;refine#[ae h0,fT<|s1<|qR (t0 zc)<|uu zp zc,uE _,?_,λn hn=>by lia];rw[show (h0-h0).toNat=0 by lia];show d
 .rw[decide_eq_false d]at t0;refine#[_,fT<|s1<|qF (t0 zc) ?_,Br (λx=>(Bv X (pD Y.hq) qs l x).1) c za];rw[gQ]at lp ⊢;rw[im<|gp<|cV sv];show lp
end
structure Sc (rs ks:List D) (ps:Al) (hd:D) (rl:List Int) (hold:Int) (kl:List<|Int×List Int) (op:Al) (gs qs:List Pg):zt where
 X:Hk rs ks ps hd rl hold kl
 G:Gs rs.length ks.length gs
 so:dX [.lst<|gs.map enc]=ae (.lst<|qs.map enc)
 pm:qs.Perm gs
 ri:EG qs
 ol:op.length<=4
 ob:∀ p∈op,0<=p.1 /\ p.1<p.2
 oa:eO op=ah
section
variable {ps op:Al} 
theorem Sc.s (Z:Sc rs ks ps hd rl hold kl op gs qs):pT qs:=Vm Z.ri
theorem Sc.l (Z:Sc rs ks ps hd rl hold kl op gs qs):qs.length<=16:=by rw[Z.pm.length_eq];show Z.G.l
theorem Sc.ok (Z:Sc rs ks ps hd rl hold kl op gs qs):∀ g∈qs,pR rs.length ks.length g:=(Z.G.perm Z.pm).ok
theorem Vx {m:aC}{ws:List W}{e:aQ}(h:m (ws.map ae++List.replicate (n-ws.length) ag) bx=.nx e bx):aV n (aP m) ws bx=.val (.d .non) bx:=by
 change nX bx.length (nW<|aP m (ws.map ae++List.replicate _ ag) bx)=_;unfold aP;rw[h];simp[nW,nX]
theorem Vy (Z:Sc rs ks ps hd rl hold kl op gs qs):j7 [.d zb,.d zm] bx=.val (.d .non) bx:=by
 have sz:=bp;have ol:=Z.ol;have lv:=U2 op za bx;rw[Z.oa]at lv;have o:∀ x∈op.map dP,K2.oG [.d x] bx=.val (.d _) bx:=λx m=>by
  let#[p,mp,rfl]:=bA.mp m;have:=Z.ob p mp;show fT<|fU<|gT (cV<|Ah zc)<|gT (cV<|aJ.oT (i:=p.1) za)<|gT (cV<|aJ.oT (i:=p.2) za)<|fw (y:=.int p.2) (r:=.old<|.bl ah) zc zc (by simp[cT];lia)
 have m:A6 [ae _,ae _] bx=.rt _ bx:=qE (cV<|aJ.m8 Z.X.H)<|fU<|gT (cV<|Ah (l:=op.map dP) (lo:=0) (hi:=4) (by simp[tl];lia))<|gT (Cc (gM zc) zc (by rw[a5];lia) λx m=>cV<|o x m)<|cV lv;show Vx (m:=Ae)<|(gu<|iC<|fV<|cV (fn:=lI) (l:=[.d zb,.d zm])<|fT m).trans zc
theorem D7 (Z:Sc rs ks ps hd rl hold kl op gs qs) {l:Int}(l0:0<=l) (l9:l<=9):ia [.d zb,.d zm,.d zk,.d<|.int l] bx=.val (.d .non) bx:=by
 have w:=oK (.int l) 0 9 bx;rw[show wi _ 0 9=ah by simp[wi];lia]at w;show Vx<|(fv<|ig<|fJ zc zc<|Vy Z).trans<|(fv<|ig<|fJ zc zc<|aJ.CN Z.X.H Z.G).trans<|(gu<|iC<|fV<|fJ zc zc w)
theorem Sd {h:Int}(h0:0<=h):K23.j8 [.d<|.int h] bx=.val (.d .non) bx:=
 Vx ((gu<|iC<|fV<|fJ zc zc<|aJ.oT h0))
theorem Kk {ps:Al}{g:Pg}:∀ {gs:List Pg}{K R:Al},g∈taken ps K R gs->g∈gs:=by
 intro l_;induction l_ with
 |nil=>(intro _ _ m;show nomatch m)
 |cons x gs az=>
   intro K R m;unfold taken at m;split at m
   .rcases bq.mp m with rfl|m
    .show bC ..
    .show bu _<|az m
   .show bu _<|az m
abbrev pV (ps:Al) (qs:List Pg) (l:Int):Option Pg:=(taken ps [] [] qs).find?<|nH l
theorem Jd (Z:Sc rs ks ps hd rl hold kl op gs qs) {l:Int}{g:Pg}(h:pV ps qs l=ae g):∃ h0 k r p w q,g=.aF h0 l k r p w /\ Cm rs ks ps qs kl h0 l k r p w q /\ 0<=h0 /\ (0<=p /\ p<=999) /\ (1<=q.1 /\ q.1<=999) /\ g∈qs:=by
 have m:=Hn h;have c:=Q5 h;have mm:=Kk m;have o:=Z.ok g mm;cases g with
 |aF h0 l' k r p w=>
   have el:l'=l:=of_decide_eq_true c;subst el;let#[o1,o2,#[k0,k1],o4,o5,o6]:=o;have Zw:k.toNat<kl.length:=by rw[Z.X.ek,a5]at k1;lia
   show#[h0,k,r,p,w,kl[k.toNat],rfl,#[m,k0,cY Zw],o1,o5,#[(Z.X.k _<|pF Zw).1,(Z.X.k _<|pF Zw).2.1],mm]
 |to h' l' r=>simp[isIn]at c
 |out h' l'=>simp[isIn]at c
theorem N5 (Z:Sc rs ks ps hd rl hold kl op gs qs) (l:Int):ic [.d<|.lst<|(di ps [] [] qs).map c5,.d<|.int l] bx=.val (.d (match pV ps qs l with|some g=>enc g|none=>.non)) bx:=by
 have sl:=CT (ps:=ps) (gs:=qs) (K:=[]) (R:=[]);have:=NT (bx:=bx) (S:=di ps [] [] qs) (by have:=Z.l;lia) l;rw[Cd]at this;show this
theorem Je (Z:Sc rs ks ps hd rl hold kl op gs qs):cD.gJ [.d zb,.d zk] bx=.val (.d<|.lst<|(di ps [] [] qs).map c5) bx:=by
 rw[<-S7];show K23.RV Z.X.H Z.l Z.so
theorem Bw (Z:Sc rs ks ps hd rl hold kl op gs qs) {h0 l k r p w:Int}(l0:0<=l) (l9:l<=9) (Y:Cm rs ks ps qs kl h0 l k r p w q) (cg:pV ps qs l=ae zp) {h:Int}(hh:0<=h) (ge:h0<=h) :
 jr [.d zb,.d zm,.d zk,.d<|.int l,.d<|.int h] bx=.val (.d<|.int<|p+sm zy h0 (h-h0).toNat) bx:=by
 have cv:=N5 (bx:=bx) Z l;rw[cg]at cv;have sv:=Je (bx:=bx) Z;have rv:=Vw (bx:=bx) Z.X Z.ol Z.s Z.ok Z.l Y h;obtain⟨S,hS⟩:∃ S,S=D.lst ((di ps [] [] qs).map c5):=#[_,rfl];rw[<-hS]at cv sv rv;show fT<|qE (cV<|D7 Z l0 l9)<|qE (cV<|Sd hh)<|qS (cV sv)<|qS (cV cv)<|qF (lK (bx1:=bx) zc<|fV<|fw (x:=.int h0) (y:=.int h) (r:=.old _) (uu zp zc) zc (by simp[eZ];lia))<|fU<|cV rv
theorem Fj (Z:Sc rs ks ps hd rl hold kl op gs qs) {l:Int}(l0:0<=l) (l9:l<=9) :
 ∃ t,iZ [.d zb,.d zm,.d zk,.d<|.int l] bx=.val (.d<|oI t) bx /\ (pV ps qs l=ag->t=ag) /\ ∀ h0 k r p w q,pV ps qs l=ae zp->Cm rs ks ps qs kl h0 l k r p w q->dJ zy h0 (q.1-p) t:=by
 have cv:=N5 (bx:=bx) Z l;have sv:=Je (bx:=bx) Z;obtain⟨S,hS⟩:∃ S,S=D.lst ((di ps [] [] qs).map c5):=#[_,rfl];rw[<-hS]at cv sv;cases c:pV ps qs l with
 |none=>
   rw[c]at cv;show#[ag,fT<|qE (cV<|D7 Z l0 l9)<|qS (cV sv)<|qS (cV cv)<|qR zc zc,λ_=>rfl,λh0 k r p w q e=>nomatch e]
 |some g=>
   rw[c]at cv;let#[h0,k,r,p,w,q,rfl,Y,_]:=Jd Z c;let#[t,e,S1]:=N4 Z.X Z.ol Z.s Z.ok Z.l Y;rw[<-hS]at e;refine#[t,fT<|qE (cV<|D7 Z l0 l9)<|qS (cV sv)<|qS (cV cv)<|qF zc<|fU<|cV e,(λe=>nomatch e),λaiX k' r' p' w' q' e' Y'=>?_];cases e';have:=Option.some.inj<|Y'.hq.symm.trans Y.hq;rw[this];show S1
end
theorem N6 {R:Al}{l x:Int}:look (eP R l) x=if x=l then ag else look R x:=by
 induction R with
 |nil=>simp[eP,look]
 |cons q R ih=>
   have e:eP (q::R) l=if q.1=l then eP R l else q::eP R l:=by
    unfold eP;by_cases c:q.1=l
    .rw[if_pos c,tF (by simp[c])]
    .rw[if_neg c,tH (by simp[c])]
   rw[e,iD];by_cases c:q.1=l
   .rw[if_pos c,ih];by_cases d:x=l
    .rw[if_pos d,if_pos d]
    .rw[if_neg d,if_neg d,if_neg za]
   .rw[if_neg c,iD,ih];by_cases d:x=l
    .rw[if_pos d,if_pos d,if_neg za]
    .rw[if_neg d,if_neg d]
theorem stay {ps:Al}{y l:Int}:∀ {gs:List Pg}{K R:Al},(look K l).isSome=ah->look R l=ag->look (pre y ps K R gs).2 l=ag:=by
 intro l_;induction l_ with
 |nil=>(intro _ _ _ r;show r)
 |cons g gs az=>
   intro K R k r;unfold pre;split
   .refine az (S6 k).2 ?_;by_cases c:word ps K R g="takes"
    .rw[(gq c).2];cases g with
     |aF h' l' k' r' p w=>
       change look (put R l' r') l=ag;rw[lO];split
       .ext e;subst e;rw[show word ps K R _="there" by simp[word,k,if_true]]at c;show absurd c ze
       .show r
     |to h' l' r'=>
       change look (put R l' r') l=ag;rw[lO];split
       .ext e;subst e;rw[show word ps K R _="none" by simp[word,r]]at c;show absurd c ze
       .show r
     |out h' l'=>
       change look (eP R l') l=ag;rw[N6];split
       .rfl
       .show r
    .rw[(ir c).2];show r
   .show r
theorem gone {ps:Al}{x y l:Int}(xy:x<=y):∀ {gs:List Pg}{K R:Al},(look (pre x ps K R gs).1 l).isSome=ah->look (pre x ps K R gs).2 l=ag->look (pre y ps K R gs).2 l=ag:=by
 intro l_;induction l_ with
 |nil=>(intro _ _ _ r;show r)
 |cons g gs az=>
   intro K R k r;by_cases c:aN g<=x
   .unfold pre at k r ⊢;rw[if_pos c]at k r;rw[if_pos za];show az k r
   .have e:pre x ps K R (g::gs)=(K,R):=if_neg c;rw[e]at k r;show stay k r
theorem aiY {ps:Al}{x l:Int}:∀ {gs:List Pg}{K R:Al},(look K l).isSome=ah->(look (pre x ps K R gs).1 l).isSome=ah:=by
 intro l_;induction l_ with
 |nil=>(intro _ _ k;show k)
 |cons g gs az=>
   intro K R k;unfold pre;split
   .show az (S6 k).2
   .show k
theorem aiZ {ps:Al}{x h0 l k r p w:Int}(hx:h0<=x):∀ {gs:List Pg}{K R:Al},pT gs->Pg.aF h0 l k r p w∈taken ps K R gs->(look (pre x ps K R gs).1 l).isSome=ah:=by
 intro l_;induction l_ with
 |nil=>(intro _ _ _ m;show nomatch m)
 |cons g gs az=>
   intro K R s m;have s2:=List.pairwise_cons.mp s;rw[Bt]at m;have hg:aN g<=x:=by
    rcases List.mem_append.mp m with m|m
    .split at m
     .cases eU.mp m;show hx
     .cases m
    .have:=s2.1 _<|Kk m;have e:aN zp=h0:=rfl;lia
   unfold pre;rw[if_pos hg];rcases List.mem_append.mp m with m|m
   .split at m
    .ext c;cases eU.mp m;refine aiY ?_;rw[(gq c).1];change (look (put K l k) l).isSome=ah;rw[lO,if_pos rfl];rfl
    .cases m
   .show az s2.2 m
theorem Lv {c h:Int}:∀ {ps:Al},(∀ p∈ps,p.2<=h)->dg c hold h ps=c:=by
 intro l_;induction l_ with
 |nil=>show λ_=>rfl
 |cons p ps az=>
   intro t;unfold dg;rw[if_neg (by have:=t p<|bC ..;lia)];show az λx m=>t x<|bu _ m
section
variable {ps op:Al} 
theorem Lw (Z:Sc rs ks ps hd rl hold kl op gs qs) {last l r:Int}{rt:List Int}(hp:∀ g∈qs,aN g<=last) (ho:∀ p∈op,p.2<=last) (hr:nG ps qs l last=ae r) {h:Int}(hh:last<h):bS rl hold op rt ps qs l h=rt.getD (rl.getD r.toNat 0).toNat 0:=by
 have e:pre h ps [] [] qs=pre last ps [] [] qs:=NO za Z.s λg m=>by have:=hp g<|Kk m;lia
 unfold bS nG;unfold nG at hr;rw[e,hr];erw[wx];rw[Lv λp m=>by have:=ho p m;lia,if_neg λm=>?_,Xu]
 .let#[r0,r1]:=Av (CU (h:=last) (ps:=ps) Z.ok (K:=[]) (R:=[]) λq m=>nomatch m) hr;rw[Z.X.er,a5]at r1;have:0<=rl.getD r.toNat 0:=by
   rw[vm,cY za];show(Z.X.r _<|pF _).1
  rw[show max 0 _=rl.getD r.toNat 0 by lia]
 .let#[g,mg,eg]:=Bs m;have:=hp g<|Kk mg;simp at eg;lia
theorem Lx {rt:List Int}{l x:Int}(k:(look (pre x ps [] [] qs).1 l).isSome=ah) (r:nG ps qs l x=ag) {y:Int}(xy:x<=y):bS rl hold op rt ps qs l y=0:=by
 have:=gone xy k r;unfold bS nG;rw[this];rfl
end
end K23
namespace cD
open L2 L2.DL K1 kn bM aJ
section
variable {K':Al}
end
end cD
namespace K23
open L2 L2.DL K1 K2 kn bM aJ cD
structure La (ps:Al) (qs:List Pg) (B:List Bx) (N:Nat) (dr:List<|List Key×D):zt where
 c:B[N+1]?=ae (.aB<|a8 enc<|k7 ps [] [] [] qs)
 d:B[N+3]?=ae (.dT dr)
 o:∀ q:Int×Int,(eN dr<|k2 q).isSome=decide (q∈ops ps [] [] qs)
 a:B[N+4]?=ae (.lst<|sV ps [] [] qs)
section
variable {ps op:Al} {N:Nat} 
theorem Jf (Z:Sc rs ks ps hd rl hold kl op gs qs) (A:La ps qs B N dr) (h:Int):cD.f7 [.m<|ml N,.d<|.int h] B=.val (.d<|.aB<|a8 dP<|aS (pre h ps [] [] qs).1 (pre h ps [] [] qs).2) B:=by
 have ha:=A.a;rw[G7]at ha;have th:=RN (h:=h) ha;rw[show ([])=aS [] [] from rfl,Fd Z.s]at th;show th
theorem Se (Z:Sc rs ks ps hd rl hold kl op gs qs) (A:La ps qs B N dr) {k r h:Int}(k0:0<=k) (hq:kl[k.toNat]?=ae q) (r0:0<=r) (r1:r<(rl.length:Int)) :
 jq [.d zb,.d zm,.m<|ml N,.d<|.int k,.d<|.int r,.d<|.int h] B=.val (.d<|.int<|wx rl hold op q.2 (ops ps [] [] qs) h<|ae r) B:=by
 have z:=bp;have cd:=Rt (bx:=B) (hour:=h) Z.X.i r.toNat za op;rw[show ((r.toNat))=r by lia]at cd;have eg:rl[r.toNat]'(by lia)=rl.getD r.toNat 0:=by rw[vm,cY za];rfl
 rw[eg]at cd;have rb:=Z.X.r (rl.getD r.toNat 0) (by rw[<-eg];show pF _);have lo:=Bg (hold:=hold) (hour:=h) rb.1 op;have hi:=Bh (hour:=h) rb.1 (show 0<hold by have:=Z.X.h;lia) op;have c4:=(Z.X.k q<|pD hq).2.2.1;erw[wx];generalize dg _ hold h op=cc at *
 let E:aQ:=[ae<|.d zb,ae<|.d zm,ae<|.m<|ml N,xN k,xN r,xN h,xN cc]
 have tn:wm (fQ<|fc (dV 5)<|fc (dV 4) fg) (bW (dV 2) "doors") E B=.val (.d<|.bl<|decide ((h,r)∈ops ps [] [] qs)) B:=by
  have t1:fQ (fc (dV 5)<|fc (dV 4) fg) E B=.val (.d<|.tup [.int h,.int r]) B:=gj [.int h,.int r] zc zh;have t2:bW (dV 2) "doors" E B=.val (.b<|N+3) B:=jH zc aea;unfold wm;rw[t1,fS,t2,fS];change (match B[N+3]?,ui [D.int h,D.int r] with|some (.dT l),ae k=>O.val (W.d<|.bl (eN l k).isSome) B|_,_=>.bad)=_;rw[A.d];change O.val (W.d<|.bl (eN dr<|k2 (h,r)).isSome) B=_;rw[A.o]
 have mx:dN af maxD (fc zg<|fc (d2 af bR (dV 6)<|dN af intD<|fc (wm (fQ<|fc (dV 5)<|fc (dV 4) fg)<|bW (dV 2) "doors") fg) fg) E B=.val (.d<|.int<|max 0<|cc-if (h,r)∈ops ps [] [] qs then 1 else 0) B:=by
  refine iQ [.int 0,.int<|cc-if (h,r)∈ops ps [] [] qs then 1 else 0] (fj zc<|fj (fw (r:=.old<|.int<|cc-if (h,r)∈ops ps [] [] qs then 1 else 0) zc (iQ (r:=.old<|.int (if (h,r)∈ops ps [] [] qs then 1 else 0)) [.bl<|decide ((h,r)∈ops ps [] [] qs)] (fj tn zc) ?_) zc) zc)<|G0 _;change ae (Res.old<|.int (if decide ((h,r)∈ops ps [] [] qs)=ah then 1 else 0))=_;congr 3;simp
 refine fT<|qS (cV cd)<|fU<|fw (fw (r:=.old<|.tup<|q.2.map D.int) (fw (fw zc zc zc) zc<|Fg Z.X k0 hq) zc zc) mx<|R6 za ?_;split<;>lia
theorem Gc (a:Int) (n:Nat):fM a (n+1)=.d (.int a)::fM (a+1) n:=by
 unfold fM;rw[aa7,aU,bJ];congr 1
 .simp
 .refine qD λi _=>?_;change W.d _=W.d _;congr 2;lia
abbrev aek:aC:=(fu (aH (dB<|d2 af ny (dV 8)<|dV 6) (fF<|dV 9) aL)<|fu (fE (fm cD.f7 2<|fc (dV 2)<|fc (dV 9) fg)<|fe 10)<|fu (aH (dB<|dz ah (dV 3)<|dV 10) (fF<|dC .non) aL)<|fE (d2 af fI (dV 8)<|fm K23.jq 6<|fc (dV 0)<|fc (dV 1)<|fc (dV 2)<|fc (d2 af aq (dV 5) zo)<|fc (d2 af aq (cj (dV 10)<|dV 3) zd)<|fc (dV 9) fg)<|fe 8)
abbrev ael:aC:=(fu (aH (dB<|d2 af ny (dV 8)<|dV 6) (fF<|d2 af fI (dV 4) zd) aL)<|fu (fE (d2 af aq (cj (fm cD.f7 2<|fc (dV 2)<|fc (dV 4) fg)<|dV 3) zd)<|fe 11)<|fu (fE (d2 af aq (dV 7)<|d2 af aq (d2 af aq (dV 0) zg)<|dV 11)<|fe 12)<|fu (aH (dB<|d2 af aY (dV 12) zg) (fF<|dC .non) aL)<|fF<|d2 af fI (d2 af fI (dV 4) zd)<|d2 af kh (d2 af bR (d2 af fI (d2 af bR (dV 6)<|dV 8)<|dV 12) zd)<|dV 12)
abbrev lS (H O:D) (N:Nat) (l last:Int) (pg:D) (lim:Int) (rt:List Int) (x:Int) (w9 ph pw pz:Option W):aQ:=[ae<|.d H,ae<|.d O,ae<|.m<|ml N,ae<|.d<|.int l,ae<|.d<|.int last,ae<|.d pg,ae<|.d<|.int lim,ae<|.d<|.tup<|rt.map D.int,ae<|.d<|.int x,w9,ph,pw,pz]
noncomputable def Bd (last:Int):Option Int->zt
 |none=>True
 |some t=>0<=t /\ t<=last+2000
variable {h0 l k r p w last:Int} 
theorem Vz (Z:Sc rs ks ps hd rl hold kl op gs qs) (A:La ps qs B N dr) (Y:Cm rs ks ps qs kl h0 l k r p w q) (pp:0<=p) (hp:∀ g∈qs,aN g<=last) (ho:∀ p∈op,p.2<=last) (wz:0<=h0) (hl:h0<=last) (hn:h0+n=last+1)
 (lt:∀ j,j<n->sm zy h0 j<q.1-p) {r':Int}(hr:nG ps qs l last=ae r') (w9 ph pw pz:Option W) :
 ∃ t,ael (lS zb zm N l last (enc zp) q.1 q.2 (p+sm zy h0 n) w9 ph pw pz) B=.rt (.d<|oI t) B /\ dJ zy h0 (q.1-p) t /\ Bd last t:=by
 have gb:=λh=>Bv (op:=op) Z.X (pD Y.hq) qs l h;have kq:=Z.X.k q<|pD Y.hq;have gl:=λ{h:Int}(hh:last<h)=>Lw (rt:=q.2) Z hp ho hr hh;have s0:0<=sm zy h0 n:=NM (λh=>(gb h).1)<|dM n;generalize hf:bS rl hold op q.2 ps qs l=f at *;generalize hx:sm f h0 n=x at *
 let E:=λpw pz=>lS zb zm N l last (enc zp) q.1 q.2 (p+x) w9 ph pw pz
 have t1:dB (d2 af ny (dV 8)<|dV 6) (E pw pz) B=.val _ B:=fV<|fw (r:=.old<|.bl<|decide (q.1<=p+x)) zc zc<|rfl;by_cases c:q.1<=p+x
 .rw[decide_eq_true c]at t1;refine#[ae<|last+1,qR t1<|fw (r:=.old<|.int<|last+1) zc zc zc,#[by lia,?_,λj hj=>lt j za],by constructor<;>lia];rw[show (last+1-h0).toNat=n by lia,hx];lia
 .rw[decide_eq_false c]at t1;let#[r0,r1]:=Av (CU Z.ok (R:=[]) λq m=>nomatch m) hr;rw[Z.X.er,a5]at r1;have rc:0<=rl.getD r'.toNat 0 /\ rl.getD r'.toNat 0<=3:=by
   rw[vm,cY za];show Z.X.r _<|pF _
  have fl:∀ h,last<h->f h=q.2.getD (rl.getD r'.toNat 0).toNat 0:=λh hh=>gl hh;have rb:=gb<|last+1;rw[fl (last+1) za]at rb;have go:∀ {b:aC}{o:OS},b (E (xN r')<|xN<|q.2.getD (rl.getD r'.toNat 0).toNat 0) B=o->fu (aH (dB<|d2 af ny (dV 8)<|dV 6) (fF<|d2 af fI (dV 4) zd) aL) (fu (fE (d2 af aq (cj (fm cD.f7 2<|fc (dV 2)<|fc (dV 4) fg)<|dV 3) zd)<|fe 11)<|fu (fE (d2 af aq (dV 7)<|d2 af aq (d2 af aq (dV 0) zg)<|dV 11)<|fe 12) b) (E pw pz) B=o:=λh=>qF t1<|qS (fw (r:=.old<|.int r') (AW (e:=dP) (L:=aS (pre last ps [] [] qs).1 (pre last ps [] [] qs).2) (l:=l) zc (cV<|Jf Z A last) (by rw[jG];show congrArg _ hr)) zc zc)<|qS (fw (x:=.tup<|q.2.map D.int) (y:=.int<|rl.getD r'.toNat 0) (r:=.old<|.int<|q.2.getD (rl.getD r'.toNat 0).toNat 0) zc (fw (x:=.tup rs) (y:=.int r') (r:=.old<|.int<|rl.getD r'.toNat 0) (fw (x:=hs rs ks ps hd) (y:=.int 0) (r:=.old<|.tup rs) zc zc zc) zc (by rw[Z.X.er];show R6 r0 r1))<|R6 rc.1 (by have:=kq.2.2.1;lia)) h;generalize q.2.getD (rl.getD r'.toNat 0).toNat 0=rr at *;have t2:dB (d2 af aY (dV 12) zg) (E (xN r')<|xN rr) B=.val (decide (rr=0)) B:=fV<|fw (x:=.int rr) (y:=.int 0) (r:=.old<|.bl<|decide (rr=0)) zc zc<|rfl;by_cases d:rr=0
  .rw[decide_eq_true d]at t2;refine#[ag,go<|qR t2 zc,dJ.of (λh=>(gb h).1) (m:=n) (by rw[hx];lia) (show dJ _ _ _ ag from λj=>?_),trivial];rw[io (c:=0) λh h1 _=>by rw[fl h za];show d,hx];lia
  .rw[decide_eq_false d]at t2;refine#[ae<|last+1+(q.1-(p+x)+rr-1) / rr,go<|qF t2<|fU<|fw (x:=.int<|last+1) (y:=.int<|(q.1-(p+x)+rr-1) / rr) (r:=.old<|.int<|last+1+(q.1-(p+x)+rr-1) / rr) (fw (x:=.int last) (y:=.int 1) (r:=.old<|.int<|last+1) zc zc zc) (fw (x:=.int<|q.1-(p+x)+rr-1) (y:=.int rr) (r:=.old<|.int<|(q.1-(p+x)+rr-1) / rr) (fw (x:=.int<|q.1-(p+x)+rr) (y:=.int 1) (r:=.old<|.int<|q.1-(p+x)+rr-1) (fw (x:=.int<|q.1-(p+x)) (y:=.int rr) (r:=.old<|.int<|q.1-(p+x)+rr) (fw (x:=.int q.1) (y:=.int<|p+x) (r:=.old<|.int<|q.1-(p+x)) zc zc zc) zc zc) zc zc) zc<|CK za za) zc,?_,?_]
   .refine dJ.of (λh=>(gb h).1) (m:=n) (by rw[hx];lia) ?_;rw[hx,hn,show q.1-(p+x)=q.1-p-x by lia];show Bq za za λh h1 _=>fl h za
   .rw[show q.1-(p+x)=q.1-p-x by lia];let#[c0,c1,c2]:=(Bp (x:=q.1-p-x) (p:=rr) za za);generalize (q.1-p-x+rr-1) / rr=d at *;have:d<=rr*d:=by
     have:=Int.mul_le_mul_of_nonneg_right (show (1:Int)<=rr by lia) (show (0:Int)<=d by lia);lia
    constructor<;>lia
theorem Fk (Z:Sc rs ks ps hd rl hold kl op gs qs) (A:La ps qs B N dr) (Y:Cm rs ks ps qs kl h0 l k r p w q) (pp:0<=p) (hp:∀ g∈qs,aN g<=last) (ho:∀ p∈op,p.2<=last) (wz:0<=h0) (hl:h0<=last) (hn:h0+n=last+1):∀ (m i:Nat) (w9 ph pw pz:Option W),m+i=n ->
 (∀ j,j<i->sm zy h0 j<q.1-p)->(0<i->∃ r',nG ps qs l (h0+i-1)=ae r') ->
 ∃ t,fu (λenv bx=>bL (fe 9) aek (fM (h0+i) m) env bx) ael (lS zb zm N l last (enc zp) q.1 q.2 (p+sm zy h0 i) w9 ph pw pz) B=.rt (.d<|oI t) B /\ dJ zy h0 (q.1-p) t /\ Bd last t:=by
 intro l_;induction l_ with
 |zero=>
   intro i w9 ph pw pz e lt th;have:i=n:=by lia
   subst this;let#[r',hr]:=th za;rw[show h0+(i)-1=last by lia]at hr;let#[t,e,S1,b]:=Vz Z A Y pp hp ho wz hl hn lt hr w9 ph pw pz;show#[t,by rw[gQ];show e,S1,b]
 |succ m az=>
   intro i w9 ph pw pz e lt th
   let E:=λx ph=>lS zb zm N l last (enc zp) q.1 q.2 x (xN<|h0+i) ph pw pz
   obtain⟨x,hx⟩:∃ x,x=p+sm zy h0 i:=#[_,rfl];have ex:p+sm zy h0 (i+1)=x+bS rl hold op q.2 ps qs l (h0+i):=by rw[hx];change p+(_+_)=_;lia
   have t1:dB (d2 af ny (dV 8)<|dV 6) (E x ph) B=.val _ B:=fV<|fw (r:=.old<|.bl<|decide (q.1<=x)) zc zc<|rfl;rw[Gc,<-hx];by_cases c:q.1<=x
   .rw[decide_eq_true c]at t1;refine#[ae _,gF<|Be zc<|qR t1 zc,#[by lia,?_,λj hj=>lt j za],by constructor<;>lia];rw[show (h0+(i)-h0).toNat=i by lia];lia
   .rw[decide_eq_false c]at t1;have aem:=Jf Z A<|h0+i;have t2:=Dp (bx:=B) (k:=dV 3) (m:=dV 10) (env:=E x<|ae<|.d<|.aB<|a8 dP<|aS (pre (h0+i) ps [] [] qs).1 (pre (h0+i) ps [] [] qs).2) ah zc zc;rw[jG]at t2;cases d:look (pre (h0+i) ps [] [] qs).2 l with
    |none=>
      rw[d]at t2;refine#[ag,gF<|Be zc<|qF t1<|qS (cV aem)<|qR (fV t2) zc,dJ.of (λh=>((λh=>Bv (op:=op) Z.X (pD Y.hq) qs l h) h).1) (m:=i) za (show dJ _ _ _ ag from λj=>?_),trivial];rw[io λh h1 _=>Lx (aiZ (x:=h0+i) za Z.s Y.m) d h1];lia
    |some r'=>
      rw[d]at t2;let#[r0,r1]:=Av (CU Z.ok (K:=[]) (R:=[]) λq m=>nomatch m) d;rw[Z.X.er,a5]at r1;have gv:=Se (h:=h0+i) Z A Y.k0 Y.hq r0 r1;rw[show wx rl hold op q.2 (ops ps [] [] qs) (h0+i) (ae r')=bS rl hold op q.2 ps qs l (h0+i) by unfold bS nG;rw[d]]at gv;let#[t,e2,S1,b]:=az (i+1) (xN<|h0+i) (ae<|.d<|.aB<|a8 dP<|aS (pre (h0+i) ps [] [] qs).1 (pre (h0+i) ps [] [] qs).2) pw pz za (λj hj=>by
       rcases QU (QV hj) with h|h
       .show lt j h
       .subst h;lia) (λ_=>#[r',by rw[show h0+((i+1:Nat):Int)-1=h0+i by lia];show d])
      refine#[t,?_,S1,b];rw[ex,show h0+((i+1:Nat):Int)=h0+i+1 by lia,gQ]at e2;have bd:aek (E x ph) B=.nx (E (x+bS rl hold op q.2 ps qs l (h0+i))<|ae<|.d<|.aB<|a8 dP<|aS (pre (h0+i) ps [] [] qs).1 (pre (h0+i) ps [] [] qs).2) B:=qF t1<|qS (cV aem)<|qF (fV t2)<|gk<|fw (x:=.int x) (y:=.int<|bS rl hold op q.2 ps qs l<|h0+i) (r:=.old<|.int<|x+bS rl hold op q.2 ps qs l (h0+i)) zc (fJ (l:=[.d zb,.d zm,.m<|ml N,.d<|.int k,.d<|.int r',.d<|.int<|h0+i]) (fj zc<|fj zc<|fj zc<|fj (fw (x:=enc zp) (y:=.int 3) (r:=.old<|.int k) zc zc zc)<|fj (fw (x:=dP (kk (pre (h0+i) ps [] [] qs).1 l,r')) (y:=.int 1) (r:=.old<|.int r') (AW (bx:=B) (e:=dP) (L:=aS (pre (h0+i) ps [] [] qs).1 (pre (h0+i) ps [] [] qs).2) (k:=dV 3) (m:=dV 10) (env:=E x<|ae<|.d<|.aB<|a8 dP<|aS (pre (h0+i) ps [] [] qs).1 (pre (h0+i) ps [] [] qs).2) (l:=l) (v:=(kk (pre (h0+i) ps [] [] qs).1 l,r')) zc zc (by rw[jG,d];rfl)) zc zc)<|fj zc zc) zc gv) zc;rw[gQ,gR (env1:=E x ph) rfl bd];show e2
end
end K23
namespace aJ
open L2 L2.DL K1 kn bM
theorem Yt (j:Nat) (hj:j<=100) (env:aQ) (b:List Bx):c9 (fc (dC<|.int (j:Nat)) fg) env b=.val (fM 0 j) b:=lJ (j:=j) (rfl) za
end aJ
namespace cD
open L2 L2.DL K1 kn bM aJ
theorem l7 {i:Nat}{m:DE (List W)}{B1:List Bx}{x y:W}(h:m env B=.val [x,y] B1):eY i j m env B=.nx ((env.set i<|ae x).set j<|ae y) B1:=by
 unfold eY;rw[h,iq]
section
variable {N:Nat}
end
end cD
namespace K23
open L2 L2.DL K1 K2 kn bM aJ cD
section
variable {ps op:Al} {N:Nat} {l last:Int}
theorem CW:((k7 ps [] [] [] qs).find? λq=>decide (q.1=l)).map (·.2)=pV ps qs l:=Vs zc
theorem N7 (Z:Sc rs ks ps hd rl hold kl op gs qs) (A:La ps qs B N dr) (hp:∀ g∈qs,aN g<=last) (ho:∀ p∈op,p.2<=last) :
 ∃ t,iI [.d zb,.d zm,.m<|ml N,.d<|.int l,.d<|.int last] B=.val (.d<|oI t) B /\ Bd last t /\ (pV ps qs l=ag->t=ag) /\ ∀ h0 k r p w q,pV ps qs l=ae zp->Cm rs ks ps qs kl h0 l k r p w q->dJ zy h0 (q.1-p) t:=by
 let E:=λx5 x6 x7 x8=>([ae<|.d zb,ae<|.d zm,ae<|.m<|ml N,xN l,xN last,x5,x6,x7,x8,ag,ag,ag,ag]:aQ)
 have t0:=fV<|D4 (e:=enc) (L:=k7 ps [] [] [] qs) (k:=dV 3) (m:=bW (dV 2) "came") (env:=E ag ag ag ag) (bx:=B) (l:=l) ah zc (jH zc EK)<|lh A.c;rw[CW]at t0;cases c:pV ps qs l with
 |none=>
   rw[c]at t0;show#[ag,fT<|qR t0 zc,trivial,λ_=>rfl,λ_ _ _ _ _ _ e=>nomatch e]
 |some g=>
   rw[c]at t0;let#[h0,k,r,p,w,q,rfl,Y,wz,#[p0,p9],_,mq]:=Jd Z c;have hl:h0<=last:=hp _ mq;let#[t,e,S1,b]:=Fk Z A Y p0 hp ho wz hl (n:=(last+1-h0).toNat) za (last+1-h0).toNat 0 ag ag ag ag za (λj hj=>absurd hj za) λh=>absurd h za;rw[show h0+((0:Nat):Int)=h0 by lia,show p+sm _ h0 0=p by change p+(0:Int)=p;lia,gQ]at e;refine#[t,fT<|qF t0<|qS (lM (e:=enc) (L:=k7 ps [] [] [] qs) (l:=l) (v:=.aF h0 l k r p w) zc (jH zc EK) (lh A.c) (by rw[CW,c]))<|qG (w:=.d _) (fw (x:=.tup ks) (y:=.int k) (r:=.old _) (fw (x:=hs rs ks ps hd) (y:=.int 1) (r:=.old _) zc zc zc) (fw (x:=enc _) (y:=.int 3) (r:=.old _) zc zc zc)<|Fg Z.X Y.k0 Y.hq) zc<|qS (fw (x:=enc _) (y:=.int 5) (r:=.old<|.int p) zc zc zc) ?_,b,(λe=>nomatch e),λaiX k' r' p' w' q' e' Y'=>?_]
   .rw[gQ,im<|CB (i:=h0) (j:=last+1)<|fj (uu zp rfl)<|fj (fw (x:=.int last) (y:=.int 1) (r:=.old<|.int<|last+1) rfl rfl rfl) rfl];show e
   .cases e';have:q'=q:=Option.some.inj<|Y'.hq.symm.trans Y.hq;rw[this];show S1
theorem VA {k:DE W}{B1:List Bx}(h:m env B=.val (.d<|.bl ah) B1):vR m k env B=.val (.d<|.bl ah) B1:=by rw[M5,h];rfl
theorem VB {k:DE W}{B1:List Bx}{r:O W}(h:m env B=.val (.d<|.bl af) B1) (h2:k env B1=r):vR m k env B=r:=by rw[M5,h];show h2
theorem W3 (a b:Int):cT (.int a) (.int b)=ae (.old<|.bl<|decide (a<b)):=rfl
theorem VC (Z:Sc rs ks ps hd rl hold kl op gs qs) {h0 k r p w t:Int}(l0:0<=l) (l9:l<=9) (wz:0<=h0) (Y:Cm rs ks ps qs kl h0 l k r p w q) (cg:pV ps qs l=ae zp) (S:dJ zy h0 (q.1-p)<|ae t) :
 gK [.d zb,.d zm,.d zk,.d<|enc zp,.d<|.int t] B=.val (.d<|.bl ah) B:=by
 let#[a1,a2,a3]:=S
 let E:aQ:=[ae<|.d zb,ae<|.d zm,ae<|.d zk,ae<|.d<|enc zp,xN t,xN q.1,xN l]
 have t2:d2 af aY (dV 4) (d2 af aq (dV 3)<|dC _) E B=.val _ B:=fw (y:=.int h0) (r:=.old<|.bl<|decide (t=h0)) zc (uu zp zc)<|rfl;refine fT<|(fv<|cD.l7<|fj (fw (fw (fw zc zc zc) (fw zc zc zc)<|Fg Z.X Y.k0 Y.hq) zc zc)<|fj (G9 zp zc) zc).trans<|qF (fV<|fw (y:=.int q.1) (r:=.old<|.bl af) (cV<|Bw Z l0 l9 Y cg za a1) zc (by rw[W3,decide_eq_false za]))<|fU ?_;change vR _ _ E B=_;by_cases c:t=h0
 .rw[decide_eq_true c]at t2;show VA t2
 .rw[decide_eq_false c]at t2;have a4:=a3 (t-1-h0).toNat za;show VB t2<|fw (r:=.old<|.bl ah) (fJ (fj zc<|fj zc<|fj zc<|fj zc<|fj (fw (y:=.int 1) (r:=.old<|.int<|t-1) zc zc zc) zc) zc<|Bw (bx:=B) Z l0 l9 Y cg (h:=t-1) za za) zc (by rw[W3,decide_eq_true za])
end
theorem Ce {b e:Int}:∀ {ps:Al},eO ps=ah->(∀ x∈ps,x.2<b)->eO (ps++[(b,e)])=ah
 |[],_,_=>rfl
 | [p],_,h=>by
   simp[eO,h p _]
 | p::q::r,a,h=>by
   simp[eO,aI]at a;change eO _=ah;have:=Ce (e:=e) a.2 λx m=>h x<|bu _ m;simp[eO,aI];show#[a.1,this]
theorem Sf {nr:Int}(n0:0<nr) (n1:nr<=30) (h:n<bx.length) (p b:Int) (ps:Al) (hl:ps.length<=1000) (w:Option W) :
 ∃ e b' q,aiE [xB n,xN nr,xB bx.length,xN b,w] (pt (bx++[.lst<|ps.map dP]) n p)=.nx [xB n,xN nr,xB bx.length,xN b',w] (pt (bx++[.lst<|(ps++[(b,e)]).map dP]) n q) /\ b<e /\ e<=b+30 /\ e<b' /\ b'<=e+30:=by
 have sz:=bp;let#[r1,p1,t1,m0,m1]:=k6 (bx:=bx++[Bx.lst _]) (n:=n) zh p nr n0 za;have ap:=B8 (m:=dV 2) (k:=fQ<|fc (dV 3)<|fc (d2 af fI (d2 af fI (dV 3)<|dC _)<|fm K1.fr 2<|fc (dV 0)<|fc (dV 1) fg) fg) (env:=[xB n,xN nr,xB bx.length,xN b,w]) zc (jv (p:=p) (x:=.lst<|ps.map dP) h) (gj [.int b,.int<|b+1+r1] (fj zc<|fj (fw (r:=.old<|.int<|b+1+r1) (fw (x:=.int b) (y:=.int 1) (r:=.old<|.int<|b+1) zc zc zc) (t1 zc zc) zc) zc) (show (2:Nat)<=sizeLine by lia)) (jv (p:=p1) (x:=.lst<|ps.map dP) h) (by rw[a5];lia);rw[CL h,show ps.map dP++[D.tup [.int b,.int<|b+1+r1]]=(ps++[(b,b+1+r1)]).map dP by simp]at ap;let#[r2,p2,t2,k0,k1]:=k6 (bx:=bx++[Bx.lst<|(ps++[(b,b+1+r1)]).map dP]) (n:=n) zh p1 nr n0 za;have b3:=jv (p:=p1) (x:=.lst<|(ps++[(b,b+1+r1)]).map dP) h;have la:bF ((ps++[(b,b+1+r1)]).map dP) (-1)=ae (dP (b,b+1+r1)):=by
  unfold bF cy;simp;rw[if_pos za];simp;have:(-1+((ps.length:Int)+1)).toNat=ps.length:=by lia
  rw[this,<-a5 (f:=dP) (as:=ps)];simp
 refine#[b+1+r1,b+1+r1+1+r2,p2,(fv<|ig ap).trans<|gk<|fw (x:=.int<|b+1+r1+1) (y:=.int r2) (r:=.old<|.int<|b+1+r1+1+r2) (fw (x:=.int<|b+1+r1) (y:=.int 1) (r:=.old<|.int<|b+1+r1+1) (fw (x:=dP (b,b+1+r1)) (y:=.int 1) (r:=.old<|.int<|b+1+r1) ?_ zc zc) zc zc) (t2 zc zc) zc,by lia,by lia,by lia,by lia];generalize pt (bx++[.lst<|(ps++[(b,b+1+r1)]).map dP]) n p1=B at b3 ⊢;rw[M6,show dV 2 [xB n,xN nr,xB bx.length,xN b,w] B=.val (.b bx.length) B from rfl,fS,UW rfl,fS,SV b3,A7,bY,bY];change cq af (Option.map Res.old<|bF _<|-1) _=_;rw[la];rfl
structure Ot (op:Al) (m:Int):zt where
 l:op.length<=4
 b:∀ x∈op,0<=x.1 /\ x.1<x.2 /\ x.2<=m
 a:eO op=ah
theorem Sg {nr:Int}(n0:0<nr) (n1:nr<=30) (h:n<bx.length) (p:Int):∃ ps q,K2.jn [.b n,.d<|.int nr] (pt bx n p)=.val (.d<|.tup<|ps.map dP) (pt bx n q) /\ Ot ps 1000:=by
 have sz:=bp;have h0:n<(bx++[Bx.lst []]).length:=by simp;lia
 let#[r0,p1,t0,m0,m1]:=k6 h0 p nr n0 za;let#[y,p2,t4,my]:=Kd h0 p1 [0,1,2,4] (fc zg<|fc zd<|fc zr<|fc (dC<|.int 4) fg) (λ_ _=>rfl) zc (by decide) ze;let#[c,rfl]:=Hx (show 0<=y by simp at my;lia);have hc:c<=4:=by simp at my;lia
 let#[aO,bx',e2,ps,b,w,q,rfl,rfl,hl,_,_,Zx,ha,_]:=m7 (g:=fe 4) (λi env bb=>∃ ps b w q,env=[xB n,xN nr,xB bx.length,xN b,w] /\ bb=pt (bx++[.lst<|ps.map dP]) n q /\ ps.length=i /\ 0<=b /\ b<=30+60*(i) /\ (∀ x∈ps,0<=x.1 /\ x.1<x.2 /\ x.2<=1000) /\ eO ps=ah /\ ∀ x∈ps,x.2<b) (fM 0 c) 0 [xB n,xN nr,xB bx.length,xN<|r0,ag] (pt (bx++[.lst<|([]).map dP]) n<|p2) #[[],_,_,_,rfl,rfl,rfl,m0,by lia,(λx m=>by cases m),rfl,λx m=>by cases m] (by
  rintro i w env bb hw ⟨ps,b,w',q,rfl,rfl,hl,adV,ak9,Zx,ha,hb⟩;have hi:i<c:=by
   have:=(List.getElem?_eq_some_iff.mp hw).1;simpa[fM] using this
  let#[e,b',q',ee,o1,o2,o3,o4]:=Sf n0 n1 h q b ps za<|ae w;refine#[_,_,_,_,rfl,ee,ps++[(b,e)],b',_,q',rfl,rfl,by simp[hl],by lia,by lia,λx m=>?_,Ce ha hb,λx m=>?_]
  .rcases List.mem_append.mp m with m|m
   .show Zx x m
   .rw[eU.mp m];show#[by change 0<=b;lia,o1,by change e<=1000;lia]
  .rcases List.mem_append.mp m with m|m
   .have:=hb x m;lia
   .rw[eU.mp m];show o3)
 refine#[ps,q,?_,by simp[fM]at hl;lia,Zx,ha];refine(lL (d:=.tup<|ps.map dP) (bx':=pt (bx++[.lst<|ps.map dP]) n q)<|(fv<|cD.l7<|fj (w:=.b bx.length) (bx1:=pt (bx++[.lst []]) n p) (by rw[<-mL h,<-gG (bx:=bx) (n:=n) (p:=p)];show oO [] zc (dM _))<|fj (t0 zc zc) zc).trans<|(fv<|(im (l:=fM 0 c)<|lJ (fj (t4 _ 0 zc) zc) za).trans e2).trans<|fU ?_).trans ?_
 .rw[Lh,fj (w:=.b bx.length) (l:=[]) rfl rfl,fS];have:eW (pt (bx++[.lst<|ps.map dP]) n q) [.b bx.length]=ae [.lst<|ps.map dP]:=by simp[eW,SV<|jv (p:=q) (x:=.lst<|ps.map dP) h,bY,rV]
  rw[this];rfl
 .rw[gG,Bi h]
noncomputable abbrev vb (c:Int) (x:Int×Int):Int×Int:=(x.1+c,x.2+c)
theorem Fl {c:Int}:∀ {ps:Al},eO ps=ah->eO (ps.map<|vb c)=ah
 |[],_=>rfl
 |[p],_=>rfl
 | p::q::r,a=>by
   simp[eO,aI,decide_eq_true_eq]at a;change eO _=ah;have:=Fl (c:=c) a.2;simp[eO,aI,decide_eq_true_eq];show#[by lia,this]
theorem W4 (h:n<bx.length) (p:Int) {op:Al}(ho:op.length<=4) (hl:gs.length<=100):∃ c q,K2.jW [.b n,.d zm,.d zk] (pt bx n p)=.val (.d<|.tup [.tup<|(op.map<|vb c).map dP,.lst<|(gs.map<|sh c).map enc,.int c]) (pt bx n q) /\ 0<=c /\ c<=10 ^ 39:=by
 have sz:=bp;let#[r4,q,t4,k0,k1]:=k6 h p 4 ze ze;let#[y,ey,my]:=lV (l:=[D.int 0,.int 0,.int<|10 ^ 6,.int<|10 ^ 39]) k0 (by change _<(4);show k1);obtain⟨c,rfl,c0,c1⟩:∃ c:Int,y=.int c /\ 0<=c /\ c<=10 ^ 39:=by
  simp[bq,p7,or_false]at my;rcases my with rfl|rfl|rfl|rfl<;>show#[_,rfl,by decide,by decide]
 refine#[c,q,B7 ?_ (by rw[gG,gG];show aE _),c0,c1];rw[show (gs.map _).map enc=gs.map λg=>enc _ by rw[bJ];rfl,bJ];show qS (fw (r:=.old<|.int c) (j9 [.int 0,.int 0,.int<|10 ^ 6,.int<|10 ^ 39] (fj zc<|fj zc<|fj (fw (r:=.old _) zc zc<|No ze)<|fj (fw (r:=.old _) zc zc<|No ze) zc) (show (4)<=sizeLine by lia)) (t4 zc zc) (by erw[aq,ey,rV]))<|qS (iQ (r:=.tup<|op.map λx=>dP<|vb c x) [.lst<|op.map λx=>dP<|vb c x] (fj (gn (gM zc) zc<|(uq (E:=λx=>[xN x.1,xN x.2,xN c]) (J:=λe=>∃ a b,e=[a,b,xN c]) (λ_=>ah) (λx=>dP<|vb c x) (λ_=>#[_,_,rfl]) op [ag,ag,xN c] [] zh #[_,_,rfl] (λx _ env ⟨a,b,e⟩=>by subst e;rfl) λx _=>#[rfl,λ_=>gj [.int<|x.1+c,.int<|x.2+c] (fj (fw (x:=.int x.1) (y:=.int c) (r:=.old<|.int<|x.1+c) zc zc zc)<|fj (fw (x:=.int x.2) (y:=.int c) (r:=.old<|.int<|x.2+c) zc zc zc) zc) zh]).trans (by rw[List.filter_eq_self.mpr λ_ _=>rfl,ng])) zc) zc)<|fU<|gj [.tup<|op.map λx=>dP<|vb c x,.lst<|gs.map λg=>enc<|sh c g,.int c] (fj zc<|fj (Zj (enc:=enc) (r:=[xN c]) _ (gp zc) zc (by lia) λg _=>WS c g _)<|fj zc zc) (show (3:Nat)<=sizeLine by lia)
theorem Jg (s:String):PyData.strOk (Str.ofString s)=ah:=by
 unfold PyData.strOk;rw[Str.ofString_eq_toList];erw[List.all_toArray,vk,cZ];intro c _;have:=c.valid;change decide _=ah;simp[decide_eq_true_eq];rcases this with h|h
 .change c.val.toNat<_;lia
 .change c.val.toNat<_;lia
theorem N8 (t:Option Int):PyData.strOk (toPy<|oI t).shown=ah:=by
 cases t with
 |none=>show Jg "None"
 |some i=>show Jg _
theorem VD (h:PyData.strOk x=ah):eK (.lst [.str x,.str x]) (.lst [.str x,.str x])=ae (.old<|.bl af):=by
 have o:e9 (.lst [.str x,.str x])=ah:=by
  unfold e9;rw[show (toPy _).canLay0=ah by simp[toPy,bI,PyData.canLay0,PyData.canLayAll0,h]];simp[toPy,bI,PyData.depth,PyData.depthAll]
 have v:eqv _ _=ah:=af0 _ (mj o).1;change xM ah _ _=_;unfold xM;rw[o,v];rfl
theorem Sh (x:Str):eK (.str x) (.str x)=ae (.old<|.bl af):=by
 change ae _=_;rw[decide_eq_true rfl];rfl
section
variable {ps op:Al} {N:Nat} {last:Int}
abbrev ltB:aC:=(fu (fE (fm K23.iI 5<|fc (dV 3)<|fc (dV 5)<|fc (dV 8)<|fc (dV 11)<|fc (dV 10) fg)<|fe 12)<|fu (aH (dB<|d2 af eK (fK af [ag,ae 3,ae 5,ae 6,ae 11] (c9<|fc zr fg) (fe 0) fN<|qY<|fm K23.iZ 4<|fc (dV 1)<|fc (dV 2)<|fc (dV 3)<|fc (dV 4) fg)<|d2 af cC (gx af<|fc (qY<|dV 12) fg) zr) (fF<|dC<|.bl af) aL)<|aH (dB<|dG ah<|dV 12) (aH (eJ<|dB<|fm K23.gK 5<|fc (dV 3)<|fc (dV 5)<|fc (dV 6)<|fc (cj (bW (dV 8) "came")<|dV 11)<|fc (dV 12) fg) (fF<|dC<|.bl af) aL) aL)
abbrev wE (x0 x1 x2:Option W) (H:D) (x4:Option W) (O P:D) (x7:Option W) (N:Nat) (x9:Option W) (last:Int) (u7 rG:Option W):aQ:=[x0,x1,x2,ae<|.d H,x4,ae<|.d O,ae<|.d P,x7,ae<|.m<|ml N,x9,ae<|.d<|.int last,u7,rG]
theorem VE (Z:Sc rs ks ps hd rl hold kl op gs qs) (A:La ps qs B N dr) (hp:∀ g∈qs,aN g<=last) (ho:∀ p∈op,p.2<=last) (hb:last<=10 ^ 41) {l:Int}(l0:0<=l) (l9:l<=9) (x0 x1 x2 x4 x7 x9 rG:Option W) :
 ∃ wB,ltB (wE x0 x1 x2 zb x4 zm zk x7 N x9 last (xN l) rG) B=.nx (wE x0 x1 x2 zb x4 zm zk x7 N x9 last (xN l) wB) B:=by
 have sz:=bp;let#[t,e1,bd,n1,S1]:=N7 (l:=l) Z A hp ho;let#[u,e2,n2,S2]:=Fj (bx:=B) Z l0 l9;have eq:u=t:=by
  cases c:pV ps qs l with
  |none=>rw[n1 c,n2 c]
  |some g=>
    let#[h0,k,r,p,w,q,rfl,Y,_]:=Jd Z c;show(S2 h0 k r p w q c Y).uniq (S1 h0 k r p w q c Y)
 subst eq;have cs:vV (oI u)=ah:=by
  cases u with
  |none=>show mK (B:=0) (a:=0) (b:=4) Sm.non ze ze za
  |some i=>
    have:0<=i /\ i<=last+2000:=bd;show mK (B:=10 ^ 42) (a:=0) (b:=1921) (Sm.int za) ze ze za
 let E:=wE x0 x1 x2 zb x4 zm zk x7 N x9 last (xN l)<|ae<|.d<|oI u
 refine#[ae<|.d<|oI u,qS (cV e1)<|qF (fV<|fw (r:=.old<|.bl af) (gn (l:=([0,1].map D.int).map W.d) (lJ (j:=2) zc ze) zc<|(uq (E:=λi:Int=>[xN i,ae<|.d zb,ae<|.d zm,ae<|.d zk,xN l]) (J:=λenv=>∃ a,env=[a,ae<|.d zb,ae<|.d zm,ae<|.d zk,xN l]) (λ_=>ah) (λ_:Int=>D.str (toPy<|oI u).shown) (λ_=>#[_,rfl]) [0,1] _ [] zh #[_,rfl] (λi _ env ⟨a,e⟩=>by subst e;rfl) λi m=>#[rfl,λ_=>CH (cV e2) cs])) (fw (x:=.lst [.str (toPy<|oI u).shown]) (y:=.int 2) (r:=.lst [.str (toPy<|oI u).shown,.str (toPy<|oI u).shown]) (j9 [.str (toPy<|oI u).shown] (fj (CH zc cs) zc) zh) zc<|aiQ (c:=[.str (toPy<|oI u).shown]) (k:=2) ze ze zj)<|VD<|N8 u) ?_];change aH _ _ _ E B=.nx E B;have t2:=fV<|W2 (m:=dV 12) (env:=E) (B:=B) (o:=u) ah zc;cases u with
 |none=>show(gu t2).trans zc
 |some i=>
   cases c:pV ps qs l with
   |none=>show absurd (n1 c) zj
   |some g=>
     let#[h0,k,r,p,w,q,rfl,Y,wz,_]:=Jd Z c;show(ij t2).trans ((gu<|iC<|fV<|fJ (l:=[.d zb,.d zm,.d zk,.d<|enc zp,.d<|.int i]) (fj zc<|fj zc<|fj zc<|fj (lM (e:=enc) (L:=k7 ps [] [] [] qs) (l:=l) (v:=.aF h0 l k r p w) zc (jH zc EK) (lh A.c) (by rw[CW,c]))<|fj zc zc) zc<|VC (B:=B) Z l0 l9 wz Y c<|S1 h0 k r p w q c Y).trans zc)
theorem Si (X:Hk rs ks ps hd rl hold kl):∀ p∈ps,p.1.natAbs<=9 /\ p.2.natAbs<=9:=by
 have h:=X.H.hh;have k4:=X.H.k4;simp[house,aI]at h;let#[_,_,h3,_]:=h;erw[apart,aI]at h3;let#[sN,e,b]:=Nf h3.1;intro p m;have:dP p∈sN.map dP:=by rw[<-e];show rR m
 let#[p',m',e']:=bA.mp this;have ee:p'=p:=by
  cases p;cases p';injection e' with e1;injection e1 with a1 a2;injection a2 with a3 _;injection a1 with a1;injection a3 with a3;show Prod.ext a1 a3
 subst ee;have:=b p' m';have lk:lenOf (.tup ks)=(ks.length):=rfl;lia
theorem W5 (X:Hk rs ks ps hd rl hold kl):Sm (10 ^ 41) 4 4000000 zb:=by
 have it:∀ {i}{a},i.natAbs<=10 ^ 41->Sm _ a 1921 (.int i):=λh=>Sm.int h;have pl:=X.H.l;have r5:=X.H.r5;have k4:=X.H.k4;rw[X.er]at r5;rw[X.ek]at k4;have all:=Sm.tup (ba.cons (Sm.tup (ba.of (a:=2) (l:=rl.map D.int) λd m=>by
  let#[c,mc,rfl]:=bA.mp m;show it (by have:=X.r c mc;lia))) (ba.cons (Sm.tup (ba.of (a:=2) (b:=9625) λd m=>by
  let#[q,mq,rfl]:=bA.mp m;have kq:=X.k q mq;have rr:=ba.of (a:=0) (l:=q.2.map D.int) λd m=>by
   let#[c,mc,rfl]:=bA.mp m;show it (by have:=kq.2.2.2 c mc;lia)
  rw[a5,kq.2.2.1]at rr;show(Sm.tup<|ba.cons (it (i:=q.1) za)<|ba.cons (Sm.tup rr) ba.nil).mono ze ze)) (ba.cons (Sm.tup (ba.of (a:=2) (b:=3849) (l:=ps.map dP) λd m=>by
  let#[p,mp,rfl]:=bA.mp m;have:=(Si X) p mp;show(Sm.tup<|ba.cons (it (a:=0) za)<|ba.cons (it za) ba.nil).mono ze ze))<|ba.cons (it (i:=hold) (by have:=X.h;lia)) ba.nil)))
 rw[X.er,X.ek,X.eh];refine all.mono (aE _) ?_;rw[a5]at r5 k4;rw[a5,a5,a5];lia
end
abbrev aen:DE W:=dN af EE<|fc (d2 af fI (d2 af fI (gx af<|fc (dV 7) fg)<|fK af [ag] (bj<|dV 6) (fe 0) fN<|d2 af aq (dV 0) zg)<|fK af [ag,ag] (bj<|dV 5) (fL 2<|fq (fe 0)<|fq (fe 1) fO) fN<|dV 1) fg
abbrev Zy:DE W:=qY<|fQ<|fc (dV 3)<|fc (dV 5)<|fc (dV 6) fg
abbrev ai0:DE W:=fm aJ.iU 4<|fc (dV 2)<|fc (dV 3)<|fc (dC<|.int 14)<|fc (d2 af aq (gx af<|fc (dC<|.int 8)<|fc (dC<|.int 40) fg)<|fm K1.fr 2<|fc (dV 2)<|fc zr fg) fg
abbrev ai1:DE W:=fm K2.jn 2<|fc (dV 2)<|fc (d2 af aq (gx af<|fc (dC<|.int 9)<|fc (dC<|.int 25) fg)<|fm K1.fr 2<|fc (dV 2)<|fc zr fg) fg
abbrev ai2:DE W:=fm K2.jW 3<|fc (dV 2)<|fc ai1<|fc (dV 4) fg
abbrev Zz:aC:=(fu (fE (fm K1.jV 1<|fc (fm K1.gY 2<|fc (dV 0)<|fc (dV 1) fg) fg)<|fe 2)<|fu (fE (fm aJ.iT 1<|fc (dV 2) fg)<|fe 3)<|fu (fE ai0<|fe 4)<|fu (fE ai2<|fL 3<|fq (fe 5)<|fq (fe 6)<|fq (fe 7) fO)<|fu (eY 8 9<|fc (fm aJ.jp 2<|fc (dV 3)<|fc (dV 6) fg)<|fc Zy fg)<|fu (fE aen<|fe 10)<|fu (iN (c9<|fc (dC<|.int 10) fg) (fe 11) ltB)<|aH (dB<|d2 af eK Zy<|dV 9) (fF<|dC<|.bl af) aL)
theorem VF:M3=(fu (iN (c9<|fc (dN af maxD<|fc zd<|fc (dN af minD<|fc (ub<|dV 0)<|fc (dC<|.int 5) fg) fg) fg) (fe 1) Zz)<|fF<|dC<|.bl ah):=rfl
theorem ai3 (l:List Int) (hl:l.length<=1000) (bx:List Bx) (xs:aQ):∃ c:Nat,c9 (fc (dN af maxD<|fc zd<|fc (dN af minD<|fc (ub<|dV 0)<|fc (dC<|.int 5) fg) fg) fg) (ae (.s l)::xs) bx=.val (fM 0 c) bx:=by
 have e1:ub (dV 0) (ae (.s l)::xs) bx=.val _ bx:=rfl;have e3:=iQ [.int 1,.int<|min _ 5] (g:=maxD) (fj (m:=dC _) zc<|fj (iQ _ (fj e1<|fj (m:=dC _) (ks:=fg) zc zc)<|S9 _ _) (ks:=fg) zc) zc;generalize hz:(if min (l.length:Int) 5>1 then min (l.length:Int) 5 else 1)=z at e3;show#[z.toNat,lJ (fj e3 zc) za]
section
variable {ps op:Al} 
theorem VG {c:Int}(h5:env[5]?=ae (ae<|.d zm)) (h6:env[6]?=ae (ae<|.d zk)) (h7:env[7]?=ae (xN c)) (ol:op.length<=4) (gl:gs.length<=16) :
 aen env B=.val (.d (.int (sR c (gs.map aN++op.map (·.2))))) B:=by
 have sz:=bp;have a1:fK af [ag] (bj<|dV 6) _ fN (d2 af aq (dV 0) _) env B=.val _ B:=
  Zj (λg=>D.int<|aN g) (gp (by rw[oJ,h6])) zc (by lia) λg _=>uu g zc
 have a2:fK af [ag,ag] (bj<|dV 5) (fL 2<|fq (fe 0)<|fq (fe 1) fO) fN (dV 1) env B=.val (.d<|.lst<|op.map λx=>D.int x.2) B:=by
  refine gn (gM (by rw[oJ,h5])) zc ?_;refine(uq (J:=λe=>∃ a b,e=[a,b]) (λ_=>ah) (λx=>D.int x.2) (λ_=>#[_,_,rfl]) op [ag,ag] [] zh #[_,_,rfl] (λx _ env ⟨a,b,e⟩=>by subst e;rfl) λx _=>#[rfl,λ_=>rfl]).trans ?_;rw[List.filter_eq_self.mpr λ_ _=>rfl,ng]
 have b1:d2 af fI (gx af<|fc (dV 7) fg) (fK af [ag] (bj<|dV 6) (fe 0) fN<|d2 af aq (dV 0) zg) env B=.val (.d<|.lst<|[D.int c]++gs.map λg=>D.int<|aN g) B:=
  fw (r:=.lst<|[D.int c]++gs.map λg=>D.int<|aN g) (j9 [.int c] (fj (by rw[oJ,h7]) zc) zh) a1 (if_pos zh)
 have b2:d2 af fI (d2 af fI (gx af<|fc (dV 7) fg)<|fK af [ag] (bj<|dV 6) (fe 0) fN<|d2 af aq (dV 0) zg) (fK af [ag,ag] (bj<|dV 5) (fL 2<|fq (fe 0)<|fq (fe 1) fO) fN<|dV 1) env B=.val (.d (.lst (((c::(gs.map aN++op.map (·.2)))).map D.int))) B:=
  (fw b1 a2<|if_pos zh).trans (by simp[ab7])
 refine iQ (r:=.old (.int (sR c (gs.map aN++op.map (·.2))))) [.lst ((c::(gs.map aN++op.map (·.2))).map D.int)] (fj b2 zc) ?_;change (match intsOf ((c::(gs.map aN++op.map (·.2))).map D.int) with|some (i::ns)=>ae (Res.old<|.int<|sR i ns)|_=>ag)=_;rw[K1.Bf]
end
theorem Aw {l:List α}(h:l.length=n+1):∃ x t,l=x::t /\ t.length=n:=by
 cases l with
 |nil=>cases h
 |cons x t=>show#[x,t,rfl,Nat.succ.inj h]
theorem W6 (l:List Int) (k:Nat) (bx:List Bx) (xs:aQ) (hx:xs.length=11):∃ (ys:aQ) (bx':List Bx),ys.length=12 /\ Zz (ae (.s l)::xN (k:Int)::xs) bx=.nx (ae (.s l)::ys) bx':=by
 iterate 9 (have h:=Aw hx;clear hx;let#[_,xs,rfl,hx]:=h)
 have h:=Aw hx;clear hx;let#[u7,xs,rfl,hx]:=h;have h:=Aw hx;clear hx;let#[rG,xs,rfl,hx]:=h;cases wX hx;have sz:=bp;let#[c,ec]:=U1 l k bx;let#[p,ep]:=WC c bx;obtain⟨A,hn,pA⟩:∃ A:List Bx,bx.length<A.length /\ bx++[Bx.lst [D.int p]]=pt A bx.length p:=
  #[bx++[.lst [.int p]],by simp,by unfold pt;simp]
 rw[pA]at ep;generalize bx.length=n at *;let#[rs,ks,ps,hd,q,eh,H]:=aJ.NG hn p;let#[rl,hold,kl,X]:=W0 H;let#[near,q1,t1,mn]:=Kd hn q [8,40] (fc (dC<|.int 8)<|fc (dC<|.int 40) fg) (λ_ _=>rfl) zc (by decide) ze;have ZA:0<near /\ near<=40:=by simp at mn;lia
 let#[gs,q2,e2,nd,ok,gl]:=NJ (mo:=14) hn H q1 near ZA.1 ZA.2 ze ze;let#[nr,q3,t3,mr]:=Kd hn q2 [9,25] (fc (dC<|.int 9)<|fc (dC<|.int 25) fg) (λ_ _=>rfl) zc (by decide) ze;have aeo:0<nr /\ nr<=30:=by simp at mr;lia
 let#[op,q4,e4,O]:=Sg aeo.1 aeo.2 hn q3;let#[nI,q5,e5,c0,c1]:=W4 hn q4 O.l (gs:=gs) za;have O2:Ot (op.map<|vb nI) (10 ^ 40):=#[by rw[a5];show O.l,λx m=>by
  let#[y,my,rfl]:=bA.mp m;have:=O.b y my;show#[by change 0<=y.1+nI;lia,by change y.1+nI<y.2+nI;lia,by change y.2+nI<=_;lia],Fl O.a]
 have l1:(gs.map<|sh nI).length<=16:=by rw[a5];show gl
 have o1:∀ g∈gs.map (sh nI),Lt rs.length ks.length g:=λg m=>by
  let#[g0,m0,rfl]:=bA.mp m;show WR (ok g0 m0) c0 c1 ZA.2
 have n1:(gs.map<|sh nI).Nodup:=tJ.mpr<|nd.imp λh z=>h<|Vl z;generalize gs.map (sh nI)=g1 at *;generalize op.map (vb nI)=oo at *;let#[qs,pq,ai4,so]:=GW n1 za;have Z:Sc rs ks ps hd rl hold kl oo g1 qs:=#[X,#[λg m=>(o1 g m).1,n1,l1],so g1<|.refl _,pq,ai4,O2.l,λx m=>#[(O2.b x m).1,(O2.b x m).2.1],O2.a];let#[th,go,dr,e6,Q,oq]:=K23.RY H Z.l Z.so;have ai5:La ps qs (Bl (pt A n q5) th (k7 ps [] [] [] qs) go dr (sV ps [] [] qs)<|Ke ps qs) (pt A n q5).length dr:=#[Zo,ad7,oq,Zp];generalize Bl (pt A n q5) th (k7 ps [] [] [] qs) go dr (sV ps [] [] qs) (Ke ps qs)=B at *;generalize (pt A n q5).length=N at *;have ai6:vV (.tup [hs rs ks ps hd,.tup<|oo.map dP,.lst<|g1.map enc])=ah:=by
  have a:=W5 X;have b:=ba.of (B:=10 ^ 41) (a:=1) (b:=3849) (l:=oo.map dP) λd m=>by
   let#[x,mx,rfl]:=bA.mp m;have:=O2.b x mx;show(Sm.tup<|ba.cons (Sm.int za)<|ba.cons (Sm.int za) ba.nil)
  have cc:=ba.of (B:=10 ^ 41) (a:=1) (b:=14000) (l:=g1.map enc) λd m=>by
   let#[g,mg,rfl]:=bA.mp m;show RM ze H.r5 H.k4 (o1 g mg).1<|cx (o1 g mg).2 ze
  rw[a5]at b cc;have ol:=O2.l;refine mK (Sm.tup<|ba.cons a<|ba.cons ((Sm.tup b).mono (show _<=4 by decide)<|aE _)<|ba.cons ((Sm.lst cc).mono (show _<=4 by decide)<|aE _) ba.nil) ze ze za
 have rp:∀ (env:aQ) (C:List Bx),fc (dV 3) (fc (dV 5)<|fc (dV 6) fg) env C=.val ([hs rs ks ps hd,.tup<|oo.map dP,.lst<|g1.map enc].map W.d) C->Zy env C=.val (.d<|.str (toPy<|.tup [hs rs ks ps hd,.tup<|oo.map dP,.lst<|g1.map enc]).shown) C:=λenv C e=>CH (gj [hs rs ks ps hd,.tup<|oo.map dP,.lst<|g1.map enc] e zh) ai6;generalize (toPy<|.tup [hs rs ks ps hd,.tup<|oo.map dP,.lst<|g1.map enc]).shown=kept at *;have lv:=λ(env:aQ) h5 h6 h7=>VG (B:=B) (env:=env) (op:=oo) (gs:=g1) (c:=nI) h5 h6 h7 O2.l l1;let#[m1,m2]:=FQ (g1.map aN++oo.map (·.2)) nI;generalize sR nI (g1.map aN++oo.map (·.2))=last at *;have lb:last<=10 ^ 41:=by
  rcases bq.mp m1 with rfl|m1
  .lia
  .rcases List.mem_append.mp m1 with m1|m1
   .let#[g,mg,rfl]:=bA.mp m1;have:=(o1 g mg).2;lia
   .let#[x,mx,rfl]:=bA.mp m1;have:=(O2.b x mx).2.2;lia
 have hp:∀ g∈qs,aN g<=last:=λg m=>m2 _<|bu _<|pY _<|rR<|pq.mem_iff.mp m;have ho:∀ p∈oo,p.2<=last:=λp m=>m2 _ (bu _ (eG _ (rR (f:=(·.2)) m)))
 let E:=λu7 rG=>wE (ae<|.s l) (xN (k:Int)) (xB n) zb (ae<|.d zk) (.tup<|oo.map dP) (.lst<|g1.map enc) (xN nI) N (ae<|.d<|.str kept) last u7 rG
 let#[aO,b',e,ZC,wB,rfl,rfl]:=m7 (g:=fe 11) (body:=ltB) (λ_ env b=>∃ ZC wB,env=E ZC wB /\ b=B) (fM 0 10) 0 (E u7 rG) B #[u7,rG,rfl,rfl] (by
  rintro i w env b hw ⟨ZC,wB,rfl,rfl⟩;let#[rfl,hi]:=Bj hw;let#[ai7,e]:=VE (l:=0+(i:Int)) Z ai5 hp ho lb za za (ae<|.s l) (xN (k:Int)) (xB n) (ae<|.d zk) (xN nI) (ae<|.d<|.str kept) wB;show#[E (xN<|0+(i:Int)) wB,_,_,_,rfl,e,_,ai7,rfl,rfl])
 refine#[_,_,?_,qS (fJ (fj (fJ (fj zc<|fj zc zc) zc ec) zc) zc ep)<|qS (fJ (fj zc zc) zc eh)<|qS (fJ (l:=[.b n,.d zb,.d<|.int 14,.d<|.int near]) (fj zc<|fj zc<|fj zc<|fj (t1 _ 2 zc) zc) zc e2)<|qG (fJ (l:=[.b n,.d zm,.d zk]) (fj zc<|fj (fJ (l:=[.b n,.d<|.int nr]) (fj zc<|fj (t3 _ 2 zc) zc) zc e4)<|fj zc zc) zc e5) zc<|(fv<|cD.l7<|fj (fJ (l:=[.d zb,.d<|.lst<|g1.map enc]) zc zc e6)<|fj (rp _ _ zc) zc).trans<|qS (lv _ zc zc zc)<|(fv<|(im<|aJ.Yt 10 ze _ _).trans e).trans<|(gu<|fV<|fw (x:=.str kept) (y:=.str kept) (r:=.old<|.bl af) (rp _ _ zc) zc<|Sh kept).trans zc];rfl
theorem law_true (l:List Int) (hl:l.length<=1000):∃ bx',Cz [.s l] []=.val (.d<|.bl ah) bx':=by
 let#[c,ec]:=ai3 l hl [] _;let#[aO,bx',e,ys,rfl,hy]:=m7 (g:=fe 1) (body:=Zz) (λ_ env b=>∃ ys:aQ,env=ae _::ys /\ ys.length=12) (fM 0 c) 0 (ae _::List.replicate 12 ag) [] #[_,rfl,rfl] (by
  rintro i w env b hw ⟨ys,rfl,hy⟩;let#[k,_,rfl]:=bA.mp<|pD hw;let#[x,ys,rfl,h]:=Aw hy;let#[zs,bx',hz,e]:=W6 l k b ys h;show#[ae _::ae _::ys,b,_,_,by rw[abD];rfl,e,zs,rfl,hz])
 refine#[_,lL (bx':=bx') ?_];change M3 _ []=_;rw[VF];show(fv<|(im ec).trans e).trans (fU zc)
end K23
namespace L2.DL
open PySem.W
structure Cf where
 N:List Str
 nm:List (Str×NameKind)
 f:Bool
 bx:List Str
 dc:List Str
 wk:List (Str×Nat)   -- 1: a tuple of ala,2: a box that is walked,3: a dict with tuple keys
 Kl:Str
 fs:List (Str×(Nat×(List W->List Bx->O W)))
 gl:List (Str×Int)
 bl:List Str
 rb:Bool
 ow:List Str
structure cE (c:Cf) (k:Nat) (X:Cx) (Z:Xs):zt where
 N:X.N=c.N
 nm:X.env.scope.names=c.nm
 kd:X.env.scope.kind=.function
 calm:X.calm=ah
 fn:c.f=ah->∀ x,X.fn x=ah
 ow:∀ x,x∈c.ow->X.fn x=ah
 nd:c.N.Nodup
 room:c8 k X.A
 fs:∀ x n fn,c.fs.lookup x=ae (n,fn)->∃ kk ps,rh X.prog X.w X.K X.mg X.base Z.cl kk x ps fn /\ ps.length=n /\ kk<=k
 gl:∀ x v,c.gl.lookup x=ae v->∃ t,X.mg x=ae (.int v t)
 bl:∀ x,x∈c.bl->X.mg x=ag
 ai8:Passes (qk X.prog X.w) X Z.E
 ti:pM X.K "int"
 tb:pM X.K "bool"
 tt:pM X.K "tuple"
 tl:pM X.K "list"
 own:PassesOwn zf X.A X.env X.xe
noncomputable def aX:DE α:=λ_ _=>.bad
section
variable {o:Option au}
theorem fG:PD X T Z e aX:=λ_ _ _ _ _ _ h=>by
 let#[_,_,_,_,_,h]:=h;show h.elim
theorem ip:eC X T Z e aX:=λ_ _ _ _ _ _ h=>by
 let#[_,_,_,_,_,h]:=h;show h.elim
theorem Jh:sD X T Z e aX:=λ_ _ _ _ _ _ _ h=>by
 let#[_,_,_,_,_,h]:=h;show h.elim
theorem Sj:dF X T Z es aX:=λ_ _ _ _ _ _ _ h=>by
 let#[_,_,_,_,_,h]:=h;show h.elim
theorem CY:tX X T Z tg e aX:=λ_ _ _ _ _ _ h=>by
 let#[_,_,_,_,_,h]:=h;show h.elim
noncomputable def wC:DG:=λ_ _ _=>ag
noncomputable def aep:nV:=λ_ _ _=>ag
theorem lY:kF X T e wC:=λ_ _ _ _ _ _ _ _ _ h=>by
 let#[_,_,_,_,_,_,_,h]:=h;show h.elim
theorem N9:tW X T es aep:=λ_ _ _ _ _ _ _ _ _ h=>by
 let#[_,_,_,_,_,_,_,h]:=h;show h.elim
end
noncomputable def Cf.kd (c:Cf) (x:Str) (n:Nat):Bool:=match c.wk.lookup x with|some k=>k==n|none=>af
def Km (c:Cf) (n:Nat):au->Bool
 |.Name x _=>c.kd x n
 |.Subscript _ (.Constant (.str x) _ _) _=>c.kd x n
 |_=>af
noncomputable def wD (c:Cf):au->Bool
 |.Name x _=>c.dc.contains x
 |.Subscript _ (.Constant (.str x) _ _) _=>c.dc.contains x
 |.Call (.Name x _) _ _ _=>c.dc.contains x
 |_=>af
noncomputable def Cf.ix (c:Cf) (x:Str):Option Nat:=c.N.findIdx? λy=>decide (y=x)
theorem Cf.ZD {c:Cf}{i:Nat}(h:c.ix x=ae i):c.N[i]?=ae x:=by
 let#[h1,h2,_]:=List.findIdx?_eq_some_iff_getElem.mp h;rw[cY h1,of_decide_eq_true h2]
noncomputable def Cf.Kn (c:Cf) (x:Str):Bool:=(decide (c.nm.lookup x=ae .local)||decide (c.nm.lookup x=ae .cell)||decide (c.nm.lookup x=ae .free))&&!(x==("__debug__":Str))&&!(x==("__classdict__":Str))
noncomputable def Cf.ET (c:Cf) (x:Str):Bool:=decide (c.nm.lookup x=ae .globalImplicit)&&!(x==("__debug__":Str))&&decide (x≠("__name__":Str))
noncomputable def Cf.wF (c:Cf) (x:Str):Bool:=(decide (c.nm.lookup x=ae .local)||decide (c.nm.lookup x=ae .cell))&&(c.f||decide (x∈c.ow)||decide (c.nm.lookup x=ae .local))
def Cf.nJ (c:Cf) (x:Str):Bool:=c.ET x&&decide (x∈c.bl)
section
variable {c:Cf} {k:Nat} {i:Nat} 
theorem cE.HJ (O:cE c k X Z) (h:c.Kn x=ah):vq X.env.scope x /\ (x==("__debug__":Str))=af /\ (x==("__classdict__":Str))=af:=by
 erw[Cf.Kn,aI,wO,decide_eq_true_eq,tj]at h;unfold vq;rw[O.nm];show#[or_assoc.mp h.1.1,h.1.2,h.2]
theorem cE.gb (O:cE c k X Z) (h:c.ET x=ah):Gl X x /\ (x==("__debug__":Str))=af /\ x≠("__name__":Str):=by
 erw[Cf.ET,aI,decide_eq_true_eq,tj]at h;unfold Gl Env.kindOf;rw[O.nm];show#[h.1.1,h.1.2,h.2]
theorem cE.lo (O:cE c k X Z) (h:c.wF x=ah):Loc X.env.scope x /\ (X.fn x=ah \/ X.env.scope.names.lookup x=ae .local):=by
 simp[Cf.wF,aI,wO,decide_eq_true_eq]at h;unfold Loc;rw[O.nm];show#[h.1,h.2.imp (λz=>z.elim (λz=>O.fn z x)<|O.ow x) id]
theorem cE.blt (O:cE c k X Z) (h:c.nJ x=ah):Gl X x /\ (x==("__debug__":Str))=af /\ x≠("__name__":Str) /\ X.mg x=ag:=by
 simp[Cf.nJ,aI,decide_eq_true_eq]at h;let#[a,b,d]:=O.gb h.1;show#[a,b,d,O.bl x h.2]
theorem cE.at (O:cE c k X Z) (h:c.ix x=ae i):X.N[i]?=ae x:=by rw[O.N];show c.ZD h
theorem cE.vc (O:cE c k X Z):X.N.Nodup:=by rw[O.N];show O.nd
theorem cE.u0 (O:cE c k X Z):X.A.units+100<cLine:=by have:=O.room.un;lia
theorem cE.u1 (O:cE c k X Z):X.A.units+1<cLine:=by have:=O.room.un;lia
def ZE (c:Cf) (fz:Bool) (x:Str):DE W:=match c.ix x with
 |some i=>if c.Kn x then (if fz&&c.bx.contains x then sI i else dV i) else aX
 | none=>match c.gl.lookup x with
   |some v=>if c.ET x then dC (.int v) else aX
   |none=>aX
theorem Oa (O:cE c k X Z) (fz:Bool):PD X T Z (.Name x pos) (ZE c fz x):=by
 unfold ZE;split
 .ext i e;split
  .ext h;let#[a,b,d]:=O.HJ h;split
   .show Uo i (O.at e) a b d
   .show L5 i (O.at e) a b d
  .show fG
 .split
  .ext v e;split
   .ext h;let#[a,b,_]:=O.gb h;show Pn a (O.gl x v e) b
   .show fG
  .show fG
end
section
variable {c:Cf} {k:Nat} {f:au -> DE W} {t:au -> DE Bool} {g:au -> DG}
def wG (f:au->DE W):List au->DE (List W)
 |[]=>fg
 |e::es=>if bO e then fc (f e) (wG f es) else aX
theorem oX (h:∀ e,PD X T Z e<|f e):∀ es,dF X T Z es (wG f es)
 |[]=>jM
 | e::es=>by
   unfold wG;split
   .ext n;show l5 (h e) (oX h es) n
   .show Sj
def ZF (f:au->DE W):List au->DE W
 |[]=>aX
 |[a]=>f a
 |a::r=>gz (f a)<|ZF f r
theorem Ji (h:∀ e,PD X T Z e<|f e):∀ es,PD X T Z (.BoolOp .And es pos) (ZF f es)
 |[]=>fG
 |[a]=>Mb<|h a
 |a::b::r=>T4 (h a)<|Ji h _
def ZG (f:au->DE W):List au->DE W
 |[]=>aX
 |[a]=>f a
 |a::r=>vR (f a)<|ZG f r
theorem Ob (h:∀ e,PD X T Z e<|f e):∀ es,PD X T Z (.BoolOp .Or es pos) (ZG f es)
 |[]=>fG
 |[a]=>Mb<|h a
 |a::b::r=>Wb (h a)<|Ob h _
def ZH (f:au->DE Bool):List au->DE Bool
 |[]=>aX
 |[a]=>f a
 |a::r=>nv (f a)<|ZH f r
theorem Fm (h:∀ e,eC X T Z e<|t e):∀ es,sD X T Z (.BoolOp .And es pos) (ZH t es)
 |[]=>Jh
 |[a]=>Ma<|h a
 |a::b::r=>OP (h a)<|Fm h _
def ZI (f:au->DE Bool):List au->DE Bool
 |[]=>aX
 |[a]=>f a
 |a::r=>kU (f a)<|ZI f r
theorem Jj (h:∀ e,eC X T Z e<|t e):∀ es,sD X T Z (.BoolOp .Or es pos) (ZI t es)
 |[]=>Jh
 |[a]=>ON<|h a
 |a::b::r=>T3 (h a)<|Jj h _
def Ko (g:au->DG):List au->nV
 |[]=>fO
 |e::es=>if bO e then fq (g e) (Ko g es) else aep
theorem Oc (h:∀ e,kF X T e<|g e):∀ es,tW X T es (Ko g es)
 |[]=>Mh
 | e::es=>by
   unfold Ko;split
   .ext n;show Uy (h e) (Oc h es) n
   .show N9
end
def aeq:Operator->Option (D->D->Option Res)
 |.Add=>ae fI|.Sub=>ae bR|.Mult=>ae cC|.FloorDiv=>ae kh|.Mod=>ae nY|.Pow=>ae uQ
 |_=>ag
def vd:CmpOp->Option (D->D->Option Res)
 |.Eq=>ae aY|.NotEq=>ae eK|.Lt=>ae cT|.LtE=>ae dq|.Gt=>ae eZ|.GtE=>ae ny|.In=>ae (inD af)|.NotIn=>ae<|inD ah
 |_=>ag
theorem Sk {op:Operator}(h:aeq op=ae g):∃ q,bc X (binaryOp op) q /\ cz q g:=by
 cases op<;>cases h
 .show#[_,O6,ahc]
 .show#[_,Tz,ahd]
 .show#[_,Pi,ahF]
 .show#[_,TC,ahf]
 .show#[_,TD,ahg]
 .show#[_,Oy,ahe]
theorem lZ (hu:X.A.units+100<cLine) (h:vd op=ae g):∃ q,bc X (compareOp op) q /\ cz q g:=by
 cases op<;>cases h
 .show#[_,Uk hu,ahD]
 .show#[_,Ul hu,ahE]
 .show#[_,UL za,aiA]
 .show#[_,Um za,ahG]
 .show#[_,V6,ahh]
 .show#[_,V7,ahi]
 .show#[_,Jx.or<|Uz hu,okIn af]
 .show#[_,Co.or<|JY hu,okIn ah]
def ZJ:List (Str×(Bool×(String×(List D->Option Res)))):=
 [("len",af, "len",cM),("all",af, "all",dj),("any",af, "any",Ey),("sorted",af, "sorted",dX),("max",af, "max",maxD),("min",af, "min",minD),
  ("tuple",ah, "tuple",tZ),("list",ah, "list",xG),("int",ah, "int",intD)]
def ai9 (X:Cx) (x:Str) (p:Bool×(String×(List D->Option Res))):zt:=
 match p with
 |(af,id,g)=>bootBuiltins x=ae (.builtin id) /\ ∃ q,dQ X (.builtin id) q /\ eX q g
 |(ah,id,g)=>bootBuiltins x=ae (.type id) /\ ∃ q,dQ X (.type id) q /\ eX q g
theorem jh {α:Type}{P:Str->α->zt}:∀ {l:List (Str×α)}{x:Str}{a:α},(∀ p∈l,P p.1 p.2)->l.lookup x=ae a->P x a
 |[],_,_,_,e=>by cases e
 | (y,b)::r,x,a,h,e=>by
   rw[ku]at e;cases hx:x==y with
   |true=>
     rw[hx]at e;cases e;have:x=y:=by simpa using hx
     subst this;show h _<|bC ..
   |false=>
     rw[hx]at e;show jh (λp m=>h p<|bu _ m) e
theorem Sl (hc:X.calm=ah) (hu:X.A.units+100<cLine) {p:Bool×(String×(List D->Option Res))}(h:ZJ.lookup x=ae p):ai9 X x p:=by
 refine jh (λp m=>?_) h;simp[ZJ,bq,p7,or_false]at m;rcases m with rfl|rfl|rfl|rfl|rfl|rfl|rfl|rfl|rfl
 .show#[rfl,_,mQ,ahk]
 .show#[rfl,_,JI hc,ahn]
 .show#[rfl,_,JZ hc,ah7]
 .show#[rfl,_,FH hu,ah1]
 .show#[rfl,_,Jq hc,ahq]
 .show#[rfl,_,Jr hc,ahr]
 .show#[rfl,_,BA,aho]
 .show#[rfl,_,Cp,ahp]
 .show#[rfl,_,Js,ah4]
noncomputable def ZK:List (Str×String):=[("int","int"),("bool","bool"),("tuple","tuple"),("list","list")]
theorem Od {c:Cf}{k:Nat}(O:cE c k X Z) {n:String}(h:ZK.lookup x=ae n):pM X.K n /\ bootBuiltins x=ae (.type n):=by
 refine jh (P:=λx n=>pM X.K n /\ bootBuiltins x=ae (.type n)) (λp m=>?_) h;simp[ZK,bq,p7,or_false]at m;rcases m with rfl|rfl|rfl|rfl
 .show#[O.ti,rfl]
 .show#[O.tb,rfl]
 .show#[O.tt,rfl]
 .show#[O.tl,rfl]
end L2.DL
variable {c:L2.DL.Cf}
namespace L2.DL
open PySem.W
noncomputable def ZL:au->Bool
 |.Call ..=>af
 |_=>ah
theorem jw {o:au}{a:Str}{env:Env}{whole:Sem ai}(h:ZL o=ah):attributeBase o a env whole=whole:=by
 cases o<;>first|rfl|cases h
noncomputable def plainT:au->Bool
 |.BoolOp ..|.UnaryOp ..|.IfExp ..|.Compare ..=>af
 |_=>ah
theorem Ly {env:Env}(h:plainT e=ah) (whole:Sem ai):PySem.isTrue e env whole=(do let v <-whole;standAt e.pos;holding [v] (truthy v)):=by
 cases e<;>first|rfl|cases h
noncomputable def Kq:au->Bool
 |.Set ..=>af
 |_=>ah
theorem jI {env:Env}(h:Kq e=ah) (x:ai):foldedSetIterable e env x=pure x:=by
 cases e<;>first|rfl|cases h
noncomputable def nH:au->Bool
 |.ListComp ..|.SetComp ..|.DictComp ..=>ah
 |_=>af
theorem lP {t:Option au}{l:Nat}{env:Env}(h:nH e=af):swapsWith e t l env=pure af:=by
 cases e<;>first|rfl|cases h
noncomputable def EU:au->Bool
 |.Slice ..=>af
 |_=>ah
section
variable {a b o:au} {mc:DE W} {p:aM}
theorem By (h:EU b=ah):HX b:=λ_ _=>by
 cases b<;>first|rfl|cases h
theorem Sn (h:EU b=ah):Iv b:=λ_ _=>by
 cases b<;>first|rfl|cases h
theorem EV {env:Env}(h:bO e=ah):((backTo pos<|starEach [e] env).all (λx=>!x.1)&&(backToKw pos<|keywordEach [] env).all (λx=>x.1.isSome)&&decide ([e].length+([]:List Keyword).length+(if ([]:List Keyword).isEmpty then 0 else 1)<30))=ah:=by
 rw[fH h];rfl
theorem W7 {Q:VK}(h:tD T Z (dG af ma) σ H Q):acn (tD T Z ma) σ H Q:=by
 let#[F,r,env,bx,R,h]:=h;refine#[F,r,env,bx,R,End.bind h λx bx1 F1 r1 v H1 g1 R1 d1 h1=>?_];cases x with
 |d d=>
   rw[Ap<|d1];cases d<;>show h1 F1 r1 _ H1 (.refl F1 r1) R1 zc
 |_=>show h1.elim
theorem VH {Q:VK}(h:tD T Z (dG ah ma) σ H Q):aco (tD T Z ma) σ H Q:=by
 let#[F,r,env,bx,R,h]:=h;refine#[F,r,env,bx,R,End.bind h λx bx1 F1 r1 v H1 g1 R1 d1 h1=>?_];cases x with
 |d d=>
   rw[Ap<|d1];cases d<;>show h1 F1 r1 _ H1 (.refl F1 r1) R1 zc
 |_=>show h1.elim
theorem So (hu:X.A.units+1<cLine) (hi:PD X T Z e mb) (ho:PD X T Z o ma) (hm:behindInMarks .In o=af):eC X T Z (.Compare e [.In] [o] pos) (dB<|dz af mb ma):=
 PT.imp (Cg (Fy hu hi ho) hm) λσ H Q h=>Dp<|L8 h
theorem Oe (hu:X.A.units+1<cLine) (hi:PD X T Z e mb) (ho:PD X T Z o ma) (hm:behindInMarks .NotIn o=af):eC X T Z (.Compare e [.NotIn] [o] pos) (dB<|dz ah mb ma):=
 PT.imp (Cg (BU hu hi ho) hm) λσ H Q h=>MF<|L8 h
end
section
variable {k:Nat} {p:aM} {f:au -> DE W} {o:au}
def EW (c:Cf) (f:au->DE W) (bo:Bool) (x:Str) (es:List au):DE W:=
 match c.fs.lookup x with
 | some (n,fn)=>(match es with
   |[]=>aX
   |e::es=>if c.ET x&&nE (e::es) then fm fn n (wG f (e::es)) else aX)
 | none=>match ZJ.lookup x with
   | some (_,_,g)=>(match es with
     |[]=>aX
     |e::es=>if c.nJ x&&nE (e::es) then dN bo g (wG f (e::es)) else aX)
   |none=>aX
theorem CZ (O:cE c k X Z) (h:∀ e,PD X T Z e<|f e) (bo:Bool) (es:List au):PD X T Z (.Call (.Name x p) es [] pos) (EW c f bo x es):=by
 unfold EW;split
 .ext n fn e;split
  .show fG
  .split
   .ext a as q;rw[aI]at q;let#[g1,g2,_]:=O.gb q.1;let#[kk,ps,hh,hn,hk]:=O.fs x n fn e;show Wo hh O.room hk g1 O.ai8 (oX h _) q.2 hn g2
   .show fG
 .split
  .ext ty id g e;split
   .show fG
   .split
    .ext a as q;rw[aI]at q;let#[g1,g2,g3,g4]:=O.blt q.1;have b:=Sl O.calm O.u0 e;cases ty with
     |false=>
       let#[b1,qq,b2,b3]:=b;show SL bo b2 b3 g1 g4 b1 (oX h _) q.2 g3 g2
     |true=>
       let#[b1,qq,b2,b3]:=b;show Ux bo b2 b3 g1 g4 b1 (oX h _) q.2 g3 g2
    .show fG
  .show fG
noncomputable def ZM (c:Cf):au->Bool
 |.Name x _=>decide (x=c.Kl)
 |_=>af
def ZN (c:Cf) (f:au->DE W) (bo:Bool) (x:Str) (es:List au):DE W:=
 if x="isinstance" then (match es with
  | [a,.Name t _]=>(match ZK.lookup t with
    |some n=>if c.nJ "isinstance"&&c.nJ t&&bO a then ly n (f a) else aX
    |none=>aX)
  |_=>aX)
 else if x="repr" then (match es with
  |[a]=>if c.nJ "repr"&&bO a then qY (f a) else aX
  |_=>aX)
 else match es with
  |[.Call (.Name y _) [a] [] _]=>if x="sorted" /\ y="set" then (if c.nJ "sorted"&&c.nJ "set"&&bO a then dN bo wb (fc (f a) fg) else aX) else EW c f bo x es
  | [a]=>if x="max" then (if c.nJ "max"&&bO a then dN bo EE (fc (f a) fg) else aX)
    else if x="len" /\ ZM c a=ah then (if c.nJ "len"&&bO a then ub (f a) else aX)
    else if x="list" /\ Km c 3 a=ah then (if c.nJ "list"&&bO a then EC bo (f a) else aX) else if x="dict" then (if c.nJ "dict"&&bO a then wg bo (f a) else aX) else EW c f bo x es
  |_=>EW c f bo x es
theorem Of (O:cE c k X Z) (h:∀ e,PD X T Z e<|f e) (bo:Bool) (es:List au):PD X T Z (.Call (.Name x p) es [] pos) (ZN c f bo x es):=by
 unfold ZN;split
 .ext hx;subst hx;split
  .ext a t tp;split
   .ext n e;split
    .ext q;simp[aI]at q;let#[g1,g2,g3,g4]:=O.blt q.1.1;let#[j1,j2,j3,j4]:=O.blt q.1.2;let#[y1,y2]:=Od O e;show Wp y1 g1 g4 j1 j4 y2 (h a) q.2 j3 j2
    .show fG
   .show fG
  .show fG
 .split
  .ext hx;subst hx;split
   .ext a;split
    .ext q;rw[aI]at q;let#[g1,g2,g3,g4]:=O.blt q.1;show Ph O.room g1 g4 (h a)<|fH q.2 _ _
    .show fG
   .show fG
  .split
   .ext y q1 a q2;split
    .ext hx;let#[rfl,rfl]:=hx;split
     .ext q;simp[aI]at q;let#[g1,g2,g3,g4]:=O.blt q.1.1;let#[j1,j2,j3,j4]:=O.blt q.1.2;show FO bo O.calm g1 g4 j1 j4 (l5 (h a) jM q.2) q.2
     .show fG
    .show CZ O h bo _
   .rename_i a _;split
    .ext hx;subst hx;split
     .ext q;rw[aI]at q;let#[g1,g2,g3,g4]:=O.blt q.1;show SL bo (Lc O.calm) aiC g1 g4 (rfl) (l5 (h a) jM q.2) (by simp[nE,q.2]) g3 g2
     .show fG
    split
    .ext hx;let#[rfl,_]:=hx;split
     .ext q;rw[aI]at q;let#[g1,g2,g3,g4]:=O.blt q.1;show Pk g1 g4 (h a)<|fH q.2 _ _
     .show fG
    .split
     .ext hx;let#[rfl,_]:=hx;split
      .ext q;rw[aI]at q;let#[g1,g2,g3,g4]:=O.blt q.1;show MX bo O.calm g1 g4 (h a) q.2
      .show fG
     .split
      .ext hx;subst hx;split
       .ext q;rw[aI]at q;let#[g1,g2,g3,g4]:=O.blt q.1;show J7 bo g1 g4 (h a) q.2
       .show fG
      .show CZ O h bo _
   .show CZ O h bo _
def ZO (dd:Bool) (f:au->DE W) (o:au) (m:Str) (es:List au):DE W:=match es with
 |[e]=>if bO e then (if dd then (if m="get" then uW (f o) (f e) else if m="pop" then xY (f o) (f e) else aX) else if m="extend" then rz (f o) (f e) else if m="append" then kG (f o) (f e) else if m="pop" then wa (f o) (f e) else aX) else aX
 |_=>aX
theorem Sq (hu:X.A.units+1<cLine) (dd:Bool) (h:∀ e,PD X T Z e<|f e) {m:Str}(es:List au) (hb:ZL o=ah) (hl:(apos.endLine==pos.line)=ah):PD X T Z (.Call (.Attribute o m apos) es [] pos) (ZO dd f o m es):=by
 unfold ZO;split
 .ext e;split
  .ext n;split
   .split
    .ext z;subst z;show MR hu (h o) (h e) #[jw hb,EV n,hl,by rw[fH n];rfl]
    .split
     .ext z;subst z;show PP (h o) (h e) #[jw hb,EV n,hl,by rw[fH n];rfl]
     .show fG
   .split
    .ext z;subst z;show J2 (h o) (h e) (jw hb) (EV n) hl<|fH n _ _
    .split
     .ext z;subst z;show JP (h o) (h e) (jw hb) (EV n) hl<|fH n _ _
     .split
      .ext z;subst z;show MD (h o) (h e) n (jw hb) (EV n) hl
      .show fG
  .show fG
 .show fG
end
noncomputable def ZP (on names:List<|Str×NameKind):List (Str×NameKind):=names.map λ(n,k)=>if k==NameKind.free&&on.lookup n==ae .cell then (n,NameKind.cell) else (n,k)
noncomputable def Kr:Nat->au->List Str
 |_,.Name x _=>[x]
 |n+1,.Tuple es _ _=>es.flatMap<|Kr n
 |_,_=>[]
def Cf.cN (c:Cf) (tg:au) (sc:bT):List Str:=Kr 4 tg++c.N.filter λx=>decide (sc.names.lookup x=ae .free)
def Cf.src (c:Cf) (tg:au) (sc:bT):List (Option Nat):=(Kr 4 tg).map (λ_=>ag)++(c.N.filter λx=>decide (sc.names.lookup x=ae .free)).map c.ix
def Cf.inner (c:Cf) (tg:au) (sc:bT):Cf:={ c with N:=c.cN tg sc,nm:=ZP c.nm sc.names,f:=af,bx:=[],ow:=(Kr 4 tg).filter λx=>decide (sc.names.lookup x=ae .cell) }
def Cf.Ks (c:Cf) (tg:au) (sc:bT):Bool:=Y3 c.N { kind:=.function,names:=c.nm,isGenerator:=af,isCoroutine:=af } sc (c.cN tg sc) (c.src tg sc)&&decide (c.cN tg sc).Nodup
section
variable {k:Nat} {sc:bT}
theorem cE.inner (O:cE c k X Z) (h:c.Ks tg sc=ah):sx X (c.cN tg sc) (c.src tg sc) sc /\ ∀ cl s H C fp,cE (c.inner tg sc) k (X.comp (c.cN tg sc) sc cl s H C fp) #[E0,Z.cl]:=by
 unfold Cf.Ks at h;rw[aI,decide_eq_true_eq]at h;have S:=FD (λx=>by unfold Env.kindOf;rw[O.nm]) O.N h.1;refine#[S,λcl s H C fp=>#[rfl,?_,S.kind,O.calm,λz=>(by cases z),λx m=>(rS.mp m).2,h.2,O.room,O.fs,O.gl,O.bl,Gu,O.ti,O.tb,O.tt,O.tl,PassesOwn.never]];change (relabel sc X.env).names=ZP c.nm sc.names;unfold relabel ZP Env.kindOf;rw[O.kd,O.nm];simp
end
structure Cm where
 e:Cf->Bool->Bool->au->DE W
 t:Cf->au->DE Bool
 g:Cf->au->DG
 s:Cf->b9->aC
structure Good (m:Cm):zt where
 e:∀ {c:Cf}{k:Nat}{X:Cx}{Z:Xs},cE c k X Z->∀ {T:Fr}(bo fz:Bool) (e:au),PD X T Z e (m.e c bo fz e)
 t:∀ {c:Cf}{k:Nat}{X:Cx}{Z:Xs},cE c k X Z->∀ {T:Fr}(e:au),eC X T Z e (m.t c e)
 g:∀ {c:Cf}{k:Nat}{X:Cx}{Z:Xs},cE c k X Z->∀ {T:Fr}(e:au),kF X T e (m.g c e)
 s:∀ {c:Cf}{k:Nat}{X:Cx}{Z:Xs},cE c k X Z->∀ {T:Fr}(st:b9),cL X T Z st (m.s c st)
section
variable (m:Cm) (c:Cf)
def cI (tg it:au):DE (List W):=match it with
 |.Call (.Name x _) [a] [] _=>
   if x="range" then (if c.nJ "range"&&bO a then c9 (fc (m.e c af af a) fg) else aX)
   else bj (m.e c af ah it)
 |.Call (.Name x _) [a,b] [] _=>
   if x="range" then (if c.nJ "range"&&bO a&&bO b then qQ (fc (m.e c af af a)<|fc (m.e c af af b) fg) else aX)
   else if x="zip" then (if c.nJ "zip"&&bO a&&bO b then uc (fc (m.e c af af a)<|fc (m.e c af af b) fg) else aX)
   else bj (m.e c af ah it)
 |_=>bj<|m.e c af ah it
def cF (ifs:List au):DE Bool:=match ifs with
 |[]=>fN
 |[t]=>m.t c t
 |_=>aX
def Kt (e:au):Option Nat:=match e with
 |.Name x _=>if c.dc.contains x&&c.Kn x then c.ix x else ag
 |_=>ag
def ZQ (bo:Bool) (elt tg it:au) (ifs:List au) (sc:bT):DE W:=
 if c.Ks tg sc&&Kq it then fK bo (c.src tg sc) (cI m c tg it) (m.g (c.inner tg sc) tg) (cF m (c.inner tg sc) ifs) (m.e (c.inner tg sc) af af elt) else aX
def cO (o:Option au):DE (Option Int):=match o with
 |none=>nz
 |some e=>kX<|m.e c af af e
def EX (a:au) (op:CmpOp) (b:au):DE W:=
 if wD c b then (match op with
  |.In=>if behindInMarks .In b=af then dz af (m.e c af af a) (m.e c af af b) else aX
  |.NotIn=>if behindInMarks .NotIn b=af then dz ah (m.e c af af a) (m.e c af af b) else aX
  |_=>aX)
 else if Km c 3 b then (match op with
  |.In=>if behindInMarks .In b=af then wm (m.e c af af a) (m.e c af af b) else aX
  |_=>aX)
 else match op,b with
  |.Is,.Constant .none _ _=>dG af<|m.e c af af a
  |.IsNot,.Constant .none _ _=>dG ah<|m.e c af af a
  | _,_=>match vd op with
    |some g=>if behindInMarks op b=af then d2 af g (m.e c af af a) (m.e c af af b) else aX
    |none=>aX
def ZR (a:au) (op cS:CmpOp) (b d:au):DE W:=match vd op,vd cS with
 |some g,ae g'=>if lastMarks [op,cS] [b,d]=af then d3 g g' (m.e c af af a) (m.e c af af b) (m.e c af af d) else aX
 |_,_=>aX
def ZS (bo:Bool) (a b:au):DE W:=match b with
 |.Slice lo hi ag _=>kY bo (m.e c af af a) (cO m c lo)<|cO m c hi
 |.Slice ag ag (ae<|.UnaryOp .USub (.Constant (.int i) _ _) _) _=>if i=1 then Ir bo (m.e c af af a) else aX
 |.Constant (.str k) _ _=>bW (m.e c af af a) k
 |b=>if EU b then (if ZM c a then Eh (m.e c af af a) (m.e c af af b) else if wD c a then cj (m.e c af af a) (m.e c af af b) else d2 af aq (m.e c af af a) (m.e c af af b)) else aX
def ZT (bo:Bool) (ks:List<|Option au) (vs:List au):DE W:=match ks,vs with
 |[],[]=>n6 bo []
 | ks,vs=>match Ze (λk=>c.kd k 3) ks vs with
   |some l=>if !ks.isEmpty&&decide (ks.length<=15) then ya l else aX
   |none=>aX
def ZU (v:Const):DE W:=match v with
 |.int i=>dC<|.int i
 |.bool b=>dC<|.bl b
 |.none=>dC .non
 |.str x=>dC<|.str x
 |_=>aX
def ZV (op:UnaryOp) (a:au):DE W:=match op with
 |.USub=>xH<|m.e c af af a
 |.Not=>Ik<|m.e c af af a
 |_=>aX
def ZW (op:BoolOp) (es:List au):DE W:=match op with
 |.And=>ZF (m.e c af af) es
 |.Or=>ZG (m.e c af af) es
def aer (a:au) (ops:List CmpOp) (bs:List au):DE W:=match ops,bs with
 |[op],[b]=>EX m c a op b
 |[op,cS],[b,d]=>ZR m c a op cS b d
 |_,_=>aX
def ZX (bo:Bool) (f:au) (es:List au) (ks:List Keyword) (pos:aM):DE W:=match f with
 | .Name x _=>(match ks with
   |[]=>ZN c (m.e c af af) bo x es
   |_::_=>aX)
 | .Attribute o n apos=>(match ks with
   |[]=>if ZL o&&(apos.endLine==pos.line) then ZO (wD c o) (m.e c af af) o n es else aX
   |_::_=>aX)
 |_=>aX
def ZY (bo:Bool) (elt:au) (gs:List Comprehension) (sc:bT):DE W:=match gs with
 |[⟨tg,it,ifs,0⟩]=>ZQ m c bo elt tg it ifs sc
 |_=>aX
def sE (bo fz:Bool) (e:au):DE W:=match e with
 |.Constant v _ _=>ZU v
 |.Name x _=>ZE c fz x
 |.Tuple es _ _=>fQ<|wG (m.e c af af) es
 |.List es _=>gx bo<|wG (m.e c af af) es
 |.Dict ks vs _=>ZT c bo ks vs
 | .BinOp a op b _=>(match aeq op with
   |some g=>d2 bo g (m.e c af af a)<|m.e c af af b
   |none=>aX)
 |.UnaryOp op a _=>ZV m c op a
 |.BoolOp op es _=>ZW m c op es
 |.Compare a ops bs _=>aer m c a ops bs
 |.IfExp t a b _=>nT (m.t c t) (m.e c af af a)<|m.e c af af b
 |.Subscript a b _=>ZS m c bo a b
 |.Call f es ks pos=>ZX m c bo f es ks pos
 |.ListComp elt gs sc _=>ZY m c bo elt gs sc
 |_=>aX
def sT (e:au):DE Bool:=match e with
 |.BoolOp .And es _=>ZH (m.t c) es
 |.BoolOp .Or es _=>ZI (m.t c) es
 |.UnaryOp .Not a _=>eJ<|m.t c a
 | .Compare a [op] [b] _=>if wD c b then dB (EX m c a op b) else (match op,b with
   |.Is,.Constant .none _ _=>dB<|dG af<|m.e c af af a
   |.IsNot,.Constant .none _ _=>dB<|dG ah<|m.e c af af a
   | _,_=>match vd op with
     |some g=>if behindInMarks op b=af then dB (d2 af g (m.e c af af a)<|m.e c af af b) else aX
     |none=>aX)
 | .Compare a [op,cS] [b,d] _=>(match vd op,vd cS with
   |some g,ae g'=>if lastMarks [op,cS] [b,d]=af then dB (d3 g g' (m.e c af af a) (m.e c af af b)<|m.e c af af d) else aX
   |_,_=>aX)
 |e=>if plainT e then dB (m.e c af af e) else aX
def sG (tg:au):DG:=match tg with
 | .Name x _=>(match c.ix x with
   |some i=>if c.wF x then fe i else wC
   |none=>wC)
 |.Tuple es _ _=>if nE es then fL es.length (Ko (m.g c) es) else wC
 |.Subscript o i _=>if EU i then Eg (m.e c af af o) (m.e c af af i) else wC
 |_=>wC
end
section
variable {m:Cm} {k:Nat} (G:Good m) (O:cE c k X Z)
include G O
theorem Og (tg it:au):tX X T Z tg it (cI m c tg it):=by
 cases it<;>try show mW<|G.e O _ _ _
 ext f es ks pos;cases f<;>try show mW<|G.e O _ _ _
 rcases es with _|⟨a,_|⟨b,_|_⟩⟩<;>cases ks<;>try show mW<|G.e O _ _ _
 .unfold cI;dsimp only;split
  .ext z;subst z;split
   .ext q;rw[aI]at q;let#[g1,g2,g3,g4]:=O.blt q.1;show Fw g1 g4 (l5 (G.e O _ _ a) jM q.2)<|fH q.2 _ _
   .show CY
  .show mW<|G.e O _ _ _
 .unfold cI;dsimp only;split
  .ext z;subst z;split
   .ext q;simp[aI]at q;let#[#[q,n1],n2]:=q;let#[g1,g2,g3,g4]:=O.blt q;show Fx g1 g4 (l5 (G.e O _ _ a) (l5 (G.e O _ _ b) jM n2) n1) (by rw[fH n1,fH n2];rfl)<|fH n2 _ _
   .show CY
  .split
   .ext z;subst z;split
    .ext q;simp[aI]at q;let#[#[q,n1],n2]:=q;let#[g1,g2,g3,g4]:=O.blt q;show Pm g1 g4 (l5 (G.e O _ _ a) (l5 (G.e O _ _ b) jM n2) n1) (by rw[fH n1,fH n2];rfl)<|fH n2 _ _
    .show CY
   .show mW<|G.e O _ _ _
theorem Oh (ifs:List au):PF X ifs (sC T Z<|cF m c ifs):=by
 unfold cF;split
 .show O4
 .show O5<|G.t O _
 .show λ_ _ _ _ _ _ h=>by let#[_,_,_,_,_,h]:=h;show h.elim
omit G in
theorem Jk {i:Nat}(h:Kt c e=ae i):PD X T Z e (dV i):=by
 unfold Kt at h;split at h
 .split at h
  .ext q;rw[aI]at q;let#[a,b,d]:=O.HJ q.2;show L5 i (O.at h) a b d
  .cases h
 .cases h
theorem Oi (bo:Bool) (elt tg it:au) (ifs:List au) (sc:bT) (pos:aM):PD X T Z (.ListComp elt [#[tg,it,ifs,0]] sc pos) (ZQ m c bo elt tg it ifs sc):=by
 unfold ZQ;split
 .ext q;rw[aI]at q;let#[S,OO]:=O.inner q.1;show O3 bo O.calm S (Og G O tg it) (λ_ _ _ _ _ _=>G.g (OO _ _ _ _ _) tg) (λ_ _ _ _ _ _=>Oh G (OO _ _ _ _ _) ifs) (λ_ _ _ _ _ _=>G.e (OO _ _ _ _ _) _ _ elt) λx=>jI q.2 x
 .show fG
theorem Oj (a:au) (op:CmpOp) (b:au) (pos:aM):PD X T Z (.Compare a [op] [b] pos) (EX m c a op b):=by
 unfold EX;split
 .split
  .split
   .ext q;show UA O.u1 (G.e O _ _ a) (G.e O _ _ b) q
   .show fG
  .split
   .ext q;show Pw O.u1 (G.e O _ _ a) (G.e O _ _ b) q
   .show fG
  .show fG
 split
 .split
  .split
   .ext q;show UN O.u1 (G.e O _ _ a) (G.e O _ _ b) q
   .show fG
  .show fG
 .split
  .show UB<|G.e O _ _ a
  .show Px<|G.e O _ _ a
  .split
   .ext g e;let#[q,h1,h2]:=lZ O.u0 e;split
    .ext z;show T1 h1 h2 (G.e O _ _ a) (G.e O _ _ b) z
    .show fG
   .show fG
theorem Ol (a:au) (op cS:CmpOp) (b d:au) (pos:aM):PD X T Z (.Compare a [op,cS] [b,d] pos) (ZR m c a op cS b d):=by
 unfold ZR;split
 .ext g g' e e';let#[q,h1,h2]:=lZ O.u0 e;let#[q',ZZ,Z0]:=lZ O.u0 e';split
  .ext z;show L9 h1 ZZ h2 Z0 (G.e O _ _ a) (G.e O _ _ b) (G.e O _ _ d) z
  .show fG
 .show fG
theorem Tb (o:Option au):Ed X T Z o (cO m c o):=by
 unfold cO;split
 .show Ud
 .show Ml<|G.e O _ _ _
theorem Sr (bo:Bool) (a b:au) (pos:aM):PD X T Z (.Subscript a b pos) (ZS m c bo a b):=by
 have third:∀ b,EU b=ah->PD X T Z (.Subscript a b pos) (if ZM c a then Eh (m.e c af af a) (m.e c af af b) else if wD c a then cj (m.e c af af a) (m.e c af af b) else d2 af aq (m.e c af af a) (m.e c af af b)):=λb n=>by
  split
  .show Uq (G.e O _ _ a) (G.e O _ _ _)<|By n
  .split
   .show Pv O.u1 (G.e O _ _ a) (G.e O _ _ _)<|Sn n
   .show Wa TM ahj (G.e O _ _ a) (G.e O _ _ _)<|By n
 cases b<;>try show third _ zc
 .rename_i v _ _;cases v<;>try show third _ zc
  show UJ O.u1<|G.e O _ _ a
 rename_i lo hi st _;rcases st with _|st
 .show Mm bo (G.e O _ _ a) (Tb G O _)<|Tb G O _
 cases st<;>try show fG
 rename_i op e _;cases op<;>try show fG
 cases e<;>try show fG
 rename_i v _ _;cases v<;>try show fG
 cases lo<;>cases hi<;>try show fG
 unfold ZS;try dsimp only
 split
 .ext z;subst z;show Uf bo<|G.e O _ _ a
 .show fG
omit G O in
theorem Ss (bo:Bool) (ks:List<|Option au) (vs:List au) (pos:aM):PD X T Z (.Dict ks vs pos) (ZT c bo ks vs):=by
 unfold ZT;split
 .show Pl bo
 .split
  .ext l e;split
   .ext q;rw[aI,decide_eq_true_eq]at q;let#[a,b,d,_]:=GL e;show MY a b d (λz=>by rw[z]at q;show absurd q.1 ze) q.2
   .show fG
  .show fG
omit G O in
theorem Su (v:Const) (k:Nat) (pos:aM):PD X T Z (.Constant v k pos) (ZU v):=by
 unfold ZU;split
 .show TX
 .show V9
 .show TY
 .show TZ
 .show fG
theorem VI (op:UnaryOp) (a:au) (pos:aM):PD X T Z (.UnaryOp op a pos) (ZV m c op a):=by
 unfold ZV;split
 .show Ug<|G.e O _ _ _
 .show T5<|G.e O _ _ _
 .show fG
theorem VJ (op:BoolOp) (es:List au) (pos:aM):PD X T Z (.BoolOp op es pos) (ZW m c op es):=by
 unfold ZW;split
 .show Ji (G.e O _ _) _
 .show Ob (G.e O _ _) _
theorem VL (a:au) (ops:List CmpOp) (bs:List au) (pos:aM):PD X T Z (.Compare a ops bs pos) (aer m c a ops bs):=by
 rcases ops with _|⟨op,_|⟨cS,_|_⟩⟩<;>rcases bs with _|⟨b,_|⟨d,_|_⟩⟩<;>try show fG
 .show Oj G O _ _ _ _
 .show Ol G O _ _ _ _ _ _
theorem VM (bo:Bool) (f:au) (es:List au) (ks:List Keyword) (pos:aM):PD X T Z (.Call f es ks pos) (ZX m c bo f es ks pos):=by
 unfold ZX;split
 .split
  .show Of O (G.e O _ _) bo _
  .show fG
 .split
  .split
   .ext q;rw[aI]at q;show Sq O.u1 _ (G.e O _ _) _ q.1 q.2
   .show fG
  .show fG
 .show fG
theorem VN (bo:Bool) (elt:au) (gs:List Comprehension) (sc:bT) (pos:aM):PD X T Z (.ListComp elt gs sc pos) (ZY m c bo elt gs sc):=by
 unfold ZY;split
 .show Oi G O bo _ _ _ _ _ _
 .show fG
theorem W8 (bo fz:Bool) (e:au):PD X T Z e (sE m c bo fz e):=by
 cases e<;>try show fG
 .show VJ G O _ _ _
 .unfold sE;dsimp only;split
  .ext g e;let#[q,h1,h2]:=Sk e;show T0 bo h1 h2 (G.e O _ _ _)<|G.e O _ _ _
  .show fG
 .show VI G O _ _ _
 .show T6 (G.t O _) (G.e O _ _ _)<|G.e O _ _ _
 .show Ss bo _ _ _
 .show VN G O bo _ _ _ _
 .show VL G O _ _ _ _
 .show VM G O bo _ _ _ _
 .show Su _ _ _
 .show Sr G O bo _ _ _
 .show Oa O fz
 .show T8 bo<|oX (G.e O _ _) _
 .show T7<|oX (G.e O _ _) _
theorem W9 (e:au):eC X T Z e (sT m c e):=by
 cases e<;>try show OL (G.e O _ _ _) λw=>Ly zc w
 .rename_i op _ _;cases op
  .show SI<|Fm (G.t O) _
  .show SI<|Jj (G.t O) _
 .rename_i op _ _;cases op<;>try show ip
  show OQ<|G.t O _
 .show ip
 .ext a ops bs pos;rcases ops with _|⟨op,_|⟨cS,_|_⟩⟩<;>rcases bs with _|⟨b,_|⟨d,_|_⟩⟩<;>try show ip
  .unfold sT;dsimp only;split
   .ext h;unfold EX;rw[if_pos h];cases op<;>try show ip
    .dsimp only;split
     .ext q;show So O.u1 (G.e O _ _ a) (G.e O _ _ b) q
     .show ip
    .dsimp only;split
     .ext q;show Oe O.u1 (G.e O _ _ a) (G.e O _ _ b) q
     .show ip
   .have dflt:∀ op b,eC X T Z (.Compare a [op] [b] pos) (match vd op with
     |some g=>if behindInMarks op b=af then dB (d2 af g (m.e c af af a)<|m.e c af af b) else aX
     |none=>aX):=λop b=>by
     split
     .ext g e;let#[q,h1,h2]:=lZ O.u0 e;split
      .ext z;show OM h1 h2 (G.e O _ _ _) (G.e O _ _ _) z
      .show ip
     .show ip
    cases op<;>try show dflt _ _
    all_goals (cases b<;>try show dflt _ _)
    all_goals (rename_i v _ _ _;cases v<;>try show dflt _ _)
    .show PT.imp (Cg (LD<|G.e O _ _ _) zc) λσ H Q h=>W7<|L8 h
    .show PT.imp (Cg (Gh<|G.e O _ _ _) zc) λσ H Q h=>VH<|L8 h
  .unfold sT;dsimp only;split
   .ext g g' e e';let#[q,h1,h2]:=lZ O.u0 e;let#[q',ZZ,Z0]:=lZ O.u0 e';split
    .ext z;show JC h1 ZZ h2 Z0 (G.e O _ _ _) (G.e O _ _ _) (G.e O _ _ _) z
    .show ip
   .show ip
theorem Ya (tg:au):kF X T tg (sG m c tg):=by
 unfold sG;split
 .split
  .ext i e;split
   .ext h;let#[a,b]:=O.lo h;show Mg i O.vc (O.at e) a b
   .show lY
  .show lY
 .split
  .ext h;show Wq O.calm (Oc (G.g O) _) h zc
  .show lY
 .split
  .ext o i pos h;show Pj (G.e O _ _ o) (G.e O _ _ i) (λv=>by cases i<;>first|rfl|cases h)
  .show lY
 .show lY
end
end L2.DL
namespace L2
end L2
namespace L2.DL
open PySem.W
section
variable {env:Env} {y:Str} {px py pt kS:aM} {kt k2:Nat} {a b:au}
theorem Sv (hk:env.blockKind=.function) (hx:env.kindOf x=ae .local) (hy:env.kindOf y=ae .local) (hl:(px.line==py.line)=ah) (kH:x≠y) (na:bO a=ah) (nb:bO b=ah)
 (nf:([a,b].all<|foldedForSure 8)=af) (nc:([a,b].all<|constantsAlone 8)=af) :
 swappedStores [.Tuple [.Name x px,.Name y py] kt pt] (.Tuple [a,b] k2 kS) env=pure (ae [x,y]):=by
 have nu:px.line=py.line:=by simpa using hl
 have hd:([x,y]).eraseDups.length=2:=by
  have:(y==x)=af:=by simpa using Ne.symm kH
  simp[List.eraseDups_cons,this]
 have hp:∀ (x) (p),(Expr.Name x p).pos=p:=λ_ _=>rfl;unfold swappedStores;erw[hk,abk,rV,hp,];simp[nu,hd,hx,hy,nf,nc];rintro(h|h)
 .cases a<;>first|(cases h;done)|cases na
 .cases b<;>first|(cases h;done)|cases nb
theorem Sw (hk:env.blockKind=.function) (na:bO a=ah) (nb:bO b=ah) (h:(env.kindOf x==ae .local&&env.kindOf y==ae .local)=af) :
 swappedStores [.Tuple [.Name x px,.Name y py] kt pt] (.Tuple [a,b] k2 kS) env=pure ag:=by
 have hp:∀ (x:Str) (p:aM),(Expr.Name x p).pos=p:=λ_ _=>rfl;unfold swappedStores;erw[abk,rV,hp];rw[Bool.and_eq_false_iff]at h;rcases h with h|h
 .erw[qB,abl,h,Ha];by_cases q:(env.kindOf y==ae .local&&py.line==px.line)=ah
  .simp[q]
  .simp[q]
 .erw[qB,abl,h,Ha];by_cases z:env.kindOf x=ae .local<;>simp[z]
end
def ve (f:b9->aC):List b9->aC
 |[]=>aL
 |[s]=>f s
 |s::r=>fu (f s)<|ve f r
theorem mM {X:Cx}{Z:Xs}{T:Fr}{f:b9->aC}(h:∀ s,cL X T Z s<|f s):∀ b,qm X T Z b (ve f b)
 |[]=>OT
 |[s]=>OU<|h s
 |s::a::r=>Md (h s)<|mM h _
noncomputable def Z1:au->au->Bool
 |.Tuple ..,.Tuple ..|.List ..,.Tuple ..=>af
 |_,_=>ah
theorem Tc {env:Env}(h:Z1 tg e=ah):swappedStores [tg] e env=pure ag:=by
 cases tg with
 |Tuple es n p=>cases e<;>first|rfl|cases h
 |List es p=>cases e<;>first|rfl|cases h
 |_=>rfl
noncomputable def Z2 (c:Cf) (x:Str) (tp cp:aM) (sc:bT):Bool:=c.nm.lookup x==ae .local&&tp.line==cp.line&&!(sc.names.any λ(n,k)=>n==x&&(k==.local||k==.cell))
section
variable {k:Nat} 
theorem cE.block (O:cE c k X Z):X.env.blockKind=.function:=by unfold Env.blockKind;rw[O.kd];rfl
theorem Sy (O:cE c k X Z) {elt:au}{gs:List Comprehension}{sc:bT}{cp tp:aM}{l:Nat}:swapsWith (.ListComp elt gs sc cp) (ae<|.Name x tp) l X.env=pure (Z2 c x tp cp sc):=by
 have h:swapsWith (.ListComp elt gs sc cp) (ae<|.Name x tp) l X.env=pure _:=rfl;rw[h,O.block];unfold Env.kindOf Z2;rw[O.nm];rfl
end
theorem lg {t:au}{l:Nat}{env:Env}(h:nH e=af):swapsWithSole [t] e l env=pure af:=lP h
section
variable (m:Cm) (c:Cf)
noncomputable def Z3:au->Bool
 |.Dict [] [] _=>ah
 |_=>af
def Z4 (x:Str) (tp:aM) (e:au):aC:=match c.ix x with
 | some i=>if c.wF x then (match e with
   | .ListComp elt [⟨tg,it,ifs,0⟩] sc cp=>if c.Ks tg sc&&Kq it&&Z2 c x tp cp sc then (match Kt c it with
     |some j=>fE (we (c.bx.contains x) (c.src tg sc) j (m.g (c.inner tg sc) tg) (cF m (c.inner tg sc) ifs)<|m.e (c.inner tg sc) af af elt)<|fe i
     |none=>fE (fK (c.bx.contains x) (c.src tg sc) (cI m c tg it) (m.g (c.inner tg sc) tg) (cF m (c.inner tg sc) ifs)<|m.e (c.inner tg sc) af af elt)<|fe i) else dt
   |e=>if nH e then dt else fE (if c.kd x 3&&Z3 e then xX else m.e c (c.bx.contains x) af e) (fe i)) else dt
 |none=>dt
def aes (c:Cf) (x y:Str) (px py:aM) (a b:au):Bool:=bO a&&bO b&&decide (x≠y)&&c.wF x&&c.wF y&&(if c.nm.lookup x==ae .local&&c.nm.lookup y==ae .local then px.line==py.line&&!([a,b].all<|foldedForSure 8)&&!([a,b].all<|constantsAlone 8) else ah)
def Z5 (x y:Str) (px py:aM) (a b:au):aC:=match c.ix x,c.ix y with
 |some i,ae j=>if aes c x y px py a b then eY i j (fc (m.e c (c.bx.contains x) af a)<|fc (m.e c (c.bx.contains y) af b) fg) else dt
 |_,_=>dt
def Z6 (tg e:au):aC:=match tg,e with
 |.Name x tp,e=>Z4 m c x tp e
 |.Tuple [.Name x px,.Name y py] _ _,.Tuple [a,b] _ _=>Z5 m c x y px py a b
 |.Subscript o i p,e=>if nH e then dt else if Km c 3 o then rD (m.e c af af o) (m.e c af af i) (m.e c af af e) else if wD c o then kM (m.e c af af o) (m.e c af af i) (m.e c af af e) else fE (m.e c af af e) (m.g c<|.Subscript o i p)
 |tg,e=>if !nH e&&bO tg&&Z1 tg e then fE (m.e c af af e) (m.g c tg) else dt
def Z7 (t:au) (op:Operator) (e:au):aC:=match t with
 | .Name x _=>(match c.ix x with
   | some i=>if c.wF x then (match op with
     |.Add=>rF af i<|m.e c af af e
     |.Sub=>rF ah i<|m.e c af af e
     |_=>dt) else dt
   |none=>dt)
 |_=>dt
def sS (st:b9):aC:=match st with
 |.Assign [tg] e _=>Z6 m c tg e
 |.Return (ae e) _=>fF<|m.e c c.rb (!c.rb) e
 |.Expr e _=>if nH e then dt else gh (m.e c af af e)
 |.If t a b _=>aH (m.t c t) (ve (m.s c) a)<|ve (m.s c) b
 | .For tg it body [] _=>if Kq it then (match Kt c it with
   |some j=>wc j (m.g c tg)<|ve (m.s c) body
   |none=>if Km c 2 it then yc (m.e c af af it) (m.g c tg) (ve (m.s c) body) else iN (cI m c tg it) (m.g c tg) (ve (m.s c) body)) else dt
 |.AugAssign t op e _=>Z7 m c t op e
 |.Delete [.Subscript o i _] _=>if wD c o then uk (m.e c af af o) (m.e c af af i) else dt
 |.Break _=>Il
 |.Continue _=>Im
 |_=>dt
end
section
variable {m:Cm} {k:Nat} (G:Good m) (O:cE c k X Z)
include G O
theorem Sz (x:Str) (e:au) (tp pos:aM):cL X T Z (.Assign [.Name x tp] e pos) (Z4 m c x tp e):=by
 unfold Z4;split
 .ext i hi;split
  .ext hl;let#[l1,l2]:=O.lo hl;split
   .ext elt tg it ifs sc cp;split
    .ext q;rw[aI,aI]at q;let#[S,OO]:=O.inner q.1.1;have sw:=Sy O (elt:=elt) (gs:=[#[tg,it,ifs,0]]) (sc:=sc) (cp:=cp) (tp:=tp) (x:=x) (l:=pos.line);rw[q.2]at sw;split
     .show J4 i _ O.calm S (Jk O (by assumption)) (λ_ _ _ _ _ _=>G.g (OO _ _ _ _ _) tg) (λ_ _ _ _ _ _=>Oh G (OO _ _ _ _ _) ifs) (λ_ _ _ _ _ _=>G.e (OO _ _ _ _ _) _ _ elt) O.vc (O.at hi) l1 sw l2 λx=>jI q.1.2 x
     .show MC i _ O.calm S (Og G O tg it) (λ_ _ _ _ _ _=>G.g (OO _ _ _ _ _) tg) (λ_ _ _ _ _ _=>Oh G (OO _ _ _ _ _) ifs) (λ_ _ _ _ _ _=>G.e (OO _ _ _ _ _) _ _ elt) O.vc (O.at hi) l1 sw l2 λx=>jI q.1.2 x
    .show fX
   .split
    .show fX
    .ext h;refine OX i ?_ O.vc (O.at hi) l1 (lP (by simpa using h)) l2;split
     .ext q;rw[aI]at q;revert q;cases e with
      |Dict ks vs p=>cases ks<;>cases vs<;>first|(intro _;show PM)|(intro q;show absurd q.2 (by simp[Z3]))
      |_=>intro q;show absurd q.2 (by simp[Z3])
     .show G.e O _ _ _
  .show fX
 .show fX
theorem SA (x y:Str) (a b:au) (px py pt kS pos:aM) (kt k2:Nat):cL X T Z (.Assign [.Tuple [.Name x px,.Name y py] kt pt] (.Tuple [a,b] k2 kS) pos) (Z5 m c x y px py a b):=by
 unfold Z5;split
 .ext i j hi hj;split
  .ext q;unfold aes at q;rw[aI,aI,aI,aI,aI,decide_eq_true_eq]at q;let#[#[#[#[#[na,nb],kH],hx],hy],q]:=q;have ps:dF X T Z _ (fc (m.e c (c.bx.contains x) af a)<|fc (m.e c (c.bx.contains y) af b) fg):=l5 (G.e O _ _ a) (l5 (G.e O _ _ b) jM nb) na;have kx:X.env.kindOf x=c.nm.lookup x:=by unfold Env.kindOf;rw[O.nm]
   have ky:X.env.kindOf y=c.nm.lookup y:=by unfold Env.kindOf;rw[O.nm]
   by_cases h:(c.nm.lookup x==ae NameKind.local&&c.nm.lookup y==ae NameKind.local)=ah
   .rw[if_pos h]at q;erw[aI,tj]at q;rw[aI]at h;have h1:c.nm.lookup x=ae .local:=by simpa using h.1
    have h2:c.nm.lookup y=ae .local:=by simpa using h.2
    refine Pt i j O.calm O.vc ps (O.at hi) (O.at hj) (λz=>?_) (by rw[O.nm];show h1) (by rw[O.nm];show h2) (Sv O.block (kx.trans h1) (ky.trans h2) q.1.1 kH na nb q.1.2 q.2)<|lg zc;subst z;have:=(c.ZD hi).symm.trans<|c.ZD hj;show kH<|Option.some.inj this
   .let#[l1,l2]:=O.lo hx;let#[l3,l4]:=O.lo hy;refine MH i j O.calm O.vc ps (O.at hi) (O.at hj) l1 l3 l2 l4 (lg zc) (Sw O.block na nb ?_) zc zc zc zc zc;rw[kx,ky];simpa using h
  .show fX
 .show fX
theorem SC (tg e:au) (pos:aM):cL X T Z (.Assign [tg] e pos) (Z6 m c tg e):=by
 have dflt:∀ tg e,cL X T Z (.Assign [tg] e pos) (if !nH e&&bO tg&&Z1 tg e then fE (m.e c af af e) _ else dt):=λtg e=>by
  split
  .ext q;simp[aI,tj]at q;show Gr (G.e O _ _ _) (G.g O _) (lg q.1.1) (Tc q.2) (by rw[lC q.1.2];rfl)
  .show fX
 cases tg<;>try show dflt _ _
 .unfold Z6;try dsimp only
  split
  .show fX
  .ext h;split
   .show J8 O.u1 (G.e O _ _ _) (G.e O _ _ _) (G.e O _ _ _)<|lP (by simpa using h)
   split
   .show MG O.u1 (G.e O _ _ _) (G.e O _ _ _) (G.e O _ _ _)<|lP (by simpa using h)
   .show Gr (G.e O _ _ _) (G.g O _) (lg (by simpa using h)) (Tc zc) zc
 .show Sz G O _ _ _ _
 .rename_i es _ _;rcases es with _|⟨x,_|⟨y,es⟩⟩<;>try show dflt _ _
  all_goals (cases x<;>try show dflt _ _)
  all_goals (cases y<;>try show dflt _ _)
  all_goals (cases es<;>try show dflt _ _)
  cases e<;>try show dflt _ _
  rename_i vs _ _;rcases vs with _|⟨a,_|⟨b,vs⟩⟩<;>try show dflt _ _
  cases vs<;>try show dflt _ _
  show SA G O _ _ _ _ _ _ _ _ _ _ _
theorem SD (t:au) (op:Operator) (e:au) (pos:aM):cL X T Z (.AugAssign t op e pos) (Z7 m c t op e):=by
 unfold Z7;split
 .split
  .ext i hi;split
   .ext hl;let#[l1,l2]:=O.lo hl;split
    .show P9 i (G.e O _ _ _) O.vc (O.at hi) l1 l2
    .show Ra i (G.e O _ _ _) O.vc (O.at hi) l1 l2
    .show fX
   .show fX
  .show fX
 .show fX
theorem Yb (st:b9):cL X T Z st (sS m c st):=by
 cases st<;>try show fX
 .rename_i v _;cases v<;>try show fX
  show OV<|G.e O _ _ _
 .rename_i ts _;rcases ts with _|⟨t,ts⟩<;>try show fX
  cases t<;>try show fX
  cases ts<;>try show fX
  unfold sS;dsimp only;split
  .show PQ (G.e O _ _ _)<|G.e O _ _ _
  .show fX
 .rename_i ts _ _;rcases ts with _|⟨_,_|_⟩<;>try show fX
  show SC G O _ _ _
 .show SD G O _ _ _ _
 .rename_i tg it bd oe _;cases oe<;>try show fX
  unfold sS;dsimp only;split
  .ext h;split
   .show MU O.own O.calm (Jk O (by assumption)) (G.g O _) (mM (G.s O) _) λx=>jI h x
   .split
    .show MZ O.own O.calm (G.e O _ _ _) (G.g O _) (mM (G.s O) _) λx=>jI h x
    .show OY O.own O.calm (Og G O _ _) (G.g O _) (mM (G.s O) _) λx=>jI h x
  .show fX
 .show Ua (G.t O _) (mM (G.s O) _)<|mM (G.s O) _
 .unfold sS;dsimp only;split
  .show fX
  .ext h;show Mf (G.e O _ _ _)<|lP (by simpa using h)
 .show JE
 .show Me
end
def aja (m:Cm):Cm:=#[λc bo fz e=>sE m c bo fz e,λc e=>sT m c e,λc e=>sG m c e,λc st=>sS m c st]
def cm:Nat->Cm
 |0=>#[λ_ _ _ _=>aX,λ_ _=>aX,λ_ _=>wC,λ_ _=>dt]
 |n+1=>aja<|cm n
theorem oj:∀ n,Good (cm n)
 |0=>#[λ_ _ _ _ _=>fG,λ_ _ _=>ip,λ_ _ _=>lY,λ_ _ _=>fX]
 |n+1=>#[λO _ bo fz e=>W8 (oj n) O bo fz e,λO _ e=>W9 (oj n) O e,λO _ e=>Ya (oj n) O e,λO _ st=>Yb (oj n) O st]
structure FI where
 x:Str
 ps:List Str
 N:List Str
 bx:List Str
 dc:List Str
 wk:List (Str×Nat)
 fl:Nat   -- 1: its list is a box as it is returned,2: may raise,4: has a try,8: calls itself
 st:b9
 fn:List W->List Bx->O W
structure Tx where
 Kl:Str
 gl:List (Str×Int)
 bl:List Str
noncomputable def FI.b (f:FI) (i:Nat):Bool:=f.fl / i % 2==1
noncomputable def aet (r:List FI):List (Str×(Nat×(List W->List Bx->O W))):=r.map λg=>(g.x,(g.ps.length,g.fn))
def FI.cf (t:Tx) (fs:List<|Str×(Nat×(List W->List Bx->O W))) (f:FI):Cf:=
 { N:=f.N,nm:=(fR f.st).names,f:=ah,bx:=f.bx,dc:=f.dc,wk:=f.wk,Kl:=t.Kl,fs:=fs,gl:=t.gl,bl:=t.bl,rb:=f.b 1,ow:=[] }
def FI.body (t:Tx) (fs:List<|Str×(Nat×(List W->List Bx->O W))) (f:FI):List W->List Bx->O W:=
 let m:=ve ((cm 40).s<|f.cf t fs)<|gW f.st
 aV f.N.length (aP m)
def FI.ok (f:FI):Bool:=decide ((fR f.st).kind=.function)&&!(fR f.st).isCoroutine&&!(fR f.st).isGenerator&&decide f.N.Nodup&&decide (f.N.take f.ps.length=f.ps) &&
 f.ps.all (λx=>decide ((fR f.st).names.lookup x=ae .local)||decide ((fR f.st).names.lookup x=ae .cell))&&(fR f.st).names.all λy=>decide (y.2≠.free)
theorem FI.scope {f:FI}(h:f.ok=ah):xu f.N f.ps (fR f.st):=by
 erw[FI.ok,aI,decide_eq_true_eq,cZ,wO,tj]at h;let#[#[#[#[#[#[h1,h2],h3],h4],h5],h6],h7]:=h;show#[h1,h2,h3,h4,h5,h6,λy m=>h7 y m]
def FI.Is (t:Tx) (r:List FI) (f:FI):zt:=f.fn=f.body t (aet r)
noncomputable def Z8 (t:Tx):List FI->zt
 |[]=>True
 |f::r=>f.Is t r /\ Z8 t r
noncomputable def EY:List FI->Nat
 |[]=>0
 |_::r=>EY r+1
structure Z9 (K:PySem.W.Frag) (mg:Str->Option ai) (t:Tx):zt where
 gl:∀ x v,t.gl.lookup x=ae v->∃ u,mg x=ae (.int v u)
 bl:∀ x,x∈t.bl->mg x=ag
 ti:pM K "int"
 tb:pM K "bool"
 tt:pM K "tuple"
 tl:pM K "list"
theorem Om {t:Tx}(B:Z9 K mg t) {f:FI}(d:Def K mg f.x f.st f.ps) (ho:f.ok=ah) {k:Nat}
 {fs:List (Str×(Nat×(List W->List Bx->O W)))}(F:∀ x n fn,fs.lookup x=ae (n,fn)->∃ kk ps,rh P w K mg base cl kk x ps fn /\ ps.length=n /\ kk<=k):rh P w K mg base cl (k+1) f.x f.ps (f.body t fs):=by
 have S:=FI.scope ho;refine Uu d S λfa bH A outer s H E n F0 hr=>mM ((oj 40).s (k:=k) ?_) _;show#[rfl,rfl,S.kind,rfl,λ_ _=>rfl,(λx m=>nomatch m),S.nd,hr,F,B.gl,B.bl,Gu,B.ti,B.tb,B.tt,B.tl,PassesOwn.never]
def Ku:List FI->Bool
 |[]=>ah
 |f::r=>f.ok&&Ku r
theorem SE {t:Tx}(B:Z9 K mg t):∀ (l:List FI),Z8 t l->Ku l=ah->(∀ f∈l,Def K mg f.x f.st f.ps)->∀ f∈l,∃ kk,rh P w K mg base cl kk f.x f.ps f.fn /\ kk<=EY l:=by
 intro l_;induction l_ with
 |nil=>show λ_ _ _=>λf m=>nomatch m
 |cons f r az=>
   intro A C D;let#[A1,A2]:=A;have C':(f.ok&&Ku r)=ah:=C;rw[aI]at C';have ih:=az A2 C'.2 λg m=>D g<|bu _ m;have F:∀ x n fn,(aet r).lookup x=ae (n,fn)->∃ kk ps,rh P w K mg base cl kk x ps fn /\ ps.length=n /\ kk<=EY r:=λx n fn e=>by
    refine jh (P:=λx (p)=>∃ kk ps,rh P w K mg base cl kk x ps p.2 /\ ps.length=p.1 /\ kk<=EY r) (λp m=>?_) e;let#[g,ajb,rfl]:=bA.mp m;let#[kk,h1,h2]:=ih g ajb;show#[kk,g.ps,h1,rfl,h2]
   intro g m;rcases bq.mp m with rfl|m
   .rw[A1];show#[EY r+1,Om B (D g<|bC ..) C'.1 F,aE _]
   .let#[kk,h1,h2]:=ih g m;show#[kk,h1,E9 h2]
noncomputable def aeu (o:aZ):Bool:=match o.cls with|.type n=>n == "list"|_=>af
def Kv (K:PySem.W.Frag):Bool:=K.all λp=>!aeu p.2
theorem Lz (h:Kv K=ah) (e:K.lookup a=ae o):o.cls≠.type "list":=by
 intro c;unfold Kv at h;rw[cZ]at h;have m:(a,o)∈K:=by
  clear h;induction K with
  |nil=>cases e
  |cons p K ih=>
    rw[ku]at e;cases q:a==p.1 with
    |true=>
      rw[q]at e;cases e;have:a=p.1:=by simpa using q
      subst this;show bC ..
    |false=>
      rw[q]at e;show bu _<|ih e
 have:=h _ m;simp[aeu,c]at this
theorem VO (nl:Kv K=ah) (hO:YD H) (hS:bN K H a<|ns.map V.int) (hf:∃ bx',fn [.s ns] []=.val (.d<|.bl ah) bx') :
 tV cl 1 fn [.ref a] H (λv _=>v=.bl ah) λ_ _ _=>False:=by
 rcases hS with hS|⟨o,its,n,e1,e2,_⟩
 .rcases hS with hS|⟨o,hS⟩
  .rcases hO a with z|⟨o,xs,z⟩
   .rw[hS]at z;cases z
   .rw[hS]at z;cases z
  .let#[bx',hf]:=hf;refine#[H,[],[.s ns],[],#[Sub.refl H,λi w e=>by simp at e,rfl,.nil,λn c a e=>by simp,λa u e _=>e,λn a _ e=>by simp at e,aE _,aE _,λa u e=>.inr<|.inl e],#[.ref a,[],rfl,#[a,o,rfl,hS],rfl],rfl,?_];rw[hf];intro F' r' v H' _ _ d;show d
 .show absurd e2<|Lz nl e1
noncomputable def tys:List String:=["NoneType","bool","int","str","tuple","list","dict"]
def Kw (K:PySem.W.Frag):Bool:=tys.all λS=>["int","bool","tuple","list"].all λT=>PySem.W.kitOne K (.type S) (.type T)==ae (uR S T)
theorem C0 (h:Kw K=ah) {T:String}(m:T∈["int","bool","tuple","list"]):pM K T:=by
 intro d;unfold Kw at h;rw[cZ]at h;have m1:qT d∈tys:=by cases d<;>simp[qT,tys]
 have z:=h _ m1;rw[cZ]at z;show beq_iff_eq.mp<|z _ m
theorem VP {ps:List Str}{f:ak}{oc:ai}{od an:Option ak}{kV doc pm bH ct:ai}(X:K.In h) (G:h.Ns mainGlobals mg)
 (a:PySem.W.nsIn K mainGlobals x=ae (ae<|.ref f)) (l:K.lookup f=ae #[oc,od,.func<|PySem.W.fnOf x x (jj st) (gW st) (fR st) .none kV doc pm an bH ct,qy])
 (c:PySem.W.codeIn K bH x=ah) (k:PySem.W.keepIn K (.ref f)=ah) (hb:∀ fd,qj K x x st f fd->Binds K fd ps []):Def K mg x st ps:=
 #[f,_,L4 l c k,PySem.W.mg_of X G a,hb _<|L4 l c k]
theorem VQ {l:PySem.W.OpenLaw}{fa:ak}{k:Nat}(cl:Nat->ak) (yk:mg "law"=ae (.ref fa)) (D:Def K mg "law" st ["_law_script"])
 (hB:∀ (fd:FuncData) (f:ak),qj K "law" "law" st f fd->∀ (s:ax) (u:ai),BindsTo s fd #[[u],[]] [("_law_script",u)])
 (H:∀ base:aK,K.In base->base.Ns mainGlobals mg->rh l.prog w K mg base cl k "law" ["_law_script"] fn) :
 ∃ (cl:Nat->ak) (fd:FuncData),(∀ (s:ax) (u:ai),BindsTo s fd #[[u],[]] [("_law_script",u)]) /\ ∀ base:aK,K.In base->base.Ns mainGlobals mg->kC l.prog w K mg base (qk l.prog w) k fa fd ["_law_script"] (tV cl 1 fn):=by
 let#[f,fd,F,hm,_]:=D;rw[yk]at hm;cases hm;refine#[cl,fd,hB fd fa F,λbase hK hN=>?_];let#[f',alb,ok,aev,_,_,o,hl,hd]:=H base hK hN;rw[yk]at aev;cases aev;let#[o2,qN,hd2]:=F.obj;rw[hl]at qN;cases qN;rw[hd]at hd2;cases hd2;show ok
theorem walk_d {l:PySem.W.OpenLaw}{q:c7}{loose:List Str}{YP:cn->aK->zt}{d:DefRec}{K:Params->PySem.W.Frag}{k:Nat}(hk:c8 k callerA) (hn:l.most=ae 63) (YB:d.params.defaults=[])
 (hY:∀ (w:cn) (h:aK),YP w h->(K w.params).In h) (nl:∀ w:cn,Kv (K w.params)=ah) (hf:∀ ns:List Int,ns.length<=63->∃ bx',fn [.s ns] []=.val (.d<|.bl ah) bx')
 (F:∀ (w:cn) (mg:Str->Option ai) (fa:ak) (h:aK),(K w.params).In h->h.Ns mainGlobals mg->mg d.name=ae (.ref fa) ->
  ∃ (cl:Nat->ak) (fd:FuncData),(∀ (s:ax) (u:ai),BindsTo s fd #[[u],[]] [("_law_script",u)]) /\ ∀ base:aK,(K w.params).In base->base.Ns mainGlobals mg->kC l.prog w (K w.params) mg base (qk l.prog w) k fa fd ["_law_script"] (tV cl 1 fn)) :
 PySem.W.WalkO q loose XP YP l.row.toRowW d [] (λf vs=>PySem.call f vs):=by
 refine acV.agQ hn YB λw s0 s1 mg mb fa o pm cd doc a vs ns G Y ho hd pK hmg YC hints hlen hg=>?_;have KX:=hY w _ Y;let#[cl,fd,hb,hF]:=F w mg fa _ KX G.T.g hmg;show L0 KX G.T.g G.T.b G.T.builtins G.T.nolimit hg YC hints (cx hlen ze) hk hF hb (λH hO hS=>VO (nl w) hO hS<|hf ns hlen) λH e s' z=>by
  let#[_,_,_,_,_,_,_,_,_,_,_,_,_,z]:=z;show z
noncomputable def Kx (K:Frag) (bl:List Str):Bool:=bl.all λx=>match nsIn K mainGlobals x with|some ag=>ah|_=>af
noncomputable def Ky (K:Frag) (gl:List<|Str×Int):Bool:=gl.all λp=>match nsIn K mainGlobals p.1 with|some (ae<|.int v _)=>v==p.2|_=>af
theorem Ge {bl:List Str}(X:K.In h) (G:h.Ns mainGlobals mg) (c:Kx K bl=ah):∀ x,x∈bl->mg x=ag:=λx m=>by
 unfold Kx at c;rw[cZ]at c;have z:=c x m;split at z
 .next e=>show mg_none_of X G e
 .cases z
theorem On {gl:List (Str×Int)}(X:K.In h) (G:h.Ns mainGlobals mg) (c:Ky K gl=ah):∀ x v,gl.lookup x=ae v->∃ u,mg x=ae (.int v u):=λx v e=>by
 unfold Ky at c;rw[cZ]at c;refine jh (P:=λx (v)=>∃ u,mg x=ae (.int v u)) (λp m=>?_) e;have z:=c p m;split at z
 .next v u e=>
  have:v=p.2:=by simpa using z
  subst this;show#[u,mg_of X G e]
 .cases z
theorem Yc {t:Tx}(X:K.In h) (G:h.Ns mainGlobals mg) (z:Kx K t.bl=ah) (g:Ky K t.gl=ah) (y:Kw K=ah):Z9 K mg t:=
 #[On X G g,Ge X G z,C0 y zj,C0 y zj,C0 y zj,C0 y zj]
theorem SF {l:PySem.W.OpenLaw}{fa:ak}{k:Nat}(cl:Nat->ak) (yk:mg "law"=ae (.ref fa)) (D:Def K mg "law" st ["_law_script"])
 (hB:∀ (fd:FuncData) (f:ak),qj K "law" "law" st f fd->∀ (s:ax) (u:ai),BindsTo s fd #[[u],[]] [("_law_script",u)])
 (H:∀ base:aK,K.In base->base.Ns mainGlobals mg->∃ kk,rh l.prog w K mg base cl kk "law" ["_law_script"] fn /\ kk<=k) :
 ∃ (cl:Nat->ak) (fd:FuncData),(∀ (s:ax) (u:ai),BindsTo s fd #[[u],[]] [("_law_script",u)]) /\ ∀ base:aK,K.In base->base.Ns mainGlobals mg->kC l.prog w K mg base (qk l.prog w) k fa fd ["_law_script"] (tV cl 1 fn):=
 VQ cl yk D hB λbase a b=>by
  let#[kk,#[f,fd,ok,r],le]:=H base a b;show#[f,fd,ok.mono le,r]
def a7 (K:Frag) (x:Str) (st:b9):zt:=∃ (f:ak) (oc:ai) (od:Option ak) (kV dc pm:ai) (an:Option ak) (cd ct:ai) (sl:Array<|Option ai),nsIn K mainGlobals x=ae (ae<|.ref f) /\
 K.lookup f=ae #[oc,od,.func<|fnOf x x (jj st) (gW st) (fR st) .none kV dc pm an cd ct,sl] /\ codeIn K cd x=ah /\ keepIn K (.ref f)=ah
theorem dIn_mk {f:ak}{oc:ai}{od:Option ak}{kV dc pm:ai}{an:Option ak}{cd ct:ai}{sl:Array (Option ai)}(a:nsIn K mainGlobals x=ae (ae<|.ref f))
 (l:K.lookup f=ae #[oc,od,.func<|fnOf x x (jj st) (gW st) (fR st) .none kV dc pm an cd ct,sl]) (c:codeIn K cd x=ah) (k:keepIn K (.ref f)=ah):a7 K x st:=#[f,oc,od,kV,dc,pm,an,cd,ct,sl,a,l,c,k]
noncomputable def aaa (a:Arguments) (ps:List Str):Bool:=a.posonlyargs.isEmpty&&a.vararg.isNone&&a.kwonlyargs.isEmpty&&a.kwarg.isNone&&decide (a.args.map (·.arg)=ps)&&decide ps.Nodup
theorem AH {β:Type}{f g:Str->Option β}:∀ {l:List Str},(∀ n∈l,f n=g n)->l.filterMap f=l.filterMap g:=by
 intro l_;induction l_ with
 |nil=>show λ_=>rfl
 |cons n l az=>(intro h;rw[qB,qB,h n<|bC ..,az λm q=>h m<|bu _ q])
theorem Fn:∀ {ps:List Str}{us:List ai},us.length=ps.length->ps.Nodup->(∀ n∈ps,((ps.zip us).lookup n).isNone=af) /\ ps.filterMap (λn=>((ps.zip us).lookup n).map (n,·))=ps.zip us
 |[],_,_,_=>#[(λ_ h=>nomatch h),rfl]
 |p::ps,[],h,_=>by cases h
 | p::ps,u::us,h,nd=>by
   let#[n1,n2]:=tK.mp nd;let#[a,b]:=Fn (by simpa using h) n2;have ne:∀ n∈ps,(n==p)=af:=λn m=>beq_eq_false_iff_ne.mpr λz=>n1<|z▸m;refine#[λn m=>?_,?_]
   .rw[vj,ku];cases q:n==p with
    |true=>rfl
    |false=>
      rcases bq.mp m with z|z
      .rw[z]at q;simp at q
      .show a n z
   .rw[vj,List.filterMap_cons_some (b:=(p,u)) zj];congr 1;refine Eq.trans ?_ b;show AH λn m=>by rw[ku,ne n m]
theorem Gf {a:Arguments}{b:List b9}{sc:bT}{ps:List Str}(h:aaa a ps=ah) (kV doc pm:ai) (an:Option ak) (bH ct:ai) (us:List ai) (hl:us.length=ps.length) :
 bindArgs (fnOf x x a b sc .none kV doc pm an bH ct) #[us,[]]=pure (ps.zip us):=by
 let#[po,ar,va,ko,kd,kw,df]:=a;simp[aaa,aI,decide_eq_true_eq,List.isEmpty_iff,Option.isNone_iff_eq_none]at h;let#[#[#[#[#[rfl,rfl],rfl],rfl],rfl],nd]:=h;let#[z1,z2]:=Fn hl nd;erw[bindArgs];have m0:∀ l:List Str,(∀ n∈l,n∈ar.map _)->l.filter (λn=>(((ar.map _).zip us).lookup n).isNone)=[]:=λl h=>List.filter_eq_nil_iff.mpr λn m=>by rw[z1 n<|h n m];decide
 have n0:(do notAStandIn Value.none;pure (ag:Option<|Array ai))=pure ag:=rfl;erw[aa8,ng,uC,yC,pure_bind,seqItems?,n0,hl,hZ,decide_false,Ha,Hb,if_false,Q9,List.drop_nil,p6,QP,Hi,List.drop_length,aa6,m0 _ λ_ h=>h,List.isEmpty_nil,Bool.not_true,z2]
noncomputable def AllIn (K:Frag):List FI->zt
 |[]=>True
 |f::r=>a7 K f.x f.st /\ AllIn K r
theorem aew {K:Frag}{h:aK}{mg:Str->Option ai}(X:K.In h) (G:h.Ns mainGlobals mg):∀ {l:List FI},AllIn K l->(l.all λf=>aaa (jj f.st) f.ps)=ah->∀ f∈l,Def K mg f.x f.st f.ps
 |[],_,_=>λ_ m=>nomatch m
 | g::r,d,q=>λf m=>by
   rw[tu,aI]at q;rcases bq.mp m with rfl|m
   .let#[f,oc,od,kV,dc,pm,an,cd,ct,sl,a,l,c,k]:=d.1;show VP X G a l c k λfd F=>F.binds<|Gf q.1
   .show aew X G d.2 q.2 f m
end L2.DL
namespace K23
open L2 L2.DL
noncomputable section
def top (i:Nat):b9:=PySem.Challenge.pw_rimehold_k23_when_it_is_spoilt.main.body.getD i<|.Pass #[0,0,0,0]
noncomputable def tx:L2.DL.Tx:=#["_law_script",[("COLDEST",3),("MOST_OUTS",4),("MOST_PAGES",16),("LAST_LOT",9)],["all","any","bool","dict","int","isinstance","len","list","max","min","range","repr","set","sorted","tuple","zip"]]
def i0:FI:=#["_law_pot",["_law_cell"],["_law_cell","_law_number","_law_j","_law_more"],[],[],[],1,top 57,K1.jV]
def i1:FI:=#["_law_take",["_law_pot_here","_law_far_here"],["_law_pot_here","_law_far_here","_law_found"],[],[],[],0,top 58,K1.fr]
def i2:FI:=#["_law_kind_of",["_law_pot_here"],["_law_pot_here","_law_top","_law_rates"],[],[],[],0,top 60,K1.gZ]
def i3:FI:=#["_law_house",["_law_pot_here"],["_law_pot_here","_law_rooms","_law_kinds","_law_pairs","_law_other"],[],[],[],0,top 61,aJ.iT]
def i4:FI:=#["_law_mixed",["_law_pot_here","_law_some"],["_law_pot_here","_law_some","_law_left"],["_law_left"],[],[],0,top 59,aJ.jZ]
def i5:FI:=#["_law_page",["_law_pot_here","_law_house_here","_law_near"],["_law_pot_here","_law_house_here","_law_near","_law_hour","_law_lot","_law_room","_law_way","_law_ripe"],[],[],[],0,top 63,aJ.gU]
def i6:FI:=#["_law_pages",["_law_pot_here","_law_house_here","_law_most","_law_near"],["_law_pot_here","_law_house_here","_law_most","_law_near","_law_found","_law_turn","_law_page_here"],["_law_found"],[],[("_law_found",3)],0,top 64,aJ.iU]
def i7:FI:=#["_law_far",["_law_pot_here","_law_outs_here","_law_pages_here"],["_law_pot_here","_law_outs_here","_law_pages_here","_law_by","_law_later"],[],[],[],0,top 65,K2.jW]
def i8:FI:=#["_law_cell_at",["_law_script","_law_k"],["_law_script","_law_k"],[],[],[],0,top 56,K1.gY]
def i9:FI:=#["_law_outs",["_law_pot_here","_law_near"],["_law_pot_here","_law_near","_law_found","_law_begin","_law_turn"],["_law_found"],[],[],0,top 62,K2.jn]
def Kz:FI:=#["_law_mates",["_law_house_here","_law_there","_law_kind"],["_law_house_here","_law_there","_law_kind","_law_found","_law_lot","_law_other"],["_law_found"],["_law_there"],[],0,top 67,aJ.gm]
def KA:FI:=#["_law_read_one",["_law_house_here","_law_box","_law_page_here"],["_law_house_here","_law_box","_law_page_here","_law_hour","_law_word","_law_lot","_law_there","_law_kind","_law_room"],["_law_there"],["_law_there","came","gone","there"],[("doors",3)],0,top 68,aJ.gH]
def i12:FI:=#["_law_read",["_law_house_here","_law_pages_here"],["_law_house_here","_law_pages_here","_law_box","_law_page_here"],[],["_law_box"],[("doors",3)],0,top 69,aJ.jp]
def KC:FI:=#["_law_there_at",["_law_box","_law_hour"],["_law_box","_law_hour","_law_found","_law_when","_law_there"],[],["_law_found"],[("at",2)],0,top 70,cD.f7]
def KD:FI:=#["_law_cold",["_law_house_here","_law_outs_here","_law_room","_law_hour"],["_law_house_here","_law_outs_here","_law_room","_law_hour","_law_cold_here","_law_begin","_law_end"],[],[],[],0,top 66,K2.lE]
def KG:FI:=#["_law_gain",["_law_house_here","_law_outs_here","_law_box","_law_kind","_law_room","_law_hour"],["_law_house_here","_law_outs_here","_law_box","_law_kind","_law_room","_law_hour","_law_cold_here"],[],[],[("doors",3)],0,top 71,K23.jq]
def KH:FI:=#["_law_spoils",["_law_house_here","_law_outs_here","_law_box","_law_lot","_law_last"],["_law_house_here","_law_outs_here","_law_box","_law_lot","_law_last","_law_page_here","_law_limit","_law_rates","_law_ripe","_law_hour","_law_there","_law_room","_law_rate"],[],["_law_there","_law_there_at","came"],[],0,top 72,K23.iI]
def KI:FI:=#["is_tuple",["thing","fewest","most"],["thing","fewest","most"],[],[],[],0,top 11,K1.f9]
def KJ:FI:=#["is_whole",["thing"],["thing"],[],[],[],0,top 8,K1.jm]
def KL:FI:=#["is_within",["thing","least","greatest"],["thing","least","greatest"],[],[],[],0,top 9,K1.fY]
def KN:FI:=#["are_rooms",["thing"],["thing"],[],[],[],0,top 18,K1.jR]
def KO:FI:=#["are_rates",["thing"],["thing"],[],[],[],0,top 21,K1.jS]
def KR:FI:=#["is_kind",["thing"],["thing"],[],[],[],0,top 20,K1.mE]
def KS:FI:=#["are_kinds",["thing"],["thing"],[],[],[],0,top 19,K1.jT]
def KU:FI:=#["is_rising",["things"],["things"],[],[],[],0,top 12,K1.gX]
def KW:FI:=#["is_pair_apart",["thing","many"],["thing","many"],[],[],[],0,top 23,K1.iA]
def KY:FI:=#["are_apart",["thing","many"],["thing","many"],[],[],[],0,top 22,K1.jU]
def KZ:FI:=#["is_house",["thing"],["thing","rooms","kinds","apart","hold"],[],[],[],0,top 17,K1.lD]
def K0:FI:=#["need_house",["thing"],["thing"],[],[],[],0,top 24,bM.iH]
def K3:FI:=#["lie_apart",["outs"],["outs"],[],[],[],0,top 27,K2.jX]
def K4:FI:=#["is_hour",["thing"],["thing"],[],[],[],0,top 10,K2.iB]
def K5:FI:=#["is_out",["thing"],["thing"],[],[],[],0,top 26,K2.oG]
def K6:FI:=#["are_outs",["house","thing"],["house","thing"],[],[],[],0,top 25,K23.lI]
def K7:FI:=#["need_outs",["house","thing"],["house","thing"],[],[],[],0,top 28,K23.j7]
def K8:FI:=#["greatest_parts",["house","word"],["house","word","last_kind","last_room"],[],[],[],0,top 35,aJ.g9]
def K9:FI:=#["is_page",["house","thing"],["house","thing","greatest"],[],[],[],0,top 36,aJ.j0]
def Qa:FI:=#["are_pages",["house","thing"],["house","thing"],[],[],[],0,top 37,aJ.j5]
def Qb:FI:=#["need_pages",["house","thing"],["house","thing"],[],[],[],0,top 38,aJ.jz]
def Qc:FI:=#["need_lot_of",["house","outs","pages","lot"],["house","outs","pages","lot"],[],[],[],0,top 48,K23.ia]
def Qd:FI:=#["need_hour",["thing"],["thing"],[],[],[],0,top 13,K23.j8]
def Qe:FI:=#["room_entered",["page"],["page"],[],[],[],0,top 40,aJ.fP]
def Qf:FI:=#["may_share",["house","kind","other"],["house","kind","other"],[],[],[],0,top 31,aJ.iV]
def Qg:FI:=#["word_for",["house","kinds","rooms","page"],["house","kinds","rooms","page","deed","lot","room","kind","neighbours"],[],["kinds","rooms"],[],0,top 41,aJ.iM]
def Qh:FI:=#["read",["house","pages"],["house","pages","told","kinds","rooms","page","lot","word"],["kinds","rooms","told"],["kinds","rooms"],[],0,top 39,aJ.Cw]
def Qi:FI:=#["steps_taken",["house","pages"],["house","pages"],[],[],[],0,top 42,cD.gJ]
def Qj:FI:=#["coming_of",["steps","lot"],["steps","lot","page","left","entered"],[],[],[],0,top 49,K23.ic]
def Qk:FI:=#["hours_of_change",["house","outs"],["house","outs","hours","begin","end"],["hours"],[],[],1,top 30,K23.gO]
def Ql:FI:=#["rooms_behind",["steps","hour"],["steps","hour","rooms","page","left","entered"],["rooms"],["rooms"],[],0,top 43,cD.iP]
def Qm:FI:=#["cold_by_outs",["house","outs","room","hour"],["house","outs","room","hour","cold","begin","end"],[],[],[],0,top 29,K2.iO]
def Qn:FI:=#["is_opened",["steps","room","hour"],["steps","room","hour"],[],[],[],0,top 44,K23.iW]
def Qo:FI:=#["points_in",["house","outs","steps","coming","hour"],["house","outs","steps","coming","hour","rooms","room","cold"],[],["rooms"],[],0,top 51,K23.iX]
def Qp:FI:=#["stretches",["house","outs","steps","coming"],["house","outs","steps","coming","hours","page","left","entered","begins","ends"],["hours"],[],[],0,top 52,K23.iY]
def Qq:FI:=#["ripe_at",["house","outs","steps","coming","hour"],["house","outs","steps","coming","hour","ripe","begin","end","points","until"],[],[],[],0,top 53,K23.mI]
def Qr:FI:=#["ripeness",["house","outs","pages","lot","hour"],["house","outs","pages","lot","hour","steps","coming"],[],[],[],0,top 46,K23.jr]
def Qs:FI:=#["_law_just_then",["_law_house_here","_law_outs_here","_law_pages_here","_law_page_here","_law_due"],["_law_house_here","_law_outs_here","_law_pages_here","_law_page_here","_law_due","_law_limit","_law_lot"],[],[],[],0,top 73,K23.gK]
def Qt:FI:=#["limit_of",["house","coming"],["house","coming"],[],[],[],0,top 50,K23.jt]
def Qu:FI:=#["hour_spoilt",["house","outs","steps","coming"],["house","outs","steps","coming","lacking","begin","end","points","reached"],[],[],[],0,top 54,K23.jf]
def Qv:FI:=#["spoilt_at",["house","outs","pages","lot"],["house","outs","pages","lot","steps","coming"],[],[],[],0,top 47,K23.iZ]
def ym:FI:=#["law",["_law_script"],["_law_script","_law_k","_law_pot_here","_law_house_here","_law_some","_law_outs_here","_law_pages_here","_law_by","_law_box","_law_kept","_law_last","_law_lot","_law_due"],[],["came"],[],0,top 74,K23.Cz]
noncomputable def r0:List FI:=[]
def r1:List FI:=i0::r0
def r2:List FI:=i1::r1
def r3:List FI:=i2::r2
def r4:List FI:=i3::r3
def r5:List FI:=i4::r4
def r6:List FI:=i5::r5
def r7:List FI:=i6::r6
def r8:List FI:=i7::r7
def r9:List FI:=i8::r8
def IC:List FI:=i9::r9
def aex:List FI:=Kz::IC
def aey:List FI:=KA::aex
def aez:List FI:=i12::aey
def aeA:List FI:=KC::aez
def aeB:List FI:=KD::aeA
def aeC:List FI:=KG::aeB
def aeD:List FI:=KH::aeC
def aeE:List FI:=KI::aeD
def aeF:List FI:=KJ::aeE
def aeG:List FI:=KL::aeF
def aeH:List FI:=KN::aeG
def aeI:List FI:=KO::aeH
def aeJ:List FI:=KR::aeI
def aeK:List FI:=KS::aeJ
def aeL:List FI:=KU::aeK
def aeM:List FI:=KW::aeL
def aeN:List FI:=KY::aeM
def aeO:List FI:=KZ::aeN
def aeP:List FI:=K0::aeO
def aeQ:List FI:=K3::aeP
def aeR:List FI:=K4::aeQ
def aeS:List FI:=K5::aeR
def aeT:List FI:=K6::aeS
def aeU:List FI:=K7::aeT
def aeV:List FI:=K8::aeU
def aeW:List FI:=K9::aeV
def aeX:List FI:=Qa::aeW
def aeY:List FI:=Qb::aeX
def aeZ:List FI:=Qc::aeY
def ae0:List FI:=Qd::aeZ
def ae1:List FI:=Qe::ae0
def ae2:List FI:=Qf::ae1
def ae3:List FI:=Qg::ae2
def ae4:List FI:=Qh::ae3
def ae5:List FI:=Qi::ae4
def ae6:List FI:=Qj::ae5
def ae7:List FI:=Qk::ae6
def ae8:List FI:=Ql::ae7
def ae9:List FI:=Qm::ae8
def afa:List FI:=Qn::ae9
def afb:List FI:=Qo::afa
def afc:List FI:=Qp::afb
def afd:List FI:=Qq::afc
def afe:List FI:=Qr::afd
def aff:List FI:=Qs::afe
def afg:List FI:=Qt::aff
def afh:List FI:=Qu::afg
def afi:List FI:=Qv::afh
def Qw:List FI:=ym::afi
theorem q0:i0.Is tx r0:=(by kernel_rfl:i0.fn=i0.body tx _)
theorem q1:i1.Is tx r1:=(by kernel_rfl:i1.fn=i1.body tx _)
theorem q2:i2.Is tx r2:=(by kernel_rfl:i2.fn=i2.body tx _)
theorem q3:i3.Is tx r3:=(by kernel_rfl:i3.fn=i3.body tx _)
theorem q4:i4.Is tx r4:=(by kernel_rfl:i4.fn=i4.body tx _)
theorem q5:i5.Is tx r5:=(by kernel_rfl:i5.fn=i5.body tx _)
theorem q6:i6.Is tx r6:=(by kernel_rfl:i6.fn=i6.body tx _)
theorem q7:i7.Is tx r7:=(by kernel_rfl:i7.fn=i7.body tx _)
theorem q8:i8.Is tx r8:=(by kernel_rfl:i8.fn=i8.body tx _)
theorem q9:i9.Is tx r9:=(by kernel_rfl:i9.fn=i9.body tx _)
theorem ajc:Kz.Is tx IC:=(by kernel_rfl:Kz.fn=Kz.body tx _)
theorem ajd:KA.Is tx aex:=(by kernel_rfl:KA.fn=KA.body tx _)
theorem aje:i12.Is tx aey:=(by kernel_rfl:i12.fn=i12.body tx _)
theorem ajf:KC.Is tx aez:=(by kernel_rfl:KC.fn=KC.body tx _)
theorem ajg:KD.Is tx aeA:=(by kernel_rfl:KD.fn=KD.body tx _)
theorem ajh:KG.Is tx aeB:=(by kernel_rfl:KG.fn=KG.body tx _)
theorem aji:KH.Is tx aeC:=(by kernel_rfl:KH.fn=KH.body tx _)
theorem ajj:KI.Is tx aeD:=(by kernel_rfl:KI.fn=KI.body tx _)
theorem ajk:KJ.Is tx aeE:=(by kernel_rfl:KJ.fn=KJ.body tx _)
theorem ajl:KL.Is tx aeF:=(by kernel_rfl:KL.fn=KL.body tx _)
theorem ajm:KN.Is tx aeG:=(by kernel_rfl:KN.fn=KN.body tx _)
theorem ajn:KO.Is tx aeH:=(by kernel_rfl:KO.fn=KO.body tx _)
theorem ajo:KR.Is tx aeI:=(by kernel_rfl:KR.fn=KR.body tx _)
theorem ajp:KS.Is tx aeJ:=(by kernel_rfl:KS.fn=KS.body tx _)
theorem ajq:KU.Is tx aeK:=(by kernel_rfl:KU.fn=KU.body tx _)
theorem ajr:KW.Is tx aeL:=(by kernel_rfl:KW.fn=KW.body tx _)
theorem ajs:KY.Is tx aeM:=(by kernel_rfl:KY.fn=KY.body tx _)
theorem ajt:KZ.Is tx aeN:=(by kernel_rfl:KZ.fn=KZ.body tx _)
theorem aju:K0.Is tx aeO:=(by kernel_rfl:K0.fn=K0.body tx _)
theorem ajv:K3.Is tx aeP:=(by kernel_rfl:K3.fn=K3.body tx _)
theorem ajw:K4.Is tx aeQ:=(by kernel_rfl:K4.fn=K4.body tx _)
theorem ajx:K5.Is tx aeR:=(by kernel_rfl:K5.fn=K5.body tx _)
theorem ajy:K6.Is tx aeS:=(by kernel_rfl:K6.fn=K6.body tx _)
theorem ajz:K7.Is tx aeT:=(by kernel_rfl:K7.fn=K7.body tx _)
theorem ajA:K8.Is tx aeU:=(by kernel_rfl:K8.fn=K8.body tx _)
theorem ajB:K9.Is tx aeV:=(by kernel_rfl:K9.fn=K9.body tx _)
theorem ajC:Qa.Is tx aeW:=(by kernel_rfl:Qa.fn=Qa.body tx _)
theorem ajD:Qb.Is tx aeX:=(by kernel_rfl:Qb.fn=Qb.body tx _)
theorem ajE:Qc.Is tx aeY:=(by kernel_rfl:Qc.fn=Qc.body tx _)
theorem ajF:Qd.Is tx aeZ:=(by kernel_rfl:Qd.fn=Qd.body tx _)
theorem ajG:Qe.Is tx ae0:=(by kernel_rfl:Qe.fn=Qe.body tx _)
theorem ajH:Qf.Is tx ae1:=(by kernel_rfl:Qf.fn=Qf.body tx _)
theorem ajI:Qg.Is tx ae2:=(by kernel_rfl:Qg.fn=Qg.body tx _)
theorem ajJ:Qh.Is tx ae3:=(by kernel_rfl:Qh.fn=Qh.body tx _)
theorem ajK:Qi.Is tx ae4:=(by kernel_rfl:Qi.fn=Qi.body tx _)
theorem ajL:Qj.Is tx ae5:=(by kernel_rfl:Qj.fn=Qj.body tx _)
theorem ajM:Qk.Is tx ae6:=(by kernel_rfl:Qk.fn=Qk.body tx _)
theorem ajN:Ql.Is tx ae7:=(by kernel_rfl:Ql.fn=Ql.body tx _)
theorem ajO:Qm.Is tx ae8:=(by kernel_rfl:Qm.fn=Qm.body tx _)
theorem ajP:Qn.Is tx ae9:=(by kernel_rfl:Qn.fn=Qn.body tx _)
theorem ajQ:Qo.Is tx afa:=(by kernel_rfl:Qo.fn=Qo.body tx _)
theorem ajR:Qp.Is tx afb:=(by kernel_rfl:Qp.fn=Qp.body tx _)
theorem ajS:Qq.Is tx afc:=(by kernel_rfl:Qq.fn=Qq.body tx _)
theorem ajT:Qr.Is tx afd:=(by kernel_rfl:Qr.fn=Qr.body tx _)
theorem ajU:Qs.Is tx afe:=(by kernel_rfl:Qs.fn=Qs.body tx _)
theorem ajV:Qt.Is tx aff:=(by kernel_rfl:Qt.fn=Qt.body tx _)
theorem ajW:Qu.Is tx afg:=(by kernel_rfl:Qu.fn=Qu.body tx _)
theorem ajX:Qv.Is tx afh:=(by kernel_rfl:Qv.fn=Qv.body tx _)
theorem ajY:ym.Is tx afi:=(by kernel_rfl:ym.fn=ym.body tx _)
theorem VR:Z8 tx Qw:=#[ajY,#[ajX,#[ajW,#[ajV,#[ajU,#[ajT,#[ajS,#[ajR,#[ajQ,#[ajP,#[ajO,#[ajN,#[ajM,#[ajL,#[ajK,#[ajJ,#[ajI,#[ajH,#[ajG,#[ajF,#[ajE,#[ajD,#[ajC,#[ajB,#[ajA,#[ajz,#[ajy,#[ajx,#[ajw,#[ajv,#[aju,#[ajt,#[ajs,#[ajr,#[ajq,#[ajp,#[ajo,#[ajn,#[ajm,#[ajl,#[ajk,#[ajj,#[aji,#[ajh,#[ajg,#[ajf,#[aje,#[ajd,#[ajc,#[q9,#[q8,#[q7,#[q6,#[q5,#[q4,#[q3,#[q2,#[q1,#[q0,trivial]]]]]]]]]]]]]]]]]]]]]]]]]]]]]]]]]]]]]]]]]]]]]]]]]]]]]]]]]]]
theorem VS:Ku Qw=ah:=by kernel_rfl
end
open PySem.W
theorem VT {l:PySem.W.OpenLaw}{fa:ak}(X:K.In h) (G:h.Ns mainGlobals mg) (yk:mg "law"=ae (.ref fa))
 (z0:Kx K tx.bl=ah) (g0:Ky K tx.gl=ah) (y1:Kw K=ah)
 (d0:a7 K "_law_pot"<|top 57)
 (d1:a7 K "_law_take"<|top 58)
 (d2:a7 K "_law_kind_of"<|top 60)
 (d3:a7 K "_law_house"<|top 61)
 (d4:a7 K "_law_mixed"<|top 59)
 (d5:a7 K "_law_page"<|top 63)
 (d6:a7 K "_law_pages"<|top 64)
 (d7:a7 K "_law_far"<|top 65)
 (d8:a7 K "_law_cell_at"<|top 56)
 (d9:a7 K "_law_outs"<|top 62)
 (ajZ:a7 K "_law_mates"<|top 67)
 (aj0:a7 K "_law_read_one"<|top 68)
 (aj1:a7 K "_law_read"<|top 69)
 (aj2:a7 K "_law_there_at"<|top 70)
 (aj3:a7 K "_law_cold"<|top 66)
 (aj4:a7 K "_law_gain"<|top 71)
 (aj5:a7 K "_law_spoils"<|top 72)
 (aj6:a7 K "is_tuple"<|top 11)
 (aj7:a7 K "is_whole"<|top 8)
 (aj8:a7 K "is_within"<|top 9)
 (aj9:a7 K "are_rooms"<|top 18)
 (aka:a7 K "are_rates"<|top 21)
 (akb:a7 K "is_kind"<|top 20)
 (akc:a7 K "are_kinds"<|top 19)
 (akd:a7 K "is_rising"<|top 12)
 (ake:a7 K "is_pair_apart"<|top 23)
 (akf:a7 K "are_apart"<|top 22)
 (akg:a7 K "is_house"<|top 17)
 (akh:a7 K "need_house"<|top 24)
 (aki:a7 K "lie_apart"<|top 27)
 (akj:a7 K "is_hour"<|top 10)
 (akk:a7 K "is_out"<|top 26)
 (akl:a7 K "are_outs"<|top 25)
 (akm:a7 K "need_outs"<|top 28)
 (akn:a7 K "greatest_parts"<|top 35)
 (ako:a7 K "is_page"<|top 36)
 (akp:a7 K "are_pages"<|top 37)
 (akq:a7 K "need_pages"<|top 38)
 (akr:a7 K "need_lot_of"<|top 48)
 (aks:a7 K "need_hour"<|top 13)
 (akt:a7 K "room_entered"<|top 40)
 (aku:a7 K "may_share"<|top 31)
 (akv:a7 K "word_for"<|top 41)
 (akw:a7 K "read"<|top 39)
 (akx:a7 K "steps_taken"<|top 42)
 (aky:a7 K "coming_of"<|top 49)
 (akz:a7 K "hours_of_change"<|top 30)
 (akA:a7 K "rooms_behind"<|top 43)
 (akB:a7 K "cold_by_outs"<|top 29)
 (akC:a7 K "is_opened"<|top 44)
 (akD:a7 K "points_in"<|top 51)
 (akE:a7 K "stretches"<|top 52)
 (akF:a7 K "ripe_at"<|top 53)
 (akG:a7 K "ripeness"<|top 46)
 (akH:a7 K "_law_just_then"<|top 73)
 (akI:a7 K "limit_of"<|top 50)
 (akJ:a7 K "hour_spoilt"<|top 54)
 (akK:a7 K "spoilt_at"<|top 47)
 (akL:a7 K "law"<|top 74) :
 ∃ (cl:Nat->ak) (fd:FuncData),(∀ (s:ax) (u:ai),BindsTo s fd #[[u],[]] [("_law_script",u)]) /\ ∀ base:aK,K.In base->base.Ns mainGlobals mg->kC l.prog w K mg base (qk l.prog w) 59 fa fd ["_law_script"] (tV cl 1 K23.Cz):=by
 have DF:=aew X G (l:=Qw) #[akL,akK,akJ,akI,akH,akG,akF,akE,akD,akC,akB,akA,akz,aky,akx,akw,akv,aku,akt,aks,akr,akq,akp,ako,akn,akm,akl,akk,akj,aki,akh,akg,akf,ake,akd,akc,akb,aka,aj9,aj8,aj7,aj6,aj5,aj4,aj3,aj2,aj1,aj0,ajZ,d9,d8,d7,d6,d5,d4,d3,d2,d1,d0,trivial] (by kernel_rfl);refine SF (λ_=>0) yk (DF ym<|bC ..) (λfd f F s u=>?_) λbase _ _=>?_
 .let#[#[oc,od,kV,doc,pm,an,bH,ct,qy,rfl,_,_],_]:=F;show .of_eq zc
 .show SE (Yc X G z0 g0 y1) Qw VR VS DF ym<|bC ..
end K23
end
structure PySem.W.Fast:Prop where(tw6446547673193325649 tw5478879492835114458 tw16518293109635003102 tw18075834087381176447 tw2828593144521787495 tw6424876361610264974 tw11485425112619545699 tw10315845519009710368 tw15092381318070745940 tw4139856827601036987 tw12798267955282700004 tw6629428982393675164 tw879810065594274247 tw14113143384028340350 tw14159523243603635774 tw3964195687136937647 tw11413167700299260489 tw15475524556601045997 tw2678802685135182818 tw1944688142936539107 tw7536138172166514031 tw3327880700452038127 tw6675350342516425190 tw5745868903605048166 tw17027613683612044687 tw181796317969256995 tw17444330064628354737 tw8921536250832765360 tw11532986108448874567 tw12062164607235911419 tw13314602507266488640 tw17878442929594920063 tw13790625575063547896 tw7986290455138272346 tw6801466514842954930 tw11527461128869076606 tw2704800622402973994 tw18172820469155032576 tw14286314742057145916 tw11743587927100830281 tw3190131048622116362 tw8849710853327290944 tw17364106123922190687 tw15828689273597399680 tw9426930149033673166 tw2781791643719633784 tw16478823150574746976 tw6275724814041786682 tw16006858648902767867 tw5330554900793851945 tw10639675477027803935 tw13556611037389559648 tw15172216557113804743 tw14688776143329224750 tw13124303880808051375 tw10445937276856930123 tw532214020129096503 tw12768025543528203870 tw1109770297393104311 tw2343919498543945678 tw7427552534690692479 tw10927271092438471919 tw2851911718179255840 tw9761784161464009114 tw14665692143398344685 tw4010842871901322980 tw10455174034531125224 tw836092641518211459 tw15550529411455020392 tw13769968807141972348 tw14894956794299196531 tw9046449091055145627 tw8960468830719897347 tw3182890327888381797 tw6338049567453086756 tw13903989496791614182 tw12766945953137430585 tw10026056133387059058 tw2392893761390046595 tw16808939490143993017 tw12227024781814851565 tw8225890477473609927 tw9436776238549040102 tw5532966080907792854 tw4695520450291550221 tw5263117250004397091 tw17463279887115481418 tw6977675277715274009 tw16691378375464398044 tw8951185634994614939 tw11056990729414940298 tw2389031225045267039 tw16480324119952772634 tw16606415287277113484 tw16998041033283961735 tw12520477967949992130 tw161961574554659535 tw1511786497001985345 tw6263174164620016797 tw16401822911964898116 tw14090555512017906307 tw15268652296968196247 tw7772371942225682430 tw16884880989238930457 tw16435302917274427757 tw2081232593051965923 tw11938726188681088069 tw7714504941572848137 tw2885450924874817970 tw5470954715601140346 tw10749676752731534835 tw4866624390225650278 tw8494938438561711901 tw10292221283160355977 tw11269047494999002313 tw2733358154540395717 tw11388439955187147711 tw14914051957922023637 tw2951459306423584954 tw2695175279996333918 tw8130221403149092028 tw16135864442052698519 tw9995712641599197212 tw13726112327750951638 tw11718698314835283045 tw13986403040892901613 tw9815690669852974251 tw18182837115046078703 tw2472006924796649071 tw11754349025109217990 tw9005853398628193906 tw5354941851525933383 tw6562626988039587203 tw7576793748108774250 tw17851844918688441041 tw13754497561252542792 tw11440920077882778979 tw16038000085274999919 tw2381303348575760132 tw17018347589475217358 tw17989247951077738895 tw14915864469978555525 tw15261698768677279795 tw7836282891618328725 tw17552045653832488977 tw4269024547541580226 tw17907588633957410430 tw10521062248779868262 tw5178529712693174692 tw3274753626963469705 tw257490760340500327 tw17308807592953303162 tw11510362803856384343 tw5415302779617863342 tw14461859374744508990 tw18088901044441933756 tw4493576206902947356 tw16945702423914938282 tw13400902468739094321 tw4142789992502480322 tw3059059964215900484 tw15551582765594863472 tw14364316656736611878 tw2616322242076814553 tw16306546472700102172 tw17910420457694039181 tw904995584271054102 tw827330548341910762 tw3359971856180708297 tw14653011492584140886 tw1032834835799354121 tw11711649286450977604 tw1586717412644732569 tw10233233787982656133 tw5101063633040910345 tw6683033549716872555 tw12699945251633586660 tw4074501681984416747 tw1981987597804100827 tw855327394697988815 tw11958280602800913951 tw12798539715893467507 tw2131309274499890966 tw3757423356572035673 tw12075880389181126922 tw13476376660214016143 tw4829594532208888329 tw9077929529473514356 tw3235362171627328841 tw18281843245408801908 tw11257561512462136515 tw2552483852665369555 tw5276014969591071382 tw12595769487651660043 tw1071443259126395941 tw2183086594038434650 tw8509623261301719184 tw6855135034952572999 tw8463981390742890896 tw2543481468712525263 tw11200536178321000407 tw17610753167553209565 tw16477503274996498029 tw10135067044038854101 tw7753622273806722410 tw3160553162586743183 tw15027941060803072233 tw8043228409403088640 tw7052087091659261696 tw3770909113847963644 tw1806788817664892349 tw10443895016484475476 tw9306691908798472170 tw4534535536673198046 tw3963083717865610202 tw2362065466756613616 tw11863237053616463514 tw7493273575757052741 tw625473775002203691 tw586504779395803641 tw16621359807673946981 tw16613723452059044516 tw15653741266830709423 tw1522757528642841930 tw13946036135734836654 tw7176054903212873074 tw16561197881333706292 tw15934928008350484314 tw16227743916667995406 tw17077976046854631268 tw13784701501201924510 tw13045777472765811306 tw839840542039359857 tw5911494929185786607 tw18352133747040168442 tw17818942608469959775 tw11976858880700902527 tw7516811747561735112 tw7849266564666401476 tw15907349996802168339 tw14748463617684532419 tw14118301444018037439 tw8204109895183720298 tw16743704243727392104 tw4504856980787202634 tw1300661573100351091 tw4290691874167924193 tw4121120348496590598 tw16749385173053415616 tw16165331155166330645 tw4409980689516550915 tw3249746084447853533 tw10948479219256269645 tw2926498634812067320 tw2434980934672780876 tw16020820962194950781 tw2086722307742074493 tw13659716992841005197 tw10326622407061371486 tw9754533497858636935 tw9279700441414316982 tw18075043821162047143 tw11637052670261853578 tw14896734905429481848 tw8334768697403657606 tw272773364854542269 tw10247590408466482425 tw11693076500192091527 tw11982033033245788033 tw14416278457396911602 tw4044631872279857450 tw7423847530679641691 tw7825170234298099785 tw1300540412045867810 tw9754043787563570523 tw3676660720891340150 tw5241119671081612079 tw4846351325596599576 tw4517747559918744561 tw1774251818673654444 tw17618611578130413122 tw16557726239506400007 tw17369559984992877850 tw16546328893006723652 tw71891253367648218 tw13568512975358749776 tw8419924803633707724 tw7190863280724322692 tw5587340447894306805 tw4405768586756247139 tw18155405576063521463 tw13655918779869180469 tw5136356746336656116 tw6923325925299856287 tw6188587490770843182 tw4355951757333233452 tw16041672600233426552 tw13363660326110105934 tw10599920301002032724 tw4336921142889532428 tw8630564220425003087 tw7483983766610579385 tw17929844437057227342 tw14590391847999945050 tw13465534416421911456 tw10589965685551028712 tw1109196497607695842:True)
open_top hdk23 for PySem.Challenge.rw_rimehold_k23_when_it_is_spoilt

set_option maxRecDepth 100000 in
set_option maxHeartbeats 0 in
theorem PySem.Challenge.cw_rimehold_k23_when_it_is_spoilt_holds : PySem.Challenge.rw_rimehold_k23_when_it_is_spoilt.Holds :=
 hdk23 (by
 k_fill
 refine L2.DL.walk_d (l:=PySem.Challenge.rw_rimehold_k23_when_it_is_spoilt) (k:=59) (fn:=K23.Cz) ⟨rfl,by decide,by decide,rfl⟩ rfl rfl (λw h Y=>PySem.W.kIn_of Y) ?kq_nl (λns h=>K23.law_true ns (by lia)) ?kq_F
 case kq_nl =>
  intro w;kernel_rfl
 case kq_F =>
  intro w mg fa h KX G hmg
  refine' K23.VT KX G hmg ?kq_z0 ?kq_g0 ?kq_y1 ?_ ?_ ?_ ?_ ?_ ?_ ?_ ?_ ?_ ?_ ?_ ?_ ?_ ?_ ?_ ?_ ?_ ?_ ?_ ?_ ?_ ?_ ?_ ?_ ?_ ?_ ?_ ?_ ?_ ?_ ?_ ?_ ?_ ?_ ?_ ?_ ?_ ?_ ?_ ?_ ?_ ?_ ?_ ?_ ?_ ?_ ?_ ?_ ?_ ?_ ?_ ?_ ?_ ?_ ?_ ?_ ?_ ?_ ?_
  (case kq_z0=>kernel_rfl)
  (case kq_g0=>kernel_rfl)
  (case kq_y1=>kernel_rfl)
  any_goals exact L2.DL.dIn_mk (by k_is) (by k_is) (by k_is) (by k_is)
 )
