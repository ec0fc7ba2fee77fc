import PyProof.Rows.All
import Wide.All
import OpenK.AllK
import Wide.FinOn
import Lean
import PyProof.EqAt
import PyProof.EqKinds
import PyProof.TupleCall
import PyProof.CodeObj
import PyProof.LongRange
import PyProof.Walks
import PyProof.ListMulRoad
import PyProof.ReprRoads
import PyProof.NeData
import PyProof.P3In
import PyProof.ZipIter
import PyProof.Draws
import PyProof.TupleIter
import PyProof.Rows.StrRules
import PyProof.CompUse
import PyProof.ListRange
import KE.KDictLaws
import PyProof.EnumFor
import PyProof.EnumMake
import PyProof.EnumStmt
import PyProof.ConsumeWalk
import KE.KMinKey
import PyProof.ListNew
import PyProof.Rows.SetFrom
import PyProof.WalksMore
import KE.KDictList
import PyProof.DictWalks
import KE.KDictOf
import PyProof.AttrMissSeq
import KE.KDictSum
import KE.KItemsList
import KE.KLam
import KE.KSortKey
import PySem.Challenge.RW_rimehold_k32_whole_elder_first_by_turns
set_option Elab.async false
set_option linter.all false
set_option maxRecDepth 100000
set_option maxHeartbeats 4000000
set_option exponentiation.threshold 3000
set_option hygiene false
set_option compiler.extract_closed false
local macro_rules|`(zA)=>`((dC (.int 3)))
local macro_rules|`(zz)=>`((gs.map enc))
local macro_rules|`(zy)=>`((.ListComp elt [⟨tg,iter,ifs,0⟩] scope pos))
local macro_rules|`(zu)=>`((aS (k9 (dB (d2 af eA (dV 11) (gz af fj))) (dB (d2 af aX (d2 af ax (d2 af ax (dV 6) (p6 zb)) zb) (dC (.str "out"))))) (fv (fE (d2 af ax (dV 11) (fm K1.fq 2 (ff (dV 2) (ff (dN af cE (ff (dV 11) fj)) fj)))) (fg 12)) (fv (fE (d2 af fO (qz af (dV 6) qZ (qy (p6 zb))) (gz af (ff (gn (ff (d2 af ax (d2 af ax (dV 6) (p6 zb)) zi) (ff (dC (.str "out")) (ff (dV 12) fj)))) fj))) (fg 6)) (aS (eJ (dB (fm K32.gh 4 (ff (dV 4) (ff (dV 5) (ff (dV 6) (ff (dV 7) fj))))))) (fK (dC (.bl af))) aW))) aW))
local macro_rules|`(zt)=>`((fv (aS (dB (d2 af eA (dV 7) (dC (.str "takes")))) (fv (fV (kh (dV 2) (gn (ff (dV 5) (ff (dV 7) (ff (dC .aC) (ff (dC .aC) fj))))))) Ki) aW) (fv (fV (kh (dV 2) (gn (ff (dV 5) (ff (dV 7) (ff (vH (dV 4) (dV 6)) (ff (fm aT.fM 1 (ff (dV 5) fj)) fj))))))) (fv (aS (dB (d2 af aX (d2 af ax (dV 5) zb) (dC (.str "in")))) (pM (dV 3) (dV 6) (d2 af ax (dV 5) (dC (.int 3)))) aW) (aS (dB (d2 af aX (d2 af ax (dV 5) zb) (dC (.str "out")))) (uS (dV 4) (dV 6)) (pM (dV 4) (dV 6) (fm aT.fM 1 (ff (dV 5) fj))))))))
local macro_rules|`(zr)=>`((k==NameKind.free&&env.scope.kind==.function&&env.kindOf n==ae .cell))
local macro_rules|`(zq)=>`((dC (.int 2)))
local macro_rules|`(zp)=>`((.lst (gs.map enc)))
local macro_rules|`(zo)=>`((J++os.map oP))
local macro_rules|`(zm)=>`((by simp;lia))
local macro_rules|`(zj)=>`((hs rs ks [] hd))
local macro_rules|`(zi)=>`((dC (.int 0)))
local macro_rules|`(zh)=>`((by decide))
local macro_rules|`(zg)=>`((.tup (op.map dP)))
local macro_rules|`(zf)=>`((by simp))
local macro_rules|`(ze)=>`((model X.prog X.w))
local macro_rules|`(zd)=>`((model prog w))
local macro_rules|`(zc)=>`((hs rs ks ps hd))
local macro_rules|`(zb)=>`((dC (.int 1)))
local macro_rules|`(za)=>`((by lia))
local macro_rules|`(zk)=>`(rfl)
local macro_rules|`(zw)=>`(Prop)
open Lean Parser.Tactic in
def zP:Nat->Syntax->MacroM (TSyntax `rcasesPat)
|0,_=>Macro.throwUnsupported
|n+1,s=>match s with
|`(#[$xs,*])=>do
  let ys<-xs.getElems.mapM fun x=>do`(rcasesPatLo|$(<-zP n x):rcasesPat)
  `(rcasesPat|⟨$ys,*⟩)
|`(_)=>`(rcasesPat|_)
|`($i:ident)=>if i.getId==`rfl then`(rcasesPat|rfl)else`(rcasesPat|$i:ident)
|_=>Macro.throwUnsupported
local macro_rules|`(tactic|let#[$xs,*]:=$e)=>do let p<-zP 9 (<-`(#[$xs,*]));`(tactic|obtain $p:rcasesPat:=$e)
local macro_rules|`(#[$x,$xs,*])=>`(⟨$x,$xs,*⟩)
local macro_rules|`(tactic|erw[$[$r:term],*]$[$l:location]?)=>`(tactic|simp only[$[$r:term],*]$[$l]?)
local macro_rules|`(tactic|ext $[$r:ident]*)=>`(tactic|rename_i $[$r:ident]*)
set_option hygiene true
noncomputable section
local macro_rules|`(tactic|show $a:term)=>`(tactic|exact $a)
variable {a it p:PySem.Addr}{o:PySem.Obj}{u:PySem.Value}{P prog:PySem.Program}{w:PySem.World}{h h' base:PySem.Heap}{x qual:PySem.Str}{e tg iter:PySem.Expr}{pins:List (PySem.Addr × PySem.Obj)}{t' j n ep:Nat}{ch fp r:List PySem.Addr}{N:List PySem.Str}{M:PySem.Model}{A:PySem.Around}{E Q:PySem.Value -> PySem.Shared -> zw}{t:PySem.SetTable}{α:Type}{R:PySem.Result -> PySem.Shared -> zw}{pos pos' apos:PySem.Pos}{K:PySem.W.Frag}{st:PySem.Stmt}{es ifs:List PySem.Expr}{vs us:List PySem.Value}{f:PySem.Value -> PySem.Value -> PySem.Sem PySem.Value}{mA mg:PySem.Str -> Option PySem.Value}{fd:PySem.FuncData}{ps:List (Int × Int)}{qJ sl:Array (Option PySem.Value)}{items:Array PySem.Value}{ns rl:List Int}{q:Int × List Int}{XP:(PySem.Str -> Option PySem.Value) -> PySem.Heap -> zw}{cl:Nat -> PySem.Addr}{bo:Bool}{hold:Int}{kl:List (Int × List Int)}
open PySem renaming wpAny_bind->ak,wpAny_pure->az,sizeLine_eq->bJ,wpAny_holding->dS,wpAny_newObj_type->eV,wpAny_call_entry->kE,wpAny_mono->ny,wpAny_field->nz,wpAny_rule->pQ,mem_of_lookup->pR,wpAny_truthy_bool->qK,codeAny_builtin->qL,wpAny_callSpecial?_slot->rN,wpAny_typeOf->rO,wpAny_seqItems->sL,wpAny_setField->sM,wpAny_Call_Name_kw->uf,wpAny_setField_rec->u4,wpAny_attempt->u5,plainId_quiet->u6,wpAny_askSetting->u7,wpAny_setState_of->vR,wpAny_standAt->xb,wpAny_load->xc,codeAny_mono->xf,wpAny_pyIter_list->xg,wpAny_newList->xh,call_meetsIn->xi,wpAny_fieldsOf->xj,wpAny_passesOwn->yQ,call_meets->yR,tupleKind_room_in1->yS,wpAny_of_eq->yT,wpAny_onRaise->yU,wpAny_pyIter_slot->yV,wpAny_isInstance->yW,intKind_is->yX,wpAny_setEntries_of->yY,wpAny_Name->HD,pushCells_keeps->HE,wpAny_Call_method->HF,wpAny_handled->HG,wpAny_throw->HI,isSubtype_stop->HJ,wpAny_isOneOf_valiter->HK,wpAny_loadName_local->Q0,wpAny_execs_nil->Q2,wpAny_pyNext_list_item->Q3,wpAny_pyNext_list_end->Q4,wpAny_call->Q5,concat_meets->Q6,noFill_tuple_add->Q7,seq_tuple_add->Q8,seqIndex_of->Q9,typeIs_int->W7,wpAny_runValue->W8,wpAny_updateSeq_pair->W9,wpAny_letGo->Xa,wpAny_newTuple->Xb,wpAny_pyIter_tuple->Xc,fits_of_scanBound->Xd,wpAny_typeNameOfWhole_valiter->Xe,wpAny_typeNameOf_valiter->Xf,wpAny_notOrdered_dict->Xg,wpAny_eqBool_int->ZX,wpAny_loadName_cell->ZY,wpAny_Constant_int->ZZ,wpAny_Compare1->Z0,wpAny_isTrue_Compare1->Z1,wpAny_execs_cons->Z2,wpAny_assign_Name->Z3,wpAny_bindName->Z4,wpAny_pyIter_range->Z5,rangeSize_one->Z6,intBits_le_64->Z7,name_of_addr->Z8,wpAny_sequenceKey->Z9,wpAny_Slice->aaa,wpAny_getItem_list_slice->aab,wpAny_alloc->aac,wpAny_comprehension_free->aad,codeAny_compStart_list->aae,wpAny_specialOf->aaf,wpAny_storeSet_of->aag,codeAny_of_tree->aah,sub_set_self->aai,entryFor_of_tree->aaj,entryFor_alias->aak,wpAny_setEpoch_of->aal,wpAny_updateSeq->aam,wpAny_dictEntries->aan,wpAny_dictEpoch->aao,wpAny_tryCatch->aap,callType_codes->aaq,kt_code_dict_new->aar,wpAny_evalAll_nil->aas
open Nat renaming le_refl->aI,ne_of_lt->bC,zero_le->cJ,le_trans->cT,lt_irrefl->kF,lt_of_lt_of_le->kN,le_of_lt->nC,lt_succ_of_lt->qf,lt_trans->rQ,ne_of_gt->u9,sub_self->vb,lt_succ_self->vc,le_succ->vd,le_of_not_lt->vS,le_of_eq->xk,le_add_right->xl,lt_or_ge->xm,not_lt_zero->HL,sub_zero->HM,lt_of_le_of_lt->HN,zero_add->Xh,min_eq_left->Xi,max_eq_right->aat,mod_lt->aau,lt_or_eq_of_le->aav,le_of_lt_succ->aaw,add_sub_cancel->aax,le_succ_of_le->aay
open List renaming map_cons->aM,length_map->aV,mem_cons_self->bw,mem_cons_of_mem->bG,map_map->bH,length_cons->bN,length_append->cB,size_toArray->cC,getElem?_eq_getElem->dj,map_append->dJ,append_assoc->eD,mem_cons->aZ,filterMap_cons->eW,append_nil->kG,nil_append->kH,getElem?_map->kQ,all_eq_true->cU,getElem?_append_left->kX,mem_append_right->nD,lookup_cons->nR,getElem_mem->ph,getElem?_append_right->pS,nodup_append->pw,not_mem_nil->qg,mem_append_left->qM,length_nil->qN,getElem?_set_self->rR,mem_of_getElem?->rS,mem_map_of_mem->rT,getElem?_set_ne->sN,prefix_refl->sO,getElem?_eq_none->sP,filter_cons->sQ,length_set->ug,all_cons->uh,nodup_cons->nE,length_filter_le->ui,pairwise_map->qh,any_cons->ve,find?_cons->vf,zip_cons_cons->vT,forIn_cons->xn,length_range->xo,ext_getElem?->xp,eq_nil_of_length_eq_zero->xq,any_eq_true->qi,filter_cons_of_neg->xr,filter_cons_of_pos->xt,exists_cons_of_length_pos->xu,all_map->xw,mem_of_find?_eq_some->xx,filter_congr->xy,length_take->yZ,prefix_append->y0,mem_singleton->c8,mergeSort_perm->Ea,forIn_nil->Eb,find?_some->Ec,filter_sublist->Ed,take_append->Ee,mem_append->dY,filter_filter->Ef,filter_append->Eg,length_drop->HP,reverse_cons->HQ,map_congr_left->HR,pairwise_mergeSort->HS,take_of_length_le->HU,getD_eq_getElem?_getD->HV,any_eq_false->Xj,of_mem_zip->Xk,length_replicate->Xl,replicate_succ->Xm,foldl_cons->Xn,cons_append->Xo,take_length->Xp,zipIdx_cons->Xq,map_snd_zip->Xr,any_map->Xt,map_nil->Xu,mem_map->aK,pairwise_cons->nS,getElem?_replicate->aaz,getElem?_take_of_lt->aaA,take_sublist->aaB,filterMap_map->aaC,flatten_cons->aaD,length_singleton->aaE,drop_zero->aaF,zipIdx_nil->aaG,forIn_toArray->aaH,pairwise_singleton->aaI,mapM_toArray->aaJ,getElem_of_mem->aaK,pairwise_append->xA,pairwise_lt_range->aaL,length_eraseIdx_of_lt->aaM,zip_nil_left->aaN,getElem?_cons_zero->aaO,set_set->aaP,map_id->aaQ,length_zip->aaR,filter_map->aaS,mem_filter->dq,length_flatten->aaT,sum_cons->aaU,drop_eq_nil_of_le->aaV,drop_eq_getElem_cons->aaW,filterMap_append->aaX,eq_nil_or_concat->aaY,isEmpty_iff->aaZ,head?_cons->aa0,filterMap_nil->aa1
open PySem.Heap renaming get?_push_of_some->aN,lt_size->bh,get?_push_size->bE,get?_update_self->sR,size_push->uj,get?_none_of_le->xC,get?_update_other->HW,size_update->aa2
open Bool renaming and_eq_true->aQ,false_ne_true->dM,eq_iff_iff->nT,not_eq_true'->uk,or_eq_true->xD,false_and->HX,false_eq_true->HY,and_self->aa3
open Option renaming bind_some->bV,map_some->sU,isSome_map->vg,getD_none->Xv,isNone_iff_eq_none->aa4
open PyProof.Rows renaming wpS_bind->cK,wpS_pure->eE,step_dedup->nU,size_push'->uo,listItems_at->xE,wpS_get->xF,wpS_forRange->xG,callWith_type1->HZ,slot_tuple_getitem->xH,listUpdate_at->Ia,kind_sorted->Ib,plain_sorted->Ic,entry_sorted->Ie,args_sorted1->Ig,slot_list_sort->Ih,entry_list_sort->Ii,args_list_sort->Ij,mirror_perm->Ik,wpS_reverse->Il,wpS_mono->Im,assignInOrder_cons->Xw,tail_any->Xx,subscriptTail_builtinR->Xy,wpS_lift->Xz,wpS_modify->XA,mem_zip_self->XB,seqEpoch_at->XC,pairsOf_size->XD,sortedHeap_old->XE,assignInOrder_nil->aa5,slicePart_none->aa6,entry_tuple_getitem->aa7,args_tuple_getitem->aa8,tupleItemsOf_->aa9,getItem_tuple->aba,get?_update_seq->abb,list_sort_tree->abc,sortedAll_at->abd,sortedAll_old->abe,lt_int->abf,pairsOf_toList->abg,sortedHeap_at->abh,boot_sorted->abi,evalArgs_empty->abj,callWith_builtin1->afb
open Array renaming length_toList->pB,getElem?_toList->sV,toList_append->XF,toList_push->XG,getElem?_eq_none->XH,getElem_toList->abk,toList_extract->abl
open Int renaming toNat_natCast->pC,le_refl->uq,mul_one->Io,eq_ofNat_of_zero_le->Ip,emod_lt_of_pos->XI,le_antisymm->abm,emod_nonneg->abn,ediv_nonneg->abo,zero_add->abp,mul_add->abq,mul_ediv_add_emod->abr
open PySem.Obj renaming data_mapFields->qO,isFreed_of_fields->xI,cls_mapFields->Eh
open PySem.W renaming kia_one->rV,kla_obj->Iq,kitx_list->abt,kitx_dict->abu,cellsFrom_some->abv
open PySem.Calls renaming spliced_nil->xK,spliced_cons->xM,callWith_builtin->Ei,call_function_entry->Ir,evalArgs_plain->XJ
open PyProof.Rows.KeyOrd renaming kle_refl->xO,kle_trans->Iu,kle_of_klt->Iv,kle_antisymm->abw
open PySem.Around renaming under_plainId->xQ
open PySem.F renaming plainAttrs_dict->Iw,slot_tuple_iterator_next->Iy,slot_zip_next->Ej,slot_tuple_add->XM,entry_tuple_add->XO,args_tuple_add_2->XQ,slot_dict_get->XR,slot_int_rmul->abx,slot_dict_delitem->aby,slot_dict_pop->abz,entry_dict_get->abA,args_dict_get_2->abB,plainAttrs_list->abC,entry_tuple_iterator_next->abD,args_tuple_iterator_next_1->abE,slot_zip_iter->abF,entry_zip_next->abG,args_zip_next_1->abH,slot_set_iter->abI,plain_list_iadd->abJ,slot_dict_values_iter->abK,slot_dict_valueiterator_next->XS,kt_called_dict->abL,kt_typeCall_dict_1->abM,entry_dict_init->abN,args_dict_init_2->abO,slot_dict_items->abP,slot_dict_values->abQ
open PySem.SeqAt.EqAt renaming int_int->XT,str_str->XU,int_str->abR,str_int->abS,none_bool->afc,none_int->afd,none_str->afe,bool_none->aff,bool_bool->afg,bool_int->afh,bool_str->afi,int_none->afj,int_bool->afk,str_none->afl,str_bool->afm
open PyProof.Rows.LSm renaming kept_iter->abT
open PySem.Code renaming quiet_builtin->abU
open List.Pairwise renaming imp_of_mem->abV,of_map->abW
open PyProof.Rows.F renaming entry_set_update_loop->abX,plain_set_update_loop->abY
open PySem.EqNone renaming eq_none_none->afn,eq_none_bool->afo,eq_none_int->afp,eq_none_str->afq,eq_bool_none->afr,eq_int_none->afs,eq_str_none->aft,ne_none_none->afu,ne_none_bool->afv,ne_none_int->afw,ne_none_str->afx,ne_bool_none->afy,ne_int_none->afz,ne_str_none->afA
open PySem.EqMixed renaming eq_bool_str->afB,eq_int_str->afC,eq_str_bool->afD,eq_str_int->afE,ne_bool_str->afF,ne_int_str->afG,ne_str_bool->afH,ne_str_int->afI
open PySem.AutoSeq1 renaming list_extend_list_list_0->afJ,sub_tuple_tuple->afK
open PySem.AutoListH renaming list___mul___list_int_3->afL
open PySem.SeqAt.RcNeAt renaming lists_lengths->afM
open PySem.SetTable renaming fits_plain_off->afN
open List.Perm renaming append_left->afO,of_eq->afP,eq_of_pairwise->afQ
open Function renaming comp_def->afR
open Option renaming some->ae,none->ag
open Bool renaming true->ah,false->af
open PySem renaming Value->aj,Shared->aq,Heap->aJ,Addr->ai,Expr->au,Around->kR,Stmt->cz,Program->dE,World->bY,Scope->bK,Pos->aG,Obj->bj
open PySem PySem.Spec PyProof.Rows
namespace L2
noncomputable abbrev Key:=Sum Int Str
noncomputable def vh:Key->aj->Bool
 |.inl k,v=>Value.isInt k v
 |.inr x,v=>Value.isStrOf x v
noncomputable def afS (w:bY):Key->Int
 |.inl k=>hashInt k
 |.inr x=>hashStr w x
theorem gf:∀ {k:Key}{v:aj},vh k v=ah->(∃ i t,k=Sum.inl i /\ v=Value.int i t) \/ (∃ x t,k=Sum.inr x /\ v=Value.str x t)
 | .inl i,v,h=>by
   let#[t,e]:=Value.isInt_shape h;show .inl #[i,t,rfl,e]
 | .inr x,v,h=>by
   let#[t,e]:=Value.isStrOf_shape h;show .inr #[x,t,rfl,e]
theorem GR (i:Int) (t:Tok):vh (.inl i) (.int i t)=ah:=by simp[vh,Value.isInt]
theorem GS (x:Str) (t:Tok):vh (.inr x) (.str x t)=ah:=by simp[vh,Value.isStrOf]
theorem Sm (a b:Int):decide ((Sum.inl a:Key)=Sum.inl b)=(a==b):=by
 by_cases e:a=b
 .subst e;simp
 .rw[decide_eq_false λq=>e<|Sum.inl.inj q];show(beq_eq_false_iff_ne.mpr e).symm
theorem Sn (a b:Str):decide ((Sum.inr a:Key)=Sum.inr b)=decide (a=b):=by
 by_cases e:a=b
 .simp
 .rw[decide_eq_false λq=>e<|Sum.inr.inj q,decide_eq_false e]
theorem So (a:Int) (b:Str):decide ((Sum.inl a:Key)=Sum.inr b)=af:=decide_eq_false λq=>nomatch q
theorem Sq (a:Str) (b:Int):decide ((Sum.inr a:Key)=Sum.inl b)=af:=decide_eq_false λq=>nomatch q
def dF (prog:dE) (w:bY):PySem.KeyKind prog w Key where
 is:=vh
 hash:=afS w
 inj:=λv a b ha hb=>by
  rcases gf ha with⟨i,t,rfl,rfl⟩|⟨x,t,rfl,rfl⟩
  .rcases gf hb with⟨j,u,rfl,e⟩|⟨y,u,rfl,e⟩
   .injection e with e1 _;rw[e1]
   .show nomatch e
  .rcases gf hb with⟨j,u,rfl,e⟩|⟨y,u,rfl,e⟩
   .show nomatch e
   .injection e with e1 _;rw[e1]
 byValue:=λk v h=>by
  rcases gf h with⟨i,t,rfl,rfl⟩|⟨x,t,rfl,rfl⟩<;>rfl
 pyHash:=λhv h=>by
  rcases gf hv with⟨i,t,rfl,rfl⟩|⟨x,t,rfl,rfl⟩
  .show wpAny_pyHash_int h
  .show wpAny_pyHash_str h
 eqBool:=λhu hv h=>by
  rcases gf hu with⟨i,t,rfl,rfl⟩|⟨x,t,rfl,rfl⟩
  .rcases gf hv with⟨j,u,rfl,rfl⟩|⟨y,u,rfl,rfl⟩
   .rw[Sm]at h;show ZX h
   .rw[So]at h;show abR i t y u _ _ _ _ h
  .rcases gf hv with⟨j,u,rfl,rfl⟩|⟨y,u,rfl,rfl⟩
   .rw[Sq]at h;show abS x t j u _ _ _ _ h
   .rw[Sn]at h;show wpAny_eqBool_str h
 «strs»:=λk x t v h=>by
  rcases gf h with⟨i,u,rfl,e⟩|⟨y,u,rfl,e⟩
  .show nomatch e
  .injection e with e1 _;subst e1;cases v<;>rfl
theorem CF (prog:dE) (w:bY) (i:Int) (t:Tok):(dF prog w).is (.inl i) (.int i t)=ah:=GR i t
theorem CG (prog:dE) (w:bY) (x:Str) (t:Tok):(dF prog w).is (.inr x) (.str x t)=ah:=GS x t
end L2
variable {xs:List (List L2.Key × PySem.Addr × PySem.Value)}
namespace L2
inductive V where
 |aC|bl (b:Bool)|int (i:Int)|str (x:Str)|qj (b:Array UInt8)|sW (b:UInt64)|ref (a:ai)|ty (n:String)
 deriving DecidableEq
noncomputable def RelV:V->aj->zw
 |.aC,u=>u=Value.none
 |.bl b,u=>u=Value.bool b
 |.int i,u=>∃ t,u=Value.int i t
 |.str x,u=>∃ t,u=Value.str x t
 |.qj b,u=>∃ t,u=Value.bytes b t
 |.sW b,u=>∃ t,u=Value.float b t
 |.ref a,u=>u=Value.ref a
 |.ty n,u=>u=Value.type n
abbrev Vals:List V->List aj->zw:=Paired RelV
theorem Vals.length {xs:List V}{us:List aj}(r:Vals xs us):xs.length=us.length:=Paired.length r
theorem Vals.get:∀ {xs:List V}{us:List aj}{i:Nat}{x:V},Vals xs us->xs[i]?=ae x->∃ u,us[i]?=ae u /\ RelV x u
 |_,_,_,_,.nil,e=>by simp at e
 |_,_,0,_,.cons r _,e=>by simp at e;subst e;show#[_,rfl,r]
 | _,_,i+1,x,.cons _ t,e=>by
   let#[u,h1,h2]:=Vals.get t (by simpa using e);show#[u,by simpa using h1,h2]
theorem Vals.set {x:V}{u:aj}(r:RelV x u):∀ {xs:List V}{us:List aj}(i:Nat),Vals xs us->Vals (xs.set i x) (us.set i u)
 |_,_,_,.nil=>.nil
 |_,_,0,.cons _ t=>.cons r t
 |_,_,i+1,.cons q t=>.cons q<|Vals.set r i t
theorem Vals.append:∀ {xs ys:List V}{us ws:List aj},Vals xs us->Vals ys ws->Vals (xs++ys) (us++ws)
 |_,_,_,_,.nil,s=>s
 |_,_,_,_,.cons r t,s=>.cons r<|Vals.append t s
theorem Vals.take:∀ {xs:List V}{us:List aj}(n:Nat),Vals xs us->Vals (xs.take n) (us.take n)
 |_,_,0,_=>.nil
 |_,_,_+1,.nil=>.nil
 |_,_,n+1,.cons r t=>.cons r<|Vals.take n t
theorem Vals.drop:∀ {xs:List V}{us:List aj}(n:Nat),Vals xs us->Vals (xs.drop n) (us.drop n)
 |_,_,0,r=>r
 |_,_,_+1,.nil=>.nil
 |_,_,n+1,.cons _ t=>Vals.drop n t
def pT:Option V->Option aj->zw
 |some v,ae u=>RelV v u
 |none,ag=>True
 |_,_=>False
def KV {κ:Type}:List (κ×V)->List (κ×aj)->zw:=Paired λ(p:κ×V) (q:κ×aj)=>p.1=q.1 /\ RelV p.2 q.2
noncomputable def kV:Key->V
 |.inl i=>.int i
 |.inr x=>.str x
inductive HO where
 /-- a list -/
 |lst (xs:List V)
 /-- a tuple (never changes) -/
 |tup (xs:List V)
 /-- a dict whose keys are ints and texts;one whose keys are tuples of ints and texts (the empty one is both) -/
 |dK (ao:List<|Key×V)|dT (ao:List<|List Key×V)
 /-- a set of ints: its members,its size -/
 |set (S:Int->Bool) (n:Nat)
 /-- an instance of the class at C,its dict at dx,its attributes -/
 |ins (C dx:ai) (fs:List<|Str×V)
 /-- the dict of the instance at x -/
 |own (x:ai)
 /-- the dict of an exception -/
 |xd (fs:List<|Str×V)
 /-- a bound method,f of x -/
 |met (f x:ai)
 /-- a range object lo,lo+1,.. below hi -/
 |Iz (lo hi:Int)
 /-- a thing that is known to the object (the akP;a dict while a loop walks it): read,never written while it is so -/
 |bP (o:bj) (u:HO)
 /-- a code afT table -/
 |eY (ps:Array aj)
 /-- any other thing,by what is ah of its one object (a def of akQ own: akR a S n:=HO.ext λh=>..) -/
 |ext (φ:aJ->zw)
noncomputable abbrev Hp:=ai->Option HO
noncomputable def upd (H:Hp) (a:ai) (o:HO):Hp:=λb=>if b=a then ae o else H b
theorem fF {H:Hp}{o:HO}:upd H a o a=ae o:=by unfold upd;rw[if_pos rfl]
theorem fC {H:Hp}{b:ai}{o:HO}(h:b≠a):upd H a o b=H b:=by unfold upd;rw[if_neg h]
theorem Vk {H:Hp}{b:ai}{o u:HO}(h:H a=ae o) (h':H b=ae u) (d:o≠u):a≠b:=by
 intro e;subst e;rw[h]at h';show d<|Option.some.inj h'
theorem gm {H:Hp}{b:ai}{o:HO}(h:H a=ae o) (h':H b=ag):a≠b:=by
 intro e;subst e;rw[h]at h';cases h'
section
variable (P:dE) (w:bY)
noncomputable def dg (H:Hp) (h:aJ) (a:ai):HO->zw
 |.lst xs=>xs.length<=sizeLine /\ ∃ (its:List aj) (n:Nat),Vals xs its /\ h.get? a=ae { cls:=.type "list",data:=.seq its.toArray n }
 |.tup xs=>xs.length<=sizeLine /\ ∃ its:List aj,Vals xs its /\ IsTup h a its.toArray
 |.dK ao=>ao.length<=sizeLine /\ (a==sysModules)=af /\ ∃ vs,KV ao vs /\ h.DictOf (dF P w) a vs
 |.dT ao=>ao.length<=sizeLine /\ (a==sysModules)=af /\ ∃ xs:List (List Key×ai×aj),
  Paired (λ(p:List Key×V) (q:List Key×ai×aj)=>p.1=q.1 /\ H q.2.1=ae (.tup<|p.1.map kV) /\ RelV p.2 q.2.2) ao xs /\
  ∃ o es ep,h.get? a=ae o /\ o.ExactDict /\ o.data=.dict es ep /\ es.toList=xs.map (entryOfKey<|tupleKind<|dF P w) /\ (xs.map (·.1)).Nodup
 |.set S n=>h.SetOf (intKind P w) a S n
 |.ins C dx fs=>H dx=ae (.own a) /\ fs.length<=1000 /\ dx≠a /\ h.get? a=ae (PySem.W.instObj C dx) /\
  ∃ mA,h.Ns1 dx mA /\ (∀ f,pT (fs.lookup f)<|mA f) /\ PySem.Within mA (fs.map (·.1))
 |.own _=>∃ o,h.get? a=ae o
 |.xd fs=>∃ mA,h.Ns1 a mA /\ ∀ f,pT (fs.lookup f) (mA f)
 |.Iz lo hi=>∃ t u v,h.get? a=ae { cls:=.type "range",data:=.fields (List.toArray [.int lo t,.int hi u,.int 1 v]) }
 |.bP o u=>h.get? a=ae o /\ dg H h a u
 |.eY ps=>h.get? a=ae { cls:=.none,data:=.fields ps }
 |.met f x=>h.get? a=ae (PySem.W.methodObj (.ref f)<|.ref x)
 |.ext φ=>φ h /\ (∃ o,h.get? a=ae o) /\ ∀ h1 h2:aJ,φ h1->(∀ o,h1.get? a=ae o->h2.get? a=ae o)->φ h2
def cW (H:Hp) (h:aJ):zw:=∀ a o,H a=ae o->dg P w H h a o
end
section
variable {H H':Hp} {o:HO}
theorem dg.lt (x:dg P w H h a o):a<h.objs.size:=by
 cases o with
 |lst xs=>let#[_,_,_,_,e]:=x;show bh e
 |tup xs=>let#[_,_,_,p]:=x;show p.lt
 |dK ao=>let#[_,_,_,_,o,_,_,e,_]:=x;show bh e
 |dT ao=>let#[_,_,_,_,o,_,_,e,_]:=x;show bh e
 |set S n=>let#[o,_,_,_,e,_]:=x;show bh e
 |ins C dx fs=>let#[_,_,_,e,_]:=x;show bh e
 |own y=>let#[_,e]:=x;show bh e
 |xd fs=>let#[_,#[_,_,_,e,_],_]:=x;show bh e
 |Iz lo hi=>let#[_,_,_,e]:=x;show bh e
 |bP ob u=>let#[e,_]:=x;show bh e
 |eY ps=>show bh<|x
 |met f y=>show bh<|x
 |ext φ=>let#[_,#[_,e],_]:=x;show bh e
theorem Paired.XW {α β:Type}{F G:α->β->zw}:∀ {l₁:List α}{l₂:List β},Paired F l₁ l₂->(∀ a b,F a b->G a b)->Paired G l₁ l₂
 |_,_,.nil,_=>.nil
 |_,_,.cons r t,f=>.cons (f _ _ r)<|Paired.XW t f
theorem dg.kY (x:dg P w H h a o) (k:∀ b u,(b=a \/ H b=ae (.own a))->h.get? b=ae u->h'.get? b=ae u)
 (ho:∀ b,H b=ae (.own a)->H' b=ae (.own a)) (ht:∀ b xs,H b=ae (.tup xs)->H' b=ae (.tup xs)):dg P w H' h' a o:=by
 induction o with
 |lst xs=>let#[z,its,n,r,e]:=x;show#[z,its,n,r,k _ _ (.inl zk) e]
 |tup xs=>let#[z,its,r,ob,e,c]:=x;show#[z,its,r,ob,k _ _ (.inl zk) e,c]
 |dK ao=>let#[z,y,vs,r,ob,es,ep,e,c]:=x;show#[z,y,vs,r,ob,es,ep,k _ _ (.inl zk) e,c]
 |dT ao=>
   let#[z,y,xs,r,ob,es,ep,e,c]:=x;show#[z,y,xs,Paired.XW r λp q z=>#[z.1,ht _ _ z.2.1,z.2.2],ob,es,ep,k _ _ (.inl zk) e,c]
 |set S n=>let#[ob,es,ep,t,e,c]:=x;show#[ob,es,ep,t,k _ _ (.inl zk) e,c]
 |ins C dx fs=>
   let#[d,z,ne,e,mA,#[od,es,ep,e2,c],r]:=x;show#[ho _ d,z,ne,k _ _ (.inl zk) e,mA,#[od,es,ep,k _ _ (.inr d) e2,c],r]
 |own y=>let#[ob,e]:=x;show#[ob,k _ _ (.inl zk) e]
 |xd fs=>let#[mA,#[od,es,ep,e,c],r]:=x;show#[mA,#[od,es,ep,k _ _ (.inl zk) e,c],r]
 |Iz lo hi=>let#[t,u,v,e]:=x;show#[t,u,v,k _ _ (.inl zk) e]
 |bP ob u ih=>let#[e,q]:=x;show#[k _ _ (.inl zk) e,ih q]
 |eY ps=>
   show k a _ (.inl zk) x
 |met f y=>
   show k a _ (.inl zk) x
 |ext φ=>let#[p,#[o,e],st]:=x;show#[st _ _ p λo q=>k _ _ (.inl zk) q,#[o,k _ _ (.inl zk) e],st]
theorem cW.lt (x:cW P w H h) (e:H a=ae o):a<h.objs.size:=(x a o e).lt
theorem cW.fresh (x:cW P w H h) (e:h.objs.size<=a):H a=ag:=by
 cases q:H a with
 |none=>rfl
 |some u=>show absurd (kN (x.lt q) e)<|kF _
theorem cW.kept (x:cW P w H h) (k:∀ b u,h.get? b=ae u->h'.get? b=ae u):cW P w H h':=λa o e=>
 (x a o e).kY (λb u _ q=>k b u q) (λ_ q=>q) λ_ _ q=>q
theorem cW.laid (x:cW P w H h) (k:∀ b u,h.get? b=ae u->h'.get? b=ae u) (hp:h.objs.size<=a) (new:dg P w (upd H a o) h' a o):cW P w (upd H a o) h':=λb u e=>by
 have hn:=x.fresh hp;by_cases hb:b=a
 .subst hb;rw[fF]at e;cases e;show new
 .rw[fC hb]at e;show(x b u e).kY (λc v _ q=>k c v q) (λc q=>by rw[fC<|gm q hn];show q) λc xs q=>by rw[fC<|gm q hn];show q
end
def Rd (H:Hp) (a:ai) (u:HO):zw:=H a=ae u \/ ∃ o,H a=ae (.bP o u)
theorem Rd.ok {H:Hp}{u:HO}(r:Rd H a u) (x:cW P w H h):dg P w H h a u:=by
 rcases r with r|⟨o,r⟩
 .show x a u r
 .let#[_,q]:=x a _ r;show q
noncomputable def Ek:Option HO->zw
 |some (.lst _)=>True
 |some (.dK _)=>True
 |some (.dT _)=>True
 |some (.set _ _)=>True
 |some (.ins _ _ _)=>True
 |some (.ext _)=>True
 |_=>False
section
variable {H:Hp} {x e:ai} {o':HO}
theorem cW.write (ok:cW P w H h) (mu:Ek<|H x) (he:e=x \/ H e=ae (.own x)) (k:∀ b u,b≠e->h.get? b=ae u->h'.get? b=ae u) (xR:∃ u,h'.get? e=ae u)
 (new:dg P w (upd H x o') h' x o'):cW P w (upd H x o') h':=λb u q=>by
 have abZ:∀ c y,H c=ae (.own y)->c≠x:=λc y r z=>by subst z;rw[r]at mu;show mu
 by_cases hb:b=x
 .subst hb;rw[fF]at q;cases q;show new
 .rw[fC hb]at q;by_cases vU:b=e
  .have q':H b=ae (.own x):=by
    rcases he with z|z
    .show absurd (vU.trans z) hb
    .rw[vU];show z
   rw[q]at q';cases q';let#[v,hv]:=xR;show#[v,by rw[vU];show hv]
  .refine(ok b u q).kY (λc v hc r=>k c v ?_ r) (λc r=>by rw[fC<|abZ c b r];show r) λc xs r=>by rw[fC<|(λc xs r z=>by subst z;rw[r]at mu;show mu) c xs r];show r
   rcases hc with rfl|hc
   .show vU
   .rintro rfl;rcases he with z|z
    .show abZ c b hc z
    .rw[hc]at z;cases z;show hb zk
end
structure Un (fs ex:List ai) (H H':Hp) (h h':aJ):zw where
 keep:∀ b o,h.get? b=ae o->H b=ag->b∉fs->b∉ex->h'.get? b=ae o
 slot:∀ b o,h.get? b=ae o->H b=ag->b∈fs->b∉ex->∃ sl,h'.get? b=ae { o with slots:=sl }
 free:∀ b o,h.get? b=ae o->H b=ag->b∉ex->H' b=ag
 there:∀ b o,h.get? b=ae o->b∉ex->∃ o',h'.get? b=ae o'
 rW:∀ b xs,H b=ae (.tup xs)->H' b=ae (.tup xs)
 qm:∀ b o u,H b=ae (.bP o u)->H' b=ae (.bP o u)
 qP:∀ b ps,H b=ae (.eY ps)->∃ more,H' b=ae (.eY<|ps++more)
section
variable {fs afU ex akS:List ai} {H H1 H2:Hp} {h1 h2:aJ} {x e:ai} {o:HO}
theorem Un.any (u:Un fs ex H H1 h h1) {b:ai}{ob:bj}(q:h.get? b=ae ob) (n:H b=ag) (hx:b∉ex):∃ sl,h1.get? b=ae { ob with slots:=sl }:=by
 by_cases hb:b∈fs
 .show u.slot b ob q n hb hx
 .show#[ob.slots,u.keep b ob q n hb hx]
theorem Un.kept (k:∀ b u,h.get? b=ae u->h'.get? b=ae u):Un fs ex H H h h' :=
 #[λb ob q _ _ _=>k b ob q,λb ob q _ _ _=>#[ob.slots,k b ob q],λ_ _ _ n _=>n,λb ob q _=>#[ob,k b ob q],λ_ _ q=>q,λ_ _ _ q=>q,λ_ ps q=>#[#[],by rw[q];simp]]
theorem Un.refl:Un fs ex H H h h:=Un.kept λ_ _ q=>q
theorem Un.laid (k:∀ b u,h.get? b=ae u->h'.get? b=ae u) (hp:h.objs.size<=a) (hn:H a=ag):Un fs ex H (upd H a o) h h' where
 keep:=λb u q _ _ _=>k b u q
 slot:=λb u q _ _ _=>#[u.slots,k b u q]
 free:=λb u q n _=>by rw[fC<|bC<|kN (bh q) hp];show n
 there:=λb u q _=>#[u,k b u q]
 rW:=λb xs q=>by rw[fC<|gm q hn];show q
 qm:=λb u xs q=>by rw[fC<|gm q hn];show q
 qP:=λb ps q=>#[#[],by rw[fC<|gm q hn,q];simp]
theorem Un.write (mu:Ek<|H x) (he:e=x \/ H e=ae (.own x)) (k:∀ b u,b≠e->h.get? b=ae u->h'.get? b=ae u) (xR:∃ u,h'.get? e=ae u):Un fs ex H (upd H x o) h h':=by
 have hx:∀ b,H b=ag->b≠x:=λb n z=>by subst z;rw[n]at mu;show mu
 have hb:∀ b,H b=ag->b≠e:=λb n z=>by
  subst z;rcases he with r|r
  .show hx b n r
  .rw[n]at r;cases r
 have hm:∀ b u,H b=ae u->¬ Ek (ae u)->b≠x:=λb u q nm z=>by subst z;rw[q]at mu;show nm mu
 refine#[λb u q n _ _=>k b u (hb b n) q,λb u q n _ _=>#[u.slots,k b u (hb b n) q],λb u q n _=>by rw[fC<|hx b n];show n,λb u q _=>?_,
  λb xs q=>by rw[fC<|hm b _ q λz=>z];show q,λb u xs q=>by rw[fC<|hm b _ q λz=>z];show q,λb ps q=>#[#[],by rw[fC<|hm b _ q λz=>z,q];simp]]
 by_cases vU:b=e
 .subst vU;show xR
 .show#[u,k b u vU q]
end
noncomputable def afV (h:aJ) (H:Hp):List ai:=(List.range h.objs.size).filter λa=>(H a).isSome
def ur (h:aJ) (H:Hp):aJ:=PySem.W.hideAll h<|afV h H
theorem GT (h:aJ) (H:Hp):(ur h H).objs.size=h.objs.size:=PySem.W.hideAll_size _ _
theorem J3 {H:Hp}{b:ai}(e:h.get? b=ae o) (n:H b=ag):(ur h H).get? b=ae o:=
 PySem.W.hideAll_get _ e λhm=>by
  have q:=(dq.mp hm).2;rw[n]at q;simp at q
theorem NM {H:Hp}{b:ai}(e:(ur h H).get? b=ae o):h.get? b=ae o /\ H b=ag:=by
 have e':=PySem.W.of_hideAll _ e;refine#[e',?_];cases q:H b with
 |none=>rfl
 |some x=>
   have z:(ur h H).get? b=ag:=PySem.W.hideAll_none _ (dq.mpr #[List.mem_range.mpr<|bh e',by simp[q]]);rw[z]at e;cases e
end L2
variable {H H' F F':L2.Hp}{v:L2.V}{ao:List (L2.Key × L2.V)}
namespace L2
structure Mod (K:PySem.W.Frag) (mg:Str->Option aj) (base:aJ):zw where
 vV:K.In base
 glob:base.Ns mainGlobals mg
 blt:∃ mb,base.Ns builtinsNs mb /\ ∀ x:Str,x ≠ "__name__"->mb x=bootBuiltins x
 nolimit:base.NoLimit
structure Cx where
 prog:dE
 w:bY
 K:PySem.W.Frag
 mg:Str->Option aj
 base:aJ
 A:kR
 N:List Str
 s₀:aq
 H₀:Hp
 env:Env
 outer:List Env
 stack:List Env
 ex:List ai
 fn:Str->Bool
 calm:Bool
 pn:List (ai×bj)
 xe:aj->aq->zw
noncomputable def qo (l:List Env):List ai:=l.filterMap (·.frame)
abbrev Cx.fs (X:Cx):List ai:=qo X.outer
def xS (sc:bK) (x:Str):zw:=sc.names.lookup x=ae .local \/ sc.names.lookup x=ae .cell \/ sc.names.lookup x=ae .free
def Loc (sc:bK) (x:Str):zw:=sc.names.lookup x=ae .local \/ sc.names.lookup x=ae .cell
def Look (env:Env) (h:aJ) (m:Str->Option aj) (x:Str) (u:aj):zw:=
 (env.kindOf x=ae .local /\ m x=ae u) \/ ((env.kindOf x=ae .cell \/ env.kindOf x=ae .free) /\ ∃ c,env.cells.lookup x=ae c /\ h.IsCell c (ae u))
structure Cx.Ok (X:Cx):zw where
 mod:Mod X.K X.mg X.base
 kind:X.env.scope.kind=.function
 glob:X.env.globals=mainGlobals
 blt:X.env.builtins=builtinsNs
 above:X.s₀.heap.objs.size<=X.env.locals
 inj:∀ x y c,X.env.cells.lookup x=ae c->X.env.cells.lookup y=ae c->x=y
 has:∀ x,(X.env.kindOf x=ae .cell \/ X.env.kindOf x=ae .free)->∃ c,X.env.cells.lookup x=ae c
 El:∀ x c,X.fn x=ah->X.env.cells.lookup x=ae c->X.s₀.heap.objs.size<=c
 hd:X.calm=ah->X.A.handled=ag
 frames:X.A.frames=ae X.stack
 IC:X.stack=X.outer \/ (X.stack=X.env::X.outer /\ X.env.frame=ae X.env.locals)
 xT:∀ b∈X.ex,b≠X.env.locals /\ ∀ x c,X.env.cells.lookup x=ae c->c≠b
 bs:∀ b o,X.base.get? b=ae o->X.s₀.heap.get? b=ae o /\ X.H₀ b=ag
 vW:X.base.objs.size<=X.s₀.heap.objs.size
 Em:∀ b o,X.base.get? b=ae o->b∉X.ex
 xV:∀ b∈X.ex,b∉X.fs
 rX:X.s₀.heap.FunFrames X.base X.outer
 xW:∀ b∈X.fs,X.H₀ b=ag
structure Inv (X:Cx) (pins:List<|ai×bj) (σ:List<|Option V) (H:Hp) (s:aq):zw where
 ok:X.Ok
 os:s.os=X.s₀.os
 bare:AllBare s.gens
 base:Un X.fs X.ex X.H₀ H X.s₀.heap s.heap
 loc:∃ m,s.heap.Ns X.env.locals m /\ ∀ (i:Nat) (x:Str) (v:V),X.N[i]?=ae x->σ[i]?=ae (ae v)->xS X.env.scope x->∃ u,RelV v u /\ Look X.env s.heap m x u
 cell:∀ x c,X.env.cells.lookup x=ae c->∃ v,s.heap.IsCell c v
 free:H X.env.locals=ag
 qQ:∀ x c,X.env.cells.lookup x=ae c->H c=ag
 pin:∀ p∈X.pn++pins,s.heap.get? p.1=ae p.2 /\ H p.1=ag /\ p.1≠X.env.locals /\ p.1∉X.fs /\ ∀ v,p.2.data≠.cell v
 aE:cW X.prog X.w H s.heap
 len:σ.length=X.N.length
section
variable {X:Cx} {σ:List (Option V)} {s:aq} 
theorem Cx.Ok.afW (ok:X.Ok) {b:ai}(e:X.base.get? b=ae o):b∉X.fs:=λhb=>by
 have:=(ok.rX.mem hb).1;rw[e]at this;cases this
theorem Inv.bs (I:Inv X pins σ H s):∀ b o,X.base.get? b=ae o->s.heap.get? b=ae o /\ H b=ag:=λb o e=>
 #[I.base.keep b o (I.ok.bs b o e).1 (I.ok.bs b o e).2 (I.ok.afW e)<|I.ok.Em b o e,I.base.free b o (I.ok.bs b o e).1 (I.ok.bs b o e).2<|I.ok.Em b o e]
theorem Inv.bk (I:Inv X pins σ H s):∀ b o,X.base.get? b=ae o->s.heap.get? b=ae o:=λb o e=>(I.bs b o e).1
theorem Inv.mod (I:Inv X pins σ H s):Mod X.K X.mg X.base:=I.ok.mod
theorem Inv.nF (I:Inv X pins σ H s):X.K.In s.heap:=I.ok.mod.vV.keeps I.bk
theorem Inv.lt (I:Inv X pins σ H s):X.env.locals<s.heap.objs.size:=let ⟨_,hn,_⟩:=I.loc;hn.lt
theorem Inv.sz (I:Inv X pins σ H s):X.s₀.heap.objs.size<=s.heap.objs.size:=cT I.ok.above<|nC I.lt
theorem Inv.afX (I:Inv X pins σ H s) (h:s.heap.objs.size<=a):a∉X.fs:=λhb=>by
 let#[_,o,ho,_]:=I.ok.rX.mem hb;show absurd (kN (bh ho)<|cT I.sz h)<|kF _
theorem Inv.vX (I:Inv X pins σ H s):∀ x c,X.env.cells.lookup x=ae c->c≠X.env.locals:=λx c e z=>by
 let#[v,o,ho,hd]:=I.cell x c e;let#[m,#[o',es,ep,eZ,En,_],_]:=I.loc;rw[z,eZ]at ho;cases ho;rw[En]at hd;cases hd
theorem Inv.rX (I:Inv X pins σ H s):s.heap.FunFrames X.base X.outer:=by
 have all:∀ (l),(∀ b∈qo l,b∈X.fs)->X.s₀.heap.FunFrames X.base l->s.heap.FunFrames X.base l:=by
  intro l;induction l with
  |nil=>intro _ _;trivial
  |cons env r ih=>
    intro hs hl;let#[hk,#[L,o,hf,hn,ho,hd],hr]:=hl;have hL:=hs L (by unfold qo;rw[eW,hf];show bw);let#[sl,e]:=I.base.slot L o ho (I.ok.xW L hL) hL λz=>I.ok.xV L z hL;show#[hk,#[L,_,hf,hn,e,hd],ih (λb hb=>hs b (by unfold qo;rw[eW,hf];show bG _ hb)) hr]
 show all X.outer (λ_ hb=>hb) I.ok.rX
theorem Inv.stack (I:Inv X pins σ H s):s.heap.FunFrames X.base X.stack:=by
 rcases I.ok.IC with e|⟨e,hf⟩
 .rw[e];show I.rX
 .rw[e];let#[m,hn,_]:=I.loc;show .cons (by rw[I.ok.kind];decide) hf hn (xC<|cT I.ok.vW I.ok.above) I.rX
theorem Inv.XX (I:Inv X pins σ H s):∀ b∈qo X.stack,b∈X.env.locals::X.fs:=λb hb=>by
 rcases I.ok.IC with e|⟨e,hf⟩
 .rw[e]at hb;show bG _ hb
 .rw[e]at hb;unfold qo at hb;rw[eW,hf]at hb;show hb
theorem Inv.ab0 (I:Inv X pins σ H s):∀ b∈qo X.stack,H b=ag:=λb hb=>by
 rcases aZ.mp (I.XX b hb) with e|hb
 .rw[e];show I.free
 .let#[_,o,ho,_]:=I.ok.rX.mem hb;show I.base.free b o ho (I.ok.xW b hb) λz=>I.ok.xV b z hb
theorem Inv.step {g':Array GenState}{d':Drawn}(I:Inv X pins σ H s)
 (sX:∀ b∈ch,(b∈X.ex \/ X.s₀.heap.objs.size<=b) /\ b≠X.env.locals /\ (∀ x c,X.env.cells.lookup x=ae c->c≠b) /\ ∀ p∈X.pn++pins,p.1≠b)
 (keep:∀ b o,b≠X.env.locals->b∉X.fs->b∉ch->s.heap.get? b=ae o->H b=ag->h'.get? b=ae o)
 (slot:∀ b o,b≠X.env.locals->b∈X.fs->b∉ch->s.heap.get? b=ae o->H b=ag->∃ sl,h'.get? b=ae { o with slots:=sl }) (free:∀ b o,b∉ch->s.heap.get? b=ae o->H b=ag->H' b=ag)
 (there:∀ b o,b∉ch->s.heap.get? b=ae o->∃ o',h'.get? b=ae o')
 (rW:∀ b xs,H b=ae (.tup xs)->H' b=ae (.tup xs)) (qm:∀ b o u,H b=ae (.bP o u)->H' b=ae (.bP o u)) (qP:∀ b ps,H b=ae (.eY ps)->∃ more,H' b=ae (.eY<|ps++more))
 (ns:∀ m,s.heap.Ns X.env.locals m->h'.Ns X.env.locals m) (aE:cW X.prog X.w H' h') (hg:AllBare g') :
 Inv X pins σ H' { s with heap:=h',gens:=g',drawn:=d',toks:=t' }:=by
 have ab1:∀ b o,X.s₀.heap.get? b=ae o->b≠X.env.locals:=λb o e=>bC<|kN (bh e) I.ok.above;have qT:∀ b o,X.s₀.heap.get? b=ae o->b∉X.ex->b∉ch:=λb o e hx hb=>by
  rcases(sX b hb).1 with z|z
  .show hx z
  .show absurd (kN (bh e) z)<|kF _
 have cellK:∀ x c,X.env.cells.lookup x=ae c->∀ v,s.heap.IsCell c v->h'.IsCell c v:=λx c e v ⟨o,ho,hd⟩=>by
  have rY:=λz=>(sX c z).2.2.1 x c e zk;by_cases hc:c∈X.fs
  .let#[sl,q]:=slot c o (I.vX x c e) hc rY ho<|I.qQ x c e;show#[_,q,hd]
  .show#[o,keep c o (I.vX x c e) hc rY ho<|I.qQ x c e,hd]
 refine#[I.ok,I.os,hg,#[λb o e n hb hx=>(keep b o (ab1 b o e) hb (qT b o e hx) (I.base.keep b o e n hb hx)<|I.base.free b o e n hx),λb o e n hb hx=>?_,λb o e n hx=>?_,λb o e hx=>?_,λb xs e=>rW b xs<|I.base.rW b xs e,λb o xs e=>qm b o xs<|I.base.qm b o xs e,λb ps e=>?_],?_,λx c e=>?_,?_,λx c e=>?_,λp hp=>?_,aE,I.len]
 .let#[sl,e1]:=I.base.slot b o e n hb hx;let#[afY,e2]:=slot b _ (ab1 b o e) hb (qT b o e hx) e1<|I.base.free b o e n hx;show#[afY,e2]
 .let#[o',e1]:=I.base.there b o e hx;show free b o' (qT b o e hx) e1<|I.base.free b o e n hx
 .let#[o',e1]:=I.base.there b o e hx;show there b o' (qT b o e hx) e1
 .let#[m1,e1]:=I.base.qP b ps e;let#[m2,e2]:=qP b _ e1;show#[m1++m2,by rw[e2,Array.append_assoc]]
 .let#[m,hn,hl]:=I.loc;refine#[m,ns m hn,λi x v e1 e2 e3=>?_];let#[u,r,l]:=hl i x v e1 e2 e3;refine#[u,r,?_];rcases l with l|⟨k,c,e,z⟩
  .show .inl l
  .show .inr #[k,c,e,cellK x c e _ z]
 .let#[v,z]:=I.cell x c e;show#[v,cellK x c e v z]
 .let#[m,#[o,_,_,ho,_],_]:=I.loc;show free _ o (λz=>(sX _ z).2.1 zk) ho I.free
 .let#[v,o,ho,hd]:=I.cell x c e;show free c o (λz=>(sX c z).2.2.1 x c e zk) ho<|I.qQ x c e
 .let#[e,n,ne,nf,d]:=I.pin p hp;have rY:=λz=>(sX p.1 z).2.2.2 p hp zk;show#[keep p.1 p.2 ne nf rY e n,free p.1 p.2 rY e n,ne,nf,d]
theorem Inv.un (I:Inv X pins σ H s) (u:Un X.fs [] H H' s.heap h') (aE:cW X.prog X.w H' h'):Inv X pins σ H' { s with heap:=h',toks:=t' }:=by
 let#[m,#[o,es,ep,ho,r],_]:=id I.loc;let#[sl,hL]:=u.any ho I.free zf;show I.step (ch:=[]) (λ_ z=>nomatch z) (λb o _ hb _ e n=>u.keep b o e n hb zf) (λb o _ hb _ e n=>u.slot b o e n hb zf) (λb o _ e n=>u.free b o e n zf) (λb o _ e=>u.there b o e zf) u.rW u.qm u.qP (λm' hm=>by
  let#[o',es',sY,eZ,r']:=hm;rw[ho]at eZ;cases eZ;show#[_,es',sY,hL,r']) aE I.bare
theorem Inv.call {g':Array GenState}{d':Drawn}(I:Inv X pins σ H s) (u:Un (qo X.stack) ch H H' s.heap h') (aE:cW X.prog X.w H' h') (hg:AllBare g')
 (sX:∀ b∈ch,(b∈X.ex \/ X.s₀.heap.objs.size<=b) /\ b≠X.env.locals /\ (∀ x c,X.env.cells.lookup x=ae c->c≠b) /\ ∀ p∈X.pn++pins,p.1≠b) :
 Inv X pins σ H' { s with heap:=h',gens:=g',drawn:=d',toks:=t' }:=by
 let#[m,#[o,es,ep,ho,r],_]:=id I.loc;let#[sl,hL]:=u.any ho I.free λz=>(sX _ z).2.1 zk;show I.step sX (λb o hL hb hc e n=>u.keep b o e n (λz=>(aZ.mp<|I.XX b z).elim hL hb) hc) (λb o _ _ hc e n=>u.any e n hc) (λb o hc e n=>u.free b o e n hc) (λb o hc e=>u.there b o e hc) u.rW u.qm u.qP (λm' hm=>by
  let#[o',es',sY,eZ,r']:=hm;rw[ho]at eZ;cases eZ;show#[_,es',sY,hL,r']) aE hg
theorem Inv.turned (I:Inv X pins σ H s) (k:∀ b o,b≠it->s.heap.get? b=ae o->h'.get? b=ae o) (hn:H it=ag) (hL:it≠X.env.locals)
 (h1:it∈X.ex \/ X.s₀.heap.objs.size<=it) (h2:∀ x c,X.env.cells.lookup x=ae c->c≠it) (h3:∀ p∈X.pn++pins,p.1≠it):Inv X pins σ H { s with heap:=h',toks:=t' }:=by
 have ab2:∀ b u,H b=ae u->b≠it:=λb u e z=>by rw[z,hn]at e;cases e
 refine I.step (ch:=[it]) (λb hb=>?_) (λb o _ _ hc e _=>k b o (λz=>hc (by simp[z])) e) (λb o _ _ hc e _=>#[o.slots,k b o (λz=>hc (by simp[z])) e]) (λ_ _ _ _ n=>n)
  (λb o hc e=>#[o,k b o (λz=>hc (by simp[z])) e]) (λ_ _ e=>e) (λ_ _ _ e=>e) (λb ps e=>#[#[],by rw[e];simp]) (λm hm=>?_) (λb u e=>?_) I.bare
 .have e:b=it:=by simpa using hb
  subst e;show#[h1,hL,h2,h3]
 .let#[o,es,ep,ho,r]:=hm;show#[o,es,ep,k _ o (Ne.symm hL) ho,r]
 .refine(I.aE b u e).kY (λc v hc q=>k c v ?_ q) (λ_ q=>q) λ_ _ q=>q;rcases hc with z|z
  .rw[z];show ab2 b u e
  .show ab2 c _ z
theorem Inv.tok (I:Inv X pins σ H s) (t:Nat):Inv X pins σ H { s with toks:=t }:=I.un Un.refl I.aE
theorem Inv.kept {t':Nat}(I:Inv X pins σ H s) (k:∀ b u,s.heap.get? b=ae u->h'.get? b=ae u):Inv X pins σ H { s with heap:=h',toks:=t' }:=I.un (Un.kept k)<|I.aE.kept k
theorem Inv.laid {a:ai}{o:HO}{t':Nat}(I:Inv X pins σ H s) (k:∀ b u,s.heap.get? b=ae u->h'.get? b=ae u) (hp:s.heap.objs.size<=a) (new:dg X.prog X.w (upd H a o) h' a o) :
 Inv X pins σ (upd H a o) { s with heap:=h',toks:=t' }:=I.un (Un.laid k hp<|I.aE.fresh hp)<|I.aE.laid k hp new
theorem Inv.write {x e:ai}{o:HO}{t':Nat}(I:Inv X pins σ H s) (mu:Ek<|H x) (he:e=x \/ H e=ae (.own x)) (k:∀ b u,b≠e->s.heap.get? b=ae u->h'.get? b=ae u) (xR:∃ u,h'.get? e=ae u)
 (new:dg X.prog X.w (upd H x o) h' x o):Inv X pins σ (upd H x o) { s with heap:=h',toks:=t' }:=I.un (Un.write mu he k xR)<|I.aE.write mu he k xR new
theorem Inv.ab3 {ab4:List (ai×bj)}(I:Inv X pins σ H s) (h:∀ p∈ab4,s.heap.get? p.1=ae p.2 /\ H p.1=ag /\ p.1≠X.env.locals /\ p.1∉X.fs /\ ∀ v,p.2.data≠.cell v):Inv X ab4 σ H s:=
 #[I.ok,I.os,I.bare,I.base,I.loc,I.cell,I.free,I.qQ,λp hp=>(dY.mp hp).elim (λz=>I.pin p<|qM _ z)<|h p,I.aE,I.len]
theorem CH (hN:N.Nodup) {i:Nat}(a:N[i]?=ae x) (b:N[j]?=ae x):i=j:=by
 let#[h1,e1]:=List.getElem?_eq_some_iff.mp a;let#[h2,e2]:=List.getElem?_eq_some_iff.mp b;show(List.getElem_inj hN).mp (e1.trans e2.symm)
theorem Bn {i:Nat}{Q:Unit->aq->zw}(I:Inv X pins σ H s) (hN:X.N.Nodup) (hi:X.N[i]?=ae x) (hx:Loc X.env.scope x) (r:RelV v u)
 (h:∀ s',Inv X pins (σ.set i<|ae v) H s'->(∃ a,Heap.SameBut a s.heap s'.heap /\ (a=X.env.locals \/ X.env.cells.lookup x=ae a))->Q () s') (hf:X.fn x=ah \/ X.env.scope.names.lookup x=ae .local:=by first|show .inl zk|show .inr zk|assumption):wpAny M A (storeName X.env x u) Q E s:=by
 let#[m,hn,hl]:=id I.loc;have afZ:(X.env.scope.kind==.class||(X.env.scope.kind==.module&&X.env.locals != X.env.globals))=af:=by rw[I.ok.kind];rfl
 have ab5:i<σ.length:=by rw[I.len];show(List.getElem?_eq_some_iff.mp hi).1
 have vX:=I.vX;have tracked:∀ {a}{h'},(∃ o,s.heap.get? a=ae o /\ H a=ag)->Heap.SameBut a s.heap h'->cW X.prog X.w H h':=λ{a h'} ha hs b ob e=>by
  let#[_,_,ab6]:=ha;refine(I.aE b ob e).kY (λc w' hc q=>(hs.2 c ?_).trans q) (λ_ q=>q) λ_ _ q=>q;rintro rfl;rcases hc with rfl|hc
  .rw[ab6]at e;cases e
  .rw[ab6]at hc;cases hc
 rcases hx with hk|hk
 .refine wpAny_storeName_local hk hn (λh' af0 hs=>?_) afZ;let#[oL,_,_,vi,_]:=id hn;refine h _ #[I.ok,I.os,I.bare,#[λb o e n hb hx=>?_,λb o e n hb hx=>?_,I.base.free,λb o e hx=>?_,I.base.rW,I.base.qm,I.base.qP],#[_,af0,λj y v' e1 e2 e3=>?_],λy c e=>?_,I.free,I.qQ,λp hp=>?_,tracked #[oL,vi,I.free] hs,by simpa using I.len] #[_,hs,.inl zk]
  .show(hs.2 b<|bC<|kN (bh e) I.ok.above).trans (I.base.keep b o e n hb hx)
  .let#[sl,e1]:=I.base.slot b o e n hb hx;show#[sl,(hs.2 b<|bC<|kN (bh e) I.ok.above).trans e1]
  .let#[o',e1]:=I.base.there b o e hx;show#[o',(hs.2 b<|bC<|kN (bh e) I.ok.above).trans e1]
  .by_cases hj:j=i
   .subst hj;rw[hi]at e1;cases e1;rw[rR ab5]at e2;cases e2;show#[u,r,.inl #[hk,by simp]]
   .rw[sN<|Ne.symm hj]at e2;let#[u',r',q]:=hl j y v' e1 e2 e3;refine#[u',r',?_];rcases q with⟨k,e⟩|⟨k,c,e,z⟩
    .refine .inl #[k,?_];have:y≠x:=λe=>hj<|CH hN e1<|e▸hi;simp[this,e]
    .show .inr #[k,c,e,z.sameBut hs<|vX y c e]
  .let#[w',z]:=I.cell y c e;show#[w',z.sameBut hs<|vX y c e]
  .let#[e,n,ne,nf,d]:=I.pin p hp;show#[(hs.2 p.1 ne).trans e,n,ne,nf,d]
 .have XY:X.fn x=ah:=by
   rcases hf with z|z
   .show z
   .rw[z]at hk;cases hk
  let#[c,hc]:=I.ok.has x<|.inl hk;let#[w',z]:=I.cell x c hc;refine wpAny_storeName_cell I.ok.kind hk hc z λh' ab7 hs=>?_;let#[oc,qp,af1]:=id z;refine h { s with heap:=h' } #[I.ok,I.os,I.bare,#[λb o e n hb hx=>?_,λb o e n hb hx=>?_,I.base.free,λb o e hx=>?_,I.base.rW,I.base.qm,I.base.qP],#[m,hn.sameBut hs<|Ne.symm<|vX x c hc,λj y v' e1 e2 e3=>?_],λy c' e=>?_,I.free,I.qQ,λp hp=>?_,tracked #[oc,qp,I.qQ x c hc] hs,by simpa using I.len] #[c,hs,.inr hc]
  .show(hs.2 b<|bC<|kN (bh e)<|I.ok.El x c XY hc).trans (I.base.keep b o e n hb hx)
  .let#[sl,e1]:=I.base.slot b o e n hb hx;show#[sl,(hs.2 b<|bC<|kN (bh e)<|I.ok.El x c XY hc).trans e1]
  .let#[o',e1]:=I.base.there b o e hx;show#[o',(hs.2 b<|bC<|kN (bh e)<|I.ok.El x c XY hc).trans e1]
  .by_cases hj:j=i
   .subst hj;rw[hi]at e1;cases e1;rw[rR ab5]at e2;cases e2;show#[u,r,.inr #[.inl hk,c,hc,ab7]]
   .rw[sN<|Ne.symm hj]at e2;let#[u',r',q]:=hl j y v' e1 e2 e3;refine#[u',r',?_];rcases q with q|⟨k,c',e,z'⟩
    .show .inl q
    .refine .inr #[k,c',e,z'.sameBut hs ?_];rintro rfl;show hj<|CH hN e1<|I.ok.inj _ _ _ e hc▸hi
  .by_cases dZ:c'=c
   .subst dZ;show#[_,ab7]
   .let#[w2,z2]:=I.cell y c' e;show#[w2,z2.sameBut hs dZ]
  .let#[e,n,ne,nf,d]:=I.pin p hp;refine#[(hs.2 p.1 ?_).trans e,n,ne,nf,d];intro q;rw[q,qp]at e;have q':=Option.some.inj e;show d w' (by rw[<-q'];show af1)
theorem j7 {i:Nat}{Q:Unit->aq->zw}(I:Inv X pins σ H s) (hN:X.N.Nodup) (hi:X.N[i]?=ae x) (hx:Loc X.env.scope x) (r:RelV v u)
 (h:∀ s',Inv X pins (σ.set i<|ae v) H s'->Q () s') (hf:X.fn x=ah \/ X.env.scope.names.lookup x=ae .local:=by first|show .inl zk|show .inr zk|assumption):wpAny M A (storeName X.env x u) Q E s:=
 Bn I hN hi hx r (λs' I' _=>h s' I') hf
theorem Inv.ab8 {s':aq}(I:Inv X pins σ H s) (ho:s'.os=s.os) (u:Un (qo X.stack) ch H H' s.heap s'.heap) (aE:cW X.prog X.w H' s'.heap) (hg:AllBare s'.gens)
 (sX:∀ b∈ch,(b∈X.ex \/ X.s₀.heap.objs.size<=b) /\ b≠X.env.locals /\ (∀ x c,X.env.cells.lookup x=ae c->c≠b) /\ ∀ p∈X.pn++pins,p.1≠b):Inv X pins σ H' s':=by
 let#[h',g',d',t',o']:=s';subst ho;show I.call u aE hg sX
end
abbrev XK:=aj->Option ai->Hp->zw
noncomputable abbrev St:=List<|Option V
abbrev VK:=V->Hp->zw
abbrev TE:=St->Hp->VK->zw
abbrev TT:=St->Hp->(Bool->Hp->zw)->zw
abbrev TA:=St->Hp->(List V->Hp->zw)->zw
structure Ends where
 nx:St->Hp->zw
 rt:VK
 bk:St->Hp->zw:=λ_ _=>False
 ct:St->Hp->zw:=λ_ _=>False
abbrev TS:=Ends->St->Hp->zw
def EP (X:Cx) (pins:List<|ai×bj) (σ:St) (Q:VK) (u:aj) (s':aq):zw:=∃ v H',Inv X pins σ H' s' /\ RelV v u /\ Q v H'
def TP (X:Cx) (pins:List<|ai×bj) (σ:St) (Q:Bool->Hp->zw) (b:Bool) (s':aq):zw:=∃ H',Inv X pins σ H' s' /\ Q b H'
def AP (X:Cx) (pins:List<|ai×bj) (σ:St) (Q:List V->Hp->zw) (us:List aj) (s':aq):zw:=∃ vs H',Inv X pins σ H' s' /\ Vals vs us /\ Q vs H'
def SP (X:Cx) (pins:List<|ai×bj) (D:Ends) (f:Flow) (s':aq):zw:=
 match f with
 |.next=>∃ σ' H',Inv X pins σ' H' s' /\ D.nx σ' H'
 |.brk=>∃ σ' H',Inv X pins σ' H' s' /\ D.bk σ' H'
 |.cont=>∃ σ' H',Inv X pins σ' H' s' /\ D.ct σ' H'
 |.ret u=>∃ v σ' H',Inv X pins σ' H' s' /\ RelV v u /\ D.rt v H'
def PE (X:Cx) (e:au) (t:TE):zw:=
 ∀ (pins:List<|ai×bj) (s:aq) (σ:St) (H:Hp) (Q:VK),Inv X pins σ H s->t σ H Q->wpAny ze X.A (eval e X.env) (EP X pins σ Q) X.xe s
def PT (X:Cx) (e:au) (t:TT):zw:=
 ∀ (pins:List<|ai×bj) (s:aq) (σ:St) (H:Hp) (Q:Bool->Hp->zw),Inv X pins σ H s->t σ H Q->wpAny ze X.A (isTrue e X.env<|eval e X.env) (TP X pins σ Q) X.xe s
def PW (X:Cx) (e:au) (t:TT):zw:=
 ∀ (whole:Sem aj) (pins:List<|ai×bj) (s:aq) (σ:St) (H:Hp) (Q:Bool->Hp->zw),Inv X pins σ H s->t σ H Q->wpAny ze X.A (isTrue e X.env whole) (TP X pins σ Q) X.xe s
theorem PW.pt {X:Cx}{t:TT}(h:PW X e t):PT X e t:=h _
def PA (X:Cx) (es:List au) (t:TA):zw:=
 ∀ (pos:aG) (pins:List<|ai×bj) (s:aq) (σ:St) (H:Hp) (Q:List V->Hp->zw),Inv X pins σ H s->t σ H Q->wpAny ze X.A (spliced<|backTo pos<|starEach es X.env) (AP X pins σ Q) X.xe s
def PS (X:Cx) (st:cz) (t:TS):zw:=
 ∀ (pins:List<|ai×bj) (s:aq) (σ:St) (H:Hp) (D:Ends),Inv X pins σ H s->t D σ H->wpAny ze X.A (exec st X.env) (SP X pins D) X.xe s
def kZ (X:Cx) (st:List cz) (t:TS):zw:=
 ∀ (pins:List<|ai×bj) (s:aq) (σ:St) (H:Hp) (D:Ends),Inv X pins σ H s->t D σ H->wpAny ze X.A (execs st X.env) (SP X pins D) X.xe s
theorem cy {t:Sem α}{Q Q':α->aq->zw}{s:aq}(h:wpAny M A t Q E s) (hQ:∀ a s,Q a s->Q' a s):wpAny M A t Q' E s:=ny h hQ λ_ _ x=>x
theorem tE {X:Cx}{σ:St}{Q:VK}{t:Sem aj}{Q':aj->aq->zw}{s:aq}(h:wpAny M A t (EP X pins σ Q) E s) (k:∀ v s x H,Inv X pins σ H s->RelV x v->Q x H->Q' v s):wpAny M A t Q' E s:=cy h λv s ⟨x,H,I,r,q⟩=>k v s x H I r q
theorem tA {X:Cx}{σ:St}{Q:List V->Hp->zw}{t:Sem (List aj)}{Q':List aj->aq->zw}{s:aq}(h:wpAny M A t (AP X pins σ Q) E s) (k:∀ v s x H,Inv X pins σ H s->Vals x v->Q x H->Q' v s):wpAny M A t Q' E s:=cy h λv s ⟨x,H,I,r,q⟩=>k v s x H I r q
theorem tP {β:Type}{X:Cx}{σ:St}{Q:β->Hp->zw}{R:β->α->zw}{t:Sem α}{Q':α->aq->zw}{s:aq}(h:wpAny M A t (λv s=>∃ x H,Inv X pins σ H s /\ R x v /\ Q x H) E s) (k:∀ v s x H,Inv X pins σ H s->R x v->Q x H->Q' v s):wpAny M A t Q' E s:=cy h λv s ⟨x,H,I,r,q⟩=>k v s x H I r q
theorem tT {X:Cx}{σ:St}{Q:Bool->Hp->zw}{t:Sem Bool}{Q':Bool->aq->zw}{s:aq}(h:wpAny M A t (TP X pins σ Q) E s) (k:∀ v s H,Inv X pins σ H s->Q v H->Q' v s):wpAny M A t Q' E s:=cy h λv s ⟨H,I,q⟩=>k v s H I q
end L2
variable {X:L2.Cx}{σ:L2.St}
namespace L2
section
def af2 (i:Nat):TE:=λσ H Q=>∃ v,σ[i]?=ae (ae v) /\ Q v H
def tC (v:V):TE:=λ_ H Q=>Q v H
theorem J4 {i:Nat}(hN:X.N[i]?=ae x) (hv:xS X.env.scope x) (hd:(x==("__debug__":Str))=af:=by decide) (pD:(x==("__classdict__":Str))=af:=by decide):PE X (.Name x pos) (af2 i):=by
 intro pins s σ H Q I h;let#[v,e,h]:=h;let#[m,hn,hl]:=I.loc;let#[u,r,l]:=hl i x v hN e hv;have fin:EP X pins σ Q u s:=#[v,H,I,r,h];rcases l with⟨hk,hm⟩|⟨hk,c,hc,vj⟩
 .show HD (Q0 I.ok.kind hk hn hm fin) hd
 .rcases hk with hk|hk
  .show HD (ZY I.ok.kind hk hc vj fin) hd
  .show HD (wpAny_loadName_free I.ok.kind hk hc vj fin pD) hd
theorem J5 {i j pos}:PE X (.Constant (.int i) j pos) (tC<|.int i):=λ_ _ _ H _ I h=>ZZ #[.int i,H,I.tok _,#[_,rfl],h]
theorem Vm {b j pos}:PE X (.Constant (.bool b) j pos) (tC<|.bl b):=λ_ _ _ H _ I h=>Constant_bool #[.bl b,H,I,rfl,h]
theorem Sr {j pos}:PE X (.Constant .none j pos) (tC .aC):=λ_ _ _ H _ I h=>Constant_none #[.aC,H,I,rfl,h]
theorem Ss {x j pos}:PE X (.Constant (.str x) j pos) (tC<|.str x):=λ_ _ _ H _ I h=>Calls.Constant_str #[.str x,H,I.tok _,#[_,rfl],h]
def Gl (X:Cx) (x:Str):zw:=X.env.kindOf x=ae .globalImplicit
theorem FH {s:aq}(I:Inv X pins σ H s) (hg:Gl X x) (hm:X.mg x=ae u) (h:Q u s)
 (hd:(x==("__debug__":Str))=af:=by decide):wpAny ze X.A (eval (.Name x pos) X.env) Q E s:=
 Calls.Name_function_global I.ok.kind hg (Calls.loadGlobal_global (by rw[I.ok.glob];show I.mod.glob.keeps I.bk) hm h) hd
theorem jd {s:aq}(I:Inv X pins σ H s) (hg:Gl X x) (hm:X.mg x=ag) (hv:bootBuiltins x=ae u) (h:Q u s)
 (hn:x ≠ "__name__":=by decide) (hd:(x==("__debug__":Str))=af:=by decide):wpAny ze X.A (eval (.Name x pos) X.env) Q E s:=by
 let#[mb,h1,h2]:=I.mod.blt;show Calls.Name_function_global I.ok.kind hg (Calls.loadGlobal_builtin (by rw[I.ok.glob];show I.mod.glob.keeps I.bk) hm (by rw[I.ok.blt];show h1.keeps I.bk) ((h2 x hn).trans hv) h) hd
theorem NO (hg:Gl X x) (hm:X.mg x=ae u) (r:RelV v u) (hd:(x==("__debug__":Str))=af:=by decide):PE X (.Name x pos) (tC v):=
 λ_ _ _ H _ I h=>FH I hg hm #[v,H,I,r,h] hd
theorem NP (hg:Gl X x) (hm:X.mg x=ag) (hv:bootBuiltins x=ae u) (r:RelV v u) (hn:x ≠ "__name__":=by decide) (hd:(x==("__debug__":Str))=af:=by decide):PE X (.Name x pos) (tC v):=
 λ_ _ _ H _ I h=>jd I hg hm hv #[v,H,I,r,h] hn hd
variable {a b:au} {ta tb:TE} 
def PC (X:Cx) (op:CmpOp) (a b:au) (t:TE):zw:=
 ∀ (pins:List<|ai×bj) (s:aq) (σ:St) (H:Hp) (Q:VK),Inv X pins σ H s->t σ H Q ->
  wpAny ze X.A (eval a X.env) (λv s₁=>wpAny ze X.A (eval b X.env) (λu s₂=>wpAny ze X.A (compareOp op v u) (EP X pins σ Q) X.xe s₂) X.xe s₁) X.xe s
theorem ab9 (b:au) {op:CmpOp}(h:op≠.In) (h2:op≠.NotIn):behindInMarks op b=af:=by
 have e1:(op==CmpOp.In)=af:=by cases op<;>first|rfl|show absurd zk h
 have e2:(op==CmpOp.NotIn)=af:=by cases op<;>first|rfl|show absurd zk h2
 cases b<;>simp[behindInMarks,e1,e2]
def aca (ta:TE):TE:=λσ H Q=>ta σ H λx H1=>Q (.bl<|decide (x=.aC)) H1
def acb (ta:TE):TE:=λσ H Q=>ta σ H λx H1=>Q (.bl<|!decide (x=.aC)) H1
theorem RelV.acd {x:V}{v:aj}(r:RelV x v):(v==Value.none)=decide (x=.aC):=by
 cases x with
 |int _=>let#[t,rfl]:=r;rfl
 |str _=>let#[t,rfl]:=r;rfl
 |qj _=>let#[t,rfl]:=r;rfl
 |sW _=>let#[t,rfl]:=r;rfl
 |_=>cases r;rfl
theorem J6 {j pos'}(ha:PE X a ta):PC X .Is a (.Constant .none j pos') (aca ta):=by
 intro pins s σ H Q I h;show tE (ha pins s σ H _ I h) λv s1 x H1 I1 r1 q1=>(Constant_none (is_none_gen #[.bl _,H1,I1,by rw[r1.acd];rfl,q1]))
theorem FJ {j pos'}(ha:PE X a ta):PC X .IsNot a (.Constant .none j pos') (acb ta):=by
 intro pins s σ H Q I h;show tE (ha pins s σ H _ I h) λv s1 x H1 I1 r1 q1=>(Constant_none (isnot_none_gen #[.bl _,H1,I1,by rw[r1.acd];rfl,q1]))
noncomputable def tB (t:TE):TT:=λσ H Q=>t σ H λx H1=>∃ c,x=.bl c /\ Q c H1
theorem Am {op:CmpOp}{t:TE}(h:PC X op a b t) (h1:behindInMarks op b=af:=by first|show ab9 _ (by decide) (by decide)|rfl):PE X (.Compare a [op] [b] pos) t:=λpins s σ H Q I hw=>Z0 (h pins s σ H Q I hw) h1
theorem An {op:CmpOp}{t:TE}(h:PC X op a b t) (h1:behindInMarks op b=af:=by first|show ab9 _ zh zh|rfl):PT X (.Compare a [op] [b] pos) (tB t):=by
 intro pins s σ H Q I hw;refine Z1 (cy (h pins s σ H _ I hw) λv s1 h1=>cy h1 λu s2 h2=>tE h2 λc s3 x H1 I1 r1 q1=>?_) h1;let#[d,rfl,q]:=q1;cases r1;show qK #[H1,I1,q]
theorem Su {t:TE}(h:PE X e t) (he:∀ whole,isTrue e X.env whole=(do let v <-whole;standAt e.pos;holding [v] (truthy v)):=by intro _;rfl):PT X e (tB t):=by
 intro pins s σ H Q I hw;refine isTrue_plain (tE (h pins s σ H _ I hw) λv s1 x H1 I1 r1 q1=>?_)<|he _;let#[d,rfl,q]:=q1;cases r1;show qK #[H1,I1,q]
variable {tA ID:TT} {rest:List au}
noncomputable def af3 (t u:TT):TT:=λσ H Q=>t σ H λc H1=>if c=ah then u σ H1 Q else Q af H1
noncomputable def af4 (t u:TT):TT:=λσ H Q=>t σ H λc H1=>if c=ah then Q ah H1 else u σ H1 Q
noncomputable def af5 (t:TT):TT:=λσ H Q=>t σ H λc H1=>Q (!c) H1
theorem NQ (ha:PT X a tA):PW X (.BoolOp .And [a] pos) tA:=by
 intro wh pins s σ H Q I h;refine isTrue_and<|cy (ha pins s σ H Q I h) λc s1 e=>?_;cases c with
 |true=>show isTrue_and_nil e
 |false=>show e
theorem Sv (ha:PT X a tA):PW X (.BoolOp .Or [a] pos) tA:=by
 intro wh pins s σ H Q I h;refine isTrue_or<|cy (ha pins s σ H Q I h) λc s1 e=>?_;cases c with
 |false=>show isTrue_or_nil e
 |true=>show e
theorem Sw (ha:PT X a tA) (hb:PW X (.BoolOp .And (b::rest) pos) ID):PW X (.BoolOp .And (a::b::rest) pos) (af3 tA ID):=by
 intro wh pins s σ H Q I h;refine isTrue_and<|tT (ha pins s σ H _ I h) λc s1 H1 I1 q1=>?_;cases c with
 |true=>show hb wh pins s1 σ H1 Q I1 q1
 |false=>show#[H1,I1,q1]
theorem Vn (ha:PT X a tA) (hb:PW X (.BoolOp .Or (b::rest) pos) ID):PW X (.BoolOp .Or (a::b::rest) pos) (af4 tA ID):=by
 intro wh pins s σ H Q I h;refine isTrue_or<|tT (ha pins s σ H _ I h) λc s1 H1 I1 q1=>?_;cases c with
 |true=>show#[H1,I1,q1]
 |false=>show hb wh pins s1 σ H1 Q I1 q1
theorem Sy (ha:PT X a tA):PT X (.UnaryOp .Not a pos) (af5 tA):=by
 intro pins s σ H Q I h;show isTrue_not<|ha pins s σ H _ I h
def af6 (ta tb:TE):TE:=λσ H Q=>ta σ H λx H1=>∃ c,x=.bl c /\ if c=ah then tb σ H1 Q else Q (.bl af) H1
def af7 (ta:TE):TE:=λσ H Q=>ta σ H λx H1=>∃ c,x=.bl c /\ Q (.bl<|!c) H1
theorem Sz {op}{t:TE}(h:PE X a t):PE X (.BoolOp op [a] pos) t:=λpins s σ H Q I hw=>BoolOp_one<|h pins s σ H Q I hw
theorem SA (ha:PE X a ta) (hb:PE X (.BoolOp .And (b::rest) pos) tb):PE X (.BoolOp .And (a::b::rest) pos) (af6 ta tb):=by
 intro pins s σ H Q I h;refine BoolOp_and<|tE (ha pins s σ H _ I h) λv s1 x H1 I1 r1 q1=>?_;let#[c,rfl,q1]:=q1;cases r1;refine qK ?_;cases c with
 |true=>show hb pins s1 σ H1 Q I1 q1
 |false=>show#[.bl af,H1,I1,rfl,q1]
theorem SC (ha:PE X a ta):PE X (.UnaryOp .Not a pos) (af7 ta):=by
 intro pins s σ H Q I h;refine UnaryOp_<|tE (ha pins s σ H _ I h) λv s1 x H1 I1 r1 q1=>?_;let#[c,rfl,q1]:=q1;cases r1;show not_of<|qK #[.bl<|!c,H1,I1,rfl,q1]
def af8 (t:TT) (ta tb:TE):TE:=λσ H Q=>t σ H λc H1=>if c=ah then ta σ H1 Q else tb σ H1 Q
theorem J7 {c:au}(hc:PT X c tA) (ha:PE X a ta) (hb:PE X b tb):PE X (.IfExp c a b pos) (af8 tA ta tb):=by
 intro pins s σ H Q I h;refine wpAny_IfExp<|tT (hc pins s σ H _ I h) λd s1 H1 I1 q1=>?_;cases d with
 |true=>show ha pins s1 σ H1 Q I1 q1
 |false=>show hb pins s1 σ H1 Q I1 q1
end
def bZ (K:PySem.W.Frag) (H:Hp) (a:ai) (xs:List V):zw:=
 Rd H a (.lst xs) \/
  ∃ (o:bj) (its:Array aj) (n:Nat),K.lookup a=ae o /\ o.cls=.type "list" /\ o.dict=ag /\ o.data=.seq its n /\ its.size<=sizeLine /\ Vals xs its.toList
def c9 (K:PySem.W.Frag) (H:Hp) (a:ai) (xs:List V):zw:=
 Rd H a (.tup xs) \/
  ∃ (o:bj) (its:Array aj) (n:Nat),K.lookup a=ae o /\ o.cls=.type "tuple" /\ o.data=.seq its n /\ its.size<=sizeLine /\ Vals xs its.toList
noncomputable def af9:aj->Option V
 |.none=>ae .aC
 |.bool b=>ae<|.bl b
 |.int i _=>ae<|.int i
 |.str x _=>ae<|.str x
 |.bytes b _=>ae<|.qj b
 |.float b _=>ae<|.sW b
 |.ref a=>ae<|.ref a
 |.type n=>ae<|.ty n
 |_=>ag
theorem RelV.abs {x:V}(r:RelV x u):af9 u=ae x:=by
 cases x with
 |int _=>let#[t,rfl]:=r;rfl
 |str _=>let#[t,rfl]:=r;rfl
 |qj _=>let#[t,rfl]:=r;rfl
 |sW _=>let#[t,rfl]:=r;rfl
 |_=>cases r;rfl
theorem RelV.inj {x y:V}{u:aj}(r:RelV x u) (q:RelV y u):x=y:=Option.some.inj<|r.abs.symm.trans q.abs
theorem Vals.inj:∀ {xs ys:List V}{us:List aj},Vals xs us->Vals ys us->xs=ys
 |_,_,_,.nil,.nil=>rfl
 |_,_,_,.cons r t,.cons r' t'=>by rw[r.inj r',Vals.inj t t']
section
variable {s:aq} {xs ys:List V}
theorem bZ.of (h:H a=ae (.lst xs)):bZ K H a xs:=.inl<|.inl h
theorem c9.of (h:H a=ae (.tup xs)):c9 K H a xs:=.inl<|.inl h
theorem Inv.list (I:Inv X pins σ H s) (h:bZ X.K H a xs):∃ its:List aj,Vals xs its /\ PlainL s.heap a its.toArray /\ xs.length<=sizeLine:=by
 rcases h with h|⟨o,its,n,hk,hc,hd,hs,hz,r⟩
 .let#[z,its,n,r,e]:=h.ok I.aE;show#[its,r,#[_,n,e,rfl,rfl,rfl],z]
 .refine#[its.toList,r,#[o,n,I.nF a o hk,hc,hd,by simpa using hs],?_];have e:=r.length;simp[pB]at e;lia
theorem Inv.tuple (I:Inv X pins σ H s) (h:c9 X.K H a xs):∃ its:List aj,Vals xs its /\ IsTup s.heap a its.toArray /\ xs.length<=sizeLine:=by
 rcases h with h|⟨o,its,n,hk,hc,hs,hz,r⟩
 .let#[z,its,r,p]:=h.ok I.aE;show#[its,r,p,z]
 .refine#[its.toList,r,#[o,I.nF a o hk,hc,n,by simpa using hs],?_];have e:=r.length;simp[pB]at e;lia
theorem Inv.ace (I:Inv X pins σ H s) (h:bZ X.K H a xs) (h':bZ X.K H a ys):xs=ys:=by
 let#[its,r,#[o,n,e,_,_,d],_]:=I.list h;let#[qU,r',#[o',n',e',_,_,d'],_]:=I.list h';rw[e]at e';cases e';rw[d]at d';injection d' with d1 _;have:its=qU:=by simpa using congrArg Array.toList d1
 subst this;show r.inj r'
theorem Inv.acf (I:Inv X pins σ H s) (h:c9 X.K H a xs) (h':c9 X.K H a ys):xs=ys:=by
 let#[its,r,#[o,e,_,n,d],_]:=I.tuple h;let#[qU,r',#[o',e',_,n',d'],_]:=I.tuple h';rw[e]at e';cases e';rw[d]at d';injection d' with d1 _;have:its=qU:=by simpa using congrArg Array.toList d1
 subst this;show r.inj r'
end
noncomputable abbrev Cx.sZ (X:Cx) (E:aj->aq->zw):Cx:={ X with xe:=E }
abbrev Cx.Eo (X:Cx):Cx:=X.sZ λ_ _=>False
theorem Cx.Ok.sZ {X:Cx}(ok:X.Ok) (E:aj->aq->zw):(X.sZ E).Ok:=
 #[ok.mod,ok.kind,ok.glob,ok.blt,ok.above,ok.inj,ok.has,ok.El,ok.hd,ok.frames,ok.IC,ok.xT,ok.bs,ok.vW,ok.Em,ok.xV,ok.rX,ok.xW]
theorem Cx.Ok.vk (ok:(X.sZ E).Ok):X.Ok:=
 #[ok.mod,ok.kind,ok.glob,ok.blt,ok.above,ok.inj,ok.has,ok.El,ok.hd,ok.frames,ok.IC,ok.xT,ok.bs,ok.vW,ok.Em,ok.xV,ok.rX,ok.xW]
section
variable {s:aq} 
theorem Inv.sZ (I:Inv X pins σ H s) (E:aj->aq->zw):Inv (X.sZ E) pins σ H s:=#[I.ok.sZ E,I.os,I.bare,I.base,I.loc,I.cell,I.free,I.qQ,I.pin,I.aE,I.len]
theorem Inv.vk (I:Inv (X.sZ E) pins σ H s):Inv X pins σ H s:=#[I.ok.vk,I.os,I.bare,I.base,I.loc,I.cell,I.free,I.qQ,I.pin,I.aE,I.len]
theorem SP.vk {D:Ends}{f:Flow}{s':aq}(h:SP (X.sZ E) pins D f s'):SP X pins D f s':=by
 cases f with
 |ret u=>let#[v,σ',H',I,r,q]:=h;show#[v,σ',H',I.vk,r,q]
 |_=>let#[σ',H',I,q]:=h;show#[σ',H',I.vk,q]
theorem kZ.Eo {st:List cz}{t:TS}(h:kZ X.Eo st t):kZ X st t:=λpins s σ H D I hw=>
 ny (h pins s σ H D (I.sZ _) hw) (λ_ _ q=>q.vk) λ_ _ z=>False.elim z
end
section
variable {rest:List cz} {t u:TS} {te:TE} 
def aga:TS:=λD σ H=>D.nx σ H
def agb (t u:TS):TS:=λD σ H=>t { D with nx:=u D } σ H
theorem NR:kZ X [] aga:=λ_ _ σ H _ I h=>Q2 #[σ,H,I,h]
theorem J8 (h1:PS X st t) (h2:kZ X rest u):kZ X (st::rest) (agb t u):=by
 intro pins s σ H D I h;refine Z2<|cy (h1 pins s σ H { D with nx:=u D } I h) λf s1 q=>?_;cases f with
 |next=>
   let#[σ',H',I',q]:=q;show h2 pins s1 σ' H' D I' q
 |ret v=>show q
 |_=>show q
theorem NS (h1:PS X st t):kZ X [st] t:=by
 intro pins s σ H D I h;refine Z2<|cy (h1 pins s σ H D I h) λf s1 q=>?_;cases f with
 |next=>show Q2 q
 |ret v=>show q
 |_=>show q
def agc:TS:=λD σ H=>D.bk σ H
def agd:TS:=λD σ H=>D.ct σ H
theorem J9:PS X (.Break pos) agc:=λ_ _ σ H _ I h=>wpAny_Break #[σ,H,I,h]
theorem CI:PS X (.Continue pos) agd:=λ_ _ σ H _ I h=>wpAny_Continue #[σ,H,I,h]
theorem Inv.quiet {s:aq}(I:Inv X pins σ H s):interactive X.env=af:=by simp[interactive,I.ok.kind]
def age (te:TE):TS:=λD σ H=>te σ H λ_ H1=>D.nx σ H1
theorem NT (he:PE X e te) (hs:swapsWith e ag pos.line X.env=pure af:=by rfl):PS X (.Expr e pos) (age te):=by
 intro pins s σ H D I h;show wpAny_Expr_any (tE (he pins s σ H _ I h) λv s1 x H1 I1 r1 q1=>#[σ,H1,I1,q1]) I.quiet hs
def agf (te:TE):TS:=λD σ H=>te σ H D.rt
theorem SD (he:PE X e te):PS X (.Return (ae e) pos) (agf te):=by
 intro pins s σ H D I h;show wpAny_Return_some<|tE (he pins s σ H _ I h) λv s1 x H1 I1 r1 q1=>#[x,σ,H1,I1,r1,q1]
def agg (c:TT) (t u:TS):TS:=λD σ H=>c σ H λb H1=>if b=ah then t D σ H1 else u D σ H1
theorem Vo {c:au}{a b:List cz}{tc:TT}(hc:PT X c tc) (ha:kZ X a t) (hb:kZ X b u):PS X (.If c a b pos) (agg tc t u):=by
 intro pins s σ H D I h;refine wpAny_If<|tT (hc pins s σ H _ I h) λd s1 H1 I1 q1=>?_;cases d with
 |true=>show ha pins s1 σ H1 D I1 q1
 |false=>show hb pins s1 σ H1 D I1 q1
end
abbrev TG:=V->St->Hp->(St->Hp->zw)->zw
abbrev uu:=List V->St->Hp->(St->Hp->zw)->zw
def PG (X:Cx) (target:au) (t:TG):zw:=
 ∀ (pins:List<|ai×bj) (s:aq) (σ:St) (H:Hp) (v:V) (u:aj) (Q:St->Hp->zw),Inv X pins σ H s->RelV v u->t v σ H Q ->
  wpAny ze X.A (assign target X.env u) (λ_ s'=>∃ σ' H',Inv X pins σ' H' s' /\ Q σ' H') X.xe s
def tj (X:Cx) (ts:List au) (t:uu):zw:=
 ∀ (pins:List<|ai×bj) (s:aq) (σ:St) (H:Hp) (vs:List V) (us:List aj) (Q:St->Hp->zw),Inv X pins σ H s->Vals vs us->t vs σ H Q ->
  wpAny ze X.A (assignInOrder ((assignEach ts X.env).map (·.2)) us) (λ_ s'=>∃ σ' H',Inv X pins σ' H' s' /\ Q σ' H') X.xe s
abbrev XZ:=V->V->V->Hp->(Hp->zw)->zw
def acg (X:Cx) (t:XZ):zw:=
 ∀ (pins:List<|ai×bj) (s:aq) (σ:St) (H:Hp) (o i v:V) (ov iv u:aj) (Q:Hp->zw),Inv X pins σ H s->RelV o ov->RelV i iv->RelV v u->t o i v H Q ->
  wpAny ze X.A (setItem ov iv u) (λ_ s'=>∃ H',Inv X pins σ H' s' /\ Q H') X.xe s
abbrev IE:=V->V->Hp->VK->zw
def ach (X:Cx) (op:Operator) (t:IE):zw:=
 ∀ (pins:List<|ai×bj) (s:aq) (σ:St) (H:Hp) (x y:V) (v u:aj) (Q:VK),Inv X pins σ H s->RelV x v->RelV y u->t x y H Q ->
  wpAny ze X.A (inplaceOp op v u) (EP X pins σ Q) X.xe s
def X0 (i:Nat):TG:=λv σ H Q=>Q (σ.set i<|ae v) H
theorem B0 {i:Nat}(hN:X.N.Nodup) (hi:X.N[i]?=ae x) (hx:Loc X.env.scope x) (hf:X.fn x=ah \/ X.env.scope.names.lookup x=ae .local:=by first|show .inl zk|show .inr zk|assumption):PG X (.Name x pos) (X0 i):=by
 intro pins s σ H v u Q I r h;show Z3<|j7 I hN hi hx r (λs' I'=>#[_,H,I',h]) hf
noncomputable def agh:uu:=λvs σ H Q=>vs=[] /\ Q σ H
noncomputable def agi (t:TG) (u:uu):uu:=λvs σ H Q=>∃ v r,vs=v::r /\ t v σ H λσ' H'=>u r σ' H' Q
theorem FK:tj X [] agh:=by
 intro pins s σ H vs us Q I r h;let#[e,h]:=h;subst e;cases r;show aa5 #[σ,H,I,h]
theorem Ao {t:TG}{u:uu}(h1:PG X e t) (h2:tj X es u)
 (hs:(assignEach (e::es) X.env).map (·.2)=assign e X.env::(assignEach es X.env).map (·.2):=by rfl):tj X (e::es) (agi t u):=by
 intro pins s σ H vs us Q I r h;let#[v,vr,e1,h]:=h;subst e1;cases r with
 |cons r rr=>
   rw[hs];show Xw<|cy (h1 pins s σ H _ _ _ I r h) λ_ s1 ⟨σ1,H1,I1,q1⟩=>(h2 pins s1 σ1 H1 _ _ Q I1 rr q1)
def agj (K:PySem.W.Frag) (n:Nat) (t:uu):TG:=λv σ H Q=>∃ a xs,v=.ref a /\ c9 K H a xs /\ xs.length=n /\ t xs σ H Q
theorem La {k:Nat}{t:uu}(hc:X.calm=ah) (h:tj X es t)
 (hn:(assignEach es X.env).length=n:=by rfl) (Ep:(assignEach es X.env).findIdx? (·.1)=ag:=by rfl):PG X (.Tuple es k pos) (agj X.K n t):=by
 intro pins s σ H v u Q I r hw;let#[a,xs,e1,hq,hl,hw]:=hw;subst e1;cases r;let#[its,rv,ht,hz]:=I.tuple hq;refine assign_Tuple_tuple (I.ok.hd hc) ht (by simp[hn,<-hl,rv.length]) Ep λh' hx=>?_;show h pins _ σ H xs _ Q (I.kept λb o e=>hx b o (bC<|bh e) e) (by simpa using rv) hw
def agk (to ti:TE) (t:XZ):TG:=λv σ H Q=>to σ H λo H1=>ti σ H1 λi H2=>t o i v H2 λH3=>Q σ H3
theorem SE {o i:au}{to ti:TE}{t:XZ}(ho:PE X o to) (hi:PE X i ti) (hs:acg X t)
 (ha:∀ v,assign (.Subscript o i pos) X.env v=(do
  let ov <-holding [v] (eval o X.env)
  let iv <-holding [v,ov] (eval i X.env)
  standAt pos
  holding [v,ov,iv] (setItem ov iv v)
  release [v,ov,iv] []):=by intro _;rfl):PG X (.Subscript o i pos) (agk to ti t):=by
 intro pins s σ H v u Q I r h;refine ak<|dS<|tE (ho pins s σ H _ I h) λov s1 x H1 I1 r1 q1=>?_;refine ak<|dS<|tE (hi pins s1 σ H1 _ I1 q1) λiv s2 y H2 I2 r2 q2=>?_;show ak<|xb<|ak<|dS<|cy (hs pins s2 σ H2 x y v ov iv u _ I2 r1 r2 r q2) λ_ s3 ⟨H3,I3,q3⟩=>(wpAny_release #[σ,H3,I3,q3])
def IG (te:TE) (g:TG):TS:=λD σ H=>te σ H λx H1=>g x σ H1 D.nx
theorem Lb {te:TE}{g:TG}(he:PE X e te) (hg:PG X tg g) (hs:swapsWithSole [tg] e pos.line X.env=pure af:=by rfl) (hw:swappedStores [tg] e X.env=pure ag:=by rfl)
 (h1:(assignEach [tg] X.env).map (·.2)=[assign tg X.env]:=by rfl):PS X (.Assign [tg] e pos) (IG te g):=by
 intro pins s σ H D I h;refine wpAny_Assign_stores (tE (he pins s σ H _ I h) λv s1 x H1 I1 r1 q1=>?_) hs hw;rw[h1];show cy (hg pins s1 σ H1 x v _ I1 r1 q1) λ_ s2 q=>q
theorem SF {i:Nat}{te:TE}(hN:X.N.Nodup) (hi:X.N[i]?=ae x) (hx:Loc X.env.scope x) (he:PE X e te) (hs:swapsWith e (ae<|.Name x pos') pos.line X.env=pure af:=by rfl) (hf:X.fn x=ah \/ X.env.scope.names.lookup x=ae .local:=by first|show .inl zk|show .inr zk|assumption) :
 PS X (.Assign [.Name x pos'] e pos) (IG te<|X0 i):=by
 intro pins s σ H D I h;show wpAny_Assign_Name (tE (he pins s σ H _ I h) λv s1 y H1 I1 r1 q1=>(j7 I1 hN hi hx r1 (λs2 I2=>#[_,H1,I2,q1]) hf)) hs
def aci (i j:Nat) (ta:TA):TS:=λD σ H=>ta σ H λvs H1=>∃ v w,vs=[v,w] /\ D.nx ((σ.set i<|ae v).set j<|ae w) H1
theorem SG {i:Nat}{y:Str}{a b:au}{ta:TA}{px py pt:aG}{kt k2 nV}(hc:X.calm=ah) (hN:X.N.Nodup) (hi:X.N[i]?=ae x) (hj:X.N[j]?=ae y) (Er:i≠j)
 (hx:X.env.scope.names.lookup x=ae .local) (hy:X.env.scope.names.lookup y=ae .local) (ha:PA X [a,b] ta)
 (hw:swappedStores [.Tuple [.Name x px,.Name y py] kt pt] (.Tuple [a,b] k2 nV) X.env=pure (ae [x,y]))
 (hs:swapsWithSole [.Tuple [.Name x px,.Name y py] kt pt] (.Tuple [a,b] k2 nV) pos.line X.env=pure af:=by rfl) :
 PS X (.Assign [.Tuple [.Name x px,.Name y py] kt pt] (.Tuple [a,b] k2 nV) pos) (aci i j ta):=by
 intro pins s σ H D I h;refine ak<|xb ?_;refine ak<|az ?_;refine ak<|Tuple_<|tA (ha _ pins s σ H _ I h) λus s1 vs H1 I1 r1 q1=>?_;let#[v,w,e1,q1]:=q1;subst e1;obtain⟨u1,u2,rfl,rv,nG⟩:∃ u1 u2,us=[u1,u2] /\ RelV v u1 /\ RelV w u2:=by
  cases r1 with
  |cons p q=>
    cases q with
    |cons p' q'=>
      cases q';show#[_,_,rfl,p,p']
 refine eV ?_ (by change 2<=sizeLine;decide);have I2:Inv X pins σ H1 { s1 with heap:=s1.heap.push { cls:=.type "tuple",data:=.seq [u1,u2].toArray } }:=I1.kept λb o e=>aN _ e;rw[hw];refine ak<|az ?_;change wpAny ze X.A (do rule "assign.swapped-stores";let items <-unpackItems (.ref s1.heap.objs.size) 2 ag;assignInOrder [λv=>bindName X.env y v,λv=>bindName X.env x v] items.reverse;pure Flow.next) _ _ _;refine ak<|pQ<|ak<|unpackItems_tuple (items:=(List.toArray [u1,u2])) (I.ok.hd hc) (IsTup.new s1.heap _) λh' IH=>?_;have I3:=I2.kept (t':=s1.toks) λb o e=>IH b o (bC<|bh e) e;change wpAny _ _ (assignInOrder [λv=>bindName X.env y v,λv=>bindName X.env x v] [u2,u1] >>= λ_=>pure Flow.next) _ _ _;refine ak<|Xw<|Z4<|j7 I3 hN hj (.inl hy) nG (λs2 I4=>?_)<|.inr hy;refine Xw<|Z4<|j7 I4 hN hi (.inl hx) rv (λs3 I5=>aa5<|az ?_)<|.inr hx;rw[List.set_comm _ _<|Ne.symm Er]at I5;show#[_,H1,I5,q1]
def acj (i:Nat) (te:TE) (ti:IE):TS:=λD σ H=>∃ x,σ[i]?=ae (ae x) /\ te σ H λy H1=>ti x y H1 λz H2=>D.nx (σ.set i<|ae z) H2
theorem SH {i:Nat}{te:TE}{op:Operator}{ti:IE}(hN:X.N.Nodup) (hi:X.N[i]?=ae x) (hx:Loc X.env.scope x) (he:PE X e te) (ho:ach X op ti) (hf:X.fn x=ah \/ X.env.scope.names.lookup x=ae .local:=by first|show .inl zk|show .inr zk|assumption) :
 PS X (.AugAssign (.Name x pos') op e pos) (acj i te ti):=by
 intro pins s σ H D I h;let#[v,e1,h]:=h;let#[m,hn,hl]:=I.loc;let#[u,r,l]:=hl i x v hi e1 (by rcases hx with k|k;show .inl k;show .inr (.inl k));refine wpAny_AugAssign_Name ?_;have go:wpAny (model X.prog X.w) X.A (eval e X.env) (λw s₂=>wpAny ze X.A (inplaceOp op u w) (λr s₃=>wpAny ze X.A (storeName X.env x r) (λ_=>SP X pins D .next) X.xe s₃) X.xe s₂) X.xe s:=by
  refine tE (he pins s σ H _ I h) λw s1 y H1 I1 r1 q1=>?_;show tE (ho pins s1 σ H1 v y u w _ I1 r r1 q1) λz s2 zv H2 I2 r2 q2=>(j7 I2 hN hi hx r2 (λs3 I3=>#[_,H2,I3,q2]) hf)
 rcases l with⟨hk,hm⟩|⟨hk,c,hc,vj⟩
 .show Q0 I.ok.kind hk hn hm go
 .rcases hk with hk|hk
  .show ZY I.ok.kind hk hc vj go
  .rcases hx with k|k
   .have:X.env.scope.names.lookup x=ae .free:=hk;rw[k]at this;cases this
   .have:X.env.scope.names.lookup x=ae .free:=hk;rw[k]at this;cases this
noncomputable def ack (f:Int->Int->Int):IE:=λx y H Q=>∃ i j,x=.int i /\ y=.int j /\ Q (.int<|f i j) H
theorem SI:ach X .Add (ack λi j=>i+j):=by
 intro pins s σ H x y v u Q I r1 r2 h;let#[i,j,e1,e2,q]:=h;subst e1;subst e2;let#[t,rfl]:=r1;let#[t',rfl]:=r2;show iadd_int #[.int _,H,I.tok _,#[_,rfl],q]
structure It where
 go:Nat->Hp->zw
 Es:Nat->Hp->V->Hp->zw
 stop:Nat->Hp->zw
def pU (X:Cx) (pins:List<|ai×bj) (H:Hp) (b:ai):zw:=
 H b=ag /\ b≠X.env.locals /\ b∉X.fs /\ (b∈X.ex \/ X.s₀.heap.objs.size<=b) /\ (∀ x c,X.env.cells.lookup x=ae c->c≠b) /\ ∀ p∈X.pn++pins,p.1≠b
theorem Inv.xX {s:aq}{b:ai}(I:Inv X pins σ H s) (hb:s.heap.objs.size<=b) (hn:H' b=ag):pU X pins H' b:=by
 refine#[hn,u9<|kN I.lt hb,I.afX hb,.inr<|cT I.sz hb,λx c e z=>?_,λp hp z=>(absurd (kN (bh (I.pin p hp).1) (by rw[z];show hb))<|kF _)]
 .let#[v,q]:=I.cell x c e;show absurd (kN q.lt (by rw[z];show hb))<|kF _
structure Turn (P:dE) (w:bY) (K:PySem.W.Frag) (tg:au) (J:It) (fp:List ai) (it:ai) (tn:Nat->aJ->zw):zw where
 mem:it∈fp
 obj:∀ i h,tn i h->∀ b∈fp,∃ o,h.get? b=ae o /\ ∀ v,o.data≠.cell v
 keep:∀ i h h',tn i h->(∀ b∈fp,∀ o,h.get? b=ae o->h'.get? b=ae o)->tn i h'
 item:∀ (X:Cx),X.prog=P->X.w=w->X.K=K->X.calm=ah->∀ (i:Nat) (pins:List<|ai×bj) (s:aq) (σ:St) (H:Hp) (E:aj->aq->zw),Inv X pins σ H s->(∀ b∈fp,pU X pins H b)->tn i s.heap->J.go i H ->
  wpAny (model P w) X.A (pyNext<|.ref it) (λr s1=>∃ u,r=ae u /\
   wpAny (model P w) X.A (letOwnedTupleGo tg (.ref it) u) (λ_ s2=>∃ x H',Inv X pins σ H' s2 /\ RelV x u /\ J.Es i H x H' /\ tn (i+1) s2.heap /\ ∀ b∈fp,H' b=ag) E s1) E s
 done:∀ (X:Cx),X.prog=P->X.w=w->X.K=K->X.calm=ah->∀ (i:Nat) (pins:List<|ai×bj) (s:aq) (σ:St) (H:Hp) (E:aj->aq->zw),Inv X pins σ H s->(∀ b∈fp,pU X pins H b)->tn i s.heap->J.stop i H ->
  wpAny (model P w) X.A (pyNext<|.ref it) (λr s1=>r=ag /\ Inv X pins σ H s1) E s
 self:∀ (A:kR) (i:Nat) (s:aq) (Q:aj->aq->zw) (E:aj->aq->zw),tn i s.heap->Q (.ref it) s->wpAny (model P w) A (pyIter<|.ref it) Q E s
abbrev TI:=St->Hp->(It->Hp->zw)->zw
def X3 (X:Cx) (pins:List<|ai×bj) (σ:St) (tg:au) (R:It->Hp->zw) (II:aj) (s2:aq):zw:=
 ∃ (it:ai) (fp:List ai) (tn:Nat->aJ->zw) (J:It) (H':Hp),II=.ref it /\ Inv X pins σ H' s2 /\ Turn X.prog X.w X.K tg J fp it tn /\ tn 0 s2.heap /\ (∀ b∈fp,pU X pins H' b) /\ R J H'
def PI (X:Cx) (tg iter:au) (wi:TI):zw:=
 ∀ (pins:List<|ai×bj) (s:aq) (σ:St) (H:Hp) (R:It->Hp->zw),Inv X pins σ H s->wi σ H R ->
  wpAny ze X.A (eval iter X.env) (λv s1=>wpAny ze X.A (pyIter v) (X3 X pins σ tg R) X.xe s1) X.xe s
theorem CJ {s:aq}{n:String}{vs:Array aj}{Q:Unit->aq->zw}(ho:s.heap.get? it=ae o) (hc:o.cls=.type n) (hd:o.data=.fields vs)
 (hn:["enumerate","zip","dict_itemiterator","dict_reverseitemiterator","odict_iterator","itertools.zip_longest","itertools.pairwise"].contains n=af) (hQ:Q () s):wpAny M A (letOwnedTupleGo tg (.ref it) u) Q E s:=by
 cases tg<;>first
  |show az hQ
  |(cases u<;>first
   |show az hQ
   | (refine ak (xc ho ?_)
      rw[hc,hd];change wpAny M A (if (["enumerate","zip","dict_itemiterator","dict_reverseitemiterator","odict_iterator","itertools.zip_longest","itertools.pairwise"].contains n&&vs[0]?==ae _)=ah then _ else _) Q E s;rw[if_neg (by intro h;rw[hn,HX]at h;cases h)];show az hQ))
noncomputable def X4 (K:PySem.W.Frag) (a:ai):It:=
 #[λi H=>∃ xs x,bZ K H a xs /\ xs[i]?=ae x,λi H x H'=>H'=H /\ ∀ xs,bZ K H a xs->xs[i]?=ae x,λi H=>∃ xs,bZ K H a xs /\ xs.length<=i]
noncomputable def X5 (K:PySem.W.Frag) (a:ai):It:=
 #[λi H=>∃ xs x,c9 K H a xs /\ xs[i]?=ae x,λi H x H'=>H'=H /\ ∀ xs,c9 K H a xs->xs[i]?=ae x,λi H=>∃ xs,c9 K H a xs /\ xs.length<=i]
noncomputable def vY (lo:Int) (n:Nat):It:=#[λi _=>i<n,λi H x H'=>H'=H /\ x=.int (lo+i),λi _=>n<=i]
theorem GU (a it:ai):Turn P w K tg (X4 K a) [it] it (λi h=>h.IsListIter it a i) where
 mem:=by simp
 obj:=λi h st b hb=>by
  have e:b=it:=by simpa using hb
  subst e;let#[o,e,c,d]:=st;show#[o,e,λv z=>by rw[d]at z;cases z]
 keep:=λi h h' st k=>st.at λo e=>k it zf o e
 item:=by
  intro X hP hw hK hc i pins s σ H E I hf st hg;subst hP hw hK;let#[xs,x,hq,hx]:=hg;let#[its,rv,p,hz]:=I.list hq;let#[u,hu,ru]:=rv.get hx;let#[f0,f1,f2,f3,f4,f5]:=hf it zf;refine Q3 st p.isList (by simpa using hu) λh' pV sb=>?_;have I1:Inv X pins σ H { s with heap:=h' }:=I.turned (λb o hb e=>(sb.2 b hb).trans e) f0 f1 f3 f4 f5;let#[o,e,c,d]:=id pV;show#[u,rfl,CJ e c d zh #[x,H,I1,ru,#[rfl,λys hy=>by rw[I.ace hy hq];show hx],pV,λb hb=>(hf b hb).1]]
 done:=by
  intro X hP hw hK hc i pins s σ H E I hf st hg;subst hP hw hK;let#[xs,hq,hx]:=hg;let#[its,rv,p,hz]:=I.list hq;let#[f0,f1,f2,f3,f4,f5]:=hf it zf;have hl:=rv.length;show Q4 (I.ok.hd hc) st p.isList zm λh' eb=>#[rfl,I.turned (λb o hb e=>eb b o hb e) f0 f1 f3 f4 f5]
 self:=λ_ _ _ _ _ st h=>wpAny_pyIter_listiter st h
theorem DS (a it:ai):Turn P w K tg (X5 K a) [it] it (λi h=>h.IsTupleIter it a i) where
 mem:=by simp
 obj:=λi h st b hb=>by
  have e:b=it:=by simpa using hb
  subst e;let#[o,e,c,d]:=st;show#[o,e,λv z=>by rw[d]at z;cases z]
 keep:=λi h h' st k=>st.at λo e=>k it zf o e
 item:=by
  intro X hP hw hK hc i pins s σ H E I hf st hg;subst hP hw hK;let#[xs,x,hq,hx]:=hg;let#[its,rv,p,hz]:=I.tuple hq;let#[u,hu,ru]:=rv.get hx;let#[f0,f1,f2,f3,f4,f5]:=hf it zf;refine wpAny_pyNext_tuple_item st (p) (by simpa using hu) λh' pV sb=>?_;have I1:Inv X pins σ H { s with heap:=h' }:=I.turned (λb o hb e=>(sb.2 b hb).trans e) f0 f1 f3 f4 f5;let#[o,e,c,d]:=id pV;show#[u,rfl,CJ e c d zh #[x,H,I1,ru,#[rfl,λys hy=>by rw[I.acf hy hq];show hx],pV,λb hb=>(hf b hb).1]]
 done:=by
  intro X hP hw hK hc i pins s σ H E I hf st hg;subst hP hw hK;let#[xs,hq,hx]:=hg;let#[its,rv,p,hz]:=I.tuple hq;let#[f0,f1,f2,f3,f4,f5]:=hf it zf;have hl:=rv.length;show wpAny_pyNext_tuple_end (I.ok.hd hc) st (p) zm λh' eb=>#[rfl,I.turned (λb o hb e=>eb b o hb e) f0 f1 f3 f4 f5]
 self:=λ_ _ _ _ _ st h=>wpAny_pyIter_tupleiter st h
theorem Ap (it:ai) (lo:Int) (n:Nat):Turn P w K tg (vY lo n) [it] it (λi h=>IsRangeIter h it (lo+(i:Nat)*1) ((n:Int)-(i:Nat)) 1) where
 mem:=by simp
 obj:=λi h st b hb=>by
  have e:b=it:=by simpa using hb
  subst e;show#[_,st,λv z=>by
   have z':=z;cases z']
 keep:=λi h h' st k=>k it zf _ st
 item:=by
  intro X hP hw hK hc i pins s σ H E I hf st hg;subst hP hw hK;let#[f0,f1,f2,f3,f4,f5]:=hf it zf;have W:=Walks.range (prog:=X.prog) (w:=X.w) (I.ok.hd hc) it lo 1 n;refine W.item i s _ _ hg st λv h' tk hv pV kk=>?_;let#[t,rfl]:=hv;have I1:Inv X pins σ H { s with heap:=h',toks:=tk }:=I.turned (λb o hb e=>kk b o (by simpa using hb) e) f0 f1 f3 f4 f5;refine#[_,rfl,CJ pV zk zk (by decide) #[.int<|lo+i,H,I1,#[t,?_],#[rfl,rfl],pV,λb hb=>(hf b hb).1]];rw[Io]
 done:=by
  intro X hP hw hK hc i pins s σ H E I hf st hg;let#[f0,f1,f2,f3,f4,f5]:=hf it zf;show wpAny_pyNext_range_end (I.ok.hd hc) st (by have:n<=i:=hg;lia) λh' eb=>#[rfl,I.turned (λb o hb e=>eb b o hb e) f0 f1 f3 f4 f5]
 self:=λ_ _ _ _ _ st h=>wpAny_pyIter_rangeiter st h
theorem Lc {s:aq}{R:It->Hp->zw}{lo hi:Int}{t u v:Tok}{tk:Nat}(I:Inv X pins σ H s) (h1:-(2 ^ 62)<=lo) (h2:lo<2 ^ 62) (h3:-(2 ^ 62)<=hi) (h4:hi<2 ^ 62)
 (q:R (vY lo (hi-lo).toNat) H):wpAny ze X.A (pyIter<|.ref s.heap.objs.size) (X3 X pins σ tg R) E { s with heap:=s.heap.push { cls:=.type "range",data:=.fields (List.toArray [.int lo t,.int hi u,.int 1 v]) },toks:=tk }:=by
 refine Z5 (IsRange.new ..) (small_one h1 h2 h3 h4) ?_;have I1:Inv X pins σ H { s with heap:=s.heap.push { cls:=.type "range",data:=.fields (List.toArray [.int lo t,.int hi u,.int 1 v]) },toks:=tk }:=I.kept λb o e=>aN _ e;refine#[(s.heap.push { cls:=.type "range",data:=.fields (List.toArray [.int lo t,.int hi u,.int 1 v]) }).objs.size,[(s.heap.push { cls:=.type "range",data:=.fields (List.toArray [.int lo t,.int hi u,.int 1 v]) }).objs.size],_,_,H,rfl,
  I1.kept λb o e=>aN _ e,Ap _ lo (hi-lo).toNat,?_,λb hb=>?_,q]
 .have e1:lo+((0))*1=lo:=by simp
  have e2:(((hi-lo).toNat))-((0))=Builtin.Range.rangeSize lo hi 1:=by rw[Z6];split<;>lia
  change IsRangeIter _ _ (lo+((0))*1) ((((hi-lo).toNat))-((0))) 1;rw[e1,e2];show bE _ zk
 .have e:b=(s.heap.push { cls:=.type "range",data:=.fields (List.toArray [.int lo t,.int hi u,.int 1 v]) }).objs.size:=by simpa using hb
  subst e;show I1.xX (aI _)<|I1.aE.fresh<|aI _
def agl (ta:TA):TI:=λσ H R=>ta σ H λvs H1=>∃ j:Int,vs=[.int j] /\ -(2 ^ 62)<=j /\ j<2 ^ 62 /\ R (vY 0 j.toNat) H1
theorem GV {a:au}{ta:TA}{p:aG}(hg:Gl X "range") (hm:X.mg "range"=ag) (ha:PA X [a] ta) (hs:starEach [a] X.env=[(af,eval a X.env)]:=by rfl):PI X tg (.Call (.Name "range" p) [a] [] pos) (agl ta):=by
 intro pins s σ H R I h;refine Call_<|jd I hg hm boot_range<|HZ (tA (ha pos pins s σ H _ I h) λus s1 vs H1 I1 r1 q1=>?_) hs zk;let#[j,e,q1,q2,q]:=q1;subst e;cases r1 with
 |cons r rr=>
   cases rr;let#[t,rfl]:=r;show call_range_1<|Lc I1 za za q1 q2 (by simpa using q)
def acm (wi:TI) (g:TG) (tb:TS):TS:=λD σ H=>wi σ H λJ H1=>∃ W:Nat->Nat->St->Hp->zw,(∃ m,W 0 m σ H1) /\ ∀ i m σ H,W i m σ H ->
 (J.stop i H /\ D.nx σ H) \/ (J.go i H /\ ∃ N:St->Hp->zw,(∀ σ' H',N σ' H'->∃ m',m'<m /\ W (i+1) m' σ' H') /\ ∀ x H',J.Es i H x H'->g x σ H' λσ2 H2=>tb { D with nx:=N,ct:=N,bk:=D.nx } σ2 H2)
noncomputable def xY (fp:List ai) (h:aJ):List (ai×bj):=fp.filterMap λb=>(h.get? b).map λo=>(b,o)
theorem iy {b:ai}(hb:b∈fp) (e:h.get? b=ae o):(b,o)∈xY fp h:=List.mem_filterMap.mpr #[b,hb,by rw[e];rfl]
theorem GW {p:ai×bj}(hp:p∈xY fp h):p.1∈fp /\ h.get? p.1=ae p.2:=by
 let#[b,hb,e]:=List.mem_filterMap.mp hp;cases q:h.get? b with
 |none=>rw[q]at e;cases e
 |some o=>
   rw[q]at e;have e':=Option.some.inj e;subst e';show#[hb,q]
theorem Inv.pinned {s:aq}(I:Inv X pins σ H s) (hf:∀ b∈fp,pU X pins H b) (ho:∀ b∈fp,∃ o,s.heap.get? b=ae o /\ ∀ v,o.data≠.cell v):Inv X (pins++xY fp s.heap) σ H s:=
 I.ab3 λp hp=>(dY.mp hp).elim (λz=>I.pin p<|nD _ z) λz=>by
  let#[hb,e]:=GW z;let#[f0,f1,f2,_]:=hf p.1 hb;let#[o,e',d]:=ho p.1 hb;rw[e]at e';cases e';show#[e,f0,f1,f2,d]
theorem Inv.Et {pl:List (ai×bj)}{s:aq}(I:Inv X (pins++pl) σ H s):Inv X pins σ H s:=I.ab3 λp hp=>I.pin p<|nD _<|qM _ hp
theorem SJ {body:List cz}{wi:TI}{g:TG}{tb:TS}(hp:PassesOwn ze X.A X.env X.xe) (hc:X.calm=ah) (hi:PI X tg iter wi) (hg:PG X tg g) (hb:kZ X body tb)
 (hs:∀ x,foldedSetIterable iter X.env x=pure x:=by intro _;rfl):PS X (.For tg iter body [] pos) (acm wi g tb):=by
 intro pins s σ H D I h;refine wpAny_For (cy (hi pins s σ H _ I h) λv s1 h1=>cy h1 λII s2 h2=>?_) hs;let#[it,fp,tn,J,H2,e,I2,T,vZ,f2,W,#[m0,w0],turn]:=h2;subst e;have stat:∀ {H'},(∀ b∈fp,H' b=ag)->∀ b∈fp,pU X pins H' b:=λhn b hb=>#[hn b hb,(f2 b hb).2];refine codeAny_forLoop_any (λn s'=>∃ i σ' H',Inv X pins σ' H' s' /\ tn i s'.heap /\ (∀ b∈fp,H' b=ag) /\ W i n σ' H') ?_ m0 #[0,σ,H2,I2,vZ,λb hb=>(f2 b hb).1,w0];rintro n s3 ⟨i,σ3,H3,I3,vm,acn,w3⟩;rcases turn i n σ3 H3 w3 with⟨stop,qn⟩|⟨go,N,hN,step⟩
 .refine yQ hp<|cy (T.done X zk zk zk hc i pins s3 σ3 H3 X.xe I3 (stat acn) vm stop) ?_;rintro r s4 ⟨hr,I4⟩;subst hr;show Q2 #[σ3,H3,I4,qn]
 .refine yQ hp<|cy (T.item X zk zk zk hc i pins s3 σ3 H3 X.xe I3 (stat acn) vm go) ?_;rintro r s4 ⟨u,hr,h4⟩;subst hr;refine yQ hp<|cy h4 ?_;rintro _ s5 ⟨x,H5,I5,r5,y5,uv,v3⟩;have agm:=I5.pinned (stat v3)<|T.obj _ _ uv;refine yQ hp<|cy (hg _ s5 σ3 H5 x u _ agm r5<|step x H5 y5) ?_;rintro _ s6 ⟨σ6,H6,I6,q6⟩;refine yQ hp<|cy (hb _ s6 σ6 H6 _ I6 q6) λf s7 q7=>?_;have again:∀ {σ7}{H7},Inv X (pins++xY fp s5.heap) σ7 H7 s7->N σ7 H7->∃ m,m<n /\ ∃ i σ' H',Inv X pins σ' H' s7 /\ tn i s7.heap /\ (∀ b∈fp,H' b=ag) /\ W i m σ' H':=λ{σ7 H7} I7 n7=>by
   let#[m',hm,w7]:=hN σ7 H7 n7;refine#[m',hm,i+1,σ7,H7,I7.Et,T.keep _ _ _ uv λb hb o e=>(I7.pin (b,o)<|nD _<|nD _<|iy hb e).1,λb hb=>?_,w7];let#[o,e,d]:=T.obj _ _ uv b hb;show(I7.pin (b,o)<|nD _<|nD _<|iy hb e).2.1
  cases f with
  |brk=>let#[σ7,H7,I7,q7]:=q7;show#[σ7,H7,I7.Et,q7]
  |ret v=>let#[x7,σ7,H7,I7,r7,q7]:=q7;show#[x7,σ7,H7,I7.Et,r7,q7]
  |_=>let#[σ7,H7,I7,n7]:=q7;show again I7 n7
abbrev R2:=V->V->Hp->VK->zw
def bA (X:Cx) (f:aj->aj->Sem aj) (r:R2):zw:=
 ∀ (pins:List<|ai×bj) (s:aq) (σ:St) (H:Hp) (x y:V) (v u:aj) (Q:VK),Inv X pins σ H s->RelV x v->RelV y u->r x y H Q ->
  wpAny ze X.A (f v u) (EP X pins σ Q) X.xe s
def X6 (X:Cx) (f:aj->Sem aj) (r:V->Hp->VK->zw):zw:=
 ∀ (pins:List<|ai×bj) (s:aq) (σ:St) (H:Hp) (x:V) (v:aj) (Q:VK),Inv X pins σ H s->RelV x v->r x H Q ->
  wpAny ze X.A (f v) (EP X pins σ Q) X.xe s
def hG (X:Cx) (f:aj) (r:List V->Hp->VK->zw):zw:=
 ∀ (pins:List<|ai×bj) (s:aq) (σ:St) (H:Hp) (xs:List V) (us:List aj) (Q:VK),Inv X pins σ H s->Vals xs us->r xs H Q ->
  wpAny ze X.A (call f us) (EP X pins σ Q) X.xe s
def Eu (r:R2) (ta tb:TE):TE:=λσ H Q=>ta σ H λx H1=>tb σ H1 λy H2=>r x y H2 Q
def agn (r:V->Hp->VK->zw) (ta:TE):TE:=λσ H Q=>ta σ H λx H1=>r x H1 Q
def rI (C:Int->Int->zw) (g:Int->Int->V):R2:=λx y H Q=>∃ i j,x=.int i /\ y=.int j /\ C i j /\ Q (g i j) H
def nH (g:Int->Int->V):R2:=λx y H Q=>∃ i j,x=.int i /\ y=.int j /\ Q (g i j) H
def rU (g:Int->V):V->Hp->VK->zw:=λx H Q=>∃ i,x=.int i /\ Q (g i) H
section
variable {a b c:au} {ta tb tc:TE} 
theorem X7 (ha:PE X a ta) (hb:PE X b tb) {s:aq}{R:V->V->Hp->zw}(I:Inv X pins σ H s)
 (h:ta σ H λx H1=>tb σ H1 λy H2=>R x y H2) 
 (hf:∀ v u s2 x y H2,Inv X pins σ H2 s2->RelV x v->RelV y u->R x y H2->wpAny ze X.A (f v u) Q X.xe s2) :
 wpAny ze X.A (eval a X.env) (λv s₁=>wpAny ze X.A (eval b X.env) (λu s₂=>wpAny ze X.A (f v u) Q X.xe s₂) X.xe s₁) X.xe s:=by
 refine tE (ha pins s σ H _ I h) λv s1 x H1 I1 r1 q1=>?_;show tE (hb pins s1 σ H1 _ I1 q1) λu s2 y H2 I2 r2 q2=>(hf v u s2 x y H2 I2 r1 r2 q2)
theorem Vp {op:Operator}{r:R2}(ho:bA X (binaryOp op) r) (ha:PE X a ta) (hb:PE X b tb):PE X (.BinOp a op b pos) (Eu r ta tb):=by
 intro pins s σ H Q I h;show wpAny_BinOp<|X7 ha hb I h λv u s2 x y H2 I2 rx ry q=>ho pins s2 σ H2 x y v u Q I2 rx ry q
theorem RN {op:UnaryOp}{r:V->Hp->VK->zw}(ho:X6 X (unaryOp op) r) (ha:PE X a ta):PE X (.UnaryOp op a pos) (agn r ta):=by
 intro pins s σ H Q I h;show UnaryOp_<|tE (ha pins s σ H _ I h) λv s1 x H1 I1 r1 q1=>ho pins s1 σ H1 x v Q I1 r1 q1
theorem IJ {C:Int->Int->zw}{g:Int->Int->Int}
 (rule:∀ (i j:Int) (t u:Tok) (s:aq) (Q:aj->aq->zw) (E:aj->aq->zw),C i j->Q (.int (g i j) s.toks) { s with toks:=s.toks+1 }->wpAny ze X.A (f (.int i t)<|.int j u) Q E s) :
 bA X f (rI C λi j=>.int<|g i j):=by
 intro pins s σ H x y v u Q I rx ry h;let#[i,j,rfl,rfl,hc,q]:=h;let#[t,rfl]:=rx;let#[t',rfl]:=ry;show rule i j t t' s _ _ hc #[.int _,H,I.tok _,#[_,rfl],q]
theorem aco {g:Int->Int->Int}
 (rule:∀ (i j:Int) (t u:Tok) (s:aq) (Q:aj->aq->zw) (E:aj->aq->zw),Q (.int (g i j) s.toks) { s with toks:=s.toks+1 }->wpAny ze X.A (f (.int i t)<|.int j u) Q E s) :
 bA X f (nH λi j=>.int<|g i j):=by
 intro pins s σ H x y v u Q I rx ry h;let#[i,j,rfl,rfl,q]:=h;let#[t,rfl]:=rx;let#[t',rfl]:=ry;show rule i j t t' s _ _ #[.int _,H,I.tok _,#[_,rfl],q]
theorem IK {g:Int->Int->Bool}
 (rule:∀ (i j:Int) (t u:Tok) (s:aq) (Q:aj->aq->zw) (E:aj->aq->zw),Q (.bool<|g i j) s->wpAny ze X.A (f (.int i t)<|.int j u) Q E s) :
 bA X f (nH λi j=>.bl<|g i j):=by
 intro pins s σ H x y v u Q I rx ry h;let#[i,j,rfl,rfl,q]:=h;let#[t,rfl]:=rx;let#[t',rfl]:=ry;show rule i j t t' s _ _ #[.bl _,H,I,rfl,q]
def xZ (i j:Int):zw:=0<=j /\ j<=1000000 /\ i.natAbs<2 ^ 64
def v7 (i j:Int):zw:=(-(2 ^ 64)<i /\ i<2 ^ 64) \/ (-(2 ^ 64)<j /\ j<2 ^ 64)
theorem v7.ok {i j:Int}(h:v7 i j):IntMulOk i j:=by
 rcases h with⟨h1,h2⟩|⟨h1,h2⟩
 .show .of_left<|Z7 h1 h2
 .show .of_right<|Z7 h1 h2
theorem SK:bA X (binaryOp .Add) (nH λi j=>.int<|i+j):=aco λ_ _ _ _ _ _ _ q=>add_int q
theorem SL:bA X (binaryOp .Sub) (nH λi j=>.int<|i-j):=aco λ_ _ _ _ _ _ _ q=>sub_int q
theorem SM:bA X (binaryOp .Mult) (rI v7 λi j=>.int<|i*j):=IJ λ_ _ _ _ _ _ _ hc q=>mul_int q hc.ok
theorem SN:bA X (binaryOp .Mod) (rI (λ_ j=>0<j) λi j=>.int<|i % j):=IJ λi j _ _ _ _ _ hc q=>by
 show mod_int' za (by rw[Int.fmod_eq_emod_of_nonneg i za];show q)
theorem SO:bA X (binaryOp .Pow) (rI xZ λi j=>.int<|i ^ j.toNat):=IJ λ_ _ _ _ _ _ _ hc q=>pow_int_small hc.1 hc.2.1 hc.2.2 q
theorem ago {f:aj->Sem aj}{g:Int->Int}
 (rule:∀ (i:Int) (t:Tok) (s:aq) (Q:aj->aq->zw) (E:aj->aq->zw),Q (.int (g i) s.toks) { s with toks:=s.toks+1 }->wpAny ze X.A (f<|.int i t) Q E s) :
 X6 X f (rU λi=>.int<|g i):=by
 intro pins s σ H x v Q I rx h;let#[i,rfl,q]:=h;let#[t,rfl]:=rx;show rule i t s _ _ #[.int _,H,I.tok _,#[_,rfl],q]
theorem Ld:X6 X (unaryOp .USub) (rU λi=>.int<|-i):=ago λ_ _ _ _ _ q=>neg_int q
end
noncomputable def acp:V->V->Bool
 |.aC,.aC=>ah|.aC,.int _=>ah|.int _,.aC=>ah|.aC,.bl _=>ah|.bl _,.aC=>ah|.aC,.str _=>ah|.str _,.aC=>ah
 |.int _,.int _=>ah|.bl _,.bl _=>ah|.str _,.str _=>ah|.qj _,.qj _=>ah
 |.int _,.str _=>ah|.str _,.int _=>ah|.bl _,.str _=>ah|.str _,.bl _=>ah
 |_,_=>af
def acq:R2:=λx y H Q=>acp x y=ah /\ Q (.bl<|decide (x=y)) H
def acr:R2:=λx y H Q=>acp x y=ah /\ Q (.bl<|!decide (x=y)) H
theorem FL {i j:Int}:decide (V.int i=V.int j)=(i==j):=by
 rw[nT];simp
theorem Le {i j:Bool}:decide (V.bl i=V.bl j)=(i==j):=by
 rw[nT];simp
theorem FM {i j:Str}:decide (V.str i=V.str j)=(i==j):=by
 rw[nT];simp
theorem FN {i j:Array UInt8}:decide (V.qj i=V.qj j)=(i.toList==j.toList):=by
 rw[nT];cases i;cases j;simp
section
variable {a b c:au} {ta tb tc:TE} 
theorem fX {s:aq}{Q:VK}{k k':Bool}(I:Inv X pins σ H s) (q:Q (.bl k) H) (e:k=k'):EP X pins σ Q (.bool k') s:=by
 subst e;show#[.bl k,H,I,rfl,q]
theorem Vq:bA X (compareOp .Eq) acq:=by
 intro pins s σ H x y v u Q I rx ry h;let#[hs,q]:=h;cases x with
 |aC=>
   cases rx;cases y with
   |aC=>cases ry;show afn<|fX I q zf
   |bl j=>cases ry;show afo<|fX I q zf
   |int j=>let#[t',rfl]:=ry;show afp<|fX I q zf
   |str j=>let#[t',rfl]:=ry;show afq<|fX I q zf
   |_=>show absurd (hs) dM
 |bl i=>
   cases rx;cases y with
   |aC=>cases ry;show afr<|fX I q zf
   |bl j=>cases ry;show eq_bool<|fX I q Le
   |str j=>let#[t',rfl]:=ry;show afB<|fX I q zf
   |_=>show absurd (hs) dM
 |int i=>
   let#[t,rfl]:=rx;cases y with
   |aC=>cases ry;show afs<|fX I q zf
   |int j=>let#[t',rfl]:=ry;show eq_int<|fX I q FL
   |str j=>let#[t',rfl]:=ry;show afC<|fX I q zf
   |_=>show absurd (hs) dM
 |str i=>
   let#[t,rfl]:=rx;cases y with
   |aC=>cases ry;show aft<|fX I q zf
   |bl j=>cases ry;show afD<|fX I q zf
   |int j=>let#[t',rfl]:=ry;show afE<|fX I q zf
   |str j=>let#[t',rfl]:=ry;show eq_str<|fX I q FM
   |_=>show absurd (hs) dM
 |qj i=>
   let#[t,rfl]:=rx;cases y with
   |qj j=>let#[t',rfl]:=ry;show PySem.W.eq_bytes<|fX I q FN
   |_=>show absurd (hs) dM
 |_=>cases y<;>show absurd (show af=ah from hs) dM
theorem Vr:bA X (compareOp .NotEq) acr:=by
 intro pins s σ H x y v u Q I rx ry h;let#[hs,q]:=h;cases x with
 |aC=>
   cases rx;cases y with
   |aC=>cases ry;show afu<|fX I q zf
   |bl j=>cases ry;show afv<|fX I q zf
   |int j=>let#[t',rfl]:=ry;show afw<|fX I q zf
   |str j=>let#[t',rfl]:=ry;show afx<|fX I q zf
   |_=>show absurd (hs) dM
 |bl i=>
   cases rx;cases y with
   |aC=>cases ry;show afy<|fX I q zf
   |bl j=>cases ry;show ne_bool<|fX I q<|congrArg not Le
   |str j=>let#[t',rfl]:=ry;show afF<|fX I q zf
   |_=>show absurd (hs) dM
 |int i=>
   let#[t,rfl]:=rx;cases y with
   |aC=>cases ry;show afz<|fX I q zf
   |int j=>let#[t',rfl]:=ry;show ne_int<|fX I q<|congrArg not FL
   |str j=>let#[t',rfl]:=ry;show afG<|fX I q zf
   |_=>show absurd (hs) dM
 |str i=>
   let#[t,rfl]:=rx;cases y with
   |aC=>cases ry;show afA<|fX I q zf
   |bl j=>cases ry;show afH<|fX I q zf
   |int j=>let#[t',rfl]:=ry;show afI<|fX I q zf
   |str j=>let#[t',rfl]:=ry;show ne_str<|fX I q<|congrArg not FM
   |_=>show absurd (hs) dM
 |qj i=>
   let#[t,rfl]:=rx;cases y with
   |qj j=>let#[t',rfl]:=ry;show PySem.W.ne_bytes<|fX I q<|congrArg not FN
   |_=>show absurd (hs) dM
 |_=>cases y<;>show absurd (show af=ah from hs) dM
theorem Vs:bA X (compareOp .Lt) (nH λi j=>.bl<|decide (i<j)):=IK λ_ _ _ _ _ _ _ q=>lt_int q
theorem Vt:bA X (compareOp .LtE) (nH λi j=>.bl<|decide (i<=j)):=IK λ_ _ _ _ _ _ _ q=>le_int q
theorem Vu:bA X (compareOp .Gt) (nH λi j=>.bl<|decide (j<i)):=IK λ_ _ _ _ _ _ _ q=>gt_int q
theorem Vv:bA X (compareOp .GtE) (nH λi j=>.bl<|decide (j<=i)):=IK λ_ _ _ _ _ _ _ q=>ge_int q
theorem bA.or {r r':R2}(h:bA X f r) (h':bA X f r'):bA X f (λx y H Q=>r x y H Q \/ r' x y H Q):=by
 intro pins s σ H x y v u Q I rx ry q;rcases q with q|q
 .show h pins s σ H x y v u Q I rx ry q
 .show h' pins s σ H x y v u Q I rx ry q
theorem NU {op:CmpOp}{r:R2}(ho:bA X (compareOp op) r) (ha:PE X a ta) (hb:PE X b tb) (hm:behindInMarks op b=af):PE X (.Compare a [op] [b] pos) (Eu r ta tb):=by
 intro pins s σ H Q I h;show Z0 (X7 ha hb I h λv u s2 x y H2 I2 rx ry q=>ho pins s2 σ H2 x y v u Q I2 rx ry q) hm
noncomputable def acs (t:TE):TT:=λσ H Q=>t σ H λx H'=>∃ k,x=.bl k /\ Q k H'
theorem NV {op:CmpOp}{r:R2}(ho:bA X (compareOp op) r) (ha:PE X a ta) (hb:PE X b tb) (hm:behindInMarks op b=af):PT X (.Compare a [op] [b] pos) (acs<|Eu r ta tb):=by
 intro pins s σ H Q I h;refine Z1 (tE (ha pins s σ H _ I h) λv s1 x H1 I1 r1 q1=>tE (hb pins s1 σ H1 _ I1 q1) λu s2 y H2 I2 r2 q2=>tE (ho pins s2 σ H2 x y v u _ I2 r1 r2 q2) λc s3 z H3 I3 r3 hh=>?_) hm;let#[k,e,q3]:=hh;subst e;cases r3;show qK #[H3,I3,q3]
def X8 (r r':R2) (ta tb tc:TE):TE:=λσ H Q=>ta σ H λx H1=>tb σ H1 λy H2=>r x y H2 λz H3=>∃ k,z=.bl k /\
 (if k=ah then tc σ H3 λw' H4=>r' y w' H4 Q else Q (.bl af) H3)
theorem Lf {op dh:CmpOp}{r r':R2}(ho:bA X (compareOp op) r) (eZ:bA X (compareOp dh) r') (ha:PE X a ta) (hb:PE X b tb) (hc:PE X c tc)
 (hm:lastMarks [op,dh] [b,c]=af:=by with_unfolding_all rfl):PE X (.Compare a [op,dh] [b,c] pos) (X8 r r' ta tb tc):=by
 intro pins s σ H Q I h;refine Compare_chain (tE (ha pins s σ H _ I h) λv s1 x H1 I1 r1 q1=>chain_link<|tE (hb pins s1 σ H1 _ I1 q1) λu s2 y H2 I2 r2 q2=>tE (ho pins s2 σ H2 x y v u _ I2 r1 r2 q2) λd s3 z H3 I3 r3 hh=>?_) hm;let#[k,e,q3]:=hh;subst e;cases r3;refine qK ?_;cases k with
 |false=>show ite_ff #[.bl af,H3,I3,rfl,q3]
 |true=>show ite_tt<|chain_last<|tE (hc pins s3 σ H3 _ I3 q3) λw' s4 z' H4 I4 r4 q4=>eZ pins s4 σ H4 y z' u w' Q I4 r2 r4 q4
theorem Lg {op dh:CmpOp}{r r':R2}(ho:bA X (compareOp op) r) (eZ:bA X (compareOp dh) r') (ha:PE X a ta) (hb:PE X b tb) (hc:PE X c tc)
 (hm:lastMarks [op,dh] [b,c]=af:=by with_unfolding_all rfl):PT X (.Compare a [op,dh] [b,c] pos) (acs<|X8 r r' ta tb tc):=by
 intro pins s σ H Q I h;refine isTrue_chain (tE (ha pins s σ H _ I h) λv s1 x H1 I1 r1 q1=>test_link<|tE (hb pins s1 σ H1 _ I1 q1) λu s2 y H2 I2 r2 q2=>tE (ho pins s2 σ H2 x y v u _ I2 r1 r2 q2) λd s3 z H3 I3 r3 hh=>?_) hm;let#[k,e,q3]:=hh;subst e;cases r3;refine qK ?_;cases k with
 |false=>
   let#[k',e',q']:=q3;cases e';show ite_ff #[H3,I3,q']
 |true=>
   refine ite_tt<|test_last<|tE (hc pins s3 σ H3 _ I3 q3) λw' s4 z' H4 I4 r4 q4=>tE (eZ pins s4 σ H4 y z' u w' _ I4 r2 r4 q4) λd' s5 z2 H5 I5 r5 hh=>?_;let#[k2,e2,q5]:=hh;subst e2;cases r5;show qK #[H5,I5,q5]
theorem ya:(sizeLine:Nat)<2 ^ 63:=by decide
theorem DT:bA X (binaryOp .Add) (λx y H Q=>∃ i j,x=.str i /\ y=.str j /\ i.length+j.length<=sizeLine /\ Q (.str<|i++j) H):=by
 intro pins s σ H x y v u Q I rx ry h;let#[i,j,rfl,rfl,hz,q]:=h;let#[t,rfl]:=rx;let#[t',rfl]:=ry;show add_str (λt' tk=>#[.str _,H,I.tok _,#[_,rfl],q]) hz
theorem vals1 {x:V}(r:Vals [x] us):∃ u,us=[u] /\ RelV x u:=by
 cases r with
 |cons r1 r2=>cases r2;show#[_,rfl,r1]
theorem vals2 {x y:V}(r:Vals [x,y] us):∃ u w',us=[u,w'] /\ RelV x u /\ RelV y w':=by
 cases r with
 |cons r1 r2=>
   cases r2 with
   |cons r3 r4=>cases r4;show#[_,_,rfl,r1,r3]
theorem GX (hc:X.calm=ah):hG X (.builtin "max") (λxs H Q=>∃ i j,xs=[.int i,.int j] /\ Q (.int (if j>i then j else i)) H):=by
 intro pins s σ H xs us Q I r h;let#[i,j,rfl,q]:=h;let#[u,w',rfl,#[t,rfl],#[t',rfl]]:=vals2 r;refine max_two_ints (I.ok.hd hc) λh' tk k=>#[_,H,I.kept k,?_,q];by_cases hj:j>i
 .rw[if_pos hj,if_pos hj];show#[_,rfl]
 .rw[if_neg hj,if_neg hj];show#[_,rfl]
theorem GY (hc:X.calm=ah):hG X (.builtin "min") (λxs H Q=>∃ i j,xs=[.int i,.int j] /\ Q (.int (if j<i then j else i)) H):=by
 intro pins s σ H xs us Q I r h;let#[i,j,rfl,q]:=h;let#[u,w',rfl,#[t,rfl],#[t',rfl]]:=vals2 r;refine min_two_ints (I.ok.hd hc) λh' tk k=>#[_,H,I.kept k,?_,q];by_cases hj:j<i
 .rw[if_pos hj,if_pos hj];show#[_,rfl]
 .rw[if_neg hj,if_neg hj];show#[_,rfl]
end
structure X9 (h:aJ) (x dx C:ai) (mA:Str->Option aj):zw where
 obj:h.get? x=ae (PySem.W.instObj C dx)
 ns:h.Ns1 dx mA
 ne:dx≠x
theorem GZ {dx:ai}(n:h.Ns1 dx mA):∃ od,h.get? dx=ae od /\ ∀ name,PySem.W.lookIn name od=ae (mA name):=by
 let#[o,es,ep,ho,hd,hk,_,hm]:=n;refine#[o,ho,λname=>?_];have e:=hm name;unfold nsFind findBy at e;rw[<-Array.find?_toList]at e;unfold PySem.W.lookIn;rw[hd];dsimp only;split
 .ext y q;rw[q]at e;show congrArg ae e
 .ext q;rw[q]at e;have a:es.toList.any (·.refKey)=af:=by
   rw[Xj];intro y hy;let#[z,t,Ya]:=hk y<|Array.mem_toList_iff.mp hy;simp[DictEntry.refKey,Ya]
  rw[if_neg (by rw[a];show dM)];show congrArg ae e
theorem X9.look {x dx C:ai}(I:X9 h x dx C mA):∃ od,PySem.W.InstAt h x (PySem.W.instObj C dx) C (ae od) /\ ∀ name,PySem.W.lookIn name od=ae (mA name):=
 let ⟨od,ho,hl⟩:=GZ I.ns
 #[od,#[I.obj,rfl,rfl,ho],hl]
section
variable {s:aq} {x dx C f:ai} {name:Str} {v:aj}
end
theorem pT.some_of {o:Option aj}(r:pT (ae v) o):∃ u,o=ae u /\ RelV v u:=by
 cases o with
 |none=>show(r).elim
 |some u=>show#[u,rfl,r]
section
variable {C dx:ai} {fs afU:List (Str × V)}
theorem NW (aE:cW P w H h) (e:H a=ae (.ins C dx fs)):∃ mA,X9 h a dx C mA /\ (∀ f,pT (fs.lookup f)<|mA f) /\ PySem.Within mA (fs.map (·.1)) /\ fs.length<=1000 /\ H dx=ae (.own a):=by
 let#[d,z,ne,ob,mA,n,r,q]:=(aE a _ e);show#[mA,#[ob,n,ne],r,q,z,d]
end
structure Yb (K:PySem.W.Frag) (C:ai):zw where
 pg:PySem.W.plainGet K C Str.empty=ah
 hd:PySem.W.hasDictIn K C=ah
 po:PySem.W.plainOver K C=ah
 sa:PySem.W.findIn K (.ref C) "__setattr__"=ae (ae<|.builtin "object.__setattr__")
theorem Yb.get {C:ai}(c:Yb K C) (f:Str):PySem.W.plainGet K C f=ah:=c.pg
section
variable {s:aq} {C dx:ai} {fs:List (Str × V)} {f:Str} 
end
section
variable {o value:au} {f:Str} {IL:aG} {ta tv:TE}
end
section
variable {s:aq} {c:aj} {b:Bool}
inductive pW (K:PySem.W.Frag) (H:Hp):V->aj->zw where
 |aC:pW K H .aC (.type "NoneType")
 |bl (x:Bool):pW K H (.bl x) (.type "bool")
 |int (i:Int):pW K H (.int i) (.type "int")
 |str (x:Str):pW K H (.str x) (.type "str")
 |sW (x:UInt64):pW K H (.sW x) (.type "float")
 |lst {a:ai}{xs:List V}(e:H a=ae (.lst xs)):pW K H (.ref a) (.type "list")
 |bP {a:ai}{o:bj}{xs:List V}(e:H a=ae (.bP o<|.lst xs)):pW K H (.ref a) (.type "list")
 |tup {a:ai}{xs:List V}(e:H a=ae (.tup xs)):pW K H (.ref a) (.type "tuple")
 |dK {a:ai}{ao:List (Key×V)}(e:H a=ae (.dK ao)):pW K H (.ref a) (.type "dict")
 |dT {a:ai}{ao:List (List Key×V)}(e:H a=ae (.dT ao)):pW K H (.ref a) (.type "dict")
 |ins {a C dx:ai}{fs:List (Str×V)}(e:H a=ae (.ins C dx fs)) (cl:Yb K C) (ha:PySem.W.findIn K (.ref C) "__class__"=ae (ae<|.builtin "object.__class__"))
  (hn:PySem.W.specialIn K (.builtin "object.__class__") "__get__"=ae (ae<|.builtin "getset_descriptor.__get__")) (acu:PySem.W.takesIn K (.builtin "object.__class__")=ae ah)
  (hm:PySem.W.mroIn K C (.type "object")=ae ah):pW K H (.ref a) (.ref C)
theorem G0 {x:V}{t:aj}(I:Inv X pins σ H s) (rx:RelV x u) (ty:pW X.K H x t) (e:PySem.W.kitOne X.K t c=ae b) (h:∀ tk,Q (.bool b) { s with toks:=tk }) :
 wpAny ze A (call (.builtin "isinstance") [u,c]) Q E s:=by
 cases ty with
 |aC=>cases (rx);show rV PySem.W.kitx_none I.nF True.intro e (λz=>nomatch z) h
 |bl y=>cases (rx);show rV PySem.W.kitx_bool I.nF True.intro e (λz=>nomatch z) h
 |int i=>let#[t,q]:=(rx);cases q;show rV PySem.W.kitx_int I.nF True.intro e (λz=>nomatch z) h
 |str y=>let#[t,q]:=(rx);cases q;show rV PySem.W.kitx_str I.nF True.intro e (λz=>nomatch z) h
 |sW y=>let#[t,q]:=(rx);cases q;show rV PySem.W.kitx_float I.nF True.intro e (λz=>nomatch z) h
 |@lst a xs ea=>
   cases (rx);let#[_,_,n,_,h1]:=(I.aE a _ ea);show rV abt I.nF #[_,h1,rfl] e (λz=>nomatch z) h
 |@bP a ob xs ea=>
   cases (rx);let#[_,_,_,n,_,h1]:=(I.aE a _ ea);show rV abt I.nF #[_,h1,rfl] e (λz=>nomatch z) h
 |@tup a xs ea=>
   cases (rx);let#[_,_,_,p]:=(I.aE a _ ea);let#[o,h1,h2,_]:=p;show rV PySem.W.kitx_tuple I.nF #[o,h1,h2] e (λz=>nomatch z) h
 |@dK a ao ea=>
   cases (rx);let#[_,_,vs,_,p]:=(I.aE a _ ea);let#[o,es,ep,h1,h2,_]:=p;show rV abu I.nF #[o,h1,h2.1] e (λz=>nomatch z) h
 |@dT a ao ea=>
   cases (rx);let#[_,_,xs,_,o,es,ep,h1,h2,_]:=(I.aE a _ ea);show rV abu I.nF #[o,h1,h2.1] e (λz=>nomatch z) h
 |@ins a C dx fs ea cl ha hn acu hm=>
   cases (rx);let#[mA,O,_]:=NW I.aE ea;let#[od,J,_]:=O.look;show rV (PySem.W.kitx_own (cl.get _) cl.hd ha hn acu hm) I.nF J e (λz=>nomatch z) h
end
structure kI (k:Nat) (A:kR):zw where
 hd:A.handled=ag
 dp:A.depth+3*k+5<recursionLimit
 un:A.units+16*k+200<cLine
 gd:A.guards=ae []
theorem kI.mono {k:Nat}(r:kI k A) (h:j<=k):kI j A:=#[r.hd,by have:=r.dp;lia,by have:=r.un;lia,r.gd]
theorem kI.deeper {k:Nat}{A:kR}(r:kI (k+1) A) (env:Env):kI k (A.deeper env):=
 #[r.hd,by have:=r.dp;change A.depth+1+3*k+5<_;lia,by have:=r.un;change A.units+3+16*k+200<_;lia,by first|show r.gd|(first|rfl|simp[guardIds])]
theorem kI.depth {k:Nat}{A:kR}(r:kI k A):A.depth<recursionLimit:=by have:=r.dp;lia
def Yc:TA:=λ_ H Q=>Q [] H
def Yd (ta:TE) (tr:TA):TA:=λσ H Q=>ta σ H λx H1=>tr σ H1 λxs H2=>Q (x::xs) H2
section
variable {te:TE} {t:TA} 
theorem lW:PA X [] Yc:=λ_ _ _ _ H Q I h=>xK #[[],H,I,.nil,h]
theorem ji (ha:PE X e te) (hr:PA X es t) (hs:starEach (e::es) X.env=(af,eval e X.env)::starEach es X.env:=by rfl):PA X (e::es) (Yd te t):=by
 intro pos pins s σ H Q I h;rw[hs];change wpAny _ _ (spliced ((af,eval e X.env)::backTo pos _)) _ _ s;show xM<|tE (ha pins s σ H _ I h) λu s1 x H1 I1 r1 q1=>(tA (hr pos pins s1 σ H1 _ I1 q1) λus s2 xs H2 I2 r2 q2=>#[x::xs,H2,I2,.cons r1 r2,q2])
def agp (t:TA):TE:=λσ H Q=>t σ H λxs H1=>xs.length<=sizeLine /\ ∀ p,H1 p=ag->Q (.ref p) (upd H1 p<|.tup xs)
def agq (t:TA):TE:=λσ H Q=>t σ H λxs H1=>xs.length<=sizeLine /\ ∀ p,H1 p=ag->Q (.ref p) (upd H1 p<|.lst xs)
theorem Lh {x1}(h:PA X es t):PE X (.Tuple es x1 pos) (agp t):=by
 intro pins s σ H Q I hq;refine wpAny_Tuple_spliced (tA (h pos pins s σ H _ I hq) λus s1 xs H1 I1 r ⟨z,q⟩=>#[by rw[<-r.length];show z,?_]);show#[.ref s1.heap.objs.size,upd H1 s1.heap.objs.size<|.tup xs,I1.laid (λb u e=>aN _ e) (aI _)<|#[z,us,r,#[_,bE _ zk,rfl,_,rfl]],rfl,q _<|I1.aE.fresh<|aI _]
theorem SQ (h:PA X es t):PE X (.List es pos) (agq t):=by
 intro pins s σ H Q I hq;refine wpAny_List_spliced (tA (h pos pins s σ H _ I hq) λus s1 xs H1 I1 r ⟨z,q⟩=>#[by rw[<-r.length];show z,?_]);show#[.ref s1.heap.objs.size,upd H1 s1.heap.objs.size<|.lst xs,I1.laid (λb u e=>aN _ e) (aI _)<|#[z,us,0,r,bE _ zk],rfl,q _<|I1.aE.fresh<|aI _]
end
abbrev Sp:=List V->Hp->VK->XK->zw
abbrev qV:=List Env->Hp->aq->XK->aj->aq->zw
structure IM (P:dE) (w:bY) (K:PySem.W.Frag) (mg:Str->Option aj) (base:aJ) (A:kR) (outer:List Env) (s:aq) (H:Hp):zw where
 frames:A.frames=ae outer
 mod:Mod K mg base
 bs:∀ b o,base.get? b=ae o->s.heap.get? b=ae o /\ H b=ag
 vW:base.objs.size<=s.heap.objs.size
 rX:s.heap.FunFrames base outer
 xW:∀ b∈qo outer,H b=ag
 aE:cW P w H s.heap
 bare:AllBare s.gens
def CE (outer:List Env) (P:dE) (w:bY) (H:Hp) (s:aq) (Q:VK) (u:aj) (s':aq):zw:=
 ∃ v H',s'.os=s.os /\ AllBare s'.gens /\ Un (qo outer) [] H H' s.heap s'.heap /\ cW P w H' s'.heap /\ RelV v u /\ Q v H'
def CR (CX:qV) (outer:List Env) (P:dE) (w:bY) (H:Hp) (s:aq) (Q:VK) (E:XK) (r:Result) (s':aq):zw:=
 match r with
 |.ok (.ret u)=>CE outer P w H s Q u s'
 |.ok _=>False
 |.error e=>CX outer H s E e s'
structure pE (P:dE) (w:bY) (K:PySem.W.Frag) (mg:Str->Option aj) (base:aJ) (CX:qV) (k:Nat) (f:ai) (fd:FuncData) (ps:List Str) (sp:Sp):zw where
 len:∀ vs H Q E,sp vs H Q E->vs.length=ps.length
 run:∀ (A:kR) (outer:List Env) (s:aq) (H:Hp) (args:Args) (us:List aj) (vs:List V) (Q:VK) (E:XK),kI k A->IM P w K mg base A outer s H->BindsTo s fd args (ps.zip us)->Vals vs us->sp vs H Q E ->
  codeAny (model P w) A (.call (.ref f) args) (CR CX outer P w H s Q E) s
theorem pE.mono {P:dE}{w:bY}{K:PySem.W.Frag}{mg:Str->Option aj}{base:aJ}{CX:qV}{j k:Nat}{f:ai}{fd:FuncData}{ps:List Str}{sp:Sp}(F:pE P w K mg base CX j f fd ps sp) (h:j<=k) :
 pE P w K mg base CX k f fd ps sp:=#[F.len,λA outer s H args us vs Q E hr=>F.run A outer s H args us vs Q E<|hr.mono h]
section
variable {s s':aq}
theorem Inv.agr (I:Inv X pins σ H s):IM X.prog X.w X.K X.mg X.base X.A X.stack s H:=
 #[I.ok.frames,I.ok.mod,I.bs,cT I.ok.vW I.sz,I.stack,I.ab0,I.aE,I.bare]
theorem Inv.after {Q:VK}(I:Inv X pins σ H s) (h:CE X.stack X.prog X.w H s Q u s'):EP X pins σ Q u s':=by
 let#[v,H',os,bare,un,aE,r,q]:=h;let#[hh,g,d,t,qW]:=s';obtain rfl:qW=s.os:=os;show#[v,H',I.call un aE bare λb z=>absurd z zf,r,q]
end
def acv (sp:Sp) (v8:List V) (E:XK) (t:TA):TE:=λσ H Q=>t σ H λvs H1=>sp (vs++v8) H1 Q E
def Binds (K:PySem.W.Frag) (fd:FuncData) (ps:List Str) (ds:List aj):zw:=
 ∀ (s:aq) (us:List aj),K.In s.heap->(us++ds).length=ps.length->BindsTo s fd #[us,[]] (ps.zip<|us++ds)
theorem Binds.all {ps:List Str}(h:∀ us:List aj,us.length=ps.length->bindArgs fd #[us,[]]=pure (ps.zip us)):Binds K fd ps []:=λs us _ hl=>by
 rw[kG]at hl ⊢;show .of_eq<|h us hl
def Passes (CX:qV) (X:Cx) (E:XK):zw:=∀ (pins:List<|ai×bj) (σ:St) (H:Hp) (s:aq) (e:aj) (s':aq),Inv X pins σ H s->CX X.stack H s E e s'->X.xe e s'
section
variable {CX:qV} {k:Nat} {f C:ai} {ps:List Str} {sp:Sp} {v8:List V} {ds:List aj} {E:XK} {m:Str} {p:aG} {o:au} {ta:TE} {t:TA}
theorem SR {s:aq}{Q:VK}{vs:List V}(F:pE X.prog X.w X.K X.mg X.base CX k f fd ps sp) (hr:kI k X.A) (hb:Binds X.K fd ps ds) (hd:Vals v8 ds) (hx:Passes CX X E)
 (I:Inv X pins σ H s) (r:Vals vs us) (h:sp (vs++v8) H Q E):wpAny ze X.A (call (.ref f) us) (EP X pins σ Q) X.xe s:=by
 have r2:=r.append hd;refine Q5<|xf (F.run X.A X.stack s H _ _ _ Q E hr I.agr (hb s us I.nF (by rw[<-r2.length];show F.len _ _ _ _ h)) r2 h) λr s' hq=>?_;cases r with
 |error e=>show hx pins σ H s e s' I hq
 |ok fl=>
   cases fl with
   |ret u=>show I.after hq
   |_=>show False.elim hq
theorem NX (F:pE X.prog X.w X.K X.mg X.base CX k f fd ps sp) (hr:kI k X.A) (hg:Gl X x) (hm:X.mg x=ae (.ref f)) (hk:PySem.W.keepIn X.K (.ref f)=ah) (hb:Binds X.K fd ps ds) (hd:Vals v8 ds) (hx:Passes CX X E)
 (ha:PA X (e::es) t) (dO:(x==("__debug__":Str))=af:=by decide) (he:starEach (e::es) X.env=(af,eval e X.env)::starEach es X.env:=by rfl) (nW:(backTo pos<|starEach es X.env).any (·.1)=af:=by rfl) :
 PE X (.Call (.Name x p) (e::es) [] pos) (acv sp v8 E t):=by
 intro pins s σ H Q I h;refine uf<|FH I hg hm ?_ dO;show PySem.W.callWith_K I.ok.mod.vV hk (tA (ha pos pins s σ H _ I h) λus s1 vs H1 I1 r q=>#[I1.nF,(SR F hr hb hd hx I1 r q)]) he nW
end
section
variable {CX:qV} {k:Nat} {f C:ai} {ps ks:List Str} {sp:Sp} {E:XK} {m:Str} {p akT:aG} {o:au} {akU:List Keyword} {te ta:TE} {t tk:TA} {nm:Option Str}
variable {g:List aj -> List aj -> List aj} {gV:List V -> List V -> List V}
end
structure Ew (N P:List Str) (sc:bK):zw where
 kind:sc.kind=.function
 co:sc.isCoroutine=af
 gen:sc.isGenerator=af
 nd:N.Nodup
 pre:N.take P.length=P
 par:∀ x∈P,sc.names.lookup x=ae .local \/ sc.names.lookup x=ae .cell
 ags:∀ y∈sc.names,y.2≠.free
theorem Bo {kindOf:Str->Option NameKind}{x:Str}:∀ {binds:List (Str×aj)}{m:Str->Option aj},(∀ v,(x,v)∉binds)->bindL kindOf binds m x=m x
 |[],_,_=>rfl
 | (n,v)::r,m,h=>by
   unfold bindL;rw[Bo λw hw=>h w<|bG _ hw];split
   .have:x≠n:=by rintro rfl;show h v bw
    simp[this]
   .rfl
theorem Bp {kindOf:Str->Option NameKind}{x:Str}:∀ {binds:List (Str×aj)}{m:Str->Option aj},(∀ v,(x,v)∉binds)->bindC kindOf binds m x=m x
 |[],_,_=>rfl
 | (n,v)::r,m,h=>by
   unfold bindC;rw[Bp λw hw=>h w<|bG _ hw];split
   .rfl
   .have:x≠n:=by rintro rfl;show h v bw
    simp[this]
theorem Br {kindOf:Str->Option NameKind}{x:Str}{v:aj}:∀ {P:List Str}{vs:List aj}{i:Nat}{m:Str->Option aj},P.Nodup->P[i]?=ae x->vs[i]?=ae v->kindOf x=ae .local ->
 bindL kindOf (P.zip vs) m x=ae v
 |[],_,_,_,_,h,_,_=>by simp at h
 |_::_,[],_,_,_,_,h,_=>by simp at h
 | p::P,w::vs,0,m,nd,h1,h2,hk=>by
   simp at h1 h2;subst h1;subst h2;change bindL kindOf ((p,w)::P.zip vs) m p=_;unfold bindL;rw[Bo λv hv=>(nE.mp nd).1 (Xk hv).1,if_pos hk];simp
 | p::P,w::vs,i+1,m,nd,h1,h2,hk=>by
   unfold bindL;show Br (nE.mp nd).2 (by simpa using h1) (by simpa using h2) hk
theorem Bs {kindOf:Str->Option NameKind}{x:Str}{v:aj}:∀ {P:List Str}{vs:List aj}{i:Nat}{m:Str->Option aj},P.Nodup->P[i]?=ae x->vs[i]?=ae v->kindOf x≠ae .local ->
 bindC kindOf (P.zip vs) m x=ae v
 |[],_,_,_,_,h,_,_=>by simp at h
 |_::_,[],_,_,_,_,h,_=>by simp at h
 | p::P,w::vs,0,m,nd,h1,h2,hk=>by
   simp at h1 h2;subst h1;subst h2;change bindC kindOf ((p,w)::P.zip vs) m p=_;unfold bindC;rw[Bp λv hv=>(nE.mp nd).1 (Xk hv).1,if_neg hk];simp
 | p::P,w::vs,i+1,m,nd,h1,h2,hk=>by
   unfold bindC;show Bs (nE.mp nd).2 (by simpa using h1) (by simpa using h2) hk
noncomputable def start (N:List Str) (vs:List V):St:=vs.map ae++List.replicate (N.length-vs.length) ag
noncomputable def yb (CX:qV) (P:dE) (w:bY) (K:PySem.W.Frag) (mg:Str->Option aj) (base:aJ) (N:List Str) (qual:Str) (scope:bK) (f:ai) (cd:aj) (A:kR) (outer:List Env) (s:aq) (H:Hp) (E:XK):Cx where
 prog:=P
 w:=w
 K:=K
 mg:=mg
 base:=base
 A:=A.deeper<|envOfC qual scope s.heap.objs.size f cd
 N:=N
 s₀:=s
 H₀:=H
 env:=envOfC qual scope s.heap.objs.size f cd
 outer:=outer
 stack:=envOfC qual scope s.heap.objs.size f cd::outer
 ex:=[]
 calm:=ah
 fn:=λ_=>ah
 pn:=[]
 xe:=λe s'=>wpAny (model P w) (A.deeper<|envOfC qual scope s.heap.objs.size f cd) (leaving (envOfC qual scope s.heap.objs.size f cd) e) (λ_ Ye=>CX outer H s E e Ye) (λe' Ye=>CX outer H s E e' Ye) s'
theorem Aq {sc:bK}(h:sc.names.lookup x=ae .cell):∃ c,(cellsFrom n sc.names []).lookup x=ae c:=by
 show Option.isSome_iff_exists.mp<|abv sc.names n []<|.inl h
theorem G1 {CX:qV}{ps:List Str}{scope:bK}{f:ai}{cd:aj}{outer:List Env}{s s1:aq}{E:XK}{vs:List V}
 (S:Ew N ps scope) (hd:A.handled=ag) (e0:IM P w K mg base A outer s H) (hl:vs.length=ps.length) (r:Vals vs us)
 (x:InCallC s s.heap.objs.size (bindL (envOfC qual scope s.heap.objs.size f cd).kindOf (ps.zip us) λ_=>ag) (cellsFrom (s.heap.objs.size+1) scope.names []) (bindC (envOfC qual scope s.heap.objs.size f cd).kindOf (ps.zip us) λ_=>ag) s1) :
 Inv (yb CX P w K mg base N qual scope f cd A outer s H E) [] (start N vs) H s1:=by
 have nW:ps.length<=N.length:=by have:=congrArg List.length S.pre;rw[yZ]at this;lia
 let#[h1,tk,rfl,hk]:=x.done;have Yf:∀ b,b∉(yb CX P w K mg base N qual scope f cd A outer s H E).ex:=λb z=>absurd (show b∈([]) from z) zf;refine#[#[e0.mod,S.kind,rfl,rfl,aI _,λy z c h1 h2=>?_,λy hy=>?_,λy c _ h=>?_,λ_=>hd,Around.frames_deeper e0.frames,.inr #[rfl,rfl],λb z=>absurd z<|Yf b,e0.bs,e0.vW,λb _ _=>Yf b,λb z=>absurd z<|Yf b,e0.rX,e0.xW],
  rfl,e0.bare,Un.kept hk,#[_,x.toInCall.ns,λi y v h1 h2 h3=>?_],λy c h=>#[_,x.cell y c h],e0.aE.fresh<|aI _,λy c h=>?_,λp hp=>absurd (show p∈([]) from hp) zf,e0.aE.kept hk,?_]
 .show Z8 x.apart (pR h1)<|pR h2
 .rcases hy with hy|hy
  .show Aq hy
  .show absurd zk<|S.ags _<|pR hy
 .show nC<|x.above y c<|pR h
 .have hi:i<vs.length:=by
   unfold start at h2;by_cases hi:i<vs.length
   .show hi
   .rw[pS (by simpa using hi)]at h2;rw[aaz]at h2;split at h2<;>cases h2
  have ha:vs[i]?=ae v:=by
   unfold start at h2;rw[kX (by simpa using hi),kQ]at h2;cases e:vs[i]? with
   |none=>rw[e]at h2;cases h2
   |some a=>rw[e]at h2;cases h2;rfl
  let#[u,hu,rv]:=r.get ha;have hp:ps[i]?=ae y:=by
   rw[<-S.pre,aaA za];show h1
  have acw:ps.Nodup:=by rw[<-S.pre];show S.nd.sublist<|aaB _ _
  refine#[u,rv,?_];rcases S.par y (rS hp) with k|k
  .show .inl #[k,Br acw hp hu k]
  .let#[c,e]:=Aq k;refine .inr #[.inl k,c,e,?_];have q:=x.cell y c e;rw[Bs acw hp hu (by change scope.names.lookup y≠_;rw[k];decide)]at q;show q
 .show e0.aE.fresh<|nC<|x.above y c<|pR h
 .unfold start;change _=N.length;rw[cB,aV,Xl];lia
theorem Vw {CX:qV}{k:Nat}{f:ai}{name:Str}{params:Arguments}{body:List cz}{scope:bK}{dV kV doc pm dz ct oc:aj}{an od:Option ai}
 {ps:List Str}{sp:Sp}(lk:K.lookup f=ae #[oc,od,.func<|PySem.W.fnOf name qual params body scope dV kV doc pm an dz ct,qJ]) (pD:PySem.W.codeIn K dz qual=ah) (S:Ew N ps scope)
  (len:∀ vs H Q E,sp vs H Q E->vs.length=ps.length)
  (Ex:∀ (A:kR) (outer:List Env) (s:aq) (H:Hp) (vs:List V) (Q:VK) (E:XK),kI k (A.deeper<|envOfC qual scope s.heap.objs.size f dz)->sp vs H Q E ->
   ∃ t,kZ (yb CX P w K mg base N qual scope f dz A outer s H E) body t /\ t { nx:=λ_ H'=>Q .aC H',rt:=Q } (start N vs) H) :
  pE P w K mg base CX (k+1) f (PySem.W.fnOf name qual params body scope dV kV doc pm an dz ct) ps sp:=by
  refine#[len,λA outer s H args us vs Q E hr e0 hb r yc=>?_];have KX:=e0.mod.vV.keeps λb o e=>(e0.bs b o e).1;refine codeAny_call_function hr.depth (KX _ _ lk) zk S.co S.gen zk (PySem.W.codeRec_of KX pD)<|hb _ _ _ _ ?_;refine wpAny_newFunctionEnv_cells S.kind (λ⟨n,v⟩ hy=>by
   rcases S.par n (Xk hy).1 with q|q
   .show .inl q
   .show .inr #[q,abv _ _ _<|.inl q]) λenv he s1 x=>?_
  subst he;refine#[(e0.mod.nolimit.keeps λb o e=>(e0.bs b o e).1).keeps x.toInCall.keep,codeAny_func ?_];let#[t,ht,hq]:=Ex A outer s H vs Q E (hr.deeper _) yc;refine ny (ht [] s1 _ H _ (G1 S hr.hd e0 (len _ _ _ _ yc) r x) hq) (λfl s' hs=>?_) λe s' hs=>hs;have fin:∀ {σ'}{H'}{v}{u},Inv (yb CX P w K mg base N qual scope f dz A outer s H E) [] σ' H' s'->RelV v u->Q v H'->CE outer P w H s Q u s' :=
   λ{σ' H' v u} J rv q=>#[v,H',J.os,J.bare,J.base,J.aE,rv,q]
  cases fl with
  |ret u=>
    let#[v,σ',H',J,rv,q]:=hs;show fin J rv q
  |next=>
    let#[σ',H',J,q]:=hs;show fin (v:=V.aC) J zk q
  |brk=>
    let#[_,_,_,q]:=hs;show False.elim q
  |cont=>
    let#[_,_,_,q]:=hs;show False.elim q
end L2
variable {CX:L2.qV}
namespace L2
section
variable {p:aG} {t:TA} {id T:String} {r:List V -> Hp -> VK -> zw}
def Ey (r:List V->Hp->VK->zw) (t:TA):TE:=λσ H Q=>t σ H λvs H1=>r vs H1 Q
theorem Ar (hc:hG X (.builtin id) r) (hg:Gl X x) (hm:X.mg x=ag) (hv:bootBuiltins x=ae (.builtin id)) (ha:PA X (e::es) t) (hn:x ≠ "__name__":=by decide) (dO:(x==("__debug__":Str))=af:=by decide)
 (he:starEach (e::es) X.env=(af,eval e X.env)::starEach es X.env:=by rfl) (nW:(backTo pos<|starEach es X.env).any (·.1)=af:=by rfl):PE X (.Call (.Name x p) (e::es) [] pos) (Ey r t):=by
 intro pins s σ H Q I h;show uf<|jd I hg hm hv (afb (tA (ha pos pins s σ H _ I h) λus s1 vs H1 I1 r1 q1=>hc pins s1 σ H1 vs us Q I1 r1 q1) he nW) hn dO
theorem Bu (hc:hG X (.type T) r) (hg:Gl X x) (hm:X.mg x=ag) (hv:bootBuiltins x=ae (.type T)) (ha:PA X (e::es) t) (hn:x ≠ "__name__":=by decide) (dO:(x==("__debug__":Str))=af:=by decide)
 (he:starEach (e::es) X.env=(af,eval e X.env)::starEach es X.env:=by rfl) (nW:(backTo pos<|starEach es X.env).any (·.1)=af:=by rfl):PE X (.Call (.Name x p) (e::es) [] pos) (Ey r t):=by
 intro pins s σ H Q I h;show uf<|jd I hg hm hv (HZ (tA (ha pos pins s σ H _ I h) λus s1 vs H1 I1 r1 q1=>hc pins s1 σ H1 vs us Q I1 r1 q1) he nW) hn dO
end
end L2
namespace HT
noncomputable def lexLt:List Int->List Int->Bool
 |[],[]=>af
 |[],_::_=>ah
 |_::_,[]=>af
 |x::xs,y::ys=>if x=y then lexLt xs ys else decide (x<y)
theorem gF (x y:Int) (xs ys:List Int):lexLt (x::xs) (y::ys)=if x=y then lexLt xs ys else decide (x<y):=rfl
section
open PySem.SeqAt
open PySem.AutoSeq1 (wpAny_loadPart')
open PySem.MeetsSeq PySem.MeetsSeq2 PySem.MeetsSeq3
end
section
variable {s:aq}
theorem NY {t b:ai}{ws:List aj}(ht:IsTup s.heap t vs.toArray) (hb:IsTup s.heap b ws.toArray) (hv:vs≠[])
 (h1:ws=[]->Q (.ref t) s) (h2:ws≠[]->Q (.ref s.heap.objs.size) { s with heap:=s.heap.push { cls:=.type "tuple",data:=.seq (vs++ws).toArray } })
 (rZ:vs.length+ws.length<=sizeLine):wpAny zd A (binaryOp .Add (.ref t)<|.ref b) Q E s:=by
 let#[#[cls,dd,data,sl],ho,hc,n,hd]:=id ht;let#[#[acx,vn,data2,vo],qX,nI,n2,hd2]:=id hb;subst hc hd nI hd2;have e:vs.toArray++ws.toArray=(vs++ws).toArray:=by simp
 by_cases hw:ws=[]
 .show Q6 #[_,ho,rfl] #[_,qX,rfl] Q7 Q8 XM XO (XQ _ _)
   (tuple_addW1 t b vs.toArray ws.toArray n n2 dd vn sl vo (by simpa using hv) (by simp[hw])) #[ho,qX,h1 hw]
 .refine Q6 #[_,ho,rfl] #[_,qX,rfl] Q7 Q8 XM XO (XQ _ _)
   (tuple_addW2 t b vs.toArray ws.toArray n n2 dd vn sl vo (by simpa using hv) (by simpa using hw) (by show rZ)) #[ho,qX,?_]
  rw[e];show h2 hw
noncomputable def br (n d:Nat):Option Int->Nat
 |none=>d
 |some v=>if v<0 then (v+(n:Int)).toNat else min v.toNat n
theorem CK (n d:Nat):br n d ag=d:=rfl
theorem NZ (n d k:Nat):br n d (ae (k:Int))=min k n:=by
 change (if (k)<0 then ((k)+(n:Int)).toNat else min (k:Int).toNat n)=min k n;rw[if_neg za,pC]
theorem WP (n d:Nat) (hd:d<=n) (o:Option Int):br n d o<=n:=by
 cases o with
 |none=>show hd
 |some v=>
   change (if v<0 then (v+(n)).toNat else min v.toNat n)<=n;by_cases hv:v<0
   .lia
   .rw[if_neg hv];show Nat.min_le_right _ _
theorem FO (v:Int) (n d:Nat):(if v<0 then max (v+(n:Int)) 0 else min v (n:Int))=((br n d (ae v):Nat):Int):=by
 change (if v<0 then max _ 0 else min v (n))=(((if v<0 then (v+(n)).toNat else min v.toNat n)));by_cases hv:v<0
 .lia
 .lia
theorem DU (lo hi:Option Int) (n:Nat):Builtin.Slice.sliceAdjust lo hi 1 (n:Int)=(((br n 0 lo:Nat):Int),((br n n hi:Nat):Int)):=by
 refine Prod.ext ?_ ?_
 .cases lo with
  |none=>rfl
  |some v=>show FO v n 0
 .cases hi with
  |none=>rfl
  |some v=>show FO v n n
theorem DV (i j:Nat):Builtin.Slice.slicePlaces (i:Int) (j:Int) 1=j-i:=by
 unfold Builtin.Slice.slicePlaces;split<;>lia
theorem As {v:aj}{o:Option Int}{Q:Option Int->aq->zw}(p:IsPart v o) (h:Q o s):wpAny zd A (Builtin.Slice.slicePartIndex v) Q E s:=by
 cases p with
 |none=>show aa6 h
 |int i t=>show slicePart_int h
theorem jx {sl:ai}{vl vu:aj}{lo hi:Option Int}{Q:Int×Int×Nat->aq->zw}(hs:s.heap.IsSliceOf sl vl vu .none) (pl:IsPart vl lo) (pu:IsPart vu hi)
 (h:Q (((br n 0 lo:Nat):Int),1,br n n hi-br n 0 lo) s):wpAny zd A (Builtin.Slice.sliceApplied (.ref sl)<|pure (n:Int)) Q E s:=by
 let#[os,v9,IP,qr]:=id hs;refine ak<|ak<|nz v9 qr zk<|ak<|nz v9 qr (x:=vu) zk<|ak<|nz v9 qr zk<|az ?_;refine ak<|aa6 ?_;refine ak<|As pl<|ak<|As pu<|ak<|az ?_;change wpAny _ _ (match Builtin.Slice.sliceAdjust lo hi 1 (n) with|(lo,hi)=>pure (lo,(1:Int),Builtin.Slice.slicePlaces lo hi 1)) _ _ s;rw[DU lo hi n];change wpAny _ _ (pure (((br n 0 lo):Int),(1),Builtin.Slice.slicePlaces ((br n 0 lo)) ((br n n hi)) 1)) _ _ s;rw[DV];show az h
theorem Li (xs:Array aj) (i k:Nat):((List.range k).filterMap λ(m:Nat)=>xs[((i:Int)+(m:Int)*1).toNat]?).toArray=((xs.toList.drop i).take k).toArray:=by
 have e:(λ(m:Nat)=>xs[((i)+(m:Int)*1).toNat]?)=λm=>xs[i+m]?:=by
  funext m;have:((i)+(m:Int)*1).toNat=i+m:=by lia
  rw[this]
 rw[e];have:=pick_run xs i k;rw[aaC]at this;have e2:((λx=>xs[x]?)∘λx=>i+x)=λm=>xs[i+m]?:=rfl;rw[e2]at this;rw[this]
theorem mE {t sl:ai}{vl vu:aj}{lo hi:Option Int}(ht:IsTup s.heap t items) (hs:s.heap.IsSliceOf sl vl vu .none) (pl:IsPart vl lo) (pu:IsPart vu hi)
 (hw:¬ (br items.size 0 lo=0 /\ br items.size items.size hi=items.size))
 (h:Q (.ref s.heap.objs.size) { s with heap:=s.heap.push { cls:=.type "tuple",data:=.seq ((items.toList.drop<|br items.size 0 lo).take<|br items.size items.size hi-br items.size 0 lo).toArray } })
 (rZ:items.size<=sizeLine):wpAny zd A (getItem (.ref t)<|.ref sl) Q E s:=by
 have IQ:sizeOk (.seq ((items.toList.drop<|br items.size 0 lo).take<|br items.size items.size hi-br items.size 0 lo).toArray):=by
  change ((items.toList.drop<|br items.size 0 lo).take<|br items.size items.size hi-br items.size 0 lo).toArray.size<=sizeLine;rw[cC,yZ,HP,pB];lia
 let#[os,v9,IP,qr]:=id hs;have agt:s.TypeIs (.ref sl) "slice":=#[os,v9,IP];unfold getItem;try with_reducible refine dS ?_
 first|refine ak (az ?_)|skip
 refine ak<|Z9 ht.typeIs zh ?_;refine ak (rN ht.typeIs xH
  (kE xH ht.typeIs aa7 ?_<|aa8 _ _))
 change wpAny _ _ (Builtin.Tuple.tupleItemsOf (.ref t) >>= _) _ _ s;refine ak<|aa9 ht ?_;refine ak<|rO agt ?_;rw[if_pos zh];refine ak<|jx hs pl pu ?_;have agu:¬ ((((br items.size 0 lo):Int)==0&&(1:Int)==1&&(br items.size items.size hi-br items.size 0 lo)==items.size)=ah):=by
  intro q;rw[aQ,aQ]at q;have q1:=eq_of_beq q.1.1;have q2:=eq_of_beq q.2;show hw #[by lia,by lia]
 change wpAny _ _ (if (((br items.size 0 lo):Int)==0&&(1)==1&&(br items.size items.size hi-br items.size 0 lo)==items.size)=ah then _ else _) _ _ s;rw[if_neg agu,Li];first
  |show ak<|eV (az #[_,rfl,az h]) IQ
  |show ak<|eV (ak<|az<|az #[_,rfl,az h]) IQ
  |show ak<|ak<|eV (az<|az #[_,rfl,az h]) IQ
  |show ak<|ak<|eV (az #[_,rfl,az h]) IQ
end
end HT
namespace L2
abbrev TO:=St->Hp->(Option Int->Hp->zw)->zw
def PO (X:Cx) (e:Option au) (t:TO):zw:=
 ∀ (pins:List<|ai×bj) (s:aq) (σ:St) (H:Hp) (Q:Option Int->Hp->zw),Inv X pins σ H s->t σ H Q ->
  wpAny ze X.A (evalPart e X.env) (λu s'=>∃ o H',Inv X pins σ H' s' /\ IsPart u o /\ Q o H') X.xe s
noncomputable def agv:TO:=λ_ H Q=>Q ag H
noncomputable def agw (t:TE):TO:=λσ H Q=>t σ H λx H1=>∃ i,x=.int i /\ Q (ae i) H1
theorem Au:∀ {us:List aj},Vals (ns.map V.int) us->IntsAre us ns:=by
 induction ns with
 |nil=>intro us r;cases r;show .nil
 |cons n ns ih=>
   intro us r;cases r with
   |cons r1 r2=>
     let#[t,e]:=r1;subst e;show .cons n t<|ih r2
section
variable {te:TE} {lo hi:Option au} {tl th:TO} {p2:aG}
theorem N0:PO X ag agv:=by
 intro pins s σ H Q I h;show az #[ag,H,I,.none,h]
theorem N1 (h:PE X e te):PO X (ae e) (agw te):=by
 intro pins s σ H Q I hw;refine tE (h pins s σ H _ I hw) λu s1 x H1 I1 r1 q1=>?_;let#[i,rfl,q]:=q1;let#[t,rfl]:=r1;show#[ae i,H1,I1,.int i t,q]
def uw (X:Cx) (r:V->Option Int->Option Int->Hp->VK->zw):zw:=
 ∀ (pins:List<|ai×bj) (s:aq) (σ:St) (H:Hp) (x:V) (v vl vu:aj) (lo hi:Option Int) (sl:ai) (Q:VK),Inv X pins σ H s->RelV x v->s.heap.IsSliceOf sl vl vu .none->IsPart vl lo->IsPart vu hi->r x lo hi H Q ->
  ∃ T id,typeLookup (.type T) "__getitem__"=pure (ae<|.builtin id) /\ s.TypeIs v T /\ wpAny ze X.A (getItem v<|.ref sl) (EP X pins σ Q) X.xe s
theorem uw.or {r r':V->Option Int->Option Int->Hp->VK->zw}(h:uw X r) (h':uw X r'):uw X (λx lo hi H Q=>r x lo hi H Q \/ r' x lo hi H Q):=by
 intro pins s σ H x v vl vu lo hi sl Q I rx hs pl pu q;rcases q with q|q
 .show h pins s σ H x v vl vu lo hi sl Q I rx hs pl pu q
 .show h' pins s σ H x v vl vu lo hi sl Q I rx hs pl pu q
def agx (r:V->Option Int->Option Int->Hp->VK->zw) (te:TE) (tl th:TO):TE:=λσ H Q=>te σ H λx H1=>tl σ H1 λl H2=>th σ H2 λu H3=>r x l u H3 Q
theorem Lj {r:V->Option Int->Option Int->Hp->VK->zw}(hr:uw X r) (he:PE X e te) (hl:PO X lo tl) (hu:PO X hi th):PE X (.Subscript e (.Slice lo hi ag p2) pos) (agx r te tl th):=by
 intro pins s σ H Q I h;refine Subscript_<|tE (he pins s σ H _ I h) λv s1 x H1 I1 r1 q1=>?_;refine aaa<|tP (hl pins s1 σ H1 _ I1 q1) λvl s2 l H2 I2 pl q2=>tP (hu pins s2 σ H2 _ I2 q2) λvu s3 u H3 I3 pu q3=>?_;refine az ?_;let#[T,id,hT,ht,hg]:=hr pins { s3 with heap:=s3.heap.push { cls:=.type "slice",data:=.fields (List.toArray [vl,vu,.none]) } } σ H3 x v vl vu l u s3.heap.objs.size Q (I3.kept λb ob q=>aN _ q) r1 (Heap.IsSliceOf.new ..) pl pu q3;show Xx ht hT hg (by with_unfolding_all rfl)
def yd (xs:List V) (lo hi:Option Int):List V:=(xs.drop<|HT.br xs.length 0 lo).take<|HT.br xs.length xs.length hi-HT.br xs.length 0 lo
theorem oJ (xs:List V) (lo hi:Option Int):(yd xs lo hi).length<=xs.length:=by
 unfold yd;rw[yZ,HP];lia
def acy (K:PySem.W.Frag):V->Option Int->Option Int->Hp->VK->zw:=λx lo hi H Q=>∃ a xs,x=.ref a /\ c9 K H a xs /\
 ¬ (HT.br xs.length 0 lo=0 /\ HT.br xs.length xs.length hi=xs.length) /\ ∀ p,H p=ag->Q (.ref p) (upd H p<|.tup<|yd xs lo hi)
theorem SS:uw X (acy X.K):=by
 intro pins s σ H x v vl vu lo hi sl Q I rx hs pl pu h;let#[a,xs,rfl,hx,hw,q]:=h;cases rx;let#[its,r,ht,hz]:=I.tuple hx;have hlen:its.toArray.size=xs.length:=by show r.length.symm
 refine#["tuple",_,xH.lookup,ht.typeIs,?_];refine HT.mE ht hs pl pu (by rw[hlen];show hw) ?_ (by rw[hlen];show hz);rw[hlen];refine#[.ref s.heap.objs.size,_,I.laid (λb ob q=>aN _ q) (aI _) ?_,rfl,q _<|I.aE.fresh<|aI _];show#[cT (oJ xs lo hi) hz,_,(r.drop _).take _,IsTup.new _ _]
def acz (K:PySem.W.Frag):R2:=λx y H Q=>∃ a b xs ys,x=.ref a /\ y=.ref b /\ c9 K H a xs /\ c9 K H b ys /\ xs≠[] /\ xs.length+ys.length<=sizeLine /\
 (ys=[]->Q (.ref a) H) /\ (ys≠[]->∀ p,H p=ag->Q (.ref p) (upd H p<|.tup<|xs++ys))
theorem Vals.Yg {xs:List V}(r:Vals xs us):us=[] ↔ xs=[]:=by
 cases r with
 |_=>simp
theorem N2:bA X (binaryOp .Add) (acz X.K):=by
 intro pins s σ H x y v u Q I rx ry h;let#[a,b,xs,ys,rfl,rfl,ha,hb,hx,hz,q1,q2]:=h;cases rx;cases ry;let#[its,r1,p1,_]:=I.tuple ha;let#[tF,r2,p2,_]:=I.tuple hb;refine HT.NY p1 p2 (λz=>hx<|r1.Yg.mp z) (λz=>#[.ref a,H,I,rfl,q1<|r2.Yg.mp z]) (λz=>?_) (by rw[<-r1.length,<-r2.length];show hz);refine#[.ref s.heap.objs.size,_,I.laid (λb ob q=>aN _ q) (aI _) ?_,rfl,q2 (λw=>z<|r2.Yg.mpr w) _<|I.aE.fresh<|aI _];show#[by rw[cB];show hz,_,r1.append r2,IsTup.new _ _]
end
noncomputable def dG (n:Nat) (i:Int):Option Nat:=if 0<=i then (if i<n then ae i.toNat else ag) else if -(n:Int)<=i then ae (i+n).toNat else ag
def bO (xs:List α) (i:Int):Option α:=(dG xs.length i).bind λj=>xs[j]?
theorem B3 {i:Int}(h:dG n i=ae j):seqIndex? i n=ae j /\ j<n /\ -(n:Int)<=i /\ i<n:=by
 unfold dG at h;by_cases h0:0<=i
 .rw[if_pos h0]at h;by_cases h1:i<n
  .rw[if_pos h1]at h;show#[by rw[Q9 h0 h1,(Option.some.inj h)],by lia,by lia,h1]
  .rw[if_neg h1]at h;cases h
 .rw[if_neg h0]at h;by_cases h1:-(n)<=i
  .rw[if_pos h1]at h;show#[by rw[seqIndex_neg za h1,(Option.some.inj h)],by lia,h1,by lia]
  .rw[if_neg h1]at h;cases h
theorem B4 {xs:List α}{i:Int}{v:α}(h:bO xs i=ae v):∃ j,seqIndex? i xs.length=ae j /\ xs[j]?=ae v /\ j<xs.length /\ -(xs.length:Int)<=i /\ i<xs.length:=by
 unfold bO at h;cases e:dG xs.length i with
 |none=>rw[e]at h;cases h
 |some j=>
   rw[e]at h;let#[h1,h2,h3,h4]:=B3 e;show#[j,h1,h,h2,h3,h4]
theorem B5 {xs:List α}{v:α}(h:xs[j]?=ae v):bO xs (j:Int)=ae v:=by
 have hj:=(List.getElem?_eq_some_iff.mp h).1;have e:dG xs.length (j)=ae j:=by
  unfold dG;rw[if_pos za,if_pos za];simp
 unfold bO;rw[e];show h
def IT (b:au):zw:=∀ o i,subscripted b af o i=operate [o,i] (getItem o i)
def tH (X:Cx) (r:R2):zw:=
 ∀ (value slice:au) (pins:List<|ai×bj) (s:aq) (σ:St) (H:Hp) (x y:V) (v u:aj) (Q:VK),Inv X pins σ H s->RelV x v->RelV y u->r x y H Q ->
  subscripted slice af v u=operate [v,u] (getItem v u)->wpAny ze X.A (subscriptTail value slice v u) (EP X pins σ Q) X.xe s
def agy (X:Cx) (id:String) (r:V->List V->Hp->VK->zw):zw:=
 ∀ (pins:List<|ai×bj) (s:aq) (σ:St) (H:Hp) (x:V) (xs:List V) (v:aj) (us:List aj) (Q:VK),Inv X pins σ H s->RelV x v->Vals xs us->r x xs H Q ->
  wpAny ze X.A (call (.builtin id) (v::us)) (EP X pins σ Q) X.xe s
section
variable {a b:au} {ta tb:TE} 
theorem tH.or {r r':R2}(h:tH X r) (h':tH X r'):tH X (λx y H Q=>r x y H Q \/ r' x y H Q):=by
 intro value slice pins s σ H x y v u Q I rx ry q hs;rcases q with q|q
 .show h value slice pins s σ H x y v u Q I rx ry q hs
 .show h' value slice pins s σ H x y v u Q I rx ry q hs
theorem RP {r:R2}(hr:tH X r) (ha:PE X a ta) (hb:PE X b tb) (hs:IT b):PE X (.Subscript a b pos) (Eu r ta tb):=by
 intro pins s σ H Q I h;show Subscript_<|X7 ha hb I h λv u s2 x y H2 I2 rx ry q=>hr a b pins s2 σ H2 x y v u Q I2 rx ry q<|hs _ _
def acA (K:PySem.W.Frag):R2:=λx y H Q=>∃ p xs i v,x=.ref p /\ y=.int i /\ bZ K H p xs /\ bO xs i=ae v /\ Q v H
def acB (K:PySem.W.Frag):R2:=λx y H Q=>∃ p xs i v,x=.ref p /\ y=.int i /\ c9 K H p xs /\ bO xs i=ae v /\ Q v H
def acC:R2:=λx y H Q=>∃ z i c,x=.str z /\ y=.int i /\ z.length<=sizeLine /\ bO z.cps.toList i=ae c /\ Q (.str ⟨(List.toArray [c])⟩) H
theorem FP:tH X (acA X.K):=by
 intro value slice pins s σ H x y v u Q I rx ry h hs;let#[p,xs,i,z,rfl,rfl,hq,he,q]:=h;cases rx;let#[t,rfl]:=ry;let#[its,r,pl,hz]:=I.list hq;let#[j,h1,h2,h3,h4,h5]:=B4 he;let#[w,ew,nG]:=r.get h2;have hl:=r.length;have hn:=ya;have fin:EP X pins σ Q w s:=#[z,H,I,nG,q];by_cases h0:0<=i
 .have hj:i.toNat=j:=by
   rw[Q9 h0 h5]at h1;show Option.some.inj h1
  show item_listR pl.isList h0 za (by rw[hj];simpa using ew) fin hs
 .have hj:(i+(its.toArray.size)).toNat=j:=by
   rw[seqIndex_neg za h4]at h1;rw[cC,<-hl];show Option.some.inj h1
  show Xy pl.isList.typeIs slot_list_getitem.lookup
   (wpAny_getItem_list_neg pl.isList za (by rw[cC]<;>lia) za (by rw[hj];simpa using ew) #[rfl,fin]) hs
theorem SU:tH X (acB X.K):=by
 intro value slice pins s σ H x y v u Q I rx ry h hs;let#[p,xs,i,z,rfl,rfl,hq,he,q]:=h;cases rx;let#[t,rfl]:=ry;let#[its,r,pl,hz]:=I.tuple hq;let#[j,h1,h2,h3,h4,h5]:=B4 he;let#[w,ew,nG]:=r.get h2;have hn:=ya;show Xy pl.typeIs slot_tuple_getitem.lookup
  (aba pl za za (by rw[cC,<-r.length];show h1) (by simpa using ew) #[rfl,#[z,H,I,nG,q]]) hs
theorem SV:tH X acC:=by
 intro value slice pins s σ H x y v u Q I rx ry h hs;let#[z,i,c,rfl,rfl,hz,he,q]:=h;let#[t,rfl]:=rx;let#[t',rfl]:=ry;let#[j,h1,h2,h3,h4,h5]:=B4 he;have hl:z.cps.toList.length=z.length:=by simp[Str.length]
 rw[hl]at h1 h4 h5;have hn:=ya;show Xx (typeIs_str s z t) slot_str_getitem.lookup (getItem_str (by
  have e1:decide (i < -(2 ^ 63))=af:=decide_eq_false za;have e2:decide (i>=2 ^ 63)=af:=decide_eq_false za;rw[e1,e2,Bool.or_false]) (by rw[h1];simpa using h2) #[.str ⟨(List.toArray [c])⟩,H,I.tok _,#[_,rfl],q]) hs
def acD (K:PySem.W.Frag):R2:=λx y H Q=>acA K x y H Q \/ acB K x y H Q \/ acC x y H Q
theorem SW:tH X (acD X.K):=FP.or<|SU.or SV
theorem DW (its:List aj) (n j:Nat) (u:aj):Obj.mapSeq (·.setIfInBounds j u) { cls:=.type "list",data:=.seq its.toArray n }={ cls:=.type "list",data:=.seq (its.set j u).toArray n }:=by
 simp[Obj.mapSeq]
theorem Inv.lst {pins:List (ai×bj)}{σ:St}{H:Hp}{s:aq}{p:ai}{xs:List V}(I:Inv X pins σ H s) (h:H p=ae (.lst xs)) :
 ∃ (its:List aj) (n:Nat),Vals xs its /\ s.heap.get? p=ae { cls:=.type "list",data:=.seq its.toArray n } /\ xs.length<=sizeLine:=by
 let#[z,its,n,r,e]:=I.aE p _ h;show#[its,n,r,e,z]
theorem Inv.agz {s:aq}{xs ys:List V}{its qU:List aj}{n':Nat}{f:bj->bj}(I:Inv X pins σ H s) (h:H p=ae (.lst xs))
 (ho:s.heap.get? p=ae { cls:=.type "list",data:=.seq its.toArray n }) (hf:f { cls:=.type "list",data:=.seq its.toArray n }={ cls:=.type "list",data:=.seq qU.toArray n' }) (r:Vals ys qU) (hz:ys.length<=sizeLine) (t:Nat) :
 Inv X pins σ (upd H p<|.lst ys) { s with heap:=s.heap.update p f,toks:=t }:=by
 have e:(s.heap.update p f).get? p=ae { cls:=.type "list",data:=.seq qU.toArray n' }:=by
  rw[sR f ho (by rw[hf]<;>rfl),hf]
 show I.write (by rw[h];trivial) (.inl zk) (λb u hb q=>(HW _ _<|Ne.symm hb).trans q) #[_,e]<|#[hz,qU,n',r,e]
def agA:V->V->V->Hp->(Hp->zw)->zw:=λo i v H Q=>∃ p xs k j,o=.ref p /\ i=.int k /\ H p=ae (.lst xs) /\ dG xs.length k=ae j /\ Q (upd H p<|.lst<|xs.set j v)
theorem Lk:acg X agA:=by
 intro pins s σ H o i v ov iv u Q I ro ri rv h;let#[p,xs,k,j,rfl,rfl,hp,hj,q]:=h;cases ro;let#[t,rfl]:=ri;let#[its,n,r,ho,hz]:=I.lst hp;let#[h1,h2,h3,h4]:=B3 hj;have hl:=r.length;have hn:=ya;have I' :=
  I.agz hp ho (DW its n j u) (r.set rv j) (by rw[ug];show hz) s.toks
 by_cases h0:0<=k
 .have hk:k.toNat=j:=by
   rw[Q9 h0 h4]at h1;show Option.some.inj h1
  show PySem.W.ki_setAt ho h0 za (by rw[cC,<-hl];show h4) (by rw[hk];show#[_,I',q])
 .have hk:(k+(its.toArray.size)).toNat=j:=by
   rw[seqIndex_neg za h3]at h1;rw[cC,<-hl];show Option.some.inj h1
  show PySem.W.ki_setBack ho za (by rw[cC,<-hl];show h3) za (by rw[hk];show#[_,I',q])
theorem B6 (lo hi:Option Int) (n:Nat):(sliceBounds lo hi ag n).1=((HT.br n 0 lo:Nat):Int) /\ (sliceBounds lo hi ag n).2.1=((HT.br n n hi:Nat):Int) /\ (sliceBounds lo hi ag n).2.2=1:=by
 refine#[?_,?_,rfl]
 .cases lo with
  |none=>simp[sliceBounds,HT.br]
  |some i=>
    erw[sliceBounds,HT.br,Xv,show (1:Int)>0 by decide,if_true];by_cases h:i<0
    .erw[h]<;>lia
    .erw[h]<;>lia
 .cases hi with
  |none=>simp[sliceBounds,HT.br]
  |some i=>
    erw[sliceBounds,HT.br,Xv,show (1:Int)>0 by decide,if_true];by_cases h:i<0
    .erw[h,if_true]<;>lia
    .erw[h,if_false]<;>lia
theorem Bc (its:List aj) (lo hi:Option Int):slicePick its.toArray lo hi ag=((its.drop<|HT.br its.length 0 lo).take<|HT.br its.length its.length hi-HT.br its.length 0 lo).toArray:=by
 let#[h1,h2,h3]:=B6 lo hi its.toArray.size;unfold slicePick;rw[h1,h2,h3];erw[sliceRange_one,pick_run]<;>rfl
def acE (K:PySem.W.Frag):V->Option Int->Option Int->Hp->VK->zw:=λx lo hi H Q=>∃ a xs,x=.ref a /\ bZ K H a xs /\ ∀ p,H p=ag->Q (.ref p) (upd H p<|.lst<|yd xs lo hi)
theorem N3:uw X (acE X.K):=by
 intro pins s σ H x v vl vu lo hi sl Q I rx hs pl pu h;let#[a,xs,rfl,hx,q]:=h;cases rx;let#[its,r,ht,hz]:=I.list hx;have hlen:=r.length;refine#["list",_,slot_list_getitem.lookup,ht.isList.typeIs,?_];refine aab ht.isList hs pl pu .none zf ?_ (by rw[cC]<;>lia);rw[Bc,<-hlen];refine#[.ref s.heap.objs.size,_,I.laid (λb ob q=>aN _ q) (aI _) ?_,rfl,q _<|I.aE.fresh<|aI _];show#[cT (oJ xs lo hi) hz,_,0,(r.drop _).take _,bE _ zk]
noncomputable def tJ:V->Bool
 |.aC=>ah
 |.bl _=>ah
 |.int _=>ah
 |.str _=>ah
 |_=>af
noncomputable def tK:V->V->Bool
 |.aC,.aC=>ah
 |.bl a,.bl b=>a==b
 |.bl a,.int b=>(if a then 1 else 0)==b
 |.int a,.bl b=>a==(if b then 1 else 0)
 |.int a,.int b=>a==b
 |.str a,.str b=>a==b
 |_,_=>af
theorem SX {s:aq}{y x:V}{v:aj}(ry:RelV y u) (rx:RelV x v) (fy:tJ y=ah) (fx:tJ x=ah):SeqAt.EqAt A s u v (tK y x):=by
 cases y with
 |aC=>
   cases ry;cases x with
   |aC=>cases rx;show SeqAt.EqAt.same _
   |bl b=>cases rx;show afc b
   |int b=>let#[t,rfl]:=rx;show afd b t
   |str b=>let#[t,rfl]:=rx;show afe b t
   |_=>show absurd (fx) dM
 |bl a=>
   cases ry;cases x with
   |aC=>cases rx;show aff a
   |bl b=>cases rx;show afg a b
   |int b=>let#[t,rfl]:=rx;show afh a b t
   |str b=>let#[t,rfl]:=rx;show afi a b t
   |_=>show absurd (fx) dM
 |int a=>
   let#[t',rfl]:=ry;cases x with
   |aC=>cases rx;show afj a t'
   |bl b=>cases rx;show afk a t' b
   |int b=>let#[t,rfl]:=rx;show XT a t' b t
   |str b=>let#[t,rfl]:=rx;show abR a t' b t
   |_=>show absurd (fx) dM
 |str a=>
   let#[t',rfl]:=ry;cases x with
   |aC=>cases rx;show afl a t'
   |bl b=>cases rx;show afm a t' b
   |int b=>let#[t,rfl]:=rx;show abS a t' b t
   |str b=>let#[t,rfl]:=rx;show XU a t' b t
   |_=>show absurd (fx) dM
 |_=>show absurd (fy) dM
def wa (x:V) (u:aj):Bool:=match u with
 |.none=>tK .aC x
 |.bool b=>tK (.bl b) x
 |.int i _=>tK (.int i) x
 |.str z _=>tK (.str z) x
 |_=>af
theorem Ll {x y:V}(r:RelV y u) (f:tJ y=ah):wa x u=tK y x:=by
 cases y with
 |aC=>cases r;rfl
 |bl b=>cases r;rfl
 |int i=>let#[t,rfl]:=r;rfl
 |str z=>let#[t,rfl]:=r;rfl
 |_=>show absurd (f) dM
theorem mF {x:V}:∀ {xs:List V}{us:List aj},Vals xs us->xs.all tJ=ah->us.any (wa x)=xs.any λy=>tK y x
 |_,_,.nil,_=>rfl
 | y::xs,u::us,.cons r t,f=>by
   rw[uh,aQ]at f;rw[ve,ve,Ll r f.1,mF t f.2]
theorem j8 {A:kR}{s:aq}{x:V}{v:aj}(rx:RelV x v) (fx:tJ x=ah):∀ {xs:List V}{us:List aj},Vals xs us->xs.all tJ=ah->∀ u∈us,SeqAt.EqAt A s u v (wa x u)
 |_,_,.nil,_=>λu hu=>by cases hu
 | y::xs,u::us,.cons r t,f=>λu' hu=>by
   rw[uh,aQ]at f;rcases aZ.mp hu with rfl|hu
   .rw[Ll r f.1];show SX r rx f.1 fx
   .show j8 rx fx t f.2 u' hu
def IU (x:V) (xs:List V):Bool:=xs.any λy=>tK y x
def IV (K:PySem.W.Frag) (neg:Bool):R2:=λx y H Q=>∃ p xs,y=.ref p /\ (bZ K H p xs \/ c9 K H p xs) /\ tJ x=ah /\ xs.all tJ=ah /\ Q (.bl (if neg then !IU x xs else IU x xs)) H
theorem G2:bA X (compareOp .In) (IV X.K af):=by
 intro pins s σ H x y v u Q I rx ry h;let#[p,xs,rfl,hq,fx,fs,q]:=h;cases ry;rcases hq with hq|hq
 .let#[its,r,pl,hz]:=I.list hq;refine SeqAt.in_listAt _ pl.isList (λw hw=>j8 rx fx r fs w (by simpa using hw)) #[.bl _,H,I,rfl,?_];rw[show its.toArray.any _=its.any (wa x) by simp,mF r fs];show q
 .let#[its,r,pl,hz]:=I.tuple hq;refine SeqAt.in_tupleAt _ pl (λw hw=>j8 rx fx r fs w (by simpa using hw)) #[.bl _,H,I,rfl,?_];rw[show its.toArray.any _=its.any (wa x) by simp,mF r fs];show q
theorem B7:bA X (compareOp .NotIn) (IV X.K ah):=by
 intro pins s σ H x y v u Q I rx ry h;let#[p,xs,rfl,hq,fx,fs,q]:=h;cases ry;rcases hq with hq|hq
 .let#[its,r,pl,hz]:=I.list hq;refine SeqAt.notIn_listAt _ pl.isList (λw hw=>j8 rx fx r fs w (by simpa using hw)) #[.bl _,H,I,rfl,?_];rw[show its.toArray.any _=its.any (wa x) by simp,mF r fs];show q
 .let#[its,r,pl,hz]:=I.tuple hq;refine SeqAt.notIn_tupleAt _ pl (λw hw=>j8 rx fx r fs w (by simpa using hw)) #[.bl _,H,I,rfl,?_];rw[show its.toArray.any _=its.any (wa x) by simp,mF r fs];show q
theorem mG:hG X (.builtin "len") (λxs H Q=>∃ p ys,xs=[.ref p] /\ (bZ X.K H p ys \/ c9 X.K H p ys) /\ Q (.int ys.length) H):=by
 intro pins s σ H xs us Q I r h;let#[p,ys,rfl,hq,q]:=h;let#[u,rfl,rx]:=vals1 r;cases rx;have hn:=ya;rcases hq with hq|hq
 .let#[its,r',pl,hz]:=I.list hq;have hlen:=r'.length;show Calls.call_len_list pl.isList (by simp[cC]<;>lia) #[.int ys.length,H,I.tok _,#[s.toks+1,by rw[cC,hlen]],q]
 .let#[its,r',pl,hz]:=I.tuple hq;have hlen:=r'.length;show len_tuple pl (by simp[cC]<;>lia) #[.int ys.length,H,I.tok _,#[s.toks+1,by rw[cC,hlen]],q]
theorem Bd:hG X (.type "tuple") (λxs H Q=>∃ p ys,xs=[.ref p] /\ ((bZ X.K H p ys /\ ∀ l,H l=ag->Q (.ref l) (upd H l<|.tup ys)) \/ (c9 X.K H p ys /\ Q (.ref p) H))):=by
 intro pins s σ H xs us Q I r h;let#[p,ys,rfl,h]:=h;let#[u,rfl,rx]:=vals1 r;cases rx;rcases h with⟨hq,q⟩|⟨hq,q⟩
 .let#[its,r',pl,hz]:=I.list hq;have hlen:=r'.length;refine call_tuple_list pl.isList (λh' kp=>?_) (by simp[cC]<;>lia);have I1:Inv X pins σ H { s with heap:=h' }:=I.kept kp;have I2:Inv X pins σ (upd H h'.objs.size<|.tup ys) { s with heap:=h'.push { cls:=.type "tuple",data:=.seq its.toArray } }:=
   I1.laid (λb o e=>aN _ e) (aI _) (#[hz,its,r',IsTup.new _ _])
  show#[.ref h'.objs.size,_,I2,rfl,q _<|I1.aE.fresh<|aI _]
 .let#[its,r',pl,hz]:=I.tuple hq;show call_tuple_same pl #[.ref p,H,I,rfl,q]
def acF (K:PySem.W.Frag) (T:String) (x:V) (H:Hp):zw:=match x with
 |.str _=>T="str"
 |.int _=>T="int"
 |.ref p=>(T="list" /\ ∃ xs,bZ K H p xs) \/ (T="tuple" /\ ∃ o,K.lookup p=ae o /\ o.cls=.type "tuple" /\ o.dict=ag) \/
  (T="dict" /\ ((∃ ao,H p=ae (.dK ao)) \/ ∃ ao,H p=ae (.dT ao))) \/ (T="set" /\ ∃ S n,H p=ae (.set S n))
 |_=>False
theorem SY {s:aq}{T:String}{x:V}{v:aj}(I:Inv X pins σ H s) (r:RelV x v) (ty:acF X.K T x H) :
 s.TypeIs v T /\ ∀ a,v=.ref a->∃ ob,s.heap.get? a=ae ob /\ ob.dict=ag:=by
 cases x with
 |str z=>
   let#[t,rfl]:=r;cases (ty);show#[typeIs_str s z t,λ_ e=>nomatch e]
 |int i=>
   let#[t,rfl]:=r;cases (ty);show#[W7 s i t,λ_ e=>nomatch e]
 |ref p=>
   cases r;rcases ty with⟨rfl,xs,hq⟩|⟨rfl,o,hk,hc,hd⟩|⟨rfl,hk⟩|⟨rfl,S,n,hk⟩
   .let#[its,_,pl,_]:=I.list hq;refine#[pl.isList.typeIs,λa e=>?_];cases e;let#[o,n,e,c,hd,_]:=pl;show#[o,e,hd]
   .refine#[#[o,I.nF p o hk,hc],λa e=>?_];cases e;show#[o,I.nF _ o hk,hd]
   .have z:∃ o,s.heap.get? p=ae o /\ o.ExactDict:=by
     rcases hk with⟨ao,hk⟩|⟨ao,hk⟩
     .let#[_,_,_,_,o,_,_,e,ex,_]:=I.aE p _ hk;show#[o,e,ex]
     .let#[_,_,_,_,o,_,_,e,ex,_]:=I.aE p _ hk;show#[o,e,ex]
    let#[o,e,ex]:=z;refine#[#[o,e,ex.1],λa e2=>?_];cases e2;show#[o,e,ex.2.1]
   .let#[o,_,_,_,e,ex,_]:=I.aE p _ hk;refine#[#[o,e,ex.1],λa e2=>?_];cases e2;show#[o,e,ex.2.1]
 |_=>show False.elim ty
def Yh (K:PySem.W.Frag) (T:String) (r:V->List V->Hp->VK->zw) (to:TE) (t:TA):TE:=λσ H Q=>to σ H λx H1=>acF K T x H1 /\ t σ H1 λxs H2=>r x xs H2 Q
variable {o:au} {to:TE} {t:TA} {name:Str} {b9:aG} {T id:String} {r:V -> List V -> Hp -> VK -> zw}
theorem RQ (pa:PlainAttrs T) (slot:Slot T name id) (agB:typeOf (.builtin id)=pure (.type "method_descriptor")) (hm:agy X id r) (ho:PE X o to) (ha:PA X (e::es) t)
 (Ez:attributeBase o name X.env (eval o X.env)=eval o X.env:=by rfl)
 (EA:((backTo b9<|starEach (e::es) X.env).all (λx=>!x.1)&&(backToKw b9<|keywordEach [] X.env).all (λx=>x.1.isSome)
  && decide ((e::es).length+([]:List Keyword).length+(if ([]:List Keyword).isEmpty then 0 else 1)<30))=ah:=by rfl)
 (EB:(apos.endLine==b9.line)=ah:=by rfl) (hs:starEach (e::es) X.env=(af,eval e X.env)::starEach es X.env:=by rfl) (agC:(backTo b9<|starEach es X.env).any (·.1)=af:=by rfl) :
 PE X (.Call (.Attribute o name apos) (e::es) [] b9) (Yh X.K T r to t):=by
 intro pins s σ H Q I h;refine wpAny_Call_method_late Ez EA EB zk<|tE (ho pins s σ H _ I h) λv s1 x H1 I1 r1 hh=>?_;let#[ty,q1]:=hh;let#[h1,h2]:=SY I1 r1 ty;refine#[T,id,pa,slot,agB,h1,h2,?_];have hA:=ha b9 pins s1 σ H1 _ I1 q1;rw[hs]at hA ⊢;show Ei (by change (af||(backTo b9 _).any _)=af;rw[agC]<;>rfl)<|XJ<|tA hA λus s2 vs H2 I2 r2 q2=>hm pins s2 σ H2 x vs v us Q I2 r1 r2 q2
end
def acG (X:Cx) (id:String) (r:V->List V->Hp->VK->zw):zw:=
 ∀ (pins:List<|ai×bj) (s:aq) (σ:St) (H:Hp) (x:V) (xs:List V) (v:aj) (us:List aj) (Q:VK),Inv X pins σ H s->RelV x v->Vals xs us->r x xs H Q ->
  wpAny ze X.A (call (.builtin id) (v::us)) (EP X pins σ Q) X.xe s
theorem Vals.one:∀ {x:V}{us:List aj},Vals [x] us->∃ u,us=[u] /\ RelV x u
 |_,_,.cons r .nil=>#[_,rfl,r]
theorem Vals.two:∀ {x y:V}{us:List aj},Vals [x,y] us->∃ u v,us=[u,v] /\ RelV x u /\ RelV y v
 |_,_,_,.cons r (.cons q .nil)=>#[_,_,rfl,r,q]
theorem Vals.reverse {xs:List V}{us:List aj}(h:Vals xs us):Vals xs.reverse us.reverse:=by
 induction h with
 |nil=>show .nil
 |cons r t ih=>rw[HQ,HQ];show Vals.append ih<|.cons r .nil
theorem Vals.rep {xs:List V}(h:Vals xs us):∀ k:Nat,Vals (List.replicate k xs).flatten (List.replicate k us).flatten:=by
 intro l_;induction l_ with
 |zero=>show .nil
 |succ k ay=>
   show Vals.append h<|ay
theorem Bv (its:List aj):∀ (k:Nat) (acc:List aj),
 List.foldl (λx1 x2=>x1++x2) acc.toArray (List.replicate k its.toArray)=(acc++(List.replicate k its).flatten).toArray
 |0,acc=>by simp
 | k+1,acc=>by
   have e:acc.toArray++its.toArray=(acc++its).toArray:=by simp
   have e2:(acc++its)++(List.replicate k its).flatten=acc++(List.replicate (k+1) its).flatten:=by
    rw[Xm,aaD,eD]
   rw[<-e2,<-Bv its k _,<-e,Xm,Xn]
section
variable {s:aq} {l b:ai} {xs ys zs:List V}
theorem Inv.acH {its qU:List aj}{f:Array aj->Array aj}(I:Inv X pins σ H s) (hH:H l=ae (.lst xs))
 (e:s.heap.get? l=ae { cls:=.type "list",data:=.seq its.toArray n }) (hf:f its.toArray=qU.toArray) (hv:Vals ys qU) (hz:ys.length<=sizeLine) :
 Inv X pins σ (upd H l<|.lst ys) { s with heap:=s.heap.update l (Obj.mapSeq f),toks:=t' }:=by
 have q:=PySem.IsL.update e f;rw[hf]at q;show I.write (by rw[hH];show trivial) (.inl zk) (λb' u hb hu=>(HW s.heap _<|Ne.symm hb).trans hu) #[_,q]<|#[hz,qU,_,hv,q]
theorem Inv.acI {its:List aj}(I:Inv X pins σ H s) (hv:Vals ys its) (hz:ys.length<=sizeLine) :
 Inv X pins σ (upd H s.heap.objs.size<|.lst ys) { s with heap:=s.heap.push { cls:=.type "list",data:=.seq its.toArray },toks:=t' }:=
 I.laid (λ_ _ q=>aN _ q) (aI _) #[hz,its,0,hv,bE _ zk]
theorem Inv.fresh (I:Inv X pins σ H s):H s.heap.objs.size=ag:=I.aE.fresh<|aI _
theorem Inv.ye (I:Inv X pins σ H s) (hH:H l=ae (.lst xs)):xs.length<=sizeLine /\ ∃ (its:List aj) (n:Nat),Vals xs its /\ xs.length=its.length /\ s.heap.get? l=ae { cls:=.type "list",data:=.seq its.toArray n }:=by
 let#[z,its,n,r,e]:=I.aE l _ hH;show#[z,its,n,r,r.length,e]
theorem acJ (h:n<=sizeLine):Builtin.List.listTooLong n=af:=by
 show decide_eq_false za
end
def acK:V->List V->Hp->VK->zw:=λx vs H Q=>∃ l xs y,x=.ref l /\ vs=[y] /\ H l=ae (.lst xs) /\ xs.length<sizeLine /\ Q .aC (upd H l<|.lst<|xs++[y])
theorem mZ:acG X "list.append" acK:=by
 intro pins s σ H x vs v us Q I rx rv h;let#[l,xs,y,rfl,rfl,hH,hz,q]:=h;cases rx;let#[u,rfl,ru]:=rv.one;let#[z,its,n,r,hl,e]:=I.ye hH;refine yR F.slot_list_append #[_,e,rfl] F.entry_list_append (F.args_list_append_2 _ _) (PySem.list_append l its.toArray n u (by rw[cC];lia)) #[e,?_];refine#[.aC,_,I.acH hH e zf (r.append<|.cons ru .nil) ?_,rfl,q];rw[cB,aaE];lia
def acL:V->List V->Hp->VK->zw:=λx vs H Q=>∃ l b xs zs,x=.ref l /\ vs=[.ref b] /\ H l=ae (.lst xs) /\ H b=ae (.lst zs) /\ xs.length+zs.length<=sizeLine /\ Q .aC (upd H l<|.lst<|xs++zs)
theorem G3:acG X "list.extend" acL:=by
 intro pins s σ H x vs v us Q I rx rv h;let#[l,b,xs,zs,rfl,rfl,hH,hB,hz,q]:=h;cases rx;let#[u,rfl,ru]:=rv.one;cases ru;let#[z,its,n,r,hl,e]:=I.ye hH;let#[z2,tF,n2,r2,se,e2]:=I.ye hB;have rZ:its.toArray.size+tF.toArray.size<=sizeLine:=by rw[cC,cC];lia
 have Yi:¬ (!its.toArray.isEmpty&&Builtin.List.listTooLong (its.toArray.size+tF.toArray.size))=ah:=by
  rw[acJ rZ,Bool.and_false];show dM
 refine yR F.slot_list_extend #[_,e,rfl] F.entry_list_extend (F.args_list_extend_2 _ _)
  (afJ l its.toArray n b tF.toArray n2 Yi za za) #[e,e2,?_]
 refine#[.aC,_,I.acH hH e zf (r.append r2) ?_,rfl,q];rw[cB];lia
def acM:R2:=λx y H Q=>∃ l b xs zs,x=.ref l /\ y=.ref b /\ H l=ae (.lst xs) /\ H b=ae (.lst zs) /\ xs.length+zs.length<=sizeLine /\ ∀ p,H p=ag->Q (.ref p) (upd H p<|.lst<|xs++zs)
theorem SZ:bA X (binaryOp .Add) acM:=by
 intro pins s σ H x y v u Q I rx ry h;let#[l,b,xs,zs,rfl,rfl,hH,hB,hz,q]:=h;cases rx;cases ry;let#[z,its,n,r,hl,e]:=I.ye hH;let#[z2,tF,n2,r2,se,e2]:=I.ye hB;refine PySem.P.add_list e e2 ?_ (by rw[cC,cC];lia);have ea:its.toArray++tF.toArray=(its++tF).toArray:=by simp
 rw[ea];show#[.ref _,_,I.acI (r.append r2) (by rw[cB];lia),rfl,q _ I.fresh]
def acN:R2:=λx y H Q=>∃ l k xs,x=.ref l /\ y=.int k /\ H l=ae (.lst xs) /\ -(2 ^ 63)<=k /\ k<2 ^ 63 /\ xs.length*k.toNat<=sizeLine /\
 ∀ p,H p=ag->Q (.ref p) (upd H p<|.lst (List.replicate k.toNat xs).flatten)
theorem N4 (xs:List α) (k:Nat):(List.replicate k xs).flatten.length=k*xs.length:=by
 induction k with
 |zero=>simp
 |succ k ih=>rw[Xm,aaD,cB,ih,Nat.succ_mul,Nat.add_comm]
theorem S3:bA X (binaryOp .Mult) acN:=by
 intro pins s σ H x y v u Q I rx ry h;let#[l,k,xs,rfl,rfl,hH,h1,h2,hz,q]:=h;cases rx;let#[t,rfl]:=ry;let#[z,its,n,r,hl,e]:=I.ye hH;have hlen:its.toArray.size*k.toNat<=sizeLine:=by rw[cC,<-hl];show hz
 have agD:¬ its.toArray.size*k.toNat>(2 ^ 63-1) / 8:=by
  have:(sizeLine)<=(2 ^ 63-1) / 8:=by decide
  lia
 have agE:¬ (!Builtin.List.listFitsIndex k)=ah:=by
  rw[fitsIndex_both h1 h2];show dM
 have Yi:¬ Builtin.List.listTooLong (its.toArray.size*k.toNat)=ah:=by
  rw[acJ hlen];show dM
 have EC:List.foldl (λx1 x2=>x1++x2) #[] (List.replicate (if its.toArray.isEmpty=ah then 0 else k.toNat) its.toArray)=(List.replicate k.toNat its).flatten.toArray:=by
  have f0:=λm=>by
   have:=Bv its m [];rw[kH]at this;show this
  rw[f0];cases its with
  |nil=>simp
  |cons a r'=>rw[if_neg zf]
 refine wpAny_binaryOp_repeat_ref zh #[_,e,rfl] (λs'=>W7 s' k t) noFill_list_mul F.fills_int_mul abx repeat_list F.slot_int_index.lookup
  (yR abx (W7 s k t) F.entry_int_rmul (F.args_int_rmul_2 _ _) (int___rmul___int_list k t l its.toArray n)
   #[e,rfl,#[_,e,rfl],yR F.slot_list_mul #[_,e,rfl] F.entry_list_mul (F.args_list_mul_2 _ _) (afL l its.toArray n k t agE agD Yi) #[e,?_]])
 rw[EC];show#[.ref _,_,I.acI (r.rep k.toNat) (by rw[N4,Nat.mul_comm];show hz),rfl,q _ I.fresh]
section
variable {s:aq}
end
end L2
namespace sf
open PySem.W PySem.Calls
theorem oX {P:Params}:∀ (ns:List Int) (vs:List aj),WellAll P h vs (ns.map WData.int)->IntsAre vs ns:=by
 intro ns;induction ns with
 |nil=>
   intro vs w;cases w;show .nil
 |cons n ns ih=>
   intro vs w;cases w with
   |cons a b=>
     cases a;show .cons _ _<|ih _ b
theorem G4 {l:OpenLaw}(hn:l.most=ae n) {P:Params}{args:List WData}{vals:List aj}
 (IW:l.row.toRowW.claim.pre args=ah) (Yj:WellAll P h vals args) :
 ∃ a vs ns,vals=[Value.ref a] /\ args=[WData.list<|ns.map WData.int] /\ h.get? a=ae { cls:=.type "list",data:=.seq vs.toArray } /\ IntsAre vs ns /\ ns.length<=n:=by
 have hc:l.pre.holds [] { args:=args }=ah:=(pre_splitW IW).2;let#[d,r,rfl,h1,h2]:=hasAllW_cons (pre_splitW IW).1;obtain rfl:=hasAllW_nil h2;let#[xs,rfl,h3]:=hasW_list h1;let#[ns,rfl]:=items_int h3;have hlen:ns.length<=n:=by
  have h4:(WTm.not<|.lt (.lit<|.int<|n)<|.len<|.arg 0).holds [] { args:=[.list<|ns.map .int] }=ah:=by
   have h4:=(holds_andW hc).1;rw[hn]at h4;show h4
  have h5:=condW_of h4<|w_not<|w_lt w_lit<|w_len_list<|w_arg zk;refine vS λq=>?_;first
   |(show absurd h5 (rfl))
   |(simp at h5;lia)
 cases Yj with
 |cons w1 w2=>
   cases w2;cases w1 with
   |list ho agF=>show#[_,_,ns,rfl,rfl,ho,oX ns _ agF,hlen]
theorem G5 (l:OpenLaw) (args:List WData):l.row.toRowW.claim.post args (.bool ah) args=ah:=
 postW_of
  (by first|rfl|decide|simp[WShape.armsAll])
  (w_eq_bool (w_res zk) w_lit) zk
theorem agG {l:OpenLaw}{q:dE}{loose:List Str}{YP:bY->aJ->zw}{d:DefRec}
 (hn:l.most=ae n) (Yk:d.params.defaults=[])
 (call:∀ (w:bY) (s₀ s₁:aq) (mg mb:Str->Option aj) (fa:ai) (o:bj) (pm cd doc:aj) (a:ai) (vs:List aj) (ns:List Int),
  Ground q loose [] XP w s₀ mg mb s₁.heap->YP w s₁.heap ->
  s₁.heap.get? fa=ae o->o.data=.func (docDef d.name d.params d.body d.scope pm cd doc)->s₁.heap.CodeRec cd d.name->mg d.name=ae (.ref fa) ->
  s₁.heap.get? a=ae { cls:=.type "list",data:=.seq vs.toArray }->IntsAre vs ns->ns.length<=n->s₁.gens=#[] ->
  codeAny (model l.prog w) callerA (.call (.ref fa) #[[.ref a],[]]) (λr s'=>r=.ok (.ret<|.bool ah) /\ OldK s₁.heap s'.heap /\ s'.os=s₁.os /\ AllBare s'.gens) s₁) :
 WalkO q loose XP YP l.row.toRowW d [] (λf vs=>PySem.call f vs):=by
 intro w s₀ s₁ mg mb G Y fa o pm cd doc dV kV ho hd pD hD hmg hg args vals as IW akV akW Yj akX;obtain rfl:dV=.none:=Dflts.none hD Yk;obtain rfl:kV=.none:=Dflts.noKw hD;let#[a,vs,ns,rfl,rfl,IX,hints,hlen]:=G4 hn IW Yj;refine enter_call<|xf (call w s₀ s₁ mg mb fa o pm cd doc a vs ns G Y ho (fd_plain hd) pD hmg IX hints hlen hg) λr s' hq=>?_;let#[rfl,h2,h3,h4]:=hq;show#[.inl #[.bool ah,.bool ah,[],rfl,λ_=>rfl,.bool ah,G5 l _,λ_=>#[List.Pairwise.nil,λ_ hm=>(nomatch hm)]],h2,h3,h4]
section
variable {s:aq} 
noncomputable def IZ (h:aJ):aJ:={ h with objs:=#[] }
theorem agH (h:aJ) (b:ai):(IZ h).get? b=ag:=by
 cases e:(IZ h).get? b with
 |none=>rfl
 |some o=>show absurd (bh e)<|HL _
noncomputable def ledger (h:aJ) (L d:ai):List (ai×bj):=(List.range h.objs.size).filterMap λa=>if a=L \/ a=d then ag else (h.get? a).map λo=>(a,o)
theorem I0 {L d:ai}:(a,o)∈ledger h L d ↔ a≠L /\ a≠d /\ h.get? a=ae o:=by
 unfold ledger;rw[List.mem_filterMap];constructor
 .rintro⟨b,_,e⟩;split at e
  .cases e
  .ext hb;let#[o',ho,e']:=Option.map_eq_some_iff.mp e;cases e';show#[λq=>hb<|.inl q,λq=>hb<|.inr q,ho]
 .rintro⟨n1,n2,ho⟩;refine#[a,List.mem_range.mpr<|bh ho,?_];rw[if_neg λq=>q.elim n1 n2,ho]<;>rfl
theorem agI {L:ai}{m:Str->Option aj}(n:h.Ns L m):Fr (IZ h) L h m:=
 #[n,λb o e=>(by cases e),cJ _]
end
end sf
namespace L2
theorem Bw:∀ {vs:List aj}{ns:List Int},IntsAre vs ns->Vals (ns.map V.int) vs
 |_,_,.nil=>.nil
 |_,_,.cons n t h=>.cons #[t,rfl]<|Bw h
noncomputable abbrev akY (_:K.In h):PySem.W.Frag:=K
noncomputable def jj (s:cz):Arguments:=match s with
 |.FunctionDef _ a _ _ _ _ _ _ _ _=>a
 |_=>{ posonlyargs:=[],args:=[],vararg:=ag,kwonlyargs:=[],kw_defaults:=[],kwarg:=ag,defaults:=[] }
noncomputable def iI (s:cz):List cz:=match s with
 |.FunctionDef _ _ b _ _ _ _ _ _ _=>b
 |_=>[]
noncomputable def fS (s:cz):bK:=match s with
 |.FunctionDef _ _ _ _ _ _ sc _ _ _=>sc
 |_=>{ kind:=.function,names:=[],isGenerator:=af,isCoroutine:=af }
abbrev Ka:qV:=λ_ _ _ _ _ _=>False
noncomputable abbrev E0:XK:=λ_ _ _=>False
structure pX (K:PySem.W.Frag) (x qual:Str) (st:cz) (f:ai) (fd:FuncData):zw where
 ex:∃ (oc:aj) (od:Option ai) (kV doc pm:aj) (an:Option ai) (dz ct:aj) (qJ:Array<|Option aj),
  fd=PySem.W.fnOf x qual (jj st) (iI st) (fS st) .none kV doc pm an dz ct /\ K.lookup f=ae #[oc,od,.func fd,qJ] /\ PySem.W.codeIn K dz qual=ah
 kp:PySem.W.keepIn K (.ref f)=ah
theorem pX.binds {f:ai}{ps:List Str}(F:pX K x qual st f fd)
 (h:∀ (kV doc pm:aj) (an:Option ai) (dz ct:aj) (us:List aj),us.length=ps.length->bindArgs (PySem.W.fnOf x qual (jj st) (iI st) (fS st) .none kV doc pm an dz ct) #[us,[]]=pure (ps.zip us)):Binds K fd ps []:=by
 let#[oc,od,kV,doc,pm,an,dz,ct,qJ,rfl,lk,pD]:=F.ex;show .all<|h kV doc pm an dz ct
theorem Lm {f:ai}{oc:aj}{od an:Option ai}{kV doc pm dz ct:aj}(l:K.lookup f=ae #[oc,od,.func<|PySem.W.fnOf x qual (jj st) (iI st) (fS st) .none kV doc pm an dz ct,qJ])
 (c:PySem.W.codeIn K dz qual=ah) (k:PySem.W.keepIn K (.ref f)=ah):pX K x qual st f (PySem.W.fnOf x qual (jj st) (iI st) (fS st) .none kV doc pm an dz ct):=#[#[oc,od,kV,doc,pm,an,dz,ct,qJ,rfl,l,c],k]
noncomputable def hO (cells:List<|Str×ai):List (Str×NameKind)->List (Str×ai)->List (Str×ai)
 |[],acc=>acc
 |(n,k)::r,acc=>hO cells r (if k==.free then (match cells.lookup n with|some c=>(n,c)::acc|none=>acc) else acc)
theorem jF {env:Env}:∀ (names:List<|Str×NameKind) (acc:List<|Str×ai),(∀ y∈names,y.2=.free->∃ c,env.cells.lookup y.1=ae c) ->
 (forIn names acc λ(x:Str×NameKind) (r:List<|Str×ai)=>(match x with
  |(name,kind)=>if (kind==NameKind.free)=ah then (do let a <-cellOf env name;pure (ForInStep.yield ((name,a)::r))) else pure (ForInStep.yield r):Sem<|ForInStep<|List<|Str×ai))=(pure (hO env.cells names acc):Sem _)
 |[],acc,_=>rfl
 | (n,k)::r,acc,h=>by
   rw[xn];by_cases hk:k=.free
   .subst hk;let#[c,e]:=h (n,.free) bw zk;have e':=e;have e1:cellOf env n=pure c:=by unfold cellOf;rw[e']
    dsimp only;rw[if_pos zh,e1];have z:hO env.cells ((n,NameKind.free)::r) acc=hO env.cells r ((n,c)::acc):=by
     change hO env.cells r _=_;rw[if_pos zh,e']
    rw[z,<-(jF r _ λy hy=>h y<|bG _ hy)];rfl
   .dsimp only;have hb:(k==NameKind.free)=af:=by simpa using hk
    rw[if_neg (by rw[hb];decide)];have z:hO env.cells ((n,k)::r) acc=hO env.cells r acc:=by
     change hO env.cells r _=_;rw[if_neg (by rw[hb];decide)]
    rw[z,<-(jF r acc λy hy=>h y<|bG _ hy)];rfl
theorem Av {scope:bK}{env:Env}(h:∀ y∈scope.names,y.2=.free->∃ c,env.cells.lookup y.1=ae c):closureFor scope env=pure (hO env.cells scope.names []):=by
 have q:=jF scope.names [] h;unfold closureFor;first
  |show q
  |(dsimp only;rw[q];rfl)
  |(rfl)
theorem CL {cells:List (Str×ai)}:∀ (names:List<|Str×NameKind) (acc:List<|Str×ai),(∀ x c,acc.lookup x=ae c->cells.lookup x=ae c)->∀ x c,(hO cells names acc).lookup x=ae c->cells.lookup x=ae c
 |[],_,h=>h
 | (n,k)::r,acc,h=>by
   refine CL r _ ?_;intro x c e;by_cases hk:(k==NameKind.free)=ah
   .rw[if_pos hk]at e;cases q:cells.lookup n with
    |none=>rw[q]at e;show h x c e
    |some a=>
      rw[q]at e;have e':=e;rw[nR]at e';cases hx:x==n with
      |true=>rw[hx]at e';rw[eq_of_beq hx,q];show e'
      |false=>rw[hx]at e';show h x c e'
   .rw[if_neg hk]at e;show h x c e
theorem CM {cells:List (Str×ai)}:∀ (names:List<|Str×NameKind) (acc:List<|Str×ai) (x:Str),((∃ c,acc.lookup x=ae c) \/ ((x,NameKind.free)∈names /\ ∃ c,cells.lookup x=ae c))->∃ c,(hO cells names acc).lookup x=ae c
 |[],_,x,h=>h.elim id λz=>nomatch z.1
 | (n,k)::r,acc,x,h=>by
   refine CM r _ x ?_;rcases h with⟨c,e⟩|⟨hm,c,e⟩
   .left;by_cases hk:(k==NameKind.free)=ah
    .rw[if_pos hk];cases q:cells.lookup n with
     |none=>show#[c,e]
     |some a=>
       rw[nR];cases hx:x==n with
       |true=>show#[a,rfl]
       |false=>show#[c,e]
    .rw[if_neg hk];show#[c,e]
   .rcases aZ.mp hm with z|z
    .have z1:=congrArg Prod.fst z;have z2:NameKind.free=k:=congrArg Prod.snd z;subst z1;subst z2;left;rw[if_pos zh,e];show#[c,by rw[nR,beq_self_eq_true]]
    .show .inr #[z,c,e]
theorem lX {env:Env}:∀ (names:List<|Str×NameKind) (x:Str) (k':NameKind),
 (names.map λ(n,k)=>if zr then (n,NameKind.cell) else (n,k)).lookup x=ae k' ->
 ∃ k,names.lookup x=ae k /\ (k'=k \/ (k=.free /\ k'=.cell))
 |[],_,_,h=>by simp at h
 | (n,k)::r,x,k',h=>by
   have h':List.lookup x ((if zr=ah then (n,NameKind.cell) else (n,k))::(r.map λ(n,k)=>if zr then (n,NameKind.cell) else (n,k)))=ae k':=h;by_cases hc:zr=ah
   .rw[if_pos hc,nR]at h';rw[nR];cases hx:x==n with
    |true=>
      rw[hx]at h';have hk:k=.free:=by
       cases hq:(k==NameKind.free) with
       |true=>show eq_of_beq hq
       |false=>rw[hq]at hc;simp at hc
      show#[k,rfl,.inr #[hk,(Option.some.inj h').symm]]
    |false=>rw[hx]at h';show lX r x k' h'
   .rw[if_neg hc,nR]at h';rw[nR];cases hx:x==n with
    |true=>rw[hx]at h';show#[k,rfl,.inl (Option.some.inj h').symm]
    |false=>rw[hx]at h';show lX r x k' h'
theorem jG {env:Env}:∀ (names:List<|Str×NameKind) (x:Str),names.lookup x=ae .free ->
 (names.map λ(n,k)=>if zr then (n,NameKind.cell) else (n,k)).lookup x=ae .cell \/
 (names.map λ(n,k)=>if zr then (n,NameKind.cell) else (n,k)).lookup x=ae .free
 |[],_,h=>by simp at h
 | (n,k)::r,x,h=>by
   change List.lookup x ((if zr=ah then (n,NameKind.cell) else (n,k))::_)=_ \/ List.lookup x ((if zr=ah then (n,NameKind.cell) else (n,k))::_)=_;rw[nR]at h;by_cases hc:zr=ah
   .rw[if_pos hc,nR];cases hx:x==n with
    |true=>show .inl zk
    |false=>rw[hx]at h;show jG r x h
   .rw[if_neg hc,nR];cases hx:x==n with
    |true=>rw[hx]at h;show .inr h
    |false=>rw[hx]at h;show jG r x h
theorem iz:∀ (names:List<|Str×NameKind) (n:Nat) (acc:List<|Str×ai),cellsFrom n names acc=cellsFrom n names []++acc
 |[],_,_=>rfl
 | (x,k)::r,n,acc=>by
   unfold cellsFrom;split
   .rw[iz r _ _,iz r _ [(x,n)],eD];rfl
   .show iz r n acc
theorem m7:∀ (names:List<|Str×NameKind) (n:Nat) {x:Str}{c:ai},(x,c)∈cellsFrom n names []->(x,NameKind.cell)∈names
 |[],_,_,_,h=>nomatch h
 | (y,k)::r,n,x,c,h=>by
   unfold cellsFrom at h;split at h
   .ext hk;rw[iz]at h;rcases dY.mp h with h|h
    .show bG _<|m7 r _ h
    .cases c8.mp h;rw[<-eq_of_beq hk];show bw
   .show bG _<|m7 r _ h
theorem Aw {α:Type}:∀ {l:List (Str×α)}{x:Str}{a b:α},(l.map (·.1)).Nodup->(x,a)∈l->(x,b)∈l->a=b
 | (y,c)::l,x,a,b,h,ha,hb=>by
   rw[aM,nE]at h;rcases aZ.mp ha with e|ha<;>rcases aZ.mp hb with e'|hb
   .rw[<-e']at e;show(Prod.mk.inj e).2
   .show absurd (aK.mpr #[_,hb,(Prod.mk.inj e).1]) h.1
   .show absurd (aK.mpr #[_,ha,(Prod.mk.inj e').1]) h.1
   .show Aw h.2 ha hb
theorem jH {α:Type}{x:Str}:∀ {l m:List (Str×α)},(l++m).lookup x=match l.lookup x with|some a=>ae a|none=>m.lookup x
 |[],m=>rfl
 | (y,a)::l,m=>by
   rw[Xo,nR,nR];cases x==y with
   |true=>rfl
   |false=>show jH
theorem Ax {s:aq}{scope:bK}{globals:ai}{cl:List (Str×ai)}{env:Env}{Q:Env->aq->zw}
 (h:Q { scope:=scope,locals:=s.heap.objs.size,globals:=globals,cells:=cellsFrom (s.heap.objs.size+1) scope.names cl,qual:=qual,func:=ag,code:=env.code,frame:=env.frame,builtins:=env.builtins }
  { s with heap:=pushCells (s.heap.push { cls:=.type "dict",data:=.dict #[] }) scope.names }) :
 wpAny M A (newFunctionEnv scope globals cl [] qual ag .none<|ae env) Q E s:=by
 refine ak<|aac<|ak<|wpAny_layCells _ (λname kind cells=>by cases hk:kind==NameKind.cell<;>simp[hk]) _ _ _ _ ?_;rw[uj ..];show ak<|az<|az h
noncomputable abbrev Cx.comp (X:Cx) (N:List Str) (scope:bK) (cl:List<|Str×ai) (s:aq) (H:Hp) (C:ai) (fp:List ai):Cx:=
 { X with N:=N,s₀:=s,H₀:=H,env:=compEnvC scope cl C X.env,outer:=X.stack,stack:=X.stack,ex:=fp,fn:=λx=>decide (scope.names.lookup x=ae .cell),pn:=[],xe:=λ_ _=>False }
structure tM (X:Cx) (N:List Str) (src:List<|Option Nat) (scope:bK):zw where
 kind:scope.kind=.function
 nk:(scope.names.map (·.1)).Nodup
 names:∀ y∈scope.names,y.2=.local->scope.names.lookup y.1=ae .local
 has:∀ y∈scope.names,y.2=.free->X.env.kindOf y.1=ae .cell \/ X.env.kindOf y.1=ae .free
 agJ:src.length=N.length
 agK:∀ (j i:Nat) (x:Str),src[j]?=ae (ae i)->N[j]?=ae x->X.N[i]?=ae x /\ scope.names.lookup x=ae .free
noncomputable def vp (src:List<|Option Nat) (σ:St):St:=src.map λo=>o.bind λi=>(σ[i]?).bind id
def PF (X:Cx) (ifs:List au) (t:TT):zw:=
 ∀ (pins:List<|ai×bj) (s:aq) (σ:St) (H:Hp) (Q:Bool->Hp->zw),Inv X pins σ H s->t σ H Q ->
  wpAny ze X.A (forIn ifs ah λc r=>if r=ah then do let ok <-isTrue c X.env (eval c X.env);pure (ForInStep.yield ok) else pure (ForInStep.yield r)) (TP X pins σ Q) X.xe s
theorem S5:PF X [] (λ_ H Q=>Q ah H):=λ_ _ _ H _ I h=>wpAny_tests_nil #[H,I,h]
theorem S6 {c:au}{t:TT}(h:PT X c t):PF X [c] t:=λpins s σ H Q I hw=>wpAny_tests_one<|h pins s σ H Q I hw
def acO (J:It) (g:TG) (tf:TT) (te:TE) (D:ai) (Q:VK) (σ0:St) (H0:Hp):zw:=
 ∃ W:Nat->Nat->St->Hp->zw,(∃ m,W 0 m σ0 H0) /\ ∀ i m σ' H',W i m σ' H' ->
  (J.stop i H' /\ Q (.ref D) H') \/ (J.go i H' /\ ∃ N:St->Hp->zw,(∀ σ2 H2,N σ2 H2->∃ m',m'<m /\ W (i+1) m' σ2 H2) /\ ∀ x H2,J.Es i H' x H2->g x σ' H2 λσ2 H3=>tf σ2 H3 λb H4=>
   if b=ah then te σ2 H4 λy H5=>∃ ys,H5 D=ae (.lst ys) /\ ys.length<sizeLine /\ N σ2 (upd H5 D<|.lst<|ys++[y]) else N σ2 H4)
def Kb (src:List<|Option Nat) (wi:TI) (g:TG) (tf:TT) (te:TE):TE:=λσ H Q=>wi σ H λJ H1=>∀ D,H1 D=ag->acO J g tf te D Q (vp src σ) (upd H1 D<|.lst [])
section
variable {s:aq}
noncomputable abbrev yf (P:dE) (w:bY) (A:kR) (env:Env) (R:Result->aq->zw):aj->aq->zw:=
 notedBy (model P w) A env λx z=>R (.error x) z
noncomputable abbrev agL (ifs:List au) (env:Env):Sem Bool:=
 forIn ifs ah λc r=>if r=ah then do let ok <-isTrue c env (eval c env);pure (ForInStep.yield ok) else pure (ForInStep.yield r)
theorem mH {elt:au}{scope:bK}{it acc:aj}{env:Env}
 (J:Nat->aq->zw) (N:aj->Nat->aq->zw)
 (hN:∀ v n z,N v n z->wpAny zd A (letOwnedTupleGo tg it v) (λ_ z1=>
  wpAny zd A (assign tg env v) (λ_ z2=>
  wpAny zd A (agL ifs env) (λb z3=>
   if b=ah then wpAny zd A (eval elt env) (λy z4=>
    wpAny zd A (call (.builtin "list.append") [acc,y])
     (λ_ z5=>∃ k,k<n /\ J k z5) (yf prog w A env R) z4) (yf prog w A env R) z3
   else ∃ k,k<n /\ J k z3)
   (yf prog w A env R) z2) (yf prog w A env R) z1) (yf prog w A env R) z)
 (go:∀ n z,J n z->wpAny zd A (pyNext it)
  (λr z1=>match r with|none=>R (.ok .next) z1|some v=>N v n z1) (yf prog w A env R) z)
 (n:Nat) (h:J n s) :
 codeAny zd A (.compLoop zy 0 it acc env) R s:=by
 refine codeAny_loop zk J (λk z hz=>?_) n h;refine wpAny_noted ?_;rw[compTurn_list];refine ak<|xb<|ak ?_;refine ny (go k z hz) (λr z1 h1=>?_) λ_ _ q=>q;cases r with
 |none=>show az h1
 |some v=>
   refine ak<|ny (hN v k z1 h1) (λ_ z2 h2=>ak ?_) λ_ _ q=>q;refine ny h2 (λ_ z3 h3=>ak ?_) λ_ _ q=>q;refine ny h3 (λb z4 h4=>?_) λ_ _ q=>q;cases b with
   |false=>show az #[rfl,h4]
   |true=>
     show ak<|ak<|ny h4 (λy z5 h5=>ak<|ny h5 (λ_ z6 h6=>az<|az #[rfl,h6]) λ_ _ q=>q) λ_ _ q=>q
end
theorem tM.cells {N:List Str}{src:List (Option Nat)}{scope:bK}(S:tM X N src scope) (ok:X.Ok):∀ y∈scope.names,y.2=.free->∃ c,X.env.cells.lookup y.1=ae c:=
 λy hy hf=>ok.has y.1<|S.has y hy hf
theorem CN {cells:List (Str×ai)}{x:Str}{c:ai}:∀ (names:List<|Str×NameKind) (acc:List<|Str×ai),(x,c)∉acc->(x,c)∈hO cells names acc->(x,NameKind.free)∈names
 |[],_,h,e=>absurd e h
 | (n,k)::r,acc,h,e=>by
   by_cases hx:x=n /\ k=.free
   .let#[rfl,rfl]:=hx;show bw
   .refine bG _<|CN r _ ?_ e;by_cases hk:(k==NameKind.free)=ah
    .rw[if_pos hk];cases q:cells.lookup n with
     |none=>show h
     |some a=>
       intro z;rcases aZ.mp z with z|z
       .show hx #[(Prod.mk.inj z).1,eq_of_beq hk]
       .show h z
    .rw[if_neg hk];show h
theorem CO {src:List (Option Nat)}{scope:bK}{s s':aq} 
 (S:tM X N src scope) (I:Inv X pins σ H s) (Yl:∀ b∈fp,pU X pins H b /\ b<s.heap.objs.size) (hh:s'={ s with heap:=pushCells (s.heap.push { cls:=.type "dict",data:=.dict #[] }) scope.names }) :
 Inv (X.comp N scope (cellsFrom (s.heap.objs.size+1) scope.names<|hO X.env.cells scope.names []) s H s.heap.objs.size fp) [] (vp src σ) H s':=by
 subst hh;have hk:∀ b o,s.heap.get? b=ae o->(pushCells (s.heap.push { cls:=.type "dict",data:=.dict #[] }) scope.names).get? b=ae o:=λb o e=>HE _ _ b o<|aN _ e;have ok:=cellsFrom_ok scope.names (s.heap.push { cls:=.type "dict",data:=.dict #[] }) _ [] #[λ_ _ hm=>(nomatch hm),List.Pairwise.nil] (by rw[uj];show aI _);rw[uj]at ok;have split:∀ x c,(cellsFrom _ scope.names<|hO X.env.cells scope.names []).lookup x=ae c->(cellsFrom _ scope.names []).lookup x=ae c \/ (hO X.env.cells scope.names []).lookup x=ae c:=λx c e=>by
  rw[iz,jH]at e;cases q:(cellsFrom (s.heap.objs.size+1) scope.names []).lookup x with
  |some a=>rw[q]at e;show .inl e
  |none=>rw[q]at e;show .inr e
 have own:∀ x c,(cellsFrom _ scope.names []).lookup x=ae c->s.heap.objs.size<c /\ (pushCells _ scope.names).IsCell c ag:=λx c e=>by
  let#[a,b]:=ok.empty x c<|pR e;show#[b,a]
 have acP:∀ x,scope.names.lookup x=ae .free->(cellsFrom _ scope.names<|hO X.env.cells scope.names []).lookup x=(hO X.env.cells scope.names []).lookup x:=λx e=>by
  rw[iz,jH];cases q:(cellsFrom (s.heap.objs.size+1) scope.names []).lookup x with
  |some a=>show absurd (Aw S.nk (pR e)<|m7 _ _<|pR q) zh
  |none=>rfl
 have low:∀ x c,X.env.cells.lookup x=ae c->c<s.heap.objs.size:=λx c e=>by
  let#[v,o,ho,_]:=I.cell x c e;show bh ho
 have sub:=CL (cells:=X.env.cells) scope.names [] (λx c e=>by simp at e);have agM:∀ x,((relabel scope X.env).names.lookup x=ae .cell \/ (relabel scope X.env).names.lookup x=ae .free)->scope.names.lookup x=ae .free \/ scope.names.lookup x=ae .cell:=λx hx=>by
  have go:∀ k',(k'=NameKind.cell \/ k'=NameKind.free)->(relabel scope X.env).names.lookup x=ae k'->scope.names.lookup x=ae .free \/ scope.names.lookup x=ae .cell:=λk' ux e=>by
   let#[k,e1,q]:=lX scope.names x k' e;rcases q with q|⟨q,_⟩
   .subst q;rcases ux with z|z
    .subst z;show .inr e1
    .subst z;show .inl e1
   .subst q;show .inl e1
  show hx.elim (go _<|.inl zk)<|go _<|.inr zk
 have acQ:∀ x,scope.names.lookup x=ae .free->∃ c,(hO X.env.cells scope.names []).lookup x=ae c /\ X.env.cells.lookup x=ae c:=λx e=>by
  have hm:=pR e;let#[c,e1]:=CM scope.names [] x<|.inr #[hm,S.cells I.ok (x,.free) hm zk];show#[c,e1,sub x c e1]
 refine#[#[I.ok.mod,(S.kind),I.ok.glob,I.ok.blt,aI _,λx y c e1 e2=>?_,λx hx=>?_,λx c e=>?_,I.ok.hd,I.ok.frames,.inl zk,λb hb=>?_,I.bs,cT I.ok.vW I.sz,λb o e hb=>?_,λb hb=>?_,I.stack,I.ab0],
  rfl,I.bare,Un.kept hk,#[_,((Heap.Ns.new s.heap<|.type "dict").keeps<|HE _ _),λj x v e1 e2 e3=>?_],λx c e=>?_,I.aE.fresh<|aI _,λx c e=>?_,λp hp=>absurd (hp) zf,I.aE.kept hk,?_]
 .rcases split x c e1 with q1|q1<;>rcases split y c e2 with q2|q2
  .show Z8 ok.apart (pR q1)<|pR q2
  .show absurd (rQ (own x c q1).1<|low y c<|sub y c q2)<|kF _
  .show absurd (rQ (own y c q2).1<|low x c<|sub x c q1)<|kF _
  .show I.ok.inj x y c (sub x c q1)<|sub y c q2
 .rcases agM x hx with k|k
  .let#[c,e1,_]:=acQ x k;show#[c,(acP x k).trans e1]
  .let#[c,e1]:=Aq k;refine#[c,?_];change (cellsFrom (s.heap.objs.size+1) scope.names<|hO X.env.cells scope.names []).lookup x=ae c;rw[iz,jH,e1]
 .intro hl;rcases split x c hl with q|q
  .show nC (own x c q).1
  .show absurd (Aw S.nk (pR<|of_decide_eq_true e)<|CN _ _ zf<|pR q) zh
 .let#[f,hl]:=Yl b hb;refine#[bC hl,λx c e=>?_];rcases split x c e with q|q
  .show u9<|rQ hl (own x c q).1
  .show f.2.2.2.2.1 x c<|sub x c q
 .let#[f,_]:=Yl b hb;let#[_,_,_,f4,_]:=f;rcases f4 with z|z
  .show I.ok.Em b o e z
  .show absurd (kN (bh (I.ok.bs b o e).1) z)<|kF _
 .let#[f,_]:=Yl b hb;intro hz;rcases aZ.mp (I.XX b hz) with e|e
  .show f.2.1 e
  .show f.2.2.1 e
 .have hs:∃ i,src[j]?=ae (ae i) /\ σ[i]?=ae (ae v):=by
   have uA:(src.map λo=>o.bind λi=>(σ[i]?).bind id)[j]?=ae (ae v):=e2;rw[kQ]at uA;cases q:src[j]? with
   |none=>rw[q]at uA;cases uA
   |some o=>
     rw[q]at uA;cases o with
     |none=>cases uA
     |some i=>
       refine#[i,rfl,?_];have Kc:(σ[i]?).bind id=ae v:=Option.some.inj uA;cases z:σ[i]? with
       |none=>rw[z]at Kc;cases Kc
       |some o'=>
         rw[z]at Kc;have:o'=ae v:=Kc;rw[this]
  let#[i,agN,hσ]:=hs;let#[hN,Ke]:=S.agK j i x agN e1;have acR:=S.has (x,.free) (pR Ke) zk;let#[m,_,hl]:=I.loc;let#[u,r,lk]:=hl i x v hN hσ<|.inr acR;refine#[u,r,?_];rcases lk with⟨k,_⟩|⟨_,c,ec,vj⟩
  .rcases acR with z|z
   .rw[z]at k;cases k
   .rw[z]at k;cases k
  .let#[c',wb,uA]:=acQ x Ke;have:c'=c:=by rw[ec]at uA;show(Option.some.inj uA).symm
   subst this;refine .inr #[(jG scope.names x Ke),c',(acP x Ke).trans wb,?_]
   .let#[o,ho,hd]:=vj;show#[o,hk _ _ ho,hd]
 .rcases split x c e with q|q
  .show#[ag,(own x c q).2]
  .let#[v,o,ho,hd]:=I.cell x c<|sub x c q;show#[v,o,hk _ _ ho,hd]
 .rcases split x c e with q|q
  .show I.aE.fresh<|nC (own x c q).1
  .show I.qQ x c<|sub x c q
 .change (vp src σ).length=N.length;unfold vp;rw[aV];show S.agJ
theorem N5 {src:List (Option Nat)}{elt:au}{scope:bK}{wi:TI}{g:TG}{tf:TT}{te:TE}
 (hc:X.calm=ah) (S:tM X N src scope) (hi:PI X tg iter wi)
 (hg:∀ cl s H C fp,PG (X.comp N scope cl s H C fp) tg g) (hf:∀ cl s H C fp,PF (X.comp N scope cl s H C fp) ifs tf) (he:∀ cl s H C fp,PE (X.comp N scope cl s H C fp) elt te)
 (hs:∀ x,foldedSetIterable iter X.env x=pure x:=by intro _;rfl):PE X zy (Kb src wi g tf te):=by
 intro pins s σ H Q I h;rw[eval_ListComp];refine aad zk hs (Av<|S.cells I.ok) S.kind S.names<|cy (hi pins s σ H _ I h) λxv s1 h1=>cy h1 λII s2 h2=>?_;let#[it,fp,tn,J,H2,e,I2,T,vZ,f2,hW]:=h2;subst e;refine eV ?_;generalize hD:s2.heap.objs.size=D;have I3:Inv X pins σ (upd H2 D<|.lst []) { s2 with heap:=s2.heap.push { cls:=.type "list",dict:=ag,data:=.seq ([]).toArray } }:=by
  subst hD;show I2.laid (λb u e=>aN _ e) (aI _) #[cJ _,[],0,.nil,bE _ zk]
 let#[W,#[m0,w0],turn]:=hW D<|I2.aE.fresh<|xk hD;have up:∀ b o,s2.heap.get? b=ae o->(s2.heap.push { cls:=.type "list",dict:=ag,data:=.seq ([]).toArray }).get? b=ae o:=λb u e=>aN _ e;have vm:=T.keep _ _ _ vZ λb _ o e=>up b o e;have ED:∀ b∈fp,b<s2.heap.objs.size:=λb hb=>by let#[o,e,_]:=(T.obj _ _ vZ) b hb;show bh e
 have f3:∀ b∈fp,pU X pins (upd H2 D<|.lst []) b:=λb hb=>#[by rw[fC (by rw[<-hD];show bC (ED b hb))];show(f2 b hb).1,(f2 b hb).2];generalize Ym:({ s2 with heap:=s2.heap.push { cls:=.type "list",dict:=ag,data:=.seq ([]).toArray } })=s3 at I3 ⊢;have EE:s3.heap=s2.heap.push { cls:=.type "list",dict:=ag,data:=.seq ([]).toArray }:=by rw[<-Ym]
 rw[<-EE]at vm;have Yn:∀ b∈fp,b<s3.heap.objs.size:=λb hb=>by rw[EE,uj];show qf<|ED b hb
 generalize agO:upd H2 D (.lst [])=H3 at I3 f3 w0;refine Ax ?_;generalize EF:pushCells (s3.heap.push { cls:=.type "dict",data:=.dict #[] }) scope.names=h₁;have k1:∀ b o,s3.heap.get? b=ae o->h₁.get? b=ae o:=λb o e=>by rw[<-EF];show HE _ _ b o<|aN _ e
 have IY:=CO S I3 (λb hb=>#[f3 b hb,Yn b hb]) (by rw[EF]);have EG:=T.keep _ _ _ vm λb _ o e=>k1 b o e;generalize uB:cellsFrom (s3.heap.objs.size+1) scope.names (hO X.env.cells scope.names [])=cl at IY ⊢;generalize hC:s3.heap.objs.size=C at IY ⊢;have wc:∀ {H'},(∀ b∈fp,H' b=ag)->∀ b∈fp,pU (X.comp N scope cl s3 H3 C fp) [] H' b:=λhn b hb=>by
  refine#[hn b hb,((IY.ok.xT b hb).1),(IY.ok.xV b hb),.inl hb,?_,λp hp=>absurd (hp) zf]
  .intro x c e z;show(IY.ok.xT b hb).2 x c e z
 have fin:∀ (σ') (H') (s'),Inv (X.comp N scope cl s3 H3 C fp) [] σ' H' s'->∀ h',Heap.SameBut C s'.heap h'->Inv X pins σ H' { s' with heap:=h' }:=λσ' H' s' I' h' tO=>by
  have EH:H' C=ag:=I'.free;have kp:∀ b o,b≠C->s'.heap.get? b=ae o->h'.get? b=ae o:=λb o hb e=>tO.extBut b o hb e;have Yo:s3.heap.get? C=ag:=by rw[<-hC];show xC<|aI _
  have qT:∀ b o,s3.heap.get? b=ae o->b≠C:=λb o e z=>by rw[z,Yo]at e;cases e
  have U:=I'.base;refine I3.ab8 I'.os #[λb o e n hb hx=>kp b o (qT b o e)<|U.keep b o e n hb hx,λb o e n hb hx=>?_,U.free,λb o e hx=>?_,U.rW,U.qm,U.qP] ?_ I'.bare λb hb=>(#[(f3 b hb).2.2.2.1,(f3 b hb).2.1,λx c e=>(f3 b hb).2.2.2.2.1 x c e,(f3 b hb).2.2.2.2.2])
  .let#[sl,e1]:=U.slot b o e n hb hx;show#[sl,kp b _ (qT b o e) e1]
  .let#[o',e1]:=U.there b o e hx;show#[o',kp b o' (qT b o e) e1]
  .intro b ob e;refine(I'.aE b ob e).kY (λc w' dZ q=>kp c w' (λz=>?_) q) (λ_ q=>q) λ_ _ q=>q;rcases dZ with z1|z1
   .rw[<-z1,z,EH]at e;cases e
   .rw[z,EH]at z1;cases z1
 have loop:∀ s4:aq,s4={ s3 with heap:=h₁ } ->
  codeAny ze X.A (.compLoop zy 0 (.ref it) (.ref D)<|compEnvC scope cl C X.env) (compPost ze X.A X.xe ag (EP X pins σ Q) (.ref D) C) s4:=by
  rintro s4 rfl;refine mH (λn s'=>∃ i σ' H',Inv (X.comp N scope cl s3 H3 C fp) [] σ' H' s' /\ tn i s'.heap /\ (∀ b∈fp,H' b=ag) /\ W i n σ' H') _ (λ_ _ _ q=>q) ?_ m0 #[0,_,H3,IY,EG,λb hb=>(f3 b hb).1,w0];rintro n s5 ⟨i,σ5,H5,I5,uv,v3,w5⟩;have pF:∀ {α:Type}{t:Sem α}{Q1:α->aq->zw}{E1:aj->aq->zw}{ss:aq},wpAny ze X.A t Q1 (λ_ _=>False) ss->wpAny ze X.A t Q1 E1 ss:=λhw=>ny hw (λ_ _ q=>q) λ_ _ z=>False.elim z;rcases turn i n σ5 H5 w5 with⟨stop,q5⟩|⟨go,NN,hN,step⟩
  .refine pF<|cy (T.done (X.comp N scope cl s3 H3 C fp) zk zk zk hc i [] s5 σ5 H5 (λ_ _=>False) I5 (wc v3) uv stop) ?_;rintro r s6 ⟨hr,I6⟩;subst hr;let#[m6,Yp,_]:=I6.loc;show#[m6,Yp,λh' tO=>#[.ref D,H5,fin σ5 H5 s6 I6 h' tO,rfl,q5]]
  .refine pF<|cy (T.item (X.comp N scope cl s3 H3 C fp) zk zk zk hc i [] s5 σ5 H5 (λ_ _=>False) I5 (wc v3) uv go) ?_;rintro r s6 ⟨u,hr,h6⟩;subst hr;refine pF<|cy h6 ?_;rintro _ s7 ⟨x,H7,I7,r7,y7,wg,Yq⟩;refine pF<|cy (hg cl s3 H3 C fp _ s7 σ5 H7 x u _ (I7.pinned (wc Yq)<|T.obj _ _ wg) r7<|step x H7 y7) ?_;rintro _ s8 ⟨σ8,H8,I8,q8⟩;refine pF<|tT (hf cl s3 H3 C fp _ s8 σ8 H8 _ I8 q8) λb s9 H9 I9 q9=>?_;have again:∀ {σ9:St}{HA:Hp}{sA:aq},Inv (X.comp N scope cl s3 H3 C fp) ([]++xY fp s7.heap) σ9 HA sA->NN σ9 HA->∃ m,m<n /\ ∃ i σ' H',Inv (X.comp N scope cl s3 H3 C fp) [] σ' H' sA /\ tn i sA.heap /\ (∀ b∈fp,H' b=ag) /\ W i m σ' H':=λ{σ9 HA sA} IA nA=>by
    let#[m',hm,wA]:=hN σ9 HA nA;refine#[m',hm,i+1,σ9,HA,IA.Et,T.keep _ _ _ wg λb hb o e=>(IA.pin (b,o)<|nD _<|nD _<|iy hb e).1,λb hb=>?_,wA];let#[o,e,d]:=T.obj _ _ wg b hb;show(IA.pin (b,o)<|nD _<|nD _<|iy hb e).2.1
   cases b with
   |false=>
     rw[if_neg zh]at q9;rw[if_neg zh];show again I9 q9
   |true=>
     rw[if_pos rfl]at q9;rw[if_pos rfl];refine pF<|tE (he cl s3 H3 C fp _ s9 σ8 H9 _ I9 q9) λyv sA y HA IA rA hh=>?_;let#[ys,Yr,Ys,nA]:=hh;refine pF<|cy (mZ _ sA σ8 HA (.ref D) [y] (.ref D) [yv] (λ_ HB=>NN σ8 HB) IA zk (.cons rA .nil) #[D,ys,y,rfl,rfl,Yr,Ys,nA]) λr sB hB=>?_;let#[_,HB,IB,_,nB]:=hB;show again IB nB
 show aae (loop _ zk)<|T.self _ 0 _ _ _ EG<|loop _ zk
open PySem.W PySem.Builtin PySem.Builtin.ObjectAttr PySem.Builtin.Getset_descriptor
section
variable {x C:ai}
def acS (x C:ai) (h:aJ):zw:=∃ ox,h.get? x=ae ox /\ ox.cls=.ref C
theorem acS.type (I:acS x C h):Looks M h (typeOf<|.ref x) (.ref C):=by
 let#[ox,e,hc]:=I;show hc▸(Looks.ld e).andThen .now
structure akZ (K:Frag) (C:ai):zw where
 ga:findIn K (.ref C) "__getattribute__"=ae (ae<|.builtin "BaseException.__getattribute__")
 gt:findIn K (.ref C) "__getattr__"=ae ag
 cl:findIn K (.ref C) "__class__"=ae (ae<|.builtin "object.__class__")
 gs:specialIn K (.builtin "object.__class__") "__get__"=ae (ae<|.builtin "getset_descriptor.__get__")
 tk:takesIn K (.builtin "object.__class__")=ae ah
 mo:mroIn K C (.type "object")=ae ah
 mb:mroIn K C (.type "BaseException")=ae ah
 cd:(clsIn K C).isSome=ah
end
def agP (B:aJ) (l:List Env) (ea:ai) (cls a0:aj) (h:aJ):zw:=
 Heap.FlyingW B l ea cls a0 h \/ (B.StaysIn h /\ B.get? ea=ag /\ h.FunFrames B l /\
  h.get? ea=ae { cls:=cls,data:=.fields (List.toArray [a0,.none,.none,.none,.bool af,.none]) })
section
variable {s:aq} {B:aJ} {env:Env} {outer:List Env} {L ea:ai} {cls a0:aj} {Q:Unit -> aq -> zw}
end
def tQ (P:dE) (w:bY):qV:=λouter H s E e s'=>∃ (ea C:ai) (a0:aj) (B:aJ) (H':Hp),
 e=.ref ea /\ s'.os=s.os /\ AllBare s'.gens /\ Un (qo outer) [] H H' s.heap s'.heap /\ cW P w H' s'.heap /\ agP B outer ea (.ref C) a0 s'.heap /\
 (∀ b u o,H' b=ae u->s'.heap.get? b=ae o->B.get? b=ae o) /\ (∀ b o,s.heap.get? b=ae o->b∉qo outer->∃ o',B.get? b=ae o') /\ E (.ref C) ag H'
section
variable {k:Nat} {f C:ai} {ps:List Str} {sp:Sp} {v8:List V} {ds:List aj} {E:XK} {m:Str} {p:aG} {o:au} {ta:TE} {t:TA}
inductive acT (K:Frag) (H:Hp):V->aj->zw where
 |of {x:V}{t:aj}(h:pW K H x t):acT K H x t
noncomputable def agQ:V->aj->zw
 |.ref a,c=>c=.ref a
 |.ty n,c=>c=.type n
 |_,_=>False
def agR (K:Frag):List V->Hp->VK->zw:=λvs H Q=>∃ x c t cv b,vs=[x,c] /\ acT K H x t /\ agQ c cv /\ kitOne K t cv=ae b /\ Q (.bl b) H
theorem G6:hG X (.builtin "isinstance") (agR X.K):=by
 intro pins s σ H xs us Q I rv h;let#[x,c,t,cv,b,rfl,ty,hc,e,q]:=h;cases rv with
 |cons r1 r2=>
   cases r2 with
   |cons r3 r4=>
     cases r4;ext u1 u2;have ec:u2=cv:=by
      cases c with
      |ref a=>show(r3).trans (hc).symm
      |ty n=>show(r3).trans (hc).symm
      |_=>show hc.elim
     subst ec;cases ty with
     |of ty=>show G0 I r1 ty e λtk=>#[.bl b,H,I.tok tk,rfl,q]
end
end L2
namespace L2.DL
inductive D where
 |aC|bl (b:Bool)|int (i:Int)|str (x:Str)|tup (l:List D)|lst (l:List D)|aB (l:List<|Key×D)
inductive W where
 |d (x:D)|b (n:Nat)|s (l:List Int)|x (i:Nat)|t (l:List Nat)|m (l:List<|Str×Nat)
inductive Bx where
 |lst (l:List D)|aB (l:List<|Key×D)|dead|dT (l:List<|List Key×D)|fD (l:List<|Key×D)
 /-- a code afT table: where,the ak0 place,its name -/
 |tb (P:ai) (pos:aG) (q:Str)
mutual
noncomputable def Den (F:Hp):D->V->zw
 |.aC,v=>v=.aC
 |.bl b,v=>v=.bl b
 |.int i,v=>v=.int i
 |.str x,v=>v=.str x
 |.tup l,v=>∃ a vs,v=.ref a /\ F a=ae (.tup vs) /\ aH F l vs
 |.lst l,v=>∃ a vs,v=.ref a /\ F a=ae (.lst vs) /\ aH F l vs
 |.aB l,v=>∃ a ao,v=.ref a /\ F a=ae (.dK ao) /\ aR F l ao
noncomputable def aH (F:Hp):List D->List V->zw
 |[],vs=>vs=[]
 |d::l,vs=>∃ v r,vs=v::r /\ Den F d v /\ aH F l r
noncomputable def aR (F:Hp):List (Key×D)->List (Key×V)->zw
 |[],r=>r=[]
 |(k,d)::l,r=>∃ v r',r=(k,v)::r' /\ Den F d v /\ aR F l r'
end
def Sub (F F':Hp):zw:=∀ a u,F a=ae u->F' a=ae u
theorem Sub.refl (F:Hp):Sub F F:=λ_ _ h=>h
theorem Sub.trans {G:Hp}(a:Sub F G) (b:Sub G H):Sub F H:=λx u h=>b x u<|a x u h
def yh (F F':Hp):zw:=∀ a u,(∀ o v,u≠.bP o v)->F a=ae u->F' a=ae u
theorem Sub.d (s:Sub F F'):yh F F':=λa u _ h=>s a u h
mutual
theorem Den.eF {F F':Hp}(s:yh F F'):∀ (d:D) {v:V},Den F d v->Den F' d v
 |.aC,_,h=>h
 |.bl _,_,h=>h
 |.int _,_,h=>h
 |.str _,_,h=>h
 | .tup l,_,h=>by
   let#[a,vs,e,h1,h2]:=h;show#[a,vs,e,s _ _ (λ_ _ z=>nomatch z) h1,aH.eF s l h2]
 | .lst l,_,h=>by
   let#[a,vs,e,h1,h2]:=h;show#[a,vs,e,s _ _ (λ_ _ z=>nomatch z) h1,aH.eF s l h2]
 | .aB l,_,h=>by
   let#[a,vs,e,h1,h2]:=h;show#[a,vs,e,s _ _ (λ_ _ z=>nomatch z) h1,aR.eF s l h2]
theorem aH.eF {F F':Hp}(s:yh F F'):∀ (l:List D) {vs:List V},aH F l vs->aH F' l vs
 |[],_,h=>h
 | d::l,_,h=>by
   let#[v,r,e,h1,h2]:=h;show#[v,r,e,Den.eF s d h1,aH.eF s l h2]
theorem aR.eF {F F':Hp}(s:yh F F'):∀ (l:List<|Key×D) {vs:List (Key×V)},aR F l vs->aR F' l vs
 |[],_,h=>h
 | (k,d)::l,_,h=>by
   let#[v,r,e,h1,h2]:=h;show#[v,r,e,Den.eF s d h1,aR.eF s l h2]
end
theorem Den.mono (s:Sub F F') (d:D) (h:Den F d v):Den F' d v:=Den.eF s.d d h
theorem aH.mono (s:Sub F F') (l:List D) {vs:List V}(h:aH F l vs):aH F' l vs:=aH.eF s.d l h
theorem aR.mono (s:Sub F F') (l:List<|Key×D) {vs:List (Key×V)}(h:aR F l vs):aR F' l vs:=aR.eF s.d l h
theorem aH.length {F:Hp}:∀ {l:List D}{vs:List V},aH F l vs->l.length=vs.length
 | [],_,h=>by
   rw[h];rfl
 | d::l,_,h=>by
   let#[v,r,e,_,h2]:=h;rw[e,bN,bN,h2.length]
theorem aH.get {F:Hp}:∀ {l:List D}{vs:List V}{i:Nat}{d:D},aH F l vs->l[i]?=ae d->∃ v,vs[i]?=ae v /\ Den F d v
 |[],_,_,_,_,e=>by simp at e
 | x::l,_,0,d,h,e=>by
   let#[v,r,q,h1,_]:=h;simp at e;subst e;subst q;show#[v,rfl,h1]
 | x::l,_,i+1,d,h,e=>by
   let#[v,r,q,_,h2]:=h;subst q;let#[u,e1,e2]:=aH.get h2 (by simpa using e);show#[u,by simpa using e1,e2]
theorem aH.nil:aH F [] []:=rfl
theorem aH.cons {F:Hp}{d:D}{v:V}{l:List D}{vs:List V}(h:Den F d v) (t:aH F l vs):aH F (d::l) (v::vs):=#[v,vs,rfl,h,t]
theorem aH.append {F:Hp}:∀ {l l':List D}{vs yi:List V},aH F l vs->aH F l' yi->aH F (l++l') (vs++yi)
 | [],_,_,_,h,t=>by
   rw[h];show t
 | d::l,_,_,_,h,t=>by
   let#[v,r,q,h1,h2]:=h;subst q;show .cons h1<|h2.append t
theorem aH.take {F:Hp}:∀ {l:List D}{vs:List V}(n:Nat),aH F l vs->aH F (l.take n) (vs.take n)
 |l,_,0,_=>by rfl
 | [],_,n+1,h=>by
   rw[h];show rfl
 | d::l,_,n+1,h=>by
   let#[v,r,q,h1,h2]:=h;subst q;show .cons h1<|h2.take n
theorem aH.drop {F:Hp}:∀ {l:List D}{vs:List V}(n:Nat),aH F l vs->aH F (l.drop n) (vs.drop n)
 |l,_,0,h=>h
 | [],_,n+1,h=>by
   rw[h];show rfl
 | d::l,_,n+1,h=>by
   let#[v,r,q,h1,h2]:=h;subst q;show h2.drop n
theorem aH.reverse {F:Hp}:∀ {l:List D}{vs:List V},aH F l vs->aH F l.reverse vs.reverse
 | [],_,h=>by
   rw[h];show rfl
 | d::l,_,h=>by
   let#[v,r,q,h1,h2]:=h;subst q;rw[HQ,HQ];show h2.reverse.append<|.cons h1 .nil
theorem aH.set {F:Hp}{d:D}{v:V}(hd:Den F d v):∀ {l:List D}{vs:List V}(i:Nat),aH F l vs->aH F (l.set i d) (vs.set i v)
 | [],_,_,h=>by
   rw[h];show rfl
 | _::l,_,0,h=>by
   let#[v',r,q,h1,h2]:=h;subst q;show .cons hd h2
 | _::l,_,i+1,h=>by
   let#[v',r,q,h1,h2]:=h;subst q;show .cons h1<|aH.set hd i h2
structure Fr where
 H₀:Hp
 n₀:Nat
 F₀:Hp
noncomputable def yj (r:List ai):List Nat->List ai->zw
 |[],as=>as=[]
 |n::l,as=>∃ a t,as=a::t /\ r[n]?=ae a /\ yj r l t
theorem yj.mono {r r':List ai}(p:r <+: r'):∀ {l:List Nat}{as:List ai},yj r l as->yj r' l as
 |[],_,h=>h
 | n::l,_,h=>by
   let#[a,t,e,h1,h2]:=h;refine#[a,t,e,?_,h2.mono p];let#[u,rfl]:=p;rw[kX (List.getElem?_eq_some_iff.mp h1).1];show h1
def bQ (F:Hp):List (List Key×D)->List (List Key×V)->zw
 |[],r=>r=[]
 |(k,d)::l,r=>∃ v r',r=(k,v)::r' /\ Den F d v /\ bQ F l r'
theorem bQ.eF {F F':Hp}(s:yh F F'):∀ (l:List<|List Key×D) {vs:List (List Key×V)},bQ F l vs->bQ F' l vs
 |[],_,h=>h
 | (k,d)::l,_,h=>by
   let#[v,r,e,h1,h2]:=h;show#[v,r,e,Den.eF s d h1,bQ.eF s l h2]
theorem bQ.mono (s:Sub F F') (l:List<|List Key×D) {vs:List (List Key×V)}(h:bQ F l vs):bQ F' l vs:=bQ.eF s.d l h
def cb (F:Hp) (Yt:List ai):W->V->zw
 |.d x,v=>Den F x v
 |.b n,v=>∃ a,v=.ref a /\ Yt[n]?=ae a
 |.s l,v=>∃ a o,v=.ref a /\ F a=ae (.bP o<|.lst<|l.map V.int)
 |.x _,_=>False
 |.t l,v=>∃ c as,v=.ref c /\ F c=ae (.tup<|as.map V.ref) /\ yj Yt l as
 |.m l,v=>∃ c as,v=.ref c /\ F c=ae (.dK<|List.zipWith (λk a=>(.inr k.1,V.ref a)) l as) /\ yj Yt (l.map (·.2)) as
theorem cb.mono {F F':Hp}{r r':List ai}(s:Sub F F') (p:r <+: r'):∀ (w:W) {v:V},cb F r w v->cb F' r' w v
 |.d x,_,h=>Den.mono s x h
 | .b n,_,h=>by
   let#[a,e,h]:=h;refine#[a,e,?_];let#[t,rfl]:=p;rw[kX (List.getElem?_eq_some_iff.mp h).1];show h
 |.s l,_,h=>let ⟨a,o,e,h⟩:=h;#[a,o,e,s _ _ h]
 |.x _,_,h=>h
 |.t l,_,h=>let ⟨c,as,e,h1,h2⟩:=h;#[c,as,e,s _ _ h1,h2.mono p]
 |.m l,_,h=>let ⟨c,as,e,h1,h2⟩:=h;#[c,as,e,s _ _ h1,h2.mono p]
noncomputable def wj (c:ai) (q:Str):HO:=.ext λh=>h.CodeRec (.ref c) q
def uC (F H:Hp) (a:ai):Bx->zw
 |.lst l=>F a=ag /\ ∃ vs,H a=ae (.lst vs) /\ aH F l vs
 |.aB l=>F a=ag /\ ∃ ao,H a=ae (.dK ao) /\ aR F l ao
 |.dead=>∃ u,H a=ae u
 |.dT l=>F a=ag /\ ∃ ao,H a=ae (.dT ao) /\ bQ F l ao
 |.fD l=>∃ o ao,F a=ae (.bP o<|.dK ao) /\ H a=ae (.bP o<|.dK ao) /\ aR F l ao
 |.tb P pos q=>a=P /\ F a=ag /\ ∃ ps,H a=ae (.eY ps) /\ TriplesOk ps.toList /\ ∀ cv,codeAmong pos ps.toList=ae cv->∃ c',cv=.ref c' /\ F c'=ae (wj c' q)
noncomputable abbrev bf:=List<|Option W
noncomputable abbrev xB (n:Nat):Option W:=ae<|.b n
noncomputable abbrev xN (i:Int):Option W:=ae<|.d<|.int i
noncomputable abbrev xJ (l:List Int):Option W:=ae<|.d<|.lst<|l.map D.int
structure Rel (T:Fr) (F:Hp) (r:List ai) (σ:St) (H:Hp) (env:bf) (bx:List Bx):zw where
 fh:Sub F H
 slot:∀ (i:Nat) (w:W),env[i]?=ae (ae w)->∃ v,σ[i]?=ae (ae v) /\ cb F r w v
 len:r.length=bx.length
 nd:r.Nodup
 box:∀ (n:Nat) (c:Bx) (a:ai),bx[n]?=ae c->r[n]?=ae a->uC F H a c
 keep:∀ a u,T.H₀ a=ae u->a∉r->H a=ae u
 new:∀ (n:Nat) (a:ai),T.n₀<=n->r[n]?=ae a->T.H₀ a=ag
 n0:T.n₀<=r.length
 sl:env.length<=σ.length
 fs:∀ a u,F a=ae u->(∃ vs,u=.tup vs) \/ T.F₀ a=ae u \/ T.H₀ a=ag \/ a∈r
structure bL (F:Hp) (r:List ai) (F':Hp) (r':List ai):zw where
 s:Sub F F'
 p:r <+: r'
theorem bL.refl (F:Hp) (r:List ai):bL F r F r:=#[Sub.refl F,sO r]
theorem bL.trans {F F' acU:Hp}{r r' acV:List ai}(a:bL F r F' r') (b:bL F' r' acU acV):bL F r acU acV:=#[a.s.trans b.s,a.p.trans b.p]
theorem bL.den {r':List ai}(g:bL F r F' r') {w:W}(h:cb F r w v):cb F' r' w v:=h.mono g.s g.p w
inductive O (α:Type) where
 |val (a:α) (bx:List Bx)|exc (c:Nat) (bx:List Bx)|bad
abbrev DE (α:Type):=bf->List Bx->O α
noncomputable def fA {β:Type}(m:O α) (k:α->List Bx->O β):O β:=
 match m with
 |.val a bx=>k a bx
 |.exc c bx=>.exc c bx
 |.bad=>.bad
structure Xs where
 E:XK
 cl:Nat->ai
noncomputable def End {β:Type}(T:Fr) (Z:Xs) (Rl:Hp->List ai->α->β->zw) (F:Hp) (r:List ai) (σ:St) (env:bf) (Q:β->Hp->zw):O α->zw
 |.val d bx'=>∀ F' r' v H',bL F r F' r'->Rel T F' r' σ H' env bx'->Rl F' r' d v->Q v H'
 |.exc c bx'=>∀ F' r' H',bL F r F' r'->Rel T F' r' [] H' [] bx'->Z.E (.ref<|Z.cl c) ag H'
 |.bad=>False
theorem End.weak {β:Type}{T:Fr}{Z:Xs}{Rl:Hp->List ai->α->β->zw}{r':List ai}{env:bf}{Q:β->Hp->zw}(g:bL F r F' r'):∀ {o:O α},End T Z Rl F r σ env Q o->End T Z Rl F' r' σ env Q o
 |.val _ _,h=>λF2 r2 v H2 g2=>h F2 r2 v H2<|g.trans g2
 |.exc _ _,h=>λF2 r2 H2 g2=>h F2 r2 H2<|g.trans g2
 |.bad,h=>h
theorem End.bind {β α' β':Type}{T:Fr}{Z:Xs}{R1:Hp->List ai->α->β->zw}{R2:Hp->List ai->α'->β'->zw}{env:bf}{Q:β'->Hp->zw}{Q1:β->Hp->zw}
 {m:O α}{k:α->List Bx->O α'}(h:End T Z R2 F r σ env Q<|fA m k)
 (c:∀ d bx1 F1 r1 v H1,bL F r F1 r1->Rel T F1 r1 σ H1 env bx1->R1 F1 r1 d v->End T Z R2 F1 r1 σ env Q (k d bx1)->Q1 v H1):End T Z R1 F r σ env Q1 m:=by
 cases m with
 |val d bx=>show λF' r' v H' g R q=>c d bx F' r' v H' g R q<|End.weak g h
 |exc n bx=>show h
 |bad=>show h
theorem Rel.drop {T:Fr}{env:bf}{bx:List Bx}(R:Rel T F r σ H env bx):Rel T F r [] H [] bx:=
 #[R.fh,λi w e=>by simp at e,R.len,R.nd,R.box,R.keep,R.new,R.n0,aI _,R.fs]
def tD (T:Fr) (Z:Xs) (m:DE W):TE:=λσ H Q=>∃ F r env bx,Rel T F r σ H env bx /\ End T Z cb F r σ env Q (m env bx)
def PD (X:Cx) (T:Fr) (Z:Xs) (e:au) (m:DE W):zw:=PE X e<|tD T Z m
abbrev agS:Hp->List ai->Bool->Bool->zw:=λ_ _ a b=>a=b
def tR (T:Fr) (Z:Xs) (m:DE Bool):TT:=λσ H Q=>∃ F r env bx,Rel T F r σ H env bx /\ End T Z agS F r σ env Q (m env bx)
def eG (X:Cx) (T:Fr) (Z:Xs) (e:au) (m:DE Bool):zw:=PT X e<|tR T Z m
def nJ (F:Hp) (r:List ai):List W->List V->zw
 |[],vs=>vs=[]
 |w::l,vs=>∃ v t,vs=v::t /\ cb F r w v /\ nJ F r l t
theorem nJ.mono {F F':Hp}{r r':List ai}(g:bL F r F' r'):∀ {l:List W}{vs:List V},nJ F r l vs->nJ F' r' l vs
 |[],_,h=>h
 | w::l,_,h=>by
   let#[v,t,e,h1,h2]:=h;show#[v,t,e,g.den h1,h2.mono g]
def Kf (T:Fr) (Z:Xs) (m:DE<|List W):TA:=λσ H Q=>∃ F r env bx,Rel T F r σ H env bx /\ End T Z nJ F r σ env Q (m env bx)
def ez (X:Cx) (T:Fr) (Z:Xs) (es:List au) (m:DE<|List W):zw:=PA X es<|Kf T Z m
theorem x4 {T:Fr}{B:Hp->List ai->bf->List Bx->zw}{G:zw}(k:∀ F r env bx,Rel T F r σ H env bx->B F r env bx->G):(∃ F r env bx,Rel T F r σ H env bx /\ B F r env bx)->G:=λ⟨F,r,env,bx,R,h⟩=>k F r env bx R h
theorem x5 {δ:Type}{T:Fr}{C:Hp->List ai->δ->zw}{B:Hp->List ai->bf->List Bx->δ->zw}{G:zw}(k:∀ F r env bx w,Rel T F r σ H env bx->C F r w->B F r env bx w->G):(∃ F r env bx w,Rel T F r σ H env bx /\ C F r w /\ B F r env bx w)->G:=λ⟨F,r,env,bx,w,R,d,h⟩=>k F r env bx w R d h
theorem PE.imp {t t':TE}(h:PE X e t) (f:∀ σ H Q,t' σ H Q->t σ H Q):PE X e t':=λpins s σ H Q I q=>h pins s σ H Q I<|f σ H Q q
theorem PT.imp {t t':TT}(h:PT X e t) (f:∀ σ H Q,t' σ H Q->t σ H Q):PT X e t':=λpins s σ H Q I q=>h pins s σ H Q I<|f σ H Q q
theorem PW.imp {t t':TT}(h:PW X e t) (f:∀ σ H Q,t' σ H Q->t σ H Q):PW X e t':=λwhole pins s σ H Q I q=>h whole pins s σ H Q I<|f σ H Q q
theorem PA.imp {e:List au}{t t':TA}(h:PA X e t) (f:∀ σ H Q,t' σ H Q->t σ H Q):PA X e t':=λpos pins s σ H Q I q=>h pos pins s σ H Q I<|f σ H Q q
theorem PS.imp {e:cz}{t t':TS}(h:PS X e t) (f:∀ Q σ H,t' Q σ H->t Q σ H):PS X e t':=λpins s σ H Q I q=>h pins s σ H Q I<|f Q σ H q
theorem kZ.imp {e:List cz}{t t':TS}(h:kZ X e t) (f:∀ Q σ H,t' Q σ H->t Q σ H):kZ X e t':=λpins s σ H Q I q=>h pins s σ H Q I<|f Q σ H q
section
variable {T:Fr} {Z:Xs} {a b c:au} {ma mb mc:DE W} 
noncomputable def dV (i:Nat):DE W:=λenv bx=>match env[i]? with|some (ae w)=>.val w bx|_=>.bad
theorem Ln (i:Nat) (hN:X.N[i]?=ae x:=by rfl) (hv:xS X.env.scope x:=by first|show Or.inl zk|show Or.inr (Or.inl zk)|show Or.inr (Or.inr zk)) (hd:(x==("__debug__":Str))=af:=by decide)
 (pD:(x==("__classdict__":Str))=af:=by decide):PD X T Z (.Name x pos) (dV i):=by
 refine PE.imp (J4 hN hv hd pD) λσ H Q=>x4 λF r env bx R h=>?_;unfold dV at h;split at h
 .ext w e;let#[v,e1,e2]:=R.slot i w e;show#[v,e1,h F r v H (.refl F r) R e2]
 .show h.elim
noncomputable def dC (d:D):DE W:=λ_ bx=>.val (.d d) bx
theorem CP {d:D}(h:PE X e<|tC v) (hd:∀ F,Den F d v):PD X T Z e (dC d):=
 PE.imp h λσ H Q=>x4 λF r env bx R h=>h F r v H (.refl F r) R<|hd F
theorem S7 {i:Int}{j}:PD X T Z (.Constant (.int i) j pos) (dC<|.int i):=CP J5 λ_=>rfl
theorem Vx {i:Bool}{j}:PD X T Z (.Constant (.bool i) j pos) (dC<|.bl i):=CP Vm λ_=>rfl
theorem S8 {j}:PD X T Z (.Constant .none j pos) (dC .aC):=CP Sr λ_=>rfl
theorem S9 {j}:PD X T Z (.Constant (.str x) j pos) (dC<|.str x):=CP Ss λ_=>rfl
noncomputable def fj:DE (List W):=λ_ bx=>.val [] bx
def ff (m:DE W) (k:DE<|List W):DE (List W):=λenv bx=>fA (m env bx) λw bx1=>fA (k env bx1) λl bx2=>.val (w::l) bx2
theorem jI:ez X T Z [] fj:=PA.imp lW λσ H Q=>x4 λF r env bx R h=>h F r [] H (.refl F r) R zk
theorem Lo {k:DE (List W)}(ha:PD X T Z e ma) (hr:ez X T Z es k) (hs:starEach (e::es) X.env=(af,eval e X.env)::starEach es X.env:=by rfl):ez X T Z (e::es) (ff ma k):=by
 refine PA.imp (ji ha hr hs) λσ H Q=>x4 λF r env bx R h=>?_;show#[F,r,env,bx,R,End.bind h λw bx1 F1 r1 v H1 g1 R1 d1 h1=>(#[F1,r1,env,bx1,R1,End.bind h1 λl bx2 F2 r2 vs H2 g2 R2 d2 h2=>(h2 F2 r2 _ H2 (.refl F2 r2) R2 #[v,vs,rfl,g2.den d1,d2])])]
end
end L2.DL
variable {te m ma mb mc:L2.DL.DE L2.DL.W}{ks rs:List L2.DL.D}{T:L2.DL.Fr}{env:L2.DL.bf}{tf:L2.DL.DE Bool}{B bx bx1:List L2.DL.Bx}{Z:L2.DL.Xs}{fn:List L2.DL.W -> List L2.DL.Bx -> L2.DL.O L2.DL.W}{mi:L2.DL.DE (List L2.DL.W)}{hd:L2.DL.D}{dr:List (List L2.Key × L2.DL.D)}
namespace L2.DL
theorem lF {o:HO}(h:F p=ag):Sub F (upd F p o):=λa u e=>by rw[fC<|gm e h];show e
theorem Rel.yk (R:Rel T F r σ H env bx) (h:H p=ag):F p=ag:=by
 cases e:F p with
 |none=>rfl
 |some u=>rw[R.fh p u e]at h;cases h
theorem uC.there:∀ {c:Bx},uC F H a c->∃ u,H a=ae u
 |.lst _,h=>let ⟨_,vs,e,_⟩:=h;#[_,e]
 |.aB _,h=>let ⟨_,vs,e,_⟩:=h;#[_,e]
 |.dead,h=>h
 |.dT _,h=>let ⟨_,vs,e,_⟩:=h;#[_,e]
 |.fD _,h=>let ⟨_,_,_,e,_⟩:=h;#[_,e]
 |.tb _ _ _,h=>let ⟨_,_,_,e,_⟩:=h;#[_,e]
theorem Rel.k6 (R:Rel T F r σ H env bx) (e:r[n]?=ae a):∃ c,bx[n]?=ae c /\ uC F H a c:=by
 have h:=(List.getElem?_eq_some_iff.mp e).1;rw[R.len]at h;show#[_,dj h,R.box n _ a (dj h) e]
theorem Rel.EI (R:Rel T F r σ H env bx) (h:H p=ag):p∉r:=λhp=>by
 let#[n,e]:=List.mem_iff_getElem?.mp hp;let#[c,_,k]:=R.k6 e;let#[u,k]:=k.there;rw[h]at k;cases k
theorem uC.grow (s:Sub F F') (hf:F a=ag->F' a=ag) (hh:∀ u,H a=ae u->H' a=ae u):∀ {c:Bx},uC F H a c->uC F' H' a c
 |.lst _,h=>let ⟨h1,vs,h2,h3⟩:=h;#[hf h1,vs,hh _ h2,aH.mono s _ h3]
 |.aB _,h=>let ⟨h1,vs,h2,h3⟩:=h;#[hf h1,vs,hh _ h2,aR.mono s _ h3]
 |.dead,h=>let ⟨u,h⟩:=h;#[u,hh u h]
 |.dT _,h=>let ⟨h1,vs,h2,h3⟩:=h;#[hf h1,vs,hh _ h2,bQ.mono s _ h3]
 |.fD _,h=>let ⟨o,vs,h1,h2,h3⟩:=h;#[o,vs,s _ _ h1,hh _ h2,aR.mono s _ h3]
 |.tb _ _ _,h=>let ⟨h0,h1,ps,h2,h3,h4⟩:=h;#[h0,hf h1,ps,hh _ h2,h3,λcv e=>let ⟨c,e1,e2⟩:=h4 cv e;#[c,e1,s _ _ e2]]
theorem Rel.wm (R:Rel T F r σ H env bx) {o:HO}(h:H p=ag):Rel T (upd F p o) r σ (upd H p o) env bx:=by
 have s:=lF (o:=o)<|R.yk h;refine#[λa u e=>?_,λi w e=>?_,R.len,R.nd,λn c a e1 e2=>?_,λa u e hn=>?_,R.new,R.n0,R.sl,λa u e=>?_]
 .by_cases ha:a=p
  .subst ha;rw[fF]at e ⊢;show e
  .rw[fC ha]at e ⊢;show R.fh a u e
 .let#[v,e1,e2]:=R.slot i w e;show#[v,e1,e2.mono s<|sO r]
 .have k:=R.box n c a e1 e2;let#[u,hu]:=k.there;have ha:=gm hu h;show k.grow s (λz=>by rw[fC ha];show z) (λu z=>by rw[fC ha];show z)
 .have k:=R.keep a u e hn;rw[fC<|gm k h];show k
 .by_cases ha:a=p
  .subst ha;refine .inr<|.inr<|.inl ?_;cases q:T.H₀ a with
   |none=>rfl
   |some u=>rw[R.keep a u q<|R.EI h]at h;cases h
  .rw[fC ha]at e;show R.fs a u e
theorem Rel.tU (R:Rel T F r σ H env bx) {o:HO}(h:H p=ag):bL F r (upd F p o) r:=#[lF<|R.yk h,sO r]
theorem Rel.Yu (R:Rel T F r σ H env bx) {o:HO}{c:Bx}(h:H p=ag) (hc:uC F (upd H p o) p c):Rel T F (r++[p]) σ (upd H p o) env (bx++[c]):=by
 have hs:∀ a u,H a=ae u->upd H p o a=ae u:=λa u e=>by rw[fC<|gm e h];show e
 refine#[λa u e=>hs a u<|R.fh a u e,λi w e=>?_,by rw[cB,cB,R.len];rfl,?_,λn c' a e1 e2=>?_,λa u e hn=>(hs a u<|R.keep a u e λz=>hn<|qM _ z),λn a hn e=>?_,by rw[cB];show cT R.n0 (xl _ _),R.sl,λa u e=>(R.fs a u e).imp id<|Or.imp id<|Or.imp id λz=>qM _ z]
 .let#[v,e1,e2]:=R.slot i w e;show#[v,e1,e2.mono (Sub.refl F)<|y0 r [p]]
 .rw[pw];refine#[R.nd,by simp,λa ha b hb=>?_];rw[c8]at hb;subst hb;show λz=>R.EI h<|z▸ha
 .by_cases hn:n<r.length
  .rw[kX hn]at e2;rw[kX (by rw[<-R.len];show hn)]at e1;show(R.box n c' a e1 e2).grow (Sub.refl F) id (hs a)
  .rw[pS za]at e2;rw[pS (by rw[<-R.len];lia)]at e1;have hl:n-r.length=0:=by
    cases q:n-r.length with
    |zero=>rfl
    |succ k=>rw[q]at e2;simp at e2
   have hV:n-bx.length=0:=by rw[<-R.len];show hl
   rw[hl]at e2;rw[hV]at e1;simp at e1 e2;subst e1 e2;show hc
 .by_cases hl:n<r.length
  .rw[kX hl]at e;show R.new n a hn e
  .have hp:a=p:=by
    rw[pS za]at e;cases q:n-r.length with
    |zero=>rw[q]at e;simp at e;show e.symm
    |succ k=>rw[q]at e;simp at e
   subst hp;cases q:T.H₀ a with
   |none=>rfl
   |some u=>rw[R.keep a u q<|R.EI h]at h;cases h
theorem j9 {l:List α}(h:l.Nodup) {i:Nat}{x:α}(a:l[i]?=ae x) (b:l[j]?=ae x):i=j:=(List.getElem?_inj (List.getElem?_eq_some_iff.mp a).1 h).mp<|a.trans b.symm
theorem Rel.write (R:Rel T F r σ H env bx) {o:HO}{c:Bx}(e:r[n]?=ae a) (hF:F a=ag) (hc:uC F (upd H a o) a c):Rel T F r σ (upd H a o) env (bx.set n c):=by
 refine#[λb u q=>?_,R.slot,by rw[ug];show R.len,R.nd,λm c' b e1 e2=>?_,λb u q hn=>?_,R.new,R.n0,R.sl,R.fs]
 .by_cases hb:b=a
  .subst hb;rw[hF]at q;cases q
  .rw[fC hb];show R.fh b u q
 .by_cases hm:m=n
  .subst hm;rw[e]at e2;cases e2;rw[rR (by rw[<-R.len];show(List.getElem?_eq_some_iff.mp e).1)]at e1;cases e1;show hc
  .rw[sN<|Ne.symm hm]at e1;have hb:b≠a:=λz=>hm<|j9 R.nd e2<|z▸e;show(R.box m c' b e1 e2).grow (Sub.refl F) id λu z=>by rw[fC hb];show z
 .rw[fC λz=>hn (by rw[z];show(List.mem_iff_getElem?.mpr #[n,e]))];show R.keep b u q hn
theorem Rel.freeze (R:Rel T F r σ H env bx) {o:HO}(e:r[n]?=ae a) (hF:F a=ag) (hH:H a=ae o):Rel T (upd F a o) r σ H env (bx.set n .dead) /\ bL F r (upd F a o) r:=by
 have s:=lF (o:=o) hF;refine#[#[λb u q=>?_,λi w q=>?_,by rw[ug];show R.len,R.nd,λm c' b e1 e2=>?_,R.keep,R.new,R.n0,R.sl,λb u q=>?_],s,sO r]
 .by_cases hb:b=a
  .subst hb;rw[fF]at q;cases q;show hH
  .rw[fC hb]at q;show R.fh b u q
 .let#[v,e1,e2]:=R.slot i w q;show#[v,e1,e2.mono s<|sO r]
 .by_cases hm:m=n
  .subst hm;rw[e]at e2;cases e2;rw[rR (by rw[<-R.len];show(List.getElem?_eq_some_iff.mp e).1)]at e1;cases e1;show#[_,hH]
  .rw[sN<|Ne.symm hm]at e1;have hb:b≠a:=λz=>hm<|j9 R.nd e2<|z▸e;show(R.box m c' b e1 e2).grow s (λz=>by rw[fC hb];show z) λu z=>z
 .by_cases hb:b=a
  .subst hb;show .inr<|.inr<|.inr<|List.mem_iff_getElem?.mpr #[n,e]
  .rw[fC hb]at q;show R.fs b u q
def qt (F H:Hp):D->V->zw
 |.lst l,v=>∃ a vs,v=.ref a /\ H a=ae (.lst vs) /\ aH F l vs
 |.aB l,v=>∃ a ao,v=.ref a /\ H a=ae (.dK ao) /\ aR F l ao
 |.tup l,v=>∃ a vs,v=.ref a /\ F a=ae (.tup vs) /\ aH F l vs
 |.aC,v=>v=.aC
 |.bl b,v=>v=.bl b
 |.int i,v=>v=.int i
 |.str x,v=>v=.str x
noncomputable def bR (bx:List Bx):W->Option D
 |.d x=>ae x
 | .b n=>match bx[n]? with
   |some (.lst l)=>ae<|.lst l
   |some (.aB l)=>ae<|.aB l
   |_=>ag
 |_=>ag
theorem Den.qY (s:Sub F H):∀ {d:D}{v:V},Den F d v->qt F H d v
 |.aC,_,h=>h
 |.bl _,_,h=>h
 |.int _,_,h=>h
 |.str _,_,h=>h
 |.tup l,_,h=>h
 |.lst l,_,h=>let ⟨a,vs,e,h1,h2⟩:=h;#[a,vs,e,s _ _ h1,h2]
 |.aB l,_,h=>let ⟨a,vs,e,h1,h2⟩:=h;#[a,vs,e,s _ _ h1,h2]
theorem Rel.qY (R:Rel T F r σ H env bx) {w:W}{v:V}{d:D}(h:cb F r w v) (e:bR bx w=ae d):qt F H d v:=by
 cases w with
 |d x=>
   cases e;show Den.qY R.fh h
 |b n=>
   let#[a,rfl,ha]:=h;let#[c,hc,k]:=R.k6 ha;simp[bR,hc]at e;cases c with
   |lst l=>cases e;let#[_,vs,k1,k2]:=k;show#[a,vs,rfl,k1,k2]
   |aB l=>cases e;let#[_,vs,k1,k2]:=k;show#[a,vs,rfl,k1,k2]
   |_=>cases e
 |s l=>cases e
 |x i=>show h.elim
 |_=>cases e
def Yv (F H:Hp):List D->List V->zw
 |[],vs=>vs=[]
 |d::l,vs=>∃ v t,vs=v::t /\ qt F H d v /\ Yv F H l t
def k7 (bx:List Bx):List W->Option (List D)
 |[]=>ae []
 |w::l=>(bR bx w).bind λd=>(k7 bx l).map λt=>d::t
theorem Rel.acW (R:Rel T F r σ H env bx):∀ {ws:List W}{vs:List V}{ds:List D},nJ F r ws vs->k7 bx ws=ae ds->Yv F H ds vs
 |[],_,_,h,e=>by cases e;show h
 | w::l,_,ds,h,e=>by
   let#[v,t,q,h1,h2]:=h;unfold k7 at e;cases e1:bR bx w with
   |none=>rw[e1]at e;cases e
   |some d=>
     rw[e1]at e;cases e2:k7 bx l with
     |none=>rw[e2]at e;cases e
     |some t'=>
       rw[e2]at e;cases e;show#[v,t,q,R.qY h1 e1,R.acW h2 e2]
inductive Res where
 |old (d:D)|tup (l:List D)|lst (l:List D)|aB (l:List<|Key×D)
noncomputable def Res.toD:Res->D
 |.old d=>d|.tup l=>.tup l|.lst l=>.lst l|.aB l=>.aB l
def wo (F H:Hp):Res->V->Hp->zw
 |.old d,v,H'=>H'=H /\ Den F d v
 |.tup l,v,H'=>(H'=H /\ Den F (.tup l) v) \/ ∃ p vs,v=.ref p /\ H p=ag /\ H'=upd H p (.tup vs) /\ aH F l vs
 |.lst l,v,H'=>∃ p vs,v=.ref p /\ H p=ag /\ H'=upd H p (.lst vs) /\ aH F l vs
 |.aB l,v,H'=>∃ p vs,v=.ref p /\ H p=ag /\ H'=upd H p (.dK vs) /\ aR F l vs
theorem Rel.res (R:Rel T F r σ H env bx):∀ {q:Res},wo F H q v H'->∃ F',bL F r F' r /\ Rel T F' r σ H' env bx /\ Den F' q.toD v
 | .old d,h=>by
   let#[rfl,h]:=h;show#[F,.refl F r,R,h]
 | .tup l,h=>by
   rcases h with⟨rfl,h⟩|⟨p,vs,rfl,hp,rfl,h⟩
   .show#[F,.refl F r,R,h]
   show#[_,R.tU hp,R.wm hp,p,vs,rfl,fF,aH.mono (R.tU hp).s l h]
 | .lst l,h=>by
   let#[p,vs,rfl,hp,rfl,h]:=h;show#[_,R.tU hp,R.wm hp,p,vs,rfl,fF,aH.mono (R.tU hp).s l h]
 | .aB l,h=>by
   let#[p,vs,rfl,hp,rfl,h]:=h;show#[_,R.tU hp,R.wm hp,p,vs,rfl,fF,aR.mono (R.tU hp).s l h]
theorem Rel.resB (R:Rel T F r σ H env bx) {l:List D}(h:wo F H (.lst l) v H'):∃ r',bL F r F r' /\ Rel T F r' σ H' env (bx++[.lst l]) /\ cb F r' (.b bx.length) v:=by
 let#[p,vs,rfl,hp,rfl,h]:=h;refine#[r++[p],#[Sub.refl F,y0 r [p]],R.Yu hp #[R.yk hp,vs,fF,h],p,rfl,?_];rw[<-R.len,pS<|aI _,vb];rfl
theorem Rel.agT (R:Rel T F r σ H env bx) {l:List (Key×D)}(h:wo F H (.aB l) v H'):∃ r',bL F r F r' /\ Rel T F r' σ H' env (bx++[.aB l]) /\ cb F r' (.b bx.length) v:=by
 let#[p,vs,rfl,hp,rfl,h]:=h;refine#[r++[p],#[Sub.refl F,y0 r [p]],R.Yu hp #[R.yk hp,vs,fF,h],p,rfl,?_];rw[<-R.len,pS<|aI _,vb];rfl
def ck (b:Bool):Option Res->List Bx->O W
 |none,_=>.bad
 | some q,bx=>match b,q with
   |true,.lst l=>.val (.b bx.length)<|bx++[.lst l]
   |true,.aB l=>.val (.b bx.length)<|bx++[.aB l]
   |_,_=>.val (.d q.toD) bx
theorem gR {Q:VK}{b:Bool}{q:Res}(R:Rel T F r σ H env bx) (h:End T Z cb F r σ env Q<|ck b (ae q) bx) (k:wo F H q v H'):Q v H':=by
 have one:End T Z cb F r σ env Q (.val (.d q.toD) bx)->Q v H':=λh=>by
  let#[F',g,R',d]:=R.res k;show h F' r v H' g R' d
 cases b with
 |false=>show one h
 |true=>
   cases q with
   |old d=>show one h
   |tup l=>show one h
   |lst l=>
     let#[r',g,R',d]:=R.resB k;show h F r' v H' g R' d
   |aB l=>
     let#[r',g,R',d]:=R.agT k;show h F r' v H' g R' d
def cA (q:R2) (g:D->D->Option Res):zw:=∀ (F H:Hp) (x y:D) (v w:V) (Q:VK) (s:Res),Sub F H->qt F H x v->qt F H y w->g x y=ae s->(∀ u H',wo F H s u H'->Q u H')->q v w H Q
def k8 (q:List V->Hp->VK->zw) (g:List D->Option Res):zw:=∀ (F H:Hp) (xs:List D) (vs:List V) (Q:VK) (s:Res),Sub F H->Yv F H xs vs->g xs=ae s->(∀ u H',wo F H s u H'->Q u H')->q vs H Q
def d2 (b:Bool) (g:D->D->Option Res) (ma mb:DE W):DE W:=λenv bx=>fA (ma env bx) λx bx1=>fA (mb env bx1) λy bx2=>ck b ((bR bx2 x).bind λp=>(bR bx2 y).bind λq=>g p q) bx2
theorem FQ {q:R2}{g:D->D->Option Res}{b:Bool}(hg:cA q g) (σ:St) (H:Hp) (Q:VK) (h:tD T Z (d2 b g ma mb) σ H Q):Eu q (tD T Z ma) (tD T Z mb) σ H Q:=by
 let#[F,r,env,bx,R,h]:=h;refine#[F,r,env,bx,R,End.bind h λx bx1 F1 r1 v H1 g1 R1 d1 h1=>?_];refine#[F1,r1,env,bx1,R1,End.bind h1 λy bx2 F2 r2 w H2 g2 R2 agU h2=>?_];cases e1:bR bx2 x with
 |none=>rw[e1]at h2;show h2.elim
 |some p=>
   cases e2:bR bx2 y with
   |none=>rw[e1,e2]at h2;show h2.elim
   |some z=>
     cases e3:g p z with
     |none=>rw[e1,e2]at h2;simp[bV,e3]at h2;show h2.elim
     |some s=>
       rw[e1,e2]at h2;simp[bV,e3]at h2;show hg F2 H2 p z v w Q s R2.fh (R2.qY (g2.den d1) e1) (R2.qY agU e2) e3 λu H' k=>gR R2 h2 k
def dN (b:Bool) (g:List D->Option Res) (k:DE<|List W):DE W:=λenv bx=>fA (k env bx) λws bx1=>ck b ((k7 bx1 ws).bind g) bx1
theorem Lp {q:List V->Hp->VK->zw}{g:List D->Option Res}{b:Bool}{k:DE (List W)}(hg:k8 q g) (σ:St) (H:Hp) (Q:VK) (h:tD T Z (dN b g k) σ H Q):Ey q (Kf T Z k) σ H Q:=by
 let#[F,r,env,bx,R,h]:=h;refine#[F,r,env,bx,R,End.bind h λws bx1 F1 r1 vs H1 g1 R1 d1 h1=>?_];cases e1:k7 bx1 ws with
 |none=>rw[e1]at h1;show h1.elim
 |some ds=>
   rw[e1]at h1;cases e2:g ds with
   |none=>simp[bV,e2]at h1;show h1.elim
   |some s=>
     simp[bV,e2]at h1;show hg F1 H1 ds vs Q s R1.fh (R1.acW d1 e1) e2 λu H' k=>gR R1 h1 k
end L2.DL
variable {g:L2.DL.D -> L2.DL.D -> Option L2.DL.Res}
namespace L2.DL
section
variable {a b c:au} {p:aG}
theorem Ta {op:Operator}{q:R2}(bo:Bool) (ho:bA X (binaryOp op) q) (hg:cA q g) (ha:PD X T Z a ma) (hb:PD X T Z b mb):PD X T Z (.BinOp a op b pos) (d2 bo g ma mb):=
 PE.imp (Vp ho ha hb) (FQ hg)
theorem Tb {op:CmpOp}{q:R2}(ho:bA X (compareOp op) q) (hg:cA q g) (ha:PD X T Z a ma) (hb:PD X T Z b mb) (hm:behindInMarks op b=af):PD X T Z (.Compare a [op] [b] pos) (d2 af g ma mb):=
 PE.imp (NU ho ha hb hm) (FQ hg)
theorem Vy {q:R2}(ho:tH X q) (hg:cA q g) (ha:PD X T Z a ma) (hb:PD X T Z b mb) (hs:IT b):PD X T Z (.Subscript a b pos) (d2 af g ma mb):=
 PE.imp (RP ho ha hb hs) (FQ hg)
def dB (m:DE W):DE Bool:=λenv bx=>fA (m env bx) λw bx1=>match w with|.d (.bl k)=>.val k bx1|_=>.bad
theorem G7 {Q:Bool->Hp->zw}(h:tR T Z (dB ma) σ H Q):tB (tD T Z ma) σ H Q:=by
 let#[F,r,env,bx,R,h]:=h;refine#[F,r,env,bx,R,End.bind h λw bx1 F1 r1 v H1 g1 R1 d1 h1=>?_];split at h1
 .ext k;show#[k,d1,h1 F1 r1 k H1 (.refl F1 r1) R1 zk]
 .show h1.elim
theorem N6 (h:PD X T Z e ma) (he:∀ whole,isTrue e X.env whole=(do let v <-whole;standAt e.pos;holding [v] (truthy v)):=by intro _;rfl):eG X T Z e (dB ma):=
 PT.imp (Su h he) λσ H Q h=>G7 h
theorem N7 {op:CmpOp}{q:R2}(ho:bA X (compareOp op) q) (hg:cA q g) (ha:PD X T Z a ma) (hb:PD X T Z b mb) (hm:behindInMarks op b=af):eG X T Z (.Compare a [op] [b] pos) (dB<|d2 af g ma mb):=by
 refine PT.imp (NV ho ha hb hm) λσ H Q h=>?_;let#[F,r,env,bx,R,h]:=h;refine FQ hg σ H _ #[F,r,env,bx,R,End.bind h λw bx1 F1 r1 v H1 g1 R1 d1 h1=>?_];split at h1
 .ext k;show#[k,d1,h1 F1 r1 k H1 (.refl F1 r1) R1 zk]
 .show h1.elim
theorem aH.isEmpty {F:Hp}{l:List D}{vs:List V}(h:aH F l vs):l.isEmpty=vs.isEmpty:=by
 have:=h.length;cases l<;>cases vs<;>simp_all
theorem aR.length {F:Hp}:∀ {l:List (Key×D)}{vs:List (Key×V)},aR F l vs->l.length=vs.length
 | [],_,h=>by
   rw[h];rfl
 | (k,d)::l,_,h=>by
   let#[v,r,e,_,h2]:=h;rw[e,bN,bN,h2.length]
def d3 (g g':D->D->Option Res) (ma mb mc:DE W):DE W:=λenv bx=>fA (ma env bx) λx bx1=>fA (mb env bx1) λy bx2=>
 fA (ck af ((bR bx2 x).bind λp=>(bR bx2 y).bind λq=>g p q) bx2) λz cM=>match z with
  |.d (.bl ah)=>fA (mc env cM) λw kJ=>ck af ((bR kJ y).bind λp=>(bR kJ w).bind λq=>g' p q) kJ
  |.d (.bl af)=>.val (.d<|.bl af) cM
  |_=>.bad
theorem acX {q:R2}(hg:cA q g) {x y:W}{w:V}{Q:VK}(R:Rel T F r σ H env bx) (dx:cb F r x v) (dy:cb F r y w)
 (h:End T Z cb F r σ env Q<|ck af ((bR bx x).bind λp=>(bR bx y).bind λq=>g p q) bx):q v w H Q:=by
 cases e1:bR bx x with
 |none=>rw[e1]at h;show h.elim
 |some p=>
   cases e2:bR bx y with
   |none=>rw[e1,e2]at h;show h.elim
   |some z=>
     cases e3:g p z with
     |none=>rw[e1,e2]at h;simp[bV,e3]at h;show h.elim
     |some s=>
       rw[e1,e2]at h;simp[bV,e3]at h;show hg F H p z v w Q s R.fh (R.qY dx e1) (R.qY dy e2) e3 λu H' k=>gR R h k
theorem FR {q q':R2}{g':D->D->Option Res}(hg:cA q g) (EJ:cA q' g') {Q:VK}(h:tD T Z (d3 g g' ma mb mc) σ H Q):X8 q q' (tD T Z ma) (tD T Z mb) (tD T Z mc) σ H Q:=by
 let#[F,r,env,bx,R,h]:=h;refine#[F,r,env,bx,R,End.bind h λx bx1 F1 r1 v H1 g1 R1 d1 h1=>?_];refine#[F1,r1,env,bx1,R1,End.bind h1 λy bx2 F2 r2 w H2 g2 R2 d2 h2=>?_];refine acX hg R2 (g2.den d1) d2<|End.bind h2 λz cM F3 r3 u H3 g3 R3 d3 h3=>?_;split at h3
 .show#[ah,d3,(#[F3,r3,env,cM,R3,End.bind h3 λt kJ F4 r4 s H4 g4 R4 d4 h4=>(acX EJ R4 (g4.den<|g3.den d2) d4 h4)])]
 .show#[af,d3,(h3 F3 r3 _ H3 (.refl F3 r3) R3 zk)]
 .show h3.elim
theorem Lq {op dh:CmpOp}{q q':R2}{g':D->D->Option Res}(ho:bA X (compareOp op) q) (eZ:bA X (compareOp dh) q') (hg:cA q g) (EJ:cA q' g') (ha:PD X T Z a ma) (hb:PD X T Z b mb) (hc:PD X T Z c mc)
 (hm:lastMarks [op,dh] [b,c]=af:=by with_unfolding_all rfl):PD X T Z (.Compare a [op,dh] [b,c] pos) (d3 g g' ma mb mc):=
 PE.imp (Lf ho eZ ha hb hc hm) λσ H Q h=>FR hg EJ h
theorem G8 {op dh:CmpOp}{q q':R2}{g':D->D->Option Res}(ho:bA X (compareOp op) q) (eZ:bA X (compareOp dh) q') (hg:cA q g) (EJ:cA q' g') (ha:PD X T Z a ma) (hb:PD X T Z b mb) (hc:PD X T Z c mc)
 (hm:lastMarks [op,dh] [b,c]=af:=by with_unfolding_all rfl):eG X T Z (.Compare a [op,dh] [b,c] pos) (dB<|d3 g g' ma mb mc):=by
 refine PT.imp (Lg ho eZ ha hb hc hm) λσ H Q h=>?_;let#[F,r,env,bx,R,h]:=h;refine FR hg EJ #[F,r,env,bx,R,End.bind h λw bx1 F1 r1 v H1 g1 R1 d1 h1=>?_];split at h1
 .ext k;show#[k,d1,h1 F1 r1 k H1 (.refl F1 r1) R1 zk]
 .show h1.elim
def k9 (m k:DE Bool):DE Bool:=λenv bx=>fA (m env bx) λb bx1=>match b with|true=>k env bx1|false=>.val af bx1
def nX (m k:DE Bool):DE Bool:=λenv bx=>fA (m env bx) λb bx1=>match b with|true=>.val ah bx1|false=>k env bx1
def eJ (m:DE Bool):DE Bool:=λenv bx=>fA (m env bx) λb bx1=>.val (!b) bx1
def tV (X:Cx) (T:Fr) (Z:Xs) (e:au) (m:DE Bool):zw:=PW X e<|tR T Z m
variable {ta tb:DE Bool} {rest:List au}
theorem Lr (h:eG X T Z a ta):tV X T Z (.BoolOp .And [a] pos) ta:=NQ h
theorem N8 (h:eG X T Z a ta):tV X T Z (.BoolOp .Or [a] pos) ta:=Sv h
theorem N9 (ha:eG X T Z a ta) (hb:tV X T Z (.BoolOp .And (b::rest) pos) tb):tV X T Z (.BoolOp .And (a::b::rest) pos) (k9 ta tb):=by
 refine PW.imp (Sw ha hb) λσ H Q=>x4 λF r env bx R h=>?_;refine#[F,r,env,bx,R,End.bind h λk bx1 F1 r1 v H1 g1 R1 d1 h1=>?_];subst d1;cases k with
 |true=>show#[F1,r1,env,bx1,R1,h1]
 |false=>show h1 F1 r1 _ H1 (.refl F1 r1) R1 zk
theorem Tc (ha:eG X T Z a ta) (hb:tV X T Z (.BoolOp .Or (b::rest) pos) tb):tV X T Z (.BoolOp .Or (a::b::rest) pos) (nX ta tb):=by
 refine PW.imp (Vn ha hb) λσ H Q=>x4 λF r env bx R h=>?_;refine#[F,r,env,bx,R,End.bind h λk bx1 F1 r1 v H1 g1 R1 d1 h1=>?_];subst d1;cases k with
 |false=>show#[F1,r1,env,bx1,R1,h1]
 |true=>show h1 F1 r1 _ H1 (.refl F1 r1) R1 zk
theorem RR (h:tV X T Z e ta):eG X T Z e ta:=h.pt
theorem Oa (h:eG X T Z a ta):eG X T Z (.UnaryOp .Not a pos) (eJ ta):=by
 refine PT.imp (Sy h) λσ H Q=>x4 λF r env bx R h=>?_;refine#[F,r,env,bx,R,End.bind h λk bx1 F1 r1 v H1 g1 R1 d1 h1=>?_];subst d1;show h1 F1 r1 _ H1 (.refl F1 r1) R1 zk
def gE (m k:DE W):DE W:=λenv bx=>fA (m env bx) λw bx1=>match w with|.d (.bl ah)=>k env bx1|.d (.bl af)=>.val (.d<|.bl af) bx1|_=>.bad
def Kg (m:DE W):DE W:=λenv bx=>fA (m env bx) λw bx1=>match w with|.d (.bl k)=>.val (.d<|.bl<|!k) bx1|_=>.bad
theorem Td {op}(h:PD X T Z a ma):PD X T Z (.BoolOp op [a] pos) ma:=Sz h
theorem Te (ha:PD X T Z a ma) (hb:PD X T Z (.BoolOp .And (b::rest) pos) mb):PD X T Z (.BoolOp .And (a::b::rest) pos) (gE ma mb):=by
 refine PE.imp (SA ha hb) λσ H Q=>x4 λF r env bx R h=>?_;refine#[F,r,env,bx,R,End.bind h λw bx1 F1 r1 v H1 g1 R1 d1 h1=>?_];split at h1
 .show#[ah,d1,(#[F1,r1,env,bx1,R1,h1])]
 .show#[af,d1,(h1 F1 r1 _ H1 (.refl F1 r1) R1 zk)]
 .show h1.elim
theorem Tf (ha:PD X T Z a ma):PD X T Z (.UnaryOp .Not a pos) (Kg ma):=by
 refine PE.imp (SC ha) λσ H Q=>x4 λF r env bx R h=>?_;refine#[F,r,env,bx,R,End.bind h λw bx1 F1 r1 v H1 g1 R1 d1 h1=>?_];split at h1
 .ext k;show#[k,d1,h1 F1 r1 _ H1 (.refl F1 r1) R1 zk]
 .show h1.elim
def pY (t:DE Bool) (m k:DE W):DE W:=λenv bx=>fA (t env bx) λb bx1=>match b with|true=>m env bx1|false=>k env bx1
theorem Tg (hc:eG X T Z c ta) (ha:PD X T Z a ma) (hb:PD X T Z b mb):PD X T Z (.IfExp c a b pos) (pY ta ma mb):=by
 refine PE.imp (J7 hc ha hb) λσ H Q=>x4 λF r env bx R h=>?_;refine#[F,r,env,bx,R,End.bind h λk bx1 F1 r1 v H1 g1 R1 d1 h1=>?_];subst d1;cases k with
 |_=>show#[F1,r1,env,bx1,R1,h1]
noncomputable def pZ:List W->Option (List D)
 |[]=>ae []
 |.d x::l=>(pZ l).map λt=>x::t
 |_=>ag
theorem nJ.ds {F:Hp}{r:List ai}:∀ {ws:List W}{vs:List V}{ds:List D},nJ F r ws vs->pZ ws=ae ds->aH F ds vs
 |[],_,_,h,e=>by cases e;show h
 | .d x::l,_,ds,h,e=>by
   let#[v,t,q,h1,h2]:=h;unfold pZ at e;cases e2:pZ l with
   |none=>rw[e2]at e;cases e
   |some t'=>
     rw[e2]at e;cases e;show#[v,t,q,h1,h2.ds e2]
 |.b _::l,_,ds,h,e=>by cases e
 |.s _::l,_,ds,h,e=>by cases e
 |.x _::l,_,ds,h,e=>by cases e
 |.t _::l,_,ds,h,e=>by cases e
 |.m _::l,_,ds,h,e=>by cases e
def gn (k:DE<|List W):DE W:=λenv bx=>fA (k env bx) λws bx1=>ck af ((pZ ws).bind λl=>if l.length<=sizeLine then ae (.tup l) else ag) bx1
def gz (bo:Bool) (k:DE<|List W):DE W:=λenv bx=>fA (k env bx) λws bx1=>ck bo ((pZ ws).bind λl=>if l.length<=sizeLine then ae (.lst l) else ag) bx1
theorem Th {x1}{k:DE (List W)}(h:ez X T Z es k):PD X T Z (.Tuple es x1 pos) (gn k):=by
 refine PE.imp (Lh h) λσ H Q=>x4 λF r env bx R h=>?_;refine#[F,r,env,bx,R,End.bind h λws bx1 F1 r1 vs H1 g1 R1 d1 h1=>?_];cases e:pZ ws with
 |none=>rw[e]at h1;show h1.elim
 |some l=>
   rw[e]at h1;simp[bV]at h1;split at h1
   .have dl:=d1.ds e;refine#[by rw[<-dl.length];assumption,λp hp=>gR R1 h1<|.inr #[p,vs,rfl,hp,rfl,dl]]
   .show h1.elim
theorem Ti {k:DE (List W)}(bo:Bool) (h:ez X T Z es k):PD X T Z (.List es pos) (gz bo k):=by
 refine PE.imp (SQ h) λσ H Q=>x4 λF r env bx R h=>?_;refine#[F,r,env,bx,R,End.bind h λws bx1 F1 r1 vs H1 g1 R1 d1 h1=>?_];cases e:pZ ws with
 |none=>rw[e]at h1;show h1.elim
 |some l=>
   rw[e]at h1;simp[bV]at h1;split at h1
   .have dl:=d1.ds e;refine#[by rw[<-dl.length];assumption,λp hp=>gR R1 h1 #[p,vs,rfl,hp,rfl,dl]]
   .show h1.elim
theorem Ls {id:String}{q:List V->Hp->VK->zw}{g:List D->Option Res}{k:DE (List W)}(bo:Bool) (hc:hG X (.builtin id) q) (hk:k8 q g) (hg:Gl X x) (hm:X.mg x=ag) (hv:bootBuiltins x=ae (.builtin id)) (ha:ez X T Z (e::es) k)
 (hn:x ≠ "__name__":=by decide) (dO:(x==("__debug__":Str))=af:=by decide)
 (he:starEach (e::es) X.env=(af,eval e X.env)::starEach es X.env:=by rfl) (nW:(backTo pos<|starEach es X.env).any (·.1)=af:=by rfl):PD X T Z (.Call (.Name x p) (e::es) [] pos) (dN bo g k):=
 PE.imp (Ar hc hg hm hv ha hn dO he nW) (Lp hk)
theorem G9 {id:String}{q:List V->Hp->VK->zw}{g:List D->Option Res}{k:DE (List W)}(bo:Bool) (hc:hG X (.type id) q) (hk:k8 q g) (hg:Gl X x) (hm:X.mg x=ag) (hv:bootBuiltins x=ae (.type id)) (ha:ez X T Z (e::es) k)
 (hn:x ≠ "__name__":=by decide) (dO:(x==("__debug__":Str))=af:=by decide)
 (he:starEach (e::es) X.env=(af,eval e X.env)::starEach es X.env:=by rfl) (nW:(backTo pos<|starEach es X.env).any (·.1)=af:=by rfl):PD X T Z (.Call (.Name x p) (e::es) [] pos) (dN bo g k):=
 PE.imp (Bu hc hg hm hv ha hn dO he nW) (Lp hk)
def wq (cl:Nat->ai) (n:Nat) (fn:List W->List Bx->O W):Sp:=λvs H Q E=>∃ F r ws bx,Rel #[H,r.length,F] F r [] H [] bx /\ nJ F r ws vs /\ ws.length=n /\ End #[H,r.length,F] #[E,cl] cb F r [] [] Q (fn ws bx)
theorem nJ.length {F:Hp}{r:List ai}:∀ {ws:List W}{vs:List V},nJ F r ws vs->ws.length=vs.length
 | [],_,h=>by
   rw[h];rfl
 | d::l,_,h=>by
   let#[v,t,e,_,h2]:=h;rw[e,bN,bN,h2.length]
theorem Rel.enter (R:Rel T F r σ H env bx):Rel #[H,r.length,F] F r [] H [] bx:=
 #[R.fh,λi w e=>by simp at e,R.len,R.nd,R.box,λa u e _=>e,λn a hn e=>(by rw[sP hn]at e;cases e),aI _,aI _,λa u e=>.inr<|.inl e]
theorem Rel.after {r':List ai}{bx':List Bx}(R:Rel T F r σ H env bx) (g:bL F r F' r') (R':Rel #[H,r.length,F] F' r' [] H' [] bx'):Rel T F' r' σ H' env bx':=by
 have pre:∀ (n) (a),r[n]?=ae a->r'[n]?=ae a:=λn a e=>by
  let#[t,rfl]:=g.p;rw[kX (List.getElem?_eq_some_iff.mp e).1];show e
 have sub:∀ a,a∈r->a∈r':=λa h=>g.p.subset h;refine#[R'.fh,λi w e=>?_,R'.len,R'.nd,R'.box,λa u e hn=>(R'.keep a u (R.keep a u e λz=>hn<|sub a z) hn),λn a hn e=>?_,cT R.n0 g.p.length_le,R.sl,λa u e=>?_]
 .let#[v,e1,e2]:=R.slot i w e;show#[v,e1,g.den e2]
 .by_cases hl:n<r.length
  .have q:=pre n _<|dj hl;rw[e]at q;cases q;show R.new n _ hn<|dj hl
  .have q:H a=ag:=R'.new n a (vS hl) e;cases z:T.H₀ a with
   |none=>rfl
   |some u=>
     have hr:a∉r:=λha=>by
      let#[m,em]:=List.mem_iff_getElem?.mp ha;have:=j9 R'.nd (pre m a em) e;show hl (by rw[<-this];show(List.getElem?_eq_some_iff.mp em).1)
     rw[R.keep a u z hr]at q;cases q
 .rcases R'.fs a u e with z|z|z|z
  .show .inl z
  .show(R.fs a u z).imp id (Or.imp id<|Or.imp id<|sub a)
  .by_cases ha:a∈r
   .show .inr<|.inr<|.inr<|sub a ha
   .refine .inr<|.inr<|.inl ?_;cases y:T.H₀ a with
    |none=>rfl
    |some u=>
      have z':H a=ag:=z;rw[R.keep a u y ha]at z';cases z'
  .show .inr<|.inr<|.inr z
def fm (fn:List W->List Bx->O W) (n:Nat) (k:DE<|List W):DE W:=λenv bx=>fA (k env bx) λws bx1=>if ws.length=n then fn ws bx1 else .bad
theorem Tj {k:DE (List W)}{Q:VK}(h:tD T Z (fm fn n k) σ H Q):acv (wq Z.cl n fn) [] Z.E (Kf T Z k) σ H Q:=by
 let#[F,r,env,bx,R,h]:=h;refine#[F,r,env,bx,R,End.bind h λws bx1 F1 r1 vs H1 g1 R1 d1 h1=>?_];split at h1
 .ext hl;refine#[F1,r1,ws,bx1,R1.enter,by rw[kG];show d1,hl,?_];cases e:fn ws bx1 with
  |val w bx'=>rw[e]at h1;show λF' r' v H' g R' d=>h1 F' r' v H' g (R1.after g R') d
  |exc c bx'=>rw[e]at h1;show λF' r' H' g R'=>h1 F' r' H' g (R1.after g R').drop
  |bad=>rw[e]at h1;show h1
 .show h1.elim
theorem Ob {f:ai}{ps:List Str}{k:Nat}{m:DE (List W)}(G:pE X.prog X.w X.K X.mg X.base (tQ X.prog X.w) k f fd ps<|wq Z.cl ps.length fn) (hr:kI k X.A) (hg:Gl X x) (hm:X.mg x=ae (.ref f))
 (hk:PySem.W.keepIn X.K (.ref f)=ah) (hb:Binds X.K fd ps []) (hx:Passes (tQ X.prog X.w) X Z.E) (ha:ez X T Z (e::es) m) (dO:(x==("__debug__":Str))=af:=by decide)
 (he:starEach (e::es) X.env=(af,eval e X.env)::starEach es X.env:=by rfl) (nW:(backTo pos<|starEach es X.env).any (·.1)=af:=by rfl):PD X T Z (.Call (.Name x p) (e::es) [] pos) (fm fn ps.length m):=
 PE.imp (NX G hr hg hm hk hb .nil hx ha dO he nW) λσ H Q h=>Tj h
end
inductive OS where
 |nx (env:bf) (bx:List Bx)|rt (w:W) (bx:List Bx)|bk (env:bf) (bx:List Bx)|ct (env:bf) (bx:List Bx)|exc (c:Nat) (bx:List Bx)|bad
abbrev aD:=bf->List Bx->OS
def nY (T:Fr) (Z:Xs) (F:Hp) (r:List ai) (D:Ends):OS->zw
 |.nx bp bx'=>∀ F' r' σ' H',bL F r F' r'->Rel T F' r' σ' H' bp bx'->D.nx σ' H'
 |.rt w bx'=>∀ F' r' v H',bL F r F' r'->Rel T F' r' [] H' [] bx'->cb F' r' w v->D.rt v H'
 |.bk bp bx'=>∀ F' r' σ' H',bL F r F' r'->Rel T F' r' σ' H' bp bx'->D.bk σ' H'
 |.ct bp bx'=>∀ F' r' σ' H',bL F r F' r'->Rel T F' r' σ' H' bp bx'->D.ct σ' H'
 |.exc c bx'=>∀ F' r' H',bL F r F' r'->Rel T F' r' [] H' [] bx'->Z.E (.ref<|Z.cl c) ag H'
 |.bad=>False
theorem nY.weak {r':List ai}{D:Ends}(g:bL F r F' r'):∀ {o:OS},nY T Z F r D o->nY T Z F' r' D o
 |.nx _ _,h=>λF2 r2 s2 H2 g2=>h F2 r2 s2 H2<|g.trans g2
 |.rt _ _,h=>λF2 r2 s2 H2 g2=>h F2 r2 s2 H2<|g.trans g2
 |.bk _ _,h=>λF2 r2 s2 H2 g2=>h F2 r2 s2 H2<|g.trans g2
 |.ct _ _,h=>λF2 r2 s2 H2 g2=>h F2 r2 s2 H2<|g.trans g2
 |.exc _ _,h=>λF2 r2 H2 g2=>h F2 r2 H2<|g.trans g2
 |.bad,h=>h
noncomputable def bW (m:O α) (k:α->List Bx->OS):OS:=
 match m with
 |.val a bx=>k a bx
 |.exc c bx=>.exc c bx
 |.bad=>.bad
theorem End.bW {β:Type}{R1:Hp->List ai->α->β->zw}{D:Ends}{Q1:β->Hp->zw}
 {m:O α}{k:α->List Bx->OS}(h:nY T Z F r D<|DL.bW m k)
 (c:∀ d bx1 F1 r1 v H1,bL F r F1 r1->Rel T F1 r1 σ H1 env bx1->R1 F1 r1 d v->nY T Z F1 r1 D (k d bx1)->Q1 v H1):End T Z R1 F r σ env Q1 m:=by
 cases m with
 |val d bx=>show λF' r' v H' g R q=>c d bx F' r' v H' g R q<|nY.weak g h
 |exc n bx=>show h
 |bad=>show h
def tS (T:Fr) (Z:Xs) (m:aD):TS:=λD σ H=>∃ F r env bx,Rel T F r σ H env bx /\ nY T Z F r D (m env bx)
def dH (X:Cx) (T:Fr) (Z:Xs) (s:cz) (m:aD):zw:=PS X s<|tS T Z m
def uD (X:Cx) (T:Fr) (Z:Xs) (s:List cz) (m:aD):zw:=kZ X s<|tS T Z m
section
variable {a b c:au} {p:aG} {rest:List cz} {m k:aD} {tc:DE Bool}
noncomputable def aW:aD:=λenv bx=>.nx env bx
noncomputable def fv (m k:aD):aD:=λenv bx=>match m env bx with|.nx env1 bx1=>k env1 bx1|o=>o
theorem Oc:uD X T Z [] aW:=kZ.imp NR λD σ H=>x4 λF r env bx R h=>h F r σ H (.refl F r) R
theorem Lu (h1:dH X T Z st m) (h2:uD X T Z rest k):uD X T Z (st::rest) (fv m k):=by
 refine kZ.imp (J8 h1 h2) λD σ H=>x4 λF r env bx R h=>#[F,r,env,bx,R,?_];unfold fv at h;cases e:m env bx with
 |nx env1 bx1=>rw[e]at h;show λF1 r1 σ1 H1 g R1=>#[F1,r1,env1,bx1,R1,nY.weak g h]
 |rt w bx1=>rw[e]at h;show h
 |bk env1 bx1=>rw[e]at h;show h
 |ct env1 bx1=>rw[e]at h;show h
 |exc c bx1=>rw[e]at h;show h
 |bad=>rw[e]at h;show h
theorem Od (h1:dH X T Z st m):uD X T Z [st] m:=NS h1
noncomputable def Kh:aD:=λenv bx=>.bk env bx
noncomputable def Ki:aD:=λenv bx=>.ct env bx
theorem Ja:dH X T Z (.Break pos) Kh:=PS.imp J9 λD σ H=>x4 λF r env bx R h=>h F r σ H (.refl F r) R
theorem Lv:dH X T Z (.Continue pos) Ki:=PS.imp CI λD σ H=>x4 λF r env bx R h=>h F r σ H (.refl F r) R
def fV (m:DE W):aD:=λenv bx=>bW (m env bx) λ_ bx1=>.nx env bx1
theorem Lw (h:PD X T Z e ma) (hs:swapsWith e ag pos.line X.env=pure af:=by rfl):dH X T Z (.Expr e pos) (fV ma):=PS.imp (NT h hs) λD σ H=>x4 λF r env bx R h=>(#[F,r,env,bx,R,End.bW h λw bx1 F1 r1 v H1 g1 R1 d1 h1=>h1 F1 r1 σ H1 (.refl F1 r1) R1])
def fK (m:DE W):aD:=λenv bx=>bW (m env bx) λw bx1=>.rt w bx1
theorem Oe (h:PD X T Z e ma):dH X T Z (.Return (ae e) pos) (fK ma):=PS.imp (SD h) λD σ H=>x4 λF r env bx R h=>(#[F,r,env,bx,R,End.bW h λw bx1 F1 r1 v H1 g1 R1 d1 h1=>h1 F1 r1 v H1 (.refl F1 r1) R1.drop d1])
def aS (t:DE Bool) (m k:aD):aD:=λenv bx=>bW (t env bx) λb bx1=>match b with|true=>m env bx1|false=>k env bx1
theorem Tk {sa sb:List cz}(hc:eG X T Z c tc) (ha:uD X T Z sa m) (hb:uD X T Z sb k):dH X T Z (.If c sa sb pos) (aS tc m k):=by
 refine PS.imp (Vo hc ha hb) λD σ H=>x4 λF r env bx R h=>?_;refine#[F,r,env,bx,R,End.bW h λw bx1 F1 r1 v H1 g1 R1 d1 h1=>?_];subst d1;cases w with
 |_=>show#[F1,r1,env,bx1,R1,h1]
abbrev DG:=W->bf->List Bx->Option (bf×List Bx)
abbrev p4:=List W->bf->List Bx->Option (bf×List Bx)
noncomputable def acY (T:Fr) (F:Hp) (r:List ai) (Q:St->Hp->zw):Option (bf×List Bx)->zw
 |none=>False
 |some (bp,bx')=>∀ F' r' σ' H',bL F r F' r'->Rel T F' r' σ' H' bp bx'->Q σ' H'
def tG (T:Fr) (g:DG):TG:=λv σ H Q=>∃ F r env bx w,Rel T F r σ H env bx /\ cb F r w v /\ acY T F r Q (g w env bx)
def agV (T:Fr) (g:p4):uu:=λvs σ H Q=>∃ F r env bx ws,Rel T F r σ H env bx /\ nJ F r ws vs /\ acY T F r Q (g ws env bx)
def pG (X:Cx) (T:Fr) (tg:au) (g:DG):zw:=PG X tg<|tG T g
def uE (X:Cx) (T:Fr) (tg:List au) (g:p4):zw:=tj X tg<|agV T g
theorem PG.imp {t t':TG}(h:PG X tg t) (f:∀ v σ H Q,t' v σ H Q->t v σ H Q):PG X tg t':=λpins s σ H v u Q I r q=>h pins s σ H v u Q I r<|f v σ H Q q
theorem tj.imp {tg:List au}{t t':uu}(h:tj X tg t) (f:∀ v σ H Q,t' v σ H Q->t v σ H Q):tj X tg t':=λpins s σ H v u Q I r q=>h pins s σ H v u Q I r<|f v σ H Q q
noncomputable def fg (i:Nat):DG:=λw env bx=>ae (env.set i<|ae w,bx)
theorem Rel.set {F H:Hp}{r:List ai}{σ:St}{env:bf}{bx:List Bx}(R:Rel T F r σ H env bx) {w:W}{v:V}(d:cb F r w v) (i:Nat):Rel T F r (σ.set i<|ae v) H (env.set i<|ae w) bx:=by
 refine#[R.fh,λj w' e=>?_,R.len,R.nd,R.box,R.keep,R.new,R.n0,by rw[ug,ug];show R.sl,R.fs];by_cases hj:j=i
 .subst hj;have hl:j<env.length:=by
   have:=(List.getElem?_eq_some_iff.mp e).1;rw[ug]at this;show this
  rw[rR hl]at e;cases e;show#[v,rR<|kN hl R.sl,d]
 .rw[sN<|Ne.symm hj]at e;let#[u,e1,e2]:=R.slot j w' e;show#[u,by rw[sN<|Ne.symm hj];show e1,e2]
theorem Lx (i:Nat) (hN:X.N.Nodup) (hi:X.N[i]?=ae x:=by rfl) (hx:Loc X.env.scope x:=by first|show Or.inl zk|show Or.inr zk) (hf:X.fn x=ah \/ X.env.scope.names.lookup x=ae .local:=by first|show .inl zk|show .inr zk|assumption):pG X T (.Name x pos) (fg i):=
 PG.imp (B0 hN hi hx hf) λv σ H Q=>x5 λF r env bx w R d h=>h F r _ H (.refl F r)<|R.set d i
noncomputable def fW:p4:=λws env bx=>match ws with|[]=>ae (env,bx)|_=>ag
noncomputable def fu (g:DG) (k:p4):p4:=λws env bx=>match ws with|w::l=>(g w env bx).bind λ(env1,bx1)=>k l env1 bx1|_=>ag
theorem Ly:uE X T [] fW:=tj.imp FK λv σ H Q=>x5 λF r env bx w R d h=>by
 cases w with
 |nil=>show#[d,h F r σ H (.refl F r) R]
 |cons _ _=>show h.elim
theorem Jb {g:DG}{k:p4}(h1:pG X T e g) (h2:uE X T es k) (hs:(assignEach (e::es) X.env).map (·.2)=assign e X.env::(assignEach es X.env).map (·.2):=by rfl):uE X T (e::es) (fu g k):=by
 refine tj.imp (Ao h1 h2 hs) λv σ H Q=>x5 λF r env bx ws R d h=>?_;cases ws with
 |nil=>show h.elim
 |cons w l=>
   let#[u,t,rfl,d1,d2]:=d;refine#[u,t,rfl,F,r,env,bx,w,R,d1,?_];unfold fu at h;cases eg:g w env bx with
   |none=>simp[eg]at h;show h.elim
   |some o=>
     let#[env1,bx1]:=o;simp[eg,bV]at h;intro F1 r1 σ1 H1 g1 R1;refine#[F1,r1,env1,bx1,l,R1,d2.mono g1,?_];cases ek:k l env1 bx1 with
     |none=>simp[ek]at h;show h.elim
     |some o2=>
       simp[ek]at h;show λF2 r2 σ2 H2 g2 R2=>h F2 r2 σ2 H2 (g1.trans g2) R2
theorem aH.ws {F:Hp}{r:List ai}:∀ {l:List D}{vs:List V},aH F l vs->nJ F r (l.map W.d) vs
 |[],_,h=>h
 | d::l,_,h=>by
   let#[v,t,e,h1,h2]:=h;show#[v,t,e,h1,h2.ws]
noncomputable def fT (n:Nat) (k:p4):DG:=λw env bx=>match w with|.d (.tup l)=>if l.length=n then k (l.map W.d) env bx else ag|_=>ag
theorem Of {k:p4}{i:Nat}(hc:X.calm=ah) (h:uE X T es k) (hn:(assignEach es X.env).length=n:=by rfl) (Ep:(assignEach es X.env).findIdx? (·.1)=ag:=by rfl):pG X T (.Tuple es i pos) (fT n k):=by
 refine PG.imp (La hc h hn Ep) λv σ H Q=>x5 λF r env bx w R d h=>?_;unfold fT at h;split at h
 .split at h
  .ext hl;let#[p,vs,rfl,h1,h2]:=d;show#[p,vs,rfl,.of<|R.fh _ _ h1,by rw[<-h2.length];show hl,F,r,env,bx,_,R,h2.ws,h]
  .show h.elim
 .show h.elim
def fE (m:DE W) (g:DG):aD:=λenv bx=>bW (m env bx) λw bx1=>match g w env bx1 with|some (env1,bx2)=>.nx env1 bx2|none=>.bad
theorem Vz {g:DG}{D:Ends}(h:tS T Z (fE ma g) D σ H):IG (tD T Z ma) (tG T g) D σ H:=by
 let#[F,r,env,bx,R,h]:=h;refine#[F,r,env,bx,R,End.bW h λw bx1 F1 r1 v H1 g1 R1 d1 h1=>#[F1,r1,env,bx1,w,R1,d1,?_]];cases eg:g w env bx1 with
 |none=>simp[eg]at h1;show h1.elim
 |some o=>simp[eg]at h1;show h1
theorem FS {g:DG}(he:PD X T Z e ma) (hg:pG X T tg g) (hs:swapsWithSole [tg] e pos.line X.env=pure af:=by rfl) (hw:swappedStores [tg] e X.env=pure ag:=by rfl)
 (h1:(assignEach [tg] X.env).map (·.2)=[assign tg X.env]:=by rfl):dH X T Z (.Assign [tg] e pos) (fE ma g):=
 PS.imp (Lb he hg hs hw h1) λD σ H h=>Vz h
theorem FT (i:Nat) (he:PD X T Z e ma) (hN:X.N.Nodup) (hi:X.N[i]?=ae x:=by rfl) (hx:Loc X.env.scope x:=by first|show Or.inl zk|show Or.inr zk) (hs:swapsWith e (ae<|.Name x pos') pos.line X.env=pure af:=by rfl) (hf:X.fn x=ah \/ X.env.scope.names.lookup x=ae .local:=by first|show .inl zk|show .inr zk|assumption) :
 dH X T Z (.Assign [.Name x pos'] e pos) (fE ma<|fg i):=PS.imp (SF hN hi hx he hs hf) λD σ H=>x4 λF r env bx R h=>(#[F,r,env,bx,R,End.bW h λw bx1 F1 r1 v H1 g1 R1 d1 h1=>h1 F1 r1 _ H1 (.refl F1 r1)<|R1.set d1 i])
def kK (i j:Nat) (m:DE<|List W):aD:=λenv bx=>bW (m env bx) λws bx1=>match ws with|[x,y]=>.nx ((env.set i<|ae x).set j<|ae y) bx1|_=>.bad
theorem VA {i:Nat}{m:DE (List W)}{D:Ends}(h:tS T Z (kK i j m) D σ H):aci i j (Kf T Z m) D σ H:=by
 let#[F,r,env,bx,R,h]:=h;refine#[F,r,env,bx,R,End.bW h λws bx1 F1 r1 vs H1 g1 R1 d1 h1=>?_];split at h1
 .let#[v,t,rfl,q1,u,t2,rfl,q2,q3]:=d1;cases (q3);show#[v,u,rfl,h1 F1 r1 _ H1 (.refl F1 r1)<|(R1.set q1 i).set q2 j]
 .show h1.elim
def vq (F:Hp) (r:List ai) (ds:List W) (J:It):zw:=
 ∀ (T:Fr) (i:Nat) (F1:Hp) (r1:List ai) (σ1:St) (H1:Hp) (env1:bf) (bx1:List Bx),bL F r F1 r1->Rel T F1 r1 σ1 H1 env1 bx1 ->
  (ds.length=i->J.stop i H1) /\ ∀ w,ds[i]?=ae w->J.go i H1 /\ ∀ x H2,J.Es i H1 x H2->∃ F2,bL F1 r1 F2 r1 /\ Rel T F2 r1 σ1 H2 env1 bx1 /\ cb F2 r1 w x
def tI (T:Fr) (Z:Xs) (m:DE<|List W):TI:=λσ H R=>∃ F r env bx,Rel T F r σ H env bx /\ End T Z vq F r σ env R (m env bx)
def uF (X:Cx) (T:Fr) (Z:Xs) (tg iter:au) (m:DE<|List W):zw:=PI X tg iter<|tI T Z m
theorem PI.imp {t t':TI}(h:PI X tg iter t) (f:∀ σ H Q,t' σ H Q->t σ H Q):PI X tg iter t':=λpins s σ H R I q=>h pins s σ H R I<|f σ H R q
noncomputable def bX (g:DG) (body:aD):List W->aD
 |[],env,bx=>.nx env bx
 | w::l,env,bx=>match g w env bx with
   |none=>.bad
   | some (env1,bx1)=>match body env1 bx1 with
     |.nx env2 bx2=>bX g body l env2 bx2
     |.ct env2 bx2=>bX g body l env2 bx2
     |.bk env2 bx2=>.nx env2 bx2
     |o=>o
def iQ (m:DE<|List W) (g:DG) (body:aD):aD:=λenv bx=>bW (m env bx) λds bx1=>bX g body ds env bx1
theorem VB {g:DG}{D:Ends}{H1 F1:Hp}{r1:List ai}{ds:List W}{J:It}(R1:Rel T F1 r1 σ H1 env bx1) (y1:vq F1 r1 ds J) (h1:nY T Z F1 r1 D<|bX g m ds env bx1) :
 ∃ W:Nat->Nat->St->Hp->zw,(∃ m,W 0 m σ H1) /\ ∀ i n σ H,W i n σ H->(J.stop i H /\ D.nx σ H) \/ (J.go i H /\ ∃ N:St->Hp->zw,(∀ σ' H',N σ' H'->∃ n',n'<n /\ W (i+1) n' σ' H') /\ ∀ x H',J.Es i H x H'->tG T g x σ H' λσ2 H2=>tS T Z m { D with nx:=N,ct:=N,bk:=D.nx } σ2 H2):=by
 refine#[λi n σ' H'=>∃ pre l F' r' bp bx',ds=pre++l /\ pre.length=i /\ n=l.length /\ bL F1 r1 F' r' /\ Rel T F' r' σ' H' bp bx' /\ nY T Z F' r' D (bX g m l bp bx'),#[ds.length,[],ds,F1,r1,env,bx1,rfl,rfl,rfl,.refl F1 r1,R1,h1],?_];rintro i n σ' H' ⟨pre,l,F',r',bp,bx',qr,hi,hn,g',R',h'⟩;let#[ys,yg]:=y1 T i F' r' σ' H' bp bx' g' R';cases l with
 |nil=>show .inl #[ys (by rw[qr,kG];lia),h' F' r' σ' H' (.refl F' r') R']
 |cons w l=>
   let#[go,yl]:=yg w (by rw[qr,pS za,hi,vb];rfl);refine .inr #[go,λσ2 H2=>∃ F2 r2 env2 bx2,bL F1 r1 F2 r2 /\ Rel T F2 r2 σ2 H2 env2 bx2 /\ nY T Z F2 r2 D _,λσ2 H2 ⟨F2,r2,env2,bx2,g2,R2,h2⟩=>#[l.length,by rw[hn];show vc _,pre++[w],l,F2,r2,env2,bx2,by rw[qr,eD];rfl,by rw[cB,hi];rfl,rfl,g2,R2,h2],λx H2 hy=>?_];let#[F2,g2,R2,d2]:=yl x H2 hy;refine#[F2,r',bp,bx',w,R2,d2,?_];simp[bX]at h';cases eg:g w bp bx' with
   |none=>simp[eg]at h';show h'.elim
   |some o=>
     let#[uG,cM]:=o;simp[eg]at h';intro F3 r3 σ3 H3 g3 R3;refine#[F3,r3,uG,cM,R3,?_];have gg:=(g'.trans g2).trans g3;cases em:m uG cM with
     |nx Kj kJ=>simp[em]at h';show λF4 r4 σ4 H4 g4 R4=>#[F4,r4,Kj,kJ,gg.trans g4,R4,nY.weak ((g2.trans g3).trans g4) h']
     |ct Kj kJ=>simp[em]at h';show λF4 r4 σ4 H4 g4 R4=>#[F4,r4,Kj,kJ,gg.trans g4,R4,nY.weak ((g2.trans g3).trans g4) h']
     |bk Kj kJ=>simp[em]at h';show λF4 r4 σ4 H4 g4 R4=>h' F4 r4 σ4 H4 ((g2.trans g3).trans g4) R4
     |rt w kJ=>simp[em]at h';show nY.weak (g2.trans g3) h'
     |exc c kJ=>simp[em]at h';show nY.weak (g2.trans g3) h'
     |bad=>simp[em]at h';show h'
theorem VC {g:DG}{D:Ends}(h:tS T Z (iQ mi g m) D σ H):acm (tI T Z mi) (tG T g) (tS T Z m) D σ H:=by
 let#[F,r,env,bx,R,h]:=h;show#[F,r,env,bx,R,End.bW h λds bx1 F1 r1 J H1 g1 R1 y1 h1=>VB R1 y1 h1]
theorem Og {body:List cz}{g:DG}(hp:PassesOwn ze X.A X.env X.xe) (hc:X.calm=ah) (hi:uF X T Z tg iter mi) (hg:pG X T tg g) (hb:uD X T Z body m)
 (hs:∀ x,foldedSetIterable iter X.env x=pure x:=by intro _;rfl):dH X T Z (.For tg iter body [] pos) (iQ mi g m):=
 PS.imp (SJ hp hc hi hg hb hs) λD σ H h=>VC h
def bM (m:DE W):DE (List W):=λenv bx=>fA (m env bx) λw bx1=>match w with|.d (.lst l)=>.val (l.map W.d) bx1|.d (.tup l)=>.val (l.map W.d) bx1|_=>.bad
end
noncomputable def qu:OS->O W
 |.rt w bx=>.val w bx
 |.nx _ bx=>.val (.d .aC) bx
 |.exc c bx=>.exc c bx
 |_=>.bad
noncomputable def qv (n:Nat):O W->O W
 |.val (.d x) bx=>.val (.d x)<|bx.take n
 |.val w bx=>.val w bx
 |.exc c bx=>.exc c<|bx.take n
 |.bad=>.bad
noncomputable def envOf (n:Nat) (ws:List W):bf:=ws.map ae++List.replicate (n-ws.length) ag
def bq (n:Nat) (m:aD):List W->List Bx->O W:=λws bx=>qv bx.length<|qu<|m (envOf n ws) bx
noncomputable def ba (m:aD):aD:=λenv bx=>match m env bx with|.exc _ _=>.bad|o=>o
theorem nJ.get {F:Hp}{r:List ai}:∀ {l:List W}{vs:List V}{i:Nat}{d:W},nJ F r l vs->l[i]?=ae d->∃ v,vs[i]?=ae v /\ cb F r d v
 |[],_,_,_,_,e=>by simp at e
 | x::l,_,0,d,h,e=>by
   let#[v,t,q,h1,_]:=h;simp at e;subst e;subst q;show#[v,rfl,h1]
 | x::l,_,i+1,d,h,e=>by
   let#[v,t,q,_,h2]:=h;subst q;let#[u,e1,e2]:=nJ.get h2 (by simpa using e);show#[u,by simpa using e1,e2]
theorem Rel.start {T:Fr}{F H:Hp}{r:List ai}{bx:List Bx}{N:List Str}{ws:List W}{vs:List V}(R:Rel T F r [] H [] bx) (d:nJ F r ws vs):Rel T F r (start N vs) H (envOf N.length ws) bx:=by
 have hl:=d.length;refine#[R.fh,λi w e=>?_,R.len,R.nd,R.box,R.keep,R.new,R.n0,?_,R.fs]
 .unfold envOf at e;unfold L2.start;by_cases hi:i<ws.length
  .rw[kX (by rw[aV];show hi),kQ]at e;cases q:ws[i]? with
   |none=>rw[q]at e;cases e
   |some w'=>
     rw[q]at e;cases e;let#[v,e1,e2]:=d.get q;refine#[v,?_,e2];rw[kX (by rw[aV,<-hl];show hi),kQ,e1];rfl
  .rw[pS (by rw[aV];lia)]at e;rw[aaz]at e;split at e<;>cases e
 .unfold envOf L2.start;rw[cB,cB,aV,aV,Xl,Xl,hl];show aI _
theorem VD {l l':List α}(h:l <+: l'):l'.take l.length=l:=by
 let#[t,rfl]:=h;simp
theorem Rel.cut {r':List ai}{bx':List Bx}(g:bL F r F' r') (R:Rel #[H,r.length,F] F' r' [] H' [] bx'):Rel #[H,r.length,F] F' r [] H' [] (bx'.take r.length):=by
 have hle:=g.p.length_le;have pre:∀ (n) (a),r[n]?=ae a->r'[n]?=ae a:=λn a e=>by
  let#[t,rfl]:=g.p;rw[kX (List.getElem?_eq_some_iff.mp e).1];show e
 refine#[R.fh,λi w e=>by simp at e,?_,(List.Sublist.nodup (List.IsPrefix.sublist g.p) R.nd),λn c a e1 e2=>?_,λa u e hn=>?_,λn a hn e=>?_,aI _,aI _,λa u e=>?_]
 .rw[yZ,<-R.len];lia
 .rw[aaA (List.getElem?_eq_some_iff.mp e2).1]at e1;show R.box n c a e1<|pre n a e2
 .refine R.keep a u e λz=>?_;let#[m,em]:=List.mem_iff_getElem?.mp z;by_cases hm:m<r.length
  .have q:=pre m _<|dj hm;rw[em]at q;cases q;show hn<|ph hm
  .have q':=(R.new m a (vS hm) em);rw[e]at q';cases q'
 .rw[sP hn]at e;cases e
 .rcases R.fs a u e with y|z|z|z
  .show .inl y
  .show .inr<|.inl z
  .show .inr<|.inr<|.inl z
  .let#[m,em]:=List.mem_iff_getElem?.mp z;by_cases hm:m<r.length
   .have q:=pre m _<|dj hm;rw[em]at q;cases q;show .inr<|.inr<|.inr<|ph hm
   .show .inr<|.inr<|.inl<|R.new m a (vS hm) em
theorem Oh {Q:VK}(hb:bx.length=r.length) {o:O W}(h:End #[H,r.length,F] Z cb F r [] [] Q<|qv bx.length o):End #[H,r.length,F] Z cb F r [] [] Q o:=by
 rw[hb]at h;cases o with
 |bad=>show h
 |exc c bx1=>show λF' r' H' g R=>h F' r H' #[g.s,sO r]<|R.cut g
 |val w bx1=>
   cases w with
   |d x=>show λF' r' v H' g R d=>h F' r v H' #[g.s,sO r] (R.cut g) d
   |b n=>show h
   |s l=>show h
   |x i=>show h
   |_=>show h
theorem Oi {Q:VK}{o:OS}(h:End T Z cb F r [] [] Q<|qu o):nY T Z F r { nx:=λ_ H'=>Q .aC H',rt:=Q } o:=by
 cases o with
 |nx env bx=>show λF' r' σ' H' g R=>h F' r' .aC H' g R.drop zk
 |rt w bx=>show λF' r' v H' g R d=>h F' r' v H' g R d
 |exc c bx=>show h
 |bk env bx=>show(h).elim
 |ct env bx=>show(h).elim
 |bad=>show h
section
variable {f:ai} {ps:List Str} {k:Nat} {m:aD} 
theorem VE {sp:Sp}(G:pE P w K mg base Ka k f fd ps sp):pE P w K mg base CX k f fd ps sp:=
 #[G.len,λA outer s H args us vs Q E hr e0 hb hv hs=>xf (G.run A outer s H args us vs Q E hr e0 hb hv hs) λr s' h=>by
  cases r with
  |error e=>show False.elim h
  |ok fl=>
    cases fl with
    |ret u=>show h
    |next=>show h
    |brk=>show h
    |cont=>show h]
end
theorem FU:Passes (tQ X.prog X.w) X E0:=λ_ _ _ _ _ _ _ h=>by
 let#[_,_,_,_,_,_,_,_,_,_,_,_,_,h]:=h;show h.elim
section
variable {m:aD} {ak1:List cz}
end
noncomputable def bindB {β:Type}(m:O α) (k:α->List Bx->O β):O β:=
 match m with
 |.val a bx=>k a bx
 |_=>.bad
def cj (g:DG) (tf:DE Bool) (te:DE W):List W->bf->List Bx->List D->O (List D)
 |[],_,bx,acc=>.val acc bx
 | w::l,env,bx,acc=>match g w env bx with
   |none=>.bad
   | some (env1,bx1)=>bindB (tf env1 bx1) λb bx2=>match b with
     |false=>cj g tf te l env1 bx2 acc
     | true=>bindB (te env1 bx2) λy cM=>match y with
       |.d d=>if acc.length<sizeLine then cj g tf te l env1 cM (acc++[d]) else .bad
       |_=>.bad
noncomputable def hZ (src:List<|Option Nat) (env:bf):bf:=src.map λo=>o.bind λi=>(env[i]?).bind id
def fN (bo:Bool) (src:List<|Option Nat) (mi:DE<|List W) (g:DG) (tf:DE Bool) (te:DE W):DE W:=λenv bx=>
 fA (mi env bx) λds bx1=>fA (cj g tf te ds (hZ src env) bx1 []) λl bx2=>ck bo (ae<|.lst l) bx2
theorem Rel.src {T:Fr}{F H:Hp}{r:List ai}{σ:St}{env:bf}{bx:List Bx}(R:Rel T F r σ H env bx) (src:List<|Option Nat):Rel T F r (vp src σ) H (hZ src env) bx:=by
 refine#[R.fh,λj w e=>?_,R.len,R.nd,R.box,R.keep,R.new,R.n0,?_,R.fs]
 .unfold hZ at e;unfold L2.vp;rw[kQ]at e ⊢;cases q:src[j]? with
  |none=>rw[q]at e;cases e
  |some o=>
    rw[q]at e;cases o with
    |none=>cases e
    |some i=>
      have e':(env[i]?).bind id=ae w:=Option.some.inj e;cases z:env[i]? with
      |none=>rw[z]at e';cases e'
      |some o'=>
        rw[z]at e';have e2:=e';subst e2;let#[v,e1,e2]:=R.slot i w z;show#[v,by simp[e1],e2]
 .unfold hZ L2.vp;rw[aV,aV];show aI _
theorem Rel.inner {r':List ai}{σ':St}{bp:bf}{bx':List Bx}(R:Rel T F r σ H env bx) (g:bL F r F' r') (R':Rel #[H,r.length,F] F' r' σ' H' bp bx'):Rel T F' r' σ' H' bp bx':=by
 have q:=R.after g R'.drop;show#[q.fh,R'.slot,q.len,q.nd,q.box,q.keep,q.new,q.n0,R'.sl,q.fs]
theorem Rel.again (R:Rel T F r σ H env bx):Rel #[H,r.length,F] F r σ H env bx:=
 #[R.fh,R.slot,R.len,R.nd,R.box,λa u e _=>e,λn a hn e=>(by rw[sP hn]at e;cases e),aI _,R.sl,λa u e=>.inr<|.inl e]
structure Own (F:Hp) (r:List ai) (H:Hp) (a:ai) (vs:List V):zw where
 h:H a=ae (.lst vs)
 f:F a=ag
 b:a∉r
theorem Own.inner {r':List ai}{σ':St}{bp:bf}{bx':List Bx}{vs:List V}(o:Own F r H a vs) (g:bL F r F' r') (R':Rel #[H,r.length,F] F' r' σ' H' bp bx'):Own F' r' H' a vs:=by
 have hb:a∉r':=λz=>by
  let#[m,em]:=List.mem_iff_getElem?.mp z;by_cases hm:m<r.length
  .let#[t,e]:=g.p;rw[<-e,kX hm]at em;show o.b<|List.mem_iff_getElem?.mpr #[m,em]
  .have q:H a=ag:=R'.new m a (vS hm) em;rw[o.h]at q;cases q
 refine#[R'.keep a _ o.h hb,?_,hb];cases q:F' a with
 |none=>rfl
 |some u=>
   rcases R'.fs a u q with⟨yi,rfl⟩|z|z|z
   .have:=R'.fh a _ q;rw[R'.keep a _ o.h hb]at this;cases this
   .have z':F a=ae u:=z;rw[o.f]at z';cases z'
   .have z':H a=ag:=z;rw[o.h]at z';cases z'
   .show absurd z hb
end L2.DL
namespace L2
theorem Jc (it:ai) (lo:Int) (n:Nat):Turn P w K tg (vY lo n) [it] it (λi h=>IsLongIter h it (lo+(i:Nat)*1) ((n:Int)-(i:Nat)) 1) where
 mem:=by simp
 obj:=λi h st b hb=>by
  have e:b=it:=by simpa using hb
  subst e;show#[_,st,λv z=>by
   cases z]
 keep:=λi h h' st k=>k it zf _ st
 item:=by
  intro X hP hw hK hc i pins s σ H E I hf st hg;subst hP hw hK;let#[f0,f1,f2,f3,f4,f5]:=hf it zf;refine(Walks.longrange (prog:=X.prog) (w:=X.w) (I.ok.hd hc) it lo 1 n).item i s _ _ hg st λv h' tk hv pV kk=>?_;let#[t,rfl]:=hv;refine#[_,rfl,CJ pV zk zk (by decide) #[.int<|lo+i,H,(I.turned (λb o hb e=>kk b o (by simpa using hb) e) f0 f1 f3 f4 f5),#[t,?_],#[rfl,rfl],pV,λb hb=>(hf b hb).1]];rw[Io]
 done:=by
  intro X hP hw hK hc i pins s σ H E I hf st hg;let#[f0,f1,f2,f3,f4,f5]:=hf it zf;show wpAny_pyNext_long_end (I.ok.hd hc) st (by have:n<=i:=hg;lia) λh' eb=>#[rfl,I.turned (λb o hb e=>eb b o hb e) f0 f1 f3 f4 f5]
 self:=λ_ _ _ _ _ st h=>wpAny_pyIter_longiter st h
theorem m8 {s:aq}{R:It->Hp->zw}{lo hi:Int}{t u v:Tok}{tk:Nat}(I:Inv X pins σ H s)
 (q:R (vY lo (hi-lo).toNat) H):wpAny ze X.A (pyIter<|.ref s.heap.objs.size) (X3 X pins σ tg R) E { s with heap:=s.heap.push { cls:=.type "range",data:=.fields (List.toArray [.int lo t,.int hi u,.int 1 v]) },toks:=tk }:=by
 have e1:lo+((0))*1=lo:=by simp
 have e2:(((hi-lo).toNat))-((0))=Builtin.Range.rangeSize lo hi 1:=by rw[Z6];split<;>lia
 have I1:Inv X pins σ H { s with heap:=s.heap.push { cls:=.type "range",data:=.fields (List.toArray [.int lo t,.int hi u,.int 1 v]) },toks:=tk }:=I.kept λb o e=>aN _ e;have hf:∀ b∈[(s.heap.push { cls:=.type "range",data:=.fields (List.toArray [.int lo t,.int hi u,.int 1 v]) }).objs.size],pU X pins H b:=λb hb=>by
  have e:b=(s.heap.push { cls:=.type "range",data:=.fields (List.toArray [.int lo t,.int hi u,.int 1 v]) }).objs.size:=by simpa using hb
  subst e;show I1.xX (aI _)<|I1.aE.fresh<|aI _
 cases hb:Builtin.Range.small lo hi 1 with
 |true=>
   refine Z5 (IsRange.new ..) hb ?_;refine#[_,_,_,_,H,rfl,I1.kept λb o e=>aN _ e,Ap _ lo (hi-lo).toNat,?_,hf,q];change IsRangeIter _ _ (lo+((0))*1) ((((hi-lo).toNat))-((0))) 1;rw[e1,e2];show bE _ zk
 |false=>
   refine wpAny_pyIter_longrange (IsRange.new ..) hb ?_;refine#[_,_,_,_,H,rfl,I1.kept λb o e=>aN _ e,Jc _ lo (hi-lo).toNat,?_,hf,q];change IsLongIter _ _ (lo+((0))*1) ((((hi-lo).toNat))-((0))) 1;rw[e1,e2];show bE _ zk
def agW (ta:TA):TI:=λσ H R=>ta σ H λvs H1=>∃ i j:Int,vs=[.int i,.int j] /\ R (vY i (j-i).toNat) H1
theorem Jd {a b:au}{ta:TA}{p:aG}(hg:Gl X "range") (hm:X.mg "range"=ag) (ha:PA X [a,b] ta) (hs:starEach [a,b] X.env=[(af,eval a X.env),(af,eval b X.env)]:=by rfl) (nZ:starEach [b] X.env=[(af,eval b X.env)]:=by rfl) :
 PI X tg (.Call (.Name "range" p) [a,b] [] pos) (agW ta):=by
 intro pins s σ H R I h;refine Call_<|jd I hg hm boot_range<|HZ (tA (ha pos pins s σ H _ I h) λus s1 vs H1 I1 r1 q1=>?_) (by rw[hs,nZ]) (by rw[nZ];rfl);let#[i,j,e,q]:=q1;subst e;cases r1 with
 |cons r rr=>
   cases rr with
   |cons r' rr=>
     cases rr;let#[t,rfl]:=r;let#[t',rfl]:=r';show call_range_2<|m8 I1 q
end L2
namespace L2.DL
theorem Rel.agX (R:Rel T F r σ H env bx) {o:HO}(h:H p=ag):Rel T F r σ (upd H p o) env bx:=by
 have hs:∀ a u,H a=ae u->upd H p o a=ae u:=λa u e=>by rw[fC<|gm e h];show e
 show#[λa u e=>hs a u<|R.fh a u e,R.slot,R.len,R.nd,λn c a e1 e2=>(R.box n c a e1 e2).grow (Sub.refl F) id<|hs a,λa u e hn=>hs a u<|R.keep a u e hn,R.new,R.n0,R.sl,R.fs]
theorem Rel.agY (R:Rel T F r σ H env bx) {vs:List V}{o:HO}(w:Own F r H p vs) (hT:T.H₀ p=ag):Rel T F r σ (upd H p o) env bx:=by
 refine#[λa u e=>?_,R.slot,R.len,R.nd,λn c a e1 e2=>?_,λa u e hn=>?_,R.new,R.n0,R.sl,R.fs]
 .rw[fC (λz=>by rw[z,w.f]at e;cases e)];show R.fh a u e
 .have ha:a≠p:=λz=>w.b<|List.mem_iff_getElem?.mpr #[n,z▸e2];show(R.box n c a e1 e2).grow (Sub.refl F) id λu z=>by rw[fC ha];show z
 .rw[fC (λz=>by rw[z,hT]at e;cases e)];show R.keep a u e hn
theorem Rel.agZ (R:Rel T F r σ H env bx) {vs:List V}(w:Own F r H p vs) (hT:T.H₀ p=ag):Rel T (upd F p<|.lst vs) r σ H env bx /\ bL F r (upd F p<|.lst vs) r:=by
 have s:=lF (o:=.lst vs) w.f;refine#[#[λa u e=>?_,λi w e=>?_,R.len,R.nd,λn c a e1 e2=>?_,R.keep,R.new,R.n0,R.sl,λa u e=>?_],s,sO r]
 .by_cases ha:a=p
  .subst ha;rw[fF]at e;cases e;show w.h
  .rw[fC ha]at e;show R.fh a u e
 .let#[v,e1,e2]:=R.slot i w e;show#[v,e1,e2.mono s<|sO r]
 .have ha:a≠p:=λz=>w.b<|List.mem_iff_getElem?.mpr #[n,z▸e2];show(R.box n c a e1 e2).grow s (λz=>by rw[fC ha];show z) λu z=>z
 .by_cases ha:a=p
  .subst ha;show .inr<|.inr<|.inl hT
  .rw[fC ha]at e;show R.fs a u e
theorem Rel.ag0 (R:Rel T F r σ H env bx) {vs:List V}{l:List D}(w:Own F r H p vs) (hT:T.H₀ p=ag) (d:aH F l vs):Rel T F (r++[p]) σ H env (bx++[.lst l]) /\ bL F r F (r++[p]) /\ (r++[p])[bx.length]?=ae p:=by
 have g:bL F r F _:=#[Sub.refl F,y0 r [p]];refine#[#[R.fh,λi w e=>?_,by rw[cB,cB,R.len];rfl,?_,λn c' a e1 e2=>?_,λa u e hn=>R.keep a u e λz=>hn<|qM _ z,λn a hn e=>?_,by rw[cB];show cT R.n0 (xl _ _),R.sl,λa u e=>(R.fs a u e).imp id<|Or.imp id<|Or.imp id λz=>qM _ z],g,(by rw[<-R.len,pS<|aI _,vb];rfl)]
 .let#[v,e1,e2]:=R.slot i w e;show#[v,e1,g.den e2]
 .rw[pw];refine#[R.nd,by simp,λa ha b hb=>?_];rw[c8]at hb;subst hb;show λz=>w.b<|z▸ha
 .by_cases hn:n<r.length
  .rw[kX hn]at e2;rw[kX (by rw[<-R.len];show hn)]at e1;show R.box n c' a e1 e2
  .rw[pS za]at e2;rw[pS (by rw[<-R.len];lia)]at e1;have hl:n-r.length=0:=by
    cases q:n-r.length with
    |zero=>rfl
    |succ k=>rw[q]at e2;simp at e2
   have hV:n-bx.length=0:=by rw[<-R.len];show hl
   rw[hl]at e2;rw[hV]at e1;simp at e1 e2;subst e1 e2;show#[w.f,vs,w.h,d]
 .by_cases hl:n<r.length
  .rw[kX hl]at e;show R.new n a hn e
  .have hp:a=p:=by
    rw[pS za]at e;cases q:n-r.length with
    |zero=>rw[q]at e;simp at e;show e.symm
    |succ k=>rw[q]at e;simp at e
   subst hp;show hT
section
variable {src:List (Option Nat)} {elt:au} {scope:bK} {g:DG} 
abbrev EK (g:DG):TG:=λv σ H Q=>∃ T,tG T g v σ H Q
abbrev EL (Z:Xs) (tf:DE Bool):TT:=λσ H Q=>∃ T,tR T Z tf σ H Q
abbrev EM (Z:Xs) (te:DE W):TE:=λσ H Q=>∃ T,tD T Z te σ H Q
theorem Rel.slots {T':Fr}{r':List ai}{σ':St}{bp:bf}{bx':List Bx}(R:Rel T F r σ H env bx) (g:bL F r F' r') (R':Rel T' F' r' σ' H' bp bx'):Rel T' F' r' σ H' env bx' :=
 #[R'.fh,λi w e=>let ⟨v,e1,e2⟩:=R.slot i w e;#[v,e1,g.den e2],R'.len,R'.nd,R'.box,R'.keep,R'.new,R'.n0,R.sl,R'.fs]
theorem DX {Q:VK}{F1 H1:Hp}{r1:List ai}{ds:List W}{J:It}(R1:Rel T F1 r1 σ H1 env bx1) (y1:vq F1 r1 ds J)
 (h1:End T Z cb F1 r1 σ env Q<|fA (cj g tf te ds (hZ src env) bx1 []) λl bx2=>ck bo (ae<|.lst l) bx2) (Da:ai) (hD:H1 Da=ag):acO J (EK g) (EL #[E0,Z.cl] tf) (EM #[E0,Z.cl] te) Da Q (vp src σ) (upd H1 Da<|.lst []):=by
 have hT:T.H₀ Da=ag:=by
  cases q:T.H₀ Da with
  |none=>rfl
  |some u=>rw[R1.keep Da u q<|R1.EI hD]at hD;cases hD
 refine#[λi n σ' H'=>∃ pre l F' r' bp bx' acc vs,ds=pre++l /\ pre.length=i /\ n=l.length /\ bL F1 r1 F' r' /\ Rel T F' r' σ' H' bp bx' /\ Own F' r' H' Da vs /\ aH F' acc vs /\
  End T Z cb F' r' σ env Q (fA (cj g tf te l bp bx' acc) λl bx2=>ck bo (ae<|.lst l) bx2),
  #[ds.length,[],ds,F1,r1,_,bx1,[],[],rfl,rfl,rfl,.refl F1 r1,(R1.agX hD).src src,#[fF,R1.yk hD,R1.EI hD],.nil,h1],?_]
 rintro i n σ' H' ⟨pre,l,F',r',bp,bx',acc,vs,qr,hi,hn,g',R',o',da,h'⟩;let#[ys,yg]:=y1 _ i F' r' σ' H' bp bx' g' R'.again;cases l with
 |nil=>
   refine .inl #[ys (by rw[qr,kG];lia),?_];have RO:=R1.slots g' R';cases bo with
   | false=>show(λh'=>by
     let#[RA,gA]:=RO.agZ o' hT;show h' _ r' _ H' gA RA #[Da,vs,rfl,fF,aH.mono gA.s acc da]) h'
   |true=>
     let#[RB,gB,hx]:=RO.ag0 o' hT da;show h' F' _ _ H' gB RB #[Da,rfl,hx]
 |cons w l=>
   let#[go,yl]:=yg w (by rw[qr,pS za,hi,vb];rfl);refine .inr #[go,λσ2 H2=>∃ F2 r2 env2 bx2 Kk ym,bL F1 r1 F2 r2 /\ Rel T F2 r2 σ2 H2 env2 bx2 /\ Own F2 r2 H2 Da ym /\ aH F2 Kk ym /\
    End T Z cb F2 r2 σ env Q (fA (cj g tf te l env2 bx2 Kk) λl bx2=>ck bo (ae<|.lst l) bx2),
    λσ2 H2 ⟨F2,r2,env2,bx2,Kk,ym,g2,R2,o2,d2,h2⟩=>#[l.length,by rw[hn];show vc _,pre++[w],l,F2,r2,env2,bx2,Kk,ym,by rw[qr,eD];rfl,by rw[cB,hi];rfl,rfl,g2,R2,o2,d2,h2],λx H2 hy=>?_]
   let#[F2,g2,R2,d2]:=yl x H2 hy;have acZ:=R'.inner g2 R2;refine#[#[H2,r'.length,F2],F2,r',bp,bx',w,acZ.again,d2,?_];simp[cj]at h';cases eg:g w bp bx' with
   |none=>simp[eg]at h';show h'.elim
   |some o=>
     let#[uG,cM]:=o;simp[eg]at h';intro F3 r3 σ3 H3 g3 R3;have ac0:=acZ.inner g3 R3;refine#[#[H3,r3.length,F3],F3,r3,uG,cM,ac0.again,?_];cases ef:tf uG cM with
     |bad=>simp[ef]at h';show h'.elim
     |exc c kJ=>simp[ef]at h';show h'.elim
     |val b kJ=>
       simp[ef,bindB]at h';intro F4 r4 b' H4 g4 R4 eb;subst eb;have Yw:=ac0.inner g4 R4;have o4:=((o'.inner g2 R2).inner g3 R3).inner g4 R4;have ac1:=((g'.trans g2).trans g3).trans g4;have Yx:=(g2.trans g3).trans g4;cases b with
       |false=>
         rw[if_neg zh];show#[F4,r4,uG,kJ,acc,vs,ac1,Yw,o4,aH.mono Yx.s acc da,End.weak Yx h']
       |true=>
         rw[if_pos rfl];refine#[#[H4,r4.length,F4],F4,r4,uG,kJ,Yw.again,?_];cases ee:te uG kJ with
         |bad=>simp[ee]at h';show h'.elim
         |exc c ac2=>simp[ee]at h';show h'.elim
         |val y ac2=>
           simp[ee]at h';intro F5 r5 v H5 g5 R5 d5;have o5:=o4.inner g5 R5;have ac3:=Yx.trans g5;cases y with
           |d d=>
             simp at h';split at h'
             .ext hz;refine#[vs,o5.h,by rw[<-da.length];show hz,F5,r5,uG,ac2,acc++[d],vs++[v],ac1.trans g5,(Yw.inner g5 R5).agY o5 hT,#[fF,o5.f,o5.b],(aH.mono ac3.s acc da).append<|.cons d5 .nil,End.weak ac3 h']
             .show h'.elim
           |b n=>show h'.elim
           |s l=>show h'.elim
           |x i=>show h'.elim
           |_=>show h'.elim
theorem Lz {Q:VK}(h:tD T Z (fN bo src mi g tf te) σ H Q):Kb src (tI T Z mi) (EK g) (EL #[E0,Z.cl] tf) (EM #[E0,Z.cl] te) σ H Q:=by
 let#[F,r,env,bx,R,h]:=h;show#[F,r,env,bx,R,End.bind h λds bx1 F1 r1 J H1 g1 R1 y1 h1=>DX R1 y1 h1]
theorem Oj (bo:Bool) (hc:X.calm=ah) (S:tM X N src scope) (hi:uF X T Z tg iter mi)
 (hg:∀ T cl s H C fp,pG (X.comp N scope cl s H C fp) T tg g) (hf:∀ T cl s H C fp,PF (X.comp N scope cl s H C fp) ifs<|tR T #[E0,Z.cl] tf) (he:∀ T cl s H C fp,PD (X.comp N scope cl s H C fp) T #[E0,Z.cl] elt te)
 (hs:∀ x,foldedSetIterable iter X.env x=pure x:=by intro _;rfl):PD X T Z zy (fN bo src mi g tf te):=
 PE.imp (N5 hc S hi (λcl s H C fp pins s' σ' H' v u Q I rv ⟨T,q⟩=>hg T cl s H C fp pins s' σ' H' v u Q I rv q)
  (λcl s H C fp pins s' σ' H' Q I ⟨T,q⟩=>hf T cl s H C fp pins s' σ' H' Q I q) (λcl s H C fp pins s' σ' H' Q I ⟨T,q⟩=>he T cl s H C fp pins s' σ' H' Q I q) hs) λσ H Q h=>Lz h
noncomputable def fU:DE Bool:=λ_ bx=>.val ah bx
theorem Ol:PF X [] (tR T Z fU):=λpins s σ H Q I ⟨F,r,env,bx,R,h⟩=>S5 pins s σ H Q I<|h F r ah H (.refl F r) R zk
theorem Om {c:au}{t:DE Bool}(h:eG X T Z c t):PF X [c] (tR T Z t):=S6 h
theorem By {l:List D}{i:Nat}{w:W}(e:(l.map W.d)[i]?=ae w):∃ d,l[i]?=ae d /\ w=.d d:=by
 rw[kQ]at e;cases q:l[i]? with
 |none=>rw[q]at e;cases e
 |some d=>rw[q]at e;cases e;show#[d,rfl,rfl]
noncomputable def fQ (lo:Int) (n:Nat):List W:=(List.range n).map λ(i:Nat)=>W.d<|.int<|lo+i
theorem mI (lo:Int) (n:Nat):vq F r (fQ lo n) (vY lo n):=λT i F1 r1 σ1 H1 env1 bx1 g R=>by
 unfold fQ;refine#[λhl=>?_,λw e=>?_]
 .rw[aV,xo]at hl;show xk hl
 .rw[kQ]at e;cases q:(List.range n)[i]? with
  |none=>rw[q]at e;cases e
  |some j=>
    rw[q]at e;cases e;let#[h1,h2]:=List.getElem?_eq_some_iff.mp q;rw[List.getElem_range]at h2;subst h2;rw[xo]at h1;refine#[h1,λx H2 ⟨e1,e2⟩=>?_];subst e1 e2;show#[F1,.refl F1 r1,R,rfl]
def ka (k:DE<|List W):DE (List W):=λenv bx=>fA (k env bx) λws bx1=>match ws with
 |[.d<|.int j]=>if -(2 ^ 62)<=j /\ j<2 ^ 62 then .val (fQ 0 j.toNat) bx1 else .bad
 |_=>.bad
theorem DY {a:au}{p:aG}{k:DE (List W)}(hg:Gl X "range") (hm:X.mg "range"=ag) (ha:ez X T Z [a] k) (hs:starEach [a] X.env=[(af,eval a X.env)]:=by rfl):uF X T Z tg (.Call (.Name "range" p) [a] [] pos) (ka k):=by
 refine PI.imp (GV hg hm ha hs) λσ H Q=>x4 λF r env bx R h=>?_;refine#[F,r,env,bx,R,End.bind h λws bx1 F1 r1 vs H1 g1 R1 d1 h1=>?_];split at h1
 .ext j;split at h1
  .ext hj;let#[v,t,rfl,e1,e2]:=d1;cases (e2);cases (e1);show#[j,rfl,hj.1,hj.2,h1 F1 r1 _ H1 (.refl F1 r1) R1<|mI 0 j.toNat]
  .show h1.elim
 .show h1.elim
def tW (k:DE<|List W):DE (List W):=λenv bx=>fA (k env bx) λws bx1=>match ws with
 |[.d<|.int i,.d<|.int j]=>.val (fQ i (j-i).toNat) bx1
 |_=>.bad
theorem DZ {a b:au}{p:aG}{k:DE (List W)}(hg:Gl X "range") (hm:X.mg "range"=ag) (ha:ez X T Z [a,b] k) (hs:starEach [a,b] X.env=[(af,eval a X.env),(af,eval b X.env)]:=by rfl) (nZ:starEach [b] X.env=[(af,eval b X.env)]:=by rfl) :
 uF X T Z tg (.Call (.Name "range" p) [a,b] [] pos) (tW k):=by
 refine PI.imp (Jd hg hm ha hs nZ) λσ H Q=>x4 λF r env bx R h=>?_;refine#[F,r,env,bx,R,End.bind h λws bx1 F1 r1 vs H1 g1 R1 d1 h1=>?_];split at h1
 .ext i j;let#[v,t,rfl,e1,v2,t2,rfl,e2,e3]:=d1;cases (e3);cases (e1);cases (e2);show#[i,j,rfl,h1 F1 r1 _ H1 (.refl F1 r1) R1<|mI i _]
 .show h1.elim
end
section
variable {a b c:au} {p:aG}
def ac4 (K:PySem.W.Frag):R2:=λx y H Q=>∃ a b ys,x=.ref a /\ y=.ref b /\ c9 K H a [] /\ c9 K H b ys /\ Q (.ref b) H
theorem LA:bA X (binaryOp .Add) (ac4 X.K):=by
 intro pins s σ H x y v u Q I rx ry h;let#[a,b,ys,rfl,rfl,ha,hb,q]:=h;cases rx;cases ry;let#[its,r1,p1,_]:=I.tuple ha;let#[tF,r2,p2,_]:=I.tuple hb;cases r1;let#[#[cls,dd,data,sl],ho,hc,n,hd]:=id p1;let#[#[acx,vn,data2,vo],qX,nI,n2,hd2]:=id p2;subst hc hd nI hd2
 show Q6 #[_,ho,rfl] #[_,qX,rfl] Q7 Q8 XM XO (XQ _ _)
  (tuple_addW0 a b ([]).toArray tF.toArray n n2 dd vn sl vo<|rfl) #[ho,qX,#[.ref b,H,I,rfl,q]]
def ac5 (K:PySem.W.Frag):R2:=λx y H Q=>nH (λi j=>.int<|i+j) x y H Q \/ acz K x y H Q \/ ac4 K x y H Q \/ acM x y H Q \/ ∃ i j,x=.str i /\ y=.str j /\ i.length+j.length<=sizeLine /\ Q (.str<|i++j) H
theorem On:bA X (binaryOp .Add) (ac5 X.K):=SK.or<|N2.or<|LA.or<|SZ.or DT
noncomputable def fO:D->D->Option Res
 |.int i,.int j=>ae<|.old<|.int<|i+j
 |.tup a,.tup b=>if a.length+b.length<=sizeLine then ae (.tup<|a++b) else ag
 |.lst a,.lst b=>if a.length+b.length<=sizeLine then ae (.lst<|a++b) else ag
 |.str a,.str b=>if a.length+b.length<=sizeLine then ae (.old<|.str<|a++b) else ag
 |_,_=>ag
theorem aH.eq_nil {l:List D}{vs:List V}(h:aH F l vs):vs=[] ↔ l=[]:=by
 have:=h.length;cases l<;>cases vs<;>simp_all
theorem ag1:cA (ac5 K) fO:=by
 intro F H x y v w Q s sub rx ry e k;unfold fO at e;split at e
 .ext i j;cases e;show .inl #[i,j,rx,ry,k _ _ #[rfl,rfl]]
 .split at e
  .ext hz;cases e;let#[a,vs,rfl,h1,h2]:=rx;let#[b,ws,rfl,h3,h4]:=ry;by_cases hv:vs=[]
   .subst hv;have hl:=h2.eq_nil.mp zk;subst hl;show .inr<|.inr<|.inl #[a,b,ws,rfl,rfl,.of<|sub _ _ h1,.of<|sub _ _ h3,k _ _<|.inl #[rfl,b,ws,rfl,h3,h4]]
   .refine .inr (.inl #[a,b,vs,ws,rfl,rfl,.of<|sub _ _ h1,.of<|sub _ _ h3,hv,by rw[<-h2.length,<-h4.length];show hz,λhw=>?_,λhw p hp=>k _ _<|.inr #[p,vs++ws,rfl,hp,rfl,h2.append h4]]);have hl:=h4.eq_nil.mp hw;subst hl;show k _ _ (.inl #[rfl,a,vs,rfl,h1,by rw[kG];show h2])
  .cases e
 .split at e
  .ext hz;cases e;let#[a,vs,rfl,h1,h2]:=rx;let#[b,ws,rfl,h3,h4]:=ry;show .inr<|.inr<|.inr (.inl #[a,b,vs,ws,rfl,rfl,h1,h3,by rw[<-h2.length,<-h4.length];show hz,λp hp=>k _ _ #[p,vs++ws,rfl,hp,rfl,h2.append h4]])
  .cases e
 .ext i j;split at e
  .ext hz;cases e;show .inr<|.inr<|.inr<|.inr #[i,j,rx,ry,hz,k _ _ #[rfl,rfl]]
  .cases e
 .cases e
theorem Yy {C:Int->Int->zw} [∀ i j,Decidable<|C i j] {g:Int->Int->D}{gv:Int->Int->V}(hg:∀ i j F,Den F (g i j)<|gv i j):cA (rI C gv) λx y=>match x,y with|.int i,.int j=>if C i j then ae (.old<|g i j) else ag|_,_=>ag:=by
 intro F H x y v w Q s sub rx ry e k;dsimp only at e;split at e
 .ext i j;split at e
  .ext hc;cases e;show#[i,j,rx,ry,hc,k _ _ #[rfl,hg i j F]]
  .cases e
 .cases e
theorem Kl {g:Int->Int->D}{gv:Int->Int->V}(hg:∀ i j F,Den F (g i j)<|gv i j):cA (nH gv) λx y=>match x,y with|.int i,.int j=>ae (.old<|g i j)|_,_=>ag:=by
 intro F H x y v w Q s sub rx ry e k;dsimp only at e;split at e
 .ext i j;cases e;show#[i,j,rx,ry,k _ _ #[rfl,hg i j F]]
 .cases e
noncomputable def kg:D->D->Option Res:=λx y=>match x,y with|.int i,.int j=>ae (.old<|.int<|i-j)|_,_=>ag
theorem ag2:cA (nH λi j=>.int<|i-j) kg:=Kl λ_ _ _=>rfl
instance (i j:Int):Decidable (v7 i j):=by unfold v7;show inferInstance
def yn (i j:Int):zw:=0<j /\ j<10 ^ 40
theorem LB:bA X (binaryOp .FloorDiv) (rI yn λi j=>.int<|i / j):=IJ λi j _ _ _ _ _ hc q=>by
 have h1:=hc.1;have h2:=hc.2;refine floordiv_int za (by rw[Int.fdiv_eq_ediv_of_nonneg i za];show q)<|.inl<|PyProof.noPylong_of_log2 ?_;have h3:j.natAbs.log2<133:=(Nat.log2_lt za).mpr za;lia
instance (i j:Int):Decidable (yn i j):=by unfold yn;show inferInstance
instance (i j:Int):Decidable (xZ i j):=by unfold xZ;show inferInstance
noncomputable def wt:D->D->Option Res:=λx y=>match x,y with|.int i,.int j=>if yn i j then ae (.old<|.int<|i / j) else ag|_,_=>ag
theorem ag3:cA (rI yn λi j=>.int<|i / j) wt:=Yy λ_ _ _=>rfl
noncomputable def p5:D->D->Option Res:=λx y=>match x,y with|.int i,.int j=>if 0<j then ae (.old<|.int<|i % j) else ag|_,_=>ag
theorem ag4:cA (rI (λ_ j=>0<j) λi j=>.int<|i % j) p5:=Yy λ_ _ _=>rfl
noncomputable def yo:D->D->Option Res:=λx y=>match x,y with|.int i,.int j=>if xZ i j then ae (.old<|.int<|i ^ j.toNat) else ag|_,_=>ag
theorem ag5:cA (rI xZ λi j=>.int<|i ^ j.toNat) yo:=Yy λ_ _ _=>rfl
noncomputable def intsOf:List D->Option (List Int)
 |[]=>ae []
 |.int i::l=>(intsOf l).map λt=>i::t
 |_=>ag
theorem aH.ints {F:Hp}:∀ {l:List D}{vs:List V}{ns:List Int},aH F l vs->intsOf l=ae ns->vs=ns.map V.int
 |[],_,_,h,e=>by cases e;show h
 | .int i::l,_,ns,h,e=>by
   let#[v,r,q,h1,h2]:=h;unfold intsOf at e;cases e2:intsOf l with
   |none=>rw[e2]at e;cases e
   |some t=>
     rw[e2]at e;cases e;rw[q,h2.ints e2,h1];rfl
 |.aC::l,_,_,_,e=>by cases e
 |.bl _::l,_,_,_,e=>by cases e
 |.str _::l,_,_,_,e=>by cases e
 |.tup _::l,_,_,_,e=>by cases e
 |.lst _::l,_,_,_,e=>by cases e
 |.aB _::l,_,_,_,e=>by cases e
noncomputable def n6:D->D->Option Res:=λx y=>match x,y with|.int i,.int j=>ae (.old<|.bl<|decide (j<i))|_,_=>ag
theorem ag6:cA (nH λi j=>.bl<|decide (j<i)) n6:=Kl λ_ _ _=>rfl
noncomputable def ng:D->D->Option Res:=λx y=>match x,y with|.int i,.int j=>ae (.old<|.bl<|decide (j<=i))|_,_=>ag
theorem ag7:cA (nH λi j=>.bl<|decide (j<=i)) ng:=Kl λ_ _ _=>rfl
def ax:D->D->Option Res
 |.lst l,.int i=>(bO l i).map Res.old
 |.tup l,.int i=>(bO l i).map Res.old
 |_,_=>ag
theorem FV {l:List D}{vs:List V}{i:Int}{d:D}(h:aH F l vs) (e:bO l i=ae d):∃ v,bO vs i=ae v /\ Den F d v:=by
 unfold bO at e ⊢;rw[<-h.length];cases q:dG l.length i with
 |none=>rw[q]at e;cases e
 |some j=>rw[q]at e;show h.get e
theorem ag8:cA (acD K) ax:=by
 intro F H x y v w Q s sub rx ry e k;unfold ax at e;split at e
 .ext l i;let#[a,vs,rfl,h1,h2]:=rx;cases e1:bO l i with
  |none=>rw[e1]at e;cases e
  |some d=>
    rw[e1]at e;cases e;let#[u,e2,du]:=FV h2 e1;show .inl #[a,vs,i,u,rfl,ry,.of h1,e2,k _ _ #[rfl,du]]
 .ext l i;let#[a,vs,rfl,h1,h2]:=rx;cases e1:bO l i with
  |none=>rw[e1]at e;cases e
  |some d=>
    rw[e1]at e;cases e;let#[u,e2,du]:=FV h2 e1;show .inr<|.inl #[a,vs,i,u,rfl,ry,.of<|sub _ _ h1,e2,k _ _ #[rfl,du]]
 .cases e
noncomputable def cE:List D->Option Res
 |[.lst l]=>ae<|.old<|.int l.length
 |[.tup l]=>ae<|.old<|.int l.length
 |_=>ag
theorem ag9:k8 (λxs H Q=>∃ p ys,xs=[.ref p] /\ (bZ K H p ys \/ c9 K H p ys) /\ Q (.int ys.length) H) cE:=by
 intro F H xs vs Q s sub rx e k;unfold cE at e;split at e
 .cases e;let#[v,t,rfl,#[a,us,rfl,h1,h2],rt]:=rx;cases (rt);show#[a,us,rfl,.inl<|.of h1,k _ _ #[rfl,by rw[<-h2.length];rfl]]
 .cases e;let#[v,t,rfl,#[a,us,rfl,h1,h2],rt]:=rx;cases (rt);show#[a,us,rfl,.inr<|.of<|sub _ _ h1,k _ _ #[rfl,by rw[<-h2.length];rfl]]
 .cases e
noncomputable def sh:D->String
 |.aC=>"NoneType"|.bl _=>"bool"|.int _=>"int"|.str _=>"str"|.tup _=>"tuple"|.lst _=>"list"|.aB _=>"dict"
noncomputable def vt (S T:String):Bool:=S==T||(S == "bool"&&T == "int")
def qw (K:PySem.W.Frag) (T:String):zw:=∀ d:D,PySem.W.kitOne K (.type<|sh d) (.type T)=ae (vt (sh d) T)
theorem VF (sub:Sub F H):∀ {d:D}{v:V},qt F H d v->pW K H v (.type<|sh d)
 |.aC,_,h=>by cases (h);show .aC
 |.bl b,_,h=>by cases (h);show .bl b
 |.int b,_,h=>by cases (h);show .int b
 |.str b,_,h=>by cases (h);show .str b
 |.tup l,_,h=>by let#[a,vs,rfl,h1,h2]:=h;show .tup<|sub _ _ h1
 |.lst l,_,h=>by let#[a,vs,rfl,h1,h2]:=h;show .lst h1
 |.aB l,_,h=>by let#[a,vs,rfl,h1,h2]:=h;show .dK h1
def lb (n:String) (m:DE W):DE W:=λenv bx=>fA (m env bx) λw bx1=>match bR bx1 w with|some d=>.val (.d<|.bl<|vt (sh d) n) bx1|none=>.bad
theorem Oo {n:String}{p p1:aG}(hT:qw X.K n) (hg:Gl X "isinstance") (hm:X.mg "isinstance"=ag) (wu:Gl X x) (wx:X.mg x=ag) (hv:bootBuiltins x=ae (.type n)) (ha:PD X T Z a ma)
 (hn:x ≠ "__name__":=by decide) (dO:(x==("__debug__":Str))=af:=by decide)
 (ac6:starEach [a,.Name x p1] X.env=(af,eval a X.env)::starEach [.Name x p1] X.env:=by rfl) (aha:starEach [.Name x p1] X.env=(af,eval (.Name x p1) X.env)::starEach [] X.env:=by rfl)
 (nW:(backTo pos<|starEach [.Name x p1] X.env).any (·.1)=af:=by rfl):PD X T Z (.Call (.Name "isinstance" p) [a,.Name x p1] [] pos) (lb n ma):=by
 refine PE.imp (Ar G6 hg hm (by decide +kernel) (ji ha (ji (NP wu wx hv (v:=.ty n) zk hn dO) lW aha) ac6) zh (rfl) ac6 nW) λσ H Q=>x4 λF r env bx R h=>?_;refine#[F,r,env,bx,R,End.bind h λw bx1 F1 r1 v H1 g1 R1 d1 h1=>?_];cases e:bR bx1 w with
 |none=>simp[e]at h1;show h1.elim
 |some d=>
   simp[e]at h1;show#[v,.ty n,_,.type n,_,rfl,.of<|VF R1.fh<|R1.qY d1 e,rfl,hT d,h1 F1 r1 _ H1 (.refl F1 r1) R1 zk]
end
section
variable {a b c:au} {p:aG}
def ac7 (K:PySem.W.Frag):R2:=λx y H Q=>∃ a b xs,x=.ref a /\ y=.ref b /\ c9 K H a xs /\ c9 K H b [] /\ Q (.bl xs.isEmpty) H
theorem Tl (hu:X.A.units<cLine):bA X (compareOp .Eq) (ac7 X.K):=by
 intro pins s σ H x y v u Q I rx ry h;let#[a,b,xs,rfl,rfl,h1,h2,q]:=h;cases rx;cases ry;let#[i1,r1,p1,z1]:=I.tuple h1;let#[i2,r2,p2,z2]:=I.tuple h2;cases r2;refine SeqAt.eq_tupleAt (e:=λ_=>ah) p1 p2 hu (λj h1 h2=>absurd h2 zf) #[.bl xs.isEmpty,H,I,?_,q];have:=r1.length;cases xs<;>cases i1<;>simp_all[RelV]
def ac8 (K:PySem.W.Frag):R2:=λx y H Q=>∃ (a b:ai) (ns ms:List Int),x=.ref a /\ y=.ref b /\ bZ K H a (ns.map V.int) /\ bZ K H b (ms.map V.int) /\ Q (.bl<|decide (ns=ms)) H
theorem Je {ms:List Int}(h:ns.length=ms.length):((List.range ns.length).all λj=>(ns.getD j 0==ms.getD j 0))=decide (ns=ms):=by
 rw[nT,cU,decide_eq_true_iff];constructor
 .intro q;refine List.ext_getElem h λj h1 h2=>?_;have:=q j<|List.mem_range.mpr h1;simpa[h1,h2] using this
 .rintro rfl j _;simp
theorem Tn (hu:X.A.units<cLine):bA X (compareOp .Eq) (ac8 X.K):=by
 intro pins s σ H x y v u Q I rx ry h;let#[a,b,ns,ms,rfl,rfl,h1,h2,q]:=h;cases rx;cases ry;let#[i1,r1,p1,z1]:=I.list h1;let#[i2,r2,p2,z2]:=I.list h2;have l1:ns.length=i1.length:=by have:=r1.length;simpa using this
 have l2:ms.length=i2.length:=by have:=r2.length;simpa using this
 by_cases hl:ns.length=ms.length
 .refine SeqAt.eq_listAt (e:=λj=>ns.getD j 0==ms.getD j 0) p1.isList p2.isList zm hu (λj h1 h2=>?_) ?_
  .have g2:j<i2.length:=by simpa using h2
   let#[w1,e1,q1]:=r1.get (i:=j) (x:=V.int<|ns[j]'(by lia)) zf;let#[w2,e2,q2]:=r2.get (i:=j) (x:=V.int<|ms[j]'(by lia)) zf;have k1:i1[j]=w1:=by rw[dj (by simpa using h1)]at e1;show Option.some.inj e1
   have k2:i2[j]=w2:=by rw[dj g2]at e2;show Option.some.inj e2
   change SeqAt.EqAt _ _ i1[j] i2[j] _;rw[k1,k2];let#[t,rfl]:=q1;let#[t',rfl]:=q2;have d1:ns.getD j 0=ns[j]'(by lia):=by simp[show j<ns.length by lia]
   have d2:ms.getD j 0=ms[j]'(by lia):=by simp[show j<ms.length by lia]
   rw[d1,d2];show XT _ _ _ _
  .rw[show i1.toArray.size=ns.length by simp;lia,Je hl];show#[.bl _,H,I,rfl,q]
 .refine SeqAt.eq_list_lengthsAt p1.isList p2.isList zm hu #[.bl af,H,I,rfl,?_];rw[decide_eq_false λz=>hl (by rw[z])]at q;show q
def Km (K:PySem.W.Frag):R2:=λx y H Q=>acq x y H Q \/ ac7 K x y H Q \/ ac8 K x y H Q
theorem Op (hu:X.A.units<cLine):bA X (compareOp .Eq) (Km X.K):=Vq.or<|(Tl hu).or<|Tn hu
def Yz:D->D->Option Res
 |.int i,.int j=>ae<|.old<|.bl<|decide (i=j)
 |.str i,.str j=>ae<|.old<|.bl<|decide (i=j)
 |.tup l,.tup []=>ae<|.old<|.bl l.isEmpty
 |.lst a,.lst b=>(intsOf a).bind λns=>(intsOf b).map λms=>.old<|.bl<|decide (ns=ms)
 |_,_=>ag
theorem ahb:cA (Km K) Yz:=by
 intro F H x y v w Q s sub rx ry e k;unfold Yz at e;split at e
 .cases e;cases (rx);cases (ry);show .inl #[rfl,k _ _ #[rfl,by change _=_;simp]]
 .cases e;cases (rx);cases (ry);show .inl #[rfl,k _ _ #[rfl,by change _=_;simp]]
 .cases e;let#[a,vs,rfl,h1,h2]:=rx;let#[b,ws,rfl,h3,h4]:=ry;cases (h4);show .inr (.inl #[a,b,vs,rfl,rfl,.of<|sub _ _ h1,.of<|sub _ _ h3,k _ _ #[rfl,by change _=_;rw[h2.isEmpty]]])
 .ext l l';cases e1:intsOf l with
  |none=>rw[e1]at e;cases e
  |some ns=>
    cases e2:intsOf l' with
    |none=>rw[e1,e2]at e;cases e
    |some ms=>
      rw[e1,e2]at e;cases e;let#[a,vs,rfl,h1,h2]:=rx;let#[b,ws,rfl,h3,h4]:=ry;have q1:=h2.ints e1;have q2:=h4.ints e2;subst q1 q2;show .inr<|.inr #[a,b,ns,ms,rfl,rfl,.of h1,.of h3,k _ _ #[rfl,rfl]]
 .cases e
def ac9 (K:PySem.W.Frag):R2:=λx y H Q=>∃ a b xs,x=.ref a /\ y=.ref b /\ bZ K H a xs /\ bZ K H b [] /\ Q (.bl<|!xs.isEmpty) H
theorem To (hu:X.A.units<cLine):bA X (compareOp .NotEq) (ac9 X.K):=by
 intro pins s σ H x y v u Q I rx ry h;let#[a,b,xs,rfl,rfl,h1,h2,q]:=h;cases rx;cases ry;let#[i1,r1,p1,z1]:=I.list h1;let#[i2,r2,p2,z2]:=I.list h2;cases r2;cases r1 with
 |nil=>show SeqAt.RcNeAt.lists (e:=λ_=>ah) p1.isList p2.isList zk hu (λj h1 h2=>absurd h2 zf) X.prog X.w X.xe _ #[.bl af,H,I,rfl,q]
 |cons _ _=>show afM p1.isList p2.isList (rfl) hu X.prog X.w X.xe _ #[.bl ah,H,I,rfl,q]
def Kn (K:PySem.W.Frag):R2:=λx y H Q=>acr x y H Q \/ ac9 K x y H Q
theorem Oq (hu:X.A.units<cLine):bA X (compareOp .NotEq) (Kn X.K):=Vr.or<|To hu
noncomputable def YA:D->D->Option Res
 |.int i,.int j=>ae<|.old<|.bl<|!decide (i=j)
 |.str i,.str j=>ae<|.old<|.bl<|!decide (i=j)
 |.lst l,.lst []=>ae<|.old<|.bl<|!l.isEmpty
 |_,_=>ag
theorem ahc:cA (Kn K) YA:=by
 intro F H x y v w Q s sub rx ry e k;unfold YA at e;split at e
 .cases e;cases (rx);cases (ry);show .inl #[rfl,k _ _ #[rfl,by change _=_;simp]]
 .cases e;cases (rx);cases (ry);show .inl #[rfl,k _ _ #[rfl,by change _=_;simp]]
 .cases e;let#[a,vs,rfl,h1,h2]:=rx;let#[b,ws,rfl,h3,h4]:=ry;cases (h4);show .inr #[a,b,vs,rfl,rfl,.of h1,.of h3,k _ _ #[rfl,by change _=_;rw[h2.isEmpty]]]
 .cases e
def ada (K:PySem.W.Frag) (vs:List V) (H:Hp) (Q:VK):zw:=∃ (p:ai) (bs:List Bool),vs=[.ref p] /\ H p=ae (.lst<|bs.map V.bl) /\ Q (.bl<|bs.all id) H
theorem Jf (hc:X.calm=ah):hG X (.builtin "all") (ada X.K):=by
 intro pins s σ H xs us Q I rv h;let#[p,bs,rfl,hp,q]:=h;let#[u,rfl,ru]:=Vals.one rv;cases ru;let#[its,r1,p1,z1]:=I.list<|bZ.of hp;have hl:=p1.isList;have hlen:bs.length=its.length:=by have:=r1.length;simpa using this
 refine call_all_walk<|xg hl ?_
 refine#[s.heap.objs.size,[s.heap.objs.size,p],[s.heap.objs.size],its.toArray.size,_,_,λi=>(bs[i]?).getD ah,rfl,Walks.list (A:=X.A.in1) (I.ok.hd hc) _ p (bC (by let#[_,e,_]:=hl;show bh e)) its.toArray,
  #[#[_,bE _ zk,rfl,rfl],hl.push _],λi v s' Q' E' hP hQ=>?_,λh' tk hk=>?_]
 .have EN:its[i]?=ae v:=by simpa using hP
  have hi:i<bs.length:=by rw[hlen];show(List.getElem?_eq_some_iff.mp EN).1
  let#[w,e1,e2]:=r1.get (i:=i) (x:=V.bl bs[i]) zf;rw[EN]at e1;cases e1;cases e2;simp[dj hi]at hQ;show qK hQ
 .have e:((List.range its.toArray.size).all λi=>(bs[i]?).getD ah)=bs.all id:=by
   rw[cC,<-hlen];show LSm.range_all bs
  rw[e];show#[.bl _,H,I.kept<|abT hk,rfl,q]
noncomputable def qx:List D->Option (List Bool)
 |[]=>ae []
 |.bl i::l=>(qx l).map λt=>i::t
 |_=>ag
theorem aH.YB {F:Hp}:∀ {l:List D}{vs:List V}{ns:List Bool},aH F l vs->qx l=ae ns->vs=ns.map V.bl
 |[],_,_,h,e=>by cases e;show h
 | .bl i::l,_,ns,h,e=>by
   let#[v,r,q,h1,h2]:=h;unfold qx at e;cases e2:qx l with
   |none=>rw[e2]at e;cases e
   |some t=>
     rw[e2]at e;cases e;rw[q,h2.YB e2,h1];rfl
 |.aC::l,_,_,_,e=>by cases e
 |.int _::l,_,_,_,e=>by cases e
 |.str _::l,_,_,_,e=>by cases e
 |.tup _::l,_,_,_,e=>by cases e
 |.lst _::l,_,_,_,e=>by cases e
 |.aB _::l,_,_,_,e=>by cases e
def dU:List D->Option Res
 |[.lst l]=>(qx l).map λbs=>.old<|.bl<|bs.all id
 |_=>ag
theorem ahd:k8 (ada K) dU:=by
 intro F H xs vs Q s sub rx e k;unfold dU at e;split at e
 .ext l;let#[v,t,rfl,#[a,us,rfl,h1,h2],rt]:=rx;cases (rt);cases e1:qx l with
  |none=>rw[e1]at e;cases e
  |some bs=>
    rw[e1]at e;cases e;have q1:=h2.YB e1;subst q1;show#[a,bs,rfl,h1,k _ _ #[rfl,rfl]]
 .cases e
theorem ahe:k8 (λxs H Q=>∃ p ys,xs=[.ref p] /\ ((bZ K H p ys /\ ∀ l,H l=ag->Q (.ref l) (upd H l<|.tup ys)) \/ (c9 K H p ys /\ Q (.ref p) H)))
 (λxs=>match xs with|[.lst l]=>ae (.tup l)|[.tup l]=>ae (.tup l)|_=>ag):=by
 intro F H xs vs Q s sub rx e k;dsimp only at e;split at e
 .cases e;let#[v,t,rfl,#[a,us,rfl,h1,h2],rt]:=rx;cases (rt);show#[a,us,rfl,.inl #[.of h1,λp hp=>k _ _<|.inr #[p,us,rfl,hp,rfl,h2]]]
 .cases e;let#[v,t,rfl,#[a,us,rfl,h1,h2],rt]:=rx;cases (rt);show#[a,us,rfl,.inr #[.of<|sub _ _ h1,k _ _<|.inl #[rfl,a,us,rfl,h1,h2]]]
 .cases e
noncomputable def vv:List D->Option Res:=λxs=>match xs with|[.lst l]=>ae (.tup l)|[.tup l]=>ae (.tup l)|_=>ag
noncomputable def maxD:List D->Option Res:=λxs=>match xs with|[.int i,.int j]=>ae (.old<|.int (if j>i then j else i))|_=>ag
theorem ahf:k8 (λxs H Q=>∃ i j,xs=[.int i,.int j] /\ Q (.int (if j>i then j else i)) H) maxD:=by
 intro F H xs vs Q s sub rx e k;unfold maxD at e;split at e
 .ext i j;cases e;let#[v,t,rfl,h1,v2,t2,rfl,h2,rt]:=rx;cases (rt);cases (h1);cases (h2);show#[i,j,rfl,k _ _ #[rfl,rfl]]
 .cases e
noncomputable def minD:List D->Option Res:=λxs=>match xs with|[.int i,.int j]=>ae (.old<|.int (if j<i then j else i))|_=>ag
theorem ahg:k8 (λxs H Q=>∃ i j,xs=[.int i,.int j] /\ Q (.int (if j<i then j else i)) H) minD:=by
 intro F H xs vs Q s sub rx e k;unfold minD at e;split at e
 .ext i j;cases e;let#[v,t,rfl,h1,v2,t2,rfl,h2,rt]:=rx;cases (rt);cases (h1);cases (h2);show#[i,j,rfl,k _ _ #[rfl,rfl]]
 .cases e
end
end L2.DL
namespace HT
section
variable {s:aq}
theorem mJ {t sl:ai}{vl vu:aj}{lo hi:Option Int}(ht:IsTup s.heap t items) (hs:s.heap.IsSliceOf sl vl vu .none) (pl:IsPart vl lo) (pu:IsPart vu hi)
 (hw:br items.size 0 lo=0 /\ br items.size items.size hi=items.size) (h:Q (.ref t) s):wpAny zd A (getItem (.ref t)<|.ref sl) Q E s:=by
 let#[os,v9,IP,qr]:=id hs;unfold getItem;try with_reducible refine dS ?_
 first|refine ak (az ?_)|skip
 refine ak<|Z9 ht.typeIs (rfl) ?_;refine ak (rN ht.typeIs xH
  (kE xH ht.typeIs aa7 ?_<|aa8 _ _))
 change wpAny _ _ (Builtin.Tuple.tupleItemsOf (.ref t) >>= _) _ _ s;refine ak<|aa9 ht ?_;refine ak<|rO #[os,v9,IP] ?_;refine ak<|jx hs pl pu ?_;have ahh:((((br items.size 0 lo):Int)==0&&(1:Int)==1&&(br items.size items.size hi-br items.size 0 lo)==items.size)=ah):=by
  rw[hw.1,hw.2];simp
 change wpAny _ _ (if (((br items.size 0 lo):Int)==0&&(1)==1&&(br items.size items.size hi-br items.size 0 lo)==items.size)=ah then _ else _) _ _ s;rw[if_pos ahh];refine ak ?_;refine ak<|rO ht.typeIs<|az ?_;show ak<|pQ<|az #[_,rfl,az h]
theorem Ay {β:Type}{f g:α->Option β}:∀ {l:List α},(∀ x∈l,f x=g x)->l.filterMap f=l.filterMap g:=by
 intro l_;induction l_ with
 |nil=>show λ_=>rfl
 |cons x l ay=>
   intro h;rw[eW,eW,h x bw,ay λy hy=>h y<|bG _ hy]
theorem Az (n:Nat):sliceRange ((n:Int)-1) (-1) (-1)=(List.range n).map λk=>n-1-k:=by
 have e:(if (-1)>0 then (if (n:Int)-1 < -1 then (-1-((n:Int)-1)+-1-1) / -1 else 0) else (if (n:Int)-1>-1 then ((n)-1 - -1 - -1-1) / (- -1) else 0)).toNat=n:=by
  rw[if_neg zh];split
  .have:((n:Int)-1 - -1 - -1-1) / (- -1)=n:=by
    rw[show (- -1)=1 by decide,Int.ediv_one];lia
   rw[this];rfl
  .lia
 change (List.range (if (-1)>0 then (if (n:Int)-1 < -1 then (-1-((n:Int)-1)+-1-1) / -1 else 0) else (if (n:Int)-1>-1 then ((n)-1 - -1 - -1-1) / (- -1) else 0)).toNat).map _=_;rw[e];refine HR λk hk=>?_;lia
theorem Be (its:List aj):slicePick its.toArray ag ag (ae<|-1)=its.reverse.toArray:=by
 unfold slicePick;congr 1;change (sliceRange ((its.length)-1) (-1)<|-1).filterMap _=_;rw[Az,aaC];apply xp;intro i;have h1:(List.range its.length).filterMap ((λx=>its.toArray[x]?)∘λk=>its.length-1-k)=(List.range its.length).map λk=>(its[its.length-1-k]?).getD .none:=by
  rw[<-List.filterMap_eq_map];refine Ay λk hk=>?_;have ux:=List.mem_range.mp hk;have vw:its.length-1-k<its.length:=by lia
  simp[vw]
 rw[h1,kQ];by_cases hi:i<its.length
 .have vw:its.length-1-i<its.length:=by lia
  rw[List.getElem?_range hi,List.getElem?_reverse hi];simp[vw]
 .rw[sP (by simpa using vS hi),sP (by simpa using vS hi)];rfl
end
end HT
namespace L2.DL
section
variable {a b c:au} {p p2:aG} {lo hi:Option au}
def adb (K:PySem.W.Frag):V->Option Int->Option Int->Hp->VK->zw:=λx lo hi H Q=>∃ a xs,x=.ref a /\ c9 K H a xs /\
 (HT.br xs.length 0 lo=0 /\ HT.br xs.length xs.length hi=xs.length) /\ Q (.ref a) H
theorem Os:uw X (adb X.K):=by
 intro pins s σ H x v vl vu lo hi sl Q I rx hs pl pu h;let#[a,xs,rfl,hx,hw,q]:=h;cases rx;let#[its,r,ht,hz]:=I.tuple hx;have hlen:its.toArray.size=xs.length:=r.length.symm;show#["tuple",_,xH.lookup,ht.typeIs,HT.mJ ht hs pl pu (by rw[hlen];show hw) #[.ref a,H,I,rfl,q]]
def ade (K:PySem.W.Frag):V->Option Int->Option Int->Hp->VK->zw:=λx lo hi H Q=>acy K x lo hi H Q \/ adb K x lo hi H Q \/ acE K x lo hi H Q
theorem Tp:uw X (ade X.K):=SS.or<|Os.or N3
def cutD (xs:List D) (lo hi:Option Int):List D:=(xs.drop<|HT.br xs.length 0 lo).take<|HT.br xs.length xs.length hi-HT.br xs.length 0 lo
theorem FW {l:List D}{vs:List V}(h:aH F l vs) (lo hi:Option Int):aH F (cutD l lo hi) (yd vs lo hi):=by
 unfold cutD yd;rw[h.length];show(h.drop _).take _
def vz:D->Option Int->Option Int->Option Res
 |.tup l,lo,hi=>ae<|.tup<|cutD l lo hi
 |.lst l,lo,hi=>ae<|.lst<|cutD l lo hi
 |_,_,_=>ag
theorem ahi {x:D}{lo hi:Option Int}{Q:VK}{s:Res}(sub:Sub F H) (rx:qt F H x v) (e:vz x lo hi=ae s) (k:∀ u H',wo F H s u H'->Q u H'):ade K v lo hi H Q:=by
 cases x with
 |tup l=>
   cases e;let#[a,vs,rfl,h1,h2]:=rx;by_cases hw:HT.br vs.length 0 lo=0 /\ HT.br vs.length vs.length hi=vs.length
   .refine .inr<|.inl #[a,vs,rfl,.of<|sub _ _ h1,hw,k _ _<|.inl #[rfl,?_]];have e:cutD l lo hi=l:=by
     unfold cutD;rw[h2.length,hw.1,hw.2,HM,aaF,<-h2.length,Xp]
    rw[e];show#[a,vs,rfl,h1,h2]
   .show .inl #[a,vs,rfl,.of<|sub _ _ h1,hw,λp hp=>k _ _<|.inr #[p,_,rfl,hp,rfl,FW h2 lo hi]]
 |lst l=>
   cases e;let#[a,vs,rfl,h1,h2]:=rx;show .inr<|.inr #[a,vs,rfl,.of h1,λp hp=>k _ _ #[p,_,rfl,hp,rfl,FW h2 lo hi]]
 |_=>cases e
abbrev ahj:Hp->List ai->Option Int->Option Int->zw:=λ_ _ a b=>a=b
def ahk (T:Fr) (Z:Xs) (m:DE<|Option Int):TO:=λσ H Q=>∃ F r env bx,Rel T F r σ H env bx /\ End T Z ahj F r σ env Q (m env bx)
def EO (X:Cx) (T:Fr) (Z:Xs) (e:Option au) (m:DE<|Option Int):zw:=PO X e<|ahk T Z m
theorem PO.imp {e:Option au}{t t':TO}(h:PO X e t) (f:∀ σ H Q,t' σ H Q->t σ H Q):PO X e t':=λpins s σ H Q I q=>h pins s σ H Q I<|f σ H Q q
noncomputable def qZ:DE (Option Int):=λ_ bx=>.val ag bx
def qy (m:DE W):DE (Option Int):=λenv bx=>fA (m env bx) λw bx1=>match w with|.d (.int i)=>.val (ae i) bx1|_=>.bad
theorem Tq:EO X T Z ag qZ:=PO.imp N0 λσ H Q=>x4 λF r env bx R h=>h F r ag H (.refl F r) R zk
theorem LC (h:PD X T Z e ma):EO X T Z (ae e) (qy ma):=by
 refine PO.imp (N1 h) λσ H Q=>x4 λF r env bx R h=>?_;refine#[F,r,env,bx,R,End.bind h λw bx1 F1 r1 v H1 g1 R1 d1 h1=>?_];split at h1
 .ext i;show#[i,d1,h1 F1 r1 _ H1 (.refl F1 r1) R1 zk]
 .show h1.elim
def qz (bo:Bool) (m:DE W) (l u:DE<|Option Int):DE W:=λenv bx=>fA (m env bx) λx bx1=>fA (l env bx1) λi bx2=>fA (u env bx2) λj cM=>ck bo ((bR cM x).bind λd=>vz d i j) cM
theorem LD {l u:DE (Option Int)}(bo:Bool) (ha:PD X T Z e ma) (hl:EO X T Z lo l) (hu:EO X T Z hi u):PD X T Z (.Subscript e (.Slice lo hi ag p2) pos) (qz bo ma l u):=by
 refine PE.imp (Lj Tp ha hl hu) λσ H Q=>x4 λF r env bx R h=>?_;refine#[F,r,env,bx,R,End.bind h λx bx1 F1 r1 v H1 g1 R1 d1 h1=>?_];refine#[F1,r1,env,bx1,R1,End.bind h1 λi bx2 F2 r2 i' H2 g2 R2 d2 h2=>?_];refine#[F2,r2,env,bx2,R2,End.bind h2 λj cM F3 r3 j' H3 g3 R3 d3 h3=>?_];subst d2 d3;cases e1:bR cM x with
 |none=>rw[e1]at h3;show h3.elim
 |some d=>
   rw[e1]at h3;simp[bV]at h3;cases e2:vz d i j with
   |none=>rw[e2]at h3;show h3.elim
   |some s=>
     rw[e2]at h3;show ahi R3.fh (R3.qY (g3.den<|g2.den d1) e1) e2 λu H' k=>gR R3 h3 k
theorem Tr {te:TE}{i:Int}{q1 q2:aG}(he:PE X e te):PE X (.Subscript e (.Slice ag ag (ae<|.UnaryOp .USub (.Constant (.int 1) j q1) q2) p2) pos)
 (λσ H Q=>te σ H λx H1=>∃ a xs,x=.ref a /\ bZ X.K H1 a xs /\ ∀ p,H1 p=ag->Q (.ref p) (upd H1 p<|.lst xs.reverse)):=by
 intro pins s σ H Q I h;refine Subscript_<|tE (he pins s σ H _ I h) λv s1 x H1 I1 r1 q1=>?_;refine aaa ?_;refine az<|az ?_;refine tE (RN Ld J5 pins s1 σ H1 (λy H2=>y=.int (-1) /\ H2=H1) I1 #[1,rfl,rfl,rfl]) λvs s3 y H3 I3 r3 hh=>?_;let#[e1,e2]:=hh;subst e1 e2;let#[t,rfl]:=r3;let#[a,xs,rfl,hx,q]:=q1;cases r1;have I4:Inv X pins σ H3 { s3 with heap:=s3.heap.push { cls:=.type "slice",data:=.fields (List.toArray [.none,.none,.int (-1) t]) } }:=I3.kept λb ob q=>aN _ q;let#[its,r,ht,hz]:=I4.list hx;have hlen:=r.length;have hg:wpAny ze X.A (getItem (.ref a)<|.ref s3.heap.objs.size) (EP X pins σ Q) X.xe { s3 with heap:=s3.heap.push { cls:=.type "slice",data:=.fields (List.toArray [.none,.none,.int (-1) t]) } }:=by
  refine aab ht.isList (Heap.IsSliceOf.new ..) .none .none (.int (-1) t) zf ?_ (by rw[cC]<;>lia);rw[HT.Be];refine#[.ref _,_,I4.laid (λb ob q=>aN _ q) (aI _) ?_,rfl,q _<|I4.aE.fresh<|aI _];show#[by rw[List.length_reverse];show hz,_,0,r.reverse,bE _ zk]
 change wpAny ze X.A (subscriptTail e (.Slice ag ag (ae<|.UnaryOp .USub (.Constant (.int 1) j _) q2) p2) (.ref a)<|.ref s3.heap.objs.size) (EP X pins σ Q) X.xe _;show Xx ht.isList.typeIs slot_list_getitem.lookup hg (by with_unfolding_all rfl)
def Ko (bo:Bool) (m:DE W):DE W:=λenv bx=>fA (m env bx) λx bx1=>ck bo ((bR bx1 x).bind λd=>match d with|.lst l=>ae (.lst l.reverse)|_=>ag) bx1
theorem Ts {q1 q2:aG}(bo:Bool) (ha:PD X T Z e ma):PD X T Z (.Subscript e (.Slice ag ag (ae<|.UnaryOp .USub (.Constant (.int 1) j q1) q2) p2) pos) (Ko bo ma):=by
 refine PE.imp (Tr (i:=0) ha) λσ H Q=>x4 λF r env bx R h=>?_;refine#[F,r,env,bx,R,End.bind h λx bx1 F1 r1 v H1 g1 R1 d1 h1=>?_];cases e1:bR bx1 x with
 |none=>rw[e1]at h1;show h1.elim
 |some d=>
   rw[e1]at h1;cases d with
   |lst l=>
     let#[a,vs,rfl,k1,k2]:=R1.qY d1 e1;show#[a,vs,rfl,.of k1,λp hp=>gR R1 h1 #[p,_,rfl,hp,rfl,k2.reverse]]
   |_=>show h1.elim
def p6 (m:DE W):DE W:=λenv bx=>fA (m env bx) λw bx1=>match w with|.d (.int i)=>.val (.d<|.int<|-i) bx1|_=>.bad
theorem Tt (ha:PD X T Z a ma):PD X T Z (.UnaryOp .USub a pos) (p6 ma):=by
 refine PE.imp (RN Ld ha) λσ H Q=>x4 λF r env bx R h=>?_;refine#[F,r,env,bx,R,End.bind h λw bx1 F1 r1 v H1 g1 R1 d1 h1=>?_];split at h1
 .ext i;show#[i,d1,h1 F1 r1 _ H1 (.refl F1 r1) R1 zk]
 .show h1.elim
end
end L2.DL
namespace HT
section
variable {s:aq}
theorem CQ {l:ai}{Q:List aj->aq->zw}(hl:IsTup s.heap l vs.toArray) (hz:vs.length<=sizeLine)
 (h:Q vs { s with heap:=(s.heap.push<|seqObj "list" #[] 0).update s.heap.objs.size (Obj.mapSeq (·++vs.toArray)) }):wpAny zd A (collect<|.ref l) Q E s:=by
 let#[ob,ho,uB,k,sj]:=id hl;refine ak<|W8<|qL entry_proto_collect'<|ak<|xh<|az #[abU _ (by decide +kernel),qL entry_list_iadd' ?_];change wpAny _ _ (Builtin.List.listExtendWith _ _ _) _ _ { s with heap:=s.heap.push _ };have sk:(s.heap.push<|seqObj "list" #[] 0).get? l=ae ob:=aN _ ho;refine ak<|rO #[ob,sk,uB] ?_;rw[if_pos (by rw[show (Value.type "tuple"==Value.type "tuple")=ah by decide,Bool.or_true])];refine ak<|xE sk sj<|ak<|xE (bE _ zk) zk ?_;rw[if_neg zf];refine ak<|Ia (bE _ zk) zk (az ?_) (cJ _) (by change (#[]++vs.toArray).size<=sizeLine+1;simp[Array.size_append,cC,qN];lia);refine ak<|xc (abb (bE _ zk) _) (show wpAny _ _ (pure ((#[])++vs.toArray).toList) Q E _ from ?_);rw[show ((#[]:Array aj)++vs.toArray).toList=vs by simp];show az h
theorem AA {l:ai}(hl:IsTup s.heap l vs.toArray) (hI:IntsAre vs ns) (cG:vs.length<64)
 (h:∀ (out:Array aj) (p7:List Int),IntsAre out.toList p7->p7.Perm ns->p7.Pairwise (·<=·)->Q (.ref<|s.heap.objs.size+1) { s with heap:=sortedAll s.heap vs out }):wpAny zd A (call (.builtin "sorted") [.ref l]) Q E s:=by
 refine Ir Ib Ic Ie (Ig _) ?_;refine ak<|az<|ak<|CQ hl (cT (nC cG) zh)<|ak<|xh ?_;have rZ:((s.heap.push<|seqObj "list" #[] 0).update s.heap.objs.size (Obj.mapSeq (·++vs.toArray))).objs.size=s.heap.objs.size+1:=by rw[aa2,uo]
 have vi:(((s.heap.push<|seqObj "list" #[] 0).update s.heap.objs.size (Obj.mapSeq (·++vs.toArray))).push<|seqObj "list" vs.toArray 0).get? (s.heap.objs.size+1)=ae (seqObj "list" vs.toArray 0):=by rw[<-rZ];show bE _ zk
 rw[rZ];show ak<|dS<|kE Ih #[_,vi,rfl] Ii (abc vi hI cG λout p7 a1 a2 a3=>#[_,rfl,az #[_,rfl,h out p7 a1 a2 a3]])<|Ij _
end
end HT
namespace L2.DL
noncomputable def sortI (ns:List Int):List Int:=ns.mergeSort λa b=>decide (a<=b)
theorem gx (ns:List Int):(sortI ns).Perm ns:=Ea ns _
theorem iU (ns:List Int):(sortI ns).Pairwise (·<=·):=(HS (le:=λa b:Int=>decide _) (λa b c h1 h2=>by simp at *;lia) (λa b=>by simp;lia) ns).imp λq=>by simpa using q
theorem oK {a b:List Int}(p:a.Perm b) (ha:a.Pairwise (·<=·)) (hb:b.Pairwise (·<=·)):a=b:=
 p.eq_of_pairwise (λx y _ _ h1 h2=>abm h1 h2) ha hb
section
variable {a b c:au} {p p2:aG}
def Kq (K:PySem.W.Frag) (vs:List V) (H:Hp) (Q:VK):zw:=∃ (p:ai) (ns:List Int),vs=[.ref p] /\ (bZ K H p (ns.map V.int) \/ c9 K H p (ns.map V.int)) /\ ns.length<64 /\ ∀ l,H l=ag->Q (.ref l) (upd H l<|.lst<|(sortI ns).map V.int)
theorem m9:∀ {us:List aj}{ns:List Int},IntsAre us ns->Vals (ns.map V.int) us
 |_,_,.nil=>.nil
 |_,_,.cons n t h=>.cons #[t,rfl]<|m9 h
theorem Jg:hG X (.builtin "sorted") (Kq X.K):=by
 intro pins s σ H xs us Q I rv h;let#[p,ns,rfl,hp,cG,q]:=h;let#[u,rfl,ru]:=Vals.one rv;cases ru;have fin:∀ (its) (out) (p7),IntsAre out.toList p7->p7.Perm ns->p7.Pairwise _->EP X pins σ Q _ { s with heap:=sortedAll s.heap its out }:=λits out p7 a1 a2 a3=>by
  let#[k,he]:=abd s.heap its out;have e:=oK (a2.trans (gx ns).symm) a3<|iU ns;subst e;have ll:((sortI ns).map V.int).length<=sizeLine:=by
   rw[aV,(gx ns).length_eq];show cT (nC cG) zh
  refine#[.ref _,_,I.laid (λb ob q=>abe q) (vd _) ?_,rfl,q _<|I.aE.fresh<|vd _];show#[ll,out.toList,k,m9 a1,he]
 rcases hp with hp|hp
 .let#[its,r1,p1,z1]:=I.list hp;have hl:ns.length=its.length:=by have:=r1.length;simpa using this
  show sorted_ints p1.isList (Au r1) za λout p7=>fin its out p7
 .let#[its,r1,p1,z1]:=I.tuple hp;have hl:ns.length=its.length:=by have:=r1.length;simpa using this
  show HT.AA p1 (Au r1) za λout p7=>fin its out p7
def tX:List D->Option Res
 |[.lst l]=>(intsOf l).bind λns=>if ns.length<64 then ae (.lst<|(sortI ns).map D.int) else ag
 |[.tup l]=>(intsOf l).bind λns=>if ns.length<64 then ae (.lst<|(sortI ns).map D.int) else ag
 |_=>ag
theorem AB:∀ (ns:List Int),aH F (ns.map D.int) (ns.map V.int):=by
 intro l_;induction l_ with
 |nil=>show rfl
 |cons n ns ay=>show .cons zk<|ay
theorem ahl:k8 (Kq K) tX:=by
 intro F H xs vs Q s sub rx e k;unfold tX at e;split at e
 .ext l;let#[v,t,rfl,#[a,us,rfl,h1,h2],rt]:=rx;cases (rt);cases e1:intsOf l with
  |none=>rw[e1]at e;cases e
  |some ns=>
    rw[e1]at e;erw[bV]at e;split at e
    .ext cG;cases e;have q1:=h2.ints e1;subst q1;show#[a,ns,rfl,.inl<|.of h1,cG,λl hl=>k _ _ #[l,_,rfl,hl,rfl,AB _]]
    .cases e
 .ext l;let#[v,t,rfl,#[a,us,rfl,h1,h2],rt]:=rx;cases (rt);cases e1:intsOf l with
  |none=>rw[e1]at e;cases e
  |some ns=>
    rw[e1]at e;erw[bV]at e;split at e
    .ext cG;cases e;have q1:=h2.ints e1;subst q1;show#[a,ns,rfl,.inr<|.of<|sub _ _ h1,cG,λl hl=>k _ _ #[l,_,rfl,hl,rfl,AB _]]
    .cases e
 .cases e
def kh (m:DE W) (k:DE W):DE W:=λenv bx=>fA (m env bx) λx bx1=>match x with
 | .b n=>(match bx1[n]? with
   | some (.lst _)=>fA (k env bx1) λy bx2=>(match y,bx2[n]? with
     |.d d,ae (.lst l)=>if l.length<sizeLine then .val (.d .aC) (bx2.set n<|.lst<|l++[d]) else .bad
     |_,_=>.bad)
   |_=>.bad)
 |_=>.bad
theorem VG {Q:VK}(h:tD T Z (kh ma mb) σ H Q):Yh X.K "list" acK (tD T Z ma) (Yd (tD T Z mb) Yc) σ H Q:=by
 let#[F,r,env,bx,R,h]:=h;refine#[F,r,env,bx,R,End.bind h λx bx1 F1 r1 v H1 g1 R1 d1 h1=>?_];cases x with
 |b n=>
   simp at h1;let#[a,rfl,ha]:=d1;let#[c,hc,kc]:=R1.k6 ha;rw[hc]at h1;cases c with
   |lst l0=>
     let#[_,wy,k0,_]:=kc;refine#[.inl #[rfl,wy,bZ.of k0],?_];refine#[F1,r1,env,bx1,R1,End.bind h1 λy bx2 F2 r2 u H2 g2 R2 d2 h2=>?_];let#[t,et]:=g2.p;have vA:r2[n]?=ae a:=by rw[<-et,kX (List.getElem?_eq_some_iff.mp ha).1];show ha
     let#[c2,nI,uH]:=R2.k6 vA;rw[nI]at h2;cases y with
     |d dd=>
       cases c2 with
       |lst l=>
         simp at h2;split at h2
         .ext hz;let#[hF,vs,k1,k2]:=uH;show#[a,vs,u,rfl,rfl,k1,by rw[<-k2.length];show hz,(h2 F2 r2 _ _ (.refl F2 r2) (R2.write vA hF #[hF,vs++[u],fF,k2.append<|.cons d2 .nil]) zk)]
         .show h2.elim
       |_=>show h2.elim
     |_=>show h2.elim
   |_=>show h1.elim
 |_=>show h1.elim
end
end L2.DL
namespace L2
section
variable {κ:Type} [DecidableEq κ]
noncomputable def km (ao:List<|κ×V) (k:κ):Option V:=(ao.find? λkv=>decide (kv.1=k)).map (·.2)
noncomputable def putK (ao:List<|κ×V) (k:κ) (v:V):List (κ×V):=
 if (ao.any λkv=>decide (kv.1=k))=ah then ao.map (λkv=>if kv.1=k then (kv.1,v) else kv) else ao++[(k,v)]
noncomputable def rf (ao:List<|κ×V) (k:κ):List (κ×V):=ao.filter λkv=>decide (kv.1≠k)
theorem lc {p:κ×V}{r:List (κ×V)}{k:κ}(e:p.1=k):km (p::r) k=ae p.2:=by simp[km,e]
theorem jy {p:κ×V}{r:List (κ×V)}{k:κ}(e:¬ p.1=k):km (p::r) k=km r k:=by simp[km,e]
theorem LF (k:κ):∀ ao:List (κ×V),(ao.any λkv=>decide (kv.1=k))=(km ao k).isSome:=by
 intro l_;induction l_ with
 |nil=>show rfl
 |cons p r ay=>
   rw[ve];by_cases e:p.1=k
   .simp[lc e,decide_eq_true e,Bool.true_or,Option.isSome_some]
   .rw[jy e,decide_eq_false e,Bool.false_or];show ay
theorem oM (ao:List<|κ×V) (k:κ) (v:V):(putK ao k v).length<=ao.length+1:=by
 unfold putK;split
 .rw[aV];lia
 .rw[cB,bN,qN];lia
theorem pT.yp {o:Option V}{u:Option aj}(r:pT o u):o.isSome=u.isSome:=by
 cases o with
 | none=>cases u with
   |none=>rfl
   |some _=>show(r).elim
 | some _=>cases u with
   |none=>show(r).elim
   |some _=>rfl
theorem pT.getD {o:Option V}{u:Option aj}{d:V}{d':aj}(r:pT o u) (rd:RelV d d'):RelV (o.getD d) (u.getD d'):=by
 cases o with
 | none=>cases u with
   |none=>show rd
   |some _=>show(r).elim
 | some _=>cases u with
   |none=>show(r).elim
   |some _=>show r
theorem KV.val {ao:List (κ×V)}{vs:List (κ×aj)}(r:KV ao vs) (k:κ):pT (km ao k) (valueAt vs k):=by
 induction r with
 |nil=>show True.intro
 |@cons p q ps qs h t ih=>
   let#[h1,h2]:=h;by_cases e:p.1=k
   .have b:valueAt (q::qs) k=ae q.2:=by simp[valueAt,(h1.symm.trans e)]
    rw[lc e,b];show h2
   .have e':¬ q.1=k:=λz=>e<|h1.trans z;have b:valueAt (q::qs) k=valueAt qs k:=by simp[valueAt,e']
    rw[jy e,b];show ih
theorem KV.any {ao:List (κ×V)}{vs:List (κ×aj)}(r:KV ao vs) (k:κ):(ao.any λkv=>decide (kv.1=k))=vs.any λkv=>decide (kv.1=k):=by
 induction r with
 |nil=>rfl
 |cons h t ih=>rw[ve,ve,ih,h.1]
theorem KV.repl {ao:List (κ×V)}{vs:List (κ×aj)}(r:KV ao vs) (k:κ) {y:V}(ry:RelV y u) :
 KV (ao.map λkv=>if kv.1=k then (kv.1,y) else kv) (vs.map λkv=>if kv.1=k then (kv.1,u) else kv):=by
 induction r with
 |nil=>show .nil
 |@cons p q ps qs h t ih=>
   rw[aM,aM];refine .cons ?_ ih;let#[h1,h2]:=h;by_cases e:p.1=k
   .rw[if_pos e,if_pos<|h1.symm.trans e];show#[h1,ry]
   .rw[if_neg e,if_neg λz=>e<|h1.trans z];show#[h1,h2]
theorem KV.put {ao:List (κ×V)}{vs:List (κ×aj)}(r:KV ao vs) (k:κ) {y:V}(ry:RelV y u):KV (putK ao k y) (stored vs k u):=by
 unfold putK stored;rw[r.any k];by_cases e:(vs.any λkv=>decide (kv.1=k))=ah
 .rw[if_pos e,if_pos e];show r.repl k ry
 .rw[if_neg e,if_neg e];show Paired.snoc r #[rfl,ry]
theorem KV.drop {ao:List (κ×V)}{vs:List (κ×aj)}(r:KV ao vs) (k:κ):KV (rf ao k) (without vs k):=by
 unfold rf without;induction r with
 |nil=>show .nil
 |@cons p q ps qs h t ih=>
   let#[h1,h2]:=h;rw[sQ,sQ];by_cases e:p.1=k
   .rw[if_neg (by simp[e]),if_neg (by simp[h1.symm.trans e])];show ih
   .have e':¬ q.1=k:=λz=>e<|h1.trans z;rw[if_pos (by simp[e]),if_pos (by simp[e'])];show .cons #[h1,h2] ih
theorem KV.length {ao:List (κ×V)}{vs:List (κ×aj)}(r:KV ao vs):ao.length=vs.length:=Paired.length r
theorem CS (ao:List<|κ×V) (k:κ):(rf ao k).length<=ao.length:=ui _ _
end
theorem oN {k:Key}(r:RelV (kV k) u):(dF P w).is k u=ah:=by
 cases k with
 |inl i=>let#[t,e]:=(r);subst e;show CF P w i t
 |inr x=>let#[t,e]:=(r);subst e;show CG P w x t
theorem Jh:∀ {ks:List Key}{us:List aj},Vals (ks.map kV) us->ItemsAre (dF P w) ks us:=by
 intro l_;induction l_ with
 |nil=>(intro _ r;cases r;show .nil)
 |cons k ks ay=>
   intro _ r;cases r with
   |cons h t=>show .cons (oN h)<|ay t
abbrev KT (H:Hp):List (List Key×V)->List (List Key×ai×aj)->zw:=Paired λp q=>p.1=q.1 /\ H q.2.1=ae (.tup<|p.1.map kV) /\ RelV p.2 q.2.2
theorem KT.val {ao:List (List Key×V)}(r:KT H ao xs) (k:List Key):pT (km ao k) ((atKey xs k).map (·.2)):=by
 induction r with
 |nil=>show True.intro
 |@cons p q ps qs h t ih=>
   let#[h1,_,h2]:=h;by_cases e:p.1=k
   .have b:atKey (q::qs) k=ae q.2:=by simp[atKey,(h1.symm.trans e)]
    rw[lc e,b];show h2
   .have e':¬ q.1=k:=λz=>e<|h1.trans z;have b:atKey (q::qs) k=atKey qs k:=by simp[atKey,e']
    rw[jy e,b];show ih
theorem KT.repl {ao:List (List Key×V)}(r:KT H ao xs) (k:List Key) {y:V}(ry:RelV y u) :
 KT H (ao.map λkv=>if kv.1=k then (kv.1,y) else kv) (xs.map<|putAt k u):=by
 induction r with
 |nil=>show .nil
 |@cons p q ps qs h t ih=>
   rw[aM,aM];refine .cons ?_ ih;let#[h1,h2,h3]:=h;unfold putAt;by_cases e:p.1=k
   .rw[if_pos e,if_pos<|h1.symm.trans e];show#[h1,h2,ry]
   .rw[if_neg e,if_neg λz=>e<|h1.trans z];show#[h1,h2,h3]
theorem KT.put {ao:List (List Key×V)}(r:KT H ao xs) (k:List Key) {b:ai}{y:V}(hb:H b=ae (.tup<|k.map kV)) (ry:RelV y u) :
 KT H (putK ao k y) (storedH xs k b u):=by
 have e:(ao.any λkv=>decide (kv.1=k))=(atKey xs k).isSome:=by
  rw[LF,(r.val k).yp,vg]
 unfold putK storedH;rw[e];by_cases q:(atKey xs k).isSome=ah
 .rw[if_pos q,if_pos q];show r.repl k ry
 .rw[if_neg q,if_neg q];show Paired.snoc r #[rfl,hb,ry]
theorem KT.keeps {ao:List (List Key×V)}(r:KT H ao xs) (ht:∀ b ys,H b=ae (.tup ys)->H' b=ae (.tup ys)):KT H' ao xs:=
 Paired.XW r λ_ _ z=>#[z.1,ht _ _ z.2.1,z.2.2]
theorem RS {u:HO}(ok:cW P w H h) (e:Rd H a u):dg P w H h a u:=e.ok ok
theorem oO (ok:cW P w H h) (e:Rd H a<|.dK ao):ao.length<=sizeLine /\ (a==sysModules)=af /\ ∃ vs,KV ao vs /\ h.DictOf (dF P w) a vs:=
 RS ok e
theorem FX (ok:cW P w H h) (e:H a=ae (.dK ao)):ao.length<=sizeLine /\ (a==sysModules)=af /\ ∃ vs,KV ao vs /\ h.DictOf (dF P w) a vs:=oO ok<|.inl e
theorem lY {ks:List Key}(ok:cW P w H h) (e:H a=ae (.tup<|ks.map kV)):(tupleKind<|dF P w).is h ks a:=by
 let#[_,its,r,o,h1,h2,n,h3]:=(ok a _ e);show#[o,its.toArray,n,h1,h2,h3,by simpa using Jh r]
theorem AC {ao:List (List Key×V)}(ok:cW P w H h) (e:Rd H a<|.dT ao):ao.length<=sizeLine /\ (a==sysModules)=af /\
 ∃ xs,KT H ao xs /\ h.DictOfH (tupleKind<|dF P w) a xs:=by
 let#[z,y,xs,r,o,es,ep,h1,h2,h3,h4,h5]:=(RS ok e);refine#[z,y,xs,r,o,es,ep,h1,h2,h3,h4,λx hx=>?_,h5];have all:∀ {l}{m},KT H l m->∀ x∈m,(tupleKind<|dF P w).is h x.1 x.2.1:=by
  intro l m q;induction q with
  |nil=>intro x hx;show nomatch hx
  |@cons p q ps qs hq t ih=>
    intro x hx;rcases aZ.mp hx with e|hx
    .subst e;show lY ok (by rw[<-hq.1];show hq.2.1)
    .show ih x hx
 show all r x hx
theorem VH {ao:List (List Key×V)}(ok:cW P w H h) (e:H a=ae (.dT ao)):ao.length<=sizeLine /\ (a==sysModules)=af /\
 ∃ xs,KT H ao xs /\ h.DictOfH (tupleKind<|dF P w) a xs:=AC ok<|.inl e
def rh (H:Hp) (a:ai) (y:V) (r:Option V):zw:=
 (∃ ao k,Rd H a (.dK ao) /\ y=kV k /\ r=km ao k) \/ ∃ ao k b,Rd H a (.dT ao) /\ y=.ref b /\ H b=ae (.tup<|k.map kV) /\ r=km ao k
def adf (H:Hp) (a:ai) (y v:V) (H':Hp):zw:=
 (∃ ao k,H a=ae (.dK ao) /\ y=kV k /\ ao.length<sizeLine /\ H'=upd H a (.dK<|putK ao k v)) \/
 ∃ ao k b,H a=ae (.dT ao) /\ y=.ref b /\ H b=ae (.tup<|k.map kV) /\ ao.length<sizeLine /\ H'=upd H a (.dT<|putK ao k v)
theorem rh.k {H:Hp}{a:ai}{ao:List (Key×V)}{k:Key}(e:H a=ae (.dK ao)):rh H a (kV k) (km ao k):=.inl #[ao,k,.inl e,rfl,rfl]
section
variable {s:aq} {y:V} {r:aj} {o:Option V} 
theorem Inv.big (I:Inv X pins σ H s):sysModules<s.heap.objs.size:=by
 show rQ zh (I.mod.glob.keeps I.bk).lt
theorem Ji (hu:A.units+1<cLine) (I:Inv X pins σ H s) (g:rh H a y<|ae v) (ry:RelV y u) (h:∀ w' s',Inv X pins σ H s'->RelV v w'->Q w' s') :
 wpAny ze A (getItem (.ref a) u) Q E s:=by
 rcases g with⟨ao,k,e,ey,l⟩|⟨ao,k,b,e,ey,eb,l⟩
 .subst ey;let#[z,hd,vs,rel,dd]:=oO I.aE e;let#[w',hw,nG]:=pT.some_of (by rw[l];show rel.val k);show wpAny_getItem_of (oN ry) dd.mapOf hw<|h w' _ (I.tok _) nG
 .subst ey;cases (ry);let#[z,hd,xs,rel,dd]:=AC I.aE e;let#[w',hw,nG]:=pT.some_of (by rw[l];show rel.val k);let#[p,hp,ahm]:=Option.map_eq_some_iff.mp hw;refine wpAny_getItem_heap (yS hu) (lY I.aE eb) dd hp ?_;rw[ahm];show h w' _ (I.tok _) nG
theorem WQ (hu:A.units+1<cLine) (I:Inv X pins σ H s) (g:rh H a y o) (ry:RelV y u) (h:∀ s',Inv X pins σ H s'->Q (.bool o.isSome) s') :
 wpAny ze A (compareOp .In u<|.ref a) Q E s:=by
 rcases g with⟨ao,k,e,ey,l⟩|⟨ao,k,b,e,ey,eb,l⟩
 .subst ey;let#[z,hd,vs,rel,dd]:=oO I.aE e;refine wpAny_in_of (oN ry) hd dd.mapOf ?_;rw[<-(rel.val k).yp,<-l];show h _<|I.tok _
 .subst ey;cases (ry);let#[z,hd,xs,rel,dd]:=AC I.aE e;refine wpAny_in_heap (yS hu) (lY I.aE eb) hd dd ?_;have q:=(rel.val k).yp;rw[vg]at q;rw[<-q,<-l];show h _<|I.tok _
theorem Ou (hu:A.units+1<cLine) (I:Inv X pins σ H s) (g:rh H a y o) (ry:RelV y u) (h:∀ s',Inv X pins σ H s'->Q (.bool<|!o.isSome) s') :
 wpAny ze A (compareOp .NotIn u<|.ref a) Q E s:=by
 rcases g with⟨ao,k,e,ey,l⟩|⟨ao,k,b,e,ey,eb,l⟩
 .subst ey;let#[z,hd,vs,rel,dd]:=oO I.aE e;refine wpAny_notIn_of (oN ry) hd dd.mapOf ?_;rw[<-(rel.val k).yp,<-l];show h _<|I.tok _
 .subst ey;cases (ry);let#[z,hd,xs,rel,dd]:=AC I.aE e;refine wpAny_notIn_heap (yS hu) (lY I.aE eb) hd dd ?_;have q:=(rel.val k).yp;rw[vg]at q;rw[<-q,<-l];show h _<|I.tok _
theorem o8 {ob:HO}(I:Inv X pins σ H s) (mu:Ek<|H a) (hs:Heap.SameBut a s.heap h') (he:∃ q,h'.get? a=ae q) (new:dg X.prog X.w (upd H a ob) h' a ob) :
 Inv X pins σ (upd H a ob) { s with heap:=h',toks:=t' }:=
 I.write mu (.inl zk) (λb q hb z=>(hs.2 b hb).trans z) he new
theorem D0 {vs:List (Key×aj)}(z:ao.length<=sizeLine) (hd:(a==sysModules)=af) (rel:KV ao vs) (dd:h'.DictOf (dF P w) a vs) :
 dg P w H' h' a (.dK ao):=#[z,hd,vs,rel,dd]
theorem Jj {Q:Unit->aq->zw}(hu:A.units+1<cLine) (I:Inv X pins σ H s) (g:adf H a y v H') (ry:RelV y u) (rv:RelV v r) (h:∀ s',Inv X pins σ H' s'->Q () s') :
 wpAny ze A (setItem (.ref a) u r) Q E s:=by
 rcases g with⟨ao,k,e,ey,l,eH⟩|⟨ao,k,b,e,ey,eb,l,eH⟩
 .subst ey eH;let#[z,hd,vs,rel,dd]:=FX I.aE e;have hz:vs.length<=sizeLine:=by rw[<-rel.length];show z
  have hl:(putK ao k v).length<=sizeLine:=by have:=oM ao k v;lia
  refine wpAny_setItem_pairs (oN ry) dd λh' tY hs=>h _ ?_;have he:∃ q,h'.get? a=ae q:=let ⟨q,_,_,hq,_⟩:=tY;#[q,hq]
  show o8 I (by rw[e];show True.intro) hs he<|D0 hl hd (rel.put k rv) tY
 .subst ey eH;cases (ry);let#[z,hd,xs,rel,dd]:=VH I.aE e;have hz:xs.length<=sizeLine:=by rw[<-Paired.length rel];show z
  have hl:(putK ao k v).length<=sizeLine:=by have:=oM ao k v;lia
  refine wpAny_setItem_heap (yS hu) (lY I.aE eb) dd λh' tY hs=>h _ ?_;let#[q,es,ep,hq,h2,h3,h4,_,h5]:=tY;refine o8 I (by rw[e];show True.intro) hs #[q,hq] #[hl,hd,_,(rel.put k eb rv).keeps λc ys ec=>?_,q,es,ep,hq,h2,h3,h4,h5];rw[fC<|Vk ec e λz=>nomatch z];show ec
end
section
variable {s:aq} {k:Key} 
theorem Jk {Q:Unit->aq->zw}(I:Inv X pins σ H s) (e:H a=ae (.dK ao)) (ry:RelV (kV k) u) (l:(km ao k).isSome=ah) (h:∀ s',Inv X pins σ (upd H a<|.dK<|rf ao k) s'->Q () s') :
 wpAny ze A (delItem (.ref a) u) Q E s:=by
 let#[z,hd,vs,rel,dd]:=FX I.aE e;refine wpAny_delItem_slot dd.typeIs (rfl) aby
  (xi aby dd.typeIs PySem.F.entry_dict_delitem (PySem.F.args_dict_delitem_2 _ _) (meets_dict_delitem_pairs _ a<|oN ry) #[vs,dd,by rw[<-rel.length];show z,by rw[<-(rel.val k).yp];show l,λh' tY hs=>h _ ?_])
 show o8 I (by rw[e];show True.intro) hs (let ⟨q,_,_,hq,_⟩:=tY;#[q,hq])<|D0 (cT (CS ao k) z) hd (rel.drop k) tY
theorem VI {more:List aj}(I:Inv X pins σ H s) (e:H a=ae (.dK ao)) (ry:RelV (kV k) u) (l:km ao k=ae v) (hm:more=[] \/ ∃ x,more=[x])
 (h:∀ w' s',Inv X pins σ (upd H a<|.dK<|rf ao k) s'->RelV v w'->Q w' s'):wpAny ze A (call (.builtin "dict.pop") (.ref a::u::more)) Q E s:=by
 let#[z,hd,vs,rel,dd]:=FX I.aE e;let#[w',hw,nG]:=pT.some_of (by rw[<-l];show rel.val k);have hp:(keyPart u).isSome=ah:=by
  cases k with
  |inl i=>let#[t,q]:=(ry);subst q;rfl
  |inr x=>let#[t,q]:=(ry);subst q;rfl
 have ha:argsOk "dict.pop" #[.ref a::u::more,[]]:=by
  rcases hm with q|⟨x,q⟩
  .subst q;show PySem.F.args_dict_pop_2 _ _
  .subst q;show PySem.F.args_dict_pop_3 _ _ _
 refine xi abz dd.typeIs PySem.F.entry_dict_pop ha (meets_dict_pop_there (dF X.prog X.w) a (oN ry) more hm hp)
  #[vs,w',dd,by rw[<-rel.length];show z,hw,λh' tY hs=>h w' _ ?_ nG]
 have he:∃ q,h'.get? a=ae q:=let ⟨q,_,_,hq,_⟩:=tY;#[q,hq]
 show o8 I (by rw[e];show True.intro) hs he<|D0 (cT (CS ao k) z) hd (rel.drop k) tY
end
def ER (i:au):zw:=∀ ov iv,subscripted i af ov iv=operate [ov,iv] (getItem ov iv)
theorem Ov {s:aq}{env:Env}{value slice:au}{T id:String} 
 (hl:typeLookup (.type T) "__getitem__"=pure (ae<|.builtin id)) (hs:ER slice)
 (h:wpAny zd A (eval value env) (λo s₁=>wpAny zd A (eval slice env) (λi s₂=>s₂.TypeIs o T /\ wpAny zd A (getItem o i) Q E s₂) E s₁) E s) :
 wpAny zd A (eval (.Subscript value slice pos) env) Q E s:=by
 refine Subscript_<|ny h (λo s₁ h₁=>ny h₁ (λi s₂ h₂=>?_) λ_ _ x=>x) λ_ _ x=>x;let#[hT,h₂]:=h₂;refine ak ?_;refine ak<|aaf hT hl ?_;have fin:wpAny zd A (subscripted slice af o i) (λr s₃=>wpAny zd A (letTemporaryGo value o r >>= λ_=>pure r) Q E s₃) E s₂:=by
  rw[hs o i];show wpAny_operating<|ny h₂ (λr s₃ h₃=>ak<|wpAny_letTemporaryGo<|az h₃) λ_ _ x=>x
 first
  |show az<|ak fin
  |show ak _
  |show ak fin
theorem CT {s:aq}{y:V}{o:Option V}(I:Inv X pins σ H s) (g:rh H a y o):s.TypeIs (.ref a) "dict":=by
 rcases g with⟨ao,k,e,_,_⟩|⟨ao,k,b,e,_,_,_⟩
 .let#[_,_,vs,_,dd]:=oO I.aE e;show dd.typeIs
 .let#[_,_,xs,_,dd]:=AC I.aE e;show dd.typeIs
def YC (td ty:TE):TE:=λσ H Q=>td σ H λx H1=>ty σ H1 λy H2=>∃ a v,x=.ref a /\ rh H2 a y (ae v) /\ Q v H2
def YD (ty td:TE):TE:=λσ H Q=>ty σ H λy H1=>td σ H1 λx H2=>∃ a o,x=.ref a /\ rh H2 a y o /\ Q (.bl o.isSome) H2
def adg (ty td:TE):TE:=λσ H Q=>ty σ H λy H1=>td σ H1 λx H2=>∃ a o,x=.ref a /\ rh H2 a y o /\ Q (.bl<|!o.isSome) H2
def adh (td ty tv:TE):TS:=λD σ H=>tv σ H λv H1=>td σ H1 λx H2=>ty σ H2 λy H3=>∃ a H4,x=.ref a /\ adf H3 a y v H4 /\ D.nx σ H4
def adi (td ty:TE):TS:=λD σ H=>td σ H λx H1=>ty σ H1 λy H2=>∃ a ao k,x=.ref a /\ H2 a=ae (.dK ao) /\ y=kV k /\ (km ao k).isSome=ah /\ D.nx σ (upd H2 a<|.dK<|rf ao k)
section
variable {o i value:au} {IL:aG} {td ty tv:TE}
theorem FY (hu:X.A.units+1<cLine) (ho:PE X o td) (hi:PE X i ty) (hs:ER i):PE X (.Subscript o i pos) (YC td ty):=by
 intro pins s σ H Q I h;refine Ov PySem.F.slot_dict_getitem.lookup hs<|tE (ho pins s σ H _ I h) λu s1 x H1 I1 rx q1=>tE (hi pins s1 σ H1 _ I1 q1) λiv s2 y H2 I2 ry hh=>?_;let#[a,v,ex,g,q2]:=hh;subst ex;obtain rfl:u=Value.ref a:=rx;show#[CT I2 g,Ji hu I2 g ry λw' s3 I3 nG=>#[v,H2,I3,nG,q2]]
theorem B8 (hu:X.A.units+1<cLine) (hi:PE X i ty) (ho:PE X o td):PC X .In i o (YD ty td):=by
 intro pins s σ H Q I h;refine tE (hi pins s σ H _ I h) λiv s1 y H1 I1 ry q1=>tE (ho pins s1 σ H1 _ I1 q1) λu s2 x H2 I2 rx hh=>?_;let#[a,ov,ex,g,q2]:=hh;subst ex;obtain rfl:u=Value.ref a:=rx;show WQ hu I2 g ry λs3 I3=>#[.bl ov.isSome,H2,I3,rfl,q2]
theorem Bz (hu:X.A.units+1<cLine) (hi:PE X i ty) (ho:PE X o td):PC X .NotIn i o (adg ty td):=by
 intro pins s σ H Q I h;refine tE (hi pins s σ H _ I h) λiv s1 y H1 I1 ry q1=>tE (ho pins s1 σ H1 _ I1 q1) λu s2 x H2 I2 rx hh=>?_;let#[a,ov,ex,g,q2]:=hh;subst ex;obtain rfl:u=Value.ref a:=rx;show Ou hu I2 g ry λs3 I3=>#[.bl _,H2,I3,rfl,q2]
theorem Ow (hu:X.A.units+1<cLine) (ho:PE X o td) (hi:PE X i ty) (hv:PE X value tv) (hs:swapsWith value (ae<|.Subscript o i pos') pos.line X.env=pure af) :
 PS X (.Assign [.Subscript o i pos'] value pos) (adh td ty tv):=by
 intro pins s σ H D I h;refine wpAny_Assign_Subscript (tE (hv pins s σ H _ I h) λr s1 v H1 I1 rv q1=>tE (ho pins s1 σ H1 _ I1 q1) λu s2 x H2 I2 rx q2=>tE (hi pins s2 σ H2 _ I2 q2) λiv s3 y H3 I3 ry hh=>?_) hs;let#[a,H4,ex,g,q3]:=hh;subst ex;obtain rfl:u=Value.ref a:=rx;show Jj hu I3 g ry rv λs4 I4=>#[σ,H4,I4,q3]
theorem Ox (ho:PE X o td) (hi:PE X i ty):PS X (.Delete [.Subscript o i IL] pos) (adi td ty):=by
 intro pins s σ H D I h;refine wpAny_Delete<|wpAny_deleteEach_cons<|wpAny_delete_Subscript<|tE (ho pins s σ H _ I h) λu s1 x H1 I1 rx q1=>tE (hi pins s1 σ H1 _ I1 q1) λiv s2 y H2 I2 ry hh=>?_;let#[a,ao,k,ex,e,ey,l,q2]:=hh;subst ex ey;obtain rfl:u=Value.ref a:=rx;show Jk I2 e ry l λs3 I3=>wpAny_deleteEach_nil #[σ,_,I3,q2]
end
theorem LG (h:aJ) (hb:sysModules<h.objs.size):dg P w H (h.push { cls:=.type "dict",data:=.dict #[] }) h.objs.size (.dK []):=
 #[cJ _,beq_eq_false_iff_ne.mpr<|Ne.symm<|bC hb,[],.nil,Heap.DictOf.new h]
def ahn:TE:=λ_ H Q=>∀ p,H p=ag->Q (.ref p) (upd H p<|.dK [])
theorem LH:PE X (.Dict [] [] pos) ahn:=λpins s σ H Q I h=>
 wpAny_Dict_empty #[.ref s.heap.objs.size,_,I.laid (λ_ _ q=>aN _ q) (aI _)<|LG s.heap I.big,rfl,h _<|I.aE.fresh<|aI _]
structure M1 (X:Cx) (o:au) (m:Str) (apos:aG) (e:au) (b9:aG):zw where
 base:attributeBase o m X.env (eval o X.env)=eval o X.env
 few:((backTo b9<|starEach [e] X.env).all (λx=>!x.1)&&(backToKw b9<|keywordEach [] X.env).all (λx=>x.1.isSome)
  && decide (([e]:List au).length+([]:List Keyword).length+(if ([]:List Keyword).isEmpty then 0 else 1)<30))=ah
 line:(apos.endLine==b9.line)=ah
 trees:backTo b9 (starEach [e] X.env)=[(af,eval e X.env)]
def YE (H:Hp) (a:ai):zw:=(∃ ao,Rd H a<|.dK ao) \/ ∃ ao,Rd H a (.dT ao)
theorem B9 {s:aq}(I:Inv X pins σ H s) (d:YE H a) :
 s.TypeIs (.ref a) "dict" /\ (∀ b,Value.ref a=.ref b->∃ ob,s.heap.get? b=ae ob /\ ob.dict=ag) /\ (a==sysModules)=af:=by
 rcases d with⟨ao,e⟩|⟨ao,e⟩
 .let#[_,hd,vs,_,dd]:=oO I.aE e;refine#[dd.typeIs,λb q=>?_,hd];cases q;let#[ob,_,_,h1,h2,_]:=dd;show#[ob,h1,h2.2.1]
 .let#[_,hd,xs,_,dd]:=AC I.aE e;refine#[dd.typeIs,λb q=>?_,hd];cases q;let#[ob,_,_,h1,h2,_]:=dd;show#[ob,h1,h2.2.1]
section
variable {s:aq} {y d:V} {r:aj} {o:Option V} 
theorem Tu (hu:A.units+1<cLine) (I:Inv X pins σ H s) (g:rh H a y o) (ry:RelV y u) (h:∀ w' s',Inv X pins σ H s'->RelV (o.getD .aC) w'->Q w' s') :
 wpAny ze A (call (.builtin "dict.get") [.ref a,u]) Q E s:=by
 rcases g with⟨ao,k,e,ey,l⟩|⟨ao,k,b,e,ey,eb,l⟩
 .subst ey;let#[z,hd,vs,rel,dd]:=oO I.aE e;refine xi XR dd.typeIs abA (abB _ _) (meets_dict_get _ a (oN ry) hd) #[_,dd.mapOf,h _ _ (I.tok _) ?_];rw[l];show(rel.val k).getD zk
 .subst ey;cases (ry);let#[z,hd,xs,rel,dd]:=AC I.aE e;refine xi XR dd.typeIs abA (abB _ _) (meetsH_dict_get _ a b hd) #[yS hu,k,xs,lY I.aE eb,dd,h _ _ (I.tok _) ?_];rw[l];show(rel.val k).getD zk
end
def adj (td ty:TE):TE:=λσ H Q=>td σ H λx H1=>∃ a,x=.ref a /\ YE H1 a /\ ty σ H1 λy H2=>∃ o,rh H2 a y o /\ Q (o.getD .aC) H2
def adk (td ty:TE):TE:=λσ H Q=>td σ H λx H1=>∃ a,x=.ref a /\ YE H1 a /\ ty σ H1 λy H2=>∃ ao k v,H2 a=ae (.dK ao) /\ y=kV k /\ km ao k=ae v /\ Q v (upd H2 a<|.dK<|rf ao k)
section
variable {o f:au} {b9:aG} {td ty tx:TE}
theorem LI (hu:X.A.units+1<cLine) (ho:PE X o td) (he:PE X e ty) (m:M1 X o "get" apos e b9):PE X (.Call (.Attribute o "get" apos) [e] [] b9) (adj td ty):=by
 intro pins s σ H Q I h;refine HF m.base m.few m.line Iw XR PySem.F.type_dict_get<|tE (ho pins s σ H _ I h) λu s1 x H1 I1 rx hh=>?_;let#[a,ex,d,q1]:=hh;subst ex;obtain rfl:u=Value.ref a:=rx;let#[t1,t2,_]:=B9 I1 d;refine#[t1,t2,?_];rw[m.trees];show Ei zk<|XJ<|xM<|tE (he pins s1 σ H1 _ I1 q1) λiv s2 y H2 I2 ry ⟨ov,g,q2⟩=>xK<|Tu hu I2 g ry λw' s3 I3 nG=>#[_,H2,I3,nG,q2]
theorem LJ (ho:PE X o td) (he:PE X e ty) (m:M1 X o "pop" apos e b9):PE X (.Call (.Attribute o "pop" apos) [e] [] b9) (adk td ty):=by
 intro pins s σ H Q I h;refine HF m.base m.few m.line Iw abz PySem.F.type_dict_pop<|tE (ho pins s σ H _ I h) λu s1 x H1 I1 rx hh=>?_;let#[a,ex,d,q1]:=hh;subst ex;obtain rfl:u=Value.ref a:=rx;let#[t1,t2,_]:=B9 I1 d;refine#[t1,t2,?_];rw[m.trees];refine Ei zk<|XJ<|xM<|tE (he pins s1 σ H1 _ I1 q1) λiv s2 y H2 I2 ry ⟨ao,k,v,ea,ey,l,q2⟩=>xK ?_;subst ey;show VI I2 ea ry l (.inl zk) λw' s3 I3 nG=>#[v,_,I3,nG,q2]
end
section
variable {s:aq} 
end
section
variable {s:aq} {y:V} 
end
end L2
namespace L2.DL
noncomputable def adl:Key->PyData
 |.inl i=>.int i
 |.inr x=>.str x
mutual
noncomputable def toPy:D->PyData
 |.aC=>.none
 |.bl b=>.bool b
 |.int i=>.int i
 |.str x=>.str x
 |.tup l=>.tuple<|rj l
 |.lst l=>.list<|rj l
 |.aB l=>.dict<|Kr l
noncomputable def rj:List D->List PyData
 |[]=>[]
 |d::l=>toPy d::rj l
noncomputable def Kr:List (Key×D)->List (PyData×PyData)
 |[]=>[]
 |(k,d)::l=>(adl k,toPy d)::Kr l
end
section
variable {s:aq}
theorem oh {h:aJ}:∀ {es:List DictEntry}{vs:List (Key×aj)}{l:List (Key×D)}{ao:List (Key×V)},PySem.Pairs (dF X.prog X.w) es vs->KV ao vs->aR F l ao->ReadsAll h (es.map (·.key)) ((Kr l).map (·.1)) []
 | _,_,[],_,p,k,d=>by
   cases (d);cases k;cases p;show .nil
 | _,_,(k,x)::l,_,p,q,d=>by
   let#[v,r,e,_,d2]:=d;subst e;cases q with
   |cons q1 q2=>
     cases p with
     |@cons de _ _ _ p1 p2 p3=>
       have e1:=q1.1;simp at e1;rw[<-e1]at p1;have hk:Reads h de.key (adl k) []:=by
        rcases gf (p1) with⟨i,t,e2,e3⟩|⟨y,t,e2,e3⟩
        .rw[e2,e3];show .int i t
        .rw[e2,e3];show .str y t
       show ReadsAll.cons hk<|oh (h:=h) p3 q2 d2
mutual
theorem iA (I:Inv X pins σ H s) (sub:Sub F H):∀ {d:D}{v:V}{u:aj},Den F d v->RelV v u->∃ as,Reads s.heap u (toPy d) as
 |.aC,_,_,h,r=>by cases (show _=V.aC from h);cases r;show#[[],.none]
 |.bl b,_,_,h,r=>by cases (show _=V.bl b from h);cases r;show#[[],.bool b]
 |.int i,_,_,h,r=>by cases (show _=V.int i from h);let#[t,rfl]:=r;show#[[],.int i t]
 |.str x,_,_,h,r=>by cases (show _=V.str x from h);let#[t,rfl]:=r;show#[[],.str x t]
 | .tup l,_,_,h,r=>by
   let#[a,vs,rfl,h1,h2]:=h;cases r;let#[_,its,rv,ob,e1,e2,n,e3]:=(show dg X.prog X.w H s.heap a (.tup vs) from I.aE a _ (sub _ _ h1));let#[as,ra]:=jJ I sub h2 rv;show#[as,.tuple e1 e2 e3 (by simpa using ra)]
 | .lst l,_,_,h,r=>by
   let#[a,vs,rfl,h1,h2]:=h;cases r;let#[_,its,n,rv,e1]:=(show dg X.prog X.w H s.heap a (.lst vs) from I.aE a _ (sub _ _ h1));let#[as,ra]:=jJ I sub h2 rv;show#[a::as,.list e1 zk zk (by simpa using ra)]
 | .aB l,_,_,h,r=>by
   let#[a,ao,rfl,h1,h2]:=h;cases r;let#[_,_,vs,rk,ob,es,ep,e1,e2,e3,_,pr,_]:=(show dg X.prog X.w H s.heap a (.dK ao) from I.aE a _ (sub _ _ h1));let#[as,ra]:=lZ I sub h2 rk pr;show#[a::[]++as,.dict e1 e2.1 e3 (oh (X:=X) pr rk h2) ra]
theorem jJ (I:Inv X pins σ H s) (sub:Sub F H):∀ {l:List D}{vs:List V}{us:List aj},aH F l vs->Vals vs us->∃ as,ReadsAll s.heap us (rj l) as
 |[],_,_,h,r=>by cases (show _=[] from h);cases r;show#[[],.nil]
 | d::l,_,_,h,r=>by
   let#[v,t,e,h1,h2]:=h;subst e;cases r with
   |cons r1 r2=>
     let#[as,ra]:=iA I sub h1 r1;let#[bs,rb]:=jJ I sub h2 r2;show#[as++bs,.cons ra rb]
theorem lZ (I:Inv X pins σ H s) (sub:Sub F H):∀ {l:List (Key×D)}{ao:List (Key×V)}{vs:List (Key×aj)}{es:List DictEntry},aR F l ao->KV ao vs->PySem.Pairs (dF X.prog X.w) es vs->∃ as,ReadsAll s.heap (es.map (·.val)) ((Kr l).map (·.2)) as
 |[],_,_,_,h,r,p=>by cases (show _=[] from h);cases r;cases p;show#[[],.nil]
 | (k,d)::l,_,_,_,h,r,p=>by
   let#[v,t,e,h1,h2]:=h;subst e;cases r with
   |cons r1 r2=>
     cases p with
     |cons p1 p2 p3=>
       let#[as,ra]:=iA I sub h1 r1.2;let#[bs,rb]:=lZ I sub h2 r2 p3;rw[<-p2]at ra;show#[as++bs,.cons ra rb]
end
end
section
variable {a b c:au} {p p2:aG}
end
theorem gY {s:aq}(I:Inv X pins σ H s) (sub:Sub F H) {d:D}(h:qt F H d v) (r:RelV v u):∃ as,Reads s.heap u (toPy d) as:=by
 cases d with
 |lst l=>
   let#[a,vs,rfl,h1,h2]:=h;cases r;let#[_,its,n,rv,e1]:=(I.aE a _ h1);let#[as,ra]:=jJ I sub h2 rv;show#[a::as,.list e1 zk zk (by simpa using ra)]
 |aB l=>
   let#[a,ao,rfl,h1,h2]:=h;cases r;let#[_,_,vs,rk,ob,es,ep,e1,e2,e3,_,pr,_]:=(I.aE a _ h1);let#[as,ra]:=lZ I sub h2 rk pr;show#[a::[]++as,.dict e1 e2.1 e3 (oh pr rk h2) ra]
 |tup l=>show iA I sub h r
 |aC=>show iA I sub h r
 |bl b=>show iA I sub h r
 |int i=>show iA I sub h r
 |str x=>show iA I sub h r
def nK (d:D):Bool:=(toPy d).canLay0&&decide ((toPy d).depth<=60)
def eqv (x y:D):Bool:=PyData.eqv (toPy x)<|toPy y
theorem lg {d:D}(h:nK d=ah):(toPy d).canLay0=ah /\ (toPy d).depth<=60:=by
 unfold nK at h
 rwa [aQ,decide_eq_true_eq]at h
def wz (neg:Bool):R2:=λx y H Q=>∃ F dx dy,Sub F H /\ qt F H dx x /\ qt F H dy y /\ nK dx=ah /\ nK dy=ah /\ Q (.bl (if neg then !eqv dx dy else eqv dx dy)) H
theorem Tv (hu:X.A.units+100<cLine):bA X (compareOp .Eq) (wz af):=by
 intro pins s σ H x y v u Q I rx ry h;let#[F,dx,dy,sub,hx,hy,ox,oy,q]:=h;let#[as,ra]:=gY I sub hx rx;let#[bs,rb]:=gY I sub hy ry;let#[x1,x2]:=lg ox;let#[y1,y2]:=lg oy;show SeqAt.compareEq_reads ra rb x1 y1 za #[.bl _,H,I,rfl,q]
theorem Tw (hu:X.A.units+100<cLine):bA X (compareOp .NotEq) (wz ah):=by
 intro pins s σ H x y v u Q I rx ry h;let#[F,dx,dy,sub,hx,hy,ox,oy,q]:=h;let#[as,ra]:=gY I sub hx rx;let#[bs,rb]:=gY I sub hy ry;let#[x1,x2]:=lg ox;let#[y1,y2]:=lg oy;show SeqAt.compareNe_reads ra rb x1 y1 za #[.bl _,H,I,rfl,q]
def wB (neg:Bool) (x y:D):Option Res:=if nK x&&nK y then ae (.old<|.bl (if neg then !eqv x y else eqv x y)) else ag
theorem adm (neg:Bool):cA (wz neg) (wB neg):=by
 intro F H x y v w Q s sub rx ry e k;unfold wB at e;split at e
 .ext c;rw[aQ]at c;cases e;show#[F,x,y,sub,rx,ry,c.1,c.2,k _ _ #[rfl,rfl]]
 .cases e
def aX:D->D->Option Res
 |.int i,.int j=>ae<|.old<|.bl<|decide (i=j)
 |.str i,.str j=>ae<|.old<|.bl<|decide (i=j)
 |.tup l,.tup []=>ae<|.old<|.bl l.isEmpty
 | .lst a,.lst b=>(match intsOf a,intsOf b with
   |some ns,ae ms=>ae<|.old<|.bl<|decide (ns=ms)
   |_,_=>wB af (.lst a)<|.lst b)
 |x,y=>wB af x y
def eA:D->D->Option Res
 |.int i,.int j=>ae<|.old<|.bl<|!decide (i=j)
 |.str i,.str j=>ae<|.old<|.bl<|!decide (i=j)
 |.lst l,.lst []=>ae<|.old<|.bl<|!l.isEmpty
 |x,y=>wB ah x y
theorem Tz {x y:D}{s:Res}(h:aX x y=ae s):Yz x y=ae s \/ wB af x y=ae s:=by
 unfold aX at h;split at h
 .show .inl h
 .show .inl h
 .show .inl h
 .ext a b;split at h
  .ext ns ms e1 e2;left;change ((intsOf a).bind λns=>(intsOf b).map λms=>Res.old _)=_;rw[e1,e2];show h
  .show .inr h
 .show .inr h
theorem TB {x y:D}{s:Res}(h:eA x y=ae s):YA x y=ae s \/ wB ah x y=ae s:=by
 unfold eA at h;split at h
 .show .inl h
 .show .inl h
 .show .inl h
 .show .inr h
theorem TC (hu:X.A.units+100<cLine):bA X (compareOp .Eq) (λx y H Q=>Km X.K x y H Q \/ wz af x y H Q):=(Op za).or<|Tv hu
theorem TD (hu:X.A.units+100<cLine):bA X (compareOp .NotEq) (λx y H Q=>Kn X.K x y H Q \/ wz ah x y H Q):=(Oq za).or<|Tw hu
theorem aho:cA (λx y H Q=>Km K x y H Q \/ wz af x y H Q) aX:=λF H x y v w Q s sub rx ry e k=>(Tz e).imp (λe=>ahb F H x y v w Q s sub rx ry e k) λe=>adm af F H x y v w Q s sub rx ry e k
theorem ahp:cA (λx y H Q=>Kn K x y H Q \/ wz ah x y H Q) eA:=λF H x y v w Q s sub rx ry e k=>(TB e).imp (λe=>ahc F H x y v w Q s sub rx ry e k) λe=>adm ah F H x y v w Q s sub rx ry e k
end L2.DL
namespace HT
section
open PySem.SeqAt
open PySem.AutoSeq1 (wpAny_loadPart')
open PySem.MeetsSeq PySem.MeetsSeq2 PySem.MeetsSeq3
end
section
variable {s:aq}
open PySem.AutoSeq1 (wpAny_loadPart')
end
end HT
namespace L2.DL
section
variable {a b c:au} {p p2:aG}
def adn:R2:=λx y H Q=>rI v7 (λi j=>.int<|i*j) x y H Q \/ acN x y H Q
theorem Oy:bA X (binaryOp .Mult) adn:=SM.or S3
noncomputable def dI:D->D->Option Res
 |.int i,.int j=>if v7 i j then ae (.old<|.int<|i*j) else ag
 |.lst l,.int k=>if -(2 ^ 63)<=k /\ k<2 ^ 63 /\ l.length*k.toNat<=sizeLine then ae (.lst (List.replicate k.toNat l).flatten) else ag
 |_,_=>ag
theorem aH.rep {F:Hp}{l:List D}{vs:List V}(h:aH F l vs):∀ k:Nat,aH F (List.replicate k l).flatten (List.replicate k vs).flatten
 |0=>rfl
 |k+1=>h.append<|h.rep k
theorem ahq:cA adn dI:=by
 intro F H x y v w Q s sub rx ry e k;unfold dI at e;split at e
 .ext i j;split at e
  .ext hc;cases e;show .inl #[i,j,rx,ry,hc,k _ _ #[rfl,rfl]]
  .cases e
 .ext l j;split at e
  .ext hc;cases e;let#[a,vs,rfl,h1,h2]:=rx;show .inr #[a,j,vs,rfl,ry,h1,hc.1,hc.2.1,by rw[<-h2.length];show hc.2.2,λp hp=>k _ _ #[p,_,rfl,hp,rfl,h2.rep _]]
  .cases e
 .cases e
theorem TF (hu:X.A.units<cLine):bA X (compareOp .LtE) (nH λi j=>.bl<|decide (i<=j)):=Vt
noncomputable def pH:D->D->Option Res:=λx y=>match x,y with|.int i,.int j=>ae (.old<|.bl<|decide (i<=j))|_,_=>ag
theorem ahr:cA (nH λi j=>.bl<|decide (i<=j)) pH:=Kl λ_ _ _=>rfl
theorem Jl {o:au}(ho:PD X T Z o ma) (ha:PD X T Z e mb)
 (Ez:attributeBase o "append" X.env (eval o X.env)=eval o X.env:=by rfl)
 (EA:((backTo pos<|starEach [e] X.env).all (λx=>!x.1)&&(backToKw pos<|keywordEach [] X.env).all (λx=>x.1.isSome)
  && decide ([e].length+([]:List Keyword).length+(if ([]:List Keyword).isEmpty then 0 else 1)<30))=ah:=by rfl)
 (EB:(apos.endLine==pos.line)=ah:=by rfl) (hs:starEach [e] X.env=(af,eval e X.env)::starEach [] X.env:=by rfl) :
 PD X T Z (.Call (.Attribute o "append" apos) [e] [] pos) (kh ma mb):=
 PE.imp (RQ abC PySem.F.slot_list_append PySem.F.type_list_append mZ ho (ji ha lW hs) Ez EA EB hs (by rfl)) λσ H Q h=>VG h
def ES (mo mi:DE W):DG:=λw env bx=>match mo env bx with
 | .val (.b n) bx1=>(match mi env bx1 with
   | .val (.d<|.int k) bx2=>(match w,bx2[n]? with
     |.d d,ae (.lst l)=>(dG l.length k).map λj=>(env,bx2.set n<|.lst<|l.set j d)
     |_,_=>ag)
   |_=>ag)
 |_=>ag
theorem Oz {o i:au}{mo mi:DE W}(ho:PD X T Z o mo) (hi:PD X T Z i mi)
 (ha:∀ v,assign (.Subscript o i pos) X.env v=(do
  let ov <-holding [v] (eval o X.env)
  let iv <-holding [v,ov] (eval i X.env)
  standAt pos
  holding [v,ov,iv] (setItem ov iv v)
  release [v,ov,iv] []):=by intro _;rfl):pG X T (.Subscript o i pos) (ES mo mi):=by
 refine PG.imp (SE ho hi Lk ha) λv σ H Q=>x5 λF r env bx w R dw h=>?_;unfold ES at h;refine#[F,r,env,bx,R,?_];cases eo:mo env bx with
 |bad=>erw[eo]at h;show h.elim
 |exc c bx1=>erw[eo]at h;show h.elim
 |val ow bx1=>
   erw[eo]at h;intro F1 r1 ov H1 g1 R1 d1;cases ow with
   |b n=>
     refine#[F1,r1,env,bx1,R1,?_];cases ei:mi env bx1 with
     |bad=>erw[ei]at h;show h.elim
     |exc c bx2=>erw[ei]at h;show h.elim
     |val iw bx2=>
       erw[ei]at h;intro F2 r2 iv H2 g2 R2 d2;cases iw with
       |d id=>
         cases id with
         |int k=>
           simp only at h;let#[a,rfl,ha]:=g2.den d1;let#[c2,nI,uH]:=R2.k6 ha;rw[nI]at h;cases w with
           |d dd=>
             cases c2 with
             |lst l=>
               simp only at h;cases ej:dG l.length k with
               |none=>rw[ej]at h;show h.elim
               |some j=>
                 rw[ej]at h;let#[hF,vs,k1,k2]:=uH;refine#[a,vs,k,j,rfl,d2,k1,by rw[<-k2.length];show ej,?_];have ahs:=Den.mono (g1.trans g2).s dd dw;show h F2 r2 σ _ (g1.trans g2)<|R2.write ha hF #[hF,_,fF,aH.set ahs j k2]
             |_=>show h.elim
           |_=>show h.elim
         |_=>show h.elim
       |_=>show h.elim
   |_=>show h.elim
noncomputable def sq (i:Nat):DE W:=λenv bx=>match env[i]? with
 | some (ae<|.b n)=>(match bx[n]? with
   |some (.lst l)=>.val (.d<|.lst l)<|bx.set n .dead
   |some (.aB l)=>.val (.d<|.aB l)<|bx.set n .dead
   |_=>.bad)
 |_=>.bad
theorem TH (i:Nat) (hN:X.N[i]?=ae x:=by rfl) (hv:xS X.env.scope x:=by first|show Or.inl zk|show Or.inr (Or.inl zk)|show Or.inr (Or.inr zk)) (hd:(x==("__debug__":Str))=af:=by decide)
 (pD:(x==("__classdict__":Str))=af:=by decide):PD X T Z (.Name x pos) (sq i):=by
 refine PE.imp (J4 hN hv hd pD) λσ H Q=>x4 λF r env bx R h=>?_;unfold sq at h;split at h
 .ext n e;let#[v,e1,a,rfl,ha]:=R.slot i _ e;let#[c,hc,kc]:=R.k6 ha;rw[hc]at h;cases c with
  |lst l=>
    let#[hF,vs,k1,k2]:=kc;let#[R',g]:=R.freeze ha hF k1;show#[_,e1,h _ r _ H g R' #[a,vs,rfl,fF,aH.mono g.s l k2]]
  |aB l=>
    let#[hF,vs,k1,k2]:=kc;let#[R',g]:=R.freeze ha hF k1;show#[_,e1,h _ r _ H g R' #[a,vs,rfl,fF,aR.mono g.s l k2]]
  |_=>show h.elim
 .show h.elim
def uI (m:DE W):DE W:=λenv bx=>fA (m env bx) λw bx1=>match w with|.s l=>.val (.d<|.int l.length) bx1|_=>.bad
theorem OA (hg:Gl X "len") (hm:X.mg "len"=ag) (ha:PD X T Z a ma) (he:starEach [a] X.env=(af,eval a X.env)::starEach [] X.env:=by rfl):PD X T Z (.Call (.Name "len" p) [a] [] pos) (uI ma):=by
 refine PE.imp (Ar mG hg hm PySem.boot_len (ji ha lW he) zh (rfl) he (by rfl)) λσ H Q=>x4 λF r env bx R h=>?_;refine#[F,r,env,bx,R,End.bind h λw bx1 F1 r1 v H1 g1 R1 d1 h1=>?_];cases w with
 |s l=>
   let#[q,o,rfl,k]:=d1;refine#[q,_,rfl,.inl<|.inl<|.inr #[o,R1.fh _ _ k],?_];rw[aV];show h1 F1 r1 _ H1 (.refl F1 r1) R1 zk
 |_=>show h1.elim
def ET (m k:DE W):DE W:=λenv bx=>fA (m env bx) λw bx1=>fA (k env bx1) λu bx2=>match w,u with
 |.s l,.d (.int i)=>(match bO l i with|some n=>.val (.d<|.int n) bx2|none=>.bad)
 |_,_=>.bad
theorem TJ (ha:PD X T Z a ma) (hb:PD X T Z b mb) (hs:IT b):PD X T Z (.Subscript a b pos) (ET ma mb):=by
 refine PE.imp (RP FP ha hb hs) λσ H Q=>x4 λF r env bx R h=>?_;refine#[F,r,env,bx,R,End.bind h λw bx1 F1 r1 v H1 g1 R1 d1 h1=>?_];refine#[F1,r1,env,bx1,R1,End.bind h1 λu bx2 F2 r2 y H2 g2 R2 d2 h2=>?_];cases w with
 |s l=>
   cases u with
   |d d=>
     cases d with
     |int i=>
       let#[q,o,rfl,k]:=d1;simp at h2;cases e:bO l i with
       |none=>rw[e]at h2;show h2.elim
       |some n=>
         rw[e]at h2;refine#[q,l.map V.int,i,.int n,rfl,d2,.inl<|.inr #[o,R2.fh _ _<|g2.s _ _ k],?_,h2 F2 r2 _ H2 (.refl F2 r2) R2 zk];unfold bO at e ⊢;rw[aV];cases ej:dG l.length i with
         |none=>rw[ej]at e;cases e
         |some j=>rw[ej]at e;erw[bV]at e ⊢;rw[kQ,e];rfl
     |_=>show h2.elim
   |_=>show h2.elim
 |_=>show h2.elim
def pI (bo:Bool) (l:List<|Key×D):DE W:=λ_ bx=>ck bo (ae<|.aB l) bx
theorem OB (bo:Bool):PD X T Z (.Dict [] [] pos) (pI bo []):=PE.imp (LH) λσ H Q=>x4 λF r env bx R h=>(λp hp=>gR R h #[p,[],rfl,hp,rfl,rfl])
end
end L2.DL
namespace HT
section
variable {s:aq}
theorem D3 {t:ai}{i:Nat}{x:aj}(hit:s.heap.IsTupleIter it t i) (ht:s.heap.IsTuple t items) (hx:items[i]?=ae x)
 (hQ:∀ h',h'.IsTupleIter it t (i+1)->Heap.SameBut it s.heap h'->Q x { s with heap:=h' }):wpAny zd A (Builtin.SmallTypes.nextOf<|.ref it) Q E s:=by
 let#[ob,sk,uB,sj]:=id hit;let#[ot,EU,_,nt,YF]:=ht;refine ak<|rN hit.typeIs Iy<|kE Iy hit.typeIs abD (show wpAny _ _ (field _ 0 >>= _) _ _ s from ak (nz sk sj zk ?_))<|abE _
 change wpAny _ _ _ _ _ s;refine ak<|nz sk sj zk<|ak<|sL EU YF ?_
 simp[pC,hx];refine ak<|sM sk sj zf<|az #[x,rfl,az<|hQ _ #[_,sR _ sk<|xI<|qO sj _,(Eh ..).trans uB,?_]<|Heap.SameBut.update ..];rw[qO sj];simp[rawInt]
theorem Jm {t:ai}{i:Nat}(hh:A.handled=ag) (hit:s.heap.IsTupleIter it t i) (ht:s.heap.IsTuple t items) (hx:items[i]?=ag)
 (hE:∀ h' e,Heap.ExtBut it s.heap h'->(∃ o,h'.get? e=ae o /\ o.cls=.type "StopIteration")->E (.ref e) { s with heap:=h' }):wpAny zd A (Builtin.SmallTypes.nextOf<|.ref it) Q E s:=by
 let#[ob,sk,uB,sj]:=id hit;let#[ot,EU,_,nt,YF]:=ht;refine ak<|rN hit.typeIs Iy<|kE Iy hit.typeIs abD (show wpAny _ _ (field _ 0 >>= _) _ _ s from ak (nz sk sj zk ?_))<|abE _;refine ak<|nz sk sj zk<|ak<|sL EU YF ?_;simp[pC,hx];refine ak<|pQ<|ak<|sM sk sj zf<|ak ?_;refine ak<|eV (ak<|yT (by first|rfl|(rfl))<|eV ?_ (by size_fits)) (by size_fits);refine ak<|HG ?_;first|rw[hh]|rw[hh]
 show ak<|az<|HI<|hE _ _ (((Heap.SameBut.update ..).extBut.push _).push _) #[_,bE _ zk,rfl]
theorem Jn (hh:A.handled=ag) (it l:ai) (dW:l≠it) (items:Array aj) :
 Draws prog w A it [it,l] items.size (λi v=>items[i]?=ae v) (λi h=>h.IsTupleIter it l i /\ h.IsTuple l items) where
 live:=λ_ _ st=>let ⟨o,ho,_⟩:=st.1;#[o,ho]
 frame:=λ_ _ _ st hk=>#[st.1.at λo e=>hk it zf o e,st.2.at λo e=>hk l zf o e]
 item:=λi s Q E hi st hQ=>D3 st.1 st.2 (x:=items[i]) zf λh' a b=>hQ _ h' s.toks zf #[a,st.2.at λo e=>b.extBut _ _ dW e] b
 done:=λs Q E st hE=>Jm hh st.1 st.2 zf hE
structure EV (z TI TO i1 i2:ai) (rm rq:List ai):zw where
 a:TI≠z /\ TO≠z /\ i1≠z /\ i2≠z /\ TI≠TO /\ TI≠i1 /\ TI≠i2 /\ TO≠i1 /\ TO≠i2 /\ i1≠i2
 f1:z∉rm /\ TO∉rm /\ i2∉rm
 f2:z∉rq /\ TO∉rq /\ i1∉rq
variable {z TI TO i1 i2:ai} {rm rq:List ai} {n1 n2:Nat} {P1 P2:Nat -> aj -> zw} {S1 S2:Nat -> aJ -> zw}
theorem Draws.same {P:Nat->aj->zw}{S:Nat->aJ->zw}(D:Draws prog w A it fp n P S) {c:ai}{k:Nat}(x:Heap.SameBut c h h') (hc:c∉fp) (st:S k h):S k h' :=
 D.frame k h h' st λb hb o e=>x.extBut _ _ (λq=>hc<|q▸hb) e
abbrev uJ (h:aJ) (z TI TO:ai) (f0 f1:aj):zw:=h.get? z=ae { cls:=.type "zip",dict:=ag,data:=.fields (List.toArray [f0,f1,.bool af,.ref TI,.ref TO]),slots:=#[] }
def tZ (h:aJ) (z TI TO:ai):zw:=∃ f0 f1,(f0=.none \/ ∃ a,f0=rawInt a) /\ uJ h z TI TO f0 f1
theorem aht {Q:Option bj->aq->zw}(h:Q (s.heap.get? a) s):wpAny zd A (loadIfAlive a) Q E s:=λΓ p _=>by simpa[loadIfAlive] using h
theorem AD {f0 f1:aj}{Q:Bool->aq->zw}(hf:f0=.none \/ ∃ a,f0=rawInt a) (hz:uJ s.heap z TI TO f0 f1) (h:∀ r h' ahu,uJ h' z TI TO f0 ahu->Heap.SameBut z s.heap h'->Q r { s with heap:=h' }) :
 wpAny zd A (Builtin.SmallTypes.ownedTupleIsFree<|.ref z) Q E s:=by
 have hs:Heap.SameBut z s.heap s.heap:=#[rfl,λ_ _=>rfl];rcases hf with rfl|⟨a,rfl⟩
 .show ak<|nz hz zk zk<|az<|h _ _ f1 hz hs
 .refine ak<|nz hz zk zk<|ak<|aht ?_;cases s.heap.get? a.toNat with
  |none=>show az<|h _ _ f1 hz hs
  |some o=>
    refine ak<|nz hz zk (x:=f1) zk ?_;by_cases q:(f1 != Value.bool ah)=ah
    .rw[if_pos q];show ak<|u4 hz zf λg1 wC e1=>az<|h _ g1 _ wC e1
    .rw[if_neg q];show ak<|az<|az<|h _ _ f1 hz hs
theorem LK (D1:Draws prog w A i1 rm n1 P1 S1) (D2:Draws prog w A i2 rq n2 P2 S2) (R:EV z TI TO i1 i2 rm rq) {k:Nat}{a b:aj}(k1:k<n1) (k2:k<n2)
 (hz:tZ s.heap z TI TO) (wD:IsPair s.heap TI (.ref i1)<|.ref i2) (vB:IsPair s.heap TO a b) (s1:S1 k s.heap) (s2:S2 k s.heap)
 (hQ:∀ x y h' tk,P1 k x->P2 k y->tZ h' z TI TO->(∃ u v,IsPair h' TO u v)->S1 (k+1) h'->S2 (k+1) h'->IsPair h' s.heap.objs.size x y ->
  (∀ c o,c≠z->c≠TO->c≠i1->c≠i2->s.heap.get? c=ae o->h'.get? c=ae o)->Q (.ref s.heap.objs.size) { s with heap:=h',toks:=tk }) :
 wpAny zd A (Builtin.«zip.__next__» #[[.ref z],[]]) (λfin s'=>∃ v,fin=.done (.ret v) /\ Q v s') E s:=by
 let#[#[r1,r2,r3,r4,r5,r6,r7,r8,r9,Ks],#[f1,f2,f3],#[f4,f5,f6]]:=R;let#[o0,o1,ho,hz]:=hz
 change wpAny _ _ (field _ 2 >>= _) _ _ _;refine ak<|nz hz zk (x:=.bool af) zk ?_
 change wpAny _ _ _ _ _ _;refine ak<|nz hz zk zk<|ak<|sL wD zk ?_
 change wpAny _ _ _ _ _ _
 refine ak<|AD ho hz λr g0 o2 yq e0=>?_;cases r with
 |true=>
   simp only;refine ak<|pQ<|ak<|nz yq zk zk<|ak<|u4 yq zf λg1 wC wb=>?_;have e1:Heap.SameBut z s.heap g1:=#[wb.1.trans e0.1,λc hc=>(wb.2 c hc).trans<|e0.2 c hc];refine ak ?_;erw[Xq,aaG,xn,Eb];refine ak<|ak<|yU (show wpAny _ _ (Builtin.SmallTypes.nextOf (.ref i1) >>= _) _ _ _ from ak (D1.item k _ _ _ k1 (Draws.same D1 e1 f1 s1) λx g2 t2 px EW e2=>az ?_));have EX:IsPair g2 TO a b:=e2.extBut _ _ r8<|e1.extBut _ _ r2 vB;refine ak<|sL EX zk<|ak<|W9 EX λg3 ado e3=>ak<|Xa<|az ?_;refine ak<|ak<|yU (show wpAny _ _ (Builtin.SmallTypes.nextOf (.ref i2) >>= _) _ _ _ from ak (D2.item k _ _ _ k2 (Draws.same D2 e3 f5<|Draws.same D2 e2 f6<|Draws.same D2 e1 f4 s2) λy g4 t4 py YG e4=>az ?_));have adp:IsPair g4 TO x b:=e4.extBut _ _ r9 ado;refine ak<|sL adp zk<|ak<|W9 adp λg5 ahv e5=>ak<|Xa<|az<|az ?_;have adq:IsPair g5 TO x y:=ahv;refine ak<|sL adq zk<|ak<|Xb ?_;have rZ:g5.objs.size=s.heap.objs.size:=by rw[e5.1,e4.1,e3.1,e2.1,e1.1]
   have ads:uJ g5 z TI TO .ellipsis o2:=e5.extBut _ _ r2.symm<|e4.extBut _ _ r4.symm<|e3.extBut _ _ r2.symm<|e2.extBut _ _ r3.symm wC;have EY:z<g5.objs.size:=bh ads
   change wpAny _ _ (Builtin.SmallTypes.ownedTupleHandOut (.ref z) (.ref g5.objs.size) >>= _) _ _ _;refine ak ?_
   unfold Builtin.SmallTypes.ownedTupleHandOut;refine ak<|u4 (aN _ ads) zf λg7 ahw e7=>u4 (show uJ g7 z TI TO (rawInt g5.objs.size) o2 from ahw) zf λg8 ahx e8=>?_;have up:∀ c o,c≠z->g5.get? c=ae o->g8.get? c=ae o:=λc o c1 q=>e8.extBut _ _ c1<|e7.extBut _ _ c1<|aN _ q;have adt:IsPair g8 g5.objs.size x y:=e8.extBut _ _ (u9 EY)<|e7.extBut _ _ (u9 EY)<|bE _ zk;refine az #[_,rfl,(show Q (.ref g5.objs.size) _ from ?_)];rw[rZ]at adt ⊢;show hQ x y g8 _ px py #[_,_,.inr #[_,rfl],show uJ g8 z TI TO (rawInt g5.objs.size) (.bool af) from ahx] #[_,_,up _ _ r2 adq] (D1.frame _ _ _ (Draws.same D1 e5 f2<|Draws.same D1 e4 f3<|Draws.same D1 e3 f2 EW) λc hc o q=>up c o (λw=>f1<|w▸hc) q) (D2.frame _ _ _ (Draws.same D2 e5 f5 YG) λc hc o q=>up c o (λw=>f4<|w▸hc) q) adt λc o c1 c2 c3 c4 q=>up c o c1<|(λc o c1 c2 c3 c4 q=>e5.extBut _ _ c2<|e4.extBut _ _ c4<|e3.extBut _ _ c2<|e2.extBut _ _ c3<|e1.extBut _ _ c1 q) c o c1 c2 c3 c4 q
 |false=>
   erw[HY,if_false];rw[show ((List.toArray [Value.ref i1,Value.ref i2]):Array aj)=[Value.ref i1,Value.ref i2].toArray from rfl];erw[aaH,xn,Eb];refine ak<|ak<|ak<|dS (show wpAny _ _ (Builtin.SmallTypes.nextOf (.ref i1) >>= _) _ _ _ from ak (D1.item k _ _ _ k1 (Draws.same D1 e0 f1 s1) λx g2 t2 px EW e2=>az ?_));refine az<|ak<|ak<|dS (show wpAny _ _ (Builtin.SmallTypes.nextOf (.ref i2) >>= _) _ _ _ from ak (D2.item k _ _ _ k2 (Draws.same D2 e2 f6<|Draws.same D2 e0 f4 s2) λy g4 t4 py YG e4=>az ?_));refine az<|az<|ak<|Xb (az #[_,rfl,?_]) (show 2<=sizeLine by decide);have rZ:g4.objs.size=s.heap.objs.size:=by rw[e4.1,e2.1,e0.1]
   have up:∀ c o,g4.get? c=ae o->(g4.push { cls:=.type "tuple",data:=.seq (List.toArray [x,y]) }).get? c=ae o:=λc o q=>aN _ q;have hT:IsPair (g4.push { cls:=.type "tuple",data:=.seq (List.toArray [x,y]) }) g4.objs.size x y:=bE _ zk;change Q (.ref g4.objs.size) _;rw[rZ]at hT ⊢;show hQ x y _ _ px py #[o0,o2,ho,up _ _<|e4.extBut _ _ r4.symm<|e2.extBut _ _ r3.symm yq] #[a,b,up _ _<|e4.extBut _ _ r9<|e2.extBut _ _ r8<|e0.extBut _ _ r2 vB] (D1.frame _ _ _ (Draws.same D1 e4 f3 EW) λc hc o q=>up c o q) (D2.frame _ _ _ YG λc hc o q=>up c o q) hT
    λc o c1 c2 c3 c4 q=>up c o<|e4.extBut _ _ c4<|e2.extBut _ _ c3<|e0.extBut _ _ c1 q
theorem LM (D1:Draws prog w A i1 rm n1 P1 S1) (D2:Draws prog w A i2 rq n2 P2 S2) (R:EV z TI TO i1 i2 rm rq) {k:Nat}{a b:aj}{Q:Fin->aq->zw}(hk:k=n1 \/ (k<n1 /\ k=n2))
 (hz:tZ s.heap z TI TO) (wD:IsPair s.heap TI (.ref i1)<|.ref i2) (vB:IsPair s.heap TO a b) (s1:S1 k s.heap) (s2:S2 k s.heap)
 (hE:∀ h' e tk,(∀ c o,c≠z->c≠TO->c≠i1->c≠i2->s.heap.get? c=ae o->h'.get? c=ae o)->(∃ o,h'.get? e=ae o /\ o.cls=.type "StopIteration")->E (.ref e) { s with heap:=h',toks:=tk }) :
 wpAny zd A (Builtin.«zip.__next__» #[[.ref z],[]]) Q E s:=by
 let#[#[r1,r2,r3,r4,r5,r6,r7,r8,r9,Ks],#[f1,f2,f3],#[f4,f5,f6]]:=R;let#[o0,o1,ho,hz]:=hz
 change wpAny _ _ (field _ 2 >>= _) _ _ _;refine ak<|nz hz zk (x:=.bool af) zk ?_
 change wpAny _ _ _ _ _ _;refine ak<|nz hz zk zk<|ak<|sL wD zk ?_
 change wpAny _ _ _ _ _ _
 refine ak<|AD ho hz λr g0 o2 yq e0=>?_;cases r with
 |true=>
   simp only;refine ak<|pQ<|ak<|nz yq zk zk<|ak<|u4 yq zf λg1 wC wb=>?_;have e1:Heap.SameBut z s.heap g1:=#[wb.1.trans e0.1,λc hc=>(wb.2 c hc).trans<|e0.2 c hc];have adu:uJ g1 z TI TO .ellipsis o2:=wC;refine ak ?_;erw[Xq,aaG,xn,Eb];rcases hk with hk|⟨YH,vC⟩
   .refine ak<|ak<|yU (show wpAny _ _ _ _ _ _ from ak (D1.done _ _ _ (hk▸Draws.same D1 e1 f1 s1) λg2 ex e2 hx=>?_));let#[oe,wF,EZ]:=hx;have Kt:uJ g2 z TI TO .ellipsis o2:=e2 _ _ r3.symm adu;show u4 Kt zf λg3 _ e3=>hE g3 ex _ (λc o c1 _ c3 _ q=>e3.extBut _ _ c1<|e2 _ _ c3<|e1.extBut _ _ c1 q) #[oe,e3.extBut _ _ (λq=>by subst q;rw[Kt]at wF;cases wF;simp at EZ) wF,EZ]
   .refine ak<|ak<|yU (show wpAny _ _ (Builtin.SmallTypes.nextOf (.ref i1) >>= _) _ _ _ from ak (D1.item k _ _ _ YH (Draws.same D1 e1 f1 s1) λx g2 t2 px EW e2=>az ?_));have EX:IsPair g2 TO a b:=e2.extBut _ _ r8<|e1.extBut _ _ r2 vB;refine ak<|sL EX zk<|ak<|W9 EX λg3 ado e3=>ak<|Xa<|az ?_;refine ak<|ak<|yU (show wpAny _ _ (Builtin.SmallTypes.nextOf (.ref i2) >>= _) _ _ _ from ak (D2.done _ _ _ (vC▸Draws.same D2 e3 f5 (Draws.same D2 e2 f6<|Draws.same D2 e1 f4 s2)) λg4 ex e4 hx=>?_));let#[oe,wF,EZ]:=hx;have adv:uJ g4 z TI TO .ellipsis o2:=e4 _ _ r4.symm<|e3.extBut _ _ r2.symm<|e2.extBut _ _ r3.symm adu;show u4 adv zf λg5 _ e5=>hE g5 ex _ (λc o c1 c2 c3 c4 q=>e5.extBut _ _ c1<|e4 _ _ c4<|e3.extBut _ _ c2<|e2.extBut _ _ c3<|e1.extBut _ _ c1 q) #[oe,e5.extBut _ _ (λq=>by subst q;rw[adv]at wF;cases wF;simp at EZ) wF,EZ]
 |false=>
   erw[HY,if_false];rw[show ((List.toArray [Value.ref i1,Value.ref i2]):Array aj)=[Value.ref i1,Value.ref i2].toArray from rfl];erw[aaH,xn,Eb];rcases hk with hk|⟨YH,vC⟩
   .show ak<|ak<|ak<|dS (show wpAny _ _ (Builtin.SmallTypes.nextOf (.ref i1) >>= _) _ _ _ from ak (D1.done _ _ _ (hk▸Draws.same D1 e0 f1 s1) λg2 ex e2 hx=>(hE g2 ex _ (λc o c1 _ c3 _ q=>e2 _ _ c3<|e0.extBut _ _ c1 q) hx)))
   .show ak<|ak<|ak<|dS (show wpAny _ _ (Builtin.SmallTypes.nextOf (.ref i1) >>= _) _ _ _ from ak (D1.item k _ _ _ YH (Draws.same D1 e0 f1 s1) λx g2 t2 px EW e2=>az<|az<|ak<|ak<|dS (show wpAny _ _ (Builtin.SmallTypes.nextOf (.ref i2) >>= _) _ _ _ from ak (D2.done _ _ _ (vC▸Draws.same D2 e2 f6 (Draws.same D2 e0 f4 s2)) λg4 ex e4 hx=>(hE g4 ex _ (λc o c1 _ c3 c4 q=>e4 _ _ c4<|e2.extBut _ _ c3<|e0.extBut _ _ c1 q) hx)))))
theorem LN (hz:tZ s.heap z TI TO) (h:Q (.ref z) s):wpAny zd A (pyIter<|.ref z) Q E s:=by
 have ty:s.TypeIs (.ref z) "zip":=let ⟨_,_,_,hz⟩:=hz;#[_,hz,rfl]
 show yV ty abF<|kE abF ty F.entry_zip_iter (az #[_,rfl, "zip",_,ty,Ej.lookup,h])<|F.args_zip_iter_1 _
theorem Bf (D1:Draws prog w A.in1 i1 rm n1 P1 S1) (D2:Draws prog w A.in1 i2 rq n2 P2 S2) (R:EV z TI TO i1 i2 rm rq) {k:Nat}{a b:aj}{Q:Option aj->aq->zw}(k1:k<n1) (k2:k<n2)
 (hz:tZ s.heap z TI TO) (wD:IsPair s.heap TI (.ref i1)<|.ref i2) (vB:IsPair s.heap TO a b) (s1:S1 k s.heap) (s2:S2 k s.heap)
 (hQ:∀ x y h' tk,P1 k x->P2 k y->tZ h' z TI TO->(∃ u v,IsPair h' TO u v)->S1 (k+1) h'->S2 (k+1) h'->IsPair h' s.heap.objs.size x y ->
  (∀ c o,c≠z->c≠TO->c≠i1->c≠i2->s.heap.get? c=ae o->h'.get? c=ae o)->Q (ae<|.ref s.heap.objs.size) { s with heap:=h',toks:=tk }):wpAny zd A (pyNext<|.ref z) Q E s:=by
 have hT:s.TypeIs (.ref z) "zip":=let ⟨_,_,_,hz⟩:=hz;#[_,hz,rfl]
 show ak<|u5<|rN hT Ej<|kE Ej hT abG (LK D1 D2 R k1 k2 hz wD vB s1 s2 λx y h' tk b1 b2 b3 b4 b5 b6 b7 b8=>az<|hQ x y h' tk b1 b2 b3 b4 b5 b6 b7 b8)<|abH _
theorem TL {Q:Unit->aq->zw}(hz:tZ s.heap z TI TO) (h:∀ h',tZ h' z TI TO->Heap.SameBut z s.heap h'->Q () { s with heap:=h' }):wpAny zd A (letOwnedTupleGo tg (.ref z)<|.ref p) Q E s:=by
 have same:=h _ hz #[rfl,λ_ _=>rfl];let#[f0,f1,hf,hz]:=id hz
 have tup:wpAny zd A (do
  let o <-load z
  match o.cls,o.data with
  |.type n,.fields vs=>
    if ["enumerate","zip","dict_itemiterator","dict_reverseitemiterator","odict_iterator","itertools.zip_longest","itertools.pairwise"].contains n&&vs[0]?==ae (rawInt p) then
     rule "for.unpacks-the-owned-tuple"
     updateField z 0 .none
  |_,_=>pure ()) Q E s:=by
  refine ak<|xc hz ?_;dsimp only;split
  .refine ak<|pQ<|u4 hz zf λg1 wC e1=>h g1 #[.none,f1,.inl zk,wC] e1
  .show az same
 cases tg with
 |Tuple es n q=>show tup
 |List es q=>show tup
 |_=>show az same
theorem Bg (D1:Draws prog w A.in1 i1 rm n1 P1 S1) (D2:Draws prog w A.in1 i2 rq n2 P2 S2) (R:EV z TI TO i1 i2 rm rq) {k:Nat}{a b:aj}{Q:Option aj->aq->zw}(hk:k=n1 \/ (k<n1 /\ k=n2))
 (hz:tZ s.heap z TI TO) (wD:IsPair s.heap TI (.ref i1)<|.ref i2) (vB:IsPair s.heap TO a b) (s1:S1 k s.heap) (s2:S2 k s.heap)
 (hQ:∀ h' tk,(∀ c o,c≠z->c≠TO->c≠i1->c≠i2->s.heap.get? c=ae o->h'.get? c=ae o)->Q ag { s with heap:=h',toks:=tk }):wpAny zd A (pyNext<|.ref z) Q E s:=by
 have hT:s.TypeIs (.ref z) "zip":=let ⟨_,_,_,hz⟩:=hz;#[_,hz,rfl]
 refine ak<|u5<|rN hT Ej<|kE Ej hT abG (LM D1 D2 R hk hz wD vB s1 s2 λh' e tk q1 q2=>?_)<|abH _;let#[o,ho,hc]:=q2;show ak<|yW #[o,ho,hc] HJ<|az<|hQ h' tk q1
noncomputable def E2 (h:aJ) (l1:ai):aJ:=h.push { cls:=.type "tuple_iterator",data:=.fields (List.toArray [.ref l1,.int 0 0]) }
def yr (h:aJ) (l1 l2:ai):aJ:=(E2 h l1).push { cls:=.type "tuple_iterator",data:=.fields (List.toArray [.ref l2,.int 0 0]) }
def yt (h:aJ) (l1 l2:ai):aJ:=(yr h l1 l2).push { cls:=.type "tuple",data:=.seq (List.toArray [.ref h.objs.size,.ref (E2 h l1).objs.size]) }
def E3 (h:aJ) (l1 l2:ai):aJ:=(yt h l1 l2).push { cls:=.type "tuple",data:=.seq (List.toArray [.none,.none]) }
def E4 (h:aJ) (l1 l2:ai):aJ:=(E3 h l1 l2).push { cls:=.type "zip",data:=.fields (List.toArray [.none,.bool af,.bool af,.ref (yr h l1 l2).objs.size,.ref (yt h l1 l2).objs.size]) }
theorem D4 (l1 l2:ai) (xs ys:Array aj) :
 Meets (Builtin.«zip.__new__» #[[.type "zip",.ref l1,.ref l2],[]]) (λ_ R s=>s.heap.IsTuple l1 xs /\ s.heap.IsTuple l2 ys /\ R (.ok<|.ret<|.ref (E3 s.heap l1 l2).objs.size) { s with heap:=E4 s.heap l1 l2 }):=
 .of_wp λprog w A R s h=>by
  let#[hp,g,d,tk,os]:=s;let#[yu,se,h]:=h;have ak2:=sub_zip
  wp_walk using Xc yu,Xc (se.at λo e=>aN _ e)
  show#[_,rfl,h]
theorem Jo {l1 l2:ai}{xs ys:Array aj}(yu:s.heap.IsTuple l1 xs) (se:s.heap.IsTuple l2 ys)
 (h:∀ h',IsZip h' (s.heap.objs.size+4) (s.heap.objs.size+2) (s.heap.objs.size+3) .none->IsPair h' (s.heap.objs.size+2) (.ref s.heap.objs.size) (.ref<|s.heap.objs.size+1)->IsPair h' (s.heap.objs.size+3) .none .none ->
  h'.IsTupleIter s.heap.objs.size l1 0->h'.IsTupleIter (s.heap.objs.size+1) l2 0->(∀ c o,s.heap.get? c=ae o->h'.get? c=ae o)->Q (.ref<|s.heap.objs.size+4) { s with heap:=h' }):wpAny zd A (call (.type "zip") [.ref l1,.ref l2]) Q E s:=by
 refine callType_new F.called_zip (rfl) (F.typeCall_zip_2 _ _) (F.newCall_zip_2 _ _) (λobj=>F.args_object_init_3 obj _ _) F.entry_zip_new (D4 l1 l2 xs ys) #[yu,se,?_];have z1:(E2 s.heap l1).objs.size=s.heap.objs.size+1:=uj ..;have z2:(yr s.heap l1 l2).objs.size=s.heap.objs.size+2:=by rw[yr,uj,z1]
 have z3:(yt s.heap l1 l2).objs.size=s.heap.objs.size+3:=by rw[yt,uj,z2]
 have z4:(E3 s.heap l1 l2).objs.size=s.heap.objs.size+4:=by rw[E3,uj,z3]
 have g5:(E4 s.heap l1 l2).get? (E3 s.heap l1 l2).objs.size=ae { cls:=.type "zip",data:=.fields (List.toArray [.none,.bool af,.bool af,.ref (yr s.heap l1 l2).objs.size,.ref (yt s.heap l1 l2).objs.size]) }:=bE _ zk;have g4:(E4 s.heap l1 l2).get? (yt s.heap l1 l2).objs.size=ae { cls:=.type "tuple",data:=.seq (List.toArray [.none,.none]) }:=aN _<|bE _ zk;have g3:(E4 s.heap l1 l2).get? (yr s.heap l1 l2).objs.size=ae { cls:=.type "tuple",data:=.seq (List.toArray [.ref s.heap.objs.size,.ref (E2 s.heap l1).objs.size]) }:=aN _<|aN _<|bE _ zk;have g2:(E4 s.heap l1 l2).get? (E2 s.heap l1).objs.size=ae { cls:=.type "tuple_iterator",data:=.fields (List.toArray [.ref l2,.int 0 0]) }:=aN _<|aN _<|aN _<|bE _ zk
 change _ /\ _
 rw[z2,z3,z4]at g5;rw[z1,z2]at g3;rw[z3]at g4;rw[z1]at g2;rw[z4];show#[#[_,g5,rfl],h _ g5 g3 g4 #[_,(aN _<|aN _<|aN _<|aN _<|bE _ zk),rfl,rfl] #[_,g2,rfl,rfl] λc o q=>aN _<|aN _<|aN _<|aN _<|aN _ q]
end
end HT
namespace L2
section
variable {s:aq} 
theorem Inv.ahy {o:HO}(I:Inv X pins σ H s) (hf:∀ b∈ch,pU X pins H b) (k:∀ b o,b∉ch->s.heap.get? b=ae o->h'.get? b=ae o) (hp:s.heap.objs.size<=p)
 (new:dg X.prog X.w (upd H p o) h' p o):Inv X pins σ (upd H p o) { s with heap:=h',toks:=t' }:=by
 have rY:∀ b u,H b=ae u->b∉ch:=λb u e z=>by rw[(hf b z).1]at e;cases e
 have kY:∀ b u,H b=ae u->upd H p o b=ae u:=λb u e=>by rw[fC<|(λb u e=>gm e<|I.aE.fresh hp) b u e];show e
 refine I.step (λb hb=>?_) (λb o _ _ hc e _=>k b o hc e) (λb o _ _ hc e _=>#[o.slots,k b o hc e]) (λb ob _ e n=>?_)
  (λb o hc e=>#[o,k b o hc e]) (λb _ e=>kY b _ e) (λb _ _ e=>kY b _ e) (λb ps e=>#[#[],by rw[kY b _ e];simp]) (λm hm=>?_) ?_ I.bare
 .let#[f0,f1,f2,f3,f4,f5]:=hf b hb;show#[f3,f1,f4,f5]
 .rw[fC λz=>kF _<|kN (bh e) (by rw[z];show hp)];show n
 .let#[ob,es,ep,ho,r]:=hm;show#[ob,es,ep,k _ ob (λz=>(hf _ z).2.1 zk) ho,r]
 .intro b u e;by_cases hb:b=p
  .subst hb;rw[fF]at e;cases e;show new
  .rw[fC hb]at e;refine(I.aE b u e).kY (λc v hc q=>k c v ?_ q) (λc q=>kY c _ q) λc xs q=>kY c _ q;rcases hc with z|z
   .rw[z];show rY b u e
   .show rY c _ z
theorem Inv.ahz (I:Inv X pins σ H s) (hf:∀ b∈ch,pU X pins H b) (k:∀ b o,b∉ch->s.heap.get? b=ae o->h'.get? b=ae o):Inv X pins σ H { s with heap:=h',toks:=t' }:=by
 have rY:∀ b u,H b=ae u->b∉ch:=λb u e z=>by rw[(hf b z).1]at e;cases e
 refine I.step (λb hb=>?_) (λb o _ _ hc e _=>k b o hc e) (λb o _ _ hc e _=>#[o.slots,k b o hc e]) (λb ob _ e n=>n)
  (λb o hc e=>#[o,k b o hc e]) (λb _ e=>e) (λb _ _ e=>e) (λb ps e=>#[#[],by rw[e];simp]) (λm hm=>?_) ?_ I.bare
 .let#[f0,f1,f2,f3,f4,f5]:=hf b hb;show#[f3,f1,f4,f5]
 .let#[ob,es,ep,ho,r]:=hm;show#[ob,es,ep,k _ ob (λz=>(hf _ z).2.1 zk) ho,r]
 .intro b u e;refine(I.aE b u e).kY (λc v hc q=>k c v ?_ q) (λc q=>q) λc xs q=>q;rcases hc with z|z
  .rw[z];show rY b u e
  .show rY c _ z
end
def nM (t:Bool) (K:PySem.W.Frag) (H:Hp) (a:ai) (xs:List V):zw:=match t with|true=>c9 K H a xs|false=>bZ K H a xs
def PX (t:Bool) (h:aJ) (a:ai) (xs:Array aj):zw:=match t with|true=>h.IsTuple a xs|false=>h.IsList a xs
def t7 (t:Bool) (h:aJ) (it l:ai) (i:Nat):zw:=match t with|true=>h.IsTupleIter it l i|false=>h.IsListIter it l i
section
variable {s:aq} {t:Bool} 
theorem yw {xs:List V}(I:Inv X pins σ H s) (q:nM t X.K H a xs):∃ its:List aj,Vals xs its /\ PX t s.heap a its.toArray /\ a<s.heap.objs.size:=by
 cases t with
 |true=>let#[its,r,p,_]:=I.tuple q;show#[its,r,p,let ⟨_,e,_⟩:=p;bh e]
 |false=>let#[its,r,p,_]:=I.list q;show#[its,r,p.isList,let ⟨_,_,e,_⟩:=p;bh e]
theorem adw {xs ys:List V}(I:Inv X pins σ H s) (q:nM t X.K H a xs) (q':nM t X.K H a ys):xs=ys:=by
 cases t with
 |true=>show I.acf q q'
 |false=>show I.ace q q'
theorem t7.ob {l:ai}{i:Nat}(x:t7 t h it l i):∃ o fs,h.get? it=ae o /\ o.data=.fields fs:=by
 cases t with
 |_=>let#[o,e,_,d]:=x;show#[o,_,e,d]
theorem t7.at {h h':aJ}{it l:ai}{i:Nat}(x:t7 t h it l i) (k:∀ o,h.get? it=ae o->h'.get? it=ae o):t7 t h' it l i:=by
 cases t with
 |true=>show Heap.IsTupleIter.at x k
 |false=>show Heap.IsListIter.at x k
theorem Ku (hh:A.handled=ag) (it l:ai) (dW:l≠it) (items:Array aj) :
 Draws prog w A it [it,l] items.size (λi v=>items[i]?=ae v) (λi h=>t7 t h it l i /\ PX t h l items):=by
 cases t with
 |true=>show HT.Jn hh it l dW items
 |false=>show Draws.list hh it l dW items
theorem Jp {l1 l2:ai}{xs ys:Array aj}(yu:PX t s.heap l1 xs) (se:PX t s.heap l2 ys)
 (h:∀ h',IsZip h' (s.heap.objs.size+4) (s.heap.objs.size+2) (s.heap.objs.size+3) .none->IsPair h' (s.heap.objs.size+2) (.ref s.heap.objs.size) (.ref<|s.heap.objs.size+1)->IsPair h' (s.heap.objs.size+3) .none .none ->
  t7 t h' s.heap.objs.size l1 0->t7 t h' (s.heap.objs.size+1) l2 0->(∀ c o,s.heap.get? c=ae o->h'.get? c=ae o)->Q (.ref<|s.heap.objs.size+4) { s with heap:=h' }):wpAny zd A (call (.type "zip") [.ref l1,.ref l2]) Q E s:=by
 cases t with
 |true=>show HT.Jo yu se h
 |false=>show call_zip_2 yu se λh' b1 b2 b3 b4 b5 _ b6=>h h' b1 b2 b3 b4 b5 b6
end
def YI (t:Bool) (K:PySem.W.Frag) (a b:ai):It:=
 #[λi H=>∃ (xs ys:List V) (x y:V),nM t K H a xs /\ nM t K H b ys /\ xs[i]?=ae x /\ ys[i]?=ae y,
  λi H w H'=>∀ (xs ys:List V),nM t K H a xs->nM t K H b ys->∃ (p:ai) (x y:V),xs[i]?=ae x /\ ys[i]?=ae y /\ H p=ag /\ w=.ref p /\ H'=upd H p (.tup [x,y]),
  λi H=>∃ (xs ys:List V),nM t K H a xs /\ nM t K H b ys /\ (i=xs.length \/ (i<xs.length /\ i=ys.length))]
theorem BA {b:Nat}(k:Nat) (h:b<n):b≠n+k:=by lia
theorem BB {m:Nat}(h:n+4<m):m≠n /\ m≠n+1 /\ m≠n+2 /\ m≠n+3 /\ m≠n+4:=by lia
theorem FZ {n b:ai}(ha:a<n) (hb:b<n):HT.EV (n+4) (n+2) (n+3) n (n+1) [n,a] [n+1,b] where
 a:=by refine#[?_,?_,?_,?_,?_,?_,?_,?_,?_,?_]<;>show λz=>by have z':(_:Nat)=_:=z;lia
 f1:=by
  have e1:∀ k,n+k≠a:=λk z=>kF _<|HN (xl n k)<|z▸ha;refine#[?_,?_,?_]<;>(rw[aZ,c8];rintro(z|z))
  .have z':(_:Nat)=_:=z;lia
  .show e1 4 z
  .have z':(_:Nat)=_:=z;lia
  .show e1 3 z
  .have z':(_:Nat)=_:=z;lia
  .show e1 1 z
 f2:=by
  have e1:∀ k,n+k≠b:=λk z=>kF _<|HN (xl n k)<|z▸hb;refine#[?_,?_,?_]<;>(rw[aZ,c8];rintro(z|z))
  .have z':(_:Nat)=_:=z;lia
  .show e1 4 z
  .have z':(_:Nat)=_:=z;lia
  .show e1 3 z
  .have z':(_:Nat)=_:=z;lia
  .show e1 0 z
theorem LO {t:Bool}{n b:ai}(ha:a<n) (hb:b<n) :
 Turn P w K tg (YI t K a b) [n+4,n+2,n+3,n,n+1] (n+4)
  (λi h=>HT.tZ h (n+4) (n+2) (n+3) /\ IsPair h (n+2) (.ref n) (.ref<|n+1) /\ (∃ u v,IsPair h (n+3) u v) /\ t7 t h n a i /\ t7 t h (n+1) b i) where
 mem:=by simp
 obj:=λi h st c hc=>by
  let#[#[_,_,_,z1],z2,#[u,v,z3],z4,z5]:=st;let#[o4,_,e4,d4]:=z4.ob;let#[o5,_,e5,d5]:=z5.ob;simp[aZ,qg,or_false]at hc;rcases hc with rfl|rfl|rfl|rfl|rfl
  .show#[_,z1,λv z=>by cases z]
  .show#[_,z2,λv z=>by cases z]
  .show#[_,z3,λv z=>by cases z]
  .show#[o4,e4,λv z=>by rw[d4]at z;cases z]
  .show#[o5,e5,λv z=>by rw[d5]at z;cases z]
 keep:=λi h h' st k=>by
  let#[z1,z2,#[u,v,z3],z4,z5]:=st;let#[w0,w1,w2,z1]:=z1;show#[#[w0,w1,w2,k _ zf _ z1],k _ zf _ z2,#[u,v,k _ zf _ z3],z4.at λo e=>k _ zf o e,z5.at λo e=>k _ zf o e]
 item:=by
  intro X hP hw hK hc i pins s σ H E I hf st hg;subst hP hw hK;let#[xs,ys,x,y,q1,q2,e1,e2]:=hg;let#[z1,z2,#[u,v,z3],z4,z5]:=st;let#[i1,r1,p1,l1]:=yw I q1;let#[i2,r2,p2,l2]:=yw I q2;have R:=FZ ha hb;refine HT.Bf (Ku (t:=t) (prog:=X.prog) (w:=X.w) (A:=X.A.in1) (I.ok.hd hc) n a (bC ha) i1.toArray) (Ku (t:=t) (prog:=X.prog) (w:=X.w) (A:=X.A.in1) (I.ok.hd hc) _ b (BA 1 hb) i2.toArray) R (by rw[cC,<-r1.length];show(List.getElem?_eq_some_iff.mp e1).1) (by rw[cC,<-r2.length];show(List.getElem?_eq_some_iff.mp e2).1) z1 z2 z3 #[z4,p1] #[z5,p2] λvx vy h' tk b1 b2 b3 b4 b5 b6 b7 b8=>#[_,rfl,?_];refine HT.TL b3 λh2 Kt nZ=>?_;let#[w1,f1,g1]:=r1.get e1;let#[w2,f2,g2]:=r2.get e2;have adx:i1[i]?=ae vx:=by simpa using b1
  have ady:i2[i]?=ae vy:=by simpa using b2
  rw[f1]at adx;cases adx;rw[f2]at ady;cases ady;have EY:(n+4)<s.heap.objs.size:=let ⟨_,_,_,z1⟩:=z1;bh z1
  have I2:Inv X pins σ (upd H s.heap.objs.size<|.tup [x,y]) { s with heap:=h2,toks:=tk }:=by
   refine I.ahy hf (λc o dZ e=>?_) (aI _) (#[by change 2<=sizeLine;decide,[vx,vy],.cons g1<|.cons g2 .nil,#[_,(nZ.extBut _ _ (BB EY).2.2.2.2 b7),rfl,_,rfl]])
   .simp[aZ,qg,or_false,not_or]at dZ;show nZ.extBut _ _ dZ.1<|b8 c o dZ.1 dZ.2.2.1 dZ.2.2.2.1 dZ.2.2.2.2 e
  refine#[.ref s.heap.objs.size,_,I2,rfl,λak3 ak4 y1 y2=>#[_,x,y,by rw[adw I y1 q1];show e1,by rw[adw I y2 q2];show e2,(I.aE.fresh<|aI _),rfl,rfl],#[Kt,(nZ.extBut _ _ R.a.1<|b8 _ _ R.a.1 R.a.2.2.2.2.1 R.a.2.2.2.2.2.1 R.a.2.2.2.2.2.2.1 z2),(let ⟨u,v,b4⟩:=b4;#[u,v,nZ.extBut _ _ R.a.2.1 b4]),(b5.1.at λo e=>nZ.extBut _ _ R.a.2.2.1 e),(b6.1.at λo e=>nZ.extBut _ _ R.a.2.2.2.1 e)],λc dZ=>?_]
  .rw[fC]
   .show(hf c dZ).1
   .intro z;subst z;simp[aZ,qg,or_false]at dZ;let#[m1,m2,m3,m4,m5]:=BB EY;rcases dZ with q|q|q|q|q
    .show m5 q
    .show m3 q
    .show m4 q
    .show m1 q
    .show m2 q
 done:=by
  intro X hP hw hK hc i pins s σ H E I hf st hg;subst hP hw hK;let#[xs,ys,q1,q2,hk]:=hg;let#[z1,z2,#[u,v,z3],z4,z5]:=st;let#[i1,r1,p1,l1]:=yw I q1;let#[i2,r2,p2,l2]:=yw I q2;refine HT.Bg (Ku (t:=t) (prog:=X.prog) (w:=X.w) (A:=X.A.in1) (I.ok.hd hc) n a (bC ha) i1.toArray) (Ku (t:=t) (prog:=X.prog) (w:=X.w) (A:=X.A.in1) (I.ok.hd hc) (n+1) b (BA 1 hb) i2.toArray) (FZ ha hb) (k:=i) (by rw[cC,cC,<-r1.length,<-r2.length];show hk) z1 z2 z3 #[z4,p1] #[z5,p2] λh' tk b8=>#[rfl,I.ahz (ch:=[n+4,n+2,n+3,n,n+1]) hf λc o dZ e=>?_];simp[aZ,qg,or_false,not_or]at dZ;show b8 c o dZ.1 dZ.2.2.1 dZ.2.2.2.1 dZ.2.2.2.2 e
 self:=λA i s Q E st h=>HT.LN st.1 h
def ahA (K:PySem.W.Frag) (ta:TA):TI:=λσ H R=>ta σ H λvs H2=>∃ (t:Bool) (p q:ai) (xs ys:List V),vs=[.ref p,.ref q] /\ nM t K H2 p xs /\ nM t K H2 q ys /\ R (YI t K p q) H2
theorem TM {a b:au}{ta:TA}{p:aG}(hg:Gl X "zip") (hm:X.mg "zip"=ag) (ha:PA X [a,b] ta) (hs:starEach [a,b] X.env=[(af,eval a X.env),(af,eval b X.env)]:=by rfl) (nZ:starEach [b] X.env=[(af,eval b X.env)]:=by rfl) :
 PI X tg (.Call (.Name "zip" p) [a,b] [] pos) (ahA X.K ta):=by
 intro pins s σ H R I h;refine uf<|jd I hg hm (by decide +kernel:bootBuiltins "zip"=ae (.type "zip")) ?_;refine HZ (tA (ha pos pins s σ H _ I h) λus s1 vs H2 I2 r2 q=>?_) (by rw[hs,nZ]) (by rw[nZ];rfl);let#[t,x,y,xs,ys,rfl,hx,hy,q]:=q;let#[u,v,rfl,ru,rv]:=Vals.two r2;cases ru;cases rv;let#[i1,r1,p1,l1]:=yw I2 hx;let#[i2,r2,p2,l2]:=yw I2 hy;refine Jp p1 p2 λh' b1 b2 b3 b4 b5 b6=>?_;refine wpAny_pyIter_zip b1 ?_;refine#[s1.heap.objs.size+4,_,_,_,H2,rfl,I2.kept b6,LO l1 l2,#[#[_,_,.inl zk,b1],b2,#[_,_,b3],b4,b5],λc hc=>?_,q];have hle:s1.heap.objs.size<=c:=by
  simp[aZ,qg,or_false]at hc;rcases hc with z|z|z|z|z<;>(rw[z];first|show aI _|show xl _ _)
 show I2.xX hle<|I2.aE.fresh hle
end L2
namespace L2.DL
section
variable {a b:au} {p:aG} {k:DE (List W)}
noncomputable def nh:List D->List D->List W
 |x::l,y::r=>.d (.tup [x,y])::nh l r
 |_,_=>[]
theorem CU:∀ (l r:List D),(nh l r).length=min l.length r.length
 |[],_=>rfl
 |_::_,[]=>rfl
 |_::l,_::r=>by erw[nh,bN,CU l r];lia
theorem CV:∀ {l r:List D}{i:Nat}{w:W},(nh l r)[i]?=ae w->∃ x y,l[i]?=ae x /\ r[i]?=ae y /\ w=.d (.tup [x,y])
 |[],_,_,_,e=>by simp[nh]at e
 |_::_,[],_,_,e=>by simp[nh]at e
 |x::l,y::r,0,w,e=>by simp[nh]at e;show#[x,y,rfl,rfl,e.symm]
 | x::l,y::r,i+1,w,e=>by
   let#[x',y',h1,h2,h3]:=CV (by simpa[nh] using e);show#[x',y',by simpa using h1,by simpa using h2,h3]
def sr (k:DE<|List W):DE (List W):=λenv bx=>fA (k env bx) λws bx1=>match ws with
 |[.d<|.tup l,.d<|.tup r]=>.val (nh l r) bx1
 |[.d<|.lst l,.d<|.lst r]=>.val (nh l r) bx1
 |_=>.bad
theorem AE {t:Bool}{p q:ai}{vs us:List V}{l m:List D}(hp:∀ H,Sub F H->nM t K H p vs) (hq:∀ H,Sub F H->nM t K H q us) (dl:aH F l vs) (dm:aH F m us):vq F r (nh l m) (YI t K p q):=by
 intro T i F1 r1 σ1 H1 env1 bx1 g R;have s1:=hp _<|g.s.trans R.fh;have s2:=hq _<|g.s.trans R.fh;have e1:=dl.length;have e2:=dm.length;refine#[λhl=>?_,λw e=>?_]
 .rw[CU]at hl;show#[vs,us,s1,s2,by lia]
 .let#[x,y,h1,h2,rfl]:=CV e;let#[v,f1,d1]:=dl.get h1;let#[u,f2,d2]:=dm.get h2;refine#[#[vs,us,v,u,s1,s2,f1,f2],λw H2 hy=>?_];let#[a,v',u',g1,g2,ha,rfl,rfl]:=hy vs us s1 s2;rw[f1]at g1;cases g1;rw[f2]at g2;cases g2;have gr:=R.tU (o:=.tup [v,u]) ha;show#[_,gr,R.wm ha,a,[v,u],rfl,fF,.cons (Den.mono (g.trans gr).s x d1)<|.cons (Den.mono (g.trans gr).s y d2) .nil]
theorem OC (hg:Gl X "zip") (hm:X.mg "zip"=ag) (ha:ez X T Z [a,b] k) (hs:starEach [a,b] X.env=[(af,eval a X.env),(af,eval b X.env)]:=by rfl) (nZ:starEach [b] X.env=[(af,eval b X.env)]:=by rfl) :
 uF X T Z tg (.Call (.Name "zip" p) [a,b] [] pos) (sr k):=by
 refine PI.imp (TM hg hm ha hs nZ) λσ H Q=>x4 λF r env bx R h=>?_;refine#[F,r,env,bx,R,End.bind h λws bx1 F1 r1 vs H1 g1 R1 d1 h1=>?_];split at h1
 .let#[v,t,rfl,#[p,us,rfl,k1,k2],v2,t2,rfl,#[q,E6,rfl,k3,k4],rt]:=d1;cases (rt);have z1:∀ H,Sub F1 H->nM ah X.K H p us:=λH s=>.of<|s _ _ k1;have z2:∀ H,Sub F1 H->nM ah X.K H q E6:=λH s=>.of<|s _ _ k3;show#[ah,p,q,us,E6,rfl,z1 _ R1.fh,z2 _ R1.fh,h1 F1 r1 _ H1 (.refl F1 r1) R1<|AE z1 z2 k2 k4]
 .ext l m;let#[v,t,rfl,#[p,us,rfl,k1,k2],v2,t2,rfl,#[q,E6,rfl,k3,k4],rt]:=d1;cases (rt);have z1:∀ H,Sub F1 H->nM af X.K H p us:=λH s=>.of<|s _ _ k1;have z2:∀ H,Sub F1 H->nM af X.K H q E6:=λH s=>.of<|s _ _ k3;show#[af,p,q,us,E6,rfl,z1 _ R1.fh,z2 _ R1.fh,h1 F1 r1 _ H1 (.refl F1 r1) R1<|AE z1 z2 k2 k4]
 .show h1.elim
end
section
variable {a:au} {p:aG}
def ahB (K:PySem.W.Frag) (tl:TE):TI:=λσ H R=>tl σ H λx H1=>(∃ a,x=.ref a /\ (∃ xs,bZ K H1 a xs) /\ R (X4 K a) H1) \/ ∃ a,x=.ref a /\ (∃ xs,c9 K H1 a xs) /\ R (X5 K a) H1
theorem TN {l:au}{tl:TE}(hl:PE X l tl):PI X tg l (ahB X.K tl):=by
 intro pins s σ H R I h;refine tE (hl pins s σ H _ I h) λv s1 x H1 I1 r1 q1=>?_;rcases q1 with⟨a,rfl,⟨xs,hq⟩,q⟩|⟨a,rfl,⟨xs,hq⟩,q⟩
 .cases r1;let#[its,rv,p,hz]:=I1.list hq;refine xg p.isList #[s1.heap.objs.size,[s1.heap.objs.size],_,_,H1,rfl,I1.kept λb o e=>aN _ e,GU a _,#[_,bE _ zk,rfl,rfl],λb hb=>?_,q];cases c8.mp hb;show I1.xX (aI _)<|I1.aE.fresh<|aI _
 .cases r1;let#[its,rv,p,hz]:=I1.tuple hq;refine Xc (p) #[s1.heap.objs.size,[s1.heap.objs.size],_,_,H1,rfl,I1.kept λb o e=>aN _ e,DS a _,#[_,bE _ zk,rfl,rfl],λb hb=>?_,q];cases c8.mp hb;show I1.xX (aI _)<|I1.aE.fresh<|aI _
theorem CW {a:ai}{vs:List V}{l:List D}(k1:F a=ae (.lst vs)) (k2:aH F l vs):vq F r (l.map W.d) (X4 K a):=λT' i F2 r2 σ2 H2 env2 bx2 g2 R2=>by
 have hq:bZ K H2 a vs:=.of<|R2.fh _ _<|g2.s _ _ k1;refine#[λhl=>?_,λw e=>?_]
 .rw[aV,k2.length]at hl;show#[vs,hq,xk hl]
 .let#[d,e1,rfl]:=By e;let#[u,e2,du]:=k2.get e1;refine#[#[vs,u,hq,e2],λx H3 ⟨e3,hy⟩=>?_];subst e3;have e4:=hy vs hq;rw[e2]at e4;cases e4;show#[F2,.refl F2 r2,R2,Den.mono g2.s d du]
theorem D5 {a:ai}{vs:List V}{l:List D}(k1:F a=ae (.tup vs)) (k2:aH F l vs):vq F r (l.map W.d) (X5 K a):=λT' i F2 r2 σ2 H2 env2 bx2 g2 R2=>by
 have hq:c9 K H2 a vs:=.of<|R2.fh _ _<|g2.s _ _ k1;refine#[λhl=>?_,λw e=>?_]
 .rw[aV,k2.length]at hl;show#[vs,hq,xk hl]
 .let#[d,e1,rfl]:=By e;let#[u,e2,du]:=k2.get e1;refine#[#[vs,u,hq,e2],λx H3 ⟨e3,hy⟩=>?_];subst e3;have e4:=hy vs hq;rw[e2]at e4;cases e4;show#[F2,.refl F2 r2,R2,Den.mono g2.s d du]
theorem mK (ha:PD X T Z a ma):uF X T Z tg a (bM ma):=by
 refine PI.imp (TN ha) λσ H Q=>x4 λF r env bx R h=>?_;refine#[F,r,env,bx,R,End.bind h λw bx1 F1 r1 v H1 g1 R1 d1 h1=>?_];split at h1
 .let#[p,vs,rfl,k1,k2]:=d1;show .inl #[p,rfl,#[vs,.of<|R1.fh _ _ k1],h1 F1 r1 _ H1 (.refl F1 r1) R1<|CW k1 k2]
 .let#[p,vs,rfl,k1,k2]:=d1;show .inr #[p,rfl,#[vs,.of<|R1.fh _ _ k1],h1 F1 r1 _ H1 (.refl F1 r1) R1<|D5 k1 k2]
 .show h1.elim
theorem OD {v:Int}(hg:Gl X x) (hm:∃ t,X.mg x=ae (.int v t)) (hd:(x==("__debug__":Str))=af:=by decide):PD X T Z (.Name x pos) (dC<|.int v):=by
 let#[t,hm]:=hm;show CP (NO (v:=.int v) hg hm #[t,rfl] hd) λ_=>rfl
end
noncomputable def YJ (XN:List Str) (sc cs:bK) (N:List Str) (src:List<|Option Nat):Bool:=
 decide (cs.kind=.function)&&decide (cs.names.map (·.1)).Nodup&&cs.names.all (λy=>decide (y.2=.local->cs.names.lookup y.1=ae .local)) &&
 cs.names.all (λy=>decide (y.2=.free->(sc.names.lookup y.1=ae .cell \/ sc.names.lookup y.1=ae .free)))&&decide (src.length=N.length) &&
 (List.range src.length).all λj=>match src[j]?,N[j]? with
  |some (ae i),ae x=>decide (XN[i]?=ae x /\ cs.names.lookup x=ae .free)
  |_,_=>ah
theorem D6 {XN:List Str}{src:List (Option Nat)}{sc cs:bK}(hX:∀ x,X.env.kindOf x=sc.names.lookup x) (hN:X.N=XN) (h:YJ XN sc cs N src=ah):tM X N src cs:=by
 subst hN;unfold YJ at h;erw[aQ,decide_eq_true_eq,cU]at h;let#[#[#[#[#[h1,h2],h3],h4],h5],h6]:=h;refine#[h1,h2,λy hy=>h3 y hy,λy hy hf=>?_,h5,λj i x e1 e2=>?_]
 .rw[hX];show h4 y hy hf
 .have q:=h6 j<|List.mem_range.mpr (List.getElem?_eq_some_iff.mp e1).1;rw[e1,e2]at q;show of_decide_eq_true q
section
variable (P:dE) (w:bY) (K:PySem.W.Frag) (mg:Str -> Option aj) (base:aJ) (cl:Nat -> ai)
def uK (k:Nat) (x:Str) (ps:List Str) (fn:List W->List Bx->O W):zw:=
 ∃ (f:ai) (fd:FuncData),pE P w K mg base (tQ P w) k f fd ps (wq cl ps.length fn) /\ mg x=ae (.ref f) /\ PySem.W.keepIn K (.ref f)=ah /\ Binds K fd ps [] /\ ∃ o:bj,K.lookup f=ae o /\ o.data=.func fd
def Def (x:Str) (st:cz) (ps:List Str):zw:=∃ (f:ai) (fd:FuncData),pX K x x st f fd /\ mg x=ae (.ref f) /\ Binds K fd ps []
end
section
variable {k:Nat} {ps:List Str} {m:aD} {nn kk:Nat}
theorem _root_.L2.pX.obj {f:ai}(F:pX K x qual st f fd):∃ o:bj,K.lookup f=ae o /\ o.data=.func fd:=by
 let#[#[oc,od,kV,doc,pm,an,dz,ct,qJ,_,l,_],_]:=F;show#[_,l,rfl]
end
section
variable {p:aG} {k k':Nat} {ps:List Str} {m:DE (List W)} {nn:Nat}
theorem TQ (h:uK X.prog X.w X.K X.mg X.base Z.cl k x ps fn) (hr:kI k' X.A) (hk:k<=k') (hg:Gl X x) (hx:Passes (tQ X.prog X.w) X Z.E) (ha:ez X T Z (e::es) m) (dO:(x==("__debug__":Str))=af:=by decide)
 (he:starEach (e::es) X.env=(af,eval e X.env)::starEach es X.env:=by rfl) (nW:(backTo pos<|starEach es X.env).any (·.1)=af:=by rfl) (hn:ps.length=nn:=by rfl):PD X T Z (.Call (.Name x p) (e::es) [] pos) (fm fn nn m):=by
 subst hn;let#[f,fd,G,hm,ahC,hb,_]:=h;show Ob G (hr.mono hk) hg hm ahC hb hx ha dO he nW
end
end L2.DL
namespace HT
structure SB (kd:SortKind) (b:Array Keyed) (z:SortSt):zw where
 pm:(arrOf z).Perm b
 kd:kindOf z=kd
 fl:failedOf z=ag
 pn:pendingOf z=#[]
theorem SB.len {kd:SortKind}{b:Array Keyed}{z:SortSt}(g:SB kd b z):(arrOf z).size=b.size:=g.pm.size_eq
theorem SB.put {kd:SortKind}{b:Array Keyed}{z:SortSt}(g:SB kd b z) {c:Array Keyed}(q:c.Perm<|arrOf z):SB kd b (setArr z c):=#[q.trans g.pm,g.kd,g.fl,g.pn]
section
variable {s:aq}
def uL (prog:dE) (w:bY) (A:kR) (E:aj->aq->zw) (s:aq) (κ:KeyKind) (kd:SortKind) (b:Array Keyed):zw:=
 ∀ (x y:Keyed),x∈b.toList->y∈b.toList->∀ (Q:Bool->aq->zw) (E':aj->aq->zw),Q (κ.blt ((κ.keyOf x.1).getD κ.dflt)<|(κ.keyOf y.1).getD κ.dflt) s->wpAny zd A (keyLt' kd x.1 y.1) Q E' s
variable {κ:KeyKind} {kd:SortKind} {b:Array Keyed}
noncomputable abbrev kx (κ:KeyKind) (z:SortSt) (i:Nat):κ.α:=KK κ (arrOf z) i
theorem SB.item {z:SortSt}(g:SB kd b z) {i:Nat}(hi:i<b.size):∃ x,(arrOf z)[i]?=ae x /\ x∈b.toList /\ kx κ z i=(κ.keyOf x.1).getD κ.dflt:=by
 have hz:=g.len▸hi;refine#[(arrOf z)[i],getElem?_pos _ i hz,(Array.perm_iff_toList_perm.mp g.pm).mem_iff.mp zf,?_];simp[KK,getElem?_pos (arrOf z) i hz]
theorem ask (C:uL prog w A E s κ kd b) {z:SortSt}(g:SB kd b z) {i:Nat}(hi:i<b.size) (hj:j<b.size) {Q:Option Bool->SortSt->zw}
 (q:Q (ae<|κ.blt (kx κ z i)<|kx κ z j) z):wpS zd A E s (ltAt' i j) Q z:=by
 let#[x,ex,mx,ahD]:=g.item hi;let#[y,ey,my,ahE]:=g.item hj;rw[ahD,ahE]at q;rw[ltAt'_eq];refine cK<|xF ?_;dsimp only;rw[elem'_eq,elem'_eq,ex,ey];refine cK<|eE<|cK<|eE ?_;rw[lt'_eq];refine cK<|xF ?_;rw[g.kd];show cK<|Xz<|u5<|C x y mx my _ _ #[rfl,eE q]
def Up (κ:KeyKind) (z:SortSt) (n:Nat):zw:=∀ i j,i<=j->j<n->κ.kle (kx κ z i) (kx κ z j)
def Dn (κ:KeyKind) (z:SortSt) (n:Nat):zw:=∀ i j,i<=j->j<n->κ.kle (kx κ z j) (kx κ z i)
theorem Up.one {z:SortSt}(h:n<=1):Up κ z n:=λi j a c=>by
 have e:i=j:=by lia
 subst e;show xO _
theorem Up.more {z:SortSt}(u:Up κ z n) (h:1<=n) (l:κ.kle (kx κ z<|n-1)<|kx κ z n):Up κ z (n+1):=λi j a c=>by
 rcases xm j n with c'|c'
 .show u i j a c'
 obtain rfl:j=n:=by lia
 rcases xm i j with a'|a'
 .show Iu (u i _ za za) l
 .obtain rfl:i=j:=by lia
  show xO _
theorem Dn.more {z:SortSt}(u:Dn κ z n) (h:1<=n) (l:κ.kle (kx κ z n)<|kx κ z<|n-1):Dn κ z (n+1):=λi j a c=>by
 rcases xm j n with c'|c'
 .show u i j a c'
 obtain rfl:j=n:=by lia
 rcases xm i j with a'|a'
 .show Iu l<|u i _ za za
 .obtain rfl:i=j:=by lia
  show xO _
theorem asc (C:uL prog w A E s κ kd b) {z:SortSt}(g:SB kd b z) {a:Nat}(hn:n<=b.size) (h1:1<=a) (h2:a<=n) (u:Up κ z a) {Q:AscSt->SortSt->zw}
 (q:∀ m,a<=m->m<=n->Up κ z m->(m<n->κ.klt (kx κ z m) (kx κ z<|m-1))->Q (ag,m) z):wpS zd A E s (ascLoop a n) Q z:=by
 refine xG (I:=λm c y=>y=z /\ c=(ag,m) /\ Up κ z m) ?_ ?_ #[rfl,rfl,u]
 .intro m c y g1 g2 ⟨e1,e2,u'⟩;subst e1;subst e2;refine cK<|ask C g za za ?_;cases e:κ.blt _ _ with
  |true=>show eE<|q m g1 (nC g2) u' λ_=>e
  |false=>show eE #[rfl,rfl,u'.more za e]
 .intro c y ⟨e1,e2,u'⟩;subst e1;subst e2;rw[aat h2]at u' ⊢;show q n h2 (aI n) u' λh=>absurd h<|kF n
theorem F6 {z:SortSt}{i k:Nat}(hj:j<=(arrOf z).size):kx κ (setArr z<|mirror (arrOf z) i j<|(j-i) / 2) k=if i<=k /\ k<j then kx κ z (i+j-1-k) else kx κ z k:=KK_mirror hj k
theorem lG {z:SortSt}{i:Nat}(hj:j<=(arrOf z).size) (e:∀ k,i<=k->k<j->kx κ z k=kx κ z (j-1)) (k:Nat):kx κ (setArr z<|mirror (arrOf z) i j<|(j-i) / 2) k=kx κ z k:=KK_mirror_equal hj e k
def Ends (prog:dE) (w:bY) (A:kR) (E:aj->aq->zw) (s:aq) (κ:KeyKind) (kd:SortKind) (b:Array Keyed) (n:Nat) (Q:Option Nat->SortSt->zw):zw:=
 ∀ m y,SB kd b y->1<=m->m<=n->Up κ y m->Q (ae m) y
theorem turned (C:uL prog w A E s κ kd b) {z:SortSt}(g:SB kd b z) {a:Nat}(hn:n<=b.size) (h1:1<=a) (h2:a<=n) (d:Dn κ z a) {Q:Option Nat->SortSt->zw}(q:Ends prog w A E s κ kd b n Q) :
 wpS zd A E s (tail3 a n) Q z:=by
 have hz:=g.len▸cT h2 hn;have g':SB kd b (setArr z<|mirror _ 0 a<|(a-0) / 2):=g.put<|Ik _ _ _ _;refine cK<|Il<|cK<|asc C g' hn h1 h2 (λi j c1 c2=>?_) λm m1 m2 um _=>eE<|q m _ g' (cT h1 m1) m2 um;rw[F6 hz,F6 hz,if_pos #[cJ i,by lia],if_pos #[cJ j,c2]];show d _ _ za za
def Alike (κ:KeyKind) (z:SortSt) (m e:Nat):zw:=e+1<=m /\ ∀ i,m-(e+1)<=i->i<m->kx κ z i=kx κ z (m-1)
theorem Alike.zero {z:SortSt}{m:Nat}(h:1<=m):Alike κ z m 0:=#[h,λi h1 h2=>by rw[show i=m-1 by lia]]
theorem desc (C:uL prog w A E s κ kd b) {z:SortSt}(g:SB kd b z) {a:Nat}(hn:n<=b.size) (h1:1<=a) (h2:a<=n) (d:Dn κ z a) {Q:DescSt->SortSt->zw}
 (q:∀ m e y,SB kd b y->a<=m->m<=n->Dn κ y m->Alike κ y m e->Q (ag,m,e) y):wpS zd A E s (descLoop a n) Q z:=by
 refine xG (I:=λm c y=>∃ e,c=(ag,m,e) /\ SB kd b y /\ Dn κ y m /\ Alike κ y m e) ?_ ?_ #[0,rfl,g,d,.zero h1]
 .intro m c y g1 g2 ⟨e,ec,gy,dy,al⟩;subst ec;have hm:m<=(arrOf y).size:=by rw[gy.len];lia
  refine cK<|ask C gy (show m<b.size by lia) (show m-1<b.size by lia) ?_;cases t:κ.blt _ _ with
  |true=>
    have d':=dy.more za<|Iv t;dsimp only;by_cases he:e>0
    .rw[if_pos he];refine cK<|Il<|eE #[0,rfl,gy.put<|Ik _ _ _ _,λi j c1 c2=>?_,.zero za];rw[lG hm al.2,lG hm al.2];show d' i j c1 c2
    .rw[if_neg he];show eE #[0,rfl,gy,d',.zero za]
  |false=>
    dsimp only;rw[if_neg zf];refine cK<|ask C gy za za ?_;cases t2:κ.blt _ _ with
    |true=>show eE<|q m e y gy g1 za dy al
    |false=>
      refine eE #[e+1,rfl,gy,dy.more za t2,by have:=al.1;lia,λi c1 c2=>?_];rw[show m+1-1=m by lia];by_cases hi:i=m
      .rw[hi]
      .rw[(abw t2 t)];show al.2 i za za
 .intro c y ⟨e,ec,gy,dy,al⟩;subst ec;rw[aat h2]at dy al ⊢;show q n e y gy h2 (aI n) dy al
theorem fall (C:uL prog w A E s κ kd b) {z:SortSt}(g:SB kd b z) {a:Nat}(hn:n<=b.size) (h2:a+1<=n) (d:Dn κ z<|a+1) {Q:Option Nat->SortSt->zw}(q:Ends prog w A E s κ kd b n Q) :
 wpS zd A E s (descPart a n) Q z:=by
 refine cK<|Xz<|pQ #[rfl,cK<|desc C g hn (Nat.succ_pos a) h2 d λm e y gy m1 m2 dy al=>?_];by_cases he:e>0
 .rw[if_pos he];have hm:m<=(arrOf y).size:=by rw[gy.len];lia
  refine cK<|Il<|turned C (gy.put<|Ik _ _ _ _) hn za m2 (λi j c1 c2=>?_) q;rw[lG hm al.2,lG hm al.2];show dy i j c1 c2
 .rw[if_neg he];show turned C gy hn za m2 dy q
theorem count (C:uL prog w A E s κ kd b) {z:SortSt}(g:SB kd b z) (hn:n<=b.size) (h1:1<=n) {Q:Option Nat->SortSt->zw}(q:Ends prog w A E s κ kd b n Q) :
 wpS zd A E s (countRun' 0 n) Q z:=by
 rw[countRun0_eq];refine cK<|asc C g hn (aI 1) h1 (.one<|aI 1) λm m1 m2 um last=>?_;by_cases hm:m=n
 .rw[if_pos (by simp[hm])];show eE<|q m z g m1 m2 um
 rw[if_neg (by simp[hm])];have lt:=last za;by_cases h3:m>1
 .rw[if_pos h3];refine cK<|ask C g za za ?_;cases t:κ.blt _ _ with
  |true=>show eE<|q m z g m1 m2 um
  |false=>
    dsimp only;have al:∀ k,0<=k->k<m->kx κ z k=kx κ z _:=λk _ hk=>
     abw (um k _ za za) (Iu t<|um 0 k (cJ k) hk)
    have hz:m<=(arrOf z).size:=by rw[g.len];lia
    refine cK<|Il<|fall C (g.put<|Ik _ _ _ _) hn za (λi j c1 c2=>?_) q;rw[lG hz al,lG hz al];have d0:Dn κ z m:=λi j c1 c2=>by rw[al i (cJ _) za,al j (cJ _) c2];show xO _
    show d0.more m1 (Iv lt) i j c1 c2
 .rw[if_neg h3];obtain rfl:m=1:=by lia
  have d0:Dn κ z 1:=λi j c1 c2=>by
   obtain rfl:i=j:=by lia
   show xO _
  show fall C g hn za (d0.more (aI 1)<|Iv lt) q
end
section
variable {s:aq} {κ:KeyKind} {kd:SortKind} {b:Array Keyed}
def Fits (κ:KeyKind) (z:SortSt) (k l r:Nat):zw:=(∀ i,i<l->κ.kle (kx κ z i) (kx κ z k)) /\ ∀ i,r<=i->i<k->κ.klt (kx κ z k) (kx κ z i)
theorem F7 {z:SortSt}{k l i:Nat}(hk:k<(arrOf z).size) (hl:l<=k):kx κ (setArr z<|bubble (arrOf z) k<|k-l) i=if i=l then kx κ z k else if l<i /\ i<=k then kx κ z (i-1) else kx κ z i:=by
 have e:=KK_bubble (κ:=κ) hk (Nat.sub_le k l) i;rw[show k-(k-l)=l by lia]at e;show e
theorem Up.insert {z:SortSt}{k l:Nat}(u:Up κ z k) (hk:k<(arrOf z).size) (hl:l<=k) (f:Fits κ z k l l):Up κ (setArr z<|bubble (arrOf z) k<|k-l) (k+1):=by
 intro i j c1 c2;rw[F7 hk hl,F7 hk hl];by_cases i1:i=l
 .rw[if_pos i1];by_cases j1:j=l
  .rw[if_pos j1];show xO _
  .rw[if_neg j1,if_pos #[by lia,by lia]];show Iv<|f.2 _ za za
 .rw[if_neg i1];by_cases i2:l<i /\ i<=k
  .rw[if_pos i2,if_neg za,if_pos #[by lia,by lia]];show u _ _ za za
  .rw[if_neg i2];by_cases j1:j=l
   .rw[if_pos j1];show f.1 i za
   .rw[if_neg j1];by_cases j2:l<j /\ j<=k
    .rw[if_pos j2];show u _ _ za za
    .rw[if_neg j2];show u _ _ c1 za
theorem ahF (C:uL prog w A E s κ kd b) {z:SortSt}(g:SB kd b z) {m:Nat}(hn:n<=b.size) (hm:m<=n) (u:Up κ z m) {Q:Bool->SortSt->zw}(q:∀ y,SB kd b y->Up κ y n->Q ah y) :
 wpS zd A E s (binarySort' 0 n m) Q z:=by
 rw[binarySort'_eq];erw[Xh];refine cK<|Im (Q:=λc y=>c=(ag,()) /\ SB kd b y /\ Up κ y n) (xG (I:=λk c y=>c=(ag,()) /\ SB kd b y /\ Up κ y (min k n)) ?_ ?_ ?_) ?_
 .intro k c y k1 k2 ⟨ec,gy,uy⟩;rw[Xi<|nC k2]at uy;have kb:k<b.size:=by lia
  refine cK<|Im (Q:=λc y'=>y'=y /\ ∃ l r,c=(ag,l,r) /\ l<=k /\ Fits κ y k l l) (xG (I:=λx c y'=>y'=y /\ ∃ l r,c=(ag,l,r) /\ l<=r /\ r<=k /\ r-l<=k-x /\ Fits κ y k l r) ?_ ?_<|#[rfl,0,k,rfl,cJ k,aI k,aI _,λi hi=>absurd hi<|HL i,λi i1 i2=>absurd i2 za]) ?_
  .intro x c y' _ x2 ⟨ey,l,r,ec,p1,p2,p3,f⟩;subst ey;subst ec;dsimp only;by_cases lr:l>=r
   .rw[if_pos lr];obtain rfl:l=r:=by lia
    show eE #[rfl,l,l,rfl,p2,f]
   rw[if_neg lr];refine cK<|ask C gy kb za ?_;cases t:κ.blt _ _ with
   |true=>show eE #[rfl,l,(l+r) / 2,rfl,by lia,by lia,by lia,f.1,λi i1 i2=>KeyOrd.klt_of_klt_of_kle t<|uy _ _ i1 i2]
   |false=>show eE #[rfl,(l+r) / 2+1,r,rfl,by lia,by lia,by lia,λi i1=>Iu (uy i _ za za) t,f.2]
  .intro c y' ⟨ey,l,r,ec,p1,p2,p3,f⟩;obtain rfl:l=r:=by lia
   show#[ey,l,l,ec,p2,f]
  .intro c y' ⟨ey,l,r,ec,p,f⟩;subst ey;subst ec;change wpS _ _ _ _ _ _ _;rw[moveDown'_eq];refine cK<|XA<|eE #[rfl,gy.put<|bubble_perm _ _ _,?_];rw[Xi k2];show uy.insert (by rw[gy.len];show kb) p f
 .intro c y ⟨ec,gy,uy⟩;rw[show min _ n=n by lia]at uy;show#[ec,gy,uy]
 .refine#[rfl,g,?_];rcases xm m 1 with m0|m0
  .show .one za
  .rw[show min (max m 1) n=m by lia];show u
 .intro c y ⟨ec,gy,uy⟩;subst ec;show eE<|q y gy uy
def Kv (κ:KeyKind) (b:Array Keyed) (y:SortSt):zw:=(arrOf y).Perm b /\ failedOf y=ag /\ pendingOf y=(List.toArray [(0,b.size,0)]) /\ Up κ y b.size
theorem SB.fin {y:SortSt}(g:SB kd b y) (u:Up κ y b.size):Kv κ b (setPending y<|(pendingOf y).push (0,b.size,0)):=#[g.pm,g.fl,by rw[g.pn];rfl,u]
theorem runs (C:uL prog w A E s κ kd b) {z:SortSt}(g:SB kd b z) (h2:2<=b.size) (cG:b.size<64) {Q:Unit->SortSt->zw}(q:∀ y,(arrOf y).Perm b->failedOf y=ag->Up κ y b.size->Q () y) :
 wpS zd A E s sortRuns' Q z:=by
 have mr:minRun' b.size b.size 0=b.size:=by
  let#[f,e]:=Nat.exists_eq_add_of_lt (show 0<b.size by lia);have:minRun' (0+f+1) b.size 0=b.size:=by rw[minRun'_succ,if_pos cG];rfl
  rw[<-e]at this;show this
 rw[sortRuns'_eq];refine cK<|xF ?_;dsimp only;erw[g.len,mr];refine cK (Im (Q:=λc y=>c=(ag,b.size) /\ Kv κ b y)
  (xG (I:=λx c y=>if x=0 then c=(ag,0) /\ SB kd b y else c=(ag,b.size) /\ Kv κ b y) ?_ ?_ (by rw[if_pos rfl];show#[rfl,g])) ?_)
 .intro x c y _ x2 I;by_cases x0:x=0
  .rw[if_pos x0]at I;let#[ec,gy]:=I;subst ec;subst x0;dsimp only;rw[if_neg za];erw[HM,Nat.min_self,Xh];have fin:∀ y',SB kd b y'->Up κ y' b.size->(if (1)=0 then ((ag:Option PUnit),b.size)=(ag,0) /\ SB kd b (setPending y'<|(pendingOf y').push (0,b.size,0)) else ((ag:Option PUnit),b.size)=(ag,b.size) /\ Kv κ b _):=
    λy' g' u'=>by rw[if_neg za];show#[rfl,g'.fin u']
   refine cK<|count C gy (aI _) za λm y1 g1 m1 m2 u1=>?_;dsimp only;by_cases lt:m<b.size
   .rw[if_pos lt];refine cK<|Xz<|pQ #[rfl,cK<|ahF C g1 (aI _) m2 u1 λy3 g3 u3=>?_];rw[if_neg zf];refine cK<|xF ?_;rw[show (pendingOf y3).back?=ag by rw[g3.pn];rfl];show cK<|XA<|eE<|fin y3 g3 u3
   .rw[if_neg lt];obtain rfl:m=b.size:=by lia
    refine cK<|xF ?_;rw[show (pendingOf y1).back?=ag by rw[g1.pn];rfl];show cK<|XA<|eE<|fin y1 g1 u1
  .rw[if_neg x0]at I;let#[ec,fy]:=I;subst ec;dsimp only;rw[if_pos<|aI _];show eE #[rfl,fy]
 .intro c y I;rw[if_neg za]at I;show I
 .intro c y ⟨ec,fy⟩;subst ec;dsimp only;refine cK (Im (xG (I:=λ_ c y'=>y'=y /\ c=(ag,())) ?_ (λ_ _ h=>h) #[rfl,rfl]) ?_)
  .intro x c y' _ _ ⟨e1,e2⟩;subst e1;subst e2;refine cK<|xF ?_;rw[if_pos (by rw[fy.2.2.1];show aI 1)];show eE #[rfl,rfl]
  .intro c y' ⟨e1,e2⟩;subst e1;subst e2;show eE<|q _ fy.1 fy.2.1 fy.2.2.2
end
theorem iB:∀ a,lexLt a a=af
 |[]=>rfl
 |x::a=>by rw[gF,if_pos rfl];show iB a
theorem jz:∀ a b c,lexLt a b=ah->lexLt b c=ah->lexLt a c=ah
 |[],[],_,h,_=>by cases h
 |[],_::_,[],_,h=>by cases h
 |[],_::_,_::_,_,_=>rfl
 |_::_,[],_,h,_=>by cases h
 |_::_,_::_,[],_,h=>by cases h
 | x::a,y::b,z::c,h,g=>by
   rw[gF]at *;by_cases e1:x=y
   .subst e1;rw[if_pos rfl]at h;by_cases e2:x=z
    .subst e2;rw[if_pos rfl]at g ⊢;show jz a b c h g
    .rw[if_neg e2]at g ⊢;show g
   .rw[if_neg e1]at h;by_cases e2:y=z
    .subst e2;rw[if_neg e1];show h
    .rw[if_neg e2]at g;rw[if_neg za];show decide_eq_true za
theorem jb:∀ a b,lexLt a b=af->lexLt b a=af->a=b
 |[],[],_,_=>rfl
 |[],_::_,h,_=>by cases h
 |_::_,[],_,h=>by cases h
 | x::a,y::b,h,g=>by
   rw[gF]at *;by_cases e:x=y
   .subst e;rw[if_pos rfl]at h g;rw[jb a b h g]
   .lia
theorem BC (a b c:List Int) (h:lexLt a c=ah):lexLt a b=ah \/ lexLt b c=ah:=by
 cases e:lexLt a b with
 |true=>show .inl zk
 |false=>
   refine .inr ?_;cases f:lexLt b a with
   |true=>show jz b a c f h
   |false=>rw[<-jb a b e f];show h
section
variable {s:aq}
theorem D7 {x y:Int}{t u:Tok}(k:Bool) {Q:Bool->aq->zw}(h:Q (decide (x<y)) s):wpAny zd A (oneLt' k (.int x t)<|.int y u) Q E s:=by
 cases k with
 |true=>show oneLt_int h
 |false=>
   show ak<|(abf<|qK h)
theorem Ca (f:Bool) (x y:aj):keyLt' (tuples' f) x y=(do
 let xs <-Builtin.List.listItems x
 let ys <-Builtin.List.listItems y
 for ((p,q),i) in (xs.toList.zip ys.toList).zipIdx do
  if !(<-eqBool p q) then return <-oneLt' (f&&i==0) p q
 return decide (xs.size<ys.size)):=rfl
end
structure KP (P:aJ->aj->List Int->zw):zw where
 inj:∀ {h:aJ}{v:aj}{ns ms:List Int},P h v ns->P h v ms->ns=ms
 push:∀ {h:aJ}{v:aj}{ns:List Int},P h v ns->∀ o:bj,P (h.push o) v ns
 upd:∀ {h:aJ}{v:aj}{ns:List Int},P h v ns->∀ {l:ai}{xs:Array aj}{n:Nat},h.get? l=ae (seqObj "list" xs n)->∀ f:bj->bj,P (h.update l f) v ns
section
variable {s:aq} {P:aJ -> aj -> List Int -> zw} (KQ:KP P)
open Classical in
noncomputable def vD (P:aJ->aj->List Int->zw) (h:aJ):KeyKind where
 α:=List Int
 blt:=lexLt
 irrefl:=iB
 trans:=jz
 negTrans:=BC
 total:=jb
 keyOf v:=if p:∃ ns,P h v ns then ae p.choose else ag
 dflt:=[]
include KQ in
open Classical in
theorem o9 {v:aj}(p:P h v ns):((vD P h).keyOf v).getD []=ns:=by
 have e:∃ ns,P h v ns:=#[ns,p];change (if p:∃ ns,P h v ns then ae p.choose else ag).getD []=ns;rw[dif_pos e];show KQ.inj e.choose_spec p
def vE (P:aJ->aj->List Int->zw) (h:aJ) (vs:List aj):zw:=vs.Pairwise λx y=>∀ ns ms,P h x ns->P h y ms->lexLt ms ns=af
def YK (P:aJ->aj->List Int->zw) (prog:dE) (w:bY) (U:Nat) (s:aq) (vs:List aj):zw:=∀ (A:kR) (h':aJ),A.units<=U->(∀ v ns,P s.heap v ns->P h' v ns) ->
 (∀ {Q:SortKind->aq->zw}{E:aj->aq->zw},Q (tuples' ah) { s with heap:=h' }->wpAny zd A (keyKind' vs.toArray) Q E { s with heap:=h' }) /\ ∀ E,uL prog w A E { s with heap:=h' } (vD P h') (tuples' ah) (pairsOf vs)
include KQ
theorem LP (H:∀ v∈vs,∃ ns,P h v ns) (up:∀ v ns,P h v ns->P h' v ns) {z:SortSt}(pm:(arrOf z).Perm<|pairsOf vs) (u:Up (vD P h') z (pairsOf vs).size) :
 ((arrOf z).map (·.2)).toList.Perm vs /\ vE P h ((arrOf z).map (·.2)).toList:=by
 have hl:(arrOf z).toList.Perm (vs.zip vs):=by rw[<-abg];show Array.perm_iff_toList_perm.mp pm
 have me:∀ p∈(arrOf z).toList,p.1=p.2 /\ p.1∈vs:=λp hp=>XB<|hl.mem_iff.mp hp;rw[Array.toList_map];constructor
 .have:=hl.map (·.2);rw[Xr<|aI _]at this;show this
 .unfold vE;rw[qh,List.pairwise_iff_getElem];intro i j hi hj Er ns ms p q;have adz:j<(arrOf z).size:=by simpa using hj
  have g:=u i j (nC Er) (by rw[<-pm.size_eq];show adz);have ki:kx (vD P h') z i=ns:=by
   simp[KK,getElem?_pos (arrOf z) i (by simpa using hi)];rw[abk,<-(me _ zf).1]at p;show o9 KQ<|up _ _ p
  have kj:kx (vD P h') z j=ms:=by
   simp[KK,getElem?_pos (arrOf z) j adz];rw[abk,<-(me _ zf).1]at q;show o9 KQ<|up _ _ q
  rw[ki,kj]at g;show g
theorem F8 {R:Fin->aq->zw}(ho:s.heap.get? a=ae (seqObj "list" vs.toArray n)) (H:∀ v∈vs,∃ ns,P s.heap v ns) {U:Nat}(hU:A.units<=U) (S:vs≠[]->YK P prog w U s vs) (cG:vs.length<64)
 (h:∀ out:Array aj,out.toList.Perm vs->vE P s.heap out.toList->R (.done<|.ret .none) { s with heap:=sortedHeap s.heap a vs out }):wpAny zd A (Builtin.«list.sort» #[[.ref a],[]]) R E s:=by
 rw[list_sort_plain];have la:=bh ho;refine ak<|xE ho zk<|ak<|Ia ho zk ?_;obtain⟨k,E7⟩:∃ k,(s.heap.update a _).get? a=ae (seqObj "list" #[] k):=#[_,abb ho λ_=>#[]];refine ak<|XC E7 zk<|ak<|Xb<|ak<|xh<|dS ?_;generalize eh:((s.heap.update a _).push _).push _=h6;have up:∀ v ns,P s.heap v ns->P h6 v ns:=λv ns p=>eh▸KQ.push (KQ.push (KQ.upd p ho _) _) _;have Kw:h6.get? a=ae (seqObj "list" #[] k):=by
  rw[<-eh];show aN _<|aN _ E7
 have fin:∀ out:Array aj,out.toList.Perm vs->vE P s.heap out.toList->R _ { s with heap:=h6.update a _ }:=λout p q=>by
  rw[<-eh];show h out p q
 change wpAny _ A _ R E { s with heap:=h6 };dsimp only;by_cases h2:vs.toArray.size<2
 .rw[if_pos h2,if_pos h2];refine ak<|az ?_;rw[StateT.run_pure];refine ak<|az ?_;dsimp only;have em:(Array.map (λx=>x.2)<|vs.toArray.zip vs.toArray)=vs.toArray:=by
   apply Array.toList_inj.mp;simp[Xr]
  rw[em];refine ak<|XC Kw zk<|ak<|Ia Kw zk ?_;rw[bne_self_eq_false];refine az<|fin vs.toArray (List.Perm.refl _) ?_;rw[cC]at h2;unfold vE;match vs,h2 with
  |[],_=>show List.Pairwise.nil
  |[x],_=>show aaI _ _
 .rw[if_neg h2,if_neg h2];rw[cC]at h2;have ne:vs≠[]:=λe=>by rw[e]at h2;simp at h2
  have H6:∀ v∈vs,∃ ns,P h6 v ns:=λv m=>let ⟨ns,p⟩:=H v m;#[ns,up v ns p]
  refine ak<|(S ne A h6 hU up).1 ?_;refine ak<|ny (runs
   (Q:=λ_ y=>(arrOf y).Perm (pairsOf vs) /\ failedOf y=ag /\ Up (vD P h6) y (pairsOf vs).size) ((S ne A h6 hU up).2 _) #[Array.Perm.refl _,rfl,rfl,rfl] (by rw[XD];lia) (by rw[XD];show cG) λy a1 a2 a3=>#[a1,a2,a3]) ?_ λ_ _ e=>e
  rintro⟨⟨⟩,y⟩ s' ⟨es,pm,fl,u⟩;subst es;dsimp only;let#[o1,o2]:=LP KQ H up pm u;refine ak<|XC Kw zk<|ak<|Ia Kw zk ?_ (hsz2:=by rw[Array.size_map,pm.size_eq,XD];show(by rw[bJ];lia));rw[fl,bne_self_eq_false];show az<|fin _ o1 o2
theorem Jq {l:ai}(hl:s.heap.IsList l vs.toArray) (H:∀ v∈vs,∃ ns,P s.heap v ns) {U:Nat}(hU:A.units+8<=U) (S:vs≠[]->YK P prog w U s vs) (cG:vs.length<64)
 (h:∀ out:Array aj,out.toList.Perm vs->vE P s.heap out.toList->Q (.ref<|s.heap.objs.size+1) { s with heap:=sortedAll s.heap vs out }):wpAny zd A (call (.builtin "sorted") [.ref l]) Q E s:=by
 refine Ir Ib Ic Ie (Ig _) ?_;refine ak<|az<|ak<|collect_list hl<|ak<|xh ?_;generalize eg:(s.heap.push _).update s.heap.objs.size _=g;have sg:g.objs.size=s.heap.objs.size+1:=by rw[<-eg,aa2,uo]
 have up:∀ v ns,P s.heap v ns->P (g.push<|seqObj "list" vs.toArray 0) v ns:=λv ns p=>by
  rw[<-eg];show KQ.push (KQ.upd (KQ.push p _) (bE _ zk) _) _
 have gl:(g.push<|seqObj "list" vs.toArray 0).get? (s.heap.objs.size+1)=ae (seqObj "list" vs.toArray 0):=by rw[<-sg];show bE _ zk
 rw[sg];refine ak<|dS<|kE Ih #[_,gl,rfl] Ii (F8 KQ gl (λv m=>let ⟨ns,p⟩:=H v m;#[ns,up v ns p]) (show A.units+1+1<=U by lia) (λne A h2 hu k=>S ne A h2 hu λv ns p=>k v ns<|up v ns p) cG λout o1 o2=>#[_,rfl,az #[_,rfl,?_]])<|Ij _;have:=h out o1<|List.Pairwise.imp (λ{x y} r ns ms p q=>r ns ms (up _ _ p)<|up _ _ q) o2;unfold sortedAll at this;rw[eg]at this;show this
omit KQ
end
end HT
namespace L2.DL
theorem CY:∀ {rs:List ai}{us:List aj},Vals (rs.map V.ref) us->us=rs.map Value.ref
 |[],_,.nil=>rfl
 | r::rs,_,.cons q t=>by
   cases q;rw[CY t];rfl
end L2.DL
namespace HT
inductive aF where
 |i (n:Int)|s (x:Str)
 deriving DecidableEq
noncomputable def aF.code:aF->List Int
 |.i n=>[n]
 |.s x=>x.cps.toList.map (λ(c:Nat)=>(c:Int)+1)++[0]
noncomputable def aF.qA:aF->aF->Bool
 |.i _,.i _=>ah
 |.s _,.s _=>ah
 |_,_=>af
def bB (l:List aF):List Int:=l.flatMap (λd=>1::d.code)++[0]
def kq (l m:List aF):Bool:=(l.zip m).all λp=>p.1.qA p.2
theorem CZ (r q:List Int):∀ (a b:List Nat),a≠b->lexLt ((a.map λ(c:Nat)=>(c:Int)+1)++[0]++r) ((b.map λ(c:Nat)=>(c:Int)+1)++[0]++q)=decide (a<b)
 |[],[],h=>absurd zk h
 | [],y::b,_=>by
   change lexLt (0::_) (((y)+1)::_)=_;rw[gF,if_neg za,decide_eq_true za,decide_eq_true zf]
 | x::a,[],_=>by
   change lexLt (((x)+1)::_) (0::_)=_;rw[gF,if_neg za,decide_eq_false za,decide_eq_false zf]
 | x::a,y::b,h=>by
   change lexLt (((x)+1)::_) (((y)+1)::_)=_;rw[gF];by_cases e:x=y
   .subst e;rw[if_pos rfl];refine(CZ r q a b λz=>h (by rw[z])).trans ?_;by_cases c:a<b
    .rw[decide_eq_true c,decide_eq_true (by simpa using c)]
    .rw[decide_eq_false c,decide_eq_false (by simpa using c)]
   .rw[if_neg za];by_cases c:x<y
    .rw[decide_eq_true za,decide_eq_true<|List.cons_lt_cons_iff.mpr<|.inl c]
    .rw[decide_eq_false za,decide_eq_false ?_];intro z;rcases List.cons_lt_cons_iff.mp z with z|z
     .lia
     .lia
noncomputable def aF.lt:aF->aF->Bool
 |.i n,.i m=>decide (n<m)
 |.s x,.s y=>decide (x.cps.toList<y.cps.toList)
 |_,_=>af
theorem aF.app (r q:List Int):∀ {a b:aF},a.qA b=ah->a≠b->lexLt (a.code++r) (b.code++q)=a.lt b
 | .i n,.i m,_,h=>by
   change lexLt (n::r) (m::q)=_;rw[gF,if_neg λz=>h (by rw[z])];rfl
 |.s x,.s y,_,h=>CZ r q _ _ λz=>h (by
  let#[#[a]]:=x;let#[#[b]]:=y;have z':a=b:=z;rw[z'])
theorem LQ (a r q:List Int):lexLt (a++r) (a++q)=lexLt r q:=by
 induction a with
 |nil=>rfl
 |cons x a ih=>rw[Xo,Xo,gF,if_pos rfl,ih]
def cq:List aF->List aF->Bool
 |[],m=>!m.isEmpty
 |_::_,[]=>af
 |a::l,b::m=>if a=b then cq l m else a.lt b
theorem mL:∀ (l m:List aF),kq l m=ah->lexLt (bB l) (bB m)=cq l m
 |[],[],_=>rfl
 | [],b::m,_=>by
   change lexLt _ _=_;rfl
 | a::l,[],_=>by
   change lexLt _ _=_;rfl
 | a::l,b::m,h=>by
   have h':(a.qA b&&kq l m)=ah:=h;rw[aQ]at h';have e1:bB (a::l)=1::(a.code++bB l):=by simp[bB]
   have e2:bB (b::m)=1::(b.code++bB m):=by simp[bB]
   rw[e1,e2,gF,if_pos rfl];unfold cq;by_cases c:a=b
   .rw[if_pos c,c,LQ];show mL l m h'.2
   .rw[if_neg c];show aF.app _ _ h'.1 c
noncomputable def n8 (h:aJ) (v:aj):aF->zw
 |.i n=>∃ t,v=.int n t
 |.s x=>∃ t,v=.str x t
inductive eB (h:aJ):List aj->List aF->zw
 |nil:eB h [] []
 |cons {v:aj}{d:aF}{vs:List aj}{l:List aF}:n8 h v d->eB h vs l->eB h (v::vs) (d::l)
def sx (L:List<|List aF) (h:aJ) (v:aj) (ns:List Int):zw:=∃ a vs n l,v=.ref a /\ IsTup h a vs.toArray /\ eB h vs (.i n::l) /\ .i n::l∈L /\ ns=bB (.i n::l)
theorem n8.inj {v:aj}:∀ {a b:aF},n8 h v a->n8 h v b->a=b
 |.i n,.i m,⟨t,e⟩,⟨u,f⟩=>by rw[e]at f;cases f;rfl
 |.s n,.s m,⟨t,e⟩,⟨u,f⟩=>by rw[e]at f;cases f;rfl
 |.i n,.s m,⟨t,e⟩,⟨u,f⟩=>by rw[e]at f;cases f
 |.s n,.i m,⟨t,e⟩,⟨u,f⟩=>by rw[e]at f;cases f
theorem eB.inj {h:aJ}{vs:List aj}{l m:List aF}(p:eB h vs l) (q:eB h vs m):l=m:=by
 induction p generalizing m with
 |nil=>cases q;rfl
 |cons a _ ih=>cases q with|cons b q=>rw[a.inj b,ih q]
theorem n8.keep {v:aj}{d:aF}(p:n8 h v d):n8 h' v d:=by
 cases d with
 |i n=>show p
 |s x=>show p
theorem eB.keep {h h':aJ}{vs:List aj}{l:List aF}(p:eB h vs l):eB h' vs l:=by
 induction p with
 |nil=>show .nil
 |cons a _ ih=>show .cons a.keep ih
theorem LR (o:bj):∀ a vs,IsTup h a vs->IsTup (h.push o) a vs:=λa vs ⟨u,e1,e2⟩=>#[u,aN _ e1,e2]
theorem OE {l:ai}{xs:Array aj}(hl:h.get? l=ae (seqObj "list" xs n)) (f:bj->bj):∀ a vs,IsTup h a vs->IsTup (h.update l f) a vs:=λa vs ⟨u,e1,e2,e3⟩=>by
 refine#[u,?_,e2,e3];by_cases q:l=a
 .subst q;rw[hl]at e1;cases e1;injection (e2) with e4;show absurd e4 zh
 .rw[Heap.get?_update_ne _ _ _ _<|Ne.symm q];show e1
theorem cX (L:List<|List aF):KP (sx L) where
 inj:=by
  rintro h v ns ms ⟨a,vs,n,l,rfl,⟨o,e1,_,k,e2⟩,i1,_,rfl⟩ ⟨a',yi,n',l',e,⟨o',f1,_,k',f2⟩,i2,_,rfl⟩;cases e;rw[e1]at f1;cases f1;rw[e2]at f2;injection f2 with g _;have:vs=yi:=by simpa using g
  subst this;rw[i1.inj i2]
 push:=λ⟨a,vs,n,l,e,t,i,m,c⟩ o=>#[a,vs,n,l,e,LR o _ _ t,i.keep,m,c]
 upd:=λ⟨a,vs,n,l,e,t,i,m,c⟩ _ _ _ hl f=>#[a,vs,n,l,e,OE hl f _ _ t,i.keep,m,c]
section
variable {s:aq}
theorem VL {v:aj}{a b:aF}(hu:A.units<cLine) (p:n8 s.heap v a) (q:n8 s.heap u b) (hl:a.qA b=ah) {Q:Bool->aq->zw}(h:Q (decide (a=b)) s):wpAny zd A (eqBool v u) Q E s:=by
 cases a with
 |i n=>
   cases b with
   |i m=>
     let#[t,rfl]:=p;let#[t',rfl]:=q;refine ZX ?_;rw[show (n==m)=decide (aF.i n=aF.i m) by by_cases e:n=m<;>simp[e]];show h
   |_=>cases hl
 |s x=>
   cases b with
   |s y=>
     let#[t,rfl]:=p;let#[t',rfl]:=q;refine XU x t y t' prog w E Q ?_;rw[show (x==y)=decide (aF.s x=aF.s y) by by_cases e:x=y<;>simp[e]];show h
   |_=>cases hl
theorem VM {v:aj}{a b:aF}(hu:A.units<cLine) (k:Bool) (hk:k=ah->∃ n,a=.i n) (p:n8 s.heap v a) (q:n8 s.heap u b) (hl:a.qA b=ah) {Q:Bool->aq->zw}(h:Q (a.lt b) s):wpAny zd A (oneLt' k v u) Q E s:=by
 have gen:∀ {v u}{c},k=af->(∀ {R},R (.bool c) s->wpAny _ A (compareOp .Lt v u) R E s)->Q c s->wpAny zd A (oneLt' k v u) Q E s:=λ{v u c} z f h=>by
  rw[oneLt'_eq,z,if_neg zf];show ak<|f<|qK h
 cases a with
 |i n=>
   cases b with
   |i m=>let#[t,rfl]:=p;let#[t',rfl]:=q;show D7 k h
   |_=>cases hl
 |s x=>
   cases b with
   |s y=>let#[t,rfl]:=p;let#[t',rfl]:=q;show gen (by cases k with|true=>let#[n,e]:=hk zk;cases e|false=>rfl) (λr=>lt_str r) h
   |_=>cases hl
theorem eB.length {h:aJ}{vs:List aj}{l:List aF}(p:eB h vs l):vs.length=l.length:=by
 induction p with
 |nil=>rfl
 |cons _ _ ih=>rw[bN,bN,ih]
theorem OF (hu:A.units<cLine) {l m:List aF}(p:eB s.heap vs l) (q:eB s.heap us m) (hl:kq l m=ah) (i:Nat) (h0:i=0->∀ d r,l=d::r->∃ n,d=.i n) {R:(Option Bool×PUnit)->aq->zw}
 (k:∀ r,(r=(ae<|cq l m,PUnit.unit) \/ (r=(ag,PUnit.unit) /\ cq l m=decide (vs.length<us.length)))->R r s) :
 wpAny zd A (forIn ((vs.zip us).zipIdx i) ((ag,PUnit.unit):Option Bool×PUnit) λ(z:(aj×aj)×Nat) _=>(do
  let z1 <-eqBool z.1.1 z.1.2
  if (!z1)=ah then do
   let r <-oneLt' (ah&&z.2==0) z.1.1 z.1.2
   pure (ForInStep.done (ae r,PUnit.unit))
  else pure (ForInStep.yield (ag,PUnit.unit)))) R E s:=by
 induction p generalizing us m i with
 |nil=>
   refine az<|k _<|.inr #[rfl,?_];cases q with
   |nil=>rfl
   |cons _ q=>unfold cq;simp
 |@cons v d vs l pa p ih=>
   cases q with
   |nil=>
     show az<|k _ (.inr #[rfl,by unfold cq;simp])
   |@cons u e us m qa q=>
     have hV:(d.qA e&&kq l m)=ah:=hl;rw[aQ]at hV;rw[vT,Xq,xn];refine ak<|ak<|VL hu pa qa hV.1 ?_;by_cases c:d=e
     .subst c;rw[if_neg zf];refine az<|ih q hV.2 _ (λz=>by lia) λr hr=>k r ?_;have:cq (d::l) (d::m)=cq l m:=by conv=>lhs;unfold cq;rw[if_pos rfl]
      rw[this];rcases hr with hr|⟨hr,E8⟩
      .show .inl hr
      .show .inr #[hr,by rw[E8];simp]
     .rw[if_pos (by simp[c])];refine ak (VM hu _ (λz=>?_) pa qa hV.1<|az<|az<|k _<|.inl ?_)
      .have:i=0:=by simpa using z
       show h0 this d l zk
      .have:cq (d::l) (e::m)=d.lt e:=by conv=>lhs;unfold cq;rw[if_neg c]
       rw[this]
theorem BD {L:List (List aF)}(C:∀ l∈L,∀ m∈L,kq l m=ah) {U:Nat}(hU:U<cLine) (H:∀ v∈vs,∃ ns,sx L s.heap v ns) (ne:vs≠[]):YK (sx L) prog w U s vs:=λA h' hu up=>by
 have H':∀ v∈vs,∃ ns,sx L h' v ns:=λv m=>let ⟨ns,p⟩:=H v m;#[ns,up v ns p]
 refine#[λ{Q E} h=>?_,λE=>?_]
 .have ahG:∀ (us:List aj),(∀ v∈us,∃ ns,sx L h' v ns)->∀ {Q}{E},(∀ (ws) (is),ws.length=us.length->IntsAre ws is->Q (ws.map ae) { s with heap:=h' })->wpAny zd A (us.mapM firstOfTuple') Q E { s with heap:=h' }:=by
   intro us;induction us with
   |nil=>intro _ Q E k;rw[List.mapM_nil];show az<|k [] [] zk .nil
   |cons u us ih=>
     intro G Q E k;let#[ns,a,xs,n,l,rfl,#[o,e1,e3,c,e2],it,_,_]:=G u<|bw ..;rw[List.mapM_cons];refine ak<|?_;refine ak<|rO #[o,e1,e3] ?_;rw[if_neg zh];refine ak<|xE e1 e2<|az ?_;cases it with
     |cons hv _=>
       let#[t,rfl]:=hv;show ak<|ih (λv m=>G v<|bG _ m) λws is e q=>az<|k _ _ (by simp[e])<|.cons n t q
  rw[keyKind'_eq,aaJ];refine ak<|?_;rw[<-bind_pure_comp];refine ak<|ahG vs H' λus is e k=>az ?_;rw[if_pos zf];refine ak<|pQ ?_;have e1:((us.map ae).toArray.filterMap id)=us.toArray:=by simp
  rw[e1,oneTypeOnly'_eq,aaJ,mapM_typeOf_ints k];cases us with
  |nil=>show absurd (xq e.symm) ne
  |cons u us=>
    erw[map_pure,pure_bind];rw[show ((u::us).map λ_=>Value.type "int").toArray[0]?=ae (Value.type "int") by simp];dsimp only;rw[if_pos zf];show ak<|az<|az h
 .intro x y mx my Q E' q;rw[abg]at mx my;let#[ns,hx]:=H' _ (XB mx).2;let#[ms,hy]:=H' _ (XB my).2
  change Q (lexLt (((vD (sx L) h').keyOf x.1).getD [])<|((vD (sx L) h').keyOf y.1).getD []) _ at q
  rw[(o9 (cX L) hx),(o9 (cX L) hy)]at q;let#[a,ahH,n1,l1,e1,#[o1,x1,x2,c1,x3],i1,m1,rfl]:=hx;let#[b,ym,n2,l2,e2,#[o2,y1,y2,c2,y3],i2,m2,rfl]:=hy;have lk:=C _ m1 _ m2;rw[mL _ _ lk]at q;rw[e1,e2,Ca];refine ak<|xE x1 x3<|ak<|xE y1 y3 ?_;refine ak<|OF (HN hu hU) i1 i2 lk 0 (λ_ d r z=>by cases z;show#[n1,rfl]) λr hr=>?_;rcases hr with rfl|⟨rfl,e⟩
  .show az q
  .refine az ?_;rw[cC,cC,<-e];show q
end
end HT
namespace L2.DL
open HT (aF bB kq lexLt)
noncomputable def Kx:D->Option aF
 |.int i=>ae<|.i i
 |.str x=>ae<|.s x
 |_=>ag
noncomputable def p8:aF->D
 |.i n=>.int n
 |.s x=>.str x
def t8:List D->Option (List aF)
 |[]=>ae []
 |d::l=>(Kx d).bind λa=>(t8 l).map λr=>a::r
def rowOf:D->Option (List aF)
 |.tup (.int i::l)=>(t8 l).map λr=>.i i::r
 |_=>ag
def rowsOf:List D->Option (List<|List aF)
 |[]=>ae []
 |d::l=>(rowOf d).bind λa=>(rowsOf l).map λr=>a::r
def ku (l:List aF):D:=.tup<|l.map p8
theorem OG {d:D}{a:aF}(e:Kx d=ae a):d=p8 a:=by
 cases d with
 |int i=>cases e;rfl
 |str x=>cases e;rfl
 |_=>cases e
theorem AF:∀ {l:List D}{r:List aF},t8 l=ae r->l=r.map p8:=by
 intro l_;induction l_ with
 |nil=>(intro _ e;cases e;rfl)
 |cons d l ay=>
   intro r e;unfold t8 at e;cases q:Kx d with
   |none=>rw[q]at e;cases e
   |some a=>
     cases q2:t8 l with
     |none=>rw[q,q2]at e;cases e
     |some t=>rw[q,q2]at e;cases e;rw[OG q,ay q2];rfl
theorem LS {d:D}{r:List aF}(e:rowOf d=ae r):d=ku r /\ ∃ n l,r=.i n::l:=by
 unfold rowOf at e;split at e
 .ext i l;cases q:t8 l with
  |none=>rw[q]at e;cases e
  |some t=>rw[q]at e;cases e;rw[AF q];show#[rfl,i,t,rfl]
 .cases e
theorem Jr:∀ {l:List D}{rs:List (List aF)},rowsOf l=ae rs->l=rs.map ku /\ ∀ r∈rs,∃ n l,r=.i n::l:=by
 intro l_;induction l_ with
 |nil=>(intro _ e;cases e;show#[rfl,λr m=>nomatch m])
 |cons d l ay=>
   intro rs e;unfold rowsOf at e;cases q:rowOf d with
   |none=>rw[q]at e;cases e
   |some a=>
     cases q2:rowsOf l with
     |none=>rw[q,q2]at e;cases e
     |some t=>
       rw[q,q2]at e;cases e;let#[h1,h2]:=LS q;let#[h3,h4]:=ay q2;refine#[by rw[h1,h3];rfl,λr m=>?_];rcases aZ.mp m with rfl|m
       .show h2
       .show h4 r m
def pK (rs:List<|List aF):List (List aF):=rs.mergeSort λa b=>!lexLt (bB b) (bB a)
theorem iM (rs:List<|List aF):(pK rs).Perm rs:=Ea rs _
theorem iJ (rs:List<|List aF):(pK rs).Pairwise (λa b=>lexLt (bB b) (bB a)=af):=(HS (le:=λa b:List aF=>!lexLt _ (bB a)) (λa b c h1 h2=>by
 cases e:lexLt _ (bB a) with
 |false=>rfl
 |true=>
   rcases HT.BC _ _ _ e with z|z
   .rw[z]at h2;cases h2
   .rw[z]at h1;cases h1) (λa b=>by
 rw[xD,uk,uk];cases e:lexLt _ (bB a) with
 |false=>show .inl zk
 |true=>
   cases f:lexLt _ (bB b) with
   |false=>show .inr zk
   |true=>have:=HT.jz _ _ _ e f;rw[HT.iB]at this;cases this) rs).imp λ{a b} z=>by simpa using z
theorem Js {a b:aF}(h:a.qA b=ah):b.qA a=ah:=by cases a<;>cases b<;>first|rfl|cases h
theorem AG:∀ {a b:List Nat},¬ a<b->¬ b<a->a=b
 |[],[],_,_=>rfl
 |[],y::b,h,_=>absurd zf h
 |x::a,[],_,h=>absurd zf h
 | x::a,y::b,h,g=>by
   rw[List.cons_lt_cons_iff]at h g;have e:x=y:=by
    rcases Nat.lt_trichotomy x y with z|z|z
    .show absurd (.inl z) h
    .show z
    .show absurd (.inl z) g
   subst e;rw[AG (λz=>h<|.inr #[rfl,z]) λz=>g<|.inr #[rfl,z]]
theorem TR:∀ {a b:aF},a.qA b=ah->a.lt b=af->b.lt a=af->a=b
 | .i n,.i m,_,h,g=>by
   have h':=of_decide_eq_false h;have g':=of_decide_eq_false g;rw[show n=m by lia]
 | .s x,.s y,_,h,g=>by
   have:=AG (of_decide_eq_false h)<|of_decide_eq_false g;let#[#[a]]:=x;let#[#[b]]:=y;have z':a=b:=this;rw[z']
theorem code_inj:∀ {l m:List aF},kq l m=ah->bB l=bB m->l=m
 |[],[],_,_=>rfl
 | [],b::m,_,e=>by
   have e':([0])=1::(b.code++bB m):=by rw[show (1::(b.code++bB m))=bB (b::m) by simp[bB]];show e
   simp at e'
 | a::l,[],_,e=>by
   have e':1::(a.code++bB l)=([0]):=by rw[show (1::(a.code++bB l))=bB (a::l) by simp[bB]];show e
   simp at e'
 | a::l,b::m,h,e=>by
   have h':(a.qA b&&kq l m)=ah:=h;rw[aQ]at h';have e':a.code++bB l=b.code++bB m:=by
    have:1::(a.code++bB l)=1::(b.code++bB m):=by rw[show (1::(a.code++bB l))=bB (a::l) by simp[bB],show (1::(b.code++bB m))=bB (b::m) by simp[bB]];show e
    show(List.cons.inj this).2
   have ab:a=b:=by
    by_cases c:a=b
    .show c
    .have x1:=HT.aF.app (bB l) (bB m) h'.1 c;have x2:=HT.aF.app (bB m) (bB l) (Js h'.1) λz=>c z.symm;rw[e',HT.iB]at x1;rw[<-e',HT.iB]at x2;show TR h'.1 x1.symm x2.symm
   subst ab;rw[code_inj h'.2<|List.append_cancel_left e']
theorem Ky {β:Type}{f:α->β}{l n:List β}(h:l.Perm n):∀ {m:List α},n=m.map f->∃ m':List α,l=m'.map f /\ m'.Perm m:=by
 induction h with
 |nil=>intro m e;cases m with|nil=>show⟨[],rfl,.nil⟩|cons _ _=>cases e
 |cons x _ ih=>
   intro m e;cases m with
   |nil=>cases e
   |cons a m=>
     let#[e1,e2]:=List.cons.inj e;let#[m',q1,q2]:=ih e2;show#[a::m',by rw[aM,<-q1,e1],q2.cons a]
 |swap x y l=>
   intro m e;match m,e with
   |a::b::m,e=>
     let#[e1,e2]:=List.cons.inj e;let#[e2,e3]:=List.cons.inj e2;show#[b::a::m,by rw[aM,aM,<-e1,<-e2,<-e3],.swap ..]
 |trans _ _ E9 Hb=>
   intro m e;let#[m2,q1,q2]:=Hb e;let#[m1,q3,q4]:=E9 q1;show#[m1,q3,q4.trans q2]
def uM (rs:List<|List aF):Bool:=rs.all λa=>rs.all λb=>kq a b
theorem iN {rs a:List (List aF)}(hl:uM rs=ah) (p:a.Perm rs) (ha:a.Pairwise λa b=>lexLt (bB b) (bB a)=af):a=pK rs:=by
 refine(p.trans (iM rs).symm).eq_of_pairwise (λx y mx my h1 h2=>code_inj ((λx mx y my=>cU.mp (cU.mp hl x mx) y my) x (p.mem_iff.mp mx) y<|(iM rs).mem_iff.mp my)<|HT.jb _ _ h2 h1) ha (iJ rs)
section
variable {s:aq}
theorem VN (I:Inv X pins σ H s) (sub:Sub F H) {a:aF}(h:Den F (p8 a) v) (r:RelV v u):HT.n8 s.heap u a:=by
 cases a with
 |i n=>cases (h);show r
 |s x=>cases (h);show r
theorem D8 (I:Inv X pins σ H s) (sub:Sub F H):∀ {l:List aF}{vs:List V}{us:List aj},aH F (l.map p8) vs->Vals vs us->HT.eB s.heap us l:=by
 intro l_;induction l_ with
 |nil=>(intro _ _ h r;cases (h);cases r;show .nil)
 |cons a l ay=>
   intro _ _ h r;let#[v,t,rfl,h1,h2]:=h;cases r with
   |cons r1 r2=>show .cons (VN I sub h1 r1)<|ay h2 r2
theorem OH:∀ {rs:List (List aF)}{vs:List V},aH F (rs.map ku) vs->∃ ps:List (ai×List aF),vs=ps.map (λp=>V.ref p.1) /\ rs=ps.map (·.2) /\ ∀ p∈ps,Den F (ku p.2) (.ref p.1):=by
 intro l_;induction l_ with
 |nil=>(intro _ h;show#[[],h,rfl,λp m=>nomatch m])
 |cons r rs ay=>
   intro _ h;let#[v,t,rfl,h1,h2]:=h;let#[ps,e1,e2,e3]:=ay h2;let#[a,ws,rfl,h3,h4]:=id h1;refine#[(a,r)::ps,by rw[e1];rfl,by rw[e2];rfl,λp m=>?_];rcases aZ.mp m with rfl|m
   .show h1
   .show e3 p m
theorem LU:∀ {ps:List (ai×List aF)},(∀ p∈ps,Den F (ku p.2)<|.ref p.1)->aH F ((ps.map (·.2)).map ku) (ps.map λp=>V.ref p.1):=by
 intro l_;induction l_ with
 |nil=>show λ_=>rfl
 |cons p ps ay=>show λh=>.cons (h p<|bw ..)<|ay λq m=>h q<|bG _ m
end
def YL (K:PySem.W.Frag) (vs:List V) (H:Hp) (Q:VK):zw:=∃ (F:Hp) (p:ai) (xs:List V) (rs:List<|List aF),vs=[.ref p] /\ Sub F H /\ bZ K H p xs /\ aH F (rs.map ku) xs /\ (∀ r∈rs,∃ n l,r=.i n::l) /\ rs.length<64 /\ uM rs=ah /\
 ∀ (q:ai) (ys:List V),H q=ag->aH F ((pK rs).map ku) ys->Q (.ref q) (upd H q<|.lst ys)
theorem D9 (hu:X.A.units+100<cLine):hG X (.builtin "sorted") (YL X.K):=by
 intro pins s σ H xs us Q I rv h;let#[F,p,vs,rs,rfl,sub,hp,hd,hf,cG,adA,q]:=h;let#[u,rfl,ru]:=Vals.one rv;cases ru;let#[its,r1,p1,z1]:=I.list hp;let#[ps,e1,e2,e3]:=OH hd;subst e1;have ei:its=ps.map λp=>Value.ref p.1:=by
  have:=CY (by rw[bH];show r1);rw[this,bH];rfl
 subst ei;have row:∀ p∈ps,HT.sx rs s.heap _ (bB p.2):=λp m=>by
  have mr:p.2∈rs:=by rw[e2];show aK.mpr #[p,m,rfl]
  let#[n,l,el]:=hf _ mr;let#[b,ws,eb,h3,h4]:=(e3 p m);cases eb;let#[us,r',pl,_]:=I.tuple<|.of<|sub _ _ h3;rw[el]at h4 mr;show#[p.1,us,n,l,rfl,pl,D8 I sub h4 r',mr,by rw[el]]
 have HH:∀ v∈ps.map (λp=>Value.ref p.1),∃ ns,HT.sx rs s.heap v ns:=λv m=>by
  let#[r,mr,rfl]:=aK.mp m;show#[_,row r mr]
 have ln:ps.length=rs.length:=by rw[e2,aV]
 refine HT.Jq (HT.cX rs) p1.isList HH (aI _) (λne=>HT.BD (λx mx y my=>cU.mp (cU.mp adA x mx) y my) za HH ne) (by rw[aV,ln];show cG) λout o1 o2=>?_;let#[uN,q1,q2]:=Ky o1 zk;let#[k,he]:=abd s.heap _ out;have ord:(uN.map (·.2)).Pairwise (λa b=>lexLt (bB b) (bB a)=af):=by
  unfold HT.vE at o2;rw[q1,qh]at o2;rw[qh];show abV (λ{a b} ma mb r=>r _ _ (row a<|q2.mem_iff.mp ma)<|row b<|q2.mem_iff.mp mb) o2
 have ll:(uN.map λp=>V.ref p.1).length<=sizeLine:=by
  rw[aV,q2.length_eq,ln];show cT (nC cG) zh
 refine#[.ref _,_,I.laid (λb ob q=>abe q) (vd _) ?_,rfl,q _ _ (I.aE.fresh<|vd _) (by rw[<-(iN adA (by rw[e2];show q2.map _) ord)];show LU λp m=>e3 p<|q2.mem_iff.mp m)];refine#[ll,out.toList,k,?_,he];rw[q1];have:∀ l:List (ai×List aF),Vals (l.map λp=>V.ref p.1) (l.map λp=>Value.ref p.1):=λl=>by
  induction l with
  |nil=>show .nil
  |cons a l ih=>show .cons zk ih
 show this uN
def dQ:List D->Option Res:=λxs=>match tX xs with
 |some r=>ae r
 | none=>match xs with
   |[.lst l]=>(rowsOf l).bind λrs=>if rs.length<64 /\ uM rs=ah then ae (.lst<|(pK rs).map ku) else ag
   |_=>ag
theorem Fa (hu:X.A.units+100<cLine):hG X (.builtin "sorted") (λvs H Q=>Kq X.K vs H Q \/ YL X.K vs H Q):=λpins s σ H xs us Q I rv h=>h.elim (Jg pins s σ H xs us Q I rv)<|D9 hu pins s σ H xs us Q I rv
theorem ahI:k8 (λvs H Q=>Kq K vs H Q \/ YL K vs H Q) dQ:=by
 intro F H xs vs Q s sub rx e k;unfold dQ at e;cases er:tX xs with
 |some r=>
   rw[er]at e;cases e;show .inl<|ahl F H xs vs Q s sub rx er k
 |none=>
   rw[er]at e;dsimp only at e;split at e
   .ext l;cases e1:rowsOf l with
    |none=>rw[e1]at e;cases e
    |some rs=>
      rw[e1]at e;erw[bV]at e;split at e
      .ext hc;cases e;let#[v,t,rfl,#[a,us,rfl,h1,h2],rt]:=rx;cases (rt);let#[b1,b2]:=Jr e1;subst b1;show .inr #[F,a,us,rs,rfl,sub,.of h1,h2,b2,hc.1,hc.2,λq ys hq hy=>k _ _ #[q,ys,rfl,hq,rfl,hy]]
      .cases e
   .cases e
end L2.DL
namespace L2
theorem F9 {src:List (Option Nat)}{elt:au}{scope:bK}{vF:aG}{wi:TI}{g:TG}{tf:TT}{te:TE}{ii:Nat} 
 (hc:X.calm=ah) (S:tM X N src scope) (hi:PI X tg iter wi)
 (hg:∀ cl s H C fp,PG (X.comp N scope cl s H C fp) tg g) (hf:∀ cl s H C fp,PF (X.comp N scope cl s H C fp) ifs tf) (he:∀ cl s H C fp,PE (X.comp N scope cl s H C fp) elt te)
 (hN:X.N.Nodup) (wG:X.N[ii]?=ae x) (hx:Loc X.env.scope x) (Hc:swapsWith zy (ae<|.Name x pos') vF.line X.env=pure ah)
 (Hd:X.fn x=ah \/ X.env.scope.names.lookup x=ae .local)
 (hs:∀ x,foldedSetIterable iter X.env x=pure x:=by intro _;rfl):PS X (.Assign [.Name x pos'] zy vF) (IG (Kb src wi g tf te)<|X0 ii):=by
 intro pins s σ H Dn I h;rw[exec_Assign_Name_used _ _ _ _ Hc];refine ak<|xb<|ak ?_
 change wpAny _ X.A _ _ _ s
 refine ak<|ny (aad zk hs (Av<|S.cells I.ok) S.kind S.names<|cy (hi pins s σ H _ I h) λxv s1 h1=>cy h1 λII s2 h2=>?_) (λ_ s' hq=>az<|az hq) λ_ _ q=>q;let#[it,fp,tn,J,H2,e,I2,T,vZ,f2,hW]:=h2;subst e;refine eV ?_;generalize hD:s2.heap.objs.size=D;have I3:Inv X pins σ (upd H2 D<|.lst []) { s2 with heap:=s2.heap.push { cls:=.type "list",dict:=ag,data:=.seq ([]).toArray } }:=by
  subst hD;show I2.laid (λb u e=>aN _ e) (aI _) #[cJ _,[],0,.nil,bE _ zk]
 let#[W,#[m0,w0],turn]:=hW D<|I2.aE.fresh<|xk hD;have up:∀ b o,s2.heap.get? b=ae o->(s2.heap.push { cls:=.type "list",dict:=ag,data:=.seq ([]).toArray }).get? b=ae o:=λb u e=>aN _ e;have vm:=T.keep _ _ _ vZ λb _ o e=>up b o e;have ED:∀ b∈fp,b<s2.heap.objs.size:=λb hb=>by let#[o,e,_]:=(T.obj _ _ vZ) b hb;show bh e
 have f3:∀ b∈fp,pU X pins (upd H2 D<|.lst []) b:=λb hb=>#[by rw[fC (by rw[<-hD];show bC (ED b hb))];show(f2 b hb).1,(f2 b hb).2];generalize Ym:({ s2 with heap:=s2.heap.push { cls:=.type "list",dict:=ag,data:=.seq ([]).toArray } })=s3 at I3 ⊢;have EE:s3.heap=s2.heap.push { cls:=.type "list",dict:=ag,data:=.seq ([]).toArray }:=by rw[<-Ym]
 rw[<-EE]at vm;have Yn:∀ b∈fp,b<s3.heap.objs.size:=λb hb=>by rw[EE,uj];show qf<|ED b hb
 generalize agO:upd H2 D (.lst [])=H3 at I3 f3 w0;refine Ax ?_;generalize EF:pushCells (s3.heap.push { cls:=.type "dict",data:=.dict #[] }) scope.names=h₁;have k1:∀ b o,s3.heap.get? b=ae o->h₁.get? b=ae o:=λb o e=>by rw[<-EF];show HE _ _ b o<|aN _ e
 have IY:=CO S I3 (λb hb=>#[f3 b hb,Yn b hb]) (by rw[EF]);have EG:=T.keep _ _ _ vm λb _ o e=>k1 b o e;generalize uB:cellsFrom (s3.heap.objs.size+1) scope.names (hO X.env.cells scope.names [])=cl at IY ⊢;generalize hC:s3.heap.objs.size=C at IY ⊢;have wc:∀ {H'},(∀ b∈fp,H' b=ag)->∀ b∈fp,pU (X.comp N scope cl s3 H3 C fp) [] H' b:=λhn b hb=>by
  refine#[hn b hb,((IY.ok.xT b hb).1),(IY.ok.xV b hb),.inl hb,?_,λp hp=>absurd (hp) zf]
  .intro x c e z;show(IY.ok.xT b hb).2 x c e z
 have fin:∀ (σ') (H') (s':aq),Inv (X.comp N scope cl s3 H3 C fp) [] σ' H' s'->∀ h',Heap.SameBut C s'.heap h'->Inv X pins σ H' { s' with heap:=h' }:=λσ' H' s' I' h' tO=>by
  have EH:H' C=ag:=I'.free;have kp:∀ b o,b≠C->s'.heap.get? b=ae o->h'.get? b=ae o:=λb o hb e=>tO.extBut b o hb e;have Yo:s3.heap.get? C=ag:=by rw[<-hC];show xC<|aI _
  have qT:∀ b o,s3.heap.get? b=ae o->b≠C:=λb o e z=>by rw[z,Yo]at e;cases e
  have U:=I'.base;refine I3.ab8 I'.os #[λb o e n hb hx=>kp b o (qT b o e)<|U.keep b o e n hb hx,λb o e n hb hx=>?_,U.free,λb o e hx=>?_,U.rW,U.qm,U.qP] ?_ I'.bare λb hb=>(#[(f3 b hb).2.2.2.1,(f3 b hb).2.1,λx c e=>(f3 b hb).2.2.2.2.1 x c e,(f3 b hb).2.2.2.2.2])
  .let#[sl,e1]:=U.slot b o e n hb hx;show#[sl,kp b _ (qT b o e) e1]
  .let#[o',e1]:=U.there b o e hx;show#[o',kp b o' (qT b o e) e1]
  .intro b ob e;refine(I'.aE b ob e).kY (λc w' dZ q=>kp c w' (λz=>?_) q) (λ_ q=>q) λ_ _ q=>q;rcases dZ with z1|z1
   .rw[<-z1,z,EH]at e;cases e
   .rw[z,EH]at z1;cases z1
 have loop:∀ s4:aq,s4={ s3 with heap:=h₁ } ->
  codeAny ze X.A (.compLoop zy 0 (.ref it) (.ref D)<|compEnvC scope cl C X.env) (compPost ze X.A X.xe (ae<|assign (.Name x pos') X.env) (λ_ s'=>SP X pins Dn .next s') (.ref D) C) s4:=by
  rintro s4 rfl;refine mH (λn s'=>∃ i σ' H',Inv (X.comp N scope cl s3 H3 C fp) [] σ' H' s' /\ tn i s'.heap /\ (∀ b∈fp,H' b=ag) /\ W i n σ' H') _ (λ_ _ _ q=>q) ?_ m0 #[0,_,H3,IY,EG,λb hb=>(f3 b hb).1,w0];rintro n s5 ⟨i,σ5,H5,I5,uv,v3,w5⟩;have pF:∀ {α:Type}{t:Sem α}{Q1:α->aq->zw}{E1:aj->aq->zw}{ss:aq},wpAny ze X.A t Q1 (λ_ _=>False) ss->wpAny ze X.A t Q1 E1 ss:=λhw=>ny hw (λ_ _ q=>q) λ_ _ z=>False.elim z;rcases turn i n σ5 H5 w5 with⟨stop,q5⟩|⟨go,NN,hN,step⟩
  .refine pF<|cy (T.done (X.comp N scope cl s3 H3 C fp) zk zk zk hc i [] s5 σ5 H5 (λ_ _=>False) I5 (wc v3) uv stop) ?_;rintro r s6 ⟨hr,I6⟩;subst hr;let#[m6,Yp,_]:=I6.loc
   change wpAny _ X.A (assign (.Name x pos') X.env<|.ref D) _ _ s6
   refine Z3<|Bn (v:=.ref D) (fin σ5 H5 s6 I6 s6.heap<|Heap.SameBut.refl ..) hN wG hx zk (λs7 I7 ⟨a,sb,ha⟩=>?_) Hd;refine#[m6,Yp.sameBut sb (λz=>by
    rcases ha with w1|w1
    .have l1:X.env.locals<s3.heap.objs.size:=I3.lt;rw[<-w1,<-z,<-hC]at l1;show kF _ l1
    .let#[v1,o1,w2,_]:=I3.cell x a w1;have l1:=bh w2;rw[<-z,<-hC]at l1;show kF _ l1),λh' tO=>?_]
   refine#[σ.set ii<|ae<|.ref D,H5,?_,q5];refine I7.turned (λb o hb e=>tO.extBut b o hb e) I6.free (Ne.symm (λz=>by have l1:=I3.lt;rw[z,<-hC]at l1;show kF _ l1)) (.inr ?_) (λy c e z=>?_) λp hp z=>?_
   .rw[<-hC];show I3.sz
   .let#[v1,o1,w2,_]:=I3.cell y c e;have l1:=bh w2;rw[z,<-hC]at l1;show kF _ l1
   .have l1:=bh (I3.pin p hp).1;rw[z,<-hC]at l1;show kF _ l1
  .refine pF<|cy (T.item (X.comp N scope cl s3 H3 C fp) zk zk zk hc i [] s5 σ5 H5 (λ_ _=>False) I5 (wc v3) uv go) ?_;rintro r s6 ⟨u,hr,h6⟩;subst hr;refine pF<|cy h6 ?_;rintro _ s7 ⟨x,H7,I7,r7,y7,wg,Yq⟩;refine pF<|cy (hg cl s3 H3 C fp _ s7 σ5 H7 x u _ (I7.pinned (wc Yq)<|T.obj _ _ wg) r7<|step x H7 y7) ?_;rintro _ s8 ⟨σ8,H8,I8,q8⟩;refine pF<|tT (hf cl s3 H3 C fp _ s8 σ8 H8 _ I8 q8) λb s9 H9 I9 q9=>?_;have again:∀ {σ9:St}{HA:Hp}{sA:aq},Inv (X.comp N scope cl s3 H3 C fp) ([]++xY fp s7.heap) σ9 HA sA->NN σ9 HA->∃ m,m<n /\ ∃ i σ' H',Inv (X.comp N scope cl s3 H3 C fp) [] σ' H' sA /\ tn i sA.heap /\ (∀ b∈fp,H' b=ag) /\ W i m σ' H':=λ{σ9 HA sA} IA nA=>by
    let#[m',hm,wA]:=hN σ9 HA nA;refine#[m',hm,i+1,σ9,HA,IA.Et,T.keep _ _ _ wg λb hb o e=>(IA.pin (b,o)<|nD _<|nD _<|iy hb e).1,λb hb=>?_,wA];let#[o,e,d]:=T.obj _ _ wg b hb;show(IA.pin (b,o)<|nD _<|nD _<|iy hb e).2.1
   cases b with
   |false=>
     rw[if_neg zh]at q9;rw[if_neg zh];show again I9 q9
   |true=>
     rw[if_pos rfl]at q9;rw[if_pos rfl];refine pF<|tE (he cl s3 H3 C fp _ s9 σ8 H9 _ I9 q9) λyv sA y HA IA rA hh=>?_;let#[ys,Yr,Ys,nA]:=hh;refine pF<|cy (mZ _ sA σ8 HA (.ref D) [y] (.ref D) [yv] (λ_ HB=>NN σ8 HB) IA zk (.cons rA .nil) #[D,ys,y,rfl,rfl,Yr,Ys,nA]) λr sB hB=>?_;let#[_,HB,IB,_,nB]:=hB;show again IB nB
 show aae (loop _ zk)<|T.self _ 0 _ _ _ EG<|loop _ zk
end L2
namespace L2.DL
section
variable {src:List (Option Nat)} {elt:au} {scope:bK} {vF:aG} {g:DG} 
theorem LV (i:Nat) (bo:Bool) (hc:X.calm=ah) (S:tM X N src scope) (hi:uF X T Z tg iter mi)
 (hg:∀ T cl s H C fp,pG (X.comp N scope cl s H C fp) T tg g) (hf:∀ T cl s H C fp,PF (X.comp N scope cl s H C fp) ifs<|tR T #[E0,Z.cl] tf) (he:∀ T cl s H C fp,PD (X.comp N scope cl s H C fp) T #[E0,Z.cl] elt te)
 (hN:X.N.Nodup) (wG:X.N[i]?=ae x:=by rfl) (hx:Loc X.env.scope x:=by first|show Or.inl zk|show Or.inr zk) (Hc:swapsWith zy (ae<|.Name x pos') vF.line X.env=pure ah:=by rfl)
 (Hd:X.fn x=ah \/ X.env.scope.names.lookup x=ae .local:=by first|show .inl zk|show .inr zk|assumption)
 (hs:∀ x,foldedSetIterable iter X.env x=pure x:=by intro _;rfl):dH X T Z (.Assign [.Name x pos'] zy vF) (fE (fN bo src mi g tf te)<|fg i):=by
 refine PS.imp (F9 (g:=EK g) (tf:=EL _ tf) (te:=EM _ te) hc S hi (λcl s H C fp pins s' σ' H' v u Q I rv ⟨T,q⟩=>hg T cl s H C fp pins s' σ' H' v u Q I rv q)
  (λcl s H C fp pins s' σ' H' Q I ⟨T,q⟩=>hf T cl s H C fp pins s' σ' H' Q I q) (λcl s H C fp pins s' σ' H' Q I ⟨T,q⟩=>he T cl s H C fp pins s' σ' H' Q I q) hN wG hx Hc Hd hs) λD σ H=>x4 λF r env bx R h=>(Lz #[F,r,env,bx,R,End.bW h λw bx1 F1 r1 v H1 g1 R1 d1 h1=>h1 F1 r1 _ H1 (.refl F1 r1)<|R1.set d1 i])
end
noncomputable def cu:au->Bool
 |.Starred _ _=>af
 |_=>ah
def pL:List au->Bool
 |[]=>ah
 |e::es=>cu e&&pL es
theorem fI (h:cu e=ah) (es:List au) (env:Env):starEach (e::es) env=(af,eval e env)::starEach es env:=by
 cases e<;>first|rfl|cases h
theorem jA {env:Env}:∀ {es:List au},pL es=ah->(backTo pos<|starEach es env).any (·.1)=af:=by
 intro l_;induction l_ with
 |nil=>show λ_=>rfl
 |cons e es ay=>
   intro h;have h':(cu e&&pL es)=ah:=h;rw[aQ]at h';rw[fI h'.1];change (af||(backTo pos _).any _)=af;rw[ay h'.2];rfl
theorem iC (h:pL (e::es)=ah):cu e=ah /\ pL es=ah:=by
 have h':(cu e&&pL es)=ah:=h
 rwa [aQ]at h'
theorem lh (h:cu e=ah) (es:List au) (env:Env):assignEach (e::es) env=(af,assign e env)::assignEach es env:=by
 cases e<;>first|rfl|cases h
theorem AH {env:Env}:∀ {es:List au},pL es=ah->(assignEach es env).length=es.length /\ (assignEach es env).findIdx? (·.1)=ag:=by
 intro l_;induction l_ with
 |nil=>show λ_=>#[rfl,rfl]
 |cons e es ay=>
   intro h;let#[h1,h2]:=iC h;let#[a,b]:=ay h2;rw[lh h1];show#[by rw[bN,bN,a],by rw[List.findIdx?_cons,b];rfl]
section
variable {a b c:au} {p p1:aG} {k k' nn:Nat} {ps:List Str} {m:DE (List W)}
theorem lR (ha:PD X T Z e ma) (hr:ez X T Z es m) (hn:cu e=ah:=by rfl):ez X T Z (e::es) (ff ma m):=Lo ha hr<|fI hn es X.env
theorem RT {id:String}{q:List V->Hp->VK->zw}{g:List D->Option Res}(bo:Bool) (hc:hG X (.builtin id) q) (hk:k8 q g) (hg:Gl X x) (hm:X.mg x=ag) (hv:bootBuiltins x=ae (.builtin id)) (ha:ez X T Z (e::es) m)
 (kL:pL (e::es)=ah:=by rfl) (hn:x ≠ "__name__":=by decide) (dO:(x==("__debug__":Str))=af:=by decide):PD X T Z (.Call (.Name x p) (e::es) [] pos) (dN bo g m):=
 Ls bo hc hk hg hm hv ha hn dO (fI (iC kL).1 es X.env) (jA (iC kL).2)
theorem TU {id:String}{q:List V->Hp->VK->zw}{g:List D->Option Res}(bo:Bool) (hc:hG X (.type id) q) (hk:k8 q g) (hg:Gl X x) (hm:X.mg x=ag) (hv:bootBuiltins x=ae (.type id)) (ha:ez X T Z (e::es) m)
 (kL:pL (e::es)=ah:=by rfl) (hn:x ≠ "__name__":=by decide) (dO:(x==("__debug__":Str))=af:=by decide):PD X T Z (.Call (.Name x p) (e::es) [] pos) (dN bo g m):=
 G9 bo hc hk hg hm hv ha hn dO (fI (iC kL).1 es X.env) (jA (iC kL).2)
theorem VO (h:uK X.prog X.w X.K X.mg X.base Z.cl k x ps fn) (hr:kI k' X.A) (hk:k<=k') (hg:Gl X x) (hx:Passes (tQ X.prog X.w) X Z.E) (ha:ez X T Z (e::es) m)
 (kL:pL (e::es)=ah:=by rfl) (hn:ps.length=nn:=by rfl) (dO:(x==("__debug__":Str))=af:=by decide):PD X T Z (.Call (.Name x p) (e::es) [] pos) (fm fn nn m):=
 TQ h hr hk hg hx ha dO (fI (iC kL).1 es X.env) (jA (iC kL).2) hn
theorem VP {n:String}(hT:qw X.K n) (hg:Gl X "isinstance") (hm:X.mg "isinstance"=ag) (wu:Gl X x) (wx:X.mg x=ag) (hv:bootBuiltins x=ae (.type n)) (ha:PD X T Z a ma) (hs:cu a=ah:=by rfl)
 (hn:x ≠ "__name__":=by decide) (dO:(x==("__debug__":Str))=af:=by decide):PD X T Z (.Call (.Name "isinstance" p) [a,.Name x p1] [] pos) (lb n ma):=
 Oo hT hg hm wu wx hv ha hn dO (fI hs _ X.env) (fI zk _ X.env) (jA zk)
theorem TV {g:DG}{q:p4}(h1:pG X T e g) (h2:uE X T es q) (hn:cu e=ah:=by rfl):uE X T (e::es) (fu g q):=Jb h1 h2 (by rw[lh hn];rfl)
theorem VQ {q:p4}{i:Nat}(hc:X.calm=ah) (h:uE X T es q) (kL:pL es=ah:=by rfl) (hn:es.length=nn:=by rfl):pG X T (.Tuple es i pos) (fT nn q):=
 Of hc h ((AH kL).1.trans hn) (AH kL).2
end
open PySem.W
section
variable {a b:au} {p np b9 rp ak5:aG} {body:List cz} {m k:aD} {n:Str} {c i:Nat} {R:ai}
noncomputable def dX:aD:=λ_ _=>.bad
theorem fY:dH X T Z st dX:=λ_ _ _ _ _ _ h=>by
 let#[_,_,_,_,_,h]:=h;show h.elim
end
section
variable {k:Nat} {ps:List Str} {m:aD} {nn kk:Nat}
end
section
variable {a:au} {p p2 uO:aG} {ta:TA} {ks:DE (List W)}
theorem OI {b:au}{y:Str}{px py pt:aG}{kt k2 nV}(i j:Nat) (hc:X.calm=ah) (hN:X.N.Nodup) (ha:ez X T Z [a,b] ks) (hi:X.N[i]?=ae x:=by rfl) (hj:X.N[j]?=ae y:=by rfl) (Er:i≠j:=by decide)
 (hx:X.env.scope.names.lookup x=ae .local:=by rfl) (hy:X.env.scope.names.lookup y=ae .local:=by rfl)
 (hw:swappedStores [.Tuple [.Name x px,.Name y py] kt pt] (.Tuple [a,b] k2 nV) X.env=pure (ae [x,y]):=by rfl)
 (hs:swapsWithSole [.Tuple [.Name x px,.Name y py] kt pt] (.Tuple [a,b] k2 nV) pos.line X.env=pure af:=by rfl) :
 dH X T Z (.Assign [.Tuple [.Name x px,.Name y py] kt pt] (.Tuple [a,b] k2 nV) pos) (kK i j ks):=
 PS.imp (SG hc hN hi hj Er hx hy ha hw hs) λD σ H h=>VA h
end
noncomputable def wH:D->V
 |.aC=>.aC
 |.bl b=>.bl b
 |.int i=>.int i
 |.str x=>.str x
 |_=>.ty ""
noncomputable def nN:D->Bool
 |.aC=>ah
 |.bl _=>ah
 |.int _=>ah
 |.str _=>ah
 |_=>af
def Kz (a b:D):Bool:=tK (wH a)<|wH b
theorem AI {d:D}(f:nN d=ah) (h:Den F d v):v=wH d /\ tJ v=ah:=by
 cases d with
 |aC=>cases (h);show#[rfl,rfl]
 |bl b=>cases (h);show#[rfl,rfl]
 |int i=>cases (h);show#[rfl,rfl]
 |str x=>cases (h);show#[rfl,rfl]
 |_=>cases f
theorem BE:∀ {l:List D}{vs:List V},l.all nN=ah->aH F l vs->vs=l.map wH /\ vs.all tJ=ah:=by
 intro l_;induction l_ with
 |nil=>(intro _ _ h;cases (h);show#[rfl,rfl])
 |cons d l ay=>
   intro _ f h;let#[v,r,e,h1,h2]:=h;subst e;rw[uh,aQ]at f;let#[e1,f1]:=AI f.1 h1;let#[e2,f2]:=ay f.2 h2;subst e1;subst e2;show#[rfl,by rw[uh,f1,f2];rfl]
def nO (x:D) (l:List D):Bool:=l.any λy=>Kz y x
theorem Ga (x:D) (l:List D):IU (wH x) (l.map wH)=nO x l:=by
 unfold IU nO;rw[Xt];rfl
def KA (neg:Bool):D->D->Option Res:=λx y=>match y with
 |.lst l=>if nN x=ah /\ l.all nN=ah then ae (.old<|.bl (if neg then !nO x l else nO x l)) else ag
 |.tup l=>if nN x=ah /\ l.all nN=ah then ae (.old<|.bl (if neg then !nO x l else nO x l)) else ag
 |_=>ag
theorem adB (neg:Bool):cA (IV K neg) (KA neg):=by
 intro F H x y v w Q s sub hx hy e k;unfold KA at e;have fx:∀ {d},nN d=ah->qt F H d v->Den F d v:=λ{d} f h=>by
  cases d with
  |aC=>show h
  |bl b=>show h
  |int i=>show h
  |str z=>show h
  |_=>cases f
 cases y with
 |lst l=>
   simp only at e;split at e
   .ext f;cases e;let#[a,vs,rfl,h1,h2]:=hy;let#[e1,f1]:=AI f.1<|fx f.1 hx;let#[e2,f2]:=BE f.2 h2;subst e1;subst e2;refine#[a,_,rfl,.inl<|bZ.of h1,f1,f2,?_];rw[Ga];show k _ _ #[rfl,rfl]
   .cases e
 |tup l=>
   simp only at e;split at e
   .ext f;cases e;let#[a,vs,rfl,h1,h2]:=hy;let#[e1,f1]:=AI f.1<|fx f.1 hx;let#[e2,f2]:=BE f.2 h2;subst e1;subst e2;refine#[a,_,rfl,.inr<|c9.of<|sub _ _ h1,f1,f2,?_];rw[Ga];show k _ _ #[rfl,rfl]
   .cases e
 |_=>cases e
def KC (neg:Bool):R2:=λx y H Q=>∃ F dx dy,Sub F H /\ qt F H dx x /\ qt F H dy y /\ nK dx=ah /\ nK dy=ah /\ ∃ l,(dy=.lst l \/ dy=.tup l) /\ Q (.bl (if neg then !(l.any λz=>eqv z dx) else l.any λz=>eqv z dx)) H
theorem lH (dx:D):∀ l:List D,((rj l).any λy=>PyData.eqv y<|toPy dx)=l.any λz=>eqv z dx:=by
 intro l_;induction l_ with
 |nil=>show rfl
 |cons z l ay=>
   change (PyData.eqv _ _||_)=_;rw[ay];rfl
theorem TW (hu:X.A.units+100<cLine):bA X (compareOp .In) (KC af):=by
 intro pins s σ H x y v u Q I rx ry h;let#[F,dx,dy,sub,hx,hy,ox,oy,l,hl,q]:=h;let#[as,ra]:=gY I sub hx rx;let#[bs,rb]:=gY I sub hy ry;let#[x1,x2]:=lg ox;let#[y1,y2]:=lg oy;rcases hl with rfl|rfl
 .show SeqAt.in_list_reads rb ra y1 x1 za (by rw[lH];show#[.bl _,H,I,rfl,q])
 .show SeqAt.in_tuple_reads rb ra y1 x1 za (by rw[lH];show#[.bl _,H,I,rfl,q])
theorem Jt (hu:X.A.units+100<cLine):bA X (compareOp .NotIn) (KC ah):=by
 intro pins s σ H x y v u Q I rx ry h;let#[F,dx,dy,sub,hx,hy,ox,oy,l,hl,q]:=h;let#[as,ra]:=gY I sub hx rx;let#[bs,rb]:=gY I sub hy ry;let#[x1,x2]:=lg ox;let#[y1,y2]:=lg oy;rcases hl with rfl|rfl
 .show SeqAt.notIn_list_reads rb ra y1 x1 za (by rw[lH];show#[.bl _,H,I,rfl,q])
 .show SeqAt.notIn_tuple_reads rb ra y1 x1 za (by rw[lH];show#[.bl _,H,I,rfl,q])
def wI (neg:Bool) (x y:D) (l:List D):Option Res:=if nK x&&nK y then ae (.old<|.bl (if neg then !(l.any λz=>eqv z x) else l.any λz=>eqv z x)) else ag
def inD (neg:Bool):D->D->Option Res:=λx y=>match y with
 |.lst l=>if nN x=ah /\ l.all nN=ah then ae (.old<|.bl (if neg then !nO x l else nO x l)) else wI neg x y l
 |.tup l=>if nN x=ah /\ l.all nN=ah then ae (.old<|.bl (if neg then !nO x l else nO x l)) else wI neg x y l
 |_=>ag
theorem okIn (neg:Bool):cA (λx y H Q=>IV K neg x y H Q \/ KC neg x y H Q) (inD neg):=by
 intro F H x y v w Q s sub hx hy e k;have g:∀ l,(y=.lst l \/ y=.tup l)->wI neg x y l=ae s->KC neg v w H Q:=λl hl e=>by
  unfold wI at e;split at e
  .ext c;rw[aQ]at c;cases e;show#[F,x,y,sub,hx,hy,c.1,c.2,l,hl,k _ _ #[rfl,rfl]]
  .cases e
 unfold inD at e;split at e
 .ext l;split at e
  .ext f;show .inl<|adB neg F H x _ v w Q s sub hx hy (by unfold KA;simp only;rw[if_pos f];show e) k
  .show .inr<|g l (.inl zk) e
 .ext l;split at e
  .ext f;show .inl<|adB neg F H x _ v w Q s sub hx hy (by unfold KA;simp only;rw[if_pos f];show e) k
  .show .inr<|g l (.inr zk) e
 .cases e
section
variable {a b o:au} {p:aG}
noncomputable def p9:D->Option Key
 |.int i=>ae<|.inl i
 |.str x=>ae<|.inr x
 |_=>ag
theorem jk {d:D}{k:Key}(e:p9 d=ae k) (h:Den F d v):v=kV k:=by
 cases d with
 |int i=>cases e;show h
 |str x=>cases e;show h
 |_=>cases e
noncomputable def kS (l:List<|Key×D) (k:Key):Option D:=(l.find? λkv=>decide (kv.1=k)).map (·.2)
noncomputable def sy (l:List<|Key×D) (k:Key) (d:D):List (Key×D):=
 if (l.any λkv=>decide (kv.1=k))=ah then l.map (λkv=>if kv.1=k then (kv.1,d) else kv) else l++[(k,d)]
theorem aR.some {F:Hp}{k:Key}{d:D}:∀ {l:List (Key×D)}{vs:List (Key×V)},aR F l vs->kS l k=ae d->∃ v,km vs k=ae v /\ Den F d v
 |[],_,_,e=>by cases e
 | (k',d')::l,_,⟨v,r,e,h1,h2⟩,q=>by
   subst e;by_cases c:k'=k
   .simp[kS,vf,c,]at q;cases q;show#[v,lc c,h1]
   .erw[kS,vf,c]at q;let#[u,e1,e2]:=aR.some h2 q;show#[u,(jy c).trans e1,e2]
theorem aR.none {F:Hp}{k:Key}:∀ {l:List (Key×D)}{vs:List (Key×V)},aR F l vs->kS l k=ag->km vs k=ag
 |[],_,h,_=>by cases (h);rfl
 | (k',d')::l,_,⟨v,r,e,h1,h2⟩,q=>by
   subst e;by_cases c:k'=k
   .erw[kS,vf,c,]at q;cases q
   .erw[kS,vf,c]at q;show(jy c).trans (aR.none h2 q)
theorem aR.any {F:Hp}(k:Key):∀ {l:List (Key×D)}{vs:List (Key×V)},aR F l vs->(l.any λkv=>decide (kv.1=k))=(vs.any λkv=>decide (kv.1=k))
 |[],_,h=>by cases (h);rfl
 |(k',d')::l,_,⟨v,r,e,h1,h2⟩=>by subst e;simp[ve,aR.any k h2]
theorem aR.map {F:Hp}{k:Key}{d:D}{v:V}(hv:Den F d v):∀ {l:List (Key×D)}{vs:List (Key×V)},aR F l vs->aR F (l.map λkv=>if kv.1=k then (kv.1,d) else kv) (vs.map λkv=>if kv.1=k then (kv.1,v) else kv)
 |[],_,h=>by cases (h);show rfl
 | (k',d')::l,_,⟨u,r,e,h1,h2⟩=>by
   subst e;by_cases c:k'=k
   .simp[aM,c];show#[v,_,rfl,hv,aR.map hv h2]
   .simp[aM,c];show#[u,_,rfl,h1,aR.map hv h2]
theorem aR.app {F:Hp}{m:List (Key×D)}{us:List (Key×V)}(hm:aR F m us):∀ {l:List (Key×D)}{vs:List (Key×V)},aR F l vs->aR F (l++m) (vs++us)
 |[],_,h=>by cases (h);show hm
 |(k',d')::l,_,⟨u,r,e,h1,h2⟩=>by subst e;show#[u,_,rfl,h1,aR.app hm h2]
theorem aR.put {k:Key}{d:D}{l:List (Key×D)}{vs:List (Key×V)}(h:aR F l vs) (hv:Den F d v):aR F (sy l k d) (putK vs k v):=by
 unfold sy putK;rw[aR.any k h];split
 .show aR.map hv h
 .show aR.app (show aR F [(k,d)] _ from#[v,[],rfl,hv,rfl]) h
noncomputable def rz (bx:List Bx):W->Option (List<|Key×D)
 |.d (.aB l)=>ae l
 |.b n=>(match bx[n]? with|some (.aB l)=>ae l|some (.fD l)=>ae l|_=>ag)
 |_=>ag
theorem Cb (R:Rel T F r σ H env bx) {w:W}(d:cb F r w v) {l:List (Key×D)}(e:rz bx w=ae l):∃ a ao,v=.ref a /\ Rd H a (.dK ao) /\ aR F l ao:=by
 unfold rz at e;split at e
 .cases e;let#[a,vs,rfl,h1,h2]:=d;show#[a,vs,rfl,.inl<|R.fh _ _ h1,h2]
 .let#[a,rfl,ha]:=d;let#[c,hc,kc]:=R.k6 ha;rw[hc]at e;split at e
  .ext q;cases q;cases e;let#[_,vs,h1,h2]:=kc;show#[a,vs,rfl,.inl h1,h2]
  .ext q;cases q;cases e;let#[o,vs,_,h1,h2]:=kc;show#[a,vs,rfl,.inr #[o,h1],h2]
  .cases e
 .cases e
def dA (m k:DE W):DE W:=λenv bx=>fA (m env bx) λx bx1=>fA (k env bx1) λy bx2=>match y,rz bx2 x with
 |.d d,ae l=>(match (p9 d).bind (kS l) with|some u=>.val (.d u) bx2|none=>.bad)
 |_,_=>.bad
theorem AJ {Q:VK}(h:tD T Z (dA ma mb) σ H Q):YC (tD T Z ma) (tD T Z mb) σ H Q:=by
 let#[F,r,env,bx,R,h]:=h;refine#[F,r,env,bx,R,End.bind h λx bx1 F1 r1 v H1 g1 R1 d1 h1=>#[F1,r1,env,bx1,R1,End.bind h1 λy bx2 F2 r2 u H2 g2 R2 d2 h2=>?_]];split at h2
 .ext d l q;let#[a,ao,rfl,k1,k2]:=Cb R2 (g2.den d1) q;split at h2
  .ext w hw;let#[k,e1,e2]:=Option.bind_eq_some_iff.mp hw;cases jk e1 d2;let#[z,e3,e4]:=aR.some k2 e2;show#[a,z,rfl,e3▸.inl #[_,k,k1,rfl,rfl],h2 F2 r2 _ H2 (.refl F2 r2) R2 e4]
  .show h2.elim
 .show h2.elim
theorem OJ (hu:X.A.units+1<cLine) (ho:PD X T Z o ma) (hi:PD X T Z e mb) (hs:ER e):PD X T Z (.Subscript o e pos) (dA ma mb):=
 PE.imp (FY hu ho hi hs) λσ H Q h=>AJ h
def ni (neg:Bool) (k m:DE W):DE W:=λenv bx=>fA (k env bx) λy bx1=>fA (m env bx1) λx bx2=>match y,rz bx2 x with
 |.d d,ae l=>(match p9 d with|some k=>.val (.d<|.bl (if neg then !(kS l k).isSome else (kS l k).isSome)) bx2|none=>.bad)
 |_,_=>.bad
theorem LW {l:List (Key×D)}{vs:List (Key×V)}(h:aR F l vs) (k:Key):(km vs k).isSome=(kS l k).isSome:=by
 cases q:kS l k with
 |none=>rw[aR.none h q];rfl
 |some d=>let#[v,e,_]:=aR.some h q;rw[e];rfl
theorem Gb {Q:VK}(h:tD T Z (ni af mb ma) σ H Q):YD (tD T Z mb) (tD T Z ma) σ H Q:=by
 let#[F,r,env,bx,R,h]:=h;refine#[F,r,env,bx,R,End.bind h λy bx1 F1 r1 u H1 g1 R1 d1 h1=>#[F1,r1,env,bx1,R1,End.bind h1 λx bx2 F2 r2 v H2 g2 R2 d2 h2=>?_]];split at h2
 .ext d l q;let#[a,ao,rfl,k1,k2]:=Cb R2 d2 q;split at h2
  .ext k e1;cases jk e1 (g2.den d1);refine#[a,_,rfl,.inl #[_,k,k1,rfl,rfl],?_];rw[LW k2];show h2 F2 r2 _ H2 (.refl F2 r2) R2 zk
  .show h2.elim
 .show h2.elim
theorem LX {Q:VK}(h:tD T Z (ni ah mb ma) σ H Q):adg (tD T Z mb) (tD T Z ma) σ H Q:=by
 let#[F,r,env,bx,R,h]:=h;refine#[F,r,env,bx,R,End.bind h λy bx1 F1 r1 u H1 g1 R1 d1 h1=>#[F1,r1,env,bx1,R1,End.bind h1 λx bx2 F2 r2 v H2 g2 R2 d2 h2=>?_]];split at h2
 .ext d l q;let#[a,ao,rfl,k1,k2]:=Cb R2 d2 q;split at h2
  .ext k e1;cases jk e1 (g2.den d1);refine#[a,_,rfl,.inl #[_,k,k1,rfl,rfl],?_];rw[LW k2];show h2 F2 r2 _ H2 (.refl F2 r2) R2 zk
  .show h2.elim
 .show h2.elim
theorem TX (hu:X.A.units+1<cLine) (hi:PD X T Z e mb) (ho:PD X T Z o ma) (hm:behindInMarks .In o=af):PD X T Z (.Compare e [.In] [o] pos) (ni af mb ma):=
 PE.imp (Am (B8 hu hi ho) hm) λσ H Q h=>Gb h
theorem OK (hu:X.A.units+1<cLine) (hi:PD X T Z e mb) (ho:PD X T Z o ma) (hm:behindInMarks .NotIn o=af):PD X T Z (.Compare e [.NotIn] [o] pos) (ni ah mb ma):=
 PE.imp (Am (Bz hu hi ho) hm) λσ H Q h=>LX h
def pM (m k v:DE W):aD:=λenv bx=>bW (v env bx) λz bx1=>bW (m env bx1) λx bx2=>bW (k env bx2) λy cM=>match x,y,z with
 | .b n,.d d,.d u=>(match cM[n]?,p9 d with
   |some (.aB l),ae k=>if l.length<sizeLine then .nx env (cM.set n<|.aB<|sy l k u) else .bad
   |_,_=>.bad)
 |_,_,_=>.bad
theorem VR {D:Ends}(h:tS T Z (pM ma mb mc) D σ H):adh (tD T Z ma) (tD T Z mb) (tD T Z mc) D σ H:=by
 let#[F,r,env,bx,R,h]:=h;refine#[F,r,env,bx,R,End.bW h λz bx1 F1 r1 t H1 g1 R1 d1 h1=>#[F1,r1,env,bx1,R1,End.bW h1 λx bx2 F2 r2 v H2 g2 R2 d2 h2=>#[F2,r2,env,bx2,R2,End.bW h2 λy cM F3 r3 u H3 g3 R3 d3 h3=>?_]]];split at h3
 .let#[a,rfl,ha]:=(g3.den d2);let#[c,hc,kc]:=R3.k6 ha;rw[hc]at h3;split at h3
  .ext l k e1 e2;cases e1;split at h3
   .ext hl;let#[hF,ao,k1,k2]:=kc;cases jk e2 d3;show#[a,_,rfl,.inl #[ao,k,k1,rfl,by rw[<-aR.length k2];show hl,rfl],h3 F3 r3 _ _ (.refl F3 r3)<|R3.write ha hF #[hF,_,fF,aR.put k2<|g3.den<|g2.den d1]]
   .show h3.elim
  .show h3.elim
 .show h3.elim
theorem LY {value:au}(hu:X.A.units+1<cLine) (ho:PD X T Z o ma) (hi:PD X T Z e mb) (hv:PD X T Z value mc) (hs:swapsWith value (ae<|.Subscript o e pos') pos.line X.env=pure af:=by rfl) :
 dH X T Z (.Assign [.Subscript o e pos'] value pos) (pM ma mb mc):=
 PS.imp (Ow hu ho hi hv hs) λD σ H h=>VR h
end
end L2.DL
namespace L2
end L2
namespace L2.DL
section
variable {a:au} {p tp:aG} {elts:List au} {kt:Nat} {k:DE (List W)}
theorem LZ {a b:au}{ks:DE (List W)}{y:Str}{px py pt:aG}{kt k2 nV}(i j:Nat) (hc:X.calm=ah) (hN:X.N.Nodup) (ha:ez X T Z [a,b] ks) (hi:X.N[i]?=ae x:=by rfl) (hj:X.N[j]?=ae y:=by rfl)
 (hx:Loc X.env.scope x:=by first|show Or.inl zk|show Or.inr zk) (hy:Loc X.env.scope y:=by first|show Or.inl zk|show Or.inr zk)
 (ahJ:X.fn x=ah \/ X.env.scope.names.lookup x=ae .local:=by first|show .inl zk|show .inr zk) (ahK:X.fn y=ah \/ X.env.scope.names.lookup y=ae .local:=by first|show .inl zk|show .inr zk)
 (hs:swapsWithSole [.Tuple [.Name x px,.Name y py] kt pt] (.Tuple [a,b] k2 nV) pos.line X.env=pure af:=by rfl)
 (hw:swappedStores [.Tuple [.Name x px,.Name y py] kt pt] (.Tuple [a,b] k2 nV) X.env=pure ag:=by rfl)
 (h0:(assignEach [.Tuple [.Name x px,.Name y py] kt pt] X.env).map (·.2)=[assign (.Tuple [.Name x px,.Name y py] kt pt) X.env]:=by rfl)
 (h1:(assignEach [.Name x px,.Name y py] X.env).map (·.2)=assign (.Name x px) X.env::(assignEach [.Name y py] X.env).map (·.2):=by rfl)
 (h2:(assignEach [.Name y py] X.env).map (·.2)=assign (.Name y py) X.env::(assignEach [] X.env).map (·.2):=by rfl)
 (hn:(assignEach [.Name x px,.Name y py] X.env).length=2:=by rfl) (Ep:(assignEach [.Name x px,.Name y py] X.env).findIdx? (·.1)=ag:=by rfl) :
 dH X T Z (.Assign [.Tuple [.Name x px,.Name y py] kt pt] (.Tuple [a,b] k2 nV) pos) (kK i j ks):=by
 refine PS.imp (Lb (Lh ha) (La hc (Ao (B0 hN hi hx ahJ) (Ao (B0 hN hj hy ahK) FK h2) h1) hn Ep) hs hw h0) λD σ H=>x4 λF r env bx R h=>?_;refine#[F,r,env,bx,R,End.bW h λws bx1 F1 r1 vs H1 g1 R1 d1 h1=>?_];split at h1
 .let#[v,t,rfl,q1,u,t2,rfl,q2,q3]:=d1;cases (q3);refine#[by change 2<=sizeLine;decide,λp hp=>?_];have gr:=R1.tU (o:=.tup [v,u]) hp;show#[p,[v,u],rfl,c9.of fF,rfl,v,[u],rfl,u,[],rfl,rfl,h1 _ r1 _ _ gr<|((R1.wm hp).set (gr.den q1) i).set (gr.den q2) j]
 .show h1.elim
end
def adC (K:PySem.W.Frag) (vs:List V) (H:Hp) (Q:VK):zw:=∃ (p:ai) (bs:List Bool),vs=[.ref p] /\ H p=ae (.lst<|bs.map V.bl) /\ Q (.bl<|bs.any id) H
theorem m8 (bs:List Bool):((List.range bs.length).any λi=>(bs[i]?).getD af)=bs.any id:=by
 rw[nT,qi,qi];constructor
 .rintro⟨i,m,h⟩;have hi:=List.mem_range.mp m;rw[dj hi]at h;show#[bs[i],ph hi,h]
 .rintro⟨b,m,h⟩;let#[i,hi,e]:=List.mem_iff_getElem.mp m;show#[i,List.mem_range.mpr hi,by rw[dj hi,e];show h]
theorem Ju (hc:X.calm=ah):hG X (.builtin "any") (adC X.K):=by
 intro pins s σ H xs us Q I rv h;let#[p,bs,rfl,hp,q]:=h;let#[u,rfl,ru]:=Vals.one rv;cases ru;let#[its,r1,p1,z1]:=I.list<|bZ.of hp;have hl:=p1.isList;have hlen:bs.length=its.length:=by have:=r1.length;simpa using this
 refine call_any_walk<|xg hl ?_
 refine#[s.heap.objs.size,[s.heap.objs.size,p],[s.heap.objs.size],its.toArray.size,_,_,λi=>(bs[i]?).getD af,rfl,Walks.list (A:=X.A.in1) (I.ok.hd hc) _ p (bC (by let#[_,e,_]:=hl;show bh e)) its.toArray,
  #[#[_,bE _ zk,rfl,rfl],hl.push _],λi v s' Q' E' hP hQ=>?_,λh' tk hk=>?_]
 .have EN:its[i]?=ae v:=by simpa using hP
  have hi:i<bs.length:=by rw[hlen];show(List.getElem?_eq_some_iff.mp EN).1
  let#[w,e1,e2]:=r1.get (i:=i) (x:=V.bl bs[i]) zf;rw[EN]at e1;cases e1;cases e2;simp[dj hi]at hQ;show qK hQ
 .have e:((List.range its.toArray.size).any λi=>(bs[i]?).getD af)=bs.any id:=by
   rw[cC,<-hlen];show m8 bs
  rw[e];show#[.bl _,H,I.kept<|abT hk,rfl,q]
def He:List D->Option Res
 |[.lst l]=>(qx l).map λbs=>.old<|.bl<|bs.any id
 |_=>ag
theorem ahL:k8 (adC K) He:=by
 intro F H xs vs Q s sub rx e k;unfold He at e;split at e
 .ext l;let#[v,t,rfl,#[a,us,rfl,h1,h2],rt]:=rx;cases (rt);cases e1:qx l with
  |none=>rw[e1]at e;cases e
  |some bs=>
    rw[e1]at e;cases e;have q1:=h2.YB e1;subst q1;show#[a,bs,rfl,h1,k _ _ #[rfl,rfl]]
 .cases e
section
variable {a:au} 
def nj (neg:Bool) (m:DE W):DE W:=λenv bx=>fA (m env bx) λx bx1=>match x with
 |.d d=>.val (.d<|.bl (match d with|.aC=>!neg|_=>neg)) bx1
 |_=>.bad
theorem Aa {d:D}(h:Den F d v):decide (v=.aC)=(match d with|.aC=>ah|_=>af):=by
 cases d with
 |aC=>cases (h);rfl
 |bl b=>cases (h);rfl
 |int i=>cases (show v=.int i from h);rfl
 |str x=>cases (show v=.str x from h);rfl
 |tup l=>let#[a,vs,rfl,_]:=h;rfl
 |lst l=>let#[a,vs,rfl,_]:=h;rfl
 |aB l=>let#[a,vs,rfl,_]:=h;rfl
theorem TY {j pos'}(ha:PD X T Z a ma):PD X T Z (.Compare a [.Is] [.Constant .none j pos'] pos) (nj af ma):=by
 refine PE.imp (Am<|J6 ha) λσ H Q=>x4 λF r env bx R h=>?_;refine#[F,r,env,bx,R,End.bind h λx bx1 F1 r1 v H1 g1 R1 d1 h1=>?_];cases x with
 |d d=>
   rw[Aa<|d1];cases d<;>show h1 F1 r1 _ H1 (.refl F1 r1) R1 zk
 |_=>show h1.elim
theorem OL {j pos'}(ha:PD X T Z a ma):PD X T Z (.Compare a [.IsNot] [.Constant .none j pos'] pos) (nj ah ma):=by
 refine PE.imp (Am<|FJ ha) λσ H Q=>x4 λF r env bx R h=>?_;refine#[F,r,env,bx,R,End.bind h λx bx1 F1 r1 v H1 g1 R1 d1 h1=>?_];cases x with
 |d d=>
   rw[Aa<|d1];cases d<;>show h1 F1 r1 _ H1 (.refl F1 r1) R1 zk
 |_=>show h1.elim
end
end L2.DL
namespace HT
open PySem.W
abbrev Kp (h h':aJ):zw:=∀ b o,h.get? b=ae o->h'.get? b=ae o
section
variable {s:aq} {l I S:ai} {nm:String} 
section
variable {kf:Nat -> Int} (hh:A.handled = ag) (hl:s.heap.IsList l vs.toArray) (ahM:l ≠ I) (ahN:S ≠ I) (ahO:s.heap.get? S = ag) (ahP:s.heap.get? I = ag)
include hh hl ahM ahN ahO ahP
end
end
end HT
namespace L2
open PySem.W
section
variable {a:au} {p q kp:aG} {t:TA}
end
end L2
namespace L2.DL
open PySem.W
section
variable {a:au} {p q kp:aG} {m:DE (List W)}
end
end L2.DL
namespace HT
open PySem.W
section
variable {s:aq} {t:ai} 
noncomputable abbrev dist (ns:List Int):List Int:=firstMet (λi=>ns.getD i 0) ns.length
end
end HT
namespace L2
open PySem.W
section
variable {a:au} {p p2 uO:aG} {t:TA}
theorem l5:∀ {ns:List Int}{us:List aj},Vals (ns.map V.int) us->IntsAre us ns
 |[],_,.nil=>.nil
 | n::ns,_,.cons r q=>by
   let#[t,rfl]:=r;show .cons n t<|l5 q
end
end L2
namespace L2.DL
open PySem.W
section
variable {a:au} {p p2 uO:aG} {m:DE (List W)}
end
end L2.DL
namespace HT
open PySem.W
abbrev sC (xs:Array Nat):zw:=xs.toList.Pairwise (·<·)
theorem Ab {xs:Array Nat}(h:sC xs) {i x y:Nat}(hi:xs[i]?=ae x) (hj:xs[j]?=ae y) (l:i<j):x<y:=by
 let#[a,rfl]:=List.getElem?_eq_some_iff.mp (by rw[sV];show hi);let#[b,rfl]:=List.getElem?_eq_some_iff.mp (by rw[sV];show hj);show List.pairwise_iff_getElem.mp h i j a b l
theorem L0 {xs:Array Nat}(h:sC xs) (j:Nat):∀ (f lo hi:Nat),hi-lo<=f->lo<=hi->hi<=xs.size->(∀ i x,i<lo->xs[i]?=ae x->x<j)->(∀ i x,hi<=i->xs[i]?=ae x->j<=x) ->
 SetTable.below.go xs j f lo hi<=xs.size /\ (∀ i x,i<SetTable.below.go xs j f lo hi->xs[i]?=ae x->x<j) /\ ∀ i x,SetTable.below.go xs j f lo hi<=i->xs[i]?=ae x->j<=x:=by
 intro l_;induction l_ with
 |zero=>
   intro lo hi hf hl hh h1 h2;have:lo=hi:=by lia
   subst this;show#[hh,h1,h2]
 |succ f ay=>
   intro lo hi hf hl hh h1 h2;rw[SetTable.below.go];by_cases c:lo<hi
   .rw[if_pos c];have hm:(lo+hi) / 2<xs.size:=by lia
    have em:xs[(lo+hi) / 2]?=ae xs[(lo+hi) / 2]:=by simp
    have eg:xs.getD ((lo+hi) / 2) j=xs[(lo+hi) / 2]:=by simp[hm]
    simp[eg];by_cases q:xs[(lo+hi) / 2]<j
    .simp[if_pos q];refine ay _ hi za za hh (λi x wG e=>?_) h2;by_cases z:i<(lo+hi) / 2
     .have:=Ab h e em z;lia
     .have:i=(lo+hi) / 2:=by lia
      subst this;rw[em]at e;cases e;show q
    .simp[if_neg q];refine ay lo _ za za za h1 λi x wG e=>?_;by_cases z:i=(lo+hi) / 2
     .subst z;rw[em]at e;cases e;lia
     .have:=Ab h em e za;lia
   .rw[if_neg c];have:lo=hi:=by lia
    subst this;show#[hh,h1,h2]
theorem l6 {xs:Array Nat}(h:sC xs) (j:Nat):SetTable.below xs j<=xs.size /\ (∀ i x,i<SetTable.below xs j->xs[i]?=ae x->x<j) /\ ∀ i x,SetTable.below xs j<=i->xs[i]?=ae x->j<=x:=
 L0 h j xs.size 0 xs.size za (cJ _) (aI _) (λi x hi=>absurd hi<|HL _) λi x hi e=>by
  have:=(Array.getElem?_eq_some_iff.mp e).1;lia
theorem AK {xs:Array Nat}(h:sC xs) {i x:Nat}(e:xs[i]?=ae x):SetTable.below xs (x+1)=i+1:=by
 let#[b1,b2,b3]:=l6 h _;have h1:¬ SetTable.below xs (x+1)<=i:=λz=>by
  have:=b3 i x z e;lia
 have h2:¬ i+1<SetTable.below xs (x+1):=λz=>by
  have el:xs[i+1]?=ae xs[i+1]:=by
   simp
  have a:=b2 _ _ z el;have b:=Ab h e el<|vc i;lia
 lia
theorem AL {xs:Array Nat}(h:sC xs):SetTable.below xs 0=0:=by
 let#[b1,b2,b3]:=l6 h 0;apply Classical.byContradiction;intro z;have el:xs[0]?=ae xs[0]:=by simp
 have:=b2 0 _ za el;lia
theorem oY (xs:Array α) (p:Nat) (x:α):(SetTable.insertAt xs p x).toList=xs.toList.take p++x::xs.toList.drop p:=by
 unfold SetTable.insertAt;rw[XF,XG,abl,abl];simp[eD,List.singleton_append];congr 2;show HU zf
theorem L1 {xs:Array Nat}(h:sC xs) (hn:xs[SetTable.below xs j]?≠ae j):sC (SetTable.insertAt xs (SetTable.below xs j) j):=by
 let#[b1,b2,b3]:=l6 h j;unfold sC;rw[oY];have vw:∀ x∈xs.toList.take (SetTable.below xs j),x<j:=λx m=>by
  let#[i,hi,e]:=aaK m;rw[yZ]at hi;refine b2 i x za ?_;rw[<-sV,<-e,List.getElem_take];show dj za
 have adD:∀ x∈xs.toList.drop _,j<x:=λx m=>by
  let#[i,hi,e]:=aaK m;rw[HP]at hi;have ex:xs[SetTable.below xs j+i]?=ae x:=by
   rw[<-sV,<-e,List.getElem_drop];show dj za
  have:=b3 _ x (xl _ _) ex;have ne:x≠j:=λz=>by
   subst z;cases i with
   |zero=>show hn ex
   |succ i=>
     have lt:SetTable.below xs x<xs.size:=by
      have:=(Array.getElem?_eq_some_iff.mp ex).1;lia
     have el:xs[SetTable.below xs x]?=ae xs[SetTable.below xs x]:=by simp
     have a:=b3 _ _ (aI _) el;have b:=Ab h el ex za;lia
  lia
 rw[xA];refine#[h.sublist<|aaB _ _,nS.mpr #[adD,h.sublist<|List.drop_sublist _ _],λa ma b mb=>?_];have:=vw a ma;rcases aZ.mp mb with rfl|mb
 .show this
 .have:=adD b mb;lia
theorem Fb (n:Nat):sC (Array.range n):=by
 unfold sC;rw[Array.toList_range];show aaL
def Hf (t:SetTable) (j:Nat):zw:=t.place[SetTable.below t.place j]?≠ae j
theorem C0 (h:∀ i,t.slot j≠.live i):Hf t j:=λe=>by
 refine h (SetTable.below t.place j) ?_;unfold SetTable.slot;simp[e]
theorem L3 {ha:Nat->Int}{h:Int}:∀ (f:Nat) (p:SetTable.Probe) {j:Nat}{d:Option Nat},(∀ z,p.dummy=ae z->Hf t z)->SetTable.probe.go t ha h f p=ae (.empty j d)->Hf t j /\ ∀ z,d=ae z->Hf t z:=by
 intro l_;induction l_ with
 |zero=>(intro p j d _ e;cases e)
 |succ f ay=>
   intro p j d hp e;rw[SetTable.probe.go]at e;split at e
   .ext q;cases e;show#[C0 (λi z=>by rw[q]at z;cases z),hp]
   .ext q;refine ay _ (λz hz=>?_) e;have:(t.advance { p with dummy:=ae p.j }).dummy=ae p.j:=by
     unfold SetTable.advance;split<;>rfl
    rw[this]at hz;cases hz;show C0 λi z=>by rw[q]at z;cases z
   .split at e
    .cases e
    .refine ay _ (λz hz=>?_) e;have:(t.advance p).dummy=p.dummy:=by
      unfold SetTable.advance;split<;>rfl
     rw[this]at hz;show hp z hz
theorem L4 {h:Int}{b:Bool}(e:t.freeSlot h=ae (j,b)):Hf t j:=by
 unfold SetTable.freeSlot at e;split at e
 .ext j' d q;let#[a,c]:=L3 _ _ (by intro z hz;cases hz) q;cases d with
  |none=>cases e;show a
  |some z=>cases e;show c z zk
 .cases e
structure kM (ahQ:Bool) (t:SetTable):zw where
 r:sC t.place
 l:ahQ=af->t.led=ah
theorem kM.KD {b:Bool}(h:kM b t) (n:Nat):kM b (t.standIn n):=#[Fb n,h.l]
theorem kM.lay {b:Bool}(h:kM b t) (es:Array<|Int×aj) (k:Int) (x:aj):kM b (layNew t es k x).2.1:=by
 unfold layNew;cases e:t.freeSlot k with
 |none=>show h.KD _
 |some p=>
   let#[j,d]:=p;change kM b ((t.put j).1.orStandIn _);have hp:kM b (t.put j).1:=#[L1 h.r<|L4 e,h.l];unfold SetTable.orStandIn;split
   .show hp
   .show hp.KD _
theorem kM.plain {b:Bool}{t:SetTable}(h:kM b t) (p:Bool):kM b { t with plain:=p }:=#[h.r,h.l]
theorem Jv (f:Nat->Option Nat):∀ l:List Nat,l.Pairwise (·<·)->(((l.filterMap λj=>(f j).map (j,·)).map (·.1))).Pairwise (·<·):=by
 intro l_;induction l_ with
 |nil=>show λ_=>.nil
 |cons j l ay=>
   intro h;let#[h1,h2]:=nS.mp h;have ih:=ay h2;rw[eW];cases e:f j with
   |none=>show ih
   |some z=>
     refine nS.mpr #[λa ma=>?_,ih];let#[p,mp,rfl]:=aK.mp ma;let#[i,mi,ei]:=List.mem_filterMap.mp mp;cases q:f i with
     |none=>rw[q]at ei;cases ei
     |some w=>
       rw[q]at ei;cases ei;show h1 i mi
theorem kM.ahR {b:Bool}(h:kM b t) (es:Array<|Int×aj) (n:Nat):kM b (relayAll t es n).2.1:=by
 unfold relayAll;cases e:t.relaid _ n with
 |none=>show h.KD _
 |some p=>
   let#[t',o]:=p;have ht:kM b t':=by
    unfold SetTable.relaid SetTable.laid at e;cases q:SetTable.layClean _ _ with
    |none=>rw[q]at e;cases e
    |some ow=>
      rw[q]at e;cases e;show#[Jv _ _ aaL,h.l]
   change kM b (if (coversAll o es.size&&t'.fits (o.filterMap _).size)=ah then (o.filterMap _,t',af) else (es,t.standIn es.size,ah)).2.1;split
   .show ht
   .show h.KD _
section
variable {s:aq}
structure eK (prog:dE) (w:bY) (b:Bool) (o:bj) (ns:List Int) (es:Array<|Int×aj) (ep:Nat) (t:SetTable) (ms:List Int):zw where
 x:o.ExactSet
 d:o.data=.set es ep t
 el:ElemsOf (intKind prog w) es.toList
 bd:es.size<scanBound
 ft:t.fits es.size=ah
 ok:kM b t
 vs:IntsAre (es.toList.map (·.2)) ms
 pm:ms.Perm ns
def rC (prog:dE) (w:bY) (b:Bool) (h:aJ) (a:ai) (ns:List Int):zw:=∃ o es ep t ms,h.get? a=ae o /\ eK prog w b o ns es ep t ms
theorem oQ:∀ {vs:List aj}{ms:List Int},IntsAre vs ms->∀ k:Int,k∈ms ↔ ∃ v∈vs,(intKind prog w).is k v=ah
 |_,_,.nil,k=>by simp
 | _,_,.cons n t h,k=>by
   have e:(intKind prog w).is k (.int n t)=ah ↔ k=n:=by
    constructor
    .intro z;show(intKind prog w).inj _ k n z (yX prog w n t)
    .rintro rfl;show yX prog w k t
   rw[aZ,(oQ h k)];constructor
   .rintro(z|⟨v,mv,ev⟩)
    .show#[_,bw ..,e.mpr z]
    .show#[v,bG _ mv,ev]
   .rintro⟨v,mv,ev⟩;rcases aZ.mp mv with rfl|mv
    .show .inl<|e.mp ev
    .show .inr #[v,mv,ev]
theorem eK.mem {b:Bool}{ms:List Int}{es:Array (Int×aj)}(S:eK prog w b o ns es ep t ms) (k:Int):k∈ns ↔ ∃ e∈es.toList,(intKind prog w).is k e.2=ah:=by
 rw[<-S.pm.mem_iff,oQ S.vs k];constructor
 .rintro⟨v,mv,ev⟩;let#[e,me,rfl]:=aK.mp mv;show#[e,me,ev]
 .rintro⟨e,me,ev⟩;show#[e.2,aK.mpr #[e,me,rfl],ev]
theorem eK.len {b:Bool}{ms:List Int}{es:Array (Int×aj)}(S:eK prog w b o ns es ep t ms):es.size=ns.length:=by
 rw[<-S.pm.length_eq,<-S.vs.length,aV,pB]
theorem jK:∀ {vs us:List aj},us.Perm vs->∀ {ms:List Int},IntsAre vs ms->∃ ks,IntsAre us ks /\ ks.Perm ms:=by
 intro vs us p;induction p with
 |nil=>intro ms h;show#[ms,h,.refl _]
 |cons x p ih=>
   intro ms h;cases h with
   |cons n t h=>
     let#[ks,a,c]:=ih h;show#[n::ks,.cons n t a,c.cons n]
 |swap x y l=>
   intro ms h;cases h with
   |cons n t h=>
     cases h with
     |cons m u h=>show#[_,.cons m u<|.cons n t h,.swap ..]
 |trans p q E9 Hb=>
   intro ms h;let#[ks,a,c]:=Hb h;let#[js,a',c']:=E9 a;show#[js,a',c'.trans c]
theorem mM:∀ {vs:List aj}{ms:List Int},IntsAre vs ms->∀ (i:Int) (t:Tok),IntsAre (vs++[.int i t]) (ms++[i])
 |_,_,.nil,i,t=>.cons i t .nil
 |_,_,.cons n u h,i,t=>.cons n u<|mM h i t
theorem eK.anew {b:Bool}{ms:List Int}{es:Array (Int×aj)}(S:eK prog w b o ns es ep t ms) {es':Array (Int×aj)}{t':SetTable}(sY:Nat) (p:es'.toList.Perm es.toList) (f:t'.fits es'.size=ah) (k:kM b t') :
 ∃ YM,eK prog w b { o with data:=.set es' sY t' } ns es' sY t' YM:=by
 let#[ks,a,c]:=jK (p.map _) S.vs;have z:es'.size=es.size:=by rw[<-pB,p.length_eq,pB]
 show#[ks,S.x,rfl,S.el.perm p,by rw[z];show S.bd,f,k,a,c.trans S.pm]
theorem eK.more {b:Bool}{ms:List Int}{es:Array (Int×aj)}(S:eK prog w b o ns es ep t ms) (i:Int) (u:Tok) {es':Array (Int×aj)}{t':SetTable}(sY:Nat) (hb:es.size+1<scanBound)
 (p:es'.toList.Perm<|es.toList++[((intKind prog w).hash i,.int i u)]) (f:t'.fits es'.size=ah) (k:kM b t'):∃ YM,eK prog w b { o with data:=.set es' sY t' } (ns++[i]) es' sY t' YM:=by
 have q:(es.toList++[((intKind prog w).hash i,Value.int i u)]).map (·.2)=es.toList.map (·.2)++[Value.int i u]:=by simp
 let#[ks,a,c]:=jK (us:=es'.toList.map _) (q▸p.map _)<|mM S.vs i u;have z:es'.size=es.size+1:=by rw[<-pB,p.length_eq,cB,pB,aaE]
 show#[ks,S.x,rfl,(S.el.push (yX prog w i u) zk).perm p,by rw[z];show hb,f,k,a,c.trans<|S.pm.append_right _]
theorem stored {es es':Array (Int×aj)}{t':SetTable}(ho:s.heap.get? a=ae o) (hd:o.data=.set es ep t):(s.heap.update a<|Obj.putSet es' t').get? a=ae { o with data:=.set es' (ep+1) t' }:=by
 have z:=sR (Obj.putSet es' t') ho (by rw[putSet_of es' t' hd];rfl)
 rwa [putSet_of es' t' hd]at z
theorem BF {b:Bool}{ms:List Int}{es eC:Array (Int×aj)}{t1:SetTable}{wd:Bool}{R:Option Bool->aq->zw}{g:Bool->Sem Unit}(hg:∀ (z:Bool) (s1:aq) (Q:Unit->aq->zw),Q () s1->wpAny zd A (g z) Q E s1)
 (ho:s.heap.get? a=ae o) (hd:o.data=.set es ep t) (S:eK prog w b { o with data:=.set eC (ep+1) t1 } ns eC (ep+1) t1 ms)
 (h:∀ h',Heap.SameBut a s.heap h'->rC prog w b h' a ns->R (ae ah) { s with heap:=h' }) :
 wpAny zd A (do
  storeSet a eC t1
  if (!wd&&t1.tooFull)=ah then do
   g (relayAll t1 eC<|SetTable.grown eC.size).2.2
   storeSet a (relayAll t1 eC<|SetTable.grown eC.size).1 (relayAll t1 eC<|SetTable.grown eC.size).2.1
   pure (ae ah)
  else pure (ae ah)) R E s:=by
 have g1:=stored (es':=eC) (t':=t1) ho hd;have sb:=Heap.SameBut.update s.heap a<|Obj.putSet eC t1;refine ak<|aag ho hd ?_<|Xd S.bd;by_cases c:(!wd&&t1.tooFull)=ah
 .rw[if_pos c];have kp:=relayAll_perm t1 eC<|SetTable.grown eC.size;let#[ahS,S2]:=S.anew _ kp (relayAll_fits t1 eC _)<|S.ok.ahR eC _;have z2:(relayAll t1 eC<|SetTable.grown eC.size).1.size=eC.size:=by rw[<-pB,kp.length_eq,pB]
  show ak<|hg _ _ _<|ak<|aag g1 zk (az<|h _ (sb.trans<|Heap.SameBut.update _ a _) #[_,_,_,_,ahS,(stored (s:={ s with heap:=s.heap.update a _ }) (es':=(relayAll t1 eC _).1) (t':=(relayAll t1 eC _).2.1) g1 zk),S2])<|Xd (by rw[z2];show S.bd)
 .rw[if_neg c];show az<|h _ sb #[_,_,_,_,ms,g1,S]
end
section
variable {s:aq}
theorem add_int {b:Bool}{i:Int}{u:Tok}{Q:Bool->aq->zw}(S:rC prog w b s.heap a ns) (hb:ns.length+1<scanBound)
 (h:∀ z h',Heap.SameBut a s.heap h'->rC prog w b h' a (nU ns i)->Q z { s with heap:=h' }):wpAny zd A (setAddHashed a (.int i u)<|(intKind prog w).hash i) Q E s:=by
 have sc:(Value.int i u).scannable=ah:=rfl;let#[o,es,ep,t,ms,ho,S]:=S;have hl:=S.len;refine dS ?_;refine ak<|vR ho S.d S.ft ?_;change wpAny _ _ (if byScan _ es=ah then _ else _) _ _ _;rw[if_pos<|byScan_of sc S.bd S.el];refine ak<|ak<|pQ<|ak<|wpAny_setScan_of (yX prog w i u) ho S.d S.ft S.el ?_;have gw:∀ (z) (s1) (Q1),Q1 () s1->wpAny zd A (match z with|true=>rule "set.scan.the-table-gave-way"|false=>pure ()) Q1 E s1:=by
  intro z s1 Q1 q;cases z
  .show az q
  .show pQ q
 cases fd:List.findIdx? _ es.toList with
 |some j=>
   let#[hj,pj,_]:=List.findIdx?_eq_some_iff_getElem.mp fd;have e1:nU ns i=ns:=by
    unfold nU;rw[if_pos (qi.mpr #[i,((S.mem i).mpr #[_,ph hj,pj]),by simp])]
   refine az<|az ?_;have:=h af s.heap (Heap.SameBut.refl a s.heap) (by rw[e1];show#[o,es,ep,t,ms,ho,S]);show this
 |none=>
   have e1:nU ns i=ns++[i]:=by
    unfold nU;rw[if_neg];intro z;let#[k,mk,ek]:=qi.mp z;have:k=i:=by simpa using ek
    show(λz=>by
    let#[e,me,pe]:=(S.mem i).mp z;have:=List.findIdx?_eq_none_iff.mp fd e me;rw[pe]at this;cases this) (this▸mk)
   have lp:=layNew_perm t es ((intKind prog w).hash i)<|.int i u;have lf:=layNew_fits t es ((intKind prog w).hash i)<|.int i u;have lk:=S.ok.lay es ((intKind prog w).hash i)<|.int i u;rw[XG]at lp;dsimp only;generalize layNew t es _ _=L at lp lf lk ⊢;let#[eC,t1,wd,gv]:=L;dsimp only at lp lf lk ⊢;have fin:∀ h',Heap.SameBut a s.heap h'->rC prog w b h' a _->wpAny zd A _ Q E { s with heap:=h' }:=λh' sb si=>az<|h ah h' sb (by rw[e1];show si);refine ak<|gw _ _ _ ?_;by_cases cp:t1.plain=ah
   .rw[if_pos cp,hashByValue_scannable 8 sc];refine ak<|az ?_;have tk:kM b (if plainKind (.int i u)=ah then t1 else { t1 with plain:=af }):=by
     split
     .show lk
     .show lk.plain _
    have tf:(if plainKind (.int i u)=ah then t1 else { t1 with plain:=af }).fits eC.size=ah:=by
     split
     .show lf
     .show afN lf
    let#[ahT,S1]:=S.more i u (ep+1) za lp tf tk;show BF gw ho S.d S1 λh' sb si=>fin h' sb si
   .rw[if_neg cp];refine ak<|az ?_;let#[ahT,S1]:=S.more i u (ep+1) za lp lf lk;change wpAny _ _ (do
     storeSet a eC t1
     if (!wd&&t1.tooFull)=ah then _ else _) _ _ _
    show BF gw ho S.d S1 λh' sb si=>fin h' sb si
end
section
variable {s:aq}
noncomputable abbrev cQ (w:bY):Bool:=w.params.followText "set-order"
abbrev sD (w:bY):bj:={ cls:=.type "set",dict:=ag,data:=.set #[] 0 (.fresh 0 0<|!cQ w) }
theorem OM (e:h.get? a=ae (sD w)):rC prog w (cQ w) h a []:=
 #[_,#[],0,_,[],e,#[#[rfl,rfl,rfl],rfl,λe m=>by simp at m,by decide,rfl,#[.nil,λz=>by rw[z];rfl],.nil,.refl _]]
theorem rC.at {b:Bool}(S:rC prog w b h a ns) (k:∀ o,h.get? a=ae o->h'.get? a=ae o):rC prog w b h' a ns:=by
 let#[o,es,ep,t,ms,ho,S]:=S;show#[o,es,ep,t,ms,k o ho,S]
theorem ON (a:aj) (h:Q (.ref s.heap.objs.size) { s with heap:=s.heap.push (sD w) }):codeAny zd A (.call (.builtin "set.__new__") #[[.type "set",a],[]]) (wants Q E) s:=by
 refine aah<|ak<|yT (F.newCall_set_1 a)<|az #[u6 F.plain_set_new _,qL F.entry_set_new ?_];have ss:=aai;unfold Builtin.«set.__new__» Builtin.Frozenset.newClass
 wp_walk
 refine u7<|az<|ak<|aac<|az<|az h
variable {I:ai} {wr:List ai} {G:Array GenState -> Array GenState -> zw} {P:Nat -> aj -> zw} {St:Nat -> aq -> zw} {b:Bool}
theorem Jw (W:WalksS prog w A.in1 I fp wr G n P St) (ha:a∉fp) (val:Nat->Int) (hv:∀ i v,P i v->∃ t,v=.int (val i) t) (hb:n+1<scanBound) :
 ∀ (k i:Nat) (s:aq),n=i+k->St i s->rC prog w b s.heap a (firstMet val i)->(∀ s',Moved (a::wr) G s s'->rC prog w b s'.heap a (firstMet val n)->R (.ok<|.ret .none) s') ->
  codeAny zd A (.builtin "set.update.loop" #[[.ref a,.ref I],[]]) R s:=by
 have aw:=λz=>ha<|W.sub _ z;have su:∀ c∈wr,c∈a::wr:=λc z=>.tail _ z;intro k;induction k with
 |zero=>
   intro i s hk st S fin;obtain rfl:n=i:=hk;refine qL abX<|ak<|W.done s _ _ st λs' mv=>az<|fin s' (mv.mono su)<|S.at λo e=>mv.heap a o aw e
 |succ k ih=>
   intro i s hk st S fin;refine qL abX ?_;rw[xQ abY _];refine ak<|W.item i s _ _ za st λv s1 pv ahU mv=>?_;let#[t,rfl]:=hv i v pv;change wpAny _ A.in1 _ _ _ s1;refine ak<|dS ?_;unfold setAdd;refine dS<|ak<|(intKind prog w).pyHash (yX _ _ _ _)<|add_int (S.at λo e=>mv.heap a o aw e) (by have:=firstMet_length_le val i;lia) λz h' sb S2=>?_;have ne:∀ c,c∈fp->c≠a:=λc m z=>ha<|z▸m;show az #[u6 abY _,ih (i+1) _ za (W.frame _ s1 _ _ ahU (vd _) λc hc o e=>(sb.2 c<|ne c hc).trans e) (by rw[firstMet_succ];show S2) λs2 m2 S4=>fin s2 (Moved.trans W.gtrans ((mv.mono su).then_heap (vd _) λc o hc e=>((sb.2 c λz=>hc<|z▸.head _).trans e)) m2) S4]
end
section
variable {s:aq} {t:ai} 
def KG (prog:dE) (w:bY) (s:aq) (ns:List Int) (s':aq):zw:=∃ h' tk,s'={ s with heap:=h',toks:=tk } /\ rC prog w (cQ w) h' s.heap.objs.size (dist ns) /\ Kp s.heap h'
theorem OP {I:ai}{St:Nat->aq->zw}{P:Nat->aj->zw}{it:bj}(W:WalksS prog w A.in1 (s.heap.objs.size+1) [s.heap.objs.size+1,t] [s.heap.objs.size+1] (λa b=>b=a) ns.length P St) (lt:t<s.heap.objs.size)
 (hv:∀ i v,P i v->∃ u,v=.int (ns.getD i 0) u) (hb:ns.length+1<scanBound) (st:St 0 { s with heap:=(s.heap.push<|sD w).push it }) (hf:it.isFreed=af)
 {F:Result->aq->zw}(h:∀ s',KG prog w s ns s'->F (.ok<|.ret .none) s') :
 codeAny zd A (.builtin "set.update.loop" #[[.ref s.heap.objs.size,.ref<|s.heap.objs.size+1],[]]) F { s with heap:=(s.heap.push<|sD w).push it }:=by
 refine Jw W ?_ _ hv hb ns.length 0 _ za st (OM<|aN _<|bE _ zk) λs' mv S=>?_
 .erw[aZ,qg,or_false,not_or];show#[bC<|vc _,u9 lt]
 .let#[h',g',d',yx,qW]:=s';have e1:=mv.gens;have e2:=mv.drawn;have e3:qW=s.os:=mv.os;subst e1 e2 e3;refine h _ #[h',yx,rfl,S,λc o e=>mv.heap c o ?_<|aN _<|aN _ e];have cl:=bh e;simp[aZ,qg,or_false,not_or];show#[bC cl,bC<|qf cl]
theorem L5 (hh:A.handled=ag) (ht:s.heap.IsList t vs.toArray) (hi:IntsAre vs ns) (hb:ns.length+1<scanBound) {F:Fin->aq->zw}(h:∀ s',KG prog w s ns s'->F (.done<|.ret .none) s') :
 wpAny zd A (Builtin.«set.__init__» #[[.ref s.heap.objs.size,.ref t],[]]) F E { s with heap:=s.heap.push (sD w) }:=by
 have gS:(s.heap.push _).get? s.heap.objs.size=ae (sD w):=bE _ zk;have adE:(s.heap.push<|sD w).IsList t vs.toArray:=ht.at λo e=>aN _ e;let#[ot,EU,_]:=id ht;have lt:=bh EU;let#[#[oc,od,ak6,qJ],g1,g2,n,g3]:=id adE;simp at g2 g3;subst g2;subst g3;have y1:=PySem.F.sub_list_set;have y2:=PySem.F.sub_list_frozenset;have y3:(Value.type "list"==Value.type "dict")=af:=rfl;have sz:(s.heap.push<|sD w).objs.size=s.heap.objs.size+1:=uo ..;unfold Builtin.«set.__init__» noKeywords Builtin.Frozenset.updateFrom;generalize hP:pyIter=P
 wp_walk
 subst hP;refine xg adE<|ak<|W8 ?_;rw[sz];have gI:((s.heap.push<|sD w).push { cls:=.type "list_iterator",data:=.fields (List.toArray [.ref t,.int 0 0]) }).get? (s.heap.objs.size+1)=ae { cls:=.type "list_iterator",data:=.fields (List.toArray [.ref t,.int 0 0]) }:=by
  rw[<-sz];show bE _ zk
 have W:=(Walks.list (prog:=prog) (w:=w) (A:=A.in1) hh (s.heap.objs.size+1) t (bC<|qf lt) vs.toArray).toS;rw[show vs.toArray.size=ns.length by simpa using hi.length]at W;show OP (I:=0) W lt (λi v e=>IntsAre.int_at hi i v (by simpa using e)) hb #[#[_,gI,rfl,rfl],ht.at λo e=>aN _<|aN _ e] zk λs' e=>az<|az<|h s' e
theorem L6 (hh:A.handled=ag) (ht:s.heap.IsList t vs.toArray) (hi:IntsAre vs ns) (hb:ns.length+1<scanBound) (h:∀ s',KG prog w s ns s'->Q (.ref s.heap.objs.size) s') :
 wpAny zd A (call (.type "set") [.ref t]) Q E s:=by
 let#[c,tl,f1]:=PySem.F.called_set.mro;have f2:=PySem.F.called_set.made;have f3:=PySem.F.called_set.sub;have f4:=PySem.F.called_set.notType;have f5:=PySem.F.called_set.canCreate;have f6:=PySem.F.typeCall_set_1<|.ref t;refine Q5<|aah<|az #[abU _ (by decide +kernel),qL PySem.F.entry_type_call ?_];rw[Around.under_plain (weight_type_call_type "set" [.ref t] []) rfl]
 repeat (any_goals (first|assumption|wp_step))
 refine xf (ON (.ref t) (E:=E) (Q:=λo s1=>o=.ref s.heap.objs.size /\ s1={ s with heap:=s.heap.push (sD w) }) #[rfl,rfl]) λr s1 hr=>?_;match r,hr with
 |.error e,hr=>show hr
 |.ok (.ret o),⟨e1,e2⟩=>
   subst e1;subst e2;have ty:Shared.TypeIs { s with heap:=s.heap.push (sD w) } (.ref s.heap.objs.size) "set":=#[_,(bE _ zk),rfl];have k1:=PySem.F.called_set.init.lookup;have k2:=PySem.F.called_set.init.bind<|.ref s.heap.objs.size
   repeat (any_goals (first|assumption|wp_step))
   refine xf (codeAny_call_builtin (R:=wants (λr s2=>r=.none /\ KG prog w s ns s2) E) PySem.F.called_set.init.plain PySem.F.entry_set_init<|check_set_init_1 ty<|L5 (by simp[hh]) ht hi hb λs' e=>#[rfl,e]) λr2 s2 E8=>?_
   .match r2,E8 with
    |.error e,E8=>show E8
    |.ok (.ret r),⟨e3,e4⟩=>
      subst e3
      repeat (any_goals (first|assumption|wp_step))
      show h _ e4
end
theorem gT:Slot "set_iterator" "__next__" "set_iterator.__next__":=.of (owner:="set_iterator") (n:="__next__") (by kernel_rfl) (rfl) (rfl) (rfl) (.inl<|rfl) (by kernel_rfl)
theorem Ac:Slot "set_iterator" "__iter__" "set_iterator.__iter__":=.of (owner:="set_iterator") (n:="__iter__") (by kernel_rfl) (rfl) (rfl) (rfl) (.inl<|rfl) (by kernel_rfl)
theorem lI:entryFor table "set_iterator.__next__"=ae Builtin.«set_iterator.__next__»:=aaj (by kernel_rfl)
theorem BG:entryFor table "set_iterator.__iter__"=ae Builtin.«dict_keyiterator.__iter__»:=aak (id':="dict_keyiterator.__iter__") (by kernel_rfl) zk (by decide +kernel) (by kernel_rfl)
theorem Fc:entryFor table "set.__iter__"=ae Builtin.«frozenset.__iter__»:=aak (id':="frozenset.__iter__") (by kernel_rfl) zk (by decide +kernel) (by kernel_rfl)
theorem lJ (a:aj):argsOk "set_iterator.__next__" #[[a],[]]:=by
 kernel_rfl
theorem BH (a:aj):argsOk "set_iterator.__iter__" #[[a],[]]:=by
 kernel_rfl
section
variable {s:aq}
theorem l7 {α:Type}:∀ (l:List α) {i:Nat}(h:i<l.length),(l[i]::l.eraseIdx i).Perm l
 |[],i,h=>absurd h<|HL _
 |x::l,0,h=>.refl _
 |x::l,i+1,h=>(List.Perm.swap ..).trans<|(l7 l _).cons x
theorem OQ (nx:Nat->Nat):∀ (f k:Nat) (l:List α) (out:Array α),l.length=f->(pickOrder.go nx f k l out).toList.Perm (out.toList++l):=by
 intro l_;induction l_ with
 |zero=>
   intro k l out h;have:=xq h;subst this;simp[pickOrder.go]
 |succ f ay=>
   intro k l out h;have lt:nx k % l.length<l.length:=aau _ za;rw[pickOrder.go,dj lt];refine(ay _ _ _ (by rw[aaM lt];lia)).trans ?_;rw[XG,eD];show afO _<|l7 l lt
theorem BI (nx:Nat->Nat) (xs:Array α):(pickOrder nx xs).toList.Perm xs.toList:=by
 have:=OQ nx xs.size 0 xs.toList #[]<|rfl;simpa[pickOrder] using this
def nu (w:bY) (t:SetTable):Nat->Nat
 |0=>0
 |i+1=>if cQ w then 0 else t.place.getD i 0+1
def given (w:bY) (a:ai) (ep:Nat) (es:Array<|Int×aj):List aj:=(if cQ w then (pickOrder (w.params.setOrder a ep) es).toList else es.toList).map (·.2)
theorem l8 (a:ai) (ep:Nat) (es:Array<|Int×aj):(given w a ep es).Perm (es.toList.map (·.2)):=by
 unfold given;split
 .show(BI _ es).map _
 .show .refl _
theorem Fd (h:cQ w=ah) (t:SetTable) (i:Nat):nu w t i=0:=by
 cases i with
 |zero=>rfl
 |succ i=>show if_pos h
theorem TZ {ms:List Int}{es:Array (Int×aj)}(ho:s.heap.get? a=ae o) (S:eK prog w (cQ w) o ns es ep t ms) (hp:cQ w=af->(!t.plain&&decide (es.size>1))=af) {i:Nat}{x:aj}(hx:(given w a ep es)[i]?=ae x)
 {Q:Option (aj×Nat)->aq->zw}(h:Q (ae (x,nu w t<|i+1)) s):wpAny zd A (setNext a (nu w t i) i ep) Q E s:=by
 have il:i<es.size:=by
  have:=(List.getElem?_eq_some_iff.mp hx).1;rw[(l8 a ep es).length_eq,aV,pB]at this;show this
 refine ak<|vR ho S.d S.ft ?_;refine ak<|ak<|u7<|az ?_;cases bt:cQ w with
 |true=>
   change wpAny _ _ (if cQ w=ah then _ else _) _ _ _;rw[if_pos bt];rw[if_neg zf];unfold setWalk setsByText;refine ak<|ak<|vR ho S.d S.ft<|ak<|ak<|u7<|az ?_;change wpAny _ _ (if cQ w=ah then _ else _) _ _ _;rw[if_pos bt];refine ak<|u7<|az<|az ?_;unfold given at hx;rw[if_pos bt,kQ,sV]at hx;rw[Fd bt]at h ⊢;change Q (((pickOrder (w.params.setOrder a ep) es)[i]?).map λe=>(e.2,0)) s;cases q:(pickOrder _ es)[i]? with
   |none=>rw[q]at hx;cases hx
   |some e=>
     rw[q]at hx;cases hx;show h
 |false=>
   change wpAny _ _ (if cQ w=ah then _ else _) _ _ _;rw[if_neg (by rw[bt];decide)];unfold given at hx;rw[if_neg (by rw[bt];decide),kQ,sV]at hx;have pl:t.place.size=es.size:=by
    have:=S.ft;simp[SetTable.fits,aQ,beq_iff_eq]at this;show this.1
   have pi:t.place[i]?=ae (t.place.getD i 0):=by
    have:i<t.place.size:=by lia
    simp[this]
   have sl:SetTable.below t.place (nu w t i)=i:=by
    cases i with
    |zero=>show AL S.ok.r
    |succ i=>
      have e1:nu w t (i+1)=t.place.getD i 0+1:=if_neg (by rw[bt];decide);rw[e1];refine AK S.ok.r ?_;have:i<t.place.size:=by lia
      simp[this]
   split
   .ext c;show absurd ((c).symm.trans<|hp bt) zh
   .refine ak ?_;change wpAny _ _ (if (!t.led&&!es.isEmpty)=ah then _ else _) _ _ _;rw[if_neg (by rw[(S.ok.l bt)];simp)];refine az<|az ?_;rw[sl];cases q:es[i]? with
    |none=>rw[q]at hx;cases hx
    |some e=>
      rw[q]at hx;cases hx;rw[pi];have e1:nu w t (i+1)=t.place.getD i 0+1:=if_neg (by rw[bt];decide);rw[e1]at h;show h
end
section
variable {s:aq}
def uP (h:aJ) (it a:ai) (k i n ep:Nat):zw:=∃ o u0 u1 u2 u3,h.get? it=ae o /\ o.cls=.type "set_iterator" /\ o.data=.fields (List.toArray [.int (k:Nat) u0,.int (i:Nat) u1,.ref a,.int (n:Nat) u2,.int (ep:Nat) u3])
theorem uP.typeIs {k i:Nat}(h:uP s.heap it a k i n ep):s.TypeIs (.ref it) "set_iterator":=by
 let#[o,_,_,_,_,e,c,_]:=h;show#[o,e,c]
theorem uP.at {k i:Nat}(x:uP h it a k i n ep) (e:∀ o,h.get? it=ae o->h'.get? it=ae o):uP h' it a k i n ep:=by
 let#[o,u0,u1,u2,u3,ho,r]:=x;show#[o,u0,u1,u2,u3,e o ho,r]
theorem OR {ms:List Int}{es:Array (Int×aj)}{i:Nat}{x:aj}{Q:Option aj->aq->zw}(dW:a≠it) (hi:uP s.heap it a (nu w t i) i es.size ep) (ho:s.heap.get? a=ae o) (S:eK prog w (cQ w) o ns es ep t ms)
 (hp:cQ w=af->(!t.plain&&decide (es.size>1))=af) (hx:(given w a ep es)[i]?=ae x)
 (hQ:∀ h',uP h' it a (nu w t<|i+1) (i+1) es.size ep->Heap.SameBut it s.heap h'->Q (ae x) { s with heap:=h' }):wpAny zd A (pyNext<|.ref it) Q E s:=by
 have ty:=hi.typeIs;let#[oi,u0,u1,u2,u3,qb,hc,hd]:=hi;unfold pyNext;refine ak<|u5<|rN ty gT<|kE gT ty lI ?_<|lJ _;unfold Builtin.«set_iterator.__next__»;refine ak<|az ?_;refine ak<|xj qb hd ?_;change wpAny _ _ _ _ _ s;refine ak<|yY ho S.d S.ft ?_;rw[if_neg zf];change wpAny _ _ (setNext a ((nu w t i):Int).toNat ((i):Int).toNat ((ep):Int).toNat >>= λr=>_) _ _ s;rw[pC,pC,pC];refine ak<|TZ ho S hp hx ?_;change wpAny _ _ _ _ _ s;have h1:(s.heap.update it _).get? it=ae (Obj.mapFields (·.setIfInBounds 0 (rawInt ((nu w t (i+1):Nat):Int))) oi):=sR _ qb<|xI<|qO hd _;have d1:(Obj.mapFields (·.setIfInBounds 0 (rawInt ((nu w t (i+1):Nat):Int))) oi).data=.fields (List.toArray [rawInt ((nu w t (i+1):Nat):Int),.int (i:Nat) u1,.ref a,.int (es.size:Nat) u2,.int (ep:Nat) u3]):=by rw[qO hd];simp
 refine ak<|sM qb hd zf ?_;change wpAny _ _ _ _ _ _;refine ak<|sM h1 d1 zf ?_;refine az #[_,rfl,az<|hQ _ #[_,0,0,u2,u3,sR _ h1<|xI<|qO d1 _,((Eh ..).trans<|(Eh ..).trans hc),?_]<|(Heap.SameBut.update ..).trans<|Heap.SameBut.update ..]
 .rw[qO d1];simp[rawInt]
end
section
variable {s:aq}
theorem T0 {ms:List Int}{es:Array (Int×aj)}(ho:s.heap.get? a=ae o) (S:eK prog w (cQ w) o ns es ep t ms) (hp:cQ w=af->(!t.plain&&decide (es.size>1))=af)
 {Q:Option (aj×Nat)->aq->zw}(h:Q ag s):wpAny zd A (setNext a (nu w t es.size) es.size ep) Q E s:=by
 refine ak<|vR ho S.d S.ft ?_;refine ak<|ak<|u7<|az ?_;cases bt:cQ w with
 |true=>
   change wpAny _ _ (if cQ w=ah then _ else _) _ _ _;rw[if_pos bt,if_neg zf];refine ak<|ak<|vR ho S.d S.ft<|ak<|ak<|u7<|az ?_;change wpAny _ _ (if cQ w=ah then _ else _) _ _ _;rw[if_pos bt];refine ak<|u7<|az<|az ?_;have e1:(pickOrder (w.params.setOrder a ep) es)[es.size]?=ag:=by
    have:=(BI (w.params.setOrder a ep) es).length_eq;rw[pB,pB]at this;rw[<-this];simp
   change Q (((pickOrder (w.params.setOrder a ep) es)[es.size]?).map λe=>(e.2,nu w t es.size)) s;rw[e1];show h
 |false=>
   change wpAny _ _ (if cQ w=ah then _ else _) _ _ _;rw[if_neg (by rw[bt];decide)];have pl:t.place.size=es.size:=by
    have:=S.ft;simp[SetTable.fits,aQ,beq_iff_eq]at this;show this.1
   have sl:SetTable.below t.place (nu w t es.size)=es.size:=by
    cases q:es.size with
    |zero=>show AL S.ok.r
    |succ i=>
      have e1:nu w t (i+1)=t.place.getD i 0+1:=if_neg (by rw[bt];decide);rw[e1];refine AK S.ok.r ?_;have:i<t.place.size:=by lia
      simp[this]
   split
   .ext c;show absurd ((c).symm.trans<|hp bt) zh
   .refine ak ?_;change wpAny _ _ (if (!t.led&&!es.isEmpty)=ah then _ else _) _ _ _;rw[if_neg (by rw[(S.ok.l bt)];simp)];refine az<|az ?_;rw[sl];have e2:es[es.size]?=ag:=by simp
    rw[e2];show h
theorem T3 {ms:List Int}{es:Array (Int×aj)}{Q:Option aj->aq->zw}(hh:A.handled=ag) (hi:uP s.heap it a (nu w t es.size) es.size es.size ep) (ho:s.heap.get? a=ae o) (S:eK prog w (cQ w) o ns es ep t ms)
 (hp:cQ w=af->(!t.plain&&decide (es.size>1))=af) (hQ:∀ h',Heap.ExtBut it s.heap h'->Q ag { s with heap:=h' }):wpAny zd A (pyNext<|.ref it) Q E s:=by
 have ty:=hi.typeIs;let#[oi,u0,u1,u2,u3,qb,hc,hd]:=hi;refine ak<|u5<|rN ty gT<|kE gT ty lI ?_<|lJ _;refine ak<|az ?_;refine ak<|xj qb hd ?_;refine ak<|yY ho S.d S.ft ?_;rw[if_neg zf];change wpAny _ _ _ _ _ s;refine ak (T0 ho S hp (ak (sM qb hd zf (ak (by
  refine ak<|eV (ak<|yT (by first|rfl|(rfl))<|eV ?_ (by size_fits)) (by size_fits);refine ak<|HG ?_;rw[hh];refine ak<|az<|HI ?_;show ak (yW #[_,bE _ zk,rfl] HJ<|az<|hQ _<|((Heap.SameBut.update ..).extBut.push _).push _))))))
theorem L7 (hh:A.handled=ag) (dW:a≠it) {ms:List Int}{es:Array (Int×aj)}(S:eK prog w (cQ w) o ns es ep t ms) (hp:cQ w=af->(!t.plain&&decide (es.size>1))=af) :
 Walks prog w A it [it,a] [it] es.size (λi v=>(given w a ep es)[i]?=ae v) (λi h=>uP h it a (nu w t i) i es.size ep /\ h.get? a=ae o) where
 sub:=λb hb=>by simp at hb;simp[hb]
 frame:=λ_ _ _ st hk=>#[st.1.at λo e=>hk it zf o e,hk a zf _ st.2]
 item:=λi s Q E hi st hQ=>by
  obtain⟨x,hx⟩:∃ x,(given w a ep es)[i]?=ae x:=by
   have:i<(given w a ep es).length:=by rw[(l8 a ep es).length_eq,aV,pB];show hi
   show#[_,dj this]
  show OR dW st.1 st.2 S hp hx λh' i' sb=>(hQ x h' s.toks hx #[i',(sb.2 a dW).trans st.2] λb o hb e=>(sb.2 b λz=>hb (by simp[z])).trans e)
 done:=λs Q E st hQ=>T3 hh st.1 st.2 S hp λh' he=>hQ h' s.toks λb o hb e=>he b o (λz=>hb (by simp[z])) e
 self:=λi s Q E st hQ=>by
  have ty:=st.1.typeIs;show yV ty Ac<|kE Ac ty BG (az #[_,rfl, "set_iterator",_,ty,gT.lookup,hQ])<|BH _
end
section
variable {s:aq}
theorem L8 {src:Source}{Q:Nat->aq->zw}(hn:n≠0) (h:∀ i,i<n->Q i { s with drawn:=s.drawn.bump src }):wpAny zd A (choose src n) Q E s:=λ_ _ _=>#[hn,h _<|aau _<|Nat.pos_of_ne_zero hn]
theorem C1 {α:Type}:∀ (n:Nat) (l:List α) (s:aq) {Q:List α->aq->zw},l.length=n->(∀ l' d,l'.Perm l->Q l' { s with drawn:=d })->wpAny zd A (drawOrder n l) Q E s
 | 0,l,s,Q,hl,h=>by
   have:=xq hl;subst this;show az<|h [] s.drawn<|.refl _
 |n+1,[],s,Q,hl,h=>by cases hl
 | n+1,x::l,s,Q,hl,h=>by
   refine ak<|L8 zf λi hi=>?_;rw[dj hi];show ak<|C1 n _ _ (by rw[aaM hi];lia) λl' d p=>az<|h _ d<|(p.cons _).trans<|l7 _ hi
def uQ (h:aJ) (it a q:ai) (i n ep:Nat):zw:=∃ o u1 u2 u3,h.get? it=ae o /\ o.cls=.type "set_iterator" /\ o.data=.fields (List.toArray [.ref q,.int (i:Nat) u1,.ref a,.int (n:Nat) u2,.int (ep:Nat) u3])
theorem uQ.typeIs {q:ai}{i:Nat}(h:uQ s.heap it a q i n ep):s.TypeIs (.ref it) "set_iterator":=by
 let#[o,_,_,_,e,c,_]:=h;show#[o,e,c]
theorem uQ.at {q:ai}{i:Nat}(x:uQ h it a q i n ep) (e:∀ o,h.get? it=ae o->h'.get? it=ae o):uQ h' it a q i n ep:=by
 let#[o,u1,u2,u3,ho,r]:=x;show#[o,u1,u2,u3,e o ho,r]
theorem OT {q:ai}{oq:bj}{ms:List Int}{es:Array (Int×aj)}{c:Nat}{ps:List Nat}{i:Nat}{e:Int×aj}{Q:Option aj->aq->zw}(hi:uQ s.heap it a q i es.size ep) (ho:s.heap.get? a=ae o) (S:eK prog w (cQ w) o ns es ep t ms)
 (hq:s.heap.get? q=ae oq) (yy:oq.data=.seq (ps.map λ(k:Nat)=>rawInt (k:Int)).toArray c) (hj:ps[i]?=ae j) (hx:es[j]?=ae e)
 (hQ:∀ h',uQ h' it a q (i+1) es.size ep->Heap.SameBut it s.heap h'->Q (ae e.2) { s with heap:=h' }):wpAny zd A (pyNext<|.ref it) Q E s:=by
 have ty:=hi.typeIs;let#[oi,u1,u2,u3,qb,hc,hd]:=hi;unfold pyNext;refine ak<|u5<|rN ty gT<|kE gT ty lI ?_<|lJ _;unfold Builtin.«set_iterator.__next__»;refine ak<|az ?_;refine ak<|xj qb hd ?_;change wpAny _ _ _ _ _ s;refine ak<|yY ho S.d S.ft ?_;rw[if_neg zf];change wpAny _ _ _ _ _ s;unfold seqItems?;refine ak<|ak<|xc hq ?_;rw[yy];refine az ?_;dsimp only;rw[pC,show (ps.map λ(k:Nat)=>rawInt<|k).toArray[i]?=ae (rawInt<|j) by simp[hj]];change wpAny _ _ (setNextDrawn a ((j):Int).toNat ((ep):Int).toNat >>= λr=>_) _ _ s;rw[pC,pC];unfold setNextDrawn;refine ak<|ak<|vR ho S.d S.ft ?_;dsimp only;rw[if_neg zf,hx];refine az ?_;change wpAny _ _ _ _ _ _;refine ak<|sM qb hd zf ?_;refine az #[_,rfl,az<|hQ _ #[_,0,u2,u3,sR _ qb<|xI<|qO hd _,(Eh ..).trans hc,?_]<|Heap.SameBut.update ..];rw[qO hd];simp[rawInt]
end
section
variable {s:aq}
theorem T4 {q:ai}{oq:bj}{ms:List Int}{es:Array (Int×aj)}{c:Nat}{ps:List Nat}{i:Nat}{Q:Option aj->aq->zw}(hh:A.handled=ag) (hi:uQ s.heap it a q i es.size ep) (ho:s.heap.get? a=ae o) (S:eK prog w (cQ w) o ns es ep t ms)
 (hq:s.heap.get? q=ae oq) (yy:oq.data=.seq (ps.map λ(k:Nat)=>rawInt (k:Int)).toArray c) (hj:ps[i]?=ag)
 (hQ:∀ h',Heap.ExtBut it s.heap h'->Q ag { s with heap:=h' }):wpAny zd A (pyNext<|.ref it) Q E s:=by
 have ty:=hi.typeIs;let#[oi,u1,u2,u3,qb,hc,hd]:=hi;refine ak<|u5<|rN ty gT<|kE gT ty lI ?_<|lJ _;refine ak<|az ?_;refine ak<|xj qb hd ?_;refine ak<|yY ho S.d S.ft ?_;rw[if_neg zf];refine ak<|ak<|xc hq ?_;rw[yy];refine az ?_;dsimp only;rw[pC,show (ps.map λ(k:Nat)=>rawInt<|k).toArray[i]?=ag by simpa using hj];have d1:(Obj.mapFields (·.setIfInBounds 0 (rawInt 0)) oi).data=.fields (List.toArray [rawInt 0,.int (i) u1,.ref a,.int (es.size) u2,.int (ep) u3]):=by rw[qO hd];simp
 refine ak (sM qb hd zf (ak (sM (sR _ qb<|xI<|qO hd _) d1 zf (ak (by
  refine ak<|eV (ak<|yT (by first|rfl|(simp;rfl))<|eV ?_ (by size_fits)) (by size_fits);refine ak<|HG ?_;rw[hh];refine ak<|az<|HI ?_;show ak (yW #[_,bE _ zk,rfl] HJ<|az<|hQ _<|(((Heap.SameBut.update ..).trans<|Heap.SameBut.update ..).extBut.push _).push _))))))
noncomputable def KH (es:Array<|Int×aj) (ps:List Nat):List aj:=ps.map λk=>(es.getD k (0,.none)).2
theorem C2 {es:Array (Int×aj)}{ps:List Nat}(p:ps.Perm<|List.range es.size):(KH es ps).Perm (es.toList.map (·.2)):=by
 refine(p.map _).trans (afP ?_);apply xp;intro i;by_cases h:i<es.size
 .simp[h]
 .simp[h]
theorem OU (hh:A.handled=ag) {q:ai}(dW:a≠it) (ahV:q≠it) {oq:bj}{ms:List Int}{es:Array (Int×aj)}{c:Nat}{ps:List Nat}(S:eK prog w (cQ w) o ns es ep t ms)
 (yy:oq.data=.seq (ps.map λ(k:Nat)=>rawInt (k:Int)).toArray c) (p:ps.Perm<|List.range es.size) :
 Walks prog w A it [it,a,q] [it] es.size (λi v=>(KH es ps)[i]?=ae v) (λi h=>uQ h it a q i es.size ep /\ h.get? a=ae o /\ h.get? q=ae oq) where
 sub:=λb hb=>by simp at hb;simp[hb]
 frame:=λ_ _ _ st hk=>#[st.1.at λo e=>hk it zf o e,hk a zf _ st.2.1,hk q zf _ st.2.2]
 item:=λi s Q E hi st hQ=>by
  have il:i<ps.length:=by rw[p.length_eq,xo];show hi
  have ej:=dj il;have jl:=List.mem_range.mp<|p.mem_iff.mp<|ph il;have ex:es[ps[i]]?=ae es[ps[i]]:=by simp
  refine OT st.1 st.2.1 S st.2.2 yy ej ex λh' i' sb=>?_;refine hQ _ h' s.toks ?_ #[i',(sb.2 a dW).trans st.2.1,(sb.2 q ahV).trans st.2.2] λb o hb e=>(sb.2 b λz=>hb (by simp[z])).trans e;unfold KH;rw[kQ,ej];simp[jl]
 done:=λs Q E st hQ=>T4 hh st.1 st.2.1 S st.2.2 yy (sP (by rw[p.length_eq,xo];show aI _)) λh' he=>hQ h' s.toks λb o hb e=>he b o (λz=>hb (by simp[z])) e
 self:=λi s Q E st hQ=>by
  have ty:=st.1.typeIs;refine yV ty Ac<|kE Ac ty BG ?_<|BH _;change wpAny _ _ _ _ _ s;show az #[_,rfl, "set_iterator",_,ty,gT.lookup,hQ]
end
section
variable {s:aq}
def ahW (prog:dE) (w:bY) (A:kR) (s:aq) (a:ai) (es:Array<|Int×aj) (it:ai) (s':aq):zw:=
 ∃ (h':aJ) (d:Drawn) (us:List aj) (fp:List ai) (St:Nat->aJ->zw),s'={ s with heap:=h',drawn:=d } /\ Kp s.heap h' /\ us.Perm (es.toList.map (·.2)) /\ it∈fp /\ (∀ b∈fp,b<h'.objs.size /\ (b=a \/ s.heap.objs.size<=b)) /\ s.heap.objs.size<=it /\
  Walks prog w A it fp [it] es.size (λi v=>us[i]?=ae v) St /\ St 0 h' /\ ∀ i h,St i h->∃ o,h.get? it=ae o /\ o.cls=.type "set_iterator"
theorem L9 (hh:A.handled=ag) {ms:List Int}{es:Array (Int×aj)}(ho:s.heap.get? a=ae o) (S:eK prog w (cQ w) o ns es ep t ms)
 (h:∀ it s',ahW prog w A s a es it s'->Q (.ref it) s'):wpAny zd A (pyIter<|.ref a) Q E s:=by
 have ty:s.TypeIs (.ref a) "set":=#[o,ho,S.x.1];have al:=bh ho;refine yV ty abI<|kE abI ty Fc ?_<|F.args_set_iter_1 _;unfold Builtin.«frozenset.__iter__»;change wpAny _ _ (Builtin.Frozenset.sizeOf a >>= λn=>_) _ _ s;unfold Builtin.Frozenset.sizeOf;refine ak<|ak<|yY ho S.d S.ft<|az ?_;unfold setDrawn setsByText;refine ak<|ak<|vR ho S.d S.ft<|ak<|ak<|u7<|az<|az ?_;dsimp only;split
 .ext c;have c':(!cQ w&&(!t.plain&&decide _))=ah:=c;refine ak<|C1 es.size _ s zf λps d p=>?_;unfold newTuple;refine ak (eV ?_ ?_)
  .have E7:(s.heap.push { cls:=.type "tuple",data:=.seq (ps.map λ(k:Nat)=>rawInt<|k).toArray }).get? a=ae o:=aN _ ho;refine ak<|aal E7 S.d S.ft ?_;unfold newFields;refine ak<|eV (az ?_) (by size_fits);have sz:(s.heap.push { cls:=.type "tuple",data:=.seq (ps.map λ(k:Nat)=>rawInt<|k).toArray }).objs.size=s.heap.objs.size+1:=uo ..;have gi:=bE (s.heap.push { cls:=.type "tuple",data:=.seq (ps.map λ(k:Nat)=>rawInt<|k).toArray }) (o:={ cls:=.type "set_iterator",data:=.fields [.ref s.heap.objs.size,rawInt 0,.ref a,rawInt (es.size:Nat),rawInt (ep:Nat)].toArray }) zk
   refine#[_,rfl, "set_iterator",_,#[_,gi,rfl],gT.lookup,h _ _ #[_,d,KH es ps,[_,a,s.heap.objs.size],_,rfl,λb o e=>aN _<|aN _ e,C2 p,.head _,λb hb=>?_,by rw[sz];show vd _,
    OU hh (by rw[sz];show bC (qf al)) (by rw[sz];show bC (vc _)) S zk p,#[#[_,_,_,_,gi,rfl,rfl],aN _ E7,aN _<|bE _ zk],λi h st=>?_]]
   .rw[uo,sz];erw[aZ,qg,or_false]at hb;rcases hb with rfl|rfl|rfl
    .rw[sz];show#[vc _,.inr<|vd _]
    .show#[qf<|qf al,.inl zk]
    .show#[qf<|vc _,.inr<|aI _]
   .let#[#[oi,_,_,_,e,cl,_],_]:=st;show#[oi,e,cl]
  .change (ps.map λ(k:Nat)=>rawInt (k:Int)).toArray.size<=sizeLine;have l1:=p.length_eq;have bd:=S.bd;have sb:scanBound=4096:=rfl;have sl:sizeLine=16777216:=bJ;rw[xo]at l1;simp;lia
 .ext c;refine ak<|az ?_;change wpAny _ _ (setEpoch a >>= λe=>_) _ _ s;refine ak<|aal ho S.d S.ft ?_;change wpAny _ _ (newFields "set_iterator" [rawInt 0,rawInt 0,.ref a,rawInt (es.size:Nat),rawInt (ep:Nat)] >>= λv=>ret v) _ _ s;unfold newFields;refine ak<|eV (az ?_) (by size_fits);have gi:(s.heap.push { cls:=.type "set_iterator",data:=.fields [rawInt 0,rawInt 0,.ref a,rawInt (es.size:Nat),rawInt (ep:Nat)].toArray }).get? s.heap.objs.size=ae { cls:=.type "set_iterator",data:=.fields [rawInt 0,rawInt 0,.ref a,rawInt (es.size:Nat),rawInt (ep:Nat)].toArray }:=bE _ zk;refine#[_,rfl, "set_iterator",_,#[_,gi,rfl],gT.lookup,h _ _ #[_,s.drawn,given w a ep es,[s.heap.objs.size,a],_,rfl,λb o e=>aN _ e,l8 a ep es,.head _,λb hb=>?_,aI _,L7 hh (bC al) S (λz=>by
   have c':¬ ((!cQ w&&(!t.plain&&decide (es.size>1)))=ah):=c;rw[z]at c';simpa using c'),#[#[_,_,_,_,_,gi,rfl,rfl],aN _ ho],λi h st=>?_]]
  .rw[uo];simp at hb;rcases hb with rfl|rfl
   .show#[vc _,.inr<|aI _]
   .show#[qf al,.inl zk]
  .let#[#[oi,_,_,_,_,e,cl,_],_]:=st;show#[oi,e,cl]
end
section
variable {s:aq}
noncomputable abbrev YN:bj:={ cls:=.type "list",data:=.seq ([]:List aj).toArray }
def ahX (s:aq) (s':aq):zw:=∃ h' d tk,s'={ s with heap:=h',drawn:=d,toks:=tk } /\ Kp s.heap h' /\ s.heap.objs.size<=h'.objs.size
theorem C3 (hh:A.handled=ag) {ms:List Int}{es:Array (Int×aj)}{Q:List aj->aq->zw}(ho:s.heap.get? a=ae o) (S:eK prog w (cQ w) o ns es ep t ms)
 (h:∀ us s',us.Perm (es.toList.map (·.2))->ahX s s'->Q us s'):wpAny zd A (collect<|.ref a) Q E s:=by
 have nl:s.heap.objs.size≠a:=u9<|bh ho;have ty:∀ h' d tk,Kp s.heap h'->Shared.TypeIs { s with heap:=h',drawn:=d,toks:=tk } (.ref a) "set":=λh' d tk k=>#[o,k a o ho,S.x.1];unfold collect;refine ak (W8 (qL F.entry_proto_collect (by
  rw[xQ F.plain_proto_collect _];refine ak<|eV (az #[u6 abJ _,qL F.entry_list_iadd ?_]) (by size_fits);rw[xQ abJ _];change wpAny _ A.in1 (Builtin.List.listExtendWith _ _ _) _ _ _;unfold Builtin.List.listExtendWith;have k1:Kp s.heap (s.heap.push YN):=λb ob e=>aN _ e;refine ak<|rO (ty _ s.drawn s.toks k1) ?_;rw[if_neg (by simp[Builtin.List.listSameRef,nl])];refine ak<|L9 (by simp[hh]) (k1 a o ho) S λit s1 bg=>?_;let#[h1,d,us,fp,St,rfl,k2,pu,mi,fl,ge,W,ahY,cl]:=bg;have k3:Kp s.heap h1:=λb ob e=>k2 b ob<|k1 b ob e;have g0:h1.get? s.heap.objs.size=ae YN:=k2 _ _<|bE _ zk;refine ak<|dS ?_;unfold Builtin.List.listLengthHint;refine ak<|aaf (ty h1 d s.toks k3) F.slot_set_len.lookup ?_;dsimp only;rw[show splitId "set.__len__"=ae ("set","__len__") by decide +kernel];dsimp only;refine ak<|yW (b:=ah) (ty h1 d s.toks k3) aai ?_;rw[if_neg zh];rw[if_pos (by decide +kernel)];refine ak<|rO (ty h1 d s.toks k3) ?_;refine az ?_;rw[if_pos (by decide +kernel)];refine ak<|pQ<|ak ?_;change wpAny _ A.in1 _ _ _ _;have g1:=sR (Obj.mapSeq (·.push Value.none)) g0 zk;have z1:(s.heap.push YN).objs.size=s.heap.objs.size+1:=uo ..;have ahZ:s.heap.objs.size+1<=it:=z1▸ge;have nf:s.heap.objs.size∉fp:=λm=>by
   rcases(fl _ m).2 with z|z
   .show nl z
   .show absurd (z1▸z:s.heap.objs.size+1<=s.heap.objs.size)<|Nat.not_succ_le_self _
  have adF:∀ b ob,b≠s.heap.objs.size->h1.get? b=ae ob->((h1.update s.heap.objs.size (Obj.mapSeq (·.push Value.none))).update s.heap.objs.size (Obj.mapSeq (·.pop))).get? b=ae ob:=λb ob ne e=>(HW _ _<|Ne.symm ne).trans<|(HW _ _<|Ne.symm ne).trans e;refine ak (aam g0 zk (aam g1 zk (az #[u6 F.plain_extend_loop _,codeAny_extend_loopS W.toS (Xd S.bd) _ nf _ es.size 0 _ _ _ zk (cJ _) (W.frame 0 h1 _ ahY λb hb ob e=>adF b ob (λz=>nf<|z▸hb) e) (sR (Obj.mapSeq (·.pop)) g1 zk) (ItemsOf.nil _) λs2 acc c mv gs KJ=>?_])));refine ak<|xc gs<|az<|h _ s2 ?_ ?_
  .have e1:acc.toList=us:=by
    have ul:us.length=es.size:=by rw[pu.length_eq,aV,pB]
    apply xp;intro j;by_cases hj:j<acc.size
    .have ej:acc[j]?=ae acc[j]:=by simp
     rw[sV,ej];show(KJ.2 j _ ej).symm
    .have h3:=KJ.1;rw[sV,XH za,sP za]
   rw[e1];show pu
  .let#[h2,gg,dd,tk,os]:=s2;have q1:gg=s.gens:=mv.gens;have q2:dd=d:=mv.drawn;have q3:os=s.os:=mv.os;subst q1 q2 q3;refine#[h2,dd,tk,rfl,λb ob e=>?_,nC<|bh gs];have bl:=bh e;refine mv.heap b ob ?_<|adF b ob (bC bl)<|k3 b ob e;simp[aZ,qg,or_false,not_or];show#[bC bl,bC<|kN (qf bl) ahZ])))
end
section
variable {s:aq}
theorem Fe (hh:A.handled=ag) (S:rC prog w (cQ w) s.heap a ns) (cG:ns.length<64)
 (h:∀ (l:ai) (out:Array aj) (ks:List Int) (c:Nat) (h':aJ) (d:Drawn) (tk:Nat),IntsAre out.toList ks->ks.Perm ns->ks.Pairwise (·<=·)->Kp s.heap h'->s.heap.objs.size<=l->h'.get? l=ae (seqObj "list" out c)->Q (.ref l) { s with heap:=h',drawn:=d,toks:=tk }) :
 wpAny zd A (call (.builtin "sorted") [.ref a]) Q E s:=by
 let#[o,es,ep,t,ms,ho,S]:=S;refine Ir Ib Ic Ie (Ig _) ?_;refine ak<|az<|ak<|C3 (by simp[hh]) ho S λus s1 pu wk=>?_;let#[h1,d,tk,rfl,k1,le]:=wk;let#[ks,ik,pk]:=jK pu S.vs;have ul:us.length<64:=by
  rw[ik.length,pk.length_eq,S.pm.length_eq];show cG
 refine ak<|xh ?_;have gl:(h1.push _).get? h1.objs.size=ae (seqObj "list" us.toArray 0):=bE _ zk;refine ak<|dS<|kE Ih #[_,gl,rfl] Ii (abc gl ik ul λout js a1 a2 a3=>#[_,rfl,az #[_,rfl,?_]])<|Ij _;let#[c,gc]:=abh gl;show h _ out js c _ d tk a1 ((a2.trans pk).trans S.pm) a3 (λb ob e=>by
  have bl:=bh<|k1 b ob e;rw[XE (bC bl) (by rw[uo];show qf bl)];show aN _ (k1 b ob e)) le gc
end
end HT
namespace L2
open PySem.W
section
variable {a:au} {p p2 uO:aG} {t:TA}
def adG (K:Frag) (vs:List V) (H:Hp) (Q:VK):zw:=∃ (p:ai) (ns:List Int),vs=[.ref p] /\ bZ K H p (ns.map V.int) /\ ns.length<4000 /\ (HT.dist ns).length<64 /\ ∀ l,H l=ag->Q (.ref l) (upd H l<|.lst<|(DL.sortI<|HT.dist ns).map V.int)
theorem Ff (hc:X.calm=ah) (hg:Gl X "sorted") (hm:X.mg "sorted"=ag) (wu:Gl X "set") (wx:X.mg "set"=ag) (ha:PA X [a] t) (hs:DL.cu a=ah) :
 PE X (.Call (.Name "sorted" p) [.Call (.Name "set" p2) [a] [] uO] [] pos) (Ey (adG X.K) t):=by
 intro pins s σ H Q I h;have st:=DL.fI (e:=.Call (.Name "set" p2) [a] [] uO) zk [] X.env;refine uf<|jd I hg hm (by decide +kernel:bootBuiltins "sorted"=ae (.builtin "sorted")) ?_ zh<|rfl;refine callWith_builtin1 ?_ st<|DL.jA zk;rw[st];change wpAny _ _ (spliced ((af,eval (.Call (.Name "set" p2) [a] [] uO) X.env)::backTo pos (starEach [] X.env))) _ _ s;refine xM<|uf<|jd I wu wx (rfl:bootBuiltins "set"=ae (.type "set")) ?_ zh<|rfl;refine callWith_type1 (tA (ha uO pins s σ H _ I h) λus s1 vs H1 I1 r1 q1=>?_) (DL.fI hs [] X.env) zk;let#[l,ns,rfl,hl,hn,cG,q]:=q1;let#[u,rfl,ru]:=Vals.one r1;cases ru;have sb:scanBound=4096:=rfl;have hd:=I1.ok.hd hc;let#[its,r',pl,hz]:=I1.list hl;show HT.L6 hd pl.isList (l5 r') za (λs' e=>by
  let#[h',tk,rfl,S,hk]:=e;have lz:s1.heap.objs.size<=h'.objs.size:=by
   let#[o,_,_,_,_,ho,_]:=S;show nC<|bh ho
  refine xK<|HT.Fe hd S cG λL out ks c h2 d rD a1 a2 a3 k2 le gL=>?_;have e:=DL.oK (a2.trans (DL.gx _).symm) a3<|DL.iU _;subst e;have ll:((DL.sortI<|HT.dist ns).map V.int).length<=sizeLine:=by
   rw[aV,(DL.gx _).length_eq];show cT (nC cG) zh
  have I2:=I1.laid (t':=rD) (o:=.lst<|(DL.sortI<|HT.dist ns).map V.int) (λb u e=>k2 b u<|hk b u e) (cT lz le) #[ll,out.toList,c,DL.m9 a1,gL];show#[.ref L,_,#[I2.ok,I2.os,I2.bare,I2.base,I2.loc,I2.cell,I2.free,I2.qQ,I2.pin,I2.aE,I2.len],rfl,q L<|I1.aE.fresh<|cT lz le])
end
end L2
namespace L2.DL
open PySem.W
def wJ:List D->Option Res:=λxs=>match xs with
 |[.lst l]=>(intsOf l).bind λns=>if ns.length<4000 /\ (HT.dist ns).length<64 then ae (.lst<|(sortI<|HT.dist ns).map D.int) else ag
 |_=>ag
theorem ah0:k8 (adG K) wJ:=by
 intro F H xs vs Q s sub rx e k;unfold wJ at e;split at e
 .ext l;let#[v,t,rfl,#[a,ws,rfl,h3,h4],h2]:=rx;cases (h2);cases e1:intsOf l with
  |none=>rw[e1]at e;cases e
  |some ns=>
    rw[e1]at e;erw[bV]at e;split at e
    .ext hn;cases e;have q1:=h4.ints e1;subst q1;show#[a,ns,rfl,.of h3,hn.1,hn.2,λp hp=>k _ _ #[p,_,rfl,hp,rfl,AB _]]
    .cases e
 .cases e
section
variable {a:au} {p p2 uO:aG} {m:DE (List W)}
theorem Fg (bo:Bool) (hc:X.calm=ah) (hg:Gl X "sorted") (hm:X.mg "sorted"=ag) (wu:Gl X "set") (wx:X.mg "set"=ag) (ha:ez X T Z [a] m) (hs:cu a=ah) :
 PD X T Z (.Call (.Name "sorted" p) [.Call (.Name "set" p2) [a] [] uO] [] pos) (dN bo wJ m):=PE.imp (Ff hc hg hm wu wx ha hs)<|Lp ah0
end
end L2.DL
namespace HT
open PySem.W
def vG (h:aJ) (d:ai) (vs:List aj) (ep:Nat):zw:=∃ o es,h.get? d=ae o /\ o.data=.dict es ep /\ es.toList.map (·.val)=vs
theorem vG.at {d:ai}(x:vG h d vs ep) (k:∀ o,h.get? d=ae o->h'.get? d=ae o):vG h' d vs ep:=let ⟨o,es,e,r⟩:=x;#[o,es,k o e,r]
section
variable {s:aq} {v d:ai} {i:Nat}
theorem OV (hv:s.heap.IsValuesView v d) (hm:vG s.heap d vs ep)
 (q:Q (.ref s.heap.objs.size) { s with heap:=s.heap.push { cls:=.type "dict_valueiterator",data:=.fields (List.toArray [.ref d,.int 0 0,.int vs.length 0,.int ep 0]) } }):wpAny zd A (pyIter<|.ref v) Q E s:=by
 let#[o1,e1,c1,d1]:=id hv;let#[o,es,e2,d2,ev]:=id hm;have sz:es.size=vs.length:=by rw[<-ev];simp
 refine yV hv.typeIs abK<|kE abK hv.typeIs PySem.F.entry_dict_values_iter ?_<|PySem.F.args_dict_values_iter_1 _;refine ak<|az<|ak ?_;refine ak<|nz e1 d1 zk<|az<|ak ?_;refine ak<|aan e2 d2<|ak<|aao e2 d2 ?_;erw[show Builtin.Dict_items.ownsTuple "dict_valueiterator"=af by decide,HY,if_false];show eV (az #[_,rfl, "dict_valueiterator",_,#[_,bE _ zk,rfl],XS.lookup,by simpa[rawInt,sz] using q])
theorem Gc {Q:Option aj->aq->zw}(hit:s.heap.IsValIter it d i vs.length ep) (hm:vG s.heap d vs ep) (hh:A.handled=ag)
 (q:∀ x h',vs[i]?=ae x->h'.IsValIter it d (i+1) vs.length ep->Heap.SameBut it s.heap h'->Q (ae x) { s with heap:=h' })
 (qe:∀ h',vs[i]?=ag->Heap.ExtBut it s.heap h'->Q ag { s with heap:=h' }):wpAny zd A (pyNext<|.ref it) Q E s:=by
 let#[o,e1,c1,d1]:=id hit;let#[od,es,e2,d2,ev]:=id hm;have sz:es.size=vs.length:=by rw[<-ev];simp
 unfold pyNext;refine ak<|u5<|rN hit.typeIs XS<|kE XS hit.typeIs PySem.F.entry_dict_valueiterator_next ?_<|PySem.F.args_dict_valueiterator_next_1 _;refine ak<|az<|ak<|ak ?_;first|refine ak (Xe hit.typeIs<|az<|ak<|xj e1 d1 ?_)|refine ak<|Xf hit.typeIs<|az<|ak<|xj e1 d1 ?_
 erw[if_false];change wpAny _ _ (if (Value.ref d==Value.none)=ah then _ else _) _ _ s;rw[if_neg (show ¬ ((Value.ref d==Value.none)=ah) from dM)];refine ak<|az<|ak<|aan e2 d2 ?_;rw[if_neg (by rw[sz];simp)];refine ak<|az<|ak<|aao e2 d2 ?_;rw[if_neg zf];refine az ?_;rcases xm i vs.length with hl|hl
 .have hV:i<es.size:=by rw[sz];show hl
  have hv:vs[i]?=ae es[i].val:=by rw[<-ev];simp[hV]
  erw[pC,Array.getElem?_eq_getElem hV];refine ak ?_;first|refine ak (Xe hit.typeIs<|az<|ak<|HK hit.typeIs ?_)|refine ak<|Xf hit.typeIs<|az<|ak<|HK hit.typeIs ?_
  change wpAny _ _ (setField (.ref it) 1 (rawInt<|(i)+1) >>= _) _ _ s;refine ak<|sM e1 d1 zf ?_;have h2:(s.heap.update it (Obj.mapFields (·.setIfInBounds 1 (rawInt<|(i:Int)+1)))).IsValIter it d (i+1) vs.length ep:=
   #[_,sR _ e1<|xI<|qO d1 _,(Eh ..).trans c1,by rw[qO d1];simp[rawInt]]
  refine ak (dS (ak (HK (s:={ s with heap:=s.heap.update it (Obj.mapFields (·.setIfInBounds 1 (rawInt<|(i:Int)+1))) }) h2.typeIs (ak (HK (s:={ s with heap:=s.heap.update it (Obj.mapFields (·.setIfInBounds 1 (rawInt<|(i:Int)+1))) }) h2.typeIs ?_)))));change wpAny _ _ (pure es[i].val) _ _ _;show az<|az #[_,rfl,az<|q _ _ hv h2<|Heap.SameBut.update ..]
 .have hx:vs[i]?=ag:=sP hl;erw[show ¬ ((i:Int)<0) from by lia,if_false,pC,XH (show es.size<=i by rw[sz];show hl)];refine ak ?_;first|refine ak (Xe hit.typeIs<|az ?_)|refine ak (Xf hit.typeIs<|az ?_)
  change wpAny _ _ (setField (.ref it) 0 .none >>= _) _ _ s;refine ak<|sM e1 d1 zf ?_;change wpAny _ _ (newExc (.type "StopIteration") [] >>= _) _ _ _;refine ak ?_;erw[newExc,newTuple];refine ak<|eV (ak (m:=firstArgMember _ _)<|yT (a:=Value.none) (by first|rfl|(erw[firstArgMember];rfl))<|eV ?_ (by size_fits)) (by size_fits);erw[raiseNew];refine ak<|HG ?_;rw[show A.in1.handled=ag from hh];refine ak<|az<|HI ?_;refine ak<|yW (T:="StopIteration") (b:=ah) #[_,bE _ zk,rfl] HJ ?_;show az<|qe _ hx<|((Heap.SameBut.update ..).extBut.push _).push _
theorem OW (hh:A.handled=ag) (dW:d≠it) (vs:List aj) (ep:Nat):Walks prog w A it [it,d] [it] vs.length (λi v=>vs[i]?=ae v) (λi h=>h.IsValIter it d i vs.length ep /\ vG h d vs ep) where
 sub:=λb hb=>by simp at hb;simp[hb]
 frame:=λ_ _ _ st hk=>#[st.1.at λo e=>hk it zf o e,st.2.at λo e=>hk d zf o e]
 item:=λi s Q E hi st hQ=>Gc st.1 st.2 hh (λx h' hx h2 sb=>hQ x h' s.toks hx #[h2,st.2.at λo e=>sb.extBut d o dW e] λb o hb e=>sb.extBut b o (λz=>hb (by simp[z])) e) λh' hx _=>by rw[List.getElem?_eq_none_iff]at hx;lia
 done:=λs Q E st hQ=>Gc st.1 st.2 hh (λx h' hx _ _=>by simp at hx) λh' _ he=>hQ h' s.toks λb o hb e=>he b o (λz=>hb (by simp[z])) e
 self:=λ_ _ _ _ st hQ=>wpAny_pyIter_valiter st.1 hQ
theorem T5 {r:ai}(vs:List aj) (ep:Nat):KdlSrc prog w "dict_values" r d vs.length (λi v=>vs[i]?=ae v) (λh=>h.IsValuesView r d /\ vG h d vs ep) where
 type:=λ_ hm=>hm.1.typeIs
 there:=λ_ hm=>#[let ⟨_,ho,_⟩:=hm.1;bh ho,let ⟨_,_,ho,_⟩:=hm.2;bh ho]
 keep:=λ_ _ hm hk=>#[let ⟨o,ho,x⟩:=hm.1;#[o,hk r (.inl zk) o ho,x],hm.2.at λo e=>hk d (.inr zk) o e]
 notList:=rfl
 notTuple:=rfl
 hint:=λ_ _ _ _ hm hq=>kdl_hint_values hm.1.typeIs hq
 iter:=λ_ _ hh hm=>#[_,_,(λ_ _ hq=>OV hm.1 hm.2 hq),OW hh (bC (let ⟨_,_,ho,_⟩:=hm.2;bh ho)) vs ep,#[#[_,bE _ zk,rfl,rfl],hm.2.at λo e=>aN _ e]]
end
section
variable {K:Type} [DecidableEq K] {knd:HeapKind prog w K} {s:aq} {d:ai} {k:K} {xs:List (K × ai × aj)} {v:aj}
theorem Fh (d:ai) (hd:(d==sysModules)=af) :
 MeetsIn prog w (Builtin.«dict.values» #[[.ref d],[]]) (λ_ R s=>s.TypeIs (.ref d) "dict" /\ R (.ok<|.ret<|.ref s.heap.objs.size) { s with heap:=s.heap.push { cls:=.type "dict_values",data:=.fields (List.toArray [.ref d]) } }):=
 .of_wp λA R s ⟨hm,h⟩=>by
  refine ak ?_;refine ak<|Xg hm ?_;refine az ?_;unfold Builtin.Dict.showsAll;rw[if_neg (by rw[hd];show dM)];show ak<|az<|ak<|eV<|az #[_,rfl,h]
end
end HT
namespace L2
open PySem.W
section
variable {o f:au} {b9 p:aG} {td ty tx:TE}
end
section
variable {elt it ah1 KJ:au} {ah2:List au} {scope:bK} {i acc:aj} {env:Env}
end
section
variable {s:aq}
end
abbrev TK:=St->Hp->List Int->(St->Hp->List Int->zw)->zw
section
variable {s:aq} {D:ai} 
end
section
variable {src:List (Option Nat)} {elt:au} {rest:List Comprehension} {scope:bK} {b9 p:aG} {wi:TI} {g:TG} {tf:TT} {k:TK} {body:aj -> Env -> Sem Unit}
end
end L2
namespace L2.DL
section
variable {a:au} {p p1:aG}
end
section
variable {src:List (Option Nat)} {elt:au} {scope:bK} {g:DG} 
end
open PySem.W
abbrev DK:=bf->List Bx->List Int->Option (bf×List Bx×List Int)
section
variable {g:DG} {k:DK}
end
section
variable {src:List (Option Nat)} {elt ah1 KJ:au} {ah2:List au} {scope:bK} {b9 p:aG} {ak7:DE (List W)} {g g2:DG} {ak8:DE Bool} 
end
def rF:List D->Option (List Key)
 |[]=>ae []
 |d::l=>(p9 d).bind λk=>(rF l).map λt=>k::t
theorem Cc:∀ {l:List D}{ks:List Key}{vs:List V},rF l=ae ks->aH F l vs->vs=ks.map kV:=by
 intro l_;induction l_ with
 |nil=>(intro _ _ e h;cases e;show h)
 |cons d l ay=>
   intro ks _ e h;let#[v,t,rfl,h1,h2]:=h;unfold rF at e;cases e1:p9 d with
   |none=>rw[e1]at e;cases e
   |some k=>
     cases e2:rF l with
     |none=>rw[e1,e2]at e;cases e
     |some t'=>
       rw[e1,e2]at e;cases e;rw[jk e1 h1,ay e2 h2];rfl
noncomputable def nv (l:List<|List Key×D) (k:List Key):Option D:=(l.find? λx=>decide (x.1=k)).map (·.2)
theorem bQ.length {F:Hp}:∀ {l:List (List Key×D)}{r:List (List Key×V)},bQ F l r->l.length=r.length
 |[],_,h=>by cases (h);rfl
 | (k,d)::l,_,h=>by
   let#[v,t,rfl,_,h2]:=h;simp[h2.length]
theorem bQ.get {F:Hp}{k:List Key}:∀ {l:List (List Key×D)}{r:List (List Key×V)},bQ F l r->(∀ d,nv l k=ae d->∃ v,km r k=ae v /\ Den F d v) /\ (nv l k=ag->km r k=ag)
 |[],_,h=>by cases (h);show#[λd e=>by simp[nv]at e,λ_=>rfl]
 | (k',d)::l,_,h=>by
   let#[v,t,rfl,h1,h2]:=h;by_cases e:k'=k
   .have g:nv ((k',d)::l) k=ae d:=by simp[nv,e]
    rw[g,lc e];show#[λd' z=>by cases z;show#[v,rfl,h1],λz=>by cases z]
   .have g:nv ((k',d)::l) k=nv l k:=by simp[nv,e]
    rw[g,jy e];show h2.get
section
variable {o f:au} {p b9:aG} 
end
section
variable {o f:au} {IL:aG}
noncomputable def uR (l:List<|Key×D) (k:Key):List (Key×D):=l.filter λkv=>decide (kv.1≠k)
theorem aR.drop {F:Hp}(k:Key):∀ {l:List (Key×D)}{vs:List (Key×V)},aR F l vs->aR F (uR l k) (rf vs k)
 | [],_,h=>by
   cases (h);show rfl
 | (k',d)::l,_,h=>by
   let#[v,t,rfl,h1,h2]:=h;have ih:=aR.drop k h2;by_cases c:k'=k
   .have e1:uR ((k',d)::l) k=uR l k:=xr (by simp[c]);have e2:rf ((k',v)::t) k=rf t k:=xr (by simp[c]);rw[e1,e2];show ih
   .have e1:uR _ k=(k',d)::uR l k:=xt (by simp[c]);have e2:rf _ k=(k',v)::rf t k:=xt (by simp[c]);rw[e1,e2];show#[v,_,rfl,h1,ih]
theorem bL.at {r':List ai}(g:bL F r F' r') (h:r[n]?=ae a):r'[n]?=ae a:=by
 let#[t,e]:=g.p;rw[<-e,kX (List.getElem?_eq_some_iff.mp h).1];show h
def vH (m k:DE W):DE W:=λenv bx=>fA (m env bx) λx bx1=>match x with
 | .b n=>(match bx1[n]? with
   | some (.aB _)=>fA (k env bx1) λy bx2=>(match y,bx2[n]? with
     |.d d,ae (.aB l)=>(match p9 d with|some k=>.val (.d<|(kS l k).getD .aC) bx2|none=>.bad)
     |_,_=>.bad)
   |_=>.bad)
 |_=>.bad
theorem OX {Q:VK}(h:tD T Z (vH ma mb) σ H Q):adj (tD T Z ma) (tD T Z mb) σ H Q:=by
 let#[F,r,env,bx,R,h]:=h;refine#[F,r,env,bx,R,End.bind h λx bx1 F1 r1 v H1 g1 R1 d1 h1=>?_];cases x with
 |b n=>
   simp at h1;let#[a,rfl,ha]:=d1;let#[c,hc,kc]:=R1.k6 ha;rw[hc]at h1;cases c with
   |aB l0=>
     let#[_,wy,k0,_]:=kc;refine#[a,rfl,.inl #[wy,.inl k0],F1,r1,env,bx1,R1,End.bind h1 λy bx2 F2 r2 u H2 g2 R2 d2 h2=>?_];let#[c2,nI,uH]:=R2.k6<|g2.at ha;rw[nI]at h2;split at h2
     .ext d l eq;cases eq;let#[hF,vs,k1,k2]:=uH;split at h2
      .ext k e1;cases jk e1 d2;refine#[_,rh.k k1,?_];cases q:kS l k with
       |none=>
         rw[q]at h2;rw[aR.none k2 q];show h2 F2 r2 _ H2 (.refl F2 r2) R2 zk
       |some w=>
         rw[q]at h2;let#[z,e3,e4]:=aR.some k2 q;rw[e3];show h2 F2 r2 _ H2 (.refl F2 r2) R2 e4
      .show h2.elim
     .show h2.elim
   |_=>show h1.elim
 |_=>show h1.elim
theorem Ma (hu:X.A.units+1<cLine) (ho:PD X T Z o ma) (ha:PD X T Z e mb) (m:M1 X o "get" apos e pos):PD X T Z (.Call (.Attribute o "get" apos) [e] [] pos) (vH ma mb):=
 PE.imp (LI hu ho ha m) λσ H Q h=>OX h
def wK (m k:DE W):DE W:=λenv bx=>fA (m env bx) λx bx1=>match x with
 | .b n=>(match bx1[n]? with
   | some (.aB _)=>fA (k env bx1) λy bx2=>(match y,bx2[n]? with
     |.d d,ae (.aB l)=>(match p9 d with|some k=>(match kS l k with|some u=>.val (.d u) (bx2.set n<|.aB<|uR l k)|none=>.bad)|none=>.bad)
     |_,_=>.bad)
   |_=>.bad)
 |_=>.bad
theorem T6 {Q:VK}(h:tD T Z (wK ma mb) σ H Q):adk (tD T Z ma) (tD T Z mb) σ H Q:=by
 let#[F,r,env,bx,R,h]:=h;refine#[F,r,env,bx,R,End.bind h λx bx1 F1 r1 v H1 g1 R1 d1 h1=>?_];cases x with
 |b n=>
   simp at h1;let#[a,rfl,ha]:=d1;let#[c,hc,kc]:=R1.k6 ha;rw[hc]at h1;cases c with
   |aB l0=>
     let#[_,wy,k0,_]:=kc;refine#[a,rfl,.inl #[wy,.inl k0],F1,r1,env,bx1,R1,End.bind h1 λy bx2 F2 r2 u H2 g2 R2 d2 h2=>?_];have vA:=g2.at ha;let#[c2,nI,uH]:=R2.k6 vA;rw[nI]at h2;split at h2
     .ext d l eq;cases eq;let#[hF,vs,k1,k2]:=uH;split at h2
      .ext k e1;cases jk e1 d2;split at h2
       .ext w q;let#[z,e3,e4]:=aR.some k2 q;show#[vs,k,z,k1,rfl,e3,h2 F2 r2 _ _ (.refl F2 r2) (R2.write vA hF #[hF,_,fF,aR.drop k k2]) e4]
       .show h2.elim
      .show h2.elim
     .show h2.elim
   |_=>show h1.elim
 |_=>show h1.elim
theorem OY (ho:PD X T Z o ma) (ha:PD X T Z e mb) (m:M1 X o "pop" apos e pos):PD X T Z (.Call (.Attribute o "pop" apos) [e] [] pos) (wK ma mb):=
 PE.imp (LJ ho ha m) λσ H Q h=>T6 h
def uS (m k:DE W):aD:=λenv bx=>bW (m env bx) λx bx1=>bW (k env bx1) λy bx2=>match x,y with
 | .b n,.d d=>(match bx2[n]?,p9 d with
   |some (.aB l),ae k=>if (kS l k).isSome then .nx env (bx2.set n<|.aB<|uR l k) else .bad
   |_,_=>.bad)
 |_,_=>.bad
theorem VS {D:Ends}(h:tS T Z (uS ma mb) D σ H):adi (tD T Z ma) (tD T Z mb) D σ H:=by
 let#[F,r,env,bx,R,h]:=h;refine#[F,r,env,bx,R,End.bW h λx bx2 F2 r2 v H2 g2 R2 d2 h2=>#[F2,r2,env,bx2,R2,End.bW h2 λy cM F3 r3 u H3 g3 R3 d3 h3=>?_]];split at h3
 .let#[a,rfl,ha]:=(g3.den d2);let#[c,hc,kc]:=R3.k6 ha;rw[hc]at h3;split at h3
  .ext l k e1 e2;cases e1;split at h3
   .ext hl;let#[hF,ao,k1,k2]:=kc;cases jk e2 d3;show#[a,ao,k,rfl,k1,rfl,by rw[LW k2];show hl,h3 F3 r3 _ _ (.refl F3 r3)<|R3.write ha hF #[hF,_,fF,aR.drop k k2]]
   .show h3.elim
  .show h3.elim
 .show h3.elim
theorem OZ (ho:PD X T Z o ma) (hi:PD X T Z e mb):dH X T Z (.Delete [.Subscript o e IL] pos) (uS ma mb):=
 PS.imp (Ox ho hi) λD σ H h=>VS h
def sF (m:DE W) (k:DE W):DE W:=λenv bx=>fA (m env bx) λx bx1=>match x with
 | .b n=>(match bx1[n]? with
   | some (.lst _)=>fA (k env bx1) λy bx2=>(match y,bx2[n]? with
     |.d (.lst r),ae (.lst l)=>if l.length+r.length<=sizeLine then .val (.d .aC) (bx2.set n<|.lst<|l++r) else .bad
     |_,_=>.bad)
   |_=>.bad)
 |_=>.bad
theorem VT {Q:VK}(h:tD T Z (sF ma mb) σ H Q):Yh X.K "list" acL (tD T Z ma) (Yd (tD T Z mb) Yc) σ H Q:=by
 let#[F,r,env,bx,R,h]:=h;refine#[F,r,env,bx,R,End.bind h λx bx1 F1 r1 v H1 g1 R1 d1 h1=>?_];cases x with
 |b n=>
   simp at h1;let#[a,rfl,ha]:=d1;let#[c,hc,kc]:=R1.k6 ha;rw[hc]at h1;cases c with
   |lst l0=>
     let#[_,wy,k0,_]:=kc;refine#[.inl #[rfl,wy,bZ.of k0],F1,r1,env,bx1,R1,End.bind h1 λy bx2 F2 r2 u H2 g2 R2 d2 h2=>?_];have vA:=g2.at ha;let#[c2,nI,uH]:=R2.k6 vA;rw[nI]at h2;split at h2
     .ext q l eq;cases eq;let#[hF,vs,k1,k2]:=uH;let#[b,zs,rfl,k3,k4]:=d2;split at h2
      .ext hz;show#[a,b,vs,zs,rfl,rfl,k1,R2.fh _ _ k3,by rw[<-k2.length,<-k4.length];show hz,h2 F2 r2 _ _ (.refl F2 r2) (R2.write vA hF #[hF,vs++zs,fF,k2.append k4]) zk]
      .show h2.elim
     .show h2.elim
   |_=>show h1.elim
 |_=>show h1.elim
theorem Jx (ho:PD X T Z o ma) (ha:PD X T Z e mb)
 (Ez:attributeBase o "extend" X.env (eval o X.env)=eval o X.env:=by rfl)
 (EA:((backTo pos<|starEach [e] X.env).all (λx=>!x.1)&&(backToKw pos<|keywordEach [] X.env).all (λx=>x.1.isSome)
  && decide ([e].length+([]:List Keyword).length+(if ([]:List Keyword).isEmpty then 0 else 1)<30))=ah:=by rfl)
 (EB:(apos.endLine==pos.line)=ah:=by rfl) (hs:starEach [e] X.env=(af,eval e X.env)::starEach [] X.env:=by rfl) :
 PD X T Z (.Call (.Attribute o "extend" apos) [e] [] pos) (sF ma mb):=
 PE.imp (RQ abC PySem.F.slot_list_extend PySem.F.type_list_extend G3 ho (ji ha lW hs) Ez EA EB hs (by rfl)) λσ H Q h=>VT h
end
section
variable {i:Nat} {l:List D} {vs:List V}
end
end L2.DL
namespace L2
end L2
namespace L2.DL
section
variable {a b c f o:au} {p:aG} {k k' nn:Nat} {ps:List Str} {m:DE (List W)}
end
end L2.DL
namespace L2
open PySem.W
section
variable {s:aq} 
theorem Inv.adH (I:Inv X pins σ H s) {u0 u:HO}(h:H a=ae u0) (n1:∀ xs,u0≠.tup xs) (n2:∀ o v,X.H₀ a≠ae (.bP o v)) (n3:∀ ps,u0≠.eY ps) (n4:∀ y,u0≠.own y) (new:dg X.prog X.w (upd H a u) s.heap a u):Inv X pins σ (upd H a u) s:=by
 have ne:∀ {b},H b=ag->upd H a u b=ag:=λ{b} e=>by rw[fC (λz=>by rw[z,h]at e;cases e)];show e
 have ke:∀ {b v},H b=ae v->v≠u0->upd H a u b=ae v:=λ{b v} e n=>by rw[fC (λz=>by rw[z,h]at e;cases e;show n rfl)];show e
 refine#[I.ok,I.os,I.bare,#[I.base.keep,I.base.slot,λb o e n x=>ne<|I.base.free b o e n x,I.base.there,λb xs e=>ke (I.base.rW b xs e) λz=>n1 xs z.symm,λb o v e=>?_,λb ps e=>?_],I.loc,I.cell,ne I.free,λx c e=>ne<|I.qQ x c e,λp hp=>?_,λb v e=>?_,I.len]
 .rw[fC λz=>n2 o v (by rw[<-z];show e)];show I.base.qm b o v e
 .let#[m,q]:=I.base.qP b ps e;show#[m,ke q λz=>n3 _ z.symm]
 .let#[q1,q2,q3]:=I.pin p hp;show#[q1,ne q2,q3]
 .by_cases z:b=a
  .subst z;rw[fF]at e;cases e;show new
  .rw[fC z]at e;show(I.aE b v e).kY (λ_ _ _ q=>q) (λc q=>ke q λz=>n4 _ z.symm) λc xs q=>ke q λz=>n1 _ z.symm
theorem Inv.freeze (I:Inv X pins σ H s) (h:H a=ae (.dK ao)):∃ o,s.heap.get? a=ae o /\ (∀ o v,X.H₀ a≠ae (.bP o v)) /\ Inv X pins σ (upd H a<|.bP o<|.dK ao) s:=by
 let#[z,y,vs,r,ob,es,ep,e,c]:=I.aE a _ h;have nf:∀ o v,X.H₀ a≠ae _:=λo v q=>by have:=I.base.qm a o v q;rw[h]at this;cases this
 show#[ob,e,nf,I.adH h (λ_ q=>nomatch q) nf (λ_ q=>nomatch q) (λ_ q=>nomatch q) #[e,z,y,vs,r,ob,es,ep,e,c]]
theorem Inv.Hg (I:Inv X pins σ H s) (h:H a=ae (.bP o<|.dK ao)) (nf:∀ o v,X.H₀ a≠ae (.bP o v)):Inv X pins σ (upd H a<|.dK ao) s:=by
 let#[_,q]:=I.aE a _ h;show I.adH h (λ_ q=>nomatch q) nf (λ_ q=>nomatch q) (λ_ q=>nomatch q) q
def Hh (a:ai) (o:bj) (ao:List<|Key×V):It:=
 #[λi H=>H a=ae (.bP o<|.dK ao) /\ i<ao.length,λi H x H'=>H'=H /\ ∃ k v,ao[i]?=ae (k,v) /\ x=kV k,λi H=>H a=ae (.bP o<|.dK ao) /\ ao.length<=i]
theorem Paired.at_ {α β:Type}{F:α->β->zw}:∀ {l:List α}{m:List β}{i:Nat}{x:α},Paired F l m->l[i]?=ae x->∃ y,m[i]?=ae y /\ F x y
 |_,_,_,_,.nil,e=>by simp at e
 |_,_,0,_,.cons r t,e=>by simp at e;subst e;show#[_,rfl,r]
 |_,_,i+1,_,.cons r t,e=>by let#[y,q,f]:=Paired.at_ t (by simpa using e);show#[y,by simpa using q,f]
theorem O0 {k:Key}{v:aj}(h:(dF P w).is k v=ah):RelV (kV k) v:=by
 rcases gf h with⟨i,t,rfl,rfl⟩|⟨x,t,rfl,rfl⟩
 .show#[t,rfl]
 .show#[t,rfl]
theorem Cd {es:Array DictEntry}(q:dg P w H h a<|.bP o<|.dK ao) (ed:o.data=.dict es ep):∃ vs,KV ao vs /\ h.DictAt (dF P w) a vs ep:=by
 let#[e,_,_,vs,r,ob,es',sY,e',c1,c2,c3]:=q;rw[e]at e';cases e';rw[ed]at c2;cases c2;show#[vs,r,o,es,e,c1,ed,c3]
theorem Jy (it:ai) {es:Array DictEntry}(ed:o.data=.dict es ep) (ne:a≠it):Turn P w K tg (Hh a o ao) [it] it (λi h=>h.IsKeyIter it a i ao.length ep) where
 mem:=by simp
 obj:=λi h st b hb=>by
  have e:b=it:=by simpa using hb
  subst e;let#[o,e,c,d]:=st;show#[o,e,λv z=>by rw[d]at z;cases z]
 keep:=λi h h' st k=>st.at λo e=>k it zf o e
 item:=by
  intro X hP hw hK hc i pins s σ H E I hf st hg;subst hP hw hK;let#[ha,hi]:=hg;let#[vs,r,da]:=Cd (I.aE a _ ha) ed;have hl:=Paired.length r;obtain⟨⟨k,v⟩,hx⟩:∃ p,ao[i]?=ae p:=#[ao[i],by simp];let#[#[k',v'],hy,e1,_]:=Paired.at_ r hx;cases (e1);let#[f0,f1,f2,f3,f4,f5]:=hf it zf;rw[hl]at st;refine wpAny_pyNext_dict_item st da hy λkey h' Ya pV sb=>?_;have I1:Inv X pins σ H { s with heap:=h' }:=I.turned (λb o hb e=>(sb.2 b hb).trans e) f0 f1 f3 f4 f5;let#[o,e,c,d]:=id pV;show#[key,rfl,CJ e c d zh #[kV k,H,I1,O0 Ya,#[rfl,k,v,hx,rfl],by rw[hl];show pV,λb hb=>(hf b hb).1]]
 done:=by
  intro X hP hw hK hc i pins s σ H E I hf st hg;subst hP hw hK;let#[ha,hi]:=hg;let#[vs,r,da]:=Cd (I.aE a _ ha) ed;have hl:=Paired.length r;let#[f0,f1,f2,f3,f4,f5]:=hf it zf;rw[hl]at st;show wpAny_pyNext_dict_end (I.ok.hd hc) st da (sP za) λh' eb=>#[rfl,I.turned (λb o hb e=>eb b o hb e) f0 f1 f3 f4 f5]
 self:=λ_ _ _ _ _ st h=>wpAny_pyIter_keyiter st h
def NF (H₀:Hp) (a:ai):zw:=∀ o v,H₀ a≠ae (.bP o v)
def adI (H₀:Hp) (tl:TE):TI:=λσ H R=>tl σ H λx H1=>∃ a ao,x=.ref a /\ ((H1 a=ae (.dK ao) /\ ∀ o,NF H₀ a->R (Hh a o ao) (upd H1 a<|.bP o<|.dK ao)) \/ ∃ o,H1 a=ae (.bP o<|.dK ao) /\ R (Hh a o ao) H1)
theorem T7 {l:au}{tl:TE}(hl:PE X l tl):PI X tg l (adI X.H₀ tl):=by
 intro pins s σ H R I h;refine tE (hl pins s σ H _ I h) λv s1 x H1 I1 r1 q1=>?_;let#[a,ao,e,q]:=q1;subst e;cases r1;obtain⟨o,H2,I2,e2,q2⟩:∃ o H2,Inv X pins σ H2 s1 /\ H2 a=ae (.bP o _) /\ R (Hh a o ao) H2:=by
  rcases q with⟨e,q⟩|⟨o,e,q⟩
  .let#[o,_,nf,I2]:=I1.freeze e;show#[o,_,I2,fF,q o nf]
  .show#[o,H1,I1,e,q]
 let#[e3,_,y,_,_,ob,es,ep,e4,_,ed,_]:=id<|I2.aE a _ e2;rw[e3]at e4;cases e4;let#[vs,r,da]:=Cd (I2.aE a _ e2) ed;refine wpAny_pyIter_dict y da ?_;refine#[s1.heap.objs.size,[s1.heap.objs.size],_,_,H2,rfl,I2.kept λb o e=>aN _ e,Jy _ ed<|bC<|I2.aE.lt e2,#[_,bE _ zk,rfl,by rw[(Paired.length r)];rfl],λb hb=>?_,q2];have e:b=s1.heap.objs.size:=by simpa using hb
 subst e;show I2.xX (aI _)<|I2.aE.fresh<|aI _
def vI (H₀:Hp) (Q:α->Hp->zw):α->Hp->zw:=λx H=>Q x H \/ ∃ a o ao,H a=ae (.bP o<|.dK ao) /\ NF H₀ a /\ Q x (upd H a<|.dK ao)
noncomputable def Ends.Hg (H₀:Hp) (D:Ends):Ends:=#[vI H₀ D.nx,vI H₀ D.rt,vI H₀ D.bk,vI H₀ D.ct]
theorem Ce {s:aq}{Q:α->Hp->zw}{x:α}(I:Inv X pins σ H s) (q:vI X.H₀ Q x H):∃ H',Inv X pins σ H' s /\ Q x H':=by
 rcases q with q|⟨a,o,ao,e,nf,q⟩
 .show#[H,I,q]
 .show#[_,I.Hg e nf,q]
theorem O2 {t:TS}(h:PS X st t):PS X st (λD=>t<|D.Hg X.H₀):=λpins s σ H D I q=>cy (h pins s σ H _ I q) λf s' q'=>by
 cases f with
 |ret v=>let#[x,σ',H',I',r,q']:=q';let#[H2,I2,q2]:=Ce I' q';show#[x,σ',H2,I2,r,q2]
 |_=>let#[σ',H',I',q']:=q';let#[H2,I2,q2]:=Ce I' q';show#[σ',H2,I2,q2]
end
end L2
namespace L2.DL
open PySem.W
noncomputable def ah3:Key->D
 |.inl i=>.int i
 |.inr x=>.str x
noncomputable def vJ (F:Hp) (a:ai):Hp:=λb=>if b=a then ag else F b
theorem jm {b:ai}(h:b≠a):vJ F a b=F b:=if_neg h
section
variable {l:List (Key × D)} 
theorem Gd:∀ {l:List (Key×D)}{ao:List (Key×V)}{i:Nat}{k:Key}{v:V},aR F l ao->ao[i]?=ae (k,v)->∃ d,l[i]?=ae (k,d) /\ Den F d v
 |[],_,i,_,_,h,e=>by cases (h);simp at e
 | (k',d)::l,_,0,_,_,h,e=>by
   let#[u,t,rfl,h1,_]:=h;let#[rfl,rfl]:=e;show#[d,rfl,h1]
 | (k',d)::l,_,i+1,_,_,h,e=>by
   let#[u,t,rfl,_,h2]:=h;show Gd (i:=i) h2 (by simpa using e)
theorem Ad (h:F a=ae (.bP o<|.dK ao)):yh F (vJ F a):=λb u n e=>by
 rw[jm (λz=>by rw[z,h]at e;cases e;show n _ _ rfl)];show e
theorem cb.off (h:F a=ae (.bP o<|.dK ao)):∀ {w:W}{v:V},cb F r w v->cb (vJ F a) r w v
 |.d x,_,q=>Den.eF (Ad h) x q
 |.b _,_,q=>q
 |.s _,_,q=>let ⟨b,ob,e,q⟩:=q;#[b,ob,e,by rw[jm (λz=>by rw[z,h]at q;cases q)];show q]
 |.x _,_,q=>q
 |.t _,_,q=>let ⟨c,as,e,h1,h2⟩:=q;#[c,as,e,Ad h _ _ (λ_ _ z=>nomatch z) h1,h2]
 |.m _,_,q=>let ⟨c,as,e,h1,h2⟩:=q;#[c,as,e,Ad h _ _ (λ_ _ z=>nomatch z) h1,h2]
theorem Rel.bP (R:Rel T F r σ H env bx) (hb:bx[n]?=ae (.aB l)) (ha:r[n]?=ae a) (k0:F a=ag) (k2:aR F l ao) :
 Rel T (upd F a<|.bP o<|.dK ao) r σ (upd H a<|.bP o<|.dK ao) env (bx.set n<|.fD l):=by
 have s:=lF (o:=.bP o<|.dK ao) k0;have ma:=List.mem_iff_getElem?.mpr #[n,ha];refine#[λb u e=>?_,λi w e=>?_,by rw[ug];show R.len,R.nd,λm c b e1 e2=>?_,λb u e hn=>?_,R.new,R.n0,R.sl,λb u e=>?_]
 .by_cases z:b=a
  .subst z;rw[fF]at e ⊢;show e
  .rw[fC z]at e ⊢;show R.fh b u e
 .let#[v,e1,e2]:=R.slot i w e;show#[v,e1,e2.mono s<|sO r]
 .by_cases z:m=n
  .subst z;rw[rR (List.getElem?_eq_some_iff.mp hb).1]at e1;cases e1;rw[ha]at e2;cases e2;show#[o,ao,fF,fF,aR.mono s _ k2]
  .rw[sN λq=>z q.symm]at e1;have nb:b≠a:=λq=>z<|j9 R.nd e2<|q▸ha;show(R.box m c b e1 e2).grow s (λq=>by rw[fC nb];show q) (λu q=>by rw[fC nb];show q)
 .rw[fC λz=>hn (by rw[z];show ma)];show R.keep b u e hn
 .by_cases z:b=a
  .subst z;show .inr<|.inr<|.inr ma
  .rw[fC z]at e;show R.fs b u e
theorem Rel.ah4 (R:Rel T F r σ H env bx) (hb:bx[n]?=ae (.fD l)) (ha:r[n]?=ae a) :
 ∃ o ao,F a=ae (.bP o<|.dK ao) /\ H a=ae (.bP o<|.dK ao) /\ Rel T (vJ F a) r σ (upd H a<|.dK ao) env (bx.set n<|.aB l):=by
 let#[o,ao,f1,h1,dk]:=R.box n _ a hb ha;have sd:=Ad f1;have ma:=List.mem_iff_getElem?.mpr #[n,ha];refine#[o,ao,f1,h1,λb u e=>?_,λi w e=>?_,by rw[ug];show R.len,R.nd,λm c b e1 e2=>?_,λb u e hn=>?_,R.new,R.n0,R.sl,λb u e=>?_]
 .by_cases z:b=a
  .subst z;unfold vJ at e;rw[if_pos rfl]at e;cases e
  .rw[jm z]at e;rw[fC z];show R.fh b u e
 .let#[v,e1,e2]:=R.slot i w e;show#[v,e1,e2.off f1]
 .by_cases z:m=n
  .subst z;rw[rR (List.getElem?_eq_some_iff.mp hb).1]at e1;cases e1;rw[ha]at e2;cases e2;show#[if_pos zk,ao,fF,aR.eF sd _ dk]
  .rw[sN λq=>z q.symm]at e1;have nb:b≠a:=λq=>z<|j9 R.nd e2<|q▸ha;have q:=R.box m c b e1 e2;have fo:F b=ag->vJ F a b=ag:=λz=>by rw[jm nb];show z
   have ho:∀ {u},H b=ae u->upd H a (.dK ao) b=ae u:=λz=>by rw[fC nb];show z
   cases c with
   |lst _=>let#[q1,vs,q2,q3]:=q;show#[fo q1,vs,ho q2,aH.eF sd _ q3]
   |aB _=>let#[q1,vs,q2,q3]:=q;show#[fo q1,vs,ho q2,aR.eF sd _ q3]
   |dead=>let#[u,q]:=q;show#[u,ho q]
   |dT _=>let#[q1,vs,q2,q3]:=q;show#[fo q1,vs,ho q2,bQ.eF sd _ q3]
   |fD _=>let#[o2,vs,q1,q2,q3]:=q;show#[o2,vs,by rw[jm nb];show q1,ho q2,aR.eF sd _ q3]
   |tb _ _ _=>let#[q0,q1,ah5,q2,q3,q4]:=q;show#[q0,fo q1,ah5,ho q2,q3,λcv e=>let ⟨c,g1,g2⟩:=q4 cv e;#[c,g1,by rw[jm (λz=>by rw[z,f1]at g2;cases g2)];show g2]]
 .rw[fC λz=>hn (by rw[z];show ma)];show R.keep b u e hn
 .by_cases z:b=a
  .subst z;unfold vJ at e;rw[if_pos rfl]at e;cases e
  .rw[jm z]at e;show R.fs b u e
theorem bL.off {r':List ai}{u:HO}(g:bL (upd F a u) r F' r') (k0:F a=ag):bL F r (vJ F' a) r':=#[λb v e=>by
 have nb:=gm e k0;rw[jm nb];show g.s b v (by rw[fC nb];show e),g.p]
def vK (l:List<|Key×D):List W:=l.map λp=>.d<|ah3 p.1
theorem AM (g:F' a=ae (.bP o<|.dK ao)) (k2:aR F l ao):vq F' r (vK l) (Hh a o ao):=λT' i F1 r1 σ1 H1 env1 bx1 g1 R1=>by
 have h:=R1.fh a _<|g1.s a _ g;have hl:=k2.length;refine#[λe=>#[h,by rw[<-hl,<-e];simp[vK]],λw e=>?_];unfold vK at e;rw[kQ]at e;have hi:i<ao.length:=by
  rw[<-hl];cases q:l[i]? with
  |none=>rw[q]at e;cases e
  |some p=>show(List.getElem?_eq_some_iff.mp q).1
 refine#[#[h,hi],λx H2 ⟨e2,k,v,e3,e4⟩=>?_];subst e2 e4;let#[d,e5,_]:=Gd k2 e3;rw[e5]at e;cases e;refine#[F1,.refl F1 r1,R1,?_];cases k<;>show rfl
noncomputable def yz (n:Nat) (bx:List Bx):Option (List Bx):=match bx[n]? with|some (.fD l)=>ae (bx.set n<|.aB l)|_=>ag
def yA (n:Nat):O W->O W
 |.val w bx=>(match yz n bx with|some b=>.val w b|none=>.bad)
 |o=>o
theorem T8 {b:List Bx}(h:yz n bx=ae b):∃ l,bx[n]?=ae (.fD l) /\ b=bx.set n (.aB l):=by
 unfold yz at h;split at h
 .cases h;show#[_,by assumption,rfl]
 .cases h
theorem O3 {H₀:Hp}{u:HO}{Q:VK}(k0:F a=ag) (ha:r[n]?=ae a) (nf:NF H₀ a):∀ {q:O W},End T Z cb F r σ env Q (yA n q)->End T Z cb (upd F a u) r σ env (vI H₀ Q) q
 | .val w b,h=>λF2 r2 v H2 g2 R2 dv=>by
   cases q:yz n b with
   |none=>simp[yA,q]at h;show h.elim
   |some b2=>
     simp[yA,q]at h;let#[l,hl,rfl]:=T8 q;let#[o,ao,f1,h1,R3]:=R2.ah4 hl<|g2.at ha;show .inr #[a,o,ao,h1,nf,h _ r2 v _ (g2.off k0) R3<|dv.off f1]
 |.exc c b,h=>λF2 r2 H2 g2 R2=>h F2 r2 H2 #[(lF k0).trans g2.s,g2.p] R2
 |.bad,h=>h.elim
theorem End.Hg {H₀:Hp}{Q:VK}:∀ {q:O W},End T Z cb F r σ env Q q->End T Z cb F r σ env (vI H₀ Q) q
 |.val _ _,h=>λF2 r2 σ2 H2 g2 R2 d=>.inl<|h F2 r2 σ2 H2 g2 R2 d
 |.exc _ _,h=>h
 |.bad,h=>h
theorem T9 {i:Nat}{Q:VK}(e:env[i]?=ae (ae<|.b n)) (h:∀ F' r' a H',bL F r F' r'->Rel T F' r' σ H' env bx->r'[n]?=ae a->Q (.ref a) H'):End T Z cb F r σ env Q (dV i env bx):=by
 unfold dV;rw[e];intro F' r' v H' g R d;let#[a,rfl,ha]:=d;show h F' r' a H' g R ha
def wL (bo:Bool) (src:List<|Option Nat) (i:Nat) (g:DG) (tf:DE Bool) (te:DE W):DE W:=λenv bx=>match env[i]? with
 | some (ae<|.b n)=>(match bx[n]? with
   |some (.aB l)=>yA n<|fA (cj g tf te (vK l) (hZ src env) (bx.set n<|.fD l) []) λl bx2=>ck bo (ae<|.lst l) bx2
   |some (.fD l)=>fA (cj g tf te (vK l) (hZ src env) bx []) λl bx2=>ck bo (ae<|.lst l) bx2
   |_=>.bad)
 |_=>.bad
theorem O4 {i:Nat}{src:List (Option Nat)}{g:DG}{Q:VK}{H₀:Hp}(h:tD T Z (wL bo src i g tf te) σ H Q) :
 Kb src (adI H₀<|tD T Z<|dV i) (EK g) (EL #[E0,Z.cl] tf) (EM #[E0,Z.cl] te) σ H (vI H₀ Q):=by
 let#[F,r,env,bx,R,h]:=h;unfold wL at h;split at h
 case h_2=>show h.elim
 ext n e;refine#[F,r,env,bx,R,T9 e λF' r' a H' g' R' ha=>?_];split at h
 .ext l hb;let#[k0,ao,k1,k2]:=R'.box n _ a hb ha;show#[a,ao,rfl,.inl #[k1,λo nf=>DX (R'.bP hb ha k0 k2) (AM fF k2)<|O3 k0 ha nf<|End.weak g' h]]
 .ext l hb;let#[o,ao,k0,k1,k2]:=R'.box n _ a hb ha;show#[a,ao,rfl,.inr #[o,k1,DX R' (AM k0 k2) (End.weak g' h).Hg]]
 .show h.elim
theorem Jz {src:List (Option Nat)}{elt:au}{scope:bK}{vF:aG}{g:DG}(i:Nat) (bo:Bool) (hc:X.calm=ah) (S:tM X N src scope) (hi:PD X T Z iter<|dV j)
 (hg:∀ T cl s H C fp,pG (X.comp N scope cl s H C fp) T tg g) (hf:∀ T cl s H C fp,PF (X.comp N scope cl s H C fp) ifs<|tR T #[E0,Z.cl] tf) (he:∀ T cl s H C fp,PD (X.comp N scope cl s H C fp) T #[E0,Z.cl] elt te)
 (hN:X.N.Nodup) (wG:X.N[i]?=ae x) (hx:Loc X.env.scope x) (Hc:swapsWith zy (ae<|.Name x pos') vF.line X.env=pure ah)
 (Hd:X.fn x=ah \/ X.env.scope.names.lookup x=ae .local) (hs:∀ x,foldedSetIterable iter X.env x=pure x):dH X T Z (.Assign [.Name x pos'] zy vF) (fE (wL bo src j g tf te)<|fg i):=PS.imp (O2 (F9 (g:=EK g) (tf:=EL _ tf) (te:=EM _ te) hc S (T7 hi) (λcl s H C fp pins s' σ' H' v u Q I rv ⟨T,q⟩=>hg T cl s H C fp pins s' σ' H' v u Q I rv q)
 (λcl s H C fp pins s' σ' H' Q I ⟨T,q⟩=>hf T cl s H C fp pins s' σ' H' Q I q) (λcl s H C fp pins s' σ' H' Q I ⟨T,q⟩=>he T cl s H C fp pins s' σ' H' Q I q) hN wG hx Hc Hd hs)) λD σ H=>x4 λF r env bx R h=>(O4 #[F,r,env,bx,R,End.bW h λw bx1 F1 r1 v H1 g1 R1 d1 h1=>h1 F1 r1 _ H1 (.refl F1 r1)<|R1.set d1 i])
end
end L2.DL
namespace HT
open PySem.W
section
variable {s:aq} {v d:ai} {i:Nat}
end
end HT
namespace L2
open PySem.W
section
variable {o:au} {p:aG} {td:TE}
end
end L2
namespace L2.DL
open PySem.W
section
variable {o:au} {p:aG} 
noncomputable def vL (l:List<|List Key×D) (k:List Key) (d:D):List (List Key×D):=
 if (l.any λkv=>decide (kv.1=k))=ah then l.map (λkv=>if kv.1=k then (kv.1,d) else kv) else l++[(k,d)]
theorem bQ.any {F:Hp}(k:List Key):∀ {l:List (List Key×D)}{vs:List (List Key×V)},bQ F l vs->(l.any λkv=>decide (kv.1=k))=(vs.any λkv=>decide (kv.1=k))
 |[],_,h=>by cases (h);rfl
 |(k',d')::l,_,⟨v,r,e,h1,h2⟩=>by subst e;simp[ve,bQ.any k h2]
theorem bQ.map {F:Hp}{k:List Key}{d:D}{v:V}(hv:Den F d v):∀ {l:List (List Key×D)}{vs:List (List Key×V)},bQ F l vs->bQ F (l.map λkv=>if kv.1=k then (kv.1,d) else kv) (vs.map λkv=>if kv.1=k then (kv.1,v) else kv)
 |[],_,h=>by cases (h);rfl
 | (k',d')::l,_,⟨u,r,e,h1,h2⟩=>by
   subst e;by_cases c:k'=k
   .simp[aM,c];show#[v,_,rfl,hv,bQ.map hv h2]
   .simp[aM,c];show#[u,_,rfl,h1,bQ.map hv h2]
theorem bQ.app {F:Hp}{m:List (List Key×D)}{us:List (List Key×V)}(hm:bQ F m us):∀ {l:List (List Key×D)}{vs:List (List Key×V)},bQ F l vs->bQ F (l++m) (vs++us)
 |[],_,h=>by cases (h);show hm
 |(k',d')::l,_,⟨u,r,e,h1,h2⟩=>by subst e;show#[u,_,rfl,h1,bQ.app hm h2]
theorem bQ.put2 {k:List Key}{d:D}{l:List (List Key×D)}{vs:List (List Key×V)}(h:bQ F l vs) (hv:Den F d v):bQ F (vL l k d) (putK vs k v):=by
 unfold vL putK;rw[bQ.any k h];split
 .show bQ.map hv h
 .show bQ.app (show bQ F [(k,d)] _ from#[v,[],rfl,hv,rfl]) h
end
end L2.DL
namespace HT
open PySem.W
theorem O5 (A:kR) (s:aq) {v:aj}{a b:aF}(p:n8 h v a) (q:n8 h u b) (hl:a.qA b=ah):∃ e,SeqAt.EqAt A s v u e /\ (e=ah ↔ a=b):=by
 cases a with
 |i n=>
   cases b with
   |i m=>let#[t,rfl]:=p;let#[t',rfl]:=q;show#[_,XT n t m t',by simp]
   |_=>cases hl
 |s x=>
   cases b with
   |s y=>let#[t,rfl]:=p;let#[t',rfl]:=q;show#[_,XU x t y t',by simp]
   |_=>cases hl
theorem O6 (A:kR) (s:aq) {v:aj}{a b:aF}(p:n8 h v a) (q:n8 h u b) (hl:a.qA b=ah) (prog:dE) (w:bY) (E:aj->aq->zw) (Q:aj->aq->zw) (k:Q (.bool<|a.lt b) s) :
 wpAny zd A (richCompare .Lt v u) Q E s:=by
 cases a with
 |i n=>
   cases b with
   |i m=>let#[t,rfl]:=p;let#[t',rfl]:=q;show(abf k)
   |_=>cases hl
 |s x=>
   cases b with
   |s y=>let#[t,rfl]:=p;let#[t',rfl]:=q;show(lt_str k)
   |_=>cases hl
section
open PySem.SeqAt
open PySem.AutoSeq1 (wpAny_loadPart')
open PySem.MeetsSeq PySem.MeetsSeq2 PySem.MeetsSeq3
theorem Bh (l b:ai) (items ua:Array aj) (n n2:Nat) (dd vn:Option ai) (sl vo:Array<|Option aj) (h0:aJ) (x y:List aF) (hi:eB h0 items.toList x) (hj:eB h0 ua.toList y) (hl:kq x y=ah) :
 Meets (Builtin.«tuple.__lt__» #[[.ref l,.ref b],[]])
  (λ_ R s=>s.heap.get? l=ae { cls:=.type "tuple",dict:=dd,data:=.seq items n,slots:=sl } /\ s.heap.get? b=ae { cls:=.type "tuple",dict:=vn,data:=.seq ua n2,slots:=vo } /\
   R (.ok<|.ret<|.bool<|cq x y) s):=
 .of_wp λprog w A R s h=>by
  let#[hp,g,d,tk,os]:=s;let#[hV,hb,h]:=h;have f2:=afK;have z1:items.size=x.length:=by rw[<-hi.length];simp
  have z2:ua.size=y.length:=by rw[<-hj.length];simp
  wp_walk using wpAny_loadPart' hV,wpAny_loadPart' hb,wpAny_forIn_list _ (λrest b s'=>b.1=ag /\ s'=#[hp,g,d,tk,os] /\ ∃ (vs ws:List aj) (p q:List aF),rest=vs.zip ws /\
   eB h0 vs p /\ eB h0 ws q /\ kq p q=ah /\ p.length+ua.size=q.length+items.size /\ R (.ok<|.ret<|.bool<|cq p q) #[hp,g,d,tk,os]) _
  case turn=>
   rintro⟨v,u⟩ rest b s' ⟨YO,rfl,vs,ws,p,q,hz,hv,hw,hk,hlen,hR⟩;cases hv with
   |nil=>rw[aaN]at hz;cases hz
   |@cons v' a vs p ha ah6=>
     cases hw with
     |nil=>rw[List.zip_nil_right]at hz;cases hz
     |@cons u' c ws q hc ah7=>
       rw[vT]at hz;injection hz with ah8 ah9;injection ah8 with hy hx;subst hy hx;erw[bN]at hlen;have ux:(a.qA c&&kq p q)=ah:=hk;rw[aQ]at ux;unfold cq at hR;let#[e,he,adJ]:=O5 A.in1 #[hp,g,d,tk,os] ha hc ux.1;refine ak<|he prog w _ _ ?_;cases e with
       |true=>
         rw[if_pos<|adJ.mp rfl]at hR
         wp_walk
         show#[rfl,rfl,_,_,_,_,ah9,ah6,ah7,ux.2,by lia,hR]
       |false=>
         rw[if_neg λq=>absurd (adJ.mpr q) dM]at hR;have aia:=O6 A.in1 #[hp,g,d,tk,os] ha hc ux.1 prog w
         wp_walk using aia
         show#[_,rfl,by simpa using hR]
  case fin=>
   rintro⟨b1,b2⟩ s' ⟨YO,rfl,vs,ws,p,q,hz,hv,hw,hk,hlen,hR⟩;simp only at YO;subst YO;have hx:cq p q=decide (items.size<ua.size):=by
    cases hv with
    |nil=>
      cases hw with
      |nil=>erw[qN]at hlen;unfold cq;show(decide_eq_false za).symm
      |cons c hw=>erw[qN,bN]at hlen;unfold cq;show(decide_eq_true za).symm
    |cons a hv=>
      cases hw with
      |nil=>erw[qN,bN]at hlen;unfold cq;show(decide_eq_false za).symm
      |cons c hw=>rw[vT]at hz;cases hz
   rw[hx]at hR
   wp_walk
   show#[_,rfl,by simpa[Builtin.Tuple.tupleCompareSizes] using hR]
  case h=>show⟨rfl,rfl,items.toList,ua.toList,x,y,rfl,hi,hj,hl,by lia,h⟩
end
theorem O7 {s:aq}{l b:ai}{ua:Array aj}{x y:List aF}(hl:IsTup s.heap l items) (hb:IsTup s.heap b ua) (hi:eB s.heap items.toList x) (hj:eB s.heap ua.toList y)
 (hk:kq x y=ah) (hu:A.units<cLine) (h:Q (.bool<|cq x y) s):wpAny zd A (compareOp .Lt (.ref l)<|.ref b) Q E s:=by
 let#[#[cls,dd,data,sl],ho,hc,n,hd]:=id hl;let#[#[acx,vn,data2,vo],qX,nI,n2,hd2]:=id hb;subst hc hd nI hd2;show richCompare_meets_room (op:=.Lt) #[_,ho,rfl] #[_,qX,rfl] PySem.F.slot_tuple_lt PySem.F.entry_tuple_lt (PySem.F.args_tuple_lt_2 _ _) (Bh l b items ua n n2 dd vn sl vo s.heap x y hi hj hk)
  #[ho,qX,#[(λx=>nomatch x),h]] hu
end HT
namespace L2.DL
open PySem.W
open HT (aF kq cq)
def YQ:R2:=λx y H Q=>∃ F a b vs us l m,x=.ref a /\ y=.ref b /\ Sub F H /\ F a=ae (.tup vs) /\ F b=ae (.tup us) /\ aH F (l.map p8) vs /\ aH F (m.map p8) us /\ kq l m=ah /\ Q (.bl<|cq l m) H
theorem Ua (hu:X.A.units<cLine):bA X (compareOp .Lt) YQ:=by
 intro pins s σ H x y v u Q I rx ry h;let#[F,a,b,vs,us,l,m,rfl,rfl,sub,fa,fb,da,db,k,q]:=h;cases rx;cases ry;let#[_,its,r1,p1]:=(I.aE a _<|sub _ _ fa);let#[_,tF,r2,p2]:=(I.aE b _<|sub _ _ fb);show HT.O7 p1 p2 (by simpa using D8 I sub da r1) (by simpa using D8 I sub db r2) k hu #[.bl _,H,I,rfl,q]
def eN:D->D->Option Res
 |.int i,.int j=>ae<|.old<|.bl<|decide (i<j)
 | .tup a,.tup b=>(match t8 a,t8 b with
   |some l,ae m=>if kq l m=ah then ae (.old<|.bl<|cq l m) else ag
   |_,_=>ag)
 |_,_=>ag
theorem Ub (hu:X.A.units<cLine):bA X (compareOp .Lt) (λx y H Q=>nH (λi j=>.bl<|decide (i<j)) x y H Q \/ YQ x y H Q):=Vs.or<|Ua hu
theorem aib:cA (λx y H Q=>nH (λi j=>.bl<|decide (i<j)) x y H Q \/ YQ x y H Q) eN:=by
 intro F H x y v w Q s sub rx ry e k;unfold eN at e;split at e
 .cases e;show .inl #[_,_,rx,ry,k _ _ #[rfl,rfl]]
 .split at e
  .ext l m e1 e2;split at e
   .ext c;cases e;rw[AF e1]at rx;rw[AF e2]at ry;let#[p,vs,rfl,h1,h2]:=rx;let#[q,us,rfl,h3,h4]:=ry;show .inr #[F,p,q,vs,us,l,m,rfl,rfl,sub,h1,h3,h2,h4,c,k _ _ #[rfl,rfl]]
   .cases e
  .cases e
 .cases e
section
variable {body:List cz} {mi:DE W} {g:DG} {m:aD}
end
end L2.DL
namespace L2
open PySem.W
theorem Ge (f:Nat->Int):∀ k j,j<=k->f j<=f (argBest (λi j=>decide (f i>f j)) k)
 |0,j,h=>by cases Nat.le_zero.mp h;show uq _
 | k+1,j,h=>by
   have ih:=Ge f k;change f j<=f (if _ then _ else _);split
   .ext q;have q:=of_decide_eq_true q;rcases aav h with h|rfl
    .have:=ih j<|aaw h;lia
    .show uq _
   .ext q;rcases aav h with h|rfl
    .show ih j<|aaw h
    .have:¬ f _>f _:=λz=>q<|decide_eq_true z;lia
theorem Gf:∀ {us:List aj}{ns:List Int},IntsAre us ns->∃ xs:List (Int×Tok),us=xs.map (λp=>.int p.1 p.2) /\ xs.map (·.1)=ns
 |_,_,.nil=>#[[],rfl,rfl]
 | _,_,.cons n t h=>by
   let#[xs,rfl,rfl]:=Gf h;show#[(n,t)::xs,rfl,rfl]
theorem JA (hc:X.calm=ah):hG X (.builtin "max") (λxs H Q=>∃ (a:ai) (ns:List Int) (m:Int),xs=[.ref a] /\ bZ X.K H a (ns.map V.int) /\ m∈ns /\ (∀ x∈ns,x<=m) /\ Q (.int m) H):=by
 intro pins s σ H xs us Q I r h;let#[a,ns,m,rfl,hl,hm,hg,q]:=h;let#[_,rfl,rfl]:=vals1 r;let#[its,r',pl,hz]:=I.list hl;let#[ps,rfl,rfl]:=Gf<|l5 r';have h0:0<ps.toArray.size:=by
  cases ps with
  |nil=>cases hm
  |cons p ps=>simp
 have e0:(ps.map λp=>Value.int p.1 p.2).toArray=intItems ps.toArray:=by simp[intItems]
 refine max_intList (I.ok.hd hc) (e0▸pl.isList) h0 λv h' tk hv kk=>?_;let#[t,rfl]:=intItems_at hv;have hb:=Ge (numAt ps.toArray)<|ps.toArray.size-1;generalize argBest _ _=b at hv hb;have em:numAt ps.toArray b=m:=by
  have vw:b<ps.length:=by
   have:=(Array.getElem?_eq_some_iff.mp hv).1;simpa[intItems] using this
  have e1:numAt ps.toArray b=ps[b].1:=by simp[numAt,vw]
  let#[p,mp,rfl]:=aK.mp hm;let#[j,hj,rfl]:=List.mem_iff_getElem.mp mp;have e2:numAt ps.toArray j=ps[j].1:=by simp[numAt,hj]
  have g1:=hb j zm;have g2:=hg ps[b].1<|aK.mpr #[_,ph vw,rfl];lia
 show#[.int m,H,I.kept kk,#[t,by rw[em]],q]
end L2
namespace L2.DL
open PySem.W
noncomputable def vM (i:Int) (l:List Int):Int:=l.foldl max i
theorem Fi:∀ (l:List Int) (i:Int),vM i l∈i::l /\ ∀ x∈i::l,x<=vM i l:=by
 intro l_;induction l_ with
 |nil=>show λi=>#[by simp[vM],λx m=>by cases c8.mp m;show uq _]
 |cons j l ay=>
   intro i;let#[h1,h2]:=ay _;change vM _ l∈_ /\ ∀ x∈_,x<=vM _ l;refine#[?_,λx m=>?_]
   .rcases aZ.mp h1 with h|h
    .rw[h];rcases Int.le_total i j with c|c
     .rw[Int.max_eq_right c];simp
     .rw[Int.max_eq_left c];simp
    .simp[h]
   .have hm:=h2 (max i j) zf;rcases aZ.mp m with rfl|m
    .lia
    .rcases aZ.mp m with rfl|m
     .lia
     .show h2 x (by simp[m])
def wM:List D->Option Res:=λxs=>match xs with
 |[.lst l]=>(match intsOf l with|some (i::ns)=>ae (.old<|.int<|vM i ns)|_=>ag)
 |_=>ag
theorem aic:k8 (λxs H Q=>∃ (a:ai) (ns:List Int) (m:Int),xs=[.ref a] /\ bZ K H a (ns.map V.int) /\ m∈ns /\ (∀ x∈ns,x<=m) /\ Q (.int m) H) wM:=by
 intro F H xs vs Q s sub rx e k;unfold wM at e;split at e
 .split at e
  .ext i ns e1;cases e;let#[v,t,rfl,#[a,ws,rfl,h3,h4],h2]:=rx;cases (h2);have q1:=h4.ints e1;subst q1;show#[a,i::ns,_,rfl,.of h3,(Fi ns i).1,(Fi ns i).2,k _ _ #[rfl,rfl]]
  .cases e
 .cases e
section
variable {o:au} 
def qC (k m:DE W):DE W:=λenv bx=>fA (k env bx) λy bx1=>fA (m env bx1) λx bx2=>match y,x with
 | .d (.tup d),.b n=>(match bx2[n]?,rF d with
   |some (.dT l),ae k=>.val (.d<|.bl (nv l k).isSome) bx2
   |_,_=>.bad)
 |_,_=>.bad
theorem RU {Q:VK}(h:tD T Z (qC mb ma) σ H Q):YD (tD T Z mb) (tD T Z ma) σ H Q:=by
 let#[F,r,env,bx,R,h]:=h;refine#[F,r,env,bx,R,End.bind h λy bx1 F1 r1 u H1 g1 R1 d1 h1=>#[F1,r1,env,bx1,R1,End.bind h1 λx bx2 F2 r2 v H2 g2 R2 d2 h2=>?_]];split at h2
 .let#[a,rfl,ha]:=d2;let#[c,hc,kc]:=R2.k6 ha;rw[hc]at h2;split at h2
  .ext l k e1 e2;cases e1;let#[hF,ao,k1,k2]:=kc;let#[b,us,rfl,f1,f2]:=(g2.den d1);cases Cc e2 f2;refine#[a,_,rfl,.inr #[ao,k,b,.inl k1,rfl,R2.fh _ _ f1,rfl],?_];have e:(km ao k).isSome=(nv l k).isSome:=by
    cases q:nv l k with
    |none=>rw[k2.get.2 q];rfl
    |some w=>let#[v2,e3,_]:=k2.get.1 _ q;rw[e3];rfl
   rw[e];show h2 F2 r2 _ H2 (.refl F2 r2) R2 zk
  .show h2.elim
 .show h2.elim
theorem Uc (hu:X.A.units+1<cLine) (hi:PD X T Z e mb) (ho:PD X T Z o ma) (hm:behindInMarks .In o=af):PD X T Z (.Compare e [.In] [o] pos) (qC mb ma):=
 PE.imp (Am (B8 hu hi ho) hm) λσ H Q h=>RU h
end
def yB (sub:Bool) (i:Nat) (m:DE W):aD:=λenv bx=>match env[i]? with
 |some (ae<|.d<|.int a)=>bW (m env bx) λw bx1=>(match w with|.d (.int b)=>.nx (env.set i<|ae<|.d<|.int (if sub then a-b else a+b)) bx1|_=>.bad)
 |_=>.bad
theorem VU {i:Nat}{D:Ends}(sub:Bool) (h:tS T Z (yB sub i ma) D σ H):acj i (tD T Z ma) (ack λa b=>if sub then a-b else a+b) D σ H:=by
 let#[F,r,env,bx,R,h]:=h;unfold yB at h;split at h
 .ext a q;let#[v,e1,e2]:=R.slot i _ q;cases (e2);refine#[.int a,e1,F,r,env,bx,R,End.bW h λw bx1 F1 r1 u H1 g1 R1 d1 h1=>?_];split at h1
  .ext b;cases (d1);show#[a,b,rfl,rfl,h1 F1 r1 _ H1 (.refl F1 r1)<|R1.set (w:=.d<|.int _) zk i]
  .show h1.elim
 .show h.elim
theorem O8 (i:Nat) (he:PD X T Z e ma) (hN:X.N.Nodup) (hi:X.N[i]?=ae x) (hx:Loc X.env.scope x) (hf:X.fn x=ah \/ X.env.scope.names.lookup x=ae .local):dH X T Z (.AugAssign (.Name x pos') .Add e pos) (yB af i ma):=
 PS.imp (SH hN hi hx he SI hf) λD σ H h=>VU af h
end L2.DL
namespace K1
open L2 L2.DL
def AN:aD:=(fK<|gE (lb "int"<|dV 0)<|Kg<|lb "bool"<|dV 0)
def jn:List W->List Bx->O W:=bq 1<|ba AN
def oR:aD:=(fK<|gE (fm K1.jn 1<|ff (dV 0) fj)<|d3 pH pH (dV 1) (dV 0)<|dV 2)
def fZ:List W->List Bx->O W:=bq 3<|ba oR
def AO:aD:=(fK<|gE (lb "tuple"<|dV 0)<|d3 pH pH (dV 1) (dN af cE<|ff (dV 0) fj)<|dV 2)
def gj:List W->List Bx->O W:=bq 3<|ba AO
def oS:aD:=(fK<|dN af dU<|ff (fN af [ag,ae 0] (tW<|ff zb<|ff (dN af cE<|ff (dV 0) fj) fj) (fg 0) fU<|d2 af eN (d2 af ax (dV 1)<|d2 af kg (dV 0) zb)<|d2 af ax (dV 1)<|dV 0) fj)
def g6:List W->List Bx->O W:=bq 1<|ba oS
def C4:aD:=(fK<|gE (fm K1.gj 3<|ff (dV 0)<|ff zb<|ff (dC<|.int 5) fj)<|dN af dU<|ff (fN af [ag] (bM<|dV 0) (fg 0) fU<|fm K1.fZ 3<|ff (dV 0)<|ff zi<|ff zA fj) fj)
def jL:List W->List Bx->O W:=bq 1<|ba C4
def C5:aD:=(fv (aS (nX (eJ<|dB<|fm K1.gj 3<|ff (dV 0)<|ff (d2 af fO zA zb)<|ff (d2 af fO zA zb) fj)<|eJ<|dB<|dN af dU<|ff (fN af [ag] (bM<|dV 0) (fg 0) fU<|fm K1.fZ 3<|ff (dV 0)<|ff zi<|ff (dC<|.int 9) fj) fj) (fK<|dC<|.bl af) aW)<|fK<|dN af dU<|ff (fN af [ag,ag] (sr<|ff (dV 0)<|ff (qz af (dV 0) (qy zb) qZ) fj) (fT 2<|fu (fg 0)<|fu (fg 1) fW) fU<|d2 af pH (dV 1)<|dV 0) fj)
def jM:List W->List Bx->O W:=bq 1<|ba C5
def JB:aD:=(fK<|gE (fm K1.gj 3<|ff (dV 0)<|ff zq<|ff zq fj)<|gE (fm K1.fZ 3<|ff (d2 af ax (dV 0) zi)<|ff zb<|ff (dC<|.int 999) fj)<|fm K1.jM 1<|ff (d2 af ax (dV 0) zb) fj)
def mj:List W->List Bx->O W:=bq 1<|ba JB
def C6:aD:=(fK<|gE (fm K1.gj 3<|ff (dV 0)<|ff zb<|ff (dC<|.int 4) fj)<|dN af dU<|ff (fN af [ag] (bM<|dV 0) (fg 0) fU<|fm K1.mj 1<|ff (dV 0) fj) fj)
def jN:List W->List Bx->O W:=bq 1<|ba C6
def oZ:aD:=(fv (aS (eJ<|dB<|fm K1.gj 3<|ff (dV 0)<|ff zq<|ff zq fj) (fK<|dC<|.bl af) aW)<|fK<|gE (dN af dU<|ff (fN af [ag,ae 1] (bM<|dV 0) (fg 0) fU<|fm K1.fZ 3<|ff (dV 0)<|ff zi<|ff (d2 af kg (dV 1) zb) fj) fj)<|d2 af eN (d2 af ax (dV 0) zi)<|d2 af ax (dV 0) zb)
def iD:List W->List Bx->O W:=bq 2<|ba oZ
def C7:aD:=(fv (aS (eJ<|dB<|lb "tuple"<|dV 0) (fK<|dC<|.bl af) aW)<|fK<|gE (dN af dU<|ff (fN af [ag,ae 1] (bM<|dV 0) (fg 0) fU<|fm K1.iD 2<|ff (dV 0)<|ff (dV 1) fj) fj)<|fm K1.g6 1<|ff (dV 0) fj)
def jO:List W->List Bx->O W:=bq 2<|ba C7
def Fj:aD:=(fv (aS (eJ<|dB<|fm K1.gj 3<|ff (dV 0)<|ff (dC<|.int 4)<|ff (dC<|.int 4) fj) (fK<|dC<|.bl af) aW)<|fv (fE (dV 0)<|fT 4<|fu (fg 1)<|fu (fg 2)<|fu (fg 3)<|fu (fg 4) fW)<|fK<|gE (fm K1.jL 1<|ff (dV 1) fj)<|gE (fm K1.jN 1<|ff (dV 2) fj)<|gE (fm K1.jO 2<|ff (dV 3)<|ff (dN af cE<|ff (dV 2) fj) fj)<|fm K1.fZ 3<|ff (dV 4)<|ff zb<|ff (dC<|.int 9) fj)
def lj:List W->List Bx->O W:=bq 5<|ba Fj
def jv:aD:=(fv (aS (dB<|d2 af eN (dV 1)<|uI<|dV 0) (fK<|ET (dV 0)<|dV 1) aW)<|fK zi)
def g9:List W->List Bx->O W:=bq 2<|ba jv
def jB:aD:=(fv (aS (dB<|d2 af ng (dV 0)<|d2 af yo (dC<|.int 10)<|dC<|.int 18) (fK<|gz ah<|ff (d2 af kg (dV 0)<|d2 af yo (dC<|.int 10)<|dC<|.int 18) fj) aW)<|fv (fE zi<|fg 1)<|fv (iQ (ka<|ff (dC<|.int 64) fj) (fg 2)<|fv (fE (d2 af p5 (d2 af dI (d2 af fO (d2 af fO (d2 af p5 (dV 0)<|dC<|.int 2147483629)<|d2 af dI (dC<|.int 7919)<|dV 2) zb)<|dC<|.int 48271)<|dC<|.int 2147483647)<|fg 3)<|fv (fE (d2 af p5 (d2 af fO (d2 af fO (d2 af dI (dV 3)<|dV 3)<|d2 af dI (dC<|.int 69621)<|dV 2)<|dC<|.int 7)<|dC<|.int 2147483587)<|fg 3)<|fE (d2 af fO (d2 af dI (dV 1)<|dC<|.int 2147483587)<|dV 3)<|fg 1)<|fK<|gz ah<|ff (dV 1) fj)
def jP:List W->List Bx->O W:=bq 4<|ba jB
def AQ:aD:=(fv (fE (d2 af p5 (d2 af ax (dV 0) zi)<|dV 1)<|fg 2)<|fv (fE (d2 af wt (d2 af ax (dV 0) zi)<|dV 1)<|ES (dV 0) zi)<|fK<|dV 2)
def fq:List W->List Bx->O W:=bq 3<|ba AQ
def lU:aD:=(fv (fE (d2 af ax (gz af<|ff (dC<|.int 9)<|ff zA<|ff zb<|ff (dC<|.int 9) fj)<|fm K1.fq 2<|ff (dV 0)<|ff (dC<|.int 4) fj)<|fg 1)<|fv (fE (Ko af<|dN af dQ<|ff (fN af [ag,ae 0,ae 1] (ka<|ff (dC<|.int 4) fj) (fg 0) fU<|fm K1.fq 2<|ff (dV 1)<|ff (d2 af fO (dV 2) zb) fj) fj)<|fg 2)<|fK<|gn<|ff (d2 af ax (gz af<|ff (dC<|.int 30)<|ff (d2 af fO zb<|fm K1.fq 2<|ff (dV 0)<|ff (dC<|.int 20) fj)<|ff (dC<|.int 999)<|ff (dC<|.int 8) fj)<|fm K1.fq 2<|ff (dV 0)<|ff (dC<|.int 4) fj)<|ff (dN af vv<|ff (dV 2) fj) fj)
def ia:List W->List Bx->O W:=bq 3<|ba lU
end K1
namespace K2
open L2 L2.DL
def Fk:aD:=(fv (kK 2 3<|ff (gz ah fj)<|ff (fm K1.fq 2<|ff (dV 0)<|ff (dV 1) fj) fj)<|fv (iQ (ka<|ff (d2 af ax (gz af<|ff zi<|ff zb<|ff zq<|ff (dC<|.int 4) fj)<|fm K1.fq 2<|ff (dV 0)<|ff (dC<|.int 4) fj) fj) (fg 4)<|fv (fV<|kh (dV 2)<|gn<|ff (dV 3)<|ff (d2 af fO (d2 af fO (dV 3) zb)<|fm K1.fq 2<|ff (dV 0)<|ff (dV 1) fj) fj)<|fE (d2 af fO (d2 af fO (d2 af ax (d2 af ax (dV 2)<|p6 zb) zb) zb)<|fm K1.fq 2<|ff (dV 0)<|ff (dV 1) fj)<|fg 3)<|fK<|dN af vv<|ff (dV 2) fj)
def jo:List W->List Bx->O W:=bq 5<|ba Fk
def jp:aD:=(fK<|dN af dU<|ff (fN af [ag,ag] (sr<|ff (dV 0)<|ff (qz af (dV 0) (qy zb) qZ) fj) (fT 2<|fu (fg 0)<|fu (fg 1) fW) fU<|d2 af eN (d2 af ax (dV 0) zb)<|d2 af ax (dV 1) zi) fj)
def jQ:List W->List Bx->O W:=bq 1<|ba jp
def BJ:aD:=(fK<|gE (fm K1.jn 1<|ff (dV 0) fj)<|d2 af ng (dV 0) zi)
def iE:List W->List Bx->O W:=bq 1<|ba BJ
def Mb:aD:=(fK<|gE (fm K1.gj 3<|ff (dV 0)<|ff zq<|ff zq fj)<|gE (fm K2.iE 1<|ff (d2 af ax (dV 0) zi) fj)<|gE (fm K2.iE 1<|ff (d2 af ax (dV 0) zb) fj)<|d2 af eN (d2 af ax (dV 0) zi)<|d2 af ax (dV 0) zb)
def oj:List W->List Bx->O W:=bq 1<|ba Mb
def jf:aD:=(fv (fE (d2 af ax (d2 af ax (dV 0) zi)<|dV 2)<|fg 4)<|fv (iQ (bM<|dV 1) (fT 2<|fu (fg 5)<|fu (fg 6) fW)<|aS (dB<|d3 pH eN (dV 5) (dV 3)<|dV 6) (fK<|dN af maxD<|ff zi<|ff (d2 af kg (dV 4)<|d2 af wt (d2 af kg (dV 3)<|dV 5)<|d2 af ax (dV 0) zA) fj) aW)<|fK<|dV 4)
def iS:List W->List Bx->O W:=bq 7<|ba jf
end K2
namespace bF
open L2 L2.DL
def jR:aD:=(aS (eJ<|dB<|fm K1.lj 1<|ff (dV 0) fj) dX aW)
def iL:List W->List Bx->O W:=bq 1<|ba jR
end bF
namespace aT
open L2 L2.DL
def C8:aD:=(fv (fE (dN af vv<|ff (fN af [ag,ae 0] (ka<|ff (d2 af fO zb<|fm K1.fq 2<|ff (dV 0)<|ff (dC<|.int 5) fj) fj) (fg 0) fU<|fm K1.fq 2<|ff (dV 1)<|ff (dC<|.int 4) fj) fj)<|fg 1)<|fv (fE (dN af vv<|ff (fN af [ag,ae 0] (ka<|ff (d2 af fO zb<|fm K1.fq 2<|ff (dV 0)<|ff (dC<|.int 4) fj) fj) (fg 0) fU<|fm K1.ia 1<|ff (dV 1) fj) fj)<|fg 2)<|fv (fE (gz af fj)<|fg 3)<|fv (iQ (ka<|ff (dN af cE<|ff (dV 2) fj) fj) (fg 4)<|fE (d2 af fO (dV 3)<|fN af [ag,ae 0,ae 4] (ka<|ff (dV 4) fj) (fg 0) (dB<|d2 af aX (fm K1.fq 2<|ff (dV 1)<|ff zA fj) zi)<|gn<|ff (dV 0)<|ff (dV 2) fj)<|fg 3)<|fK<|gn<|ff (dV 1)<|ff (dV 2)<|ff (dN af vv<|ff (dN af dQ<|ff (dV 3) fj) fj)<|ff (d2 af ax (gz af<|ff zb<|ff zq<|ff (dC<|.int 9)<|ff (d2 af fO zb<|fm K1.fq 2<|ff (dV 0)<|ff (dC<|.int 9) fj) fj)<|fm K1.fq 2<|ff (dV 0)<|ff (dC<|.int 4) fj) fj)
def iV:List W->List Bx->O W:=bq 5<|ba C8
def jC:aD:=(fv (kK 2 3<|ff (d2 af kg (dN af cE<|ff (d2 af ax (dV 0) zb) fj) zb)<|ff (d2 af kg (dN af cE<|ff (d2 af ax (dV 0) zi) fj) zb) fj)<|fv (aS (dB<|d2 af aX (dV 1)<|dC<|.str "in") (fK<|gn<|ff (dC<|.int 9)<|ff (dV 2)<|ff (dV 3)<|ff (dC<|.int 999)<|ff (dC<|.int 99) fj) aW)<|fv (aS (dB<|d2 af aX (dV 1)<|dC<|.str "out") (fK<|gn<|ff (dC<|.int 9) fj) aW)<|fv (aS (dB<|d2 af aX (dV 1)<|dC<|.str "to") (fK<|gn<|ff (dC<|.int 9)<|ff (dV 3) fj) aW)<|fK<|gn fj)
def ib:List W->List Bx->O W:=bq 4<|ba jC
def JC:aD:=(fv (aS (nX (eJ<|dB<|lb "tuple"<|dV 1)<|nX (dB<|d2 af eN (dN af cE<|ff (dV 1) fj) zA)<|eJ<|dB<|fm K2.iE 1<|ff (d2 af ax (dV 1) zi) fj) (fK<|dC<|.bl af) aW)<|fv (fE (fm aT.ib 2<|ff (dV 0)<|ff (d2 af ax (dV 1) zb) fj)<|fg 2)<|fv (aS (dB<|d2 af eA (dN af cE<|ff (dV 2) fj)<|d2 af kg (dN af cE<|ff (dV 1) fj) zq) (fK<|dC<|.bl af) aW)<|fK<|dN af dU<|ff (fN af [ag,ag] (sr<|ff (qz af (dV 1) (qy zq) qZ)<|ff (dV 2) fj) (fT 2<|fu (fg 0)<|fu (fg 1) fW) fU<|fm K1.fZ 3<|ff (dV 0)<|ff zi<|ff (dV 1) fj) fj)
def jS:List W->List Bx->O W:=bq 3<|ba JC
def C9:aD:=(fv (aS (nX (eJ<|dB<|lb "list"<|dV 1)<|dB<|d2 af n6 (dN af cE<|ff (dV 1) fj)<|dC<|.int 16) (fK<|dC<|.bl af) aW)<|fK<|gE (dN af dU<|ff (fN af [ag,ae 0] (bM<|dV 1) (fg 0) fU<|fm aT.jS 2<|ff (dV 1)<|ff (dV 0) fj) fj)<|fm K1.g6 1<|ff (dN af dQ<|ff (dV 1) fj) fj)
def jT:List W->List Bx->O W:=bq 2<|ba C9
def jU:aD:=(fv (fV<|fm bF.iL 1<|ff (dV 0) fj)<|aS (eJ<|dB<|fm aT.jT 2<|ff (dV 0)<|ff (dV 1) fj) dX aW)
def gH:List W->List Bx->O W:=bq 2<|ba jU
def lw:aD:=(fv (aS (dB<|d2 af aX (d2 af ax (dV 0) zb)<|dC<|.str "in") (fK<|d2 af ax (dV 0)<|dC<|.int 4) aW)<|fv (aS (dB<|d2 af aX (d2 af ax (dV 0) zb)<|dC<|.str "to") (fK<|d2 af ax (dV 0) zA) aW)<|fK<|dC .aC)
def fM:List W->List Bx->O W:=bq 1<|ba lw
def Db:aD:=(fK<|d2 af (inD ah) (gn<|ff (dN af minD<|ff (dV 1)<|ff (dV 2) fj)<|ff (dN af maxD<|ff (dV 1)<|ff (dV 2) fj) fj)<|d2 af ax (dV 0) zq)
def iW:List W->List Bx->O W:=bq 3<|ba Db
def mn:aD:=(fv (kK 4 5<|ff (d2 af ax (dV 3) zb)<|ff (d2 af ax (dV 3) zq) fj)<|fv (aS (k9 (dB<|d2 af aX (dV 4)<|dC<|.str "in")<|dB<|ni af (dV 5)<|dV 1) (fK<|dC<|.str "there") aW)<|fv (aS (k9 (dB<|d2 af eA (dV 4)<|dC<|.str "in")<|dB<|ni ah (dV 5)<|dV 2) (fK<|dC<|.str "none") aW)<|fv (aS (dB<|d2 af aX (dV 4)<|dC<|.str "out") (fK<|dC<|.str "takes") aW)<|fv (fE (fm aT.fM 1<|ff (dV 3) fj)<|fg 6)<|fv (aS (k9 (dB<|d2 af aX (dV 4)<|dC<|.str "to")<|dB<|d2 af aX (dA (dV 2)<|dV 5)<|dV 6) (fK<|dC<|.str "same") aW)<|fv (fE (pY (dB<|d2 af aX (dV 4)<|dC<|.str "in") (d2 af ax (dV 3) zA)<|dA (dV 1)<|dV 5)<|fg 7)<|fv (fE (wL af [ag,ae 2,ae 6] 2 (fg 0) (dB<|d2 af aX (dA (dV 1)<|dV 0)<|dV 2)<|dV 0)<|fg 8)<|fv (aS (dB<|dN af dU<|ff (fN af [ag,ae 0,ae 1,ae 7] (bM<|dV 8) (fg 0) fU<|fm aT.iW 3<|ff (dV 1)<|ff (dV 3)<|ff (dA (dV 2)<|dV 0) fj) fj) (fK<|dC<|.str "takes") aW)<|fK<|dC<|.str "apart")
def iO:List W->List Bx->O W:=bq 9<|ba mn
def Mc:aD:=(fv (fE (gz ah fj)<|fg 2)<|fv (fE (pI ah [])<|fg 3)<|fv (fE (pI ah [])<|fg 4)<|fv (iQ (bM<|dN af dQ<|ff (dV 1) fj) (fg 5)<|fv (fE (d2 af ax (dV 5) zq)<|fg 6)<|fv (fE (fm aT.iO 4<|ff (dV 0)<|ff (dV 3)<|ff (dV 4)<|ff (dV 5) fj)<|fg 7) zt)<|fK<|sq 2)
def Cg:List W->List Bx->O W:=bq 8<|ba Mc
end aT
namespace bS
open L2 L2.DL
def ly:aD:=(fv (fE (pI ah [])<|fg 2)<|fv (iQ (bM<|dV 0) (fT 3<|fu (fg 3)<|fu (fg 4)<|fu (fg 5) fW)<|fv (aS (dB<|d2 af n6 (d2 af ax (dV 3) zi)<|dV 1) Kh aW)<|aS (dB<|nj af<|dV 5) (uS (dV 2)<|d2 af ax (dV 3) zq)<|pM (dV 2) (d2 af ax (dV 3) zq)<|dV 5)<|fK<|sq 2)
def gU:List W->List Bx->O W:=bq 6<|ba ly
def Bj:aD:=(fK<|fN af [ag,ag,ag,ag] (bM<|fm aT.Cg 2<|ff (dV 0)<|ff (dV 1) fj) (fT 4<|fu (fg 0)<|fu (fg 1)<|fu (fg 2)<|fu (fg 3) fW) (dB<|d2 af aX (dV 1)<|dC<|.str "takes")<|gn<|ff (dV 0)<|ff (dV 2)<|ff (dV 3) fj)
def gk:List W->List Bx->O W:=bq 2<|ba Bj
end bS
namespace aU
open L2 L2.DL
noncomputable section
def AR:aD:=(fv (fV<|fm bF.iL 1<|ff (dV 0) fj)<|fK<|gE (fm K1.gj 3<|ff (dV 1)<|ff zi<|ff (dC<|.int 4) fj)<|gE (dN af dU<|ff (fN af [ag] (bM<|dV 1) (fg 0) fU<|fm K2.oj 1<|ff (dV 0) fj) fj)<|fm K2.jQ 1<|ff (dV 1) fj)
def lA:List W->List Bx->O W:=bq 2<|ba AR
def oT:aD:=(aS (eJ<|dB<|fm aU.lA 2<|ff (dV 0)<|ff (dV 1) fj) dX aW)
def ic:List W->List Bx->O W:=bq 2<|ba oT
def Bl:aD:=(fv (fV<|fm aU.ic 2<|ff (dV 0)<|ff (dV 1) fj)<|fv (fV<|fm aT.gH 2<|ff (dV 0)<|ff (dV 2) fj)<|aS (eJ<|dB<|fm K1.fZ 3<|ff (dV 3)<|ff zi<|ff (dC<|.int 9) fj) dX aW)
def ie:List W->List Bx->O W:=bq 4<|ba Bl
def Dc:aD:=(aS (eJ<|dB<|fm K2.iE 1<|ff (dV 0) fj) dX aW)
def ig:List W->List Bx->O W:=bq 1<|ba Dc
def Dd:aD:=(fv (iQ (bM<|dV 0) (fT 3<|fu (fg 2)<|fu (fg 3)<|fu (fg 4) fW)<|aS (k9 (dB<|d2 af aX (d2 af ax (dV 2) zb)<|dC<|.str "in")<|dB<|d2 af aX (d2 af ax (dV 2) zq)<|dV 1) (fK<|dV 2) aW)<|fK<|dC .aC)
def gu:List W->List Bx->O W:=bq 5<|ba Dd
def ij:aD:=(fv (fE (gz ah fj)<|fg 2)<|fv (iQ (bM<|dV 1) (fT 2<|fu (fg 3)<|fu (fg 4) fW)<|fv (fV<|sF (dV 2)<|gz af<|ff (dV 3)<|ff (dV 4) fj)<|fV<|sF (dV 2)<|fN af [ag,ae 0,ae 3] (tW<|ff zb<|ff (d2 af fO zA zb) fj) (fg 0) fU<|d2 af fO (dV 2)<|d2 af dI (dV 0)<|d2 af ax (dV 1) zA)<|fK<|dV 2)
def gW:List W->List Bx->O W:=bq 5<|ba ij
def De:aD:=(fK<|dN af He<|ff (fN af [ag,ag,ag,ae 1,ae 2] (bM<|dV 0) (fT 3<|fu (fg 0)<|fu (fg 1)<|fu (fg 2) fW) fU<|gE (d2 af aX (d2 af ax (dV 0) zi)<|dV 4)<|d2 af (inD af) (dV 3)<|gn<|ff (dV 1)<|ff (dV 2) fj) fj)
def iX:List W->List Bx->O W:=bq 3<|ba De
def Df:aD:=(fv (fE (fm bS.gU 2<|ff (dV 2)<|ff (dV 4) fj)<|fg 5)<|fv (aS (dB<|ni ah (d2 af ax (dV 3) zq)<|dV 5) (fK zi) aW)<|fv (fE (dA (dV 5)<|d2 af ax (dV 3) zq)<|fg 6)<|fv (fE (fm K2.iS 4<|ff (dV 0)<|ff (dV 1)<|ff (dV 6)<|ff (dV 4) fj)<|fg 7)<|fv (aS (dB<|fm aU.iX 3<|ff (dV 2)<|ff (dV 6)<|ff (dV 4) fj) (fE (dN af maxD<|ff zi<|ff (d2 af kg (dV 7) zb) fj)<|fg 7) aW)<|fK<|d2 af ax (d2 af ax (d2 af ax (d2 af ax (dV 0) zb)<|d2 af ax (dV 3) zA) zb)<|dV 7)
def iY:List W->List Bx->O W:=bq 8<|ba Df
def Dg:aD:=(fv (fE (fm aU.gW 2<|ff (dV 0)<|ff (dV 1) fj)<|fg 4)<|fv (iQ (bM<|dV 2) (fT 3<|fu (fg 5)<|fu (fg 6)<|fu (fg 7) fW)<|fV<|sF (dV 4)<|gz af<|ff (d2 af ax (dV 5) zi)<|ff (d2 af fO (d2 af ax (dV 5) zi) zb) fj)<|fv (fE (fN af [ag,ae 3] (bM<|dN af wJ<|ff (dV 4) fj) (fg 0) (dB<|d2 af ng (dV 0)<|d2 af ax (dV 1) zi)<|dV 0)<|fg 8)<|fv (fE (d2 af fO (qz af (dV 8) (qy zb) qZ)<|gz af<|ff (dC .aC) fj)<|fg 9)<|fK<|fN af [ag,ag,ae 0,ae 1,ae 2,ae 3] (sr<|ff (dV 8)<|ff (dV 9) fj) (fT 2<|fu (fg 0)<|fu (fg 1) fW) fU<|gn<|ff (dV 0)<|ff (dV 1)<|ff (fm aU.iY 5<|ff (dV 2)<|ff (dV 3)<|ff (dV 4)<|ff (dV 5)<|ff (dV 0) fj) fj)
def jV:List W->List Bx->O W:=bq 10<|ba Dg
def JD:aD:=(fv (fE (d2 af ax (dV 3)<|dC<|.int 5)<|fg 5)<|fv (iQ (bM<|fm aU.jV 4<|ff (dV 0)<|ff (dV 1)<|ff (dV 2)<|ff (dV 3) fj) (fT 3<|fu (fg 6)<|fu (fg 7)<|fu (fg 8) fW)<|fv (fE (pY (dB<|nj af<|dV 7) (dV 4)<|dN af minD<|ff (dV 7)<|ff (dV 4) fj)<|fg 9)<|yB af 5<|d2 af dI (dV 8)<|dN af maxD<|ff zi<|ff (d2 af kg (dV 9)<|dV 6) fj)<|fK<|dV 5)
def gq:List W->List Bx->O W:=bq 10<|ba JD
def Fl:aD:=(fv (fV<|fm aU.ie 4<|ff (dV 0)<|ff (dV 1)<|ff (dV 2)<|ff (dV 3) fj)<|fv (fV<|fm aU.ig 1<|ff (dV 4) fj)<|fv (fE (fm bS.gk 2<|ff (dV 0)<|ff (dV 2) fj)<|fg 5)<|fv (fE (fm aU.gu 2<|ff (dV 5)<|ff (dV 3) fj)<|fg 6)<|fv (aS (nX (dB<|nj af<|dV 6)<|dB<|d2 af n6 (d2 af ax (dV 6) zi)<|dV 4) (fK<|dC .aC) aW)<|fK<|fm aU.gq 5<|ff (dV 0)<|ff (dV 1)<|ff (dV 5)<|ff (dV 6)<|ff (dV 4) fj)
def gM:List W->List Bx->O W:=bq 7<|ba Fl
def Fm:aD:=(fK<|d2 af ax (d2 af ax (d2 af ax (dV 0) zb)<|d2 af ax (dV 1) zA) zi)
def gZ:List W->List Bx->O W:=bq 2<|ba Fm
end
end aU
namespace L2.DL
section
variable {β:Type}
@[simp] theorem fR {a:α}{k:α->List Bx->O β}:fA (.val a bx) k=k a bx:=rfl
@[simp] theorem W4 {k:α->List Bx->O β}:fA .bad k=.bad:=rfl
@[simp] theorem jW {a:α}{k:α->List Bx->OS}:bW (.val a bx) k=k a bx:=rfl
@[simp] theorem W5 {k:α->List Bx->OS}:bW (.bad:O α) k=.bad:=rfl
@[simp] theorem Bm {a:α}{k:α->List Bx->O β}:bindB (.val a bx) k=k a bx:=rfl
end
@[simp] theorem jD {i:Nat}:dV i env bx=match env[i]? with|some (ae w)=>.val w bx|_=>.bad:=rfl
@[simp] theorem WR {d:D}:dC d env bx=.val (.d d) bx:=rfl
@[simp] theorem Ud:fj env bx=.val [] bx:=rfl
@[simp] theorem Gg {k:DE (List W)}:ff m k env bx=fA (m env bx) λw bx1=>fA (k env bx1) λl bx2=>.val (w::l) bx2:=rfl
@[simp] theorem O9 {k:DE (List W)}:fm fn n k env bx=fA (k env bx) λws bx1=>if ws.length=n then fn ws bx1 else .bad:=rfl
@[simp] theorem WS:dB m env bx=fA (m env bx) λw bx1=>match w with|.d (.bl k)=>.val k bx1|_=>.bad:=rfl
@[simp] theorem Md {m k:DE Bool}:k9 m k env bx=fA (m env bx) λb bx1=>match b with|true=>k env bx1|false=>.val af bx1:=rfl
@[simp] theorem RV {m k:DE Bool}:nX m k env bx=fA (m env bx) λb bx1=>match b with|true=>.val ah bx1|false=>k env bx1:=rfl
@[simp] theorem Ue {m:DE Bool}:eJ m env bx=fA (m env bx) λb bx1=>.val (!b) bx1:=rfl
@[simp] theorem Pa {k:DE W}:gE m k env bx=fA (m env bx) λw bx1=>match w with|.d (.bl ah)=>k env bx1|.d (.bl af)=>.val (.d<|.bl af) bx1|_=>.bad:=rfl
@[simp] theorem WK:Kg m env bx=fA (m env bx) λw bx1=>match w with|.d (.bl k)=>.val (.d<|.bl<|!k) bx1|_=>.bad:=rfl
@[simp] theorem Pb:fU env bx=.val ah bx:=rfl
@[simp] theorem WL {n:String}:lb n m env bx=fA (m env bx) λw bx1=>match bR bx1 w with|some d=>.val (.d<|.bl<|vt (sh d) n) bx1|none=>.bad:=rfl
@[simp] theorem Me {b:Bool}:d2 b g ma mb env bx=fA (ma env bx) λx bx1=>fA (mb env bx1) λy bx2=>ck b ((bR bx2 x).bind λp=>(bR bx2 y).bind λq=>g p q) bx2:=rfl
@[simp] theorem Mf {b:Bool}{g:List D->Option Res}{k:DE (List W)}:dN b g k env bx=fA (k env bx) λws bx1=>ck b ((k7 bx1 ws).bind g) bx1:=rfl
@[simp] theorem W6 {g':D->D->Option Res}:d3 g g' ma mb mc env bx=fA (ma env bx) λx bx1=>fA (mb env bx1) λy bx2=>
 fA (ck af ((bR bx2 x).bind λp=>(bR bx2 y).bind λq=>g p q) bx2) λz cM=>match z with
  |.d (.bl ah)=>fA (mc env cM) λw kJ=>ck af ((bR kJ y).bind λp=>(bR kJ w).bind λq=>g' p q) kJ
  |.d (.bl af)=>.val (.d<|.bl af) cM
  |_=>.bad:=rfl
@[simp] theorem AS {d:D}:bR bx (.d d)=ae d:=rfl
@[simp] theorem Mg:k7 bx []=ae []:=rfl
@[simp] theorem Mh {d:D}{l:List W}:k7 bx (.d d::l)=(k7 bx l).map λt=>d::t:=by
 erw[k7];cases k7 bx l<;>rfl
@[simp] theorem Vj {b:Bool}:ck b ag bx=.bad:=rfl
@[simp] theorem iF {q:Res}:ck af (ae q) bx=.val (.d q.toD) bx:=by cases q<;>rfl
@[simp] theorem WT {l:List D}:ck ah (ae<|.lst l) bx=.val (.b bx.length) (bx++[.lst l]):=rfl
@[simp] theorem Gh {d:D}:(Res.old d).toD=d:=rfl
@[simp] theorem Pc {l:List D}:(Res.tup l).toD=.tup l:=rfl
@[simp] theorem lK {l:List D}:(Res.lst l).toD=.lst l:=rfl
@[simp] theorem WM {l:List (Key×D)}:(Res.aB l).toD=.aB l:=rfl
@[simp] theorem WU:aW env bx=.nx env bx:=rfl
@[simp] theorem lB {m k:aD}:fv m k env bx=match m env bx with|.nx env1 bx1=>k env1 bx1|o=>o:=rfl
@[simp] theorem Pd:fV m env bx=bW (m env bx) λ_ bx1=>.nx env bx1:=rfl
@[simp] theorem Mi:fK m env bx=bW (m env bx) λw bx1=>.rt w bx1:=rfl
@[simp] theorem RW {t:DE Bool}{m k:aD}:aS t m k env bx=bW (t env bx) λb bx1=>match b with|true=>m env bx1|false=>k env bx1:=rfl
@[simp] theorem Fn {g:DG}:fE m g env bx=bW (m env bx) λw bx1=>match g w env bx1 with|some (env1,bx2)=>.nx env1 bx2|none=>.bad:=rfl
@[simp] theorem Uf {m:DE (List W)}{g:DG}{body:aD}:iQ m g body env bx=bW (m env bx) λds bx1=>bX g body ds env bx1:=rfl
@[simp] theorem Dh {i:Nat}{w:W}:fg i w env bx=ae (env.set i<|ae w,bx):=rfl
@[simp] theorem WN:fW [] env bx=ae (env,bx):=rfl
@[simp] theorem VV {g:DG}{k:p4}{w:W}{l:List W}:fu g k (w::l) env bx=(g w env bx).bind λ(env1,bx1)=>k l env1 bx1:=rfl
@[simp] theorem WO {k:p4}{l:List D}:fT n k (.d<|.tup l) env bx=if l.length=n then k (l.map W.d) env bx else ag:=rfl
@[simp] theorem Ch {src:List (Option Nat)}{g:DG}:fN bo src mi g tf te env bx=fA (mi env bx) λds bx1=>fA (cj g tf te ds (hZ src env) bx1 []) λl bx2=>ck bo (ae<|.lst l) bx2:=rfl
@[simp] theorem AT:hZ [] env=[]:=rfl
@[simp] theorem oU {l:List (Option Nat)}:hZ (ag::l) env=ag::hZ l env:=rfl
@[simp] theorem oV {i:Nat}{l:List (Option Nat)}:hZ (ae i::l) env=((env[i]?).bind id)::hZ l env:=rfl
@[simp] theorem Gi:bM m env bx=fA (m env bx) λw bx1=>match w with|.d (.lst l)=>.val (l.map W.d) bx1|.d (.tup l)=>.val (l.map W.d) bx1|_=>.bad:=rfl
@[simp] theorem Ug {k:DE (List W)}:gn k env bx=fA (k env bx) λws bx1=>ck af ((pZ ws).bind λl=>if l.length<=sizeLine then ae (.tup l) else ag) bx1:=rfl
@[simp] theorem Mj {k:DE (List W)}:gz bo k env bx=fA (k env bx) λws bx1=>ck bo ((pZ ws).bind λl=>if l.length<=sizeLine then ae (.lst l) else ag) bx1:=rfl
@[simp] theorem VW:pZ []=ae []:=rfl
@[simp] theorem Uh {d:D}{l:List W}:pZ (.d d::l)=(pZ l).map λt=>d::t:=rfl
@[simp] theorem Ui:p6 m env bx=fA (m env bx) λw bx1=>match w with|.d (.int i)=>.val (.d<|.int<|-i) bx1|_=>.bad:=rfl
@[simp] theorem VX {l u:DE (Option Int)}:qz bo m l u env bx=fA (m env bx) λx bx1=>fA (l env bx1) λi bx2=>fA (u env bx2) λj cM=>ck bo ((bR cM x).bind λd=>vz d i j) cM:=rfl
@[simp] theorem W3:qZ env bx=.val ag bx:=rfl
@[simp] theorem Pe:qy m env bx=fA (m env bx) λw bx1=>match w with|.d (.int i)=>.val (ae i) bx1|_=>.bad:=rfl
@[simp] theorem WV:Ko bo m env bx=fA (m env bx) λx bx1=>ck bo ((bR bx1 x).bind λd=>match d with|.lst l=>ae (.lst l.reverse)|_=>ag) bx1:=rfl
theorem f7 {m:aD}{ws:List W}{d:D}(h:m (ws.map ae++List.replicate (n-ws.length) ag) bx=.rt (.d d) bx):bq n (ba m) ws bx=.val (.d d) bx:=by
 simp[bq,ba,DL.envOf,h,qu,qv,Xp]
end L2.DL
namespace K1
open L2 L2.DL
noncomputable def wh:D->Bool
 |.int _=>ah
 |_=>af
noncomputable def wi (d:D) (lo hi:Int):Bool:=match d with
 |.int i=>decide (lo<=i)&&decide (i<=hi)
 |_=>af
noncomputable def tl (d:D) (lo hi:Int):Bool:=match d with
 |.tup l=>decide (lo<=(l.length:Int))&&decide ((l.length:Int)<=hi)
 |_=>af
theorem Uj (d:D):vt (sh d) "int"=(match d with|.int _=>ah|.bl _=>ah|_=>af):=by cases d<;>rfl
theorem Pf (d:D):vt (sh d) "bool"=(match d with|.bl _=>ah|_=>af):=by cases d<;>rfl
theorem Uk (d:D):vt (sh d) "tuple"=(match d with|.tup _=>ah|_=>af):=by cases d<;>rfl
theorem Di (d:D) (bx:List Bx):jn [.d d] bx=.val (.d<|.bl<|wh d) bx:=
 f7 (by cases d<;>simp[AN,Uj,Pf,wh])
theorem om (d:D) (lo hi:Int) (bx:List Bx):fZ [.d d,.d<|.int lo,.d<|.int hi] bx=.val (.d<|.bl<|wi d lo hi) bx:=
 f7 (by
  cases d<;>simp[oR,Di,wh,wi,pH];ext i;by_cases h:lo<=i<;>simp[h])
theorem Mk (d:D) (lo hi:Int) (bx:List Bx):gj [.d d,.d<|.int lo,.d<|.int hi] bx=.val (.d<|.bl<|tl d lo hi) bx:=
 f7 (by
  cases d<;>simp[AO,Uk,tl,pH,cE];ext l;by_cases h:lo<=(l.length)<;>simp[h])
theorem Ph {g:DG}(J:bf->zw) (p:D->Bool) (f:D->D):∀ (l:List D) (env:bf) (acc:List D),J env ->
 (∀ d∈l,∀ env,J env->∃ bp,g (.d d) env bx=ae (bp,bx) /\ J bp /\ tf bp bx=.val (p d) bx /\ (p d=ah->te bp bx=.val (.d<|f d) bx))->acc.length+l.length<=sizeLine ->
 cj g tf te (l.map W.d) env bx acc=.val (acc++(l.filter p).map f) bx:=by
 intro l_;induction l_ with
 |nil=>(intro env acc _ _ _;simp[cj])
 |cons d l ay=>
   intro env acc j h n;let#[bp,e1,j',e2,e3]:=h d (bw ..) env j;have n':acc.length<sizeLine:=by simp[bN]at n;lia
   simp[aM,cj,e1,e2];have h':=λx (m)=>h x<|bG _ m;cases q:p d with
   |false=>
     simp[sQ,q];show ay bp acc j' h' (by simp[bN]at n;lia)
   |true=>
     simp[sQ,q,e3 q,Bm,if_pos n'];rw[ay bp _ j' h' (by simp[cB,bN,qN]at n ⊢;lia)];simp
theorem AU {g:DG}(J:bf->zw) (f:D->D) {l:List D}(j:J env) (h:∀ d∈l,∀ env,J env->∃ bp,g (.d d) env bx=ae (bp,bx) /\ J bp /\ te bp bx=.val (.d<|f d) bx) (n:l.length<=sizeLine) :
 cj g fU te (l.map W.d) env bx []=.val (l.map f) bx:=by
 rw[Ph (tf:=fU) J _ f l env [] j (λd m e je=>let ⟨e',a,b,c⟩:=h d m e je;#[e',a,b,rfl,λ_=>c]) (by simpa using n)];rw[List.filter_eq_self.mpr λ_ _=>rfl];rfl
theorem Ml (l:List D) (p:D->Bool):qx (l.map λd=>D.bl<|p d)=ae (l.map p):=by
 induction l with
 |nil=>rfl
 |cons d l ih=>simp[qx,ih]
@[simp] theorem all_map (l:List D) (p:D->Bool):dU [.lst<|l.map λd=>D.bl<|p d]=ae (.old<|.bl<|l.all p):=by
 simp[dU,Ml]
def rooms (d:D):Bool:=match d with
 |.tup l=>tl (.tup l) 1 5&&l.all λx=>wi x 0 3
 |_=>af
theorem ou {l:List D}{lo hi:Int}(h:tl (.tup l) lo hi=ah):lo<=(l.length:Int) /\ (l.length:Int)<=hi:=by simpa[tl] using h
noncomputable def wN:List D->Bool
 |x::y::l=>(match x,y with|.int i,.int j=>decide (j<=i)|_,_=>af)&&wN (y::l)
 |_=>ah
def yC (d:D):Bool:=match d with
 |.tup l=>tl (.tup l) 4 4&&(l.all (λx=>wi x 0 9)&&wN l)
 |_=>af
theorem aid {l:List D}(h:tl (.tup l) 2 2=ah):∃ a b,l=[a,b]:=by
 have n:=ou h;obtain⟨a,l,rfl⟩:∃ a t,l=a::t:=xu za;obtain⟨b,l,rfl⟩:∃ a t,l=a::t:=xu (by simp at n;lia);have:l.length=0:=by simp at n;lia
 show#[a,b,by rw[xq this]]
theorem aie {l:List D}(h:tl (.tup l) 4 4=ah):∃ a b c e,l=[a,b,c,e]:=by
 have n:=ou h;obtain⟨a,l,rfl⟩:∃ a t,l=a::t:=xu za;obtain⟨b,l,rfl⟩:∃ a t,l=a::t:=xu (by simp at n;lia);obtain⟨c,l,rfl⟩:∃ a t,l=a::t:=xu (by simp at n;lia);obtain⟨e,l,rfl⟩:∃ a t,l=a::t:=xu (by simp at n;lia);have:l.length=0:=by simp at n;lia
 show#[a,b,c,e,by rw[xq this]]
theorem mz {x:D}{lo hi:Int}(h:wi x lo hi=ah):∃ i,x=.int i /\ lo<=i /\ i<=hi:=by
 cases x<;>simp[wi]at h;show#[_,rfl,h]
def kind (d:D):Bool:=match d with
 |.tup l=>tl (.tup l) 2 2&&(match l with|[a,b]=>wi a 1 999&&yC b|_=>af)
 |_=>af
def kinds (d:D):Bool:=match d with
 |.tup l=>tl (.tup l) 1 4&&l.all kind
 |_=>af
def yD (n:Int) (d:D):Bool:=match d with
 |.tup l=>tl (.tup l) 2 2&&(match l with|[.int a,.int b]=>decide (0<=a)&&decide (a<b)&&decide (b<=n-1)|_=>af)
 |_=>af
noncomputable abbrev dP (p:Int×Int):D:=.tup [.int p.1,.int p.2]
abbrev xP (l:List<|Int×Int):Option W:=ae<|.d<|.lst<|l.map dP
def qD (p q:Int×Int):Bool:=HT.lexLt [p.1,p.2] [q.1,q.2]
noncomputable def rP (p:Int×Int):List HT.aF:=[.i p.1,.i p.2]
theorem VY (p q:Int×Int):HT.cq (rP p) (rP q)=qD p q:=by simp[rP,qD,HT.cq,HT.lexLt,HT.aF.lt]
theorem VZ (p q:Int×Int):eN (dP p) (dP q)=ae (.old<|.bl<|qD p q):=by
 rw[<-VY];change (if HT.kq (rP p) (rP q)=ah then ae _ else ag)=_;show if_pos zk
def vN:List (Int×Int)->Bool
 |p::q::r=>qD p q&&vN (q::r)
 |_=>ah
theorem AV:∀ ps:List (Int×Int),vN ps=(List.range<|ps.length-1).all λi=>qD (ps.getD i (0,0)) (ps.getD (i+1) (0,0))
 |[]=>rfl
 |[p]=>rfl
 | p::q::r=>by
   rw[vN,AV _];simp[bN,aax];rw[List.range_succ_eq_map,uh,xw];rfl
theorem Gj {i:Nat}(h:i<ps.length):bO (ps.map dP) (i:Int)=ae (dP<|ps.getD i (0,0)):=by
 unfold bO dG;simp[h]
theorem Fo {k:DE (List W)}{i j:Int}(e:k env bx=.val [.d<|.int i,.d<|.int j] bx1):tW k env bx=.val (fQ i (j-i).toNat) bx1:=by
 unfold tW;rw[e,fR]
theorem mB {k:DE (List W)}{j:Int}(e:k env bx=.val [.d<|.int j] bx1) (h:-(2 ^ 62)<=j /\ j<2 ^ 62):ka k env bx=.val (fQ 0 j.toNat) bx1:=by
 unfold ka;rw[e,fR];show if_pos h
theorem Pi (lo:Int) (n:Nat):fQ lo n=((List.range n).map λ(i:Nat)=>D.int<|lo+(i:Int)).map W.d:=by
 rw[bH];rfl
theorem JE (ps:List<|Int×Int) (n:ps.length<=sizeLine) (bx:List Bx):g6 [.d<|.tup<|ps.map dP] bx=.val (.d<|.bl<|vN ps) bx:=
 f7 (by
  have s2:sizeLine=16777216:=bJ;have r:tW (ff zb<|ff (dN af cE<|ff (dV 0) fj) fj) [ae<|.d<|.tup<|ps.map dP] bx=.val (fQ 1 (((ps.length):Int)-1).toNat) bx:=Fo (by simp[cE]);erw[oS,Mi,Mf,Gg,Ch,aM,Xu,bN,qN,vb,List.replicate_zero,kG,r,fR,Pi,oU,oV,AT,aaO,bV,id];rw[AU (λe=>∃ w,e=[w,ae _]) _ #[ag,rfl] ?_ (by rw[aV,xo];lia)]
  .erw[fR,Ud,iF,lK,Mh,Mg,sU,bV];rw[all_map,iF,Gh,jW,xw,show ((ps.length:Int)-1).toNat=ps.length-1 by lia];have z:((λx:D=>match x with|.int i=>qD (ps.getD (i.toNat-1) (0,0)) (ps.getD i.toNat (0,0))|_=>af)∘λ(i:Nat)=>D.int<|1+(i:Int))=λi=>qD (ps.getD i (0,0)) (ps.getD (i+1) (0,0)):=by
    funext i;change qD (ps.getD ((1+(i:Int)).toNat-1) (0,0)) (ps.getD (1+(i:Int)).toNat (0,0))=_;rw[show (1+(i:Int)).toNat=i+1 by lia,aax]
   rw[z,<-AV]
  .intro x m e ⟨w,je⟩;let#[i,mi,rfl]:=aK.mp m;have hi:i<((ps.length:Int)-1).toNat:=List.mem_range.mp mi;refine#[[xN<|1+(i:Int),ae<|.d<|.tup<|ps.map dP],by simp[je],#[_,rfl],?_];have a2:=Gj (ps:=ps) (i:=i+1) za;rw[show ((i+1:Nat):Int)=1+(i:Int) by lia]at a2;erw[Me,jD,WR,aaO,List.getElem?_cons_succ,fR,AS,bV,ax,kg,iF,Gh,show 1+(i:Int)-1=(i:Int) by lia,(Gj (ps:=ps) (i:=i) (by lia)),a2,sU,VZ];rw[show (1+(i:Int)).toNat=i+1 by lia];rfl)
noncomputable def YR:D->Option (Int×Int)
 |.tup [.int a,.int b]=>ae (a,b)
 |_=>ag
theorem Gk (ps:List<|Int×Int):(ps.map dP).filterMap YR=ps:=by
 induction ps with
 |nil=>rfl
 |cons p ps ih=>rw[aM,eW,ih];rfl
def apart (n:Int) (d:D):Bool:=match d with
 |.tup l=>l.all (yD n)&&vN (l.filterMap YR)
 |_=>af
noncomputable def lenOf:D->Int
 |.tup l=>l.length
 |_=>0
def house (d:D):Bool:=match d with
 |.tup [r,k,p,h]=>rooms r&&(kinds k&&(apart (lenOf k) p&&wi h 1 9))
 |_=>af
end K1
namespace L2.DL
section
variable {env1 env2:bf} {bx2 cM:List Bx} {k:DE W} {ks:DE (List W)} {w u:W} {l:List W}
theorem fk (h1:m env bx=.val w bx1) (h2:ks env bx1=.val l bx2):ff m ks env bx=.val (w::l) bx2:=by rw[Gg,h1,fR,h2,fR]
theorem Pj:∀ {ds:List D},k7 bx (ds.map W.d)=ae ds:=by
 intro l_;induction l_ with
 |nil=>show rfl
 |cons d ds ay=>(rw[aM,Mh,ay];rfl)
theorem Ci:∀ {ds:List D},pZ (ds.map W.d)=ae ds:=by
 intro l_;induction l_ with
 |nil=>show rfl
 |cons d ds ay=>(rw[aM,Uh,ay];rfl)
theorem jh {g:List D->Option Res}{r:Res}(ds:List D) (h:ks env bx=.val (ds.map W.d) bx1) (hg:g ds=ae r):dN af g ks env bx=.val (.d r.toD) bx1:=by rw[Mf,h,fR,Pj,bV,hg,iF]
theorem im (ds:List D) (h:ks env bx=.val (ds.map W.d) bx1) (hl:ds.length<=sizeLine):gn ks env bx=.val (.d<|.tup ds) bx1:=by rw[Ug,h,fR,Ci,bV,if_pos hl,iF,Pc]
theorem iT (ds:List D) (h:ks env bx=.val (ds.map W.d) bx1) (hl:ds.length<=sizeLine):gz af ks env bx=.val (.d<|.lst ds) bx1:=by rw[Mj,h,fR,Ci,bV,if_pos hl,iF,lK]
theorem jX (ds:List D) (h:ks env bx=.val (ds.map W.d) bx1) (hl:ds.length<=sizeLine):gz ah ks env bx=.val (.b bx1.length) (bx1++[.lst ds]):=by rw[Mj,h,fR,Ci,bV,if_pos hl];rfl
theorem fG {r:Res}{x y:D}(h1:m env bx=.val (.d x) bx1) (h2:k env bx1=.val (.d y) bx2) (hg:g x y=ae r):d2 af g m k env bx=.val (.d r.toD) bx2:=by rw[Me,h1,fR,h2,fR,AS,AS,bV,bV,hg,iF]
theorem fJ (h:ks env bx=.val l bx1) (hn:l.length=n) (hf:fn l bx1=.val w bx2):fm fn n ks env bx=.val w bx2:=by rw[O9,h,fR,if_pos hn,hf]
theorem f8 {b:Bool}(h:m env bx=.val (.d<|.bl b) bx1):dB m env bx=.val b bx1:=by rw[WS,h,fR]
theorem io {t:DE Bool}{b:Bool}(h:t env bx=.val b bx1):eJ t env bx=.val (!b) bx1:=by rw[Ue,h,fR]
theorem V1 {t s:DE Bool}(h:t env bx=.val ah bx1):nX t s env bx=.val ah bx1:=by rw[RV,h,fR]
theorem j6 {t s:DE Bool}{b:Bool}(h:t env bx=.val af bx1) (h2:s env bx1=.val b bx2):nX t s env bx=.val b bx2:=by rw[RV,h,fR,h2]
theorem mC {t s:DE Bool}(h:t env bx=.val af bx1):k9 t s env bx=.val af bx1:=by rw[Md,h,fR]
theorem lC {t s:DE Bool}{b:Bool}(h:t env bx=.val ah bx1) (h2:s env bx1=.val b bx2):k9 t s env bx=.val b bx2:=by rw[Md,h,fR,h2]
theorem Cj {b:Bool}(h:m env bx=.val (.d<|.bl b) bx1):gE m k env bx=if b then k env bx1 else .val (.d<|.bl af) bx1:=by rw[Pa,h];cases b<;>rfl
theorem gK {src:List (Option Nat)}{g:DG}{ds:List D}{e2:bf}(h1:mi env bx=.val l bx1) (he:hZ src env=e2) (h2:cj g tf te l e2 bx1 []=.val ds bx2):fN af src mi g tf te env bx=.val (.d<|.lst ds) bx2:=by
 subst he;rw[Ch,h1,fR,h2,fR,iF,lK]
theorem Gm {x:D}{r:Res}{lo hi:DE (Option Int)}{i j:Option Int}(h1:m env bx=.val (.d x) bx1) (h2:lo env bx1=.val i bx2) (h3:hi env bx2=.val j cM) (hs:vz x i j=ae r):qz af m lo hi env bx=.val (.d r.toD) cM:=by
 rw[VX,h1,fR,h2,fR,h3,fR,AS,bV,hs,iF]
theorem Gn {i:Int}(h:m env bx=.val (.d<|.int i) bx1):qy m env bx=.val (ae i) bx1:=by rw[Pe,h,fR]
theorem gp {ds:List D}(h:m env bx=.val (.d<|.lst ds) bx1):bM m env bx=.val (ds.map W.d) bx1:=by rw[Gi,h,fR]
theorem iZ {ds:List D}(h:m env bx=.val (.d<|.tup ds) bx1):bM m env bx=.val (ds.map W.d) bx1:=by rw[Gi,h,fR]
theorem Fp {i:Int}(h:m env bx=.val (.d<|.int i) bx1):p6 m env bx=.val (.d<|.int<|-i) bx1:=by rw[Ui,h,fR]
theorem fw {a b:aD}(h:a env bx=.nx env1 bx1):fv a b env bx=b env1 bx1:=by rw[lB,h]
theorem jw {a b:aD}(h:a env bx=.rt w bx1):fv a b env bx=.rt w bx1:=by rw[lB,h]
theorem gQ {i:Nat}(h:m env bx=.val w bx1):fE m (fg i) env bx=.nx (env.set i<|ae w) bx1:=by rw[Fn,h,jW,Dh]
theorem f9 (h:m env bx=.val w bx1):fK m env bx=.rt w bx1:=by rw[Mi,h,jW]
theorem ip (h:m env bx=.val w bx1):fV m env bx=.nx env bx1:=by rw[Pd,h,jW]
theorem iG {t:DE Bool}{a b:aD}(h:t env bx=.val ah bx1):aS t a b env bx=a env bx1:=by rw[RW,h,jW]
theorem gC {t:DE Bool}{a b:aD}(h:t env bx=.val af bx1):aS t a b env bx=b env bx1:=by rw[RW,h,jW]
theorem ir {g:DG}{body:aD}(h:mi env bx=.val l bx1):iQ mi g body env bx=bX g body l env bx1:=by rw[Uf,h,jW]
theorem gG {g:DG}{body:aD}(h1:g w env bx=ae (env1,bx1)) (h2:body env1 bx1=.nx env2 bx2):bX g body (w::l) env bx=bX g body l env2 bx2:=by
 rw[bX,h1];simp[h2]
theorem Mm {g:DG}{body:aD}(h1:g w env bx=ae (env1,bx1)) (h2:body env1 bx1=.rt u bx2):bX g body (w::l) env bx=.rt u bx2:=by
 rw[bX,h1];simp[h2]
theorem mN {g:DG}{body:aD}(I:Nat->bf->List Bx->zw):∀ (l:List W) (k:Nat) (env:bf) (bx:List Bx),I k env bx ->
 (∀ i w env bx,l[i]?=ae w->I (k+i) env bx->∃ env1 bx1 env2 bx2,g w env bx=ae (env1,bx1) /\ body env1 bx1=.nx env2 bx2 /\ I (k+i+1) env2 bx2) ->
 ∃ bp bx',bX g body l env bx=.nx bp bx' /\ I (k+l.length) bp bx':=by
 intro l;induction l with
 |nil=>intro k env bx h _;show#[env,bx,rfl,h]
 |cons w l ih=>
   intro k env bx h st;let#[env1,bx1,env2,bx2,e1,e2,h2]:=st 0 w env bx zk h;let#[bp,bx',e3,h3]:=ih _ env2 bx2 h2 λi x env bx e hi=>by
    have:=st (i+1) x env bx (by simpa using e) (by rw[show k+(i+1)=k+1+i by lia];show hi);rw[show k+(i+1)+1=k+1+i+1 by lia]at this;show this
   show#[bp,bx',by rw[gG e1 e2,e3],by rw[bN,show k+(l.length+1)=k+1+l.length by lia];show h3]
section
variable {b c:aD} {o:OS} {i:Nat} {t:DE Bool} {g:DG} 
theorem qS (h:m env bx=.val w bx1) (k:b (env.set i<|ae w) bx1=o):fv (fE m<|fg i) b env bx=o:=(fw<|gQ h).trans k
theorem qG (h:m env bx=.val w bx1) (hg:g w env bx1=ae (env2,bx2)) (k:b env2 bx2=o):fv (fE m g) b env bx=o:=by
 rw[lB,Fn,h,jW,hg];show k
theorem qF (h:t env bx=.val af bx1) (k:b env bx1=o):fv (aS t c aW) b env bx=o:=(fw<|(gC h)).trans k
theorem qR (h:t env bx=.val ah bx1) (k:m env bx1=.val w bx2):fv (aS t (fK m) aW) b env bx=.rt w bx2:=jw<|(iG h).trans<|f9 k
theorem qE (h:m env bx=.val w bx1) (k:b env bx1=o):fv (fV m) b env bx=o:=(fw<|ip h).trans k
theorem cV (hf:fn l bx1=.val w bx2) (h:ks env bx=.val l bx1:=by rfl) (hn:l.length=n:=by rfl):fm fn n ks env bx=.val w bx2:=fJ h hn hf
end
end
theorem uT {e:α->D}{g:DG}{E:α->bf}{J:bf->zw}(p:α->Bool) (f:α->D) (hJ:∀ a,J<|E a):∀ (l:List α) (env:bf) (acc:List D),acc.length+l.length<=sizeLine->J env ->
 (∀ a∈l,∀ env,J env->g (.d<|e a) env B=ae (E a,B))->(∀ a∈l,tf (E a) B=.val (p a) B /\ (p a=ah->te (E a) B=.val (.d<|f a) B))->cj g tf te ((l.map e).map W.d) env B acc=.val (acc++(l.filter p).map f) B:=by
 intro l_;induction l_ with
 |nil=>(intro _ _ _ _ _ _;simp[cj])
 |cons a l ay=>
   intro env acc n j hg h;let#[h1,h2]:=h a<|bw ..;rw[bN]at n;have n':acc.length<sizeLine:=by lia
   have e0:=hg a (bw ..) env j;cases c:p a with
   |false=>
     rw[c]at h1;rw[xr (by simp[c]),<-(ay _ acc za (hJ a) (λx m=>hg x<|bG _ m) λx m=>h x<|bG _ m)];simp[aM,cj,e0,h1,Bm]
   |true=>
     rw[c]at h1;rw[xt c];erw[aM,cj,e0,h1,h2 c,Bm,if_pos n',(ay _ (acc++[f a]) zm (hJ a) (λx m=>hg x<|bG _ m) λx m=>h x<|bG _ m)];simp
end L2.DL
namespace aT
open L2 L2.DL K1
open HT (aF bB kq cq lexLt)
inductive Pg where
 |aY (h l k r p w:Int)|to (h l r:Int)|out (h l:Int)
noncomputable def cX:Pg->List aF
 |.aY h l k r p w=>[.i h,.s "in",.i l,.i k,.i r,.i p,.i w]
 |.to h l r=>[.i h,.s "to",.i l,.i r]
 |.out h l=>[.i h,.s "out",.i l]
def enc (g:Pg):D:=ku<|cX g
theorem Pk (g:Pg):rowOf (enc g)=ae (cX g):=by cases g<;>rfl
theorem Mn:∀ gs:List Pg,rowsOf zz=ae (gs.map cX):=by
 intro l_;induction l_ with
 |nil=>show rfl
 |cons g gs ay=>(simp[rowsOf,Pk,ay])
theorem Pl {a b:Pg}(h:cX a=cX b):a=b:=by
 cases a<;>cases b<;>simp[cX]at h<;>simp_all
theorem mO (a b:Pg):kq (cX a) (cX b)=ah:=by cases a<;>cases b<;>rfl
theorem AW (gs:List Pg):uM (gs.map cX)=ah:=by
 erw[uM,cU,aK];rintro _ ⟨a,_,rfl⟩ _ ⟨b,_,rfl⟩;show mO a b
theorem Dj {g:Pg}{gs:List Pg}(h:(g::gs).length<64):dQ [.lst<|(g::gs).map enc]=ae (.lst<|(pK<|(g::gs).map cX).map ku):=by
 have e:tX [.lst<|(g::gs).map enc]=ag:=by cases g<;>rfl
 unfold dQ;rw[e];erw[Mn,bV,AW,aV,and_true,if_pos h]
abbrev uU (gs:List Pg):zw:=gs.Pairwise λa b=>cq (cX a) (cX b)=ah
theorem Ul {gs:List Pg}(nd:gs.Nodup) (h:(gs.map cX).Pairwise λa b=>lexLt (bB b) (bB a)=af):uU gs:=by
 rw[qh]at h;refine List.Pairwise.imp₂ (λ{a b} (x) (y)=>?_) h nd;rw[<-HT.mL _ _ (mO a b)];cases e:lexLt _ (bB _) with
 |true=>rfl
 |false=>show absurd (Pl<|code_inj (mO a b)<|HT.jb _ _ e x) y
theorem Go {gs:List Pg}(nd:gs.Nodup) (h:gs.length<64):∃ qs:List Pg,qs.Perm gs /\ uU qs /\ ∀ g2:List Pg,g2.Perm gs->dQ [.lst<|g2.map enc]=ae (.lst<|qs.map enc):=by
 let#[qs,e,p]:=Ky (iM _) zk;refine#[qs,p,Ul (p.nodup_iff.mpr nd) (by rw[<-e];show iJ _),λg2 p2=>?_];cases g2 with
 |nil=>
   have z:=p2.length_eq;have:gs=[]:=by cases gs with|nil=>rfl|cons=>simp at z
   subst this;have:qs=[]:=by have:=p.length_eq;cases qs with|nil=>rfl|cons=>simp at this
   subst this;simp[dQ,tX,intsOf,sortI]
 |cons g g2=>
   rw[Dj (by rw[p2.length_eq];show h)];have:=iN (AW gs) ((iM _).trans<|p2.map cX)<|iJ _;rw[this,e,bH];rfl
theorem Um (a b:Pg):eN (enc a) (enc b)=ae (.old<|.bl<|cq (cX a)<|cX b):=by
 have:∀ g,∃ l,enc g=.tup l /\ t8 l=ae (cX g):=λg=>by cases g<;>show#[_,rfl,rfl]
 let#[l,e1,e3]:=this a;let#[m,f1,f3]:=this b;rw[e1,f1];unfold eN;simp[e3,f3,mO,if_true]
end aT
variable {S gs qs:List aT.Pg}{ca:List (Int × aT.Pg)}
namespace K1
open L2 L2.DL
theorem mP:∀ ns:List Int,intsOf (ns.map D.int)=ae ns:=by
 intro l_;induction l_ with
 |nil=>show rfl
 |cons n ns ay=>(rw[aM,intsOf,ay];rfl)
theorem Gp:∀ ns:List Int,wN (ns.map D.int)=ah ↔ ns.Pairwise (λa b=>b<=a)
 |[]=>by simp[wN]
 |[x]=>by simp[wN]
 | x::y::l=>by
   have ih:=Gp (y::l);erw[aM]at ih ⊢;erw[wN,aQ,decide_eq_true_eq,ih];constructor
   .intro ⟨h,p⟩;refine nS.mpr #[λz m=>?_,p];rcases aZ.mp m with rfl|m
    .show h
    .show Int.le_trans ((nS.mp p).1 z m) h
   .intro p;have q:=nS.mp p;show#[q.1 y<|bw ..,q.2]
theorem Dk {lo hi:Int}:∀ {l:List D},(l.all λx=>wi x lo hi)=ah->∃ ns:List Int,l=ns.map D.int:=by
 intro l_;induction l_ with
 |nil=>show λ_=>#[[],rfl]
 |cons d l ay=>
   intro h;erw[uh,aQ]at h;let#[i,rfl,_]:=mz h.1;let#[ns,rfl]:=ay h.2;show#[i::ns,rfl]
noncomputable def pt (bx:List Bx) (n:Nat) (p:Int):List Bx:=bx.set n<|.lst [.int p]
theorem iH {p:Int}:(pt bx n p).length=bx.length:=ug ..
theorem Uo {p:Int}(h:n<bx.length):(pt bx n p)[n]?=ae (.lst [.int p]):=by simp[pt,h]
theorem Mo {m:aD}{ws:List W}{d:D}{bx':List Bx}(h:m (ws.map ae++List.replicate (n-ws.length) ag) bx=.rt (.d d) bx') (l:bx'.length<=bx.length):bq n (ba m) ws bx=.val (.d d) bx':=by
 simp[bq,ba,DL.envOf,h,qu,qv,HU l]
theorem Mp (h:n<bx.length) (p k:Int) (hk:0<k) (vC:k<10 ^ 40):fq [.b n,.d<|.int k] (pt bx n p)=.val (.d<|.int<|p % k) (pt bx n<|p / k):=by
 refine Mo ?_ (by rw[iH,iH];show aI _);have g:=Uo (p:=p) h;have c:yn p k:=#[hk,vC];simp[AQ,bR,g,ax,bO,dG,p5,wt,hk,c,ES];rw[pt,pt,aaP]
theorem jq (h:n<bx.length) (p k:Int) (hk:0<k) (vC:k<1073741824):fq [.b n,.d<|.int k] (pt bx n p)=.val (.d<|.int<|p % k) (pt bx n<|p / k):=Mp h p k hk za
theorem Ae {l:List α}{i:Int}(h0:0<=i) (h1:i<l.length):∃ d,bO l i=ae d /\ d∈l:=by
 refine#[l[i.toNat],?_,ph za];simp[bO,dG,h0,h1]
def Dr (o:O W) (bx:List Bx) (n:Nat) (P:D->zw):zw:=∃ d p,o=.val (.d d) (pt bx n p) /\ P d
theorem oz (p:Int) {k:Int}(h:0<k):0<=p % k:=abn _ za
theorem oA (p:Int) {k:Int}(h:0<k):p % k<k:=XI _ h
theorem Mq (l:List D) (i:Nat) (h:i<=l.length):DL.cutD l (ae (i:Int)) ag=l.drop i:=by
 unfold DL.cutD;rw[HT.NZ,HT.CK,Xi h];show HU (by rw[HP];show aI _)
theorem Fq (l:List α) (i:Nat) (h:i<l.length):bO l (i:Int)=ae l[i]:=by
 simp[bO,dG,h]
theorem Gq {g:DG}(J:bf->zw) (P:D->zw):∀ (l:List W) (env:bf) (p:Int) (acc:List D),J env ->
 (∀ w∈l,∀ env p,J env->∃ bp,g w env (pt bx n p)=ae (bp,pt bx n p) /\ J bp /\ Dr (te bp<|pt bx n p) bx n P)->acc.length+l.length<=sizeLine ->
 ∃ ds p',cj g fU te l env (pt bx n p) acc=.val (acc++ds) (pt bx n p') /\ ds.length=l.length /\ ∀ d∈ds,P d:=by
 intro l_;induction l_ with
 |nil=>show λenv p acc _ _ _=>#[[],p,by simp[cj],rfl,λd m=>by cases m]
 |cons w l ay=>
   intro env p acc j h z;let#[bp,e1,j',d,q,e2,hd]:=h w (bw ..) env p j;have z':acc.length<sizeLine:=by simp[bN]at z;lia
   let#[ds,p',e3,e4,e5]:=ay bp q (acc++[d]) j' (λx m=>h x<|bG _ m) (by simp[cB,bN,qN]at z ⊢;lia);refine#[d::ds,p',?_,by simp[e4],λx m=>?_]
   .erw[cj,e1,Pb,Bm,e2,if_pos z',e3];simp
   .rcases aZ.mp m with rfl|m
    .show hd
    .show e5 x m
theorem Mr {g:DG}(J:bf->zw) (f:W->D):∀ (l:List W) (env:bf) (p:Int) (acc:List D),J env ->
 (∀ w∈l,∀ env p,J env->∃ bp b q,g w env (pt bx n p)=ae (bp,pt bx n p) /\ J bp /\ tf bp (pt bx n p)=.val b (pt bx n q) /\ te bp (pt bx n q)=.val (.d<|f w) (pt bx n q))->acc.length+l.length<=sizeLine ->
 ∃ l' p',cj g tf te l env (pt bx n p) acc=.val (acc++l'.map f) (pt bx n p') /\ List.Sublist l' l:=by
 intro l_;induction l_ with
 |nil=>show λenv p acc _ _ _=>#[[],p,by simp[cj],.slnil]
 |cons w l ay=>
   intro env p acc j h z;let#[bp,b,q,e1,j',e2,e3]:=h w (bw ..) env p j;have z':acc.length<sizeLine:=by simp[bN]at z;lia
   cases b with
   |false=>
     let#[ds,p',e4,e5]:=ay bp q acc j' (λx m=>h x<|bG _ m) (by simp[bN]at z;lia);show#[ds,p',by simp[cj,e1,e2,Bm,e4],.cons _ e5]
   |true=>
     let#[ds,p',e4,e5]:=ay bp q (acc++[f w]) j' (λx m=>h x<|bG _ m) (by simp[cB,bN,qN]at z ⊢;lia);refine#[w::ds,p',?_,.cons_cons _ e5];erw[cj,e1,e2,Bm,e3,if_pos z',e4];simp
def digit (d:D):zw:=∃ i:Int,d=.int i /\ 0<=i /\ i<=9
theorem JF:∀ {l:List D},(∀ d∈l,digit d)->∃ ns:List Int,l=ns.map D.int /\ ∀ i∈ns,0<=i /\ i<=9:=by
 intro l_;induction l_ with
 |nil=>show λ_=>#[[],rfl,λ_ m=>by cases m]
 |cons d l ay=>
   intro h;let#[i,rfl,h1]:=h d<|bw ..;let#[ns,rfl,h2]:=ay λx m=>h x<|bG _ m;show#[i::ns,rfl,λx m=>by
    rcases aZ.mp m with rfl|m
    .show h1
    .show h2 x m]
theorem Ms (h4:ns.length=4) (h:∀ i∈ns,0<=i /\ i<=9):yC (.tup ((sortI ns).map D.int).reverse)=ah:=by
 have l4:(sortI ns).length=4:=by rw[(gx ns).length_eq,h4]
 rw[<-List.map_reverse];have a1:tl (.tup<|(sortI ns).reverse.map D.int) 4 4=ah:=by simp[tl,l4]
 have a2:(((sortI ns).reverse.map D.int).all λx=>wi x 0 9)=ah:=by
  rw[xw,cU];intro i m;have:=h i<|(gx ns).mem_iff.mp<|List.mem_reverse.mp m;simp[wi,this.1,this.2]
 erw[yC,a1,a2,((Gp _).mpr<|List.pairwise_reverse.mpr<|iU ns),aa3]
theorem Pm (h:n<bx.length) (p:Int):Dr (ia [.b n]<|pt bx n p) bx n (λd=>kind d=ah):=by
 have t4:=jq h p 4 zh zh;let#[y,e,m]:=Ae (l:=[D.int 9,.int 3,.int 1,.int 9]) (oz p (k:=4) zh) (by change _<(4);show oA p zh);obtain⟨top,rfl,h0,h9⟩:∃ i:Int,y=.int i /\ 0<=i /\ i<=9:=by
  simp at m;rcases m with rfl|rfl|rfl|rfl<;>show#[_,rfl,by decide,by decide]
 have z4:(4)<=sizeLine:=by decide
 let#[ds,q,e1,e2,e3]:=Gq (g:=fg 0) (te:=fm fq 2<|ff (dV 1)<|ff (d2 af fO (dV 2) zb) fj) (λe=>∃ w,e=[w,xB n,xN top]) digit (bx:=bx) (n:=n) (fQ 0 4) [ag,xB n,xN top] (p / 4) [] #[ag,rfl] (by
  intro w _ env p ⟨w0,je⟩;show#[[ae w,xB n,xN top],by simp[je],#[_,rfl],(#[.int<|p % (top+1),p / (top+1),by simp[fO,(jq h p (top+1) (by lia) (by lia))],_,rfl,oz _ za,by have:=oA p (k:=top+1) za;lia])]) (by
  simp;show z4)
 let#[ns,rfl,kL]:=JF e3;have n4:ns.length=4:=by
  rw[aV]at e2;rw[e2];simp[fQ]
 have so:dQ [.lst<|ns.map D.int]=ae (.lst<|(sortI ns).map D.int):=by simp[dQ,tX,mP,n4]
 have adK:=jq h q 20 zh zh;have tx:=jq h (q / 20) 4 zh zh;have b0:=oz q (k:=20) zh;have b1:=oA q (k:=20) zh;let#[y,ey,my]:=Ae (l:=[D.int 30,.int<|1+q % 20,.int 999,.int 8]) (oz (q / 20) (k:=4) zh) (by change _<(4:Int);show oA _ zh);have hy:wi y 1 999=ah:=by
  simp at my;rcases my with rfl|rfl|rfl|rfl
  .rfl
  .simp[wi];lia
  .rfl
  .rfl
 refine#[.tup [y,.tup ((sortI ns).map D.int).reverse],q / 20 / 4,Mo ?_ (by rw[iH,iH];show aI _),by simp[kind,tl,hy,(Ms n4 kL)]];have rg:∀ env bx,ka (ff (dC<|.int 4) fj) env bx=.val (fQ 0 4) bx:=λenv bx=>mB (j:=4) (bx1:=bx) zf zh;have z2:(2:Nat)<=sizeLine:=by decide
 unfold lU;generalize fq=ft at t4 adK tx e1 ⊢;erw[kH]at e1;simp[z4,z2,t4,ax,e,rg,e1,so,adK,tx,fO,ey,vv]
noncomputable def KL:List HT.aF->Int×Int
 |[.i a,.i b]=>(a,b)
 |_=>(0,0)
theorem Fs:∀ ps:List (Int×Int),rowsOf (ps.map dP)=ae (ps.map rP):=by
 intro l_;induction l_ with
 |nil=>show rfl
 |cons p ps ay=>(simp[rowsOf,rowOf,t8,Kx,ay,rP])
theorem Pn (ps:List<|Int×Int) (h:ps.length<64):∃ qs:List (Int×Int),qs.Perm ps /\ qs.Pairwise (λa b=>qD b a=af) /\ dQ [.lst<|ps.map dP]=ae (.lst<|qs.map dP):=by
 cases ps with
 |nil=>show#[[],.refl _,.nil,by simp[dQ,tX,intsOf,sortI]]
 |cons p ps=>
   have pe:=iM<|(p::ps).map rP;have e:(pK<|(p::ps).map rP).map (rP∘KL)=pK ((p::ps).map rP):=by
    conv=>rhs;rw[<-aaQ (pK _)]
    refine HR λx m=>?_;let#[p,_,rfl]:=aK.mp<|pe.mem_iff.mp m;rfl
   refine#[(pK<|(p::ps).map rP).map KL,?_,?_,?_]
   .have:=pe.map KL;rw[bH]at this
    rwa [show (KL∘rP)=id from rfl,aaQ]at this
   .have so:=iJ<|(p::ps).map rP;rw[<-e,<-bH]at so;show(qh.mp so).imp λ{a b} h=>h
   .change ((rowsOf _).bind λrs=>if rs.length<64 /\ uM rs=ah then ae _ else ag)=_;rw[Fs,bV,if_pos #[by rw[aV];show h,by erw[uM,cU,aK];rintro _ ⟨a,_,rfl⟩ _ ⟨b,_,rfl⟩;rfl],bH]
    conv=>lhs;rw[<-e]
    rw[bH];rfl
theorem V3 {p q:Int×Int}(h:qD q p=af) (n:p≠q):qD p q=ah:=by
 cases e:qD p q with
 |true=>rfl
 |false=>
   have:=HT.jb _ _ e h;simp[List.cons.injEq,and_true]at this;show absurd (Prod.ext this.1 this.2) n
theorem Gr:∀ {qs:List (Int×Int)},qs.Pairwise (λa b=>qD b a=af)->qs.Nodup->vN qs=ah
 |[],_,_=>rfl
 |[p],_,_=>rfl
 | p::q::r,h,n=>by
   have h1:=nS.mp h;have n1:=nE.mp n;simp[vN,aQ];show#[V3 (h1.1 q<|bw ..) λe=>n1.1 (by rw[e];show bw ..),Gr h1.2 n1.2]
structure Hi (k:Nat) (ps:List<|Int×Int):zw where
 nd:ps.Nodup
 b:∀ p∈ps,0<=p.1 /\ p.1<p.2 /\ p.2<(k:Int)
 l:ps.length<=4*k
theorem Hi.more {k:Nat}{is:List Nat}(s:Hi k ps) (s1:is.Sublist<|List.range k) (hk:k<=4):Hi (k+1) (ps++is.map λ(i:Nat)=>((i:Int),(k:Int))):=by
 have li:is.length<=k:=by have:=s1.length_le;simpa using this
 refine#[pw.mpr #[s.nd,(qh.mpr<|(s1.nodup List.nodup_range).imp λ{a b} h e=>h (by have z:=congrArg Prod.fst e;lia)),?_],?_,?_]
 .intro a ma b mb e;subst e;let#[i,_,rfl]:=aK.mp mb;have:=(s.b _ ma).2.2;simp at this
 .intro a ma;rcases dY.mp ma with m|m
  .have:=s.b a m;lia
  .let#[i,mi,rfl]:=aK.mp m;have:=List.mem_range.mp<|s1.subset mi;lia
 .have:=s.l;simp;lia
theorem Ck {k:Nat}{m:DE (List W)}(e:m env bx=.val [.d<|.int (k:Int)] bx) (hk:k<=1000000):ka m env bx=.val (fQ 0 k) bx:=by
 rw[mB e za,pC]
theorem Po (h:n<bx.length) (p:Int) (x1 x2 x3 x4:Option W):∃ (d:D) (q:Int),wi d 1 9=ah /\
 d2 af ax (gz af<|ff zb<|ff zq<|ff (dC<|.int 9)<|ff (d2 af fO zb<|fm fq 2<|ff (dV 0)<|ff (dC<|.int 9) fj) fj) (fm fq 2<|ff (dV 0)<|ff (dC<|.int 4) fj) [xB n,x1,x2,x3,x4] (pt bx n p)=.val (.d d) (pt bx n q):=by
 let#[y,ey,my]:=Ae (l:=[D.int 1,.int 2,.int 9,.int<|1+p % 9]) (oz (p / 9) (k:=4) zh)<|oA _ zh;have z4:(4)<=sizeLine:=by decide
 refine#[y,p / 9 / 4,?_,?_]
 .simp at my;rcases my with rfl|rfl|rfl|rfl
  .rfl
  .rfl
  .rfl
  .simp[wi];lia
 .simp[(jq h p 9 (by decide) (by decide)),fO,z4,(jq h _ 4 (by decide) (by decide)),ax,ey]
theorem AX {k:DE W}{bx2:List Bx}{i:Nat}{l l0:List D}{d:D}(h1:m env bx=.val (.b i) bx1) (KN:bx1[i]?=ae (.lst l0)) (h2:k env bx1=.val (.d d) bx2) (hb:bx2[i]?=ae (.lst l)) (hl:l.length<sizeLine):kh m k env bx=.val (.d .aC) (bx2.set i<|.lst<|l++[d]):=by
 unfold kh;rw[h1,fR];simp[KN,h2,fR,hb,if_pos hl]
section
variable {d lim rt:D} {ps:List D} {fo so fi tw th:Option W} 
end
section
variable {d lim rt:D} {ps:List D} {fo so fi tw th:Option W} 
end
theorem jY {m:aD}{ws:List W}{d:D}{bx':List Bx}(h:m (ws.map ae++List.replicate (n-ws.length) ag) bx=.rt (.d d) bx'):bq n (ba m) ws bx=.val (.d d) (bx'.take bx.length):=by
 simp[bq,ba,DL.envOf,h,qu,qv]
theorem Mt {i k:Nat}{l:List D}(h:env[k]?=ae (xB i)) (hb:bx[i]?=ae (.lst l)):sq k env bx=.val (.d<|.lst l) (bx.set i .dead):=by
 unfold sq;simp[h,hb]
theorem Uq (l:List Int) (k:Nat) (bx:List Bx):∃ c:Int,g9 [.s l,.d<|.int (k:Int)] bx=.val (.d<|.int c) bx:=by
 by_cases h:k<l.length
 .refine#[l[k],f7 ?_];have h':(k)<(l.length):=by lia
  simp[jv,uI,eN,h',ET,(Fq l k h)]
 .refine#[0,f7 ?_];have h':¬ (k)<(l.length):=by lia
  simp[jv,uI,eN,h']
abbrev adL:aD:=(fv (fE (d2 af p5 (d2 af dI (d2 af fO (d2 af fO (d2 af p5 (dV 0)<|dC<|.int 2147483629)<|d2 af dI (dC<|.int 7919)<|dV 2) zb)<|dC<|.int 48271)<|dC<|.int 2147483647)<|fg 3)<|fv (fE (d2 af p5 (d2 af fO (d2 af fO (d2 af dI (dV 3)<|dV 3)<|d2 af dI (dC<|.int 69621)<|dV 2)<|dC<|.int 7)<|dC<|.int 2147483587)<|fg 3)<|fE (d2 af fO (d2 af dI (dV 1)<|dC<|.int 2147483587)<|dV 3)<|fg 1)
theorem Mu {i j:Int}(h1:-(2 ^ 64)<i) (h2:i<2 ^ 64):dI (.int i) (.int j)=ae (.old<|.int<|i*j):=if_pos<|.inl #[h1,h2]
theorem RX {i j:Int}(h1:-(2 ^ 64)<j) (h2:j<2 ^ 64):dI (.int i) (.int j)=ae (.old<|.int<|i*j):=if_pos<|.inr #[h1,h2]
theorem Mv {i j:Int}(h1:0<j):p5 (.int i) (.int j)=ae (.old<|.int<|i % j):=if_pos h1
theorem V4 {i j:Int}(h1:xZ i j):yo (.int i) (.int j)=ae (.old<|.int<|i ^ j.toNat):=if_pos h1
theorem JG (c x j:Int) (w:Option W) (bx:List Bx):∃ x' y,adL [xN c,xN x,xN j,w] bx=.nx [xN c,xN x',xN j,xN y] bx:=by
 let a:=(c % 2147483629+7919*j+1)*48271 % 2147483647
 let b:=(a*a+69621*j+7) % 2147483587
 have e1:fE (d2 af p5 (d2 af dI (d2 af fO (d2 af fO (d2 af p5 (dV 0)<|dC _)<|d2 af dI (dC _)<|dV 2) zb)<|dC _)<|dC _) (fg 3) [ae _,ae _,ae _,w] bx=.nx [ae _,xN x,xN j,xN a] bx:=
  gQ (fG (fG (fG (r:=.old _) (fG (fG zk zk<|Mv zh) (fG zk zk<|Mu zh zh) zk) zk zk) zk<|RX zh zh) zk<|Mv zh)
 have e2:fE (d2 af p5 (d2 af fO (d2 af fO (d2 af dI (dV 3)<|dV 3)<|d2 af dI (dC<|.int 69621)<|dV 2)<|dC<|.int 7)<|dC<|.int 2147483587) (fg 3) [xN c,xN x,xN j,xN a] bx=.nx [xN c,xN x,xN j,xN b] bx:=
  gQ (fG (fG (r:=.old _) (fG (fG zk zk<|Mu za za) (fG zk zk<|Mu zh zh) zk) zk zk) zk<|Mv zh)
 have e3:fE (d2 af fO (d2 af dI (dV 1)<|dC<|.int 2147483587)<|dV 3) (fg 1) [xN c,xN x,xN j,xN b] bx=.nx [xN c,xN<|x*2147483587+b,xN j,xN b] bx:=
  gQ (fG (r:=.old _) (fG zk zk<|RX zh zh) zk zk)
 show#[_,_,by unfold adL;rw[fw e1,fw e2,e3]]
theorem Mw {m:aD}{ws:List W}{i:Nat}{bx':List Bx}(h:m (ws.map ae++List.replicate (n-ws.length) ag) bx=.rt (.b i) bx'):bq n (ba m) ws bx=.val (.b i) bx':=by
 simp[bq,ba,DL.envOf,h,qu,qv]
theorem V5 (c:Int) (bx:List Bx):∃ p:Int,jP [.d<|.int c] bx=.val (.b bx.length) (bx++[.lst [.int p]]):=by
 have sz:=bJ;have adM:∀ e b,d2 af yo (dC _) (dC<|.int 18) e b=.val (.d<|.int<|10 ^ 18) b:=λe b=>fG (r:=.old _) zk zk<|V4 zh;have t:dB (d2 af ng (dV 0) _) [xN c,ag,ag,ag] bx=.val (decide (10 ^ 18<=c)) bx:=f8<|fG (r:=.old _) zk (adM _ _) zk;by_cases h:10 ^ 18<=c
 .rw[decide_eq_true h]at t;refine#[c-10 ^ 18,Mw ?_];change jB [xN c,ag,ag,ag] bx=_;unfold jB;refine(jw<|(iG t).trans<|f9<|jX [.int<|c-10 ^ 18] (fk (fG (r:=.old _) zk (adM _ _) zk) zk) (show (1)<=sizeLine by lia))
 .rw[decide_eq_false h]at t;have rg:=Ck (env:=[xN c,xN 0,ag,ag]) (bx:=bx) (m:=ff (dC<|.int 64) fj) zk zh;let#[bp,bx',e,x,w2,w3,rfl,rfl]:=mN (g:=fg 2) (λ_ env b=>∃ (x:Int) (w2 w3:Option W),env=[xN c,xN x,w2,w3] /\ b=bx) (fQ 0 64) 0 [xN c,xN 0,ag,ag] bx #[0,ag,ag,rfl,rfl] (by
   rintro i w env b hw ⟨x,w2,w3,rfl,rfl⟩;let#[j,_,rfl]:=aK.mp<|rS hw;let#[x',y,e]:=JG c x (0+(j)) w3 b;show#[_,_,_,_,rfl,e,x',_,_,rfl,rfl])
  refine#[x,Mw ?_];change jB [xN c,ag,ag,ag] bx'=_;unfold jB;refine(fw<|gC t).trans ?_;show(fw<|gQ zk).trans ((fw<|(ir rg).trans e).trans<|f9<|jX [.int x] zk (show (1)<=sizeLine by lia))
end K1
namespace K2
open L2 L2.DL K1
noncomputable def hr (d:D):Bool:=match d with
 |.int i=>decide (0<=i)
 |_=>af
noncomputable def nP:List (Int×Int)->Bool
 |p::q::r=>decide (p.2<q.1)&&nP (q::r)
 |_=>ah
theorem BK:∀ (p:Int×Int) (ps:List<|Int×Int),nh ((p::ps).map dP) (ps.map dP)=((p::ps).zip ps).map λx=>W.d (.tup [dP x.1,dP x.2])
 |p,[]=>rfl
 | p,q::ps=>by
   have:=BK q ps;simp[aM]at this ⊢;simp[nh,vT,aM,this]
theorem BL:∀ (p:Int×Int) (ps:List<|Int×Int),nP (p::ps)=((p::ps).zip ps).all λx=>decide (x.1.2<x.2.1)
 |p,[]=>rfl
 | p,q::ps=>by
   rw[nP,BL q ps];simp
theorem Ur (ps:List<|Int×Int) (n:ps.length<=1000) (bx:List Bx):jQ [.d<|.tup<|ps.map dP] bx=.val (.d<|.bl<|nP ps) bx:=
 f7 (by
  have sz:=bJ;have cut:DL.cutD (ps.map dP) (ae 1) ag=ps.tail.map dP:=by
   cases ps with
   |nil=>rfl
   |cons p ps=>
     have:=Mq ((p::ps).map dP) 1 zf;simpa using this
  cases ps with
  |nil=>simp[jp,vz,sr,nh,cj,dU,qx,nP]
  |cons p ps=>
    have c:=AU (g:=fT 2<|fu (fg 0)<|fu (fg 1) fW) (te:=d2 af eN (d2 af ax (dV 0) zb)<|d2 af ax (dV 1) zi) (bx:=bx) (l:=((p::ps).zip ps).map λx=>D.tup [dP x.1,dP x.2]) (λe=>∃ a b,e=[a,b]) (λd=>.bl (match d with|.tup [.tup [_,.int i],.tup [.int j,_]]=>decide (i<j)|_=>af)) #[ag,ag,rfl] (by
     intro d m e ⟨a,b,je⟩;let#[x,_,rfl]:=aK.mp m;show#[[ae<|.d<|dP x.1,ae<|.d<|dP x.2],by simp[je],#[_,_,rfl],rfl]) (by
     rw[aV,aaR];simp at n ⊢;lia)
    rw[bH]at c;have r:(sr<|ff (dV 0)<|ff (qz af (dV 0) (qy zb) qZ) fj) [ae<|.d<|.tup<|(p::ps).map dP] bx=.val (((p::ps).zip ps).map λx=>W.d<|.tup [dP x.1,dP x.2]) bx:=by
     unfold sr;rw[fk (w:=.d<|.tup<|(p::ps).map dP) (l:=[.d<|.tup<|ps.map dP]) rfl<|fk (Gm (r:=.tup<|ps.map dP) rfl (Gn rfl) rfl (by rw[vz,cut];rfl)) rfl,fR,<-(BK p ps)]
    change jp [ae<|.d<|.tup<|(p::ps).map dP] bx=_;unfold jp;refine f9 ?_;refine(jh (r:=.old<|.bl<|nP (p::ps)) [.lst _] (fk (gK r zk c) zk) ?_);rw[bH];have:=all_map (((p::ps).zip ps).map λx=>D.tup [dP x.1,dP x.2]) λd=>match d with|.tup [.tup [_,.int i],.tup [.int j,_]]=>decide (i<j)|_=>af;rw[bH,xw]at this;rw[BL];show this)
noncomputable def kA (c hold hour:Int):List (Int×Int)->Int
 |[]=>c
 |p::ps=>if p.1<=hour /\ hour<p.2 then max 0 (c-(hour-p.1) / hold) else kA c hold hour ps
theorem Dl {c hold hour:Int}(h:0<=c):∀ ps,0<=kA c hold hour ps
 |[]=>h
 | p::ps=>by
   unfold kA;split
   .show Int.le_max_left ..
   .show Dl h ps
theorem Dm {c hold hour:Int}(h:0<=c) (hh:0<hold):∀ ps,kA c hold hour ps<=c
 |[]=>uq _
 | p::ps=>by
   unfold kA;split
   .have:0<=(hour-p.1) / hold:=abo za za;lia
   .show Dm h hh ps
theorem Mx (x:Int):maxD [.int 0,.int x]=ae (.old<|.int<|max 0 x):=by
 change ae _=_;congr 3;split<;>lia
theorem Us {i j:Int}(h:0<j) (h2:j<1073741824):wt (.int i) (.int j)=ae (.old<|.int<|i / j):=if_pos #[h,by lia]
theorem V6 {g':D->D->Option Res}{x y z:D}{r:Res}(h1:ma env bx=.val (.d x) bx) (h2:mb env bx=.val (.d y) bx) (h3:g x y=ae (.old<|.bl ah)) (h4:mc env bx=.val (.d z) bx) (h5:g' y z=ae r):d3 g g' ma mb mc env bx=.val (.d r.toD) bx:=by
 simp[h1,h2,h3,h4,h5]
theorem WW {g':D->D->Option Res}{x y:D}(h1:ma env bx=.val (.d x) bx) (h2:mb env bx=.val (.d y) bx) (h3:g x y=ae (.old<|.bl af)):d3 g g' ma mb mc env bx=.val (.d<|.bl af) bx:=by
 simp[h1,h2,h3]
section
variable {hs:List D} {c hour:Int} {x1 x2:Option W} 
abbrev KO:DE Bool:=dB<|d3 pH eN (dV 5) (dV 3)<|dV 6
theorem Pp (p:Int×Int) (x0 x1 x2 x4:Option W):KO [x0,x1,x2,xN hour,x4,xN p.1,xN p.2] bx=.val (decide (p.1<=hour /\ hour<p.2)) bx:=by
 by_cases h:p.1<=hour
 .by_cases h2:hour<p.2
  .rw[decide_eq_true #[h,h2]];show f8<|V6 (r:=.old _) zk zk (by simp[pH,h]) zk (by simp[eN,h2])
  .rw[decide_eq_false λz=>h2 z.2];show f8<|V6 (r:=.old _) zk zk (by simp[pH,h]) zk (by simp[eN,h2])
 .rw[decide_eq_false λz=>h z.1];show f8<|WW zk zk (by simp[pH,h])
theorem adN (x0 x1 x2:Option W) (rt:DE W) (hr:∀ p:Int×Int,rt [x0,x1,x2,xN hour,xN c,xN p.1,xN p.2] bx=.val (.d<|.int<|max 0<|c-(hour-p.1) / hold) bx) :
 ∀ (ps:List<|Int×Int) (x5 x6:Option W),(∃ y5 y6,bX (fT 2<|fu (fg 5)<|fu (fg 6) fW) (aS KO (fK rt) aW) ((ps.map dP).map W.d) [x0,x1,x2,xN hour,xN c,x5,x6] bx=.nx [x0,x1,x2,xN hour,xN c,y5,y6] bx /\ kA c hold hour ps=c) \/
  bX (fT 2<|fu (fg 5)<|fu (fg 6) fW) (aS KO (fK rt) aW) ((ps.map dP).map W.d) [x0,x1,x2,xN hour,xN c,x5,x6] bx=.rt (.d<|.int<|kA c hold hour ps) bx
 |[],x5,x6=>.inl #[x5,x6,rfl,rfl]
 | p::ps,x5,x6=>by
   have g:fT 2 (fu (fg 5)<|fu (fg 6) fW) (W.d<|dP p) [x0,x1,x2,ae _,ae _,x5,x6] bx=ae ([x0,x1,x2,xN hour,xN c,ae _,ae _],bx):=rfl;have t:=Pp (hour:=hour) (bx:=bx) p x0 x1 x2<|xN c;erw[aM];by_cases h:p.1<=hour /\ hour<p.2
   .rw[decide_eq_true h]at t;have e:kA c hold hour (p::ps)=max 0 (c-(hour-p.1) / hold):=by rw[kA,if_pos h]
    show .inr (by rw[Mm g<|(iG t).trans<|f9<|hr p,e])
   .rw[decide_eq_false h]at t;have e:kA c hold hour (p::ps)=kA c hold hour ps:=by rw[kA,if_neg h]
    have st:aS KO (fK rt) aW _ bx=.nx _ bx:=gC t;rw[e];rcases adN x0 x1 x2 rt hr ps _ _ with⟨y5,y6,z,q⟩|z
    .show .inl #[y5,y6,by rw[gG g st];show z,q]
    .show .inr (by rw[gG g st];show z)
end
structure adO (d:D) (rs:List Int) (hold:Int):zw where
 e:∃ k p,d=.tup [.tup<|rs.map D.int,k,p,.int hold]
 r:∀ c∈rs,0<=c /\ c<=3
 n:1<=rs.length /\ rs.length<=5
 h:1<=hold /\ hold<=9
section
variable {d:D} {rs:List Int} {hour:Int} 
theorem Ut (H:adO d rs hold) (j:Nat) (hj:j<rs.length) (ps:List<|Int×Int):iS [.d d,.d<|.tup<|ps.map dP,.d<|.int (j:Int),.d<|.int hour] bx=.val (.d<|.int<|kA rs[j] hold hour ps) bx:=by
 let#[#[k,p,rfl],_,_,h1,h2]:=H;refine f7 ?_;change jf _ bx=_;have e3:ax (.tup [.tup<|rs.map D.int,k,p,.int hold]) (.int 3)=ae _:=rfl;have ej:ax (.tup<|rs.map D.int) (.int<|j)=ae (.old<|.int rs[j]):=by simp[ax,bO,dG,hj]
 unfold jf;refine(fw<|gQ<|fG (fG zk zk zk) zk ej).trans ?_;rcases(adN (bx:=bx) (ae _) _ _ (dN af maxD<|ff zi<|ff (d2 af kg (dV 4)<|d2 af wt (d2 af kg (dV 3)<|dV 5)<|d2 af ax (dV 0) zA) fj) (λq=>jh (r:=.old _) [.int 0,.int<|rs[j]-(hour-q.1) / hold] (fk zk<|fk (fG (r:=.old _) zk (fG (r:=.old _) (fG (r:=.old _) zk zk zk) (fG zk zk e3)<|Us za za) zk) zk)<|Mx _) ps ag ag) with⟨y5,y6,z,q⟩|z
 .rw[q];show(fw<|(ir<|iZ zk).trans z).trans (f9 zk)
 .show jw<|(ir<|iZ zk).trans z
end
end K2
namespace L2.DL
section
variable {env1:bf} {bx2:List Bx} {ks:DE (List W)} {l:List W} {c:Nat}
theorem V7 {t:DE Bool}{k:DE W}{w:W}(h:t env bx=.val ah bx1) (h2:m env bx1=.val w bx2):pY t m k env bx=.val w bx2:=by unfold pY;rw[h,fR];show h2
theorem V8 {t:DE Bool}{k:DE W}{w:W}(h:t env bx=.val af bx1) (h2:k env bx1=.val w bx2):pY t m k env bx=.val w bx2:=by unfold pY;rw[h,fR];show h2
end
end L2.DL
namespace K2
open L2 L2.DL K1
section
variable {h:D} {rs:List Int} 
end
end K2
namespace K1
open L2 L2.DL
section
variable {p:Int} {x y:Bx} {E:List Bx}
theorem oB (h:n<bx.length):pt bx n p++E=pt (bx++E) n p:=by
 unfold pt;rw[List.set_append_left _ _ h]
theorem jZ (h:n<bx.length):(pt (bx++[x]) n p)[bx.length]?=ae x:=by
 rw[<-oB h,<-iH];show List.getElem?_concat_length
theorem Cn (h:n<bx.length):(pt (bx++[x]) n p).set bx.length y=pt (bx++[y]) n p:=by
 rw[<-oB h,<-oB h,<-iH,List.set_append_right _ _<|aI _,vb];rfl
theorem Do (h:n<bx.length):(pt (bx++E) n p).take bx.length=pt bx n p:=by
 rw[<-oB h,<-iH,List.take_left]
end
theorem Pq (h:n<bx.length) (p k:Int) (hk:0<k) (vC:k<1073741824):∃ r q,fq [.b n,.d<|.int k] (pt bx n p)=.val (.d<|.int r) (pt bx n q) /\ 0<=r /\ r<k:=
 #[_,_,jq h p k hk vC,oz p hk,oA p hk]
end K1
namespace K2
open L2 L2.DL K1
theorem RY {m:Nat}{l:List D}(h:bx[m]?=ae (.lst l)):bR bx (.b m)=ae (.lst l):=by simp[bR,h]
abbrev aif:aD:=(fv (fV<|kh (dV 2)<|gn<|ff (dV 3)<|ff (d2 af fO (d2 af fO (dV 3) zb)<|fm K1.fq 2<|ff (dV 0)<|ff (dV 1) fj) fj)<|fE (d2 af fO (d2 af fO (d2 af ax (d2 af ax (dV 2)<|p6 zb) zb) zb)<|fm K1.fq 2<|ff (dV 0)<|ff (dV 1) fj)<|fg 3)
end K2
namespace bF
open L2 L2.DL K1
section
variable {i:Nat}
theorem n9 (h:n<bx.length) (p k:Int) (h0:0<k) (h1:k<1073741824):∃ r q,(∀ {env:bf}{i:Nat}{m:DE W}{p0:Int},env[i]?=ae (xB n)->m env (pt bx n p0)=.val (.d<|.int k) (pt bx n p)->fm K1.fq 2 (ff (dV i)<|ff m fj) env (pt bx n p0)=.val (.d<|.int r) (pt bx n q)) /\ 0<=r /\ r<k:=by
 let#[r,q,t,a,b]:=Pq h p k h0 h1;show#[r,q,λhe hm=>fJ (fk (by rw[jD,he])<|fk hm zk) zk t,a,b]
theorem aih (h:n<bx.length) (p:Int) (l:List Int) (ks:DE<|List W) (hk:∀ e b,ks e b=.val ((l.map D.int).map W.d) b) {k:Int}(hl:(l.length:Int)=k) (h0:0<k) (h1:k<1000) :
 ∃ v q,(∀ (env:bf) (i:Nat),env[i]?=ae (xB n)->d2 af ax (gz af ks) (fm K1.fq 2<|ff (dV i)<|ff (dC<|.int k) fj) env (pt bx n p)=.val (.d<|.int v) (pt bx n q)) /\ v∈l:=by
 let#[r,q,t,a,b]:=n9 h p k h0 za;let#[d,e,m]:=Ae (l:=l.map D.int) a (by rw[aV,hl];show b);let#[v,mv,rfl]:=aK.mp m;have sz:=bJ;show#[v,q,λenv i he=>fG (r:=.old _) (iT _ (hk _ _) (by rw[aV];lia)) (t he zk) (by simp[ax,e,sU]),mv]
end
theorem AY {lo:Int}{m:Nat}{w:W}(h:(fQ lo m)[j]?=ae w):w=.d (.int<|lo+j) /\ j<m:=by
 have hm:j<m:=by simpa[fQ] using (List.getElem?_eq_some_iff.mp h).1
 simp[fQ,hm]at h;show#[h.symm,hm]
section
variable {bx2:List Bx}
end
end bF
namespace K2
open L2 L2.DL K1
theorem RZ {a b:List D}(h:a.length+b.length<=sizeLine):fO (.lst a) (.lst b)=ae (.lst<|a++b):=if_pos h
end K2
namespace bF
open L2 L2.DL K1
section
variable {bx2:List Bx}
end
open K2
theorem gX {k:DE W}{r:O W}(h:m env bx=.val (.d<|.bl ah) bx1) (h2:k env bx1=r):gE m k env bx=r:=by rw[Cj h];show h2
theorem Uu {k:DE W}(h:m env bx=.val (.d<|.bl af) bx1):gE m k env bx=.val (.d<|.bl af) bx1:=by rw[Cj h];rfl
section
variable {h:D} {k:Nat}
end
theorem My (is:List Int) (b:Int):nO (.int b) (is.map D.int)=is.any λz=>decide (z=b):=by
 unfold nO;rw[Xt];rfl
theorem JH (is:List Int):(is.map D.int).all nN=ah:=by rw[xw];show cU.mpr λ_ _=>rfl
end bF
namespace dD
open L2 L2.DL
open K1 bF
section
variable {enc:α -> D} {r:bf}
theorem adP (p:α->Bool) (f:α->D):∀ (l:List α) (w:Option W) (acc:List D),acc.length+l.length<=sizeLine->(∀ a∈l,tf (ae (.d<|enc a)::r) bx=.val (p a) bx /\ (p a=ah->te (ae (.d<|enc a)::r) bx=.val (.d<|f a) bx)) ->
 cj (fg 0) tf te ((l.map enc).map W.d) (w::r) bx acc=.val (acc++(l.filter p).map f) bx:=by
 intro l_;induction l_ with
 |nil=>(intro w acc _ _;simp[cj])
 |cons a l ay=>
   intro w acc n h;let#[h1,h2]:=h a<|bw ..;rw[bN]at n;have n':acc.length<sizeLine:=by lia
   have e0:fg 0 _ (w::r) bx=ae (ae (W.d<|enc a)::r,bx):=rfl;cases c:p a with
   |false=>
     rw[xr (by simp[c]),<-ay (ae<|W.d<|enc a) acc za λx m=>h x<|bG _ m];rw[c]at h1;simp[aM,cj,e0,h1,Bm]
   |true=>
     rw[xt c];rw[c]at h1;erw[aM,cj,e0,h1,h2 c,Bm,if_pos n',(ay _ (acc++[f a]) zm λx m=>h x<|bG _ m)];simp
theorem adQ {src:List (Option Nat)}{bx0:List Bx}{l:List α}(p:α->Bool) (f:α->D) (h1:mi env bx0=.val ((l.map enc).map W.d) bx) (he:hZ src env=ag::r) (n:l.length<=sizeLine)
 (h:∀ a∈l,tf (ae (.d<|enc a)::r) bx=.val (p a) bx /\ (p a=ah->te (ae (.d<|enc a)::r) bx=.val (.d<|f a) bx)):fN af src mi (fg 0) tf te env bx0=.val (.d<|.lst<|(l.filter p).map f) bx:=
 gK h1 he (by rw[adP p f l ag [] (by simpa using n) h];rfl)
theorem YS {src:List (Option Nat)}{bx0:List Bx}{l:List α}(f:α->D) (h1:mi env bx0=.val ((l.map enc).map W.d) bx) (he:hZ src env=ag::r) (n:l.length<=sizeLine)
 (h:∀ a∈l,te (ae (.d<|enc a)::r) bx=.val (.d<|f a) bx):fN af src mi (fg 0) fU te env bx0=.val (.d<|.lst<|l.map f) bx:=by
 have:=adQ (tf:=fU) _ f h1 he n λa m=>#[rfl,λ_=>h a m]
 rwa [List.filter_eq_self.mpr λ_ _=>rfl]at this
theorem BM (l:List α) (p:α->Bool):qx (l.map λd=>D.bl<|p d)=ae (l.map p):=by
 induction l with
 |nil=>rfl
 |cons d l ih=>simp[qx,ih]
theorem YT {src:List (Option Nat)}{bx0:List Bx}{l:List α}(p:α->Bool) (h1:mi env bx0=.val ((l.map enc).map W.d) bx) (he:hZ src env=ag::r) (n:l.length<=sizeLine)
 (h:∀ a∈l,te (ae (.d<|enc a)::r) bx=.val (.d<|.bl<|p a) bx):dN af dU (ff (fN af src mi (fg 0) fU te) fj) env bx0=.val (.d<|.bl<|l.all p) bx:=
 jh (r:=.old _) [.lst _] (fk (YS _ h1 he n h) zk) (by simp[dU,BM])
end
noncomputable abbrev tupI (l:List Int):D:=.tup<|l.map D.int
abbrev xU (l:List Int):Option W:=ae<|.d<|tupI l
theorem Dp:∀ l:List Int,PyData.canLayAll0 (rj<|l.map D.int)=ah /\ PyData.depthAll (rj<|l.map D.int)=0:=by
 intro l_;induction l_ with
 |nil=>show#[rfl,rfl]
 |cons i l ay=>
   let#[a,b]:=ay;simp[rj,toPy,PyData.canLayAll0,PyData.canLay0,PyData.depthAll,PyData.depth,a,b]
theorem Mz:∀ l:List (List Int),PyData.canLayAll0 (rj<|l.map tupI)=ah /\ PyData.depthAll (rj<|l.map tupI)<=1:=by
 intro l_;induction l_ with
 |nil=>show#[rfl,cJ _]
 |cons i l ay=>
   let#[a,b]:=ay;let#[c,d]:=Dp i;erw[aM,rj,toPy,PyData.canLayAll0,PyData.canLay0,PyData.depthAll,PyData.depth,a,c];show#[rfl,by lia]
theorem Pr (l:List Int):nK (tupI l)=ah:=by
 let#[c,d]:=Dp l;simp[nK,toPy,PyData.canLay0,PyData.depth,c,d]
theorem MA (l:List<|List Int):nK (.lst<|l.map tupI)=ah:=by
 let#[c,d]:=Mz l;unfold nK;simp[toPy,PyData.canLay0,PyData.depth,c,Bool.true_and,decide_eq_true_eq];lia
theorem Ft (ps:List<|Int×Int):ps.map dP=(ps.map λq=>[q.1,q.2]).map tupI:=by rw[bH];rfl
theorem MB (a b:Int×Int):eqv (dP a) (dP b)=decide (a=b):=by
 rw[nT];let#[a1,a2]:=a;let#[b1,b2]:=b;simp[eqv,toPy,rj,PyData.eqv,PyData.eqvAll]
theorem Uv (ps:List<|Int×Int) (q:Int×Int):((ps.map dP).any λz=>eqv z<|dP q)=decide (q∈ps):=by
 rw[nT,qi,decide_eq_true_eq];constructor
 .rintro⟨z,m,e⟩;let#[x,mx,rfl]:=aK.mp m;rw[MB,decide_eq_true_eq]at e;show e▸mx
 .intro m;show#[dP q,aK.mpr #[q,m,rfl],by rw[MB,decide_eq_true_eq]]
end dD
namespace aT
open L2 L2.DL K1 dD
open HT (cq)
abbrev hs (rs ks:List D) (ps:List<|Int×Int) (hd:D):D:=.tup [.tup rs,.tup ks,.tup<|ps.map dP,hd]
structure Hs (rs ks:List D) (ps:List<|Int×Int) (hd:D):zw where
 r1:1<=rs.length
 r5:rs.length<=5
 k1:1<=ks.length
 k4:ks.length<=4
 b:∀ p∈ps,p.1<p.2
 l:ps.length<=1000
 hh:house zc=ah
noncomputable def rG (nr nk:Nat):Pg->zw
 |.aY h l k r p w=>0<=h /\ (0<=l /\ l<=9) /\ (0<=k /\ k<(nk:Int)) /\ (0<=r /\ r<(nr:Int)) /\ (0<=p /\ p<=999) /\ 0<=w /\ w<=99
 |.to h l r=>0<=h /\ (0<=l /\ l<=9) /\ 0<=r /\ r<(nr:Int)
 |.out h l=>0<=h /\ 0<=l /\ l<=9
theorem eq_str (a b:Str):aX (.str a) (.str b)=ae (.old<|.bl<|decide (a=b)):=rfl
theorem ne_str (a b:Str):eA (.str a) (.str b)=ae (.old<|.bl<|!decide (a=b)):=rfl
theorem Uw:(("in":Str)="out")=False:=eq_false zh
theorem V9:(("in":Str)="to")=False:=eq_false zh
theorem Ps:(("out":Str)="in")=False:=eq_false zh
theorem Wa:(("out":Str)="to")=False:=eq_false zh
theorem MC:(("to":Str)="in")=False:=eq_false zh
theorem Ux:(("to":Str)="out")=False:=eq_false zh
noncomputable def adR (rs ks:List D):Pg->List D
 |.aY ..=>[.int 9,.int<|(ks.length:Int)-1,.int<|(rs.length:Int)-1,.int 999,.int 99]
 |.to ..=>[.int 9,.int<|(rs.length:Int)-1]
 |.out ..=>[.int 9]
noncomputable def cw:Pg->Str
 |.aY ..=>"in"
 |.to ..=>"to"
 |.out ..=>"out"
theorem Co (g:Pg):ib [.d zc,.d<|.str<|cw g] bx=.val (.d<|.tup<|adR rs ks g) bx:=
 f7 (by
  have s5:(5)<=sizeLine:=by decide
  have s1:(1)<=sizeLine:=by decide
  have s2:(2)<=sizeLine:=by decide
  cases g<;>simp[jC,kK,cE,ax,bO,dG,kg,eq_str,cw,adR,Uw,V9,Ps,Wa,MC,Ux,s5,s1,s2])
theorem oC {i:Int}(h:0<=i):K2.iE [.d<|.int i] bx=.val (.d<|.bl ah) bx:=
 f7 (by simp[K2.BJ,Di,wh,ng,h])
theorem Uy (g:Pg) (ok:rG rs.length ks.length g):jS [.d zc,.d<|enc g] bx=.val (.d<|.bl ah) bx:=by
 have z:=bJ;have fin:∀ (l:List<|Int×Int) {env:bf}{k:DE _},l.length<=5->(∀ a∈l,0<=a.1 /\ a.1<=a.2)->k env bx=.val ((l.map λa=>D.tup [.int a.1,.int a.2]).map W.d) bx->dN af dU (ff (fN af [ag,ag] k (fT 2<|fu (fg 0)<|fu (fg 1) fW) fU<|fm K1.fZ 3<|ff (dV 0)<|ff zi<|ff (dV 1) fj) fj) env bx=.val (.d<|.bl ah) bx:=λl env k n h e=>by
  refine(jh [.lst<|(l.map λa=>D.int a.1).map λd=>.bl<|(λ_=>ah) d] (fk (gK e zk<|(uT (J:=λe=>∃ a b,e=[a,b]) (λ_=>ah) (λ_=>.bl ah) (λ_=>#[_,_,rfl]) l [ag,ag] [] zm #[_,_,rfl] (λx _ env ⟨a,b,e⟩=>by subst e;rfl) λx m=>#[rfl,λ_=>(cV<|om (.int x.1) 0 x.2 bx).trans (by rw[show wi (.int x.1) 0 x.2=ah by simp[wi];show h x m])]).trans (by rw[List.filter_eq_self.mpr λ_ _=>rfl,bH];rfl)) zk)<|all_map (l.map λa=>D.int a.1) λ_=>ah).trans zf
 cases g with
 |aY h l k r p w=>
   let#[a,b,c,d,e,f]:=ok;show f7<|qF (j6 zk<|j6 zk<|io<|f8<|cV<|oC a)<|qS (cV<|Co<|.aY h l k r p w)<|qF zk<|f9<|fin [(l,9),(k,(ks.length)-1),(r,(rs.length)-1),(p,999),(w,99)] zf zm zk
 |to h l r=>
   let#[a,b,c]:=ok;show f7<|qF (j6 zk<|j6 zk<|io<|f8<|cV<|oC a)<|qS (cV<|Co<|.to h l r)<|qF zk<|f9<|fin [(l,9),(r,(rs.length)-1)] zf zm zk
 |out h l=>
   let#[a,b]:=ok;show f7<|qF (j6 zk<|j6 zk<|io<|f8<|cV<|oC a)<|qS (cV<|Co<|.out h l)<|qF zk<|f9<|fin [(l,9)] zf zm zk
theorem Wb {i:Nat}{g:Pg}(h:qs[i]?=ae g):bO (qs.map enc) (i:Int)=ae (enc g):=B5 (by rw[kQ,h];rfl)
theorem Wc (h:uU qs) (hl:qs.length<=16):K1.g6 [.d<|.lst<|qs.map enc] bx=.val (.d<|.bl ah) bx:=by
 have z:sizeLine=16777216:=bJ;refine f7<|f9 ?_;have rg:tW (ff zb<|ff (dN af cE<|ff (dV 0) fj) fj) [ae<|.d<|.lst<|qs.map enc] bx=.val (((List.range<|qs.length-1).map λ(i:Nat)=>D.int<|1+(i)).map W.d) bx:=by
  rw[Fo (i:=1) (j:=(qs.length)) (bx1:=bx) (by simp[cE]),show ((qs.length:Int)-1).toNat=qs.length-1 by lia,bH];rfl
 have:=YT (r:=[ae _]) (te:=d2 af eN (d2 af ax (dV 1)<|d2 af kg (dV 0)<|dC _)<|d2 af ax (dV 1)<|dV 0) (src:=[ag,ae 0]) _ rg zk (by simp;lia) λi m=>by
  have hi:=List.mem_range.mp m;have e1:qs[i]?=ae qs[i]:=dj za;have e2:qs[i+1]?=ae qs[i+1]:=dj za;refine fG (r:=.old<|.bl ah) (x:=enc qs[i]) (y:=enc qs[i+1]) (fG (r:=.old<|enc qs[i]) (x:=.lst<|qs.map enc) (y:=.int (i:Int)) zk (fG (r:=.old<|.int (i:Int)) (x:=.int<|1+(i:Int)) (y:=.int 1) zk zk ?_) ?_) (fG (r:=.old<|enc qs[i+1]) (x:=.lst<|qs.map enc) (y:=.int<|1+(i:Int)) zk zk ?_) ?_
  .simp[kg];lia
  .simp[ax,Wb e1]
  .have:=Wb e2;rw[show ((i+1:Nat):Int)=1+(i:Int) by lia]at this;simp[ax,this]
  .rw[Um,(List.pairwise_iff_getElem.mp h i (i+1) za za za)]
 rw[cU.mpr λ_ _=>rfl]at this;show this
theorem BN {e2:bf}{s:List (Option Nat)}{l:List D}(hm:mi env bx=.val (l.map W.d) bx) (he:hZ s env=ag::e2) (n:l.length<=1000) (h:∀ x∈l,te (ae (.d x)::e2) bx=.val (.d<|.bl ah) bx):dN af dU (ff (fN af s mi (fg 0) fU te) fj) env bx=.val (.d<|.bl ah) bx:=by
 have z:=bJ;show(jh _ (fk (gK hm he<|AU (λe=>∃ w,e=w::e2) _ #[_,rfl] (λx m e ⟨w,je⟩=>#[ae _::e2,by rw[je];rfl,#[_,rfl],h x m]) za) zk)<|all_map l λ_=>ah).trans zf
theorem AZ {d:D}{lo hi:Int}(h:wi d lo hi=ah):K1.fZ [.d d,.d<|.int lo,.d<|.int hi] bx=.val (.d<|.bl ah) bx:=by rw[om,h]
theorem oW {l:List D}{lo hi:Int}(h:tl (.tup l) lo hi=ah):K1.gj [.d<|.tup l,.d<|.int lo,.d<|.int hi] bx=.val (.d<|.bl ah) bx:=by rw[Mk,h]
theorem Pt {d:D}(h:yC d=ah):K1.jM [.d d] bx=.val (.d<|.bl ah) bx:=by
 have z:=bJ;cases d with
 |tup l=>
   simp[yC,aQ,cU]at h;let#[t,a,f]:=h;refine f7<|qF (j6 (io<|f8<|cV<|oW t)<|io<|f8<|BN (iZ zk) zk (by have:=ou t;lia) λx m=>cV<|AZ<|a x m)<|f9 ?_;let#[p,q,r,s,rfl]:=aie t;let#[p,rfl,_]:=mz<|a p zf;let#[q,rfl,_]:=mz<|a q zf;let#[r,rfl,_]:=mz<|a r zf;let#[s,rfl,_]:=mz<|a s zf;simp[wN,aQ,decide_eq_true_eq]at f;refine(jh (r:=.old _) [.lst _] (fk (gK (l:=([(p,q),(q,r),(r,s)].map λa:Int×Int=>D.tup [.int a.1,.int a.2]).map W.d) zk zk<|(uT (J:=λe=>∃ a b,e=[a,b]) _ _ (λ_=>#[_,_,rfl]) _ _ [] zm #[_,_,rfl] (λx _ env ⟨a,b,e⟩=>by subst e;rfl) λx m=>#[rfl,λ_=>(fG (r:=.old<|.bl ah) zk zk (by simp at m;simp[pH];rcases m with rfl|rfl|rfl<;>lia))])) zk) zk)
 |_=>cases h
theorem Uz {d:D}(h:kind d=ah):K1.mj [.d d] bx=.val (.d<|.bl ah) bx:=by
 cases d with
 |tup l=>
   simp[kind,aQ]at h;let#[t,h]:=h;let#[a,b,rfl]:=aid t;simp[aQ]at h;show f7<|f9<|bF.gX (cV<|oW t)<|bF.gX (cV<|AZ h.1)<|cV<|Pt h.2
 |_=>cases h
theorem UA {d:D}{n:Int}(h:yD n d=ah):K1.iD [.d d,.d<|.int n] bx=.val (.d<|.bl ah) bx:=by
 cases d with
 |tup l=>
   simp[yD,aQ]at h;let#[t,h]:=h;split at h
   .simp[aQ,decide_eq_true_eq]at h;show f7<|qF (io<|f8<|cV<|oW t)<|f9<|bF.gX (BN (iZ zk) zk (by simp) λx m=>cV<|AZ (d:=x) (lo:=0) (hi:=n-1) (by simp at m;rcases m with rfl|rfl<;>(simp[wi,aQ,decide_eq_true_eq];lia)))<|fG (r:=.old _) zk zk (by simp[eN];show h.1.2)
   .cases h
 |_=>cases h
theorem Pu (h:Hs rs ks ps hd):K1.lj [.d zc] bx=.val (.d<|.bl ah) bx:=by
 have z:=bJ;have l:=h.l;have q:=h.hh;erw[house,aQ,rooms,kinds,apart,cU]at q;let#[#[t1,q1],#[t2,q2],#[q3,i],q4]:=q;rw[Gk]at i;have ri:=JE ps za bx;rw[i]at ri;have e1:K1.jL [.d _] bx=.val _ bx:=f7<|f9<|bF.gX (cV<|oW t1)<|BN (iZ zk) zk (by have:=ou t1;lia) λx m=>cV<|AZ<|q1 x m;have e2:K1.jN [.d _] bx=.val _ bx:=f7<|f9<|bF.gX (cV<|oW t2)<|BN (iZ zk) zk (by have:=ou t2;lia) λx m=>cV<|Uz<|q2 x m;have e3:K1.jO [.d _,.d _] bx=.val _ bx:=f7<|qF zk<|f9<|bF.gX (BN (iZ zk) zk (by rw[aV];lia) λx m=>cV<|UA<|q3 x m)<|cV ri;show f7<|qF (io<|f8<|cV<|oW zk)<|qG zk zk<|f9<|bF.gX (cV e1)<|bF.gX (cV e2)<|bF.gX (cV e3)<|cV<|AZ q4
theorem mQ (h:Hs rs ks ps hd):bF.iL [.d zc] bx=.val (.d .aC) bx:=by
 have b:bF.jR _ bx=.nx [ae _] bx:=
  (gC<|io<|f8<|fJ zk zk<|Pu (bx:=bx) h)
 change qv bx.length (qu<|ba bF.jR [ae _] bx)=_;unfold ba;rw[b];simp[qu,qv]
theorem MD (l:List D):vt (sh<|.lst l) "list"=ah:=rfl
structure Gs (nr nk:Nat) (gs:List Pg):zw where
 ok:∀ g∈gs,rG nr nk g
 nd:gs.Nodup
 l:gs.length<=16
theorem Gs.perm {nr nk:Nat}{g2:List Pg}(G:Gs nr nk gs) (p:g2.Perm gs):Gs nr nk g2:=#[λg m=>G.ok g<|p.mem_iff.mp m,p.nodup_iff.mpr G.nd,by rw[p.length_eq];show G.l]
theorem Pv (G:Gs rs.length ks.length gs):jT [.d zc,.d zp] bx=.val (.d<|.bl ah) bx:=by
 have z:=bJ;have gl:=G.l;let#[qs,p,r,e]:=Go G.nd za;have ql:=p.length_eq;refine f7 ?_;have t:nX (eJ<|dB<|lb "list"<|dV 1) (dB<|d2 af n6 (dN af cE<|ff (dV 1) fj)<|dC<|.int 16) [ae<|.d zc,ae<|.d zp] bx=.val af bx:=by
  simp[MD,cE,n6];lia
 have a:dN af dU (ff (fN af [ag,ae 0] (bM<|dV 1) _ fU<|fm aT.jS 2<|ff (dV 1)<|ff (dV 0) fj) fj) [ae<|.d zc,ae<|.d zp] bx=.val (.d<|.bl<|gs.all λ_=>ah) bx:=
  YT _ (gp zk) zk (by lia) λg m=>fJ zk zk<|Uy g<|G.ok g m
 rw[cU.mpr λ_ _=>rfl]at a;refine(fw<|gC t).trans (f9 ?_);rw[Cj a,if_pos rfl];show fJ (fk (jh [.lst zz] (fk zk zk)<|e gs<|.refl _) zk) zk<|Wc r za
theorem ja (h:Hs rs ks ps hd) (G:Gs rs.length ks.length gs):gH [.d zc,.d zp] bx=.val (.d .aC) bx:=by
 have b:jU [ae<|.d zc,ae<|.d zp] bx=.nx [ae<|.d zc,ae<|.d zp] bx:=(fw<|ip<|fJ zk zk<|mQ h).trans<|(gC<|io<|f8<|fJ zk zk<|Pv G);change qv bx.length (qu<|ba jU [ae _,ae _] bx)=_;unfold ba;rw[b];simp[qu,qv]
noncomputable abbrev Al:=List<|Int×Int
noncomputable def look (l:Al) (x:Int):Option Int:=(l.find? λq=>decide (q.1=x)).map (·.2)
noncomputable def put (l:List<|Int×α) (x:Int) (v:α):List (Int×α):=if (l.any λq=>decide (q.1=x))=ah then l.map (λq=>if q.1=x then (q.1,v) else q) else l++[(x,v)]
noncomputable def rH (l:List<|Int×α) (x:Int):List (Int×α):=l.filter λq=>decide (q.1≠x)
def kk (K:Al) (l:Int):Int:=(look K l).getD 0
noncomputable def yE (ps:Al) (a b:Int):Bool:=decide ((a,b)∈ps)||decide ((b,a)∈ps)
def qH (ps K R:Al) (k r:Int):Bool:=R.any λq=>decide (q.2=r)&&yE ps k (kk K q.1)
def word (ps K R:Al):Pg->Str
 |.aY _ l k r _ _=>if (look K l).isSome then "there" else if qH ps K R k r then "apart" else "takes"
 | .to _ l r=>match look R l with
   |none=>"none"
   |some r0=>if r0=r then "same" else if qH ps K R (kk K l) r then "apart" else "takes"
 | .out _ l=>match look R l with
   |none=>"none"
   |some _=>"takes"
noncomputable def aA:Pg->Int
 |.aY _ l ..=>l
 |.to _ l _=>l
 |.out _ l=>l
def stK (K:Al):Pg->Al
 |.aY _ l k ..=>put K l k
 |_=>K
def rK (R:Al):Pg->Al
 |.aY _ l _ r ..=>put R l r
 |.to _ l r=>put R l r
 |.out _ l=>rH R l
structure qc (K R:Al) (n:Nat):zw where
 nd:(R.map (·.1)).Nodup
 sub:∀ q∈R,(look K q.1).isSome=ah
 lk:K.length<=n
 lr:R.length<=n
section
variable {e:α -> D}
noncomputable def cR (e:α->D) (l:List<|Int×α):List (Key×D):=l.map λq=>(.inl q.1,e q.2)
abbrev aO (l:Al):List (Key×D):=cR D.int l
theorem Gu (a b:Int):decide ((Sum.inl a:Key)=Sum.inl b)=decide (a=b):=by
 by_cases h:a=b
 .simp
 .rw[decide_eq_false h];show decide_eq_false λz=>h<|Sum.inl.inj z
theorem j0 (l:List<|Int×α) (x:Int):kS (cR e l) (.inl x)=((l.find? λq=>decide (q.1=x)).map (·.2)).map e:=by
 unfold kS cR;rw[List.find?_map];have:((λkv:Key×D=>decide (kv.1=Sum.inl x))∘λq:Int×α=>((Sum.inl q.1),e q.2))=λq=>decide (q.1=x):=by
  funext q;show Gu q.1 x
 rw[this];cases l.find? λq=>decide (q.1=x)<;>rfl
theorem Pw (l:List<|Int×α) (x:Int):((cR e l).any λkv=>decide (kv.1=Sum.inl x))=l.any λq=>decide (q.1=x):=by
 unfold cR;rw[Xt];congr 1;funext q;show Gu q.1 x
theorem Gv (l:List<|Int×α) (x:Int) (v:α):sy (cR e l) (.inl x) (e v)=cR e (put l x v):=by
 unfold sy put;rw[Pw];split
 .unfold cR;rw[bH,bH];refine HR λq _=>?_;by_cases h:q.1=x
  .simp[h]
  .simp[h]
 .unfold cR;simp
theorem Dq (l:List<|Int×α) (x:Int):uR (cR e l) (.inl x)=cR e (rH l x):=by
 unfold uR rH cR;rw[aaS];congr 1;congr 1;funext q;by_cases h:q.1=x<;>simp
theorem Cp (l:List<|Int×α) (x:Int) (v:α):(put l x v).length<=l.length+1:=by
 unfold put;split<;>simp
end
theorem Ds {R:Al}(nd:(R.map (·.1)).Nodup) {q:Int×Int}(m:q∈R):look R q.1=ae q.2:=by
 induction R with
 |nil=>cases m
 |cons a R ih=>
   rw[aM,nE]at nd;unfold look;rw[vf];rcases aZ.mp m with rfl|m
   .simp
   .have:¬ a.1=q.1:=λz=>nd.1 (by rw[z];show rT m);rw[decide_eq_false this];show ih nd.2 m
theorem Fu (ps:Al):nK (.tup<|ps.map dP)=ah:=by
 have h:=MA<|ps.map λq=>[q.1,q.2];rw[<-Ft]at h;unfold nK at h ⊢;simpa[toPy,PyData.canLay0,PyData.depth] using h
theorem ME (neg:Bool) (q:Int×Int) (ps:Al):inD neg (dP q) (.tup<|ps.map dP)=ae (.old<|.bl (if neg then !decide (q∈ps) else decide (q∈ps))):=by
 change (if nN (dP q)=ah /\ (ps.map dP).all nN=ah then ae (Res.old<|.bl (if neg then !nO (dP q) (ps.map dP) else nO (dP q) (ps.map dP))) else wI neg _ _ _)=_;unfold wI;rw[show nK (dP q)=ah from Pr [q.1,q.2],Fu,Uv];rfl
theorem Px (h:Hs rs ks ps hd) (a b:Int):iW [.d zc,.d<|.int a,.d<|.int b] bx=.val (.d<|.bl<|!yE ps a b) bx:=by
 have z:(2)<=sizeLine:=by decide
 refine f7<|f9 ?_;have e1:gn (ff (dN af minD<|ff (dV 1)<|ff (dV 2) fj)<|ff (dN af maxD<|ff (dV 1)<|ff (dV 2) fj) fj) [ae<|.d zc,xN a,xN b] bx=.val (.d<|dP (if b<a then b else a,if b>a then b else a)) bx:=rfl;refine(fG e1 zk<|ME ah _ ps).trans ?_;have:decide ((if b<a then b else a,if b>a then b else a)∈ps)=yE ps a b:=by
  unfold yE;rw[nT];simp[xD,decide_eq_true_eq];by_cases c:b<a
  .rw[if_pos c,if_neg za];show#[.inr,λz=>z.elim (λz=>absurd (h.b _ z) zm) id]
  .rw[if_neg c];by_cases d:b>a
   .rw[if_pos d];show#[.inl,λz=>z.elim id λz=>absurd (h.b _ z) zm]
   .rw[if_neg d];have:a=b:=by lia
    subst this;show#[.inl,λz=>z.elim id id]
 rw[this];rfl
theorem Cq (g:Pg):fM [.d<|enc g] bx=.val (.d (match g with|.aY _ _ _ r _ _=>.int r|.to _ _ r=>.int r|.out ..=>.aC)) bx:=
 f7 (by cases g<;>simp[lw,enc,ku,cX,p8,ax,bO,dG,eq_str,MC,Ps,Wa])
end aT
variable {op os:aT.Al}
namespace aT
open L2 L2.DL K1 dD
section
variable {e:α -> D} {L:List (Int × α)} {k:DE W} {i:Nat} {l:Int}
theorem R0 (neg:Bool) (hk:k env bx=.val (.d<|.int l) bx) (hm:m env bx=.val (.b i) bx) (hb:rz bx (.b i)=ae (cR e L)) :
 ni neg k m env bx=.val (.d (.bl (if neg then !((L.find? λq=>decide (q.1=l)).map (·.2)).isSome else ((L.find? λq=>decide (q.1=l)).map (·.2)).isSome))) bx:=by
 unfold ni;rw[hk,fR,hm,fR,hb];change O.val _ bx=_;rw[j0,vg]
theorem Cr {v:α}(hk:k env bx=.val (.d<|.int l) bx) (hm:m env bx=.val (.b i) bx) (hb:rz bx (.b i)=ae (cR e L)) (hf:(L.find? λq=>decide (q.1=l)).map (·.2)=ae v):dA m k env bx=.val (.d<|e v) bx:=by
 unfold dA;rw[hm,fR,hk,fR,hb];change (match kS _ _ with|some u=>O.val _ bx|none=>.bad)=_;rw[j0,hf];rfl
theorem Dt {l:List (Key×D)}(h:bx[i]?=ae (.aB l)):rz bx (.b i)=ae l:=by unfold rz;simp[h]
theorem Wd {l:List (Key×D)}(h:bx[i]?=ae (.fD l)):rz bx (.b i)=ae l:=by unfold rz;simp[h]
theorem MF:vK (cR e L)=(L.map λq=>D.int q.1).map W.d:=by
 unfold vK cR;rw[bH,bH];rfl
end
theorem MG {x y:Bx}(h:bx[j]?=ae x):(bx.set j y).set j x=bx:=by
 rw[aaP];apply xp;intro n;by_cases e:j=n
 .subst e;rw[rR (List.getElem?_eq_some_iff.mp h).1,h]
 .rw[sN e]
theorem We {l:List (Key×D)}(h:bx[j]?=ae (.aB l)):yz j (bx.set j<|.fD l)=ae bx:=by
 unfold yz;rw[rR (List.getElem?_eq_some_iff.mp h).1];simp[MG h]
section
variable {K R:List (Int × Int)} {i:Nat} 
abbrev YU:DE W:=wL af [ag,ae 2,ae 6] 2 (fg 0) (dB<|d2 af aX (dA (dV 1)<|dV 0)<|dV 2)<|dV 0
theorem WX (J:qc K R n) (hn:n<=100) (hj:bx[j]?=ae (.aB<|aO R)) {r:Int}(h2:env[2]?=ae (xB j)) (h6:env[6]?=ae (xN r)) :
 YU env bx=.val (.d<|.lst<|(R.filter λq=>decide (q.2=r)).map λq=>D.int q.1) bx:=by
 have z:sizeLine=16777216:=bJ;have lr:=J.lr;unfold YU wL;erw[h2,hj];have s:hZ [ag,ae 2,ae 6] env=[ag,xB j,xN r]:=by simp[h2,h6]
 rw[s,show vK (aO R)=(R.map λq=>D.int q.1).map W.d from MF,(adP (tf:=dB _) (te:=dV 0) (r:=[ae _,ae _]) _ _ R ag [] zm λq m=>
  #[f8<|fG (r:=.old _) (Cr zk zk (Wd<|rR (a:=.fD<|aO R) (List.getElem?_eq_some_iff.mp hj).1)<|Ds J.nd m) zk<|rfl,λ_=>rfl]),fR]
 change yA j (.val _ _)=_;unfold yA;erw[We hj];rfl
abbrev adS:DE W:=dN af dU<|ff (fN af [ag,ae 0,ae 1,ae 7] (bM<|dV 8) (fg 0) fU<|fm aT.iW 3<|ff (dV 1)<|ff (dV 3)<|ff (dA (dV 2)<|dV 0) fj) fj
theorem WY (h:Hs rs ks ps hd) (J:qc K R n) (hn:n<=100) (hi:bx[i]?=ae (.aB<|aO K)) {r k:Int}(h0:env[0]?=ae (ae<|.d zc)) (h1:env[1]?=ae (xB i)) (h7:env[7]?=ae (xN k))
 (h8:env[8]?=ae (ae<|.d<|.lst<|(R.filter λq=>decide (q.2=r)).map λq=>D.int q.1)):adS env bx=.val (.d<|.bl<|!qH ps K R k r) bx:=by
 have z:sizeLine=16777216:=bJ;have lr:=J.lr;have fl:=ui (λq:Int×Int=>decide (q.2=r)) R;have it:bM (dV 8) env bx=.val _ bx:=gp (by unfold dV;rw[h8]);have s:hZ [ag,ae 0,ae 1,ae 7] env=ag::[ae<|.d zc,xB i,xN k]:=by simp[h0,h1,h7]
 refine(YT (λq=>!yE ps k (kk K q.1)) it s za λq m=>?_).trans ?_
 .let#[v,hv]:=Option.isSome_iff_exists.mp<|J.sub q (dq.mp m).1;have e:kk K q.1=v:=by unfold kk;rw[hv];rfl
  rw[e];show fJ (fk zk<|fk zk<|fk (Cr zk zk (Dt hi) hv) zk) zk<|Px h k v
 .congr 3;unfold qH;rw[nT];erw[cU,dq,uk,Xj,aQ,decide_eq_true_eq,not_and,Bool.not_eq_true];show#[λa q m c=>a q #[m,c],λa q m=>a q m.1 m.2]
def aii:aD:=(fv (fE YU<|fg 8)<|fv (aS (dB adS) (fK<|dC<|.str "takes") aW)<|fK<|dC<|.str "apart")
theorem Py (h:Hs rs ks ps hd) (J:qc K R n) (hn:n<=100) (hi:bx[i]?=ae (.aB<|aO K)) (hj:bx[j]?=ae (.aB<|aO R)) (x3 x4 x5 x8:Option W) (k r:Int) :
 aii [ae<|.d zc,xB i,xB j,x3,x4,x5,xN r,xN k,x8] bx=.rt (.d<|.str (if qH ps K R k r then "apart" else "takes")) bx:=by
 have b:=WY (env:=[ae _,ae _,xB j,x3,x4,x5,xN r,xN k,ae<|.d<|.lst<|(R.filter λq=>decide (q.2=r)).map λq=>D.int q.1]) h J hn hi zk zk zk zk;refine(fw<|gQ<|WX (env:=[ae _,ae _,ae _,x3,x4,x5,ae _,ae _,x8]) J hn hj zk zk).trans ?_;cases c:qH ps K R k r with
 |true=>
   rw[c]at b;show(fw<|gC<|f8 b)
 |false=>
   rw[c]at b;show jw<|(iG<|f8 b)
theorem UB (h:Hs rs ks ps hd) (J:qc K R n) (hn:n<=100) (hi:bx[i]?=ae (.aB<|aO K)) (hj:bx[j]?=ae (.aB<|aO R)) (g:Pg) :
 iO [.d zc,.b i,.b j,.d<|enc g] bx=.val (.d<|.str<|word ps K R g) bx:=by
 refine f7 ?_;change mn _ bx=_;have eM:mn=(fv _ _):=rfl;rw[eM];have p1:kK 4 5 (ff (d2 af ax (dV 3) zb)<|ff (d2 af ax (dV 3) zq) fj) [ae<|.d zc,xB i,xB j,ae<|.d<|enc g,ag,ag,ag,ag,ag] bx=.nx [ae<|.d zc,xB i,xB j,ae<|.d<|enc g,ae<|.d<|.str<|cw g,xN<|aA g,ag,ag,ag] bx:=by
  cases g<;>simp[kK,enc,ku,cX,p8,ax,bO,dG,cw,aA]
 refine(fw p1).trans ?_;have tE:∀ (w:Str) (x6 x7:Option W),dB (d2 af aX (dV 4)<|dC<|.str w) [ae<|.d zc,xB i,xB j,ae<|.d<|enc g,ae<|.d<|.str<|cw g,xN<|aA g,x6,x7,ag] bx=.val (decide (cw g=w)) bx:=λw x6 x7=>f8<|fG zk zk<|eq_str _ _;have tN:dB (d2 af eA (dV 4)<|dC<|.str "in") [ae<|.d zc,xB i,xB j,ae<|.d<|enc g,ae<|.d<|.str<|cw g,xN<|aA g,ag,ag,ag] bx=.val (!decide (cw g="in")) bx:=f8<|fG zk zk<|ne_str _ _;have iK:dB (ni af (dV 5)<|dV 1) [ae<|.d zc,xB i,xB j,ae<|.d<|enc g,ae<|.d<|.str<|cw g,xN<|aA g,ag,ag,ag] bx=.val (look K<|aA g).isSome bx:=f8<|R0 af zk zk<|Dt hi;have iR:dB (ni ah (dV 5)<|dV 2) [ae<|.d zc,xB i,xB j,ae<|.d<|enc g,ae<|.d<|.str<|cw g,xN<|aA g,ag,ag,ag] bx=.val (!(look R<|aA g).isSome) bx:=f8<|R0 ah zk zk<|Dt hj;cases g with
 |aY h' l k r p w=>
   change _=OS.rt (W.d<|.str (if (look K l).isSome then "there" else if qH ps K R k r then "apart" else "takes")) bx;have t1:=lC (tE "in" ag ag) iK;cases c:(look K l).isSome with
   |true=>
     rw[show (look K<|aA<|.aY h' l k r p w).isSome=ah from c]at t1;show jw<|(iG t1).trans zk
   |false=>
     rw[show (look K<|aA<|.aY h' l k r p w).isSome=af from c]at t1;refine(fw<|(gC t1).trans zk).trans ?_;refine(fw<|(gC<|mC tN).trans zk).trans ?_;have t3:=tE "out" ag ag;rw[decide_eq_false (show ¬ cw (.aY h' l k r p w)="out" by change ¬ ("in":Str)="out";rw[Uw];show id)]at t3;refine(fw<|(gC t3).trans zk).trans ?_;refine(fw<|gQ<|fJ (l:=[.d<|enc<|.aY h' l k r p w]) zk zk<|Cq _).trans ?_;have t4:=tE "to" (xN r) ag;rw[decide_eq_false (show ¬ cw (.aY h' l k r p w)="to" by change ¬ ("in":Str)="to";rw[V9];show id)]at t4;refine(fw<|(gC<|mC t4).trans zk).trans ?_;have kv:pY (dB<|d2 af aX (dV 4)<|dC<|.str "in") (d2 af ax (dV 3) zA) (dA (dV 1)<|dV 5) [ae<|.d zc,xB i,xB j,ae<|.d<|enc<|.aY h' l k r p w,ae<|.d<|.str<|cw<|.aY h' l k r p w,xN<|aA<|.aY h' l k r p w,xN r,ag,ag] bx=.val (.d<|.int k) bx:=by
      unfold pY;rw[(tE "in" (xN r) ag),fR];rfl
     show(fw<|gQ kv).trans (Py h J hn hi hj _ _ _ _ k r)
 |to h' l r=>
   have t1:=tE "in" ag ag;rw[decide_eq_false (show ¬ cw (.to h' l r)="in" by change ¬ ("to":Str)="in";rw[MC];show id)]at t1 tN;refine(fw<|(gC<|mC t1).trans zk).trans ?_;have t2:=lC tN iR;change _=OS.rt (W.d<|.str (match look R l with|none=>"none"|some r0=>if r0=r then "same" else if qH ps K R (kk K l) r then "apart" else "takes")) bx;cases c:look R l with
   |none=>
     rw[show look R (aA<|.to h' l r)=ag from c]at t2;show jw<|(iG t2).trans zk
   |some r0=>
     rw[show look R (aA<|.to h' l r)=ae r0 from c]at t2;refine(fw<|(gC t2).trans zk).trans ?_;have t3:=tE "out" ag ag;rw[decide_eq_false (show ¬ cw (.to h' l r)="out" by change ¬ ("to":Str)="out";rw[Ux];show id)]at t3;refine(fw<|(gC t3).trans zk).trans ?_;refine(fw<|gQ<|fJ (l:=[.d<|enc<|.to h' l r]) zk zk<|Cq _).trans ?_;have t4:k9 (dB<|d2 af aX (dV 4)<|dC<|.str "to") (dB<|d2 af aX (dA (dV 2)<|dV 5)<|dV 6) [ae<|.d zc,xB i,xB j,ae<|.d<|enc<|.to h' l r,ae<|.d<|.str<|cw<|.to h' l r,xN<|aA<|.to h' l r,xN r,ag,ag] bx=.val (decide (r0=r)) bx:=
      lC (tE "to" (xN r) ag) (f8<|fG (r:=.old<|.bl<|decide (r0=r)) (x:=.int r0) (y:=.int r) (Cr (e:=D.int) (L:=R) zk zk (Dt hj) c) zk<|rfl)
     by_cases d:r0=r
     .rw[decide_eq_true d]at t4;change _=OS.rt (W.d<|.str (if r0=r then "same" else if qH ps K R (kk K l) r then "apart" else "takes")) bx;rw[if_pos d];show jw<|(iG t4).trans zk
     .rw[decide_eq_false d]at t4;change _=OS.rt (W.d<|.str (if r0=r then "same" else if qH ps K R (kk K l) r then "apart" else "takes")) bx;rw[if_neg d];refine(fw<|(gC t4).trans zk).trans ?_;obtain⟨q,mq,eq⟩:∃ q∈R,q.1=l:=by
       unfold look at c;cases f:R.find? λq=>decide (q.1=l) with
       |none=>rw[f]at c;cases c
       |some q=>show#[q,xx f,by have:=Ec f;simpa using this]
      let#[v,hv]:=Option.isSome_iff_exists.mp<|J.sub q mq;rw[eq]at hv;have ev:kk K l=v:=by unfold kk;rw[hv];rfl
      have t5:=tE "in" (xN r) ag;rw[decide_eq_false (show ¬ cw (.to h' l r)="in" by change ¬ ("to":Str)="in";rw[MC];show id)]at t5;have kv:pY (dB<|d2 af aX (dV 4)<|dC<|.str "in") (d2 af ax (dV 3) zA) (dA (dV 1)<|dV 5) [ae<|.d zc,xB i,xB j,ae<|.d<|enc<|.to h' l r,ae<|.d<|.str<|cw<|.to h' l r,xN<|aA<|.to h' l r,xN r,ag,ag] bx=.val (.d<|.int<|kk K l) bx:=by
       unfold pY;rw[t5,fR,ev];show Cr (e:=D.int) (L:=K) zk zk (Dt hi) hv
      show(fw<|gQ kv).trans (Py h J hn hi hj _ _ _ _ (kk K l) r)
 |out h' l=>
   have t1:=tE "in" ag ag;rw[decide_eq_false (show ¬ cw (.out h' l)="in" by change ¬ ("out":Str)="in";rw[Ps];show id)]at t1 tN;refine(fw<|(gC<|mC t1).trans zk).trans ?_;have t2:=lC tN iR;change _=OS.rt (W.d<|.str (match look R l with|none=>"none"|some _=>"takes")) bx;cases c:look R l with
   |none=>
     rw[show look R (aA<|.out h' l)=ag from c]at t2;show jw<|(iG t2).trans zk
   |some r0=>
     rw[show look R (aA<|.out h' l)=ae r0 from c]at t2;show(fw<|(gC t2).trans zk).trans (jw<|(iG<|tE "out" ag ag).trans zk)
end
open bF
theorem Af {L:List (Int×α)}{x:Int}{v:α}{q:Int×α}(m:q∈put L x v):(q.1=x /\ q.2=v) \/ q∈L:=by
 unfold put at m;split at m
 .let#[p,mp,rfl]:=aK.mp m;by_cases h:p.1=x
  .rw[if_pos h];show .inl #[h,rfl]
  .rw[if_neg h];show .inr mp
 .rcases dY.mp m with m|m
  .show .inr m
  .cases c8.mp m;show .inl #[rfl,rfl]
theorem MH {L:List (Int×α)}{x:Int}{v:α}(nd:(L.map (·.1)).Nodup):((put L x v).map (·.1)).Nodup:=by
 unfold put;split
 .rw[bH];have:((λq:Int×α=>q.1)∘λq=>if q.1=x then (q.1,v) else q)=λq=>q.1:=by
   funext q;by_cases h:q.1=x<;>simp[h]
  rw[this];show nd
 .ext h;rw[dJ,pw];refine#[nd,by simp,λa ma b mb=>?_];cases (c8.mp mb);let#[q,mq,rfl]:=aK.mp ma;show λz=>h<|qi.mpr #[q,mq,decide_eq_true z]
theorem UC {L:List (Int×α)}{x:Int}(nd:(L.map (·.1)).Nodup):((rH L x).map (·.1)).Nodup:=nd.sublist<|(Ed).map _
theorem oD {L:Al}{x v:Int}(h:look L x=ae v):∃ q∈L,q.1=x:=by
 unfold look at h;cases f:L.find? λq=>decide (q.1=x) with
 |none=>rw[f]at h;cases h
 |some q=>show#[q,xx f,by have:=Ec f;simpa using this]
theorem mR {L:Al}{x:Int}:(look L x).isSome=ah ↔ ∃ q∈L,q.1=x:=by
 constructor
 .intro h;let#[v,h]:=Option.isSome_iff_exists.mp h;show oD h
 .rintro⟨q,m,rfl⟩;unfold look;rw[vg,List.find?_isSome];show#[q,m,by simp]
theorem MI {L:Al}{x v y:Int}(h:y=x \/ (look L y).isSome=ah):(look (put L x v) y).isSome=ah:=by
 rw[mR];have key:∀ z,(∃ q∈L,q.1=z)->∃ q∈put L x v,q.1=z:=λz ⟨q,m,e⟩=>by
  unfold put;split
  .refine#[if q.1=x then (q.1,v) else q,rT m,?_];split<;>show e
  .show#[q,qM _ m,e]
 rcases h with rfl|h
 .by_cases c:(look L y).isSome=ah
  .show key y<|mR.mp c
  .unfold put;rw[if_neg]
   .show#[(y,v),by simp,rfl]
   .intro z;let#[q,m,e]:=qi.mp z;show c<|mR.mpr #[q,m,of_decide_eq_true e]
 .show key y<|mR.mp h
theorem qc.step {ps K R:Al}(J:qc K R n) {g:Pg}(h:word ps K R g="takes"):qc (stK K g) (rK R g) (n+1):=by
 have lk:=J.lk;have lr:=J.lr;cases g with
 |aY h' l k r p w=>
   have a:=Cp K l k;have b:=Cp R l r;refine#[MH J.nd,λq m=>?_,by change (put K l k).length<=_;lia,by change (put R l r).length<=_;lia];rcases Af m with m|m
   .show MI<|.inl m.1
   .show MI<|.inr<|J.sub q m
 |to h' l r=>
   have b:=Cp R l r;refine#[MH J.nd,λq m=>?_,by change K.length<=_;lia,by change (put R l r).length<=_;lia];rcases Af m with m|m
   .rw[m.1];cases c:look R l with
    |none=>
      simp[word,c]at h;show absurd h zh
    |some v=>
      let#[q0,m0,e0]:=oD c;rw[<-e0];show J.sub q0 m0
   .show J.sub q m
 |out h' l=>
   refine#[UC J.nd,λq m=>J.sub q (dq.mp m).1,by change K.length<=_;lia,?_];have:=ui (λq:Int×Int=>decide (q.1≠l)) R;change (rH R l).length<=_;unfold rH;lia
def tq (x:Pg×Str×D×D):D:=.tup [enc x.1,.str x.2.1,x.2.2.1,x.2.2.2]
section
def Bk (bx:List Bx) (T:List<|Pg×Str×D×D) (K R:Al):List Bx:=bx++[.lst<|T.map tq,.aB<|aO K,.aB<|aO R]
variable {T T':List (Pg × Str × D × D)} {K R K' R':Al}
theorem Hj:(Bk bx T K R)[bx.length]?=ae (.lst<|T.map tq):=by simp[Bk]
theorem adT:(Bk bx T K R)[bx.length+1]?=ae (.aB<|aO K):=by simp[Bk]
theorem Hl:(Bk bx T K R)[bx.length+2]?=ae (.aB<|aO R):=by simp[Bk]
theorem adU:(Bk bx T K R).set bx.length (.lst<|T'.map tq)=Bk bx T' K R:=by simp[Bk]
theorem aij:(Bk bx T K R).set (bx.length+1) (.aB<|aO K')=Bk bx T K' R:=by simp[Bk]
theorem YV:(Bk bx T K R).set (bx.length+2) (.aB<|aO R')=Bk bx T K R':=by simp[Bk]
abbrev rB:aD:=(fv (fE (d2 af ax (dV 5) zq)<|fg 6)<|fv (fE (fm aT.iO 4<|ff (dV 0)<|ff (dV 3)<|ff (dV 4)<|ff (dV 5) fj)<|fg 7) zt)
theorem UD {env1 env2:bf}{bx2:List Bx}{w:W}{l:List W}{g:DG}{body:aD}(h1:g w env bx=ae (env1,bx1)) (h2:body env1 bx1=.ct env2 bx2):bX g body (w::l) env bx=bX g body l env2 bx2:=by
 rw[bX,h1];simp[h2]
noncomputable abbrev rE (H P:D) (t:Nat) (x5 x6 x7:Option W):bf:=[ae<|.d H,ae<|.d P,ae<|.b t,ae<|.b<|t+1,ae<|.b<|t+2,x5,x6,x7]
variable {P:D}
theorem MJ (g:Pg) (h:env[5]?=ae (ae<|.d<|enc g)):d2 af ax (dV 5) zq env B=.val (.d<|.int<|aA g) B:=by
 cases g<;>simp[h,enc,ku,cX,p8,ax,bO,dG,aA]
theorem R6 (g:Pg) (w:Str) (h:env[5]?=ae (ae<|.d<|enc g)):dB (d2 af aX (d2 af ax (dV 5) zb)<|dC<|.str w) env B=.val (decide (cw g=w)) B:=by
 refine f8<|fG ?_ zk<|eq_str _ _;cases g<;>simp[h,enc,ku,cX,p8,ax,bO,dG,cw]
theorem MK (h:Hs rs ks ps hd) (J:qc K R n) (hn:n<=100) (g:Pg) (x6 x7:Option W) {k:aD} :
 fv (fE (d2 af ax (dV 5) zq)<|fg 6) (fv (fE (fm aT.iO 4<|ff (dV 0)<|ff (dV 3)<|ff (dV 4)<|ff (dV 5) fj)<|fg 7) k) (rE zc P bx.length (ae<|.d<|enc g) x6 x7) (Bk bx T K R) =
  k (rE zc P bx.length (ae<|.d<|enc g) (xN<|aA g)<|ae<|.d<|.str<|word ps K R g) (Bk bx T K R):=
 (fw<|gQ<|MJ g zk).trans (fw<|gQ<|fJ zk zk<|UB h J hn adT Hl g)
theorem R7 (w:Str) (h:env[7]?=ae (ae<|.d<|.str w)):dB (d2 af eA (dV 7)<|dC<|.str "takes") env B=.val (!decide (w="takes")) B:=
 f8 (fG (by unfold dV;rw[h]) zk<|ne_str _ _)
theorem Wf (h:Hs rs ks ps hd) (J:qc K R n) (hn:n<=100) (hT:T.length<=100) (g:Pg) (x6 x7:Option W) (c:¬ word ps K R g="takes") :
 rB (rE zc P bx.length (ae<|.d<|enc g) x6 x7) (Bk bx T K R)=.ct (rE zc P bx.length (ae<|.d<|enc g) (xN<|aA g)<|ae<|.d<|.str<|word ps K R g) (Bk bx (T++[(g,word ps K R g,.aC,.aC)]) K R):=by
 have z:=bJ;refine(MK h J hn g x6 x7).trans ?_;have t:=R7 _ (env:=rE zc P bx.length (ae<|.d<|enc g) (xN<|aA g)<|ae<|.d<|.str<|word ps K R g) (B:=Bk bx T K R) zk;rw[decide_eq_false c]at t;have a:=AX (m:=dV 2) (k:=gn<|ff (dV 5)<|ff (dV 7)<|ff (dC .aC)<|ff (dC .aC) fj) (env:=rE zc P bx.length (ae<|.d<|enc g) (xN<|aA g)<|ae<|.d<|.str<|word ps K R g) (bx:=Bk bx T K R) (d:=tq (g,word ps K R g,.aC,.aC)) zk Hj (im [enc g,.str<|word ps K R g,.aC,.aC] zk zm) Hj zm;rw[show T.map tq++[tq (g,word ps K R g,D.aC,D.aC)]=(T++[(g,word ps K R g,D.aC,D.aC)]).map tq by simp,adU]at a;rw[lB,iG t,fw<|ip a];rfl
noncomputable def kB:Pg->D
 |.aY _ _ _ r _ _=>.int r
 |.to _ _ r=>.int r
 |.out ..=>.aC
theorem Du {L:Al}{k v:DE W}{i:Nat}{l x:Int}(hv:v env B=.val (.d<|.int x) B) (hm:m env B=.val (.b i) B) (hk:k env B=.val (.d<|.int l) B) (hb:B[i]?=ae (.aB<|aO L)) (hl:L.length<=1000):pM m k v env B=.nx env (B.set i<|.aB<|aO<|put L l x):=by
 have z:=bJ;unfold pM;rw[hv,jW,hm,jW,hk,jW];simp[hb,p9];rw[if_pos (by unfold aO cR;simp;lia),Gv]
theorem R8 {L:Al}{k:DE W}{i:Nat}{l:Int}(hm:m env B=.val (.b i) B) (hk:k env B=.val (.d<|.int l) B) (hb:B[i]?=ae (.aB<|aO L)) (hs:(look L l).isSome=ah):uS m k env B=.nx env (B.set i<|.aB<|aO<|rH L l):=by
 unfold uS;rw[hm,jW,hk,jW];simp[hb,p9];rw[if_pos (by rw[j0,vg];show hs),Dq]
theorem UE {L:Al}{k:DE W}{i:Nat}{l:Int}(hm:m env B=.val (.b i) B) (hk:k env B=.val (.d<|.int l) B) (hb:B[i]?=ae (.aB<|aO L)):vH m k env B=.val (.d<|((look L l).map D.int).getD .aC) B:=by
 unfold vH;rw[hm,fR];simp[hb,hk,fR,p9];rw[j0];rfl
theorem Dv {h' l:Int}(c:word ps K R (.out h' l)="takes"):(look R l).isSome=ah:=by
 simp[word]at c;cases e:look R l with
 |none=>rw[e]at c;show absurd c zh
 |some v=>rfl
theorem UF (h:Hs rs ks ps hd) (J:qc K R n) (hn:n<=100) (hT:T.length<=100) (g:Pg) (x6 x7:Option W) (c:word ps K R g="takes") :
 rB (rE zc P bx.length (ae<|.d<|enc g) x6 x7) (Bk bx T K R)=.nx (rE zc P bx.length (ae<|.d<|enc g) (xN<|aA g)<|ae<|.d<|.str<|word ps K R g) (Bk bx (T++[(g,word ps K R g,((look R<|aA g).map D.int).getD .aC,kB g)]) (stK K g)<|rK R g):=by
 have z:sizeLine=16777216:=bJ;have lk:=J.lk;have lr:=J.lr;refine(MK h J hn g x6 x7).trans ?_;generalize hE:rE _ P bx.length _ _ _=E;have e2:∀ B,dV 2 E B=.val _ B:=λB=>by subst hE;rfl
 have e3:∀ B,dV 3 E B=.val _ B:=λB=>by subst hE;rfl
 have e4:∀ B,dV 4 E B=.val _ B:=λB=>by subst hE;rfl
 have e5:E[5]?=ae (ae<|.d<|enc g):=by subst hE;rfl
 have v5:∀ B,dV 5 E B=.val _ B:=λB=>by subst hE;rfl
 have e6:∀ B,dV 6 E B=.val _ B:=λB=>by subst hE;rfl
 have e7:∀ B,dV 7 E B=.val _ B:=λB=>by subst hE;rfl
 have t:=R7 _ (env:=E) (B:=Bk bx T K R) (by subst hE;rfl);rw[decide_eq_true c]at t;refine(fw<|(gC t).trans zk).trans ?_;have en:∀ B,fm aT.fM 1 (ff _ fj) E B=.val (.d<|kB g) B:=λB=>(fJ (fk (v5 B) zk) zk<|Cq g).trans (by cases g<;>rfl);have a:=AX (k:=gn<|ff (dV 5)<|ff (dV 7)<|ff (vH (dV 4)<|dV 6)<|ff (fm aT.fM 1<|ff (dV 5) fj) fj) (bx:=Bk bx T K R) (d:=tq (g,word ps K R g,((look R<|aA g).map D.int).getD .aC,kB g)) (e2 _) Hj
  (im [enc g,.str<|word ps K R g,((look R<|aA g).map D.int).getD .aC,kB g] (fk (v5 _)<|fk (e7 _)<|fk (UE (e4 _) (e6 _) Hl)<|fk (en _) zk) zm) Hj zm
 rw[show T.map tq++[tq (g,word ps K R g,((look R<|aA g).map D.int).getD .aC,kB g)]=(T++[(g,word ps K R g,((look R<|aA g).map D.int).getD .aC,kB g)]).map tq by simp,adU]at a;refine(fw<|ip a).trans ?_;generalize T++[(g,word ps K R g,((look R<|aA g).map D.int).getD .aC,kB g)]=T2;have ti:=R6 g "in" (B:=Bk bx T2 K R) e5;have to:=λK2=>R6 g "out" (B:=Bk bx T2 K2 R) e5;cases g with
 |aY h' l k r p w=>
   have p1:=Du (v:=d2 af ax (dV 5) zA) (B:=Bk bx T2 K R) (env:=E) (by rw[Me,v5];rfl) (e3 _) (e6 _) adT za;rw[aij]at p1;refine(fw<|(iG ti).trans p1).trans ?_;have to:=to<|put K l k;rw[decide_eq_false (show ¬ cw (.aY h' l k r p w)="out" by change ¬ ("in":Str)="out";rw[Uw];show id)]at to;have p2:=Du (v:=fm aT.fM 1<|ff (dV 5) fj) (x:=r) (B:=Bk bx T2 (put K l k) R) (env:=E) (en _) (e4 _) (e6 _) Hl za;rw[YV]at p2;show(gC to).trans p2
 |to h' l r=>
   rw[decide_eq_false (show ¬ cw (.to h' l r)="in" by change ¬ ("to":Str)="in";rw[MC];show id)]at ti;refine(fw<|(gC ti).trans zk).trans ?_;have to:=to K;rw[decide_eq_false (show ¬ cw (.to h' l r)="out" by change ¬ ("to":Str)="out";rw[Ux];show id)]at to;have p2:=Du (v:=fm aT.fM 1<|ff (dV 5) fj) (x:=r) (B:=Bk bx T2 K R) (env:=E) (en _) (e4 _) (e6 _) Hl za;rw[YV]at p2;show(gC to).trans p2
 |out h' l=>
   rw[decide_eq_false (show ¬ cw (.out h' l)="in" by change ¬ ("out":Str)="in";rw[Ps];show id)]at ti;refine(fw<|(gC ti).trans zk).trans ?_;have p2:=R8 (B:=Bk bx T2 K R) (env:=E) (e4 _) (e6 _) Hl<|Dv c;rw[show aA (.out h' l)=l from rfl,YV]at p2;show(iG<|to K).trans p2
theorem adV:qc [] [] 0:=#[by simp,(λq m=>nomatch m),aI _,aI _]
abbrev g4:DG:=fT 4<|fu (fg 0)<|fu (fg 1)<|fu (fg 2)<|fu (fg 3) fW
end
noncomputable abbrev At:=List<|Int×(Int×Int)
theorem ML {L:List (Int×α)}(nd:(L.map (·.1)).Nodup) {q:Int×α}(m:q∈L):(L.find? λp=>decide (p.1=q.1)).map (·.2)=ae q.2:=by
 induction L with
 |nil=>cases m
 |cons a L ih=>
   rw[aM,nE]at nd;rw[vf];rcases aZ.mp m with rfl|m
   .simp
   .have:¬ a.1=q.1:=λz=>nd.1 (by rw[z];show rT m);rw[decide_eq_false this];show ih nd.2 m
section
variable {K R:List (Int × Int)} {b:Nat} {k:Int}
end
noncomputable abbrev ml (n:Nat):List (Str×Nat):=[("there",n),("came",n+1),("gone",n+2),("doors",n+3),("at",n+4),("words",n+5)]
section
variable {th ak9:At} {ala:List (Int × Pg)} {go go':Al} {alb:List (List Key × D)} {av alc wd ald:List D}
end
noncomputable def bu:Pg->Int
 |.aY h ..=>h
 |.to h ..=>h
 |.out h _=>h
section
variable {e:α -> D} {L:List (Int × α)} {k v:DE W} {i:Nat} {l:Int}
theorem UG {x:α}(hv:v env B=.val (.d<|e x) B) (hm:m env B=.val (.b i) B) (hk:k env B=.val (.d<|.int l) B) (hb:B[i]?=ae (.aB<|cR e L)) (hl:L.length<=1000):pM m k v env B=.nx env (B.set i<|.aB<|cR e<|put L l x):=by
 have z:=bJ;unfold pM;rw[hv,jW,hm,jW,hk,jW];simp[hb,p9];rw[if_pos (by unfold cR;simp;lia),Gv]
theorem UH {x:α}(hm:m env B=.val (.b i) B) (hk:k env B=.val (.d<|.int l) B) (hb:B[i]?=ae (.aB<|cR e L)) (hs:(L.find? λq=>decide (q.1=l)).map (·.2)=ae x):wK m k env B=.val (.d<|e x) (B.set i<|.aB<|cR e<|rH L l):=by
 unfold wK;rw[hm,fR];simp[hb,hk,fR,p9];rw[j0,hs,Dq];rfl
end
end aT
namespace bF
open L2 L2.DL K1 K2
section
variable {bx2 cM:List Bx}
end
end bF
namespace K2
open L2 L2.DL K1
section
variable {h:D} {rs:List Int} {x0 x1 x2 x4 x5 x6 x7 x8 x9 bz cZ eR adW aik:Option W}
end
section
variable {h:D} {rs:List Int} {x0 x1 x4 x5 x6 x7 x8 eR adW aik:Option W}
end
end K2
namespace K1
open L2 L2.DL
end K1
namespace K2
open L2 L2.DL K1
end K2
namespace bF
open L2 L2.DL K1 K2
section
variable {x0 x1 x2 x5 x7 x8 x9 bz:Option W}
end
section
variable {bx2:List Bx}
end
section
variable {x0 x1 x3 x5 x6 x7 cZ eR adW:Option W}
end
section
variable {x0 x1 x5:Option W}
end
end bF
namespace dD
open L2 L2.DL K1 bF
section
variable {r:bf}
end
section
variable {bx2:List Bx}
end
theorem MM (neg:Bool) (is:List Int) (b:Int):inD neg (.int b) (.lst<|is.map D.int)=ae (.old<|.bl (if neg then !decide (b∈is) else decide (b∈is))):=by
 change (if nN _=ah /\ (is.map D.int).all nN=ah then ae _ else wI neg _ _ _)=_;rw[if_pos #[rfl,JH is],My];have:(is.any λz=>decide (z=b))=decide (b∈is):=by
  rw[nT];simp
 rw[this]
end dD
namespace aT
open L2 L2.DL K1 dD bF
def Hm (ps K R:Al) (g:Pg):Al:=if word ps K R g="takes" then stK K g else K
def wO (ps K R:Al) (g:Pg):Al:=if word ps K R g="takes" then rK R g else R
theorem Gw {ps K R:Al}{g:Pg}(h:¬ word ps K R g="takes"):Hm ps K R g=K /\ wO ps K R g=R:=#[if_neg h,if_neg h]
theorem lD {ps K R:Al}{g:Pg}(h:word ps K R g="takes"):Hm ps K R g=stK K g /\ wO ps K R g=rK R g:=#[if_pos h,if_pos h]
section
variable {K R:List (Int × Int)} 
variable {go:Al} {av wd:List D}
noncomputable def bI:Pg->Int
 |.aY _ _ k ..=>k
 |_=>0
noncomputable def isIn:Pg->Bool
 |.aY ..=>ah
 |_=>af
end
section
variable {P:D} 
theorem Wg (g:Pg) (h:env[3]?=ae (ae<|.d<|enc g)):d2 af ax (dV 3) zi env B=.val (.d<|.int<|bu g) B:=by
 cases g<;>simp[h,enc,ku,cX,p8,ax,bO,dG,bu]
end
abbrev YW (ft:List W->List Bx->O W):aD:=(fE (d2 af fO (dV 3)<|fN af [ag,ae 0,ae 4] (ka<|ff (dV 4) fj) (fg 0) (dB<|d2 af aX (fm ft 2<|ff (dV 1)<|ff zA fj) zi)<|gn<|ff (dV 0)<|ff (dV 2) fj)<|fg 3)
theorem JI (h:n<bx.length) (k:Nat) (hk:k<=4) (p:Int):∃ is:List Nat,∃ q,is.Sublist (List.range k) /\
 cj (fg 0) (dB<|d2 af aX (fm K1.fq 2<|ff (dV 1)<|ff zA fj) zi) (gn<|ff (dV 0)<|ff (dV 2) fj) (fQ 0 k) [ag,xB n,xN k] (pt bx n p) []=.val (is.map λ(i:Nat)=>dP ((i:Int),(k:Int))) (pt bx n q):=by
 have z2:(2)<=sizeLine:=by decide
 have sz:=bJ
 let#[l',q,e,s]:=Mr (g:=fg 0) (tf:=dB<|d2 af aX (fm K1.fq 2<|ff (dV 1)<|ff zA fj) zi) (te:=gn<|ff (dV 0)<|ff (dV 2) fj) (λe=>∃ w,e=[w,xB n,xN k]) (λw=>.tup [match w with|.d x=>x|_=>.aC,.int k]) (bx:=bx) (n:=n) (fQ 0 k) [ag,xB n,xN k] p [] #[ag,rfl] (by
  intro w mw env p ⟨w0,je⟩;let#[i,_,rfl]:=aK.mp mw;show#[[xN<|0+(i),xB n,xN k],decide (p % 3=0),p / 3,by simp[je],#[_,rfl],by simp[(jq h p 3 (by decide) (by decide)),aX],rfl]) (by simp[fQ];lia)
 let#[is,s1,rfl]:=List.sublist_map_iff.mp s;refine#[is,q,s1,?_];rw[e,kH,bH];congr 1;refine HR λi _=>?_;simp
theorem MN {ft:List W->List Bx->O W}{k:Nat}{p q:Int}(x1 x2:Option W) {is:List Nat}(hk:k<=4) (y:ps.length+is.length<=sizeLine)
 (e:cj (fg 0) (dB<|d2 af aX (fm ft 2<|ff (dV 1)<|ff zA fj) zi) (gn<|ff (dV 0)<|ff (dV 2) fj) (fQ 0 k) [ag,xB n,xN k] (pt bx n p) []=.val (is.map λ(i:Nat)=>dP ((i:Int),(k:Int))) (pt bx n q)) :
 YW ft [xB n,x1,x2,xP ps,xN (k:Int)] (pt bx n p)=.nx [xB n,x1,x2,xP<|ps++is.map λ(i:Nat)=>((i:Int),(k:Int)),xN (k:Int)] (pt bx n q):=by
 have ad:fO (.lst<|ps.map dP) (.lst<|is.map λ(i:Nat)=>dP ((i),(k)))=ae (.lst<|(ps++is.map λ(i:Nat)=>((i:Int),(k:Int))).map dP):=by
  refine(if_pos (by rw[aV,aV];show y)).trans ?_;rw[dJ,bH];rfl
 unfold YW
 rw[Fn,Me,show dV 3 _ _=.val _ _ from rfl,fR,Ch,(Ck (env:=[ae _,x1,x2,ae _,ae _]) (bx:=pt bx n p) (k:=k) (m:=ff _ fj) (rfl) za),fR,
  show hZ _ _=[ag,ae _,ae _] from rfl,e,fR,iF,fR,lK,AS,AS,bV,bV,ad,iF,lK,jW,Dh]
 rfl
theorem MO (h:n<bx.length) (x1 x2:Option W):∀ (c k:Nat) (p:Int) (ps:List<|Int×Int) (w:Option W),k+c<=4->Hi k ps ->
 ∃ uN w' q,bX (fg 4) (YW K1.fq) ((List.range' k c).map λ(i:Nat)=>W.d<|.int<|0+(i:Int)) [xB n,x1,x2,xP ps,w] (pt bx n p)=.nx [xB n,x1,x2,xP uN,w'] (pt bx n q) /\ Hi (k+c) uN:=by
 intro c;induction c with
 |zero=>intro k p ps w _ s;show#[ps,w,p,rfl,s]
 |succ c ih=>
   intro k p ps w hk s;let#[is,q,s1,e]:=JI h k za p;have li:is.length<=k:=by have:=s1.length_le;simpa using this
   let#[uN,w',q',e2,s2]:=ih _ q _ _ za<|s.more s1 za;refine#[uN,w',q',?_,by rw[show k+(c+1)=k+1+c by lia];show s2];have sz:=bJ;have pl:=s.l;have g1:fg 4 (W.d<|.int<|0+(k)) [xB n,x1,x2,xP ps,w] (pt bx n p)=ae ([xB n,x1,x2,xP ps,xN<|k],pt bx n p):=by
    rw[abp];rfl
   rw[List.range'_succ,aM,gG g1<|MN x1 x2 (ps:=ps) za za e];show e2
theorem Gx (h:n<bx.length) (p:Int) {P:D->zw}{k:Int}(k0:0<k) (k5:k<=5) (ht:∀ (w:W) (p:Int),∃ d q,te [ae w,xB n] (pt bx n p)=.val (.d d) (pt bx n q) /\ P d):∃ ds q,(∀ d∈ds,P d) /\ 1<=ds.length /\ (ds.length:Int)<=k /\ ∀ {env:bf},env[0]?=ae (xB n)->dN af vv (ff (fN af [ag,ae 0] (ka<|ff (d2 af fO zb<|fm K1.fq 2<|ff (dV 0)<|ff (dC<|.int k) fj) fj) (fg 0) fU te) fj) env (pt bx n p)=.val (.d<|.tup ds) (pt bx n q):=by
 have sz:=bJ;let#[r,q1,t,r0,r1]:=bF.n9 h p k k0 za;let#[j,rfl]:=Ip r0
 let#[ds,q,e1,e2,e3]:=Gq (g:=fg 0) (λe=>∃ w,e=[w,xB n]) P (fQ 0<|1+j) _ q1 [] #[ag,rfl] (by
  intro w _ env p ⟨w0,je⟩;let#[d,q,e,m]:=ht w p;show#[[ae w,xB n],by simp[je],#[_,rfl],d,q,e,m]) (by simp[fQ];lia)
 have n5:ds.length=1+j:=by rw[e2];simp[fQ]
 simp[kH]at e1;refine#[ds,q,e3,by lia,by lia,λ{env} he=>?_];have rg:=mB (fk (ks:=fj) (fG (g:=fO) (m:=dC<|.int 1) zk (t (env:=env) he (m:=dC<|.int k) zk) zk) zk) za;rw[show (1+(j:Int)).toNat=1+j by lia]at rg;show jh (r:=.tup ds) [.lst ds] (fk (gK rg (by simp[oU,oV,AT,he,bV,id]) e1) zk) zk
theorem MP (h:n<bx.length) (p:Int):∃ rs ks ps hd q,iV [.b n] (pt bx n p)=.val (.d zc) (pt bx n q) /\ Hs rs ks ps hd:=by
 let#[rs,q1,hr,r1,r5,e1]:=Gx h p (te:=fm K1.fq 2<|ff (dV 1)<|ff (dC<|.int 4) fj) (P:=λd=>wi d 0 3=ah) (k:=5) zh zh (λw p=>by
  let#[r,q,t,a,b]:=bF.n9 h p 4 zh zh;show#[.int r,q,t zk zk,by simp[wi];lia])
 let#[ks,q2,hk,k1,k4,e2]:=Gx h q1 (te:=fm K1.ia 1<|ff (dV 1) fj) (k:=4) zh zh (λw p=>by
  let#[d,q,e,m]:=Pm h p;show#[d,q,fJ zk zk e,m])
 let#[ps,w',q3,e3,s3]:=MO h (ae<|.d<|.tup rs) (ae<|.d<|.tup ks) ks.length 0 q2 [] ag za #[.nil,(λp m=>nomatch m),aI _];rw[Xh]at s3;have pl:=s3.l;let#[qs,pq,so,e4]:=Pn ps za;let#[hd,q4,hh,e5]:=Po h q3 (ae<|.d<|.tup rs) (ae<|.d<|.tup ks) (xP ps) w';have hb:∀ p∈qs,0<=p.1 /\ p.1<p.2 /\ p.2<(ks.length):=λp m=>s3.b p<|pq.mem_iff.mp m;have lq:qs.length<=16:=by rw[pq.length_eq];lia
 refine#[rs,ks,qs,hd,q4,Mo ?_ (by rw[iH,iH];show aI _),#[by lia,by lia,by lia,by lia,λp m=>(hb p m).2.1,by lia,?_]]
 .have sz:=bJ;show qS (e1 zk)<|qS (e2 zk)<|qS (iT [] zk<|cJ _)<|(fw<|(ir<|Ck (env:=[xB n,ae<|.d<|.tup rs,ae<|.d<|.tup ks,xP<|[],ag]) (bx:=pt bx n q2) (k:=ks.length) (m:=ff (dN af cE<|ff (dV 2) fj) fj) (rfl) za).trans (by unfold fQ;rw[List.range_eq_range'];show e3)).trans<|f9<|im [.tup rs,.tup ks,.tup<|qs.map dP,hd] (fk zk<|fk zk<|fk (jh (r:=.tup<|qs.map dP) [.lst<|qs.map dP] (fk (jh (r:=.lst<|qs.map dP) [.lst<|ps.map dP] (fk zk zk) e4) zk) zk)<|fk e5 zk) (show (4:Nat)<=sizeLine by lia)
 .have a:apart (ks.length:Int) (.tup<|qs.map dP)=ah:=by
   have b1:(qs.map dP).all (yD (ks.length:Int))=ah:=by
    rw[xw,cU];intro p m;have:=hb p m;simp[yD,tl];lia
   change (((qs.map dP).all<|yD (ks.length:Int))&&vN ((qs.map dP).filterMap YR))=ah;rw[Gk,b1,(Gr so<|pq.nodup_iff.mpr s3.nd)];rfl
  have ail:rooms (.tup rs)=ah:=by simp[rooms,tl,cU.mpr hr];lia
  have ux:kinds (.tup ks)=ah:=by simp[kinds,tl,cU.mpr hk];lia
  simp[house,lenOf,ail,ux,a,hh,aa3]
end aT
namespace bS
open L2 L2.DL K1 dD bF aT
def pre (h:Int) (ps:Al):Al->Al->List Pg->Al×Al
 |K,R,[]=>(K,R)
 |K,R,g::gs=>if bu g<=h then pre h ps (Hm ps K R g) (wO ps K R g) gs else (K,R)
abbrev ub (gs:List Pg):zw:=gs.Pairwise λa b=>bu a<=bu b
theorem UI (r:uU gs):ub gs:=by
 refine r.imp λ{a b} h=>?_;have:∀ {l m}{i j},HT.cq (.i i::l) (.i j::m)=ah->i<=j:=λ{l m i j} h=>by
  unfold HT.cq at h;split at h
  .ext e;cases e;show uq _
  .have:decide _=ah:=h;simp at this;lia
 cases a<;>cases b<;>show this h
theorem A0 {h:Int}{ps K R:Al}:∀ {gs:List Pg},(∀ g∈gs,¬ bu g<=h)->pre h ps K R gs=(K,R)
 |[],_=>rfl
 |g::gs,l=>by unfold pre;rw[if_neg<|l g<|bw ..]
def taken (ps:Al):Al->Al->List Pg->List Pg
 |_,_,[]=>[]
 |K,R,g::gs=>if word ps K R g="takes" then g::taken ps (stK K g) (rK R g) gs else taken ps K R gs
abbrev vO:aD:=(fv (aS (dB<|d2 af n6 (d2 af ax (dV 3) zi)<|dV 1) Kh aW)<|aS (dB<|nj af<|dV 5) (uS (dV 2)<|d2 af ax (dV 3) zq)<|pM (dV 2) (d2 af ax (dV 3) zq)<|dV 5)
abbrev uc (q:Pg×D):D:=.tup [enc q.1,q.2,kB q.1]
abbrev g3:DG:=fT 3<|fu (fg 3)<|fu (fg 4)<|fu (fg 5) fW
theorem YX (g:Pg) (h:env[3]?=ae (ae<|.d<|enc g)):d2 af ax (dV 3) zq env B=.val (.d<|.int<|aA g) B:=by
 cases g<;>simp[h,enc,ku,cX,p8,ax,bO,dG,aA]
theorem UJ {env1 env2:bf}{bx2:List Bx}{w:W}{l:List W}{g:DG}{body:aD}(h1:g w env bx=ae (env1,bx1)) (h2:body env1 bx1=.bk env2 bx2):bX g body (w::l) env bx=.nx env2 bx2:=by
 rw[bX,h1];simp[h2]
theorem UK {a b:aD}{env1:bf}(h:a env bx=.bk env1 bx1):fv a b env bx=.bk env1 bx1:=by rw[lB,h]
section
variable {ps:Al} {h:Int} {x0:Option W}
theorem UL {K R:Al}(J:qc K R n) (hn:n<=100) {g:Pg}(c:word ps K R g="takes") (t:bu g<=h) (x:D) :
 vO [x0,xN h,xB bx.length,ae<|.d<|enc g,ae<|.d x,ae<|.d<|kB g] (bx++[.aB<|aO R])=.nx [x0,xN h,xB bx.length,ae<|.d<|enc g,ae<|.d x,ae<|.d<|kB g] (bx++[.aB<|aO<|rK R g]):=by
 have lr:=J.lr;refine(fw<|(gC<|f8<|fG (r:=.old<|.bl af) (Wg g zk) zk (by simp[n6];lia)).trans zk).trans ?_;have b0:(bx++[Bx.aB<|aO R])[bx.length]?=ae (.aB<|aO R):=by simp
 have st:∀ L:Al,(bx++[Bx.aB<|aO R]).set bx.length (.aB<|aO L)=bx++[.aB<|aO L]:=λL=>by simp
 cases g with
 |aY h' l k r p w=>
   have p2:=Du (m:=dV 2) (v:=dV 5) (env:=[x0,xN h,xB bx.length,ae<|.d<|enc<|.aY h' l k r p w,ae<|.d x,ae<|.d<|kB<|.aY h' l k r p w]) zk zk (YX (.aY h' l k r p w) zk) b0 za;rw[st]at p2;show(gC zk).trans p2
 |to h' l r=>
   have p2:=Du (L:=R) (m:=dV 2) (k:=d2 af ax (dV 3) zq) (v:=dV 5) (x:=r) (l:=l) (i:=bx.length) (B:=bx++[.aB<|aO R]) (env:=[x0,xN h,xB bx.length,ae<|.d<|enc<|.to h' l r,ae<|.d x,ae<|.d<|kB<|.to h' l r]) zk zk (YX (.to h' l r) zk) b0 za;rw[st]at p2;show(gC (t:=dB<|nj af<|dV 5) zk).trans p2
 |out h' l=>
   have p2:=R8 (L:=R) (m:=dV 2) (k:=d2 af ax (dV 3) zq) (l:=l) (i:=bx.length) (B:=bx++[.aB<|aO R]) (env:=[x0,xN h,xB bx.length,ae<|.d<|enc<|.out h' l,ae<|.d x,ae<|.d<|kB<|.out h' l]) zk (YX (.out h' l) zk) b0<|Dv c;rw[st]at p2;show(iG (t:=dB<|nj af<|dV 5) zk).trans p2
theorem Pz:∀ (gs:List Pg) (K R:Al) (n:Nat) (S:List<|Pg×D) (y3 y4 y5:Option W),ub gs->qc K R n->n+gs.length<=100->S.map (·.1)=taken ps K R gs ->
 ∃ z3 z4 z5,bX g3 vO ((S.map uc).map W.d) [x0,xN h,xB bx.length,y3,y4,y5] (bx++[.aB<|aO R])=.nx [x0,xN h,xB bx.length,z3,z4,z5] (bx++[.aB<|aO (pre h ps K R gs).2]):=by
 intro l_;induction l_ with
 |nil=>
   intro K R n S y3 y4 y5 _ _ _ e;have:=List.map_eq_nil_iff.mp e;subst this;show#[y3,y4,y5,rfl]
 |cons g gs ay=>
   intro K R n S y3 y4 y5 s J hn e;let#[s1,s2]:=nS.mp s;rw[bN]at hn;by_cases c:word ps K R g="takes"
   .rw[show taken ps K R (g::gs)=g::taken ps _ _ gs from if_pos c]at e;cases S with
    |nil=>cases e
    |cons q S=>
      let#[q1,x]:=q;rw[aM]at e;injection e with e1 e2;subst e1;have g1:g3 (W.d<|uc (q1,x)) [x0,ae _,ae _,y3,y4,y5] _=ae ([x0,xN h,xB bx.length,ae _,ae<|.d x,ae<|.d<|kB q1],bx++[.aB<|aO R]):=rfl;by_cases t:bu q1<=h
      .let#[z3,z4,z5,ih]:=ay (stK K q1) (rK R q1) (n+1) S (ae<|.d<|enc q1) (ae<|.d x) (ae<|.d<|kB q1) s2 (J.step c) za e2;refine#[z3,z4,z5,?_];rw[aM,aM,gG g1<|UL J za c t x,ih,show pre h ps K R (q1::gs)=pre h ps (Hm ps K R q1) (wO ps K R q1) gs from if_pos t,(lD c).1,(lD c).2]
      .refine#[ae<|.d<|enc q1,ae<|.d x,ae<|.d<|kB q1,?_];have bk:vO [x0,xN h,xB bx.length,ae<|.d<|enc q1,ae<|.d x,ae<|.d<|kB q1] (bx++[.aB<|aO R])=.bk [x0,xN h,xB bx.length,ae<|.d<|enc q1,ae<|.d x,ae<|.d<|kB q1] (bx++[.aB<|aO R]):=UK<|(iG<|f8<|fG (r:=.old<|.bl ah) (Wg q1 zk) zk (by simp[n6];lia)).trans zk;rw[aM,aM,UJ g1 bk,show pre h ps K R (q1::gs)=(K,R) from if_neg t]
   .rw[show taken ps K R (g::gs)=taken ps K R gs from if_neg c]at e;let#[z3,z4,z5,ih]:=ay K R n S y3 y4 y5 s2 J za e;refine#[z3,z4,z5,ih.trans ?_];by_cases t:bu g<=h
    .rw[show pre h ps K R (g::gs)=pre h ps (Hm ps K R g) (wO ps K R g) gs from if_pos t,(Gw c).1,(Gw c).2]
    .rw[show pre h ps K R (g::gs)=(K,R) from if_neg t,A0 λg' m=>by have:=s1 g' m;lia]
end
theorem Wh {i k:Nat}{l:List (Key×D)}(h:env[k]?=ae (xB i)) (hb:bx[i]?=ae (.aB l)):sq k env bx=.val (.d<|.aB l) (bx.set i .dead):=by
 unfold sq;simp[h,hb]
theorem Gy {h:Int}{S:List (Pg×D)}(s:ub qs) (hl:qs.length<=16) (e:S.map (·.1)=taken ps [] [] qs) :
 gU [.d<|.lst<|S.map uc,.d<|.int h] bx=.val (.d<|.aB<|aO (pre h ps [] [] qs).2) bx:=by
 let#[z3,z4,z5,f]:=Pz qs [] [] 0 S ag ag ag s adV za e;have s1:fE (pI ah []) (fg 2) [ae<|.d<|.lst<|S.map uc,xN h,ag,ag,ag,ag] bx=.nx [ae<|.d<|.lst<|S.map uc,xN h,xB bx.length,ag,ag,ag] (bx++[.aB<|aO []]):=by
  have:pI ah [] [ae<|.d<|.lst<|S.map uc,xN h,ag,ag,ag,ag] bx=.val (.b bx.length) (bx++[.aB<|aO []]):=rfl;show gQ this
 have b:ly [ae<|.d<|.lst<|S.map uc,xN h,ag,ag,ag,ag] bx=.rt (.d<|.aB<|aO (pre h ps [] [] qs).2) ((bx++[Bx.aB<|aO (pre h ps [] [] qs).2]).set bx.length .dead):=
  (fw s1).trans ((fw<|(ir<|gp zk).trans f).trans<|f9<|Wh zk zf)
 refine(jY b).trans ?_;simp
theorem aim:∀ (T:List<|Pg×Str×D×D) (w0 w1 w2 w3:Option W) (acc:List D),acc.length+T.length<=1000 ->
 cj g4 (dB<|d2 af aX (dV 1)<|dC<|.str "takes") (gn<|ff (dV 0)<|ff (dV 2)<|ff (dV 3) fj) ((T.map tq).map W.d) [w0,w1,w2,w3] B acc=.val (acc++(T.filter λx=>decide (x.2.1=("takes":Str))).map λx=>.tup [enc x.1,x.2.2.1,x.2.2.2]) B:=by
 intro l_;induction l_ with
 |nil=>(intro _ _ _ _ acc _;simp[cj])
 |cons x T ay=>
   intro w0 w1 w2 w3 acc hl;have z:sizeLine=16777216:=bJ;rw[bN]at hl;have e0:g4 (W.d<|tq x) [w0,w1,w2,w3] B=ae ([ae _,ae _,ae _,ae _],B):=rfl;have t:dB (d2 af aX (dV 1)<|dC<|.str "takes") [ae<|.d<|enc x.1,ae<|.d<|.str x.2.1,ae<|.d x.2.2.1,ae<|.d x.2.2.2] B=.val (decide (x.2.1="takes")) B:=f8<|fG zk zk<|eq_str _ _;have e1:gn (ff (dV 0)<|ff (dV 2)<|ff (dV 3) fj) [ae<|.d<|enc x.1,ae<|.d<|.str x.2.1,ae<|.d x.2.2.1,ae<|.d x.2.2.2] B=.val (.d<|.tup [enc x.1,x.2.2.1,x.2.2.2]) B:=im [enc x.1,x.2.2.1,x.2.2.2] zk zm;by_cases c:x.2.1=("takes")
   .have ih:=ay (ae<|.d<|enc x.1) (ae<|.d<|.str x.2.1) (ae<|.d x.2.2.1) (ae<|.d x.2.2.2) (acc++[.tup [enc x.1,x.2.2.1,x.2.2.2]]) zm;rw[decide_eq_true c]at t;erw[aM,cj,e0,t,Bm,e1];rw[if_pos za,ih,xt (by simpa using c)];simp
   .rw[decide_eq_false c]at t;erw[aM,cj,e0,t,Bm];rw[(ay (ae<|.d<|enc x.1) (ae<|.d<|.str x.2.1) (ae<|.d x.2.2.1) (ae<|.d x.2.2.2) acc za),xr (by simpa using c)]
end bS
namespace aU
noncomputable def sm (f:Int->Int) (a:Int):Nat->Int
 |0=>0
 |n+1=>sm f a n+f (a+n)
theorem MQ (f:Int->Int) (a:Int) (m:Nat):∀ n,sm f a (m+n)=sm f a m+sm f (a+m) n
 |0=>by simp[sm]
 | n+1=>by
   change sm f a (m+n)+f (a+((m+n)))=sm f a m+(sm f _ n+f _);rw[MQ f a m n,show a+((m+n))=a+m+n by lia];lia
theorem A3 {f:Int->Int}{a c:Int}:∀ {n:Nat},(∀ h,a<=h->h<a+n->f h=c)->sm f a n=c*n:=by
 intro l_;induction l_ with
 |zero=>(intro _;simp[sm])
 |succ n ay=>
   intro h;change sm f a n+f _=_;rw[ay λx h1 h2=>h x h1 za,h _ za za,Int.natCast_succ,abq,Io]
noncomputable abbrev Sx:=Int×Option Int×Int
noncomputable def yF (f:Int->Int):List Int->List Sx
 |[]=>[]
 |[b]=>[(b,ag,f b)]
 |b::c::r=>(b,ae c,f b)::yF f (c::r)
noncomputable def KR (f:Int->Int):List Int->zw
 |[]=>True
 |[b]=>∀ h,b<=h->f h=f b
 |b::c::r=>b<c /\ (∀ h,b<=h->h<c->f h=f b) /\ KR f (c::r)
noncomputable def oE (h:Int):Option Int->Int
 |none=>h
 |some e=>min e h
def KS (h:Int):Int->List Sx->Int
 |r,[]=>r
 |r,q::t=>KS h (r+q.2.2*max 0 (oE h q.2.1-q.1)) t
theorem Dx {f:Int->Int}{h:Int}:∀ {r:List Int}{b x:Int},KR f (b::r)->KS h x (yF f (b::r))=x+sm f b (h-b).toNat
 | [],b,x,c=>by
   change x+f b*max 0 (h-b)=_;rw[A3 λy h1 _=>c y h1];congr 1;congr 1;lia
 | c::r,b,x,⟨l,k,t⟩=>by
   change KS h (x+f b*max 0 (min c h-b)) _=_;rw[Dx t];by_cases q:h<=c
   .rw[show (h-c).toNat=0 by lia,show min c h=h by lia,A3 λy h1 h2=>k y h1 za];change _+(0)=_;rw[show max 0 (h-b)=(((h-b).toNat)) by lia];lia
   .rw[show (h-b).toNat=(c-b).toNat+(h-c).toNat by lia,MQ,A3 λy h1 h2=>k y h1 za,show min c h=c by lia,show max 0 (c-b)=(((c-b).toNat)) by lia,show b+(((c-b).toNat))=c by lia];lia
open L2 L2.DL K2 aT bS
noncomputable def YY:Pg->List Int
 |.aY _ _ _ r _ _=>[r]
 |.to _ _ r=>[r]
 |.out ..=>[]
def KU (R:Al) (g:Pg):Al:=(YY g++(look R<|aA g).toList).map λr=>(bu g,r)
def ops (ps:Al):Al->Al->List Pg->Al
 |_,_,[]=>[]
 |K,R,g::gs=>if word ps K R g="takes" then KU R g++ops ps (stK K g) (rK R g) gs else ops ps K R gs
theorem A4 {ps:Al}{q:Int×Int}:∀ {gs:List Pg}{K R:Al},q∈ops ps K R gs->∃ g∈taken ps K R gs,bu g=q.1:=by
 intro l_;induction l_ with
 |nil=>(intro _ _ m;show nomatch m)
 |cons g gs ay=>
   intro K R m;unfold ops at m;unfold taken;split at m
   .ext c;rw[if_pos c];rcases dY.mp m with m|m
    .let#[r,_,rfl]:=aK.mp m;show#[g,bw ..,rfl]
    .let#[x,mx,e]:=ay m;show#[x,bG _ mx,e]
   .ext c;rw[if_neg c];show ay m
theorem UM {ps:Al}{b h:Int}(hb:b<=h):∀ {gs:List Pg}{K R:Al},ub gs->(∀ g∈taken ps K R gs,¬ (b<bu g /\ bu g<=h))->pre h ps K R gs=pre b ps K R gs:=by
 intro l_;induction l_ with
 |nil=>(intro _ _ _ _;show rfl)
 |cons g gs ay=>
   intro K R s t;have s2:=(nS.mp s).2;unfold pre;by_cases c:word ps K R g="takes"
   .unfold taken at t;rw[if_pos c]at t;have tg:=t g<|bw ..;rw[(lD c).1,(lD c).2];by_cases q:bu g<=b
    .rw[if_pos q,if_pos za,(ay s2 λx m=>t x<|bG _ m)]
    .rw[if_neg q,if_neg za]
   .unfold taken at t;rw[if_neg c]at t;have ih:=ay s2 t;rw[(Gw c).1,(Gw c).2];by_cases q:bu g<=b
    .rw[if_pos q,if_pos za,ih]
    .rw[if_neg q];by_cases q2:bu g<=h
     .rw[if_pos q2,ih];show A0 λx m=>by have:=(nS.mp s).1 x m;lia
     .rw[if_neg q2]
theorem PB {c b h:Int}(hc:c<=3) (hh:1<=hold) (hb:b<=h):∀ {ps:Al},(∀ p∈ps,∀ x∈[p.1,p.2,p.1+1*hold,p.1+2*hold,p.1+3*hold],¬ (b<x /\ x<=h))->kA c hold h ps=kA c hold b ps:=by
 intro l_;induction l_ with
 |nil=>show λ_=>rfl
 |cons p ps ay=>
   intro t;have tp:=t p<|bw ..;simp[aZ,forall_eq_or_imp]at tp;unfold kA;by_cases q:p.1<=b /\ b<p.2
   .rw[if_pos q,if_pos za];have eb:=abr (b-p.1) hold;have b1:=XI (b-p.1) (show 0<hold by lia);have eh:=abr (h-p.1) hold;have h0:=abn (h-p.1) (show hold≠0 by lia);have h1:=XI (h-p.1) (show 0<hold by lia);have le:(b-p.1) / hold<=(h-p.1) / hold:=Int.ediv_le_ediv za za;have nn:0<=(b-p.1) / hold:=abo za za;generalize (b-p.1) / hold=u at *;generalize (h-p.1) / hold=v at *;by_cases u3:3<=u
    .rw[show max 0 (c-v)=0 by lia,show max 0 (c-u)=0 by lia]
    .have:v=u:=by
      rcases Int.lt_or_le u v with lt|ge
      .have m1:hold*(u+1)<=hold*v:=Int.mul_le_mul_of_nonneg_left za za;rw[abq,Io]at m1;have:u=0 \/ u=1 \/ u=2:=by lia
       rcases this with rfl|rfl|rfl<;>lia
      .lia
     rw[this]
   .rw[if_neg q,if_neg za,(ay λx m=>t x<|bG _ m)]
def KW (rl:List Int) (hold:Int) (outs:Al) (rt:List Int) (D:Al) (h:Int):Option Int->Int
 |none=>0
 |some r=>rt.getD (max 0<|kA (rl.getD r.toNat 0) hold h outs-if (h,r)∈D then 1 else 0).toNat 0
abbrev vO (ps:Al) (qs:List Pg) (l h:Int):Option Int:=look (pre h ps [] [] qs).2 l
abbrev pb (rl:List Int) (hold:Int) (outs:Al) (rt:List Int) (ps:Al) (qs:List Pg) (l h:Int):Int:=KW rl hold outs rt (ops ps [] [] qs) h<|vO ps qs l h
abbrev chg (hold:Int) (outs:Al) (tk:List Pg):List Int:=(outs.map λp=>[p.1,p.2,p.1+1*hold,p.1+2*hold,p.1+3*hold]).flatten++(tk.map λg=>[bu g,bu g+1]).flatten
theorem PH {outs:Al}{rt:List Int}{ps:Al}{l:Int}(s:ub qs) (hr:∀ c∈rl,c<=3) (hh:1<=hold) {b h:Int}(hb:b<=h)
 (t:∀ x∈chg hold outs (taken ps [] [] qs),¬ (b<x /\ x<=h)) :
 pb rl hold outs rt ps qs l h=pb rl hold outs rt ps qs l b:=by
 have t2:∀ g∈taken ps [] [] qs,¬ (b<bu g /\ bu g<=h) /\ ¬ (b<bu g+1 /\ bu g+1<=h):=λg m=>
  #[t _<|nD _ (List.mem_flatten.mpr #[_,aK.mpr #[g,m,rfl],by simp]),t _<|nD _ (List.mem_flatten.mpr #[_,aK.mpr #[g,m,rfl],by simp])]
 rcases Int.lt_or_eq_of_le hb with lt|rfl
 .unfold pb vO;rw[UM hb s λg m=>(t2 g m).1];cases look (pre b ps [] [] qs).2 l with
  |none=>rfl
  |some r=>
    have c3:rl.getD r.toNat 0<=3:=by
     rw[HV];cases q:rl[r.toNat]? with
     |none=>simp
     |some v=>show hr v<|rS q
    erw[KW];rw[PB c3 hh hb λp m x mx=>t x<|qM _<|List.mem_flatten.mpr #[_,aK.mpr #[p,m,rfl],mx],if_neg λm=>?_,if_neg λm=>?_]
    .let#[g,mg,e]:=A4 m;have:=(t2 g mg).2;lia
    .let#[g,mg,e]:=A4 m;have:=(t2 g mg).1;lia
 .rfl
theorem MR {f:Int->Int}{C:List Int}(k:∀ b h,b<=h->(∀ x∈C,¬ (b<x /\ x<=h))->f h=f b):∀ {L:List Int},L.Pairwise (·<·)->(∀ x∈C,∀ b,L.head?=ae b->b<x->x∈L)->KR f L
 |[],_,_=>True.intro
 | [b],_,t=>λh hb=>k b h hb λx m q=>by
   have:=t x m b zk q.1;cases c8.mp this;lia
 | b::c::r,s,t=>by
   have s1:=nS.mp s;have lt:=s1.1 c<|bw ..;refine#[lt,λh h1 h2=>k b h h1 λx m q=>?_,MR k s1.2 λx m b' e q=>?_]
   .have:=t x m b zk q.1;rcases aZ.mp this with rfl|this
    .lia
    .rcases aZ.mp this with rfl|this
     .lia
     .have:=(nS.mp s1.2).1 x this;lia
   .cases e;have:=t x m b zk za;rcases aZ.mp this with rfl|this
    .lia
    .show this
open K1
abbrev Ho (R:Al) (g:Pg):D:=((look R<|aA g).map D.int).getD .aC
def qI (ps:Al):Al->Al->List Pg->List (Pg×Str×D×D)
 |_,_,[]=>[]
 |K,R,g::gs=>if word ps K R g="takes" then (g,word ps K R g,Ho R g,kB g)::qI ps (stK K g) (rK R g) gs else (g,word ps K R g,.aC,.aC)::qI ps K R gs
def sH (ps:Al):Al->Al->List Pg->List (Pg×D)
 |_,_,[]=>[]
 |K,R,g::gs=>if word ps K R g="takes" then (g,Ho R g)::sH ps (stK K g) (rK R g) gs else sH ps K R gs
theorem BO {ps:Al}:∀ {gs:List Pg}{K R:Al},(sH ps K R gs).map (·.1)=taken ps K R gs:=by
 intro l_;induction l_ with
 |nil=>(intro _ _;show rfl)
 |cons g gs ay=>
   intro K R;unfold sH taken;split
   .rw[aM,ay]
   .show ay
theorem PJ {ps:Al}:∀ {gs:List Pg}{K R:Al},(qI ps K R gs).length=gs.length:=by
 intro l_;induction l_ with
 |nil=>(intro _ _;show rfl)
 |cons g gs ay=>
   intro K R;unfold qI;split<;>rw[bN,ay,bN]
theorem PK {ps:Al}:∀ {gs:List Pg}{K R:Al},((qI ps K R gs).filter λx=>decide (x.2.1=("takes":Str))).map (λx=>D.tup [enc x.1,x.2.2.1,x.2.2.2])=(sH ps K R gs).map uc:=by
 intro l_;induction l_ with
 |nil=>(intro _ _;show rfl)
 |cons g gs ay=>
   intro K R;unfold qI sH;by_cases c:word ps K R g="takes"
   .rw[if_pos c,if_pos c,xt (by simpa using c),aM,aM,ay]
   .rw[if_neg c,if_neg c,xr (by simpa using c),ay]
section
variable {P:D} 
theorem JJ (h:Hs rs ks ps hd):∀ (gs:List Pg) (T:List<|Pg×Str×D×D) (K R:Al) (n:Nat) (x5 x6 x7:Option W),qc K R n->n+gs.length<=100->T.length+gs.length<=100 ->
 ∃ K' R' y5 y6 y7,bX (fg 5) rB ((gs.map enc).map W.d) (rE zc P bx.length x5 x6 x7) (Bk bx T K R)=.nx (rE zc P bx.length y5 y6 y7) (Bk bx (T++qI ps K R gs) K' R'):=by
 intro l_;induction l_ with
 |nil=>show λT K R n x5 x6 x7 _ _ _=>#[K,R,x5,x6,x7,by simp[bX,qI]]
 |cons g gs ay=>
   intro T K R n x5 x6 x7 J hn hT;rw[bN]at hn hT;have g1:fg 5 _ (rE _ P bx.length x5 x6 x7) _=ae (rE zc P bx.length (ae<|.d<|enc g) x6 x7,Bk bx T K R):=rfl;unfold qI;by_cases c:word ps K R g="takes"
   .let#[K',R',y5,y6,y7,e2]:=ay (T++[(g,word ps K R g,Ho R g,kB g)]) _ _ _ _ _ _ (J.step c) za zm;refine#[K',R',y5,y6,y7,?_];rw[if_pos c,aM,aM,gG g1<|UF (P:=P) (bx:=bx) (T:=T) h J za za g x6 x7 c,e2,eD];rfl
   .let#[K',R',y5,y6,y7,e2]:=ay (T++[(g,word ps K R g,.aC,.aC)]) K R n (ae<|.d<|enc g) (xN<|aA g) (ae<|.d<|.str<|word ps K R g) J za zm;refine#[K',R',y5,y6,y7,?_];rw[if_neg c,aM,aM,UD g1<|Wf (P:=P) (bx:=bx) h J za za (T:=T) g x6 x7 c,e2,eD];rfl
theorem UN (h:Hs rs ks ps hd) (hl:qs.length<=16) (so:dQ [.lst zz]=ae (.lst<|qs.map enc)) :
 aT.Cg [.d zc,.d zp] bx=.val (.d<|.lst<|(qI ps [] [] qs).map tq) bx:=by
 let#[K',R',y5,y6,y7,e]:=JJ h qs [] [] [] 0 ag ag ag adV za zm;have s2:fE (pI ah []) (fg 3) [ae<|.d zc,ae<|.d zp,xB bx.length,ag,ag,ag,ag,ag] (bx++[.lst []])=.nx [ae<|.d zc,ae<|.d zp,xB bx.length,xB<|bx.length+1,ag,ag,ag,ag] (bx++[.lst [],.aB []]):=by
  have:pI ah [] [ae<|.d zc,ae<|.d zp,xB bx.length,ag,ag,ag,ag,ag] (bx++[.lst []])=.val (.b<|bx.length+1) (bx++[.lst [],.aB []]):=by
   simp[pI,ck]
  show gQ this
 have s3:fE (pI ah []) (fg 4) [ae<|.d zc,ae<|.d zp,xB bx.length,xB<|bx.length+1,ag,ag,ag,ag] (bx++[.lst [],.aB []])=.nx (rE zc zp bx.length ag ag ag) (Bk bx [] [] []):=by
  have:pI ah [] [ae<|.d zc,ae<|.d zp,xB bx.length,xB<|bx.length+1,ag,ag,ag,ag] (bx++[.lst [],.aB []])=.val (.b<|bx.length+2) (Bk bx [] [] []):=by
   simp[pI,ck,Bk,cR]
  show gQ this
 have b:Mc [ae<|.d zc,ae<|.d zp,ag,ag,ag,ag,ag,ag] bx=.rt (.d<|.lst<|(qI ps [] [] qs).map tq) ((Bk bx (qI ps [] [] qs) K' R').set bx.length .dead):=by
  refine(fw<|gQ<|jX [] zk<|cJ _).trans ((fw s2).trans<|(fw s3).trans<|(fw<|(ir<|gp<|jh (r:=.lst<|qs.map enc) [.lst zz] (fk zk zk) so).trans e).trans ?_);rw[kH];show f9<|Mt zk Hj
 refine(jY (ws:=[.d zc,.d zp]) b).trans ?_;simp[Bk,Ee]
theorem PL (H:Hs rs ks ps hd) (hl:qs.length<=16) (so:dQ [.lst zz]=ae (.lst<|qs.map enc)) :
 bS.gk [.d zc,.d zp] bx=.val (.d<|.lst<|(sH ps [] [] qs).map uc) bx:=by
 have c:=aim (B:=bx) (qI ps [] [] qs) ag ag ag ag [] (by rw[PJ];simp;lia);rw[PK,kH]at c;show f7<|f9<|gK (gp<|fJ zk zk<|UN H hl so) zk c
end
section
variable {K R:List (Int × Int)} 
variable {go:Al} {av wd:List D}
end
abbrev pN (l:Int) (g:Pg):Bool:=isIn g&&decide (aA g=l)
section
variable {P:D} 
end
open dD bF
noncomputable abbrev oI:Option Int->D
 |none=>.aC
 |some r=>.int r
noncomputable def eU:Pg->Option Int
 |.aY _ _ _ r _ _=>ae r
 |.to _ _ r=>ae r
 |.out ..=>ag
theorem Wi (g:Pg):kB g=oI (eU g):=by cases g<;>rfl
theorem Wj (R:Al) (g:Pg):Ho R g=oI (look R<|aA g):=by unfold Ho;cases look R _<;>rfl
theorem Wk (a b:Int):Kz (.int a) (.int b)=decide (a=b):=by rw[nT];simp[Kz,wH,tK]
theorem Wl (b:Int):Kz .aC (.int b)=af:=rfl
theorem UO (r:Int) (a b:Option Int):inD af (.int r) (.tup [oI a,oI b])=ae (.old<|.bl<|decide (a=ae r \/ b=ae r)):=by
 cases a<;>cases b<;>simp[inD,nN,nO,Wk,Wl]
abbrev bU (q:Pg×Option Int):D:=.tup [enc q.1,oI q.2,oI<|eU q.1]
def cx (ps:Al):Al->Al->List Pg->List (Pg×Option Int)
 |_,_,[]=>[]
 |K,R,g::gs=>if word ps K R g="takes" then (g,look R<|aA g)::cx ps (stK K g) (rK R g) gs else cx ps K R gs
theorem MS {ps:Al}:∀ {gs:List Pg}{K R:Al},(sH ps K R gs).map uc=(cx ps K R gs).map bU:=by
 intro l_;induction l_ with
 |nil=>(intro _ _;show rfl)
 |cons g gs ay=>
   intro K R;unfold sH cx;split
   .rw[aM,aM,ay];change D.tup _::_=D.tup _::_;rw[Wj,Wi]
   .show ay
theorem lL {ps:Al}:∀ {gs:List Pg}{K R:Al},(cx ps K R gs).map (·.1)=taken ps K R gs:=by
 intro l_;induction l_ with
 |nil=>(intro _ _;show rfl)
 |cons g gs ay=>
   intro K R;unfold cx taken;split
   .rw[aM,ay]
   .show ay
theorem Ag {ps:Al}:∀ {gs:List Pg}{K R:Al},(cx ps K R gs).length<=gs.length:=by
 intro l_;induction l_ with
 |nil=>(intro _ _;show aI _)
 |cons g gs ay=>
   intro K R;unfold cx;split
   .show Nat.succ_le_succ ay
   .show aay ay
theorem PM {ps:Al}{h r:Int}:∀ {gs:List Pg}{K R:Al},((cx ps K R gs).any λq=>decide (bu q.1=h)&&decide (q.2=ae r \/ eU q.1=ae r))=decide ((h,r)∈ops ps K R gs):=by
 intro l_;induction l_ with
 |nil=>(intro _ _;show rfl)
 |cons g gs ay=>
   intro K R;unfold cx ops;split
   .rw[ve,ay,nT];simp[xD,aQ,decide_eq_true_eq,dY];refine or_congr ?_ Iff.rfl;unfold KU;rw[aK];constructor
    .rintro⟨rfl,e|e⟩
     .show#[r,by rw[e];simp,rfl]
     .show#[r,qM _ (by cases g<;>simp_all[eU,YY]),rfl]
    .rintro⟨x,m,e⟩;let#[rfl,rfl]:=Prod.mk.inj e;refine#[rfl,?_];rcases dY.mp m with m|m
     .show .inr (by cases g<;>simp_all[eU,YY])
     .show .inl (by simpa using m)
   .show ay
section
variable {S:List (Pg × Option Int)}
theorem wQ (g:Pg) {i:Nat}(h:env[i]?=ae (ae<|.d<|enc g)):d2 af ax (dV i) zi env B=.val (.d<|.int<|bu g) B:=
 fG (r:=.old _) (by rw[jD,h]) zk (by cases g<;>rfl)
theorem mU (g:Pg) {i:Nat}(h:env[i]?=ae (ae<|.d<|enc g)):d2 af ax (dV i) zq env B=.val (.d<|.int<|aA g) B:=
 fG (r:=.old _) (by rw[jD,h]) zk (by cases g<;>rfl)
theorem BP (g:Pg) {i:Nat}(h:env[i]?=ae (ae<|.d<|enc g)) (w:Str):dB (d2 af aX (d2 af ax (dV i) zb)<|dC<|.str w) env B=.val (decide (cw g=w)) B:=
 f8 (fG (fG (r:=.old _) (by rw[jD,h]) zk (by cases g<;>rfl)) zk<|eq_str _ _)
theorem MT (hl:S.length<=16) (r h:Int):iX [.d<|.lst<|S.map bU,.d<|.int r,.d<|.int h] bx=.val (.d<|.bl<|S.any λq=>decide (bu q.1=h)&&decide (q.2=ae r \/ eU q.1=ae r)) bx:=by
 have z:=bJ;refine f7<|f9<|jh (r:=.old<|.bl _) [.lst<|(S.filter λ_=>ah).map λq=>D.bl<|decide (bu q.1=h)&&decide (q.2=ae r \/ eU q.1=ae r)] (fk (gK (gp zk) zk ?_) zk) ?_
 .refine uT (J:=λenv=>∃ a b c,env=[a,b,c,xN r,xN h]) (λ_=>ah) (λq=>D.bl<|decide (bu q.1=h)&&decide (q.2=ae r \/ eU q.1=ae r)) (λq=>#[_,_,_,rfl]) S _ [] zm #[_,_,_,rfl] (λq _ env ⟨a,b,c,e⟩=>by subst e;rfl) λq _=>#[rfl,λ_=>?_];have t1:d2 af aX (d2 af ax (dV 0) zi) (dV 4) [ae<|.d<|enc q.1,ae<|.d<|oI q.2,ae<|.d<|oI<|eU q.1,xN r,xN h] bx=.val (.d<|.bl<|decide (bu q.1=h)) bx:=fG (r:=.old<|.bl<|decide (bu q.1=h)) (wQ q.1 zk) zk<|rfl;cases c:decide (bu q.1=h) with
  |false=>rw[c]at t1;show Uu t1
  |true=>
    rw[c]at t1;show gX t1<|fG zk (im [oI q.2,oI<|eU q.1] zk zm)<|UO _ _ _
 .simp[He,BM]
theorem MU (hl:S.length<=16) (l:Int):gu [.d<|.lst<|S.map bU,.d<|.int l] bx=.val (.d (match (S.map (·.1)).find? (pN l) with|some g=>enc g|none=>.aC)) bx:=by
 have go:∀ (T:List<|Pg×Option Int) (w2 w3 w4:Option W),(fv (λenv bx=>bX (fT 3<|fu (fg 2)<|fu (fg 3)<|fu (fg 4) fW) (aS (k9 (dB<|d2 af aX (d2 af ax (dV 2) zb)<|dC<|.str "in")<|dB<|d2 af aX (d2 af ax (dV 2) zq)<|dV 1) (fK<|dV 2) aW) ((T.map bU).map W.d) env bx)<|fK<|dC .aC) [ae<|.d<|.lst<|S.map bU,xN l,w2,w3,w4] bx=.rt (.d (match (T.map (·.1)).find? (pN l) with|some g=>enc g|none=>.aC)) bx:=by
  intro T;induction T with
  |nil=>intro w2 w3 w4;rfl
  |cons q T ih=>
    intro w2 w3 w4
    let E:bf:=[ae<|.d<|.lst<|S.map bU,xN l,ae<|.d<|enc q.1,ae<|.d<|oI q.2,ae<|.d<|oI<|eU q.1]
    have t:k9 (dB<|d2 af aX (d2 af ax (dV 2) zb)<|dC<|.str "in") (dB<|d2 af aX (d2 af ax (dV 2) zq)<|dV 1) E bx=.val (pN l q.1) bx:=by
     have a:=BP q.1 (env:=E) (B:=bx) (i:=2) zk "in";have w:decide (cw q.1="in")=isIn q.1:=by cases q.1<;>rfl
     rw[w]at a;unfold pN;cases c:isIn q.1 with
     |false=>rw[c]at a;show mC a
     |true=>rw[c]at a;show lC a<|f8<|fG (r:=.old<|.bl<|decide (aA q.1=l)) (mU q.1 zk) zk<|rfl
    rw[aM,aM,aM,vf];cases c:pN l q.1 with
    |true=>
      rw[c]at t;show jw<|Mm zk<|(iG t).trans zk
    |false=>
      rw[c]at t;have e:=ih (ae<|.d<|enc q.1) (ae<|.d<|oI q.2)<|ae<|.d<|oI<|eU q.1;have bd:aS (k9 (dB<|d2 af aX (d2 af ax (dV 2) zb)<|dC<|.str "in")<|dB<|d2 af aX (d2 af ax (dV 2) zq)<|dV 1) (fK<|dV 2) aW E bx=.nx E bx:=(gC t).trans zk;rw[lB]at e ⊢;rw[gG rfl bd];show e
 refine f7 ?_;have:=go S ag ag ag;rw[lB]at this;change fv (iQ (bM<|dV 0) _ _) _ _ _=_;rw[lB,ir<|gp rfl];show this
end
noncomputable abbrev uV (q:Int×List Int):D:=.tup [.int q.1,.tup<|q.2.map D.int]
structure Hk (rs ks:List D) (ps:Al) (hd:D) (rl:List Int) (hold:Int) (kl:List<|Int×List Int):zw where
 H:Hs rs ks ps hd
 er:rs=rl.map D.int
 eh:hd=.int hold
 ek:ks=kl.map uV
 r:∀ c∈rl,0<=c /\ c<=3
 h:1<=hold /\ hold<=9
 k:∀ q∈kl,1<=q.1 /\ q.1<=999 /\ q.2.length=4 /\ ∀ x∈q.2,0<=x /\ x<=9
theorem PN {d:D}(h:kind d=ah):∃ q:Int×List Int,d=uV q /\ 1<=q.1 /\ q.1<=999 /\ q.2.length=4 /\ ∀ x∈q.2,0<=x /\ x<=9:=by
 unfold kind at h;split at h
 .rw[aQ]at h;let#[_,h]:=h;split at h
  .rw[aQ]at h;let#[h1,h2]:=h;let#[i,rfl,i1,i2]:=mz h1;unfold yC at h2;split at h2
   .erw[aQ]at h2;let#[h3,h4,_]:=h2;let#[rt,rfl]:=Dk h4;have n:=ou h3;rw[aV]at n;refine#[(i,rt),rfl,i1,i2,by change rt.length=4;lia,λx m=>?_];have:=cU.mp h4 _<|rT m;simpa[wi] using this
   .cases h2
  .cases h
 .cases h
theorem MV:∀ {l:List D},l.all kind=ah->∃ kl:List (Int×List Int),l=kl.map uV /\ ∀ q∈kl,1<=q.1 /\ q.1<=999 /\ q.2.length=4 /\ ∀ x∈q.2,0<=x /\ x<=9:=by
 intro l_;induction l_ with
 |nil=>show λ_=>#[[],rfl,λ_ m=>nomatch m]
 |cons d l ay=>
   intro h;rw[uh,aQ]at h;let#[q,rfl,a]:=PN h.1;let#[kl,rfl,b]:=ay h.2;show#[q::kl,rfl,λx m=>(aZ.mp m).elim (λe=>e▸a)<|b x]
theorem Wm {ps:Al}(H:Hs rs ks ps hd):∃ rl hold kl,Hk rs ks ps hd rl hold kl:=by
 have h:=H.hh;simp[house,aQ]at h;let#[h1,h2,_,h4]:=h;erw[rooms,aQ]at h1;let#[rl,e1]:=Dk h1.2;let#[i,e2,i1,i2]:=mz h4;erw[kinds,aQ]at h2;let#[kl,e3,k3]:=MV h2.2;refine#[rl,i,kl,H,e1,e2,e3,λc m=>?_,#[i1,i2],k3];have:=cU.mp h1.2 _ (by rw[e1];show rT m);simpa[wi] using this
section
variable {ps:Al} 
theorem Hk.i (X:Hk rs ks ps hd rl hold kl):adO zc rl hold:=by
 have a:=X.H.r1;have b:=X.H.r5;rw[X.er,aV]at a b;show#[#[_,_,by rw[X.er,X.eh]],X.r,#[a,b],X.h]
theorem WZ {l:List Int}{i:Int}(h0:0<=i) (h1:i<l.length):ax (.tup<|l.map D.int) (.int i)=ae (.old<|.int<|l.getD i.toNat 0):=by
 have e:bO (l.map D.int) _=ae (.int<|l.getD i.toNat 0):=B5 (by rw[kQ,HV,dj za];rfl);rw[show ((i.toNat))=i by lia]at e;change (bO _ i).map Res.old=_;rw[e];rfl
theorem R9 (X:Hk rs ks ps hd rl hold kl) {k:Int}(h0:0<=k) (hq:kl[k.toNat]?=ae q):ax (.tup ks) (.int k)=ae (.old<|uV q):=by
 have e:bO ks _=ae _:=B5 (by rw[X.ek,kQ,hq];rfl);rw[show ((k.toNat))=k by lia]at e;change (bO ks k).map Res.old=_;rw[e];rfl
theorem Gb {e:α->D}{L:List (Int×α)}{k:DE W}{l:Int}(neg:Bool) (hk:k env bx=.val (.d<|.int l) bx) (hm:m env bx=.val (.d<|.aB<|cR e L) bx) :
 ni neg k m env bx=.val (.d (.bl (if neg then !((L.find? λq=>decide (q.1=l)).map (·.2)).isSome else ((L.find? λq=>decide (q.1=l)).map (·.2)).isSome))) bx:=by
 unfold ni;rw[hk,fR,hm,fR];change O.val _ bx=_;rw[j0,vg]
theorem AJ {e:α->D}{L:List (Int×α)}{k:DE W}{l:Int}{v:α}(hk:k env bx=.val (.d<|.int l) bx) (hm:m env bx=.val (.d<|.aB<|cR e L) bx) (hf:(L.find? λq=>decide (q.1=l)).map (·.2)=ae v):dA m k env bx=.val (.d<|e v) bx:=by
 unfold dA;rw[hm,fR,hk,fR];change (match kS _ _ with|some u=>O.val _ bx|none=>.bad)=_;rw[j0,hf];rfl
def Rk (n:Nat) (R:Al):zw:=∀ q∈R,0<=q.2 /\ q.2<(n:Int)
theorem Wn {nr nk:Nat}{ps K R:Al}{g:Pg}(ok:rG nr nk g) (h:Rk nr R):Rk nr (wO ps K R g):=by
 unfold wO;split
 .cases g with
  |aY h' l k r p w=>show λq m=>(Af m).elim (λz=>by rw[z.2];show ok.2.2.2.1)<|h q
  |to h' l r=>show λq m=>(Af m).elim (λz=>by rw[z.2];show ok.2.2)<|h q
  |out h' l=>show λq m=>h q (dq.mp m).1
 .show h
theorem UP {nr nk:Nat}{ps:Al}{h:Int}:∀ {gs:List Pg}{K R:Al},(∀ g∈gs,rG nr nk g)->Rk nr R->Rk nr (pre h ps K R gs).2:=by
 intro l_;induction l_ with
 |nil=>(intro _ _ _ r;show r)
 |cons g gs ay=>
   intro K R o r;unfold pre;split
   .show ay (λx m=>o x<|bG _ m)<|Wn (o g<|bw ..) r
   .show r
theorem PP {R:Al}(h:Rk n R) {l r:Int}(e:look R l=ae r):0<=r /\ r<(n:Int):=by
 let#[q,e1,rfl]:=Option.map_eq_some_iff.mp e;show h q<|xx e1
theorem MW (X:Hk rs ks ps hd rl hold kl) (s:ub qs) (ok:∀ g∈qs,rG rs.length ks.length g) (hl:qs.length<=16) {h0 l k r p w:Int}(k0:0<=k) (hq:kl[k.toNat]?=ae q) (h:Int) :
 iY [.d zc,.d zg,.d<|.lst<|(cx ps [] [] qs).map bU,.d<|enc<|.aY h0 l k r p w,.d<|.int h] bx=.val (.d<|.int<|pb rl hold op q.2 ps qs l h) bx:=by
 have z:sizeLine=16777216:=bJ;have sl:=Ag (ps:=ps) (gs:=qs) (K:=[]) (R:=[]);have rv:=bS.Gy (bx:=bx) (h:=h) (S:=sH ps [] [] qs) s hl BO;rw[MS]at rv;generalize hS:(cx ps [] [] qs)=S at rv sl;have c4:=(X.k q<|rS hq).2.2.1
 let E:=λx5 x6 x7=>([ae<|.d zc,ae<|.d zg,ae<|.d<|.lst<|S.map bU,ae<|.d<|enc<|.aY h0 l k r p w,xN h,x5,x6,x7]:bf)
 have t1:=Gb (bx:=bx) (k:=d2 af ax (dV 3) _) (m:=dV 5) (env:=(E (ae<|.d<|.aB<|aO (pre h ps [] [] qs).2) ag ag)) ah (mU _ zk) zk;have g1:=λv=>AJ (bx:=bx) (k:=d2 af ax (dV 3) _) (m:=dV 5) (env:=(E (ae<|.d<|.aB<|aO (pre h ps [] [] qs).2) ag ag)) (v:=v) (mU _ zk) zk;refine f7<|qS (cV rv) ?_;unfold pb vO
 change ni ah _ _ _ _=.val (.d<|.bl<|!(look (pre h ps [] [] qs).2 l).isSome) bx at t1
 change ∀ v,look (pre h ps [] [] qs).2 l=ae v->_ at g1
 cases c:look (pre h ps [] [] qs).2 l with
 |none=>
   rw[c]at t1;show qR (f8 t1) zk
 |some r'=>
   rw[c]at t1;let#[r0,r1]:=PP (UP (h:=h) (ps:=ps) ok (K:=[]) (R:=[]) λq m=>nomatch m) c;rw[X.er,aV]at r1;refine qF (f8 t1)<|qS (g1 r' c) ?_;have cd:=Ut (bx:=bx) (hour:=h) X.i r'.toNat za op;rw[show ((r'.toNat:Nat))=r' by lia]at cd;have eg:rl[r'.toNat]'(by lia)=rl.getD r'.toNat 0:=by rw[HV,dj za];rfl
   rw[eg]at cd;have rb:=X.r (rl.getD r'.toNat 0) (by rw[<-eg];show ph _);have lo:=Dl (hold:=hold) (hour:=h) rb.1 op;have hi:=Dm (hour:=h) rb.1 (show 0<hold by have:=X.h;lia) op;refine qS (cV cd) ?_;change fv _ _ (E (ae<|.d<|.aB<|aO (pre h ps [] [] qs).2) (xN r')<|xN<|kA (rl.getD r'.toNat 0) hold h op) bx=.rt (.d<|.int<|q.2.getD (max 0<|kA (rl.getD r'.toNat 0) hold h op-if (h,r')∈ops ps [] [] qs then 1 else 0).toNat 0) bx;generalize kA (rl.getD r'.toNat 0) hold h op=cc at *;have o:=MT (bx:=bx) (S:=S) za r' h;rw[<-hS,PM,hS]at o;have t2:dB (fm aU.iX 3<|ff (dV 2)<|ff (dV 6)<|ff (dV 4) fj) (E (ae<|.d<|.aB<|aO (pre h ps [] [] qs).2) (xN r')<|xN cc) bx=.val (decide ((h,r')∈ops ps [] [] qs)) bx:=f8<|cV o;have fin:∀ x:Int,0<=x->x<=3->fK (d2 af ax (d2 af ax (d2 af ax (d2 af ax (dV 0) zb)<|d2 af ax (dV 3) zA) zb)<|dV 7) (E (ae<|.d<|.aB<|aO (pre h ps [] [] qs).2) (xN r')<|xN x) bx=.rt (.d<|.int<|q.2.getD x.toNat 0) bx:=λx x0 x3=>
    f9 (fG (x:=.tup<|q.2.map D.int) (y:=.int x) (r:=.old _) (fG (x:=uV q) (y:=.int 1) (r:=.old<|.tup<|q.2.map D.int) (fG (x:=.tup ks) (y:=.int k) (r:=.old<|uV q) (fG (x:=hs rs ks ps hd) (y:=.int 1) (r:=.old<|.tup ks) zk zk zk) (fG (x:=enc<|.aY h0 l k r p w) (y:=.int 3) (r:=.old<|.int k) zk zk zk)<|R9 X k0 hq) zk zk) zk<|WZ x0 za)
   by_cases d:(h,r')∈ops ps [] [] qs
   .rw[decide_eq_true d]at t2;rw[if_pos d];show(fw<|(iG t2).trans<|gQ<|jh (r:=.old<|.int<|max 0<|cc-1) [.int 0,.int<|cc-1] (fk zk<|fk (fG (x:=.int cc) (y:=.int 1) (r:=.old<|.int<|cc-1) zk zk zk) zk)<|Mx _).trans (fin (max 0<|cc-1) za za)
   .rw[decide_eq_false d]at t2;rw[if_neg d];rw[Int.sub_zero,show max 0 cc=cc by lia];show qF t2<|fin cc lo za
end
end aU
namespace ud
open L2 L2.DL bF dD
noncomputable def dd (l:List Int):List Int:=l.foldl nU []
theorem MX (a:List Int) (i x:Int):x∈nU a i ↔ x∈a \/ x=i:=by
 unfold nU;split
 .ext h;let#[y,m,e]:=qi.mp h;have e':y=i:=by simpa using e
  subst e';show#[.inl,λz=>z.elim id λz=>z▸m]
 .simp
theorem Fv {a:List Int}(h:a.Nodup) (i:Int):(nU a i).Nodup:=by
 unfold nU;split
 .show h
 .ext q;rw[pw];refine#[h,by simp,λx hx y hy e=>q ?_];cases c8.mp hy;subst e;show qi.mpr #[x,hx,by simp]
theorem MY (a:List Int) (i:Int):(nU a i).length<=a.length+1:=by
 unfold nU;split<;>simp
theorem MZ (x:Int):∀ (l a:List Int),x∈l.foldl nU a ↔ x∈a \/ x∈l:=by
 intro l_;induction l_ with
 |nil=>(intro a;simp)
 |cons i l ay=>(intro a;rw[Xn,ay,MX,aZ];show or_assoc)
theorem A5:∀ (l:List Int) {a:List Int},a.Nodup->(l.foldl nU a).Nodup
 |[],_,h=>h
 |i::l,_,h=>A5 l<|Fv h i
theorem A6:∀ (l a:List Int),(l.foldl nU a).length<=a.length+l.length:=by
 intro l_;induction l_ with
 |nil=>(intro a;simp)
 |cons i l ay=>
   intro a;have h1:=ay<|nU a i;have h2:=MY a i;rw[Xn,bN];lia
theorem UQ {x:Int}{l:List Int}:x∈dd l ↔ x∈l:=by rw[dd,MZ];simp
theorem M0 (l:List Int):(dd l).Nodup:=A5 l List.nodup_nil
theorem UR (l:List Int):(dd l).length<=l.length:=by have:=A6 l [];rw[dd];simpa using this
theorem lM (l:List Int):HT.dist l=dd l:=by
 unfold HT.dist firstMet dd;congr 1;apply xp;intro j;by_cases h:j<l.length
 .simp[h]
 .simp[h]
theorem JK {x:Int}{l:List Int}:x∈sortI l ↔ x∈l:=(gx l).mem_iff
theorem Dy {l:List Int}(h:l.Nodup):(sortI l).Nodup:=(gx l).nodup_iff.mpr h
end ud
namespace aU
open L2 L2.DL K1 K2 dD bF aT bS
noncomputable abbrev wR (hold:Int) (p:Int×Int):List Int:=[p.1,p.2,p.1+1*hold,p.1+2*hold,p.1+3*hold]
section
variable {ps:Al} 
theorem M2 {k:DE W}{i:Nat}{l r:List D}(h1:m env B=.val (.b i) B) (hb:B[i]?=ae (.lst l)) (h2:k env B=.val (.d<|.lst r) B) (hl:l.length+r.length<=sizeLine):sF m k env B=.val (.d .aC) (B.set i<|.lst<|l++r):=by
 unfold sF;rw[h1,fR];erw[hb,h2,fR];show if_pos hl
theorem KY {x:Bx}:(bx++[x])[bx.length]?=ae x:=by simp
theorem YZ {x y:Bx}:(bx++[x]).set bx.length y=bx++[y]:=by simp
abbrev ain:aD:=(fv (fV<|sF (dV 2)<|gz af<|ff (dV 3)<|ff (dV 4) fj)<|fV<|sF (dV 2)<|fN af [ag,ae 0,ae 3] (tW<|ff zb<|ff (d2 af fO zA zb) fj) (fg 0) fU<|d2 af fO (dV 2)<|d2 af dI (dV 0)<|d2 af ax (dV 1) zA)
theorem PQ (X:Hk rs ks ps hd rl hold kl) {o w2:Option W}{b e:Int}:fN af [ag,ae 0,ae 3] (tW<|ff zb<|ff (d2 af fO zA zb) fj) (fg 0) fU (d2 af fO (dV 2)<|d2 af dI (dV 0)<|d2 af ax (dV 1) zA) [ae<|.d zc,o,w2,xN b,xN e] B=.val (.d<|.lst<|[b+1*hold,b+2*hold,b+3*hold].map D.int) B:=by
 have z:=bJ;have eh:=X.eh;subst eh;refine gK (Fo<|fk zk<|fk (fG (r:=.old _) zk zk zk) zk) zk ?_;refine(uT (J:=λenv=>∃ a,env=[a,ae _,ae _]) _ (λi:Int=>D.int<|b+i*hold) (λ_=>#[_,rfl]) [1,2,3] _ [] zm #[_,rfl] (λi _ env ⟨a,e⟩=>by subst e;rfl) λi m=>#[rfl,λ_=>?_]).trans ?_
 .refine fG (r:=.old _) zk (fG zk (fG zk zk zk)<|if_pos<|.inr ?_) zk;have:=X.h;lia
 .rfl
theorem PR (X:Hk rs ks ps hd rl hold kl) (o:Option W):∀ (l:Al) (acc:List Int) (w3 w4:Option W),acc.length+l.length*5<=1000->∃ y3 y4,
 bX (fT 2<|fu (fg 3)<|fu (fg 4) fW) ain ((l.map dP).map W.d) [ae<|.d zc,o,xB bx.length,w3,w4] (bx++[.lst<|acc.map D.int])=.nx [ae<|.d zc,o,xB bx.length,y3,y4] (bx++[.lst<|(acc++(l.map<|wR hold).flatten).map D.int]):=by
 intro l_;induction l_ with
 |nil=>show λacc w3 w4 _=>#[w3,w4,by simp[bX]]
 |cons p l ay=>
   intro acc w3 w4 n;have z:sizeLine=16777216:=bJ;rw[bN]at n;let#[y3,y4,e]:=ay (acc++wR hold p) _ _ zm;refine#[y3,y4,?_];have e1:=M2 (m:=dV 2) (k:=gz af<|ff (dV 3)<|ff (dV 4) fj) (env:=[ae<|.d zc,o,xB bx.length,xN p.1,xN p.2]) (B:=bx++[.lst<|acc.map D.int]) zk KY (iT [.int p.1,.int p.2] zk zm) zm;rw[YZ]at e1;have e2:=M2 (m:=dV 2) (env:=[ae<|.d zc,o,xB bx.length,xN p.1,xN p.2]) (B:=bx++[.lst<|acc.map D.int++[.int p.1,.int p.2]]) zk KY (PQ X) zm;rw[YZ]at e2;rw[aM,aM,gG rfl<|(fw<|ip e1).trans<|ip e2];have:acc.map D.int++[.int p.1,.int p.2]++[p.1+1*hold,p.1+2*hold,p.1+3*hold].map D.int=(acc++wR hold p).map D.int:=by simp
   rw[this,e];simp
theorem PU (X:Hk rs ks ps hd rl hold kl) (ho:op.length<=4):gW [.d zc,.d zg] bx=.val (.b bx.length) (bx++[.lst<|((op.map<|wR hold).flatten).map D.int]):=by
 let#[y3,y4,e]:=PR X _ op [] ag ag zm;have s1:fE (gz ah fj) (fg 2) [ae _,ae _,ag,ag,ag] bx=.nx [ae<|.d zc,ae<|.d zg,ae _,ag,ag] _:=gQ<|jX [] zk<|cJ _;have b:ij _ bx=.rt (.b bx.length) (bx++[.lst<|((op.map<|wR hold).flatten).map D.int]):=
  (fw s1).trans ((fw<|(ir<|iZ zk).trans e))
 change qv bx.length (qu<|ba ij [ae<|.d zc,ae<|.d zg,ag,ag,ag] bx)=_;unfold ba;rw[b];rfl
end
abbrev Y0 (q:Sx):D:=.tup [.int q.1,oI q.2.1,.int q.2.2]
noncomputable abbrev ends (bs:List Int):List (Option Int):=bs.tail.map ae++[ag]
theorem Gz (f:Int->Int):∀ bs:List Int,yF f bs=(bs.zip<|ends bs).map λq=>(q.1,q.2,f q.1)
 |[]=>rfl
 |[b]=>rfl
 | b::c::r=>by
   change (b,ae c,f b)::yF f _=_;rw[Gz f _];rfl
theorem Sa:∀ (l:List Int) (r:List<|Option Int),nh (l.map D.int) (r.map oI)=((l.zip r).map λq=>D.tup [.int q.1,oI q.2]).map W.d
 |[],_=>rfl
 |_::_,[]=>rfl
 | x::l,y::r=>by
   change W.d _::nh _ _=_;rw[Sa l r];rfl
def ue (C:List Int) (h0:Int):List Int:=(sortI<|HT.dist C).filter λh=>decide (h0<=h)
theorem Dz (C:List Int) (h0:Int):(ue C h0).Pairwise (·<·):=by
 show List.Pairwise.filter _ ((List.pairwise_and_iff.mpr #[iU _,(ud.Dy (by rw[ud.lM];show ud.M0 C))]).imp λ{a b} h=>by lia)
theorem Cs {C:List Int}{h0 x:Int}:x∈ue C h0 ↔ x∈C /\ h0<=x:=by
 unfold ue;rw[dq,ud.JK,ud.lM,ud.UQ,decide_eq_true_eq]
theorem M3 {C:List Int}{h0:Int}(m:h0∈C):∃ r,ue C h0=h0::r:=by
 have r:=Dz C h0;have mh:=Cs.mpr #[m,uq _];cases e:ue C h0 with
 |nil=>rw[e]at mh;cases mh
 |cons b l=>
   rw[e]at r mh;have hb:=(Cs.mp (by rw[e];show bw ..)).2;rcases aZ.mp mh with rfl|mh
   .show#[l,rfl]
   .have:=(nS.mp r).1 h0 mh;lia
section
variable {ps:Al} 
abbrev aio:aD:=(fV<|sF (dV 4)<|gz af<|ff (d2 af ax (dV 5) zi)<|ff (d2 af fO (d2 af ax (dV 5) zi) zb) fj)
theorem PV (x0 x1 x2 x3 x8 x9:Option W):∀ (S:List<|Pg×Option Int) (acc:List Int) (w5 w6 w7:Option W),acc.length+S.length*2<=1000->∃ y5 y6 y7,
 bX (fT 3<|fu (fg 5)<|fu (fg 6)<|fu (fg 7) fW) aio ((S.map bU).map W.d) [x0,x1,x2,x3,xB bx.length,w5,w6,w7,x8,x9] (bx++[.lst<|acc.map D.int])=.nx [x0,x1,x2,x3,xB bx.length,y5,y6,y7,x8,x9] (bx++[.lst ((acc++((S.map (·.1)).map λg=>[bu g,bu g+1]).flatten).map D.int)]):=by
 intro l_;induction l_ with
 |nil=>show λacc w5 w6 w7 _=>#[w5,w6,w7,by simp[bX]]
 |cons q S ay=>
   intro acc w5 w6 w7 n;have z:=bJ;rw[bN]at n;let#[y5,y6,y7,e]:=ay (acc++[bu q.1,bu q.1+1]) _ _ _ zm;refine#[y5,y6,y7,?_];have e1:=M2 (m:=dV 4) (k:=gz af<|ff (d2 af ax (dV 5) zi)<|ff (d2 af fO (d2 af ax (dV 5) zi) zb) fj) (env:=[x0,x1,x2,x3,xB bx.length,ae<|.d<|enc q.1,ae<|.d<|oI q.2,ae<|.d<|oI<|eU q.1,x8,x9]) (B:=bx++[.lst<|acc.map D.int]) zk KY (iT [.int<|bu q.1,.int<|bu q.1+1] (fk (wQ q.1 zk)<|fk (fG (r:=.old<|.int<|bu q.1+1) (wQ q.1 zk) zk zk) zk) zm) zm;rw[YZ]at e1;rw[aM,aM,gG rfl<|ip e1];have:acc.map D.int++[.int<|bu q.1,.int<|bu q.1+1]=(acc++[bu q.1,bu q.1+1]).map D.int:=by simp
   rw[this,e];simp
theorem PY {tk:List Pg}(h1:op.length<=4) (h2:tk.length<=16):(chg hold op tk).length<64:=by
 rw[cB,aaT,aaT,bH,bH];have a:((op.map<|List.length∘λp=>[p.1,p.2,p.1+1*hold,p.1+2*hold,p.1+3*hold])).sum=op.length*5:=by
  clear h1;induction op with
  |nil=>rfl
  |cons p l ih=>rw[aM,aaU,ih,bN];change 5+_=_;lia
 have b:((tk.map<|List.length∘λg=>[bu g,bu g+1])).sum=tk.length*2:=by
  clear h2;induction tk with
  |nil=>rfl
  |cons p l ih=>rw[aM,aaU,ih,bN];change 2+_=_;lia
 lia
theorem DA (X:Hk rs ks ps hd rl hold kl) (ho:op.length<=4) (s:ub qs) (ok:∀ g∈qs,rG rs.length ks.length g) (hl:qs.length<=16) {h0 l k r p w:Int}(k0:0<=k) (hq:kl[k.toNat]?=ae q) :
 jV [.d zc,.d zg,.d<|.lst<|(cx ps [] [] qs).map bU,.d<|enc<|.aY h0 l k r p w] bx=.val (.d<|.lst<|(yF (pb rl hold op q.2 ps qs l)<|ue (chg hold op<|taken ps [] [] qs) h0).map Y0) bx:=by
 have z:sizeLine=16777216:=bJ;have sl:=Ag (ps:=ps) (gs:=qs) (K:=[]) (R:=[]);have st:=lL (ps:=ps) (gs:=qs) (K:=[]) (R:=[]);have pv:=λB h=>MW (bx:=B) (op:=op) X s ok hl (h0:=h0) (l:=l) (r:=r) (p:=p) (w:=w) k0 hq h;generalize (cx ps [] [] qs)=S at sl st pv ⊢;have tl:(taken ps [] [] qs).length<=16:=by rw[<-st,aV];lia
 have cl:=PY (hold:=hold) ho tl;let#[y5,y6,y7,lp]:=PV (ae<|.d zc) (ae<|.d zg) (ae<|.d<|.lst<|S.map bU) (ae<|.d<|enc<|.aY h0 l k r p w) ag ag S ((op.map<|wR hold).flatten) ag ag ag (by
  rw[show chg hold op _=(op.map<|wR hold).flatten++((taken ps [] [] qs).map λg=>[bu g,bu g+1]).flatten from rfl,cB]at cl;lia)
 rw[st]at lp
 change _=OS.nx _ (bx++[.lst<|(chg hold op<|taken ps [] [] qs).map D.int]) at lp
 generalize chg hold op (taken ps [] [] qs)=C at *;have dl:=ud.UR C;have so:∀ {e:bf},e[4]?=ae (xB bx.length)->dN af wJ (ff (dV 4) fj) e (bx++[.lst<|C.map D.int])=.val (.d<|.lst<|(sortI<|HT.dist C).map D.int) (bx++[.lst<|C.map D.int]):=λh=>by
  rw[Mf,fk (by rw[jD,h]) rfl,fR,show k7 (bx++[.lst<|C.map D.int]) [.b bx.length]=ae [.lst<|C.map D.int] by simp[k7,bR,KY,bV,sU]];have:wJ [.lst<|C.map D.int]=ae (.lst<|(sortI<|HT.dist C).map D.int):=by
   change ((intsOf<|C.map D.int).bind λns=>if ns.length<4000 /\ (HT.dist ns).length<64 then ae (Res.lst<|(sortI<|HT.dist ns).map D.int) else ag)=_;rw[K1.mP];show if_pos #[by lia,by rw[ud.lM];lia]
  rw[bV,this];rfl
 have sz:(sortI<|HT.dist C).length<64:=by rw[(gx _).length_eq,ud.lM];lia
 have bl:(ue C h0).length<64:=HN (ui ..) sz;have b1:=uT (g:=fg 0) (tf:=dB<|d2 af ng (dV 0)<|d2 af ax (dV 1) zi) (te:=dV 0) (B:=bx++[.lst<|C.map D.int]) (e:=D.int) (E:=λi:Int=>[xN i,ae<|.d<|enc<|.aY h0 l k r p w]) (J:=λenv=>∃ a,env=[a,ae<|.d<|enc<|.aY h0 l k r p w]) (λh=>decide (h0<=h)) (λi:Int=>D.int i) (λ_=>#[_,rfl]) (sortI<|HT.dist C) _ [] zm #[ag,rfl] (λi _ env ⟨a,e⟩=>by subst e;rfl) λi m=>#[f8<|fG (x:=.int i) (y:=.int h0) (r:=.old<|.bl<|decide (h0<=i)) zk (wQ (.aY h0 l k r p w) zk)<|rfl,λ_=>rfl]
 change _=O.val ((ue C h0).map D.int) _ at b1
 generalize ue C h0=bs at *;have aip:DL.cutD (bs.map D.int) (ae 1) ag=bs.tail.map D.int:=by
  cases bs with
  |nil=>rfl
  |cons b t=>simp[DL.cutD,HT.br];show HU zf
 have e2:bs.tail.map D.int++[.aC]=(ends bs).map oI:=by
  unfold ends;rw[dJ,bH];rfl
 refine(jY (ws:=[.d zc,.d zg,.d<|.lst<|S.map bU,.d<|enc<|.aY h0 l k r p w]) (bx':=bx++[.lst<|C.map D.int]) (qS (cV<|PU X ho) ((fw<|(ir<|gp zk).trans lp).trans (qS (gK (gp<|so zk) zk b1) (qS (fG (x:=.lst<|bs.tail.map D.int) (y:=.lst [.aC]) (r:=.lst<|(ends bs).map oI) (Gm (x:=.lst<|bs.map D.int) (i:=ae 1) (j:=ag) (r:=.lst<|bs.tail.map D.int) zk zk zk (by rw[<-aip];rfl)) (iT [.aC] zk zm) (by rw[<-e2];show if_pos zm)) (f9 (gK (bx1:=bx++[.lst<|C.map D.int]) (congrArg (O.val · _)<|Sa bs<|ends bs) zk<|uT (g:=fT 2<|fu (fg 0)<|fu (fg 1) fW) (tf:=fU) (te:=gn<|ff (dV 0)<|ff (dV 1)<|ff (fm aU.iY 5<|ff (dV 2)<|ff (dV 3)<|ff (dV 4)<|ff (dV 5)<|ff (dV 0) fj) fj) (B:=bx++[.lst<|C.map D.int]) (e:=λa:Int×Option Int=>D.tup [.int a.1,oI a.2]) (E:=λa:Int×Option Int=>[xN a.1,ae<|.d<|oI a.2,ae<|.d zc,ae<|.d zg,ae<|.d<|.lst<|S.map bU,ae<|.d<|enc<|.aY h0 l k r p w]) (J:=λenv=>∃ a b,env=[a,b,ae<|.d zc,ae<|.d zg,ae<|.d<|.lst<|S.map bU,ae<|.d<|enc<|.aY h0 l k r p w]) (λ_=>ah) (λa=>Y0 (a.1,a.2,pb rl hold op q.2 ps qs l a.1)) (λ_=>#[_,_,rfl]) (bs.zip<|ends bs) [ag,ag,ae<|.d zc,ae<|.d zg,ae<|.d<|.lst<|S.map bU,ae<|.d<|enc<|.aY h0 l k r p w] [] (by rw[aaR];simp;lia) #[_,_,rfl] (λi _ env ⟨a,b,e⟩=>by subst e;rfl) λa m=>#[rfl,λ_=>im [.int a.1,oI a.2,.int<|pb rl hold op q.2 ps qs l a.1] (fk zk<|fk zk<|fk (cV<|pv _ a.1) zk) zm]))))))).trans ?_;rw[List.filter_eq_self.mpr λ_ _=>rfl,Gz,bH,kH];simp[Ee,afR]
end
theorem Sb (i j:Int):minD [.int i,.int j]=ae (.old<|.int<|min i j):=by
 change ae _=_;congr 3;split<;>lia
section
variable {ps:Al} 
abbrev adX:aD:=(fv (fE (pY (dB<|nj af<|dV 7) (dV 4)<|dN af minD<|ff (dV 7)<|ff (dV 4) fj)<|fg 9)<|yB af 5<|d2 af dI (dV 8)<|dN af maxD<|ff zi<|ff (d2 af kg (dV 9)<|dV 6) fj)
theorem GA (x0 x1 x2 x3:Option W) (h:Int):∀ (T:List Sx) (x:Int) (w6 w7 w8 w9:Option W),(∀ q∈T,0<=q.2.2 /\ q.2.2<=9)->∃ y6 y7 y8 y9,
 bX (fT 3<|fu (fg 6)<|fu (fg 7)<|fu (fg 8) fW) adX ((T.map Y0).map W.d) [x0,x1,x2,x3,xN h,xN x,w6,w7,w8,w9] bx=.nx [x0,x1,x2,x3,xN h,xN<|KS h x T,y6,y7,y8,y9] bx
 |[],x,w6,w7,w8,w9,_=>#[w6,w7,w8,w9,rfl]
 | (a,o,g)::T,x,w6,w7,w8,w9,b=>by
   have bg:0<=g /\ g<=9:=b _<|bw ..;let#[y6,y7,y8,y9,e]:=GA x0 x1 x2 x3 h T _ _ _ _ _ λy m=>b y<|bG _ m;refine#[y6,y7,y8,y9,?_]
   let E:=λx w9=>([x0,x1,x2,x3,xN h,xN x,xN a,ae<|.d<|oI o,xN g,w9])
   have u:pY (dB<|nj af<|dV 7) (dV 4) (dN af minD<|ff (dV 7)<|ff (dV 4) fj) (E x w9) bx=.val (.d<|.int<|oE h o) bx:=by
    cases o with
    |none=>show V7 zk zk
    |some v=>show V8 zk<|jh _ zk<|Sb v h
   have bd:adX _ bx=.nx (E _<|xN<|oE h o) bx:=qS u (by
    change bW (d2 af dI (dV 8) (dN af maxD<|ff zi<|ff (d2 af kg (dV 9)<|dV 6) fj) (E x<|xN<|oE h o) bx) _=_;rw[fG rfl (jh [.int 0,.int<|oE h o-a] (fk rfl<|fk (fG (r:=.old<|.int<|oE h o-a) rfl rfl rfl) rfl)<|Mx _)<|if_pos<|.inl za,jW];rfl)
   rw[aM,aM,gG rfl bd,e];rfl
theorem US (X:Hk rs ks ps hd rl hold kl) (hq:q∈kl) (qs:List Pg) (l h:Int):0<=pb rl hold op q.2 ps qs l h /\ pb rl hold op q.2 ps qs l h<=9:=by
 unfold pb KW;split
 .lia
 .rename_i r _;rw[HV];cases c:q.2[(max 0<|kA _ hold h op-if (h,r)∈ops ps [] [] qs then 1 else 0).toNat]? with
  |none=>simp
  |some v=>show(X.k q hq).2.2.2 v (rS c)
theorem Sd {f:Int->Int}(p:∀ h,0<=f h /\ f h<=9):∀ {bs:List Int},∀ q∈yF f bs,0<=q.2.2 /\ q.2.2<=9
 |[],_,m=>nomatch m
 |[b],q,m=>by cases c8.mp m;show p b
 | b::c::r,q,m=>by
   rcases aZ.mp m with rfl|m
   .show p b
   .show Sd p q m
structure Cm (rs ks:List D) (ps:Al) (qs:List Pg) (kl:List<|Int×List Int) (h0 l k r p w:Int) (q:Int×List Int):zw where
 m:Pg.aY h0 l k r p w∈taken ps [] [] qs
 k0:0<=k
 hq:kl[k.toNat]?=ae q
theorem Wo (X:Hk rs ks ps hd rl hold kl) (s:ub qs) {h0 l k r p w:Int}(Y:Cm rs ks ps qs kl h0 l k r p w q):∃ t,ue (chg hold op<|taken ps [] [] qs) h0=h0::t /\ KR (pb rl hold op q.2 ps qs l) (h0::t):=by
 have m0:h0∈chg hold op _:=nD _<|List.mem_flatten.mpr #[_,aK.mpr #[_,Y.m,rfl],bw ..];let#[t,e]:=M3 m0;refine#[t,e,?_];rw[<-e];refine MR (λb h hb tt=>PH s (λc m=>(X.r c m).2) X.h.1 hb tt) (Dz _ _) λx m b eb hb=>Cs.mpr #[m,?_];rw[e]at eb;cases eb;lia
theorem M4 (X:Hk rs ks ps hd rl hold kl) (ho:op.length<=4) (s:ub qs) (ok:∀ g∈qs,rG rs.length ks.length g) (hl:qs.length<=16) {h0 l k r p w:Int}(Y:Cm rs ks ps qs kl h0 l k r p w q) (h:Int) :
 gq [.d zc,.d zg,.d<|.lst<|(cx ps [] [] qs).map bU,.d<|enc<|.aY h0 l k r p w,.d<|.int h] bx=.val (.d<|.int<|p+sm (pb rl hold op q.2 ps qs l) h0 (h-h0).toNat) bx:=by
 let#[t,e,c]:=Wo X s Y;have sv:=DA (bx:=bx) X ho s ok hl (h0:=h0) (l:=l) (r:=r) (p:=p) (w:=w) Y.k0 Y.hq;rw[e]at sv;let#[y6,y7,y8,y9,lp]:=GA _ _ _ _ h _ p ag ag ag ag<|Sd λx=>US X (rS Y.hq) qs l x;rw[Dx c]at lp;show f7<|(fw<|gQ<|fG (r:=.old<|.int p) zk zk zk).trans<|(fw<|(ir<|gp<|fJ zk zk sv).trans lp)
end
structure Sc (rs ks:List D) (ps:Al) (hd:D) (rl:List Int) (hold:Int) (kl:List<|Int×List Int) (op:Al) (gs qs:List Pg):zw where
 X:Hk rs ks ps hd rl hold kl
 G:Gs rs.length ks.length gs
 so:dQ [.lst zz]=ae (.lst<|qs.map enc)
 pm:qs.Perm gs
 ri:uU qs
 ol:op.length<=4
 ob:∀ p∈op,0<=p.1 /\ p.1<p.2
 oa:nP op=ah
section
variable {ps:Al} 
theorem Sc.s (Z:Sc rs ks ps hd rl hold kl op gs qs):ub qs:=UI Z.ri
theorem Sc.l (Z:Sc rs ks ps hd rl hold kl op gs qs):qs.length<=16:=by rw[Z.pm.length_eq];show Z.G.l
theorem Sc.ok (Z:Sc rs ks ps hd rl hold kl op gs qs):∀ g∈qs,rG rs.length ks.length g:=(Z.G.perm Z.pm).ok
theorem UT {m:aD}{ws:List W}{e:bf}(h:m (ws.map ae++List.replicate (n-ws.length) ag) bx=.nx e bx):bq n (ba m) ws bx=.val (.d .aC) bx:=by
 change qv bx.length (qu<|ba m (ws.map ae++List.replicate _ ag) bx)=_;unfold ba;rw[h];simp[qu,qv]
theorem Fw (Z:Sc rs ks ps hd rl hold kl op gs qs):ic [.d zc,.d zg] bx=.val (.d .aC) bx:=by
 have sz:=bJ;have ol:=Z.ol;have lv:=Ur op za bx;rw[Z.oa]at lv;have o:∀ x∈op.map dP,K2.oj [.d x] bx=.val (.d _) bx:=λx m=>by
  let#[p,mp,rfl]:=aK.mp m;have:=Z.ob p mp;show f7<|f9<|gX (cV<|oW zk)<|gX (cV<|aT.oC (i:=p.1) za)<|gX (cV<|aT.oC (i:=p.2) za)<|fG (y:=.int p.2) (r:=.old<|.bl ah) zk zk (by simp[eN];lia)
 have m:AR [ae _,ae _] bx=.rt _ bx:=qE (cV<|aT.mQ Z.X.H)<|f9<|gX (cV<|oW (l:=op.map dP) (lo:=0) (hi:=4) (by simp[tl];lia))<|gX (BN (iZ zk) zk (by rw[aV];lia) λx m=>cV<|o x m)<|cV lv;show UT (m:=oT)<|(gC<|io<|f8<|cV (fn:=lA) (l:=[.d zc,.d zg])<|f7 m).trans zk
theorem MJ (Z:Sc rs ks ps hd rl hold kl op gs qs) {l:Int}(l0:0<=l) (l9:l<=9):ie [.d zc,.d zg,.d zp,.d<|.int l] bx=.val (.d .aC) bx:=by
 have w:=om (.int l) 0 9 bx;rw[show wi _ 0 9=ah by simp[wi];lia]at w;show UT<|(fw<|ip<|fJ zk zk<|Fw Z).trans<|(fw<|ip<|fJ zk zk<|aT.ja Z.X.H Z.G).trans<|(gC<|io<|f8<|fJ zk zk w)
theorem GB {h:Int}(h0:0<=h):aU.ig [.d<|.int h] bx=.val (.d .aC) bx:=
 UT ((gC<|io<|f8<|fJ zk zk<|aT.oC h0))
theorem adY {ps:Al}{g:Pg}:∀ {gs:List Pg}{K R:Al},g∈taken ps K R gs->g∈gs:=by
 intro l_;induction l_ with
 |nil=>(intro _ _ m;show nomatch m)
 |cons x gs ay=>
   intro K R m;unfold taken at m;split at m
   .rcases aZ.mp m with rfl|m
    .show bw ..
    .show bG _<|ay m
   .show bG _<|ay m
abbrev uW (ps:Al) (qs:List Pg) (l:Int):Option Pg:=(taken ps [] [] qs).find?<|pN l
theorem Wp (Z:Sc rs ks ps hd rl hold kl op gs qs) {l:Int}{g:Pg}(h:uW ps qs l=ae g):∃ h0 k r p w q,g=.aY h0 l k r p w /\ Cm rs ks ps qs kl h0 l k r p w q /\ 0<=h0 /\ (0<=p /\ p<=999) /\ (1<=q.1 /\ q.1<=999) /\ g∈qs:=by
 have m:=xx h;have c:=Ec h;have mm:=adY m;have o:=Z.ok g mm;cases g with
 |aY h0 l' k r p w=>
   have el:l'=l:=of_decide_eq_true c;subst el;let#[o1,o2,#[k0,k1],o4,o5,o6]:=o;have Y1:k.toNat<kl.length:=by rw[Z.X.ek,aV]at k1;lia
   show#[h0,k,r,p,w,kl[k.toNat],rfl,#[m,k0,dj Y1],o1,o5,#[(Z.X.k _<|ph Y1).1,(Z.X.k _<|ph Y1).2.1],mm]
 |to h' l' r=>simp[isIn]at c
 |out h' l'=>simp[isIn]at c
theorem Ct (Z:Sc rs ks ps hd rl hold kl op gs qs) (l:Int):gu [.d<|.lst<|(cx ps [] [] qs).map bU,.d<|.int l] bx=.val (.d (match uW ps qs l with|some g=>enc g|none=>.aC)) bx:=by
 have sl:=Ag (ps:=ps) (gs:=qs) (K:=[]) (R:=[]);have:=MU (bx:=bx) (S:=cx ps [] [] qs) (by have:=Z.l;lia) l;rw[lL]at this;show this
theorem Ah (Z:Sc rs ks ps hd rl hold kl op gs qs):bS.gk [.d zc,.d zp] bx=.val (.d<|.lst<|(cx ps [] [] qs).map bU) bx:=by
 rw[<-MS];show aU.PL Z.X.H Z.l Z.so
end
section
variable {ps:Al} 
end
end aU
namespace bS
open L2 L2.DL K1 dD bF aT
section
variable {K':Al}
end
end bS
namespace aU
open L2 L2.DL K1 K2 dD bF aT bS
section
variable {ps:Al} {N:Nat} 
variable {h0 l k r p w last:Int} 
end
end aU
namespace aT
open L2 L2.DL K1 dD bF
end aT
namespace bS
open L2 L2.DL K1 dD bF aT
theorem BQ {i:Nat}{m:DE (List W)}{B1:List Bx}{x y:W}(h:m env B=.val [x,y] B1):kK i j m env B=.nx ((env.set i<|ae x).set j<|ae y) B1:=by
 unfold kK;rw[h,jW]
section
variable {N:Nat}
end
end bS
namespace aU
open L2 L2.DL K1 K2 dD bF aT bS
section
variable {ps:Al} {N:Nat} {l last:Int}
end
theorem BR {b e:Int}:∀ {ps:Al},nP ps=ah->(∀ x∈ps,x.2<b)->nP (ps++[(b,e)])=ah
 |[],_,_=>rfl
 | [p],_,h=>by
   simp[nP,h p _]
 | p::q::r,a,h=>by
   simp[nP,aQ]at a;change nP _=ah;have:=BR (e:=e) a.2 λx m=>h x<|bG _ m;simp[nP,aQ];show#[a.1,this]
theorem PZ {nr:Int}(n0:0<nr) (n1:nr<=30) (h:n<bx.length) (p b:Int) (ps:Al) (hl:ps.length<=1000) (w:Option W) :
 ∃ e b' q,aif [xB n,xN nr,xB bx.length,xN b,w] (pt (bx++[.lst<|ps.map dP]) n p)=.nx [xB n,xN nr,xB bx.length,xN b',w] (pt (bx++[.lst<|(ps++[(b,e)]).map dP]) n q) /\ b<e /\ e<=b+nr /\ e<b' /\ b'<=e+nr:=by
 have sz:=bJ;let#[r1,p1,t1,m0,m1]:=n9 (bx:=bx++[Bx.lst<|ps.map dP]) (n:=n) zm p nr n0 za;have ap:=AX (m:=dV 2) (k:=gn<|ff (dV 3)<|ff (d2 af fO (d2 af fO (dV 3) zb)<|fm K1.fq 2<|ff (dV 0)<|ff (dV 1) fj) fj) (env:=[xB n,xN nr,xB bx.length,xN b,w]) zk (jZ h) (im [.int b,.int<|b+1+r1] (fk zk<|fk (fG (r:=.old<|.int<|b+1+r1) (fG zk zk zk) (t1 zk zk) zk) zk) (show (2)<=sizeLine by lia)) (jZ h) (by rw[aV];lia);rw[Cn h,show ps.map dP++[D.tup [.int b,.int<|b+1+r1]]=(ps++[(b,b+1+r1)]).map dP by simp]at ap;let#[r2,p2,t2,k0,k1]:=n9 (bx:=bx++[Bx.lst<|(ps++[(b,b+1+r1)]).map dP]) (n:=n) zm p1 nr n0 za;have b3:=jZ (p:=p1) (x:=.lst<|(ps++[(b,b+1+r1)]).map dP) h;have la:bO ((ps++[(b,b+1+r1)]).map dP) (-1)=ae (dP (b,b+1+r1)):=by
  unfold bO dG;simp;rw[if_pos za];simp;have:(-1+((ps.length:Int)+1)).toNat=ps.length:=by lia
  rw[this,<-aV (f:=dP) (as:=ps)];simp
 refine#[b+1+r1,b+1+r1+1+r2,p2,(fw<|ip ap).trans<|gQ<|fG (x:=.int<|b+1+r1+1) (y:=.int r2) (r:=.old<|.int<|b+1+r1+1+r2) (fG (x:=.int<|b+1+r1) (y:=.int 1) (r:=.old<|.int<|b+1+r1+1) (fG (x:=dP (b,b+1+r1)) (y:=.int 1) (r:=.old<|.int<|b+1+r1) ?_ zk zk) zk zk) (t2 zk zk) zk,by lia,by lia,by lia,by lia];generalize pt (bx++[.lst<|(ps++[(b,b+1+r1)]).map dP]) n p1=B at b3 ⊢;rw[Me,show dV 2 [xB n,xN nr,xB bx.length,xN b,w] B=.val (.b bx.length) B from rfl,fR,Fp rfl,fR,RY b3,AS,bV,bV];change ck af (Option.map Res.old<|bO _<|-1) _=_;rw[la];rfl
structure Ot (op:Al) (m:Int):zw where
 l:op.length<=4
 b:∀ x∈op,0<=x.1 /\ x.1<x.2 /\ x.2<=m
 a:nP op=ah
noncomputable def fB (nr:Int):Nat->Int
 |0=>nr
 |i+1=>fB nr i+2*nr
theorem Wq {nr:Int}(n0:0<nr):∀ {i:Nat},i<=3->fB nr i<=7*nr
 |0,_=>by change nr<=_;lia
 |1,_=>by change nr+2*nr<=_;lia
 |2,_=>by change nr+2*nr+2*nr<=_;lia
 |3,_=>by change nr+2*nr+2*nr+2*nr<=_;lia
theorem M5 {nr:Int}(n0:0<nr) (n1:nr<=30) (h:n<bx.length) (p:Int):∃ ps q,K2.jo [.b n,.d<|.int nr] (pt bx n p)=.val (.d<|.tup<|ps.map dP) (pt bx n q) /\ Ot ps (8*nr):=by
 have sz:=bJ;have h0:n<(bx++[Bx.lst []]).length:=by simp;lia
 let#[r0,p1,t0,m0,m1]:=n9 h0 p nr n0 za;let#[y,p2,t4,my]:=aih h0 p1 [0,1,2,4] (ff zi<|ff zb<|ff zq<|ff (dC<|.int 4) fj) (λ_ _=>rfl) zk (by decide) zh;let#[c,rfl]:=Ip (show 0<=y by simp at my;lia);have hc:c<=4:=by simp at my;lia
 let#[bp,bx',e2,ps,b,w,q,rfl,rfl,hl,_,_,Y2,ha,_]:=mN (g:=fg 4) (λi env bb=>∃ ps b w q,env=[xB n,xN nr,xB bx.length,xN b,w] /\ bb=pt (bx++[.lst<|ps.map dP]) n q /\ ps.length=i /\ 0<=b /\ b<=fB nr i /\ (∀ x∈ps,0<=x.1 /\ x.1<x.2 /\ x.2<=8*nr) /\ nP ps=ah /\ ∀ x∈ps,x.2<b) (fQ 0 c) 0 [xB n,xN nr,xB bx.length,xN<|r0,ag] (pt (bx++[.lst<|([]).map dP]) n<|p2) #[[],_,_,_,rfl,rfl,rfl,m0,by change _<=nr;lia,(λx m=>by cases m),rfl,λx m=>by cases m] (by
  rintro i w env bb hw ⟨ps,b,w',q,rfl,rfl,hl,KN,ale,Y2,ha,hb⟩;have hi:i<c:=by
   have:=(List.getElem?_eq_some_iff.mp hw).1;simpa[fQ] using this
  let#[e,b',q',ee,o1,o2,o3,o4]:=PZ n0 n1 h q b ps za<|ae w;refine#[_,_,_,_,rfl,ee,ps++[(b,e)],b',_,q',rfl,rfl,by simp[hl],by lia,by change _<=fB nr (0+i)+2*nr;lia,λx m=>?_,BR ha hb,λx m=>?_]
  .rcases dY.mp m with m|m
   .show Y2 x m
   .rw[c8.mp m];show#[by change 0<=b;lia,o1,by change e<=8*nr;have:=Wq n0 (show 0+i<=3 by lia);lia]
  .rcases dY.mp m with m|m
   .have:=hb x m;lia
   .rw[c8.mp m];show o3)
 refine#[ps,q,?_,by simp[fQ]at hl;lia,Y2,ha];refine(jY (ws:=[.b n,.d<|.int nr]) (d:=.tup<|ps.map dP) (bx':=pt (bx++[.lst<|ps.map dP]) n q)<|(fw<|bS.BQ<|fk (w:=.b bx.length) (bx1:=pt (bx++[.lst []]) n p) (by rw[<-oB h,<-iH (bx:=bx) (n:=n) (p:=p)];show jX [] zk (cJ _))<|fk (t0 zk zk) zk).trans<|(fw<|(ir (l:=fQ 0 c)<|mB (fk (t4 _ 0 zk) zk) za).trans e2).trans<|f9 ?_).trans ?_
 .rw[Mf,fk (w:=.b bx.length) (l:=[]) rfl rfl,fR];have:k7 (pt (bx++[.lst<|ps.map dP]) n q) [.b bx.length]=ae [.lst<|ps.map dP]:=by erw[k7,RY<|jZ (p:=q) (x:=.lst<|ps.map dP) h,bV,sU]
  rw[this];rfl
 .rw[iH,Do h]
end aU
namespace sI
open L2 L2.DL
noncomputable section
end
open K1 K2 dD bF aT bS aU
section
variable {ps:Al} {N:Nat} {h0 l k r p w h:Int} 
def Y3 (rl:List Int) (hold:Int) (op:Al) (kl:List<|Int×List Int) (ps:Al) (qs:List Pg) (l h:Int):Option Int:=match uW ps qs l with
 |some (.aY h0 _ k _ p _)=>if h<h0 then ag else ae (p+sm (pb rl hold op ((kl[k.toNat]?).getD (0,[])).2 ps qs l) h0 (h-h0).toNat)
 |_=>ag
theorem UU (Z:Sc rs ks ps hd rl hold kl op gs qs) (l0:0<=l) (l9:l<=9) (hh:0<=h):gM [.d zc,.d zg,.d zp,.d<|.int l,.d<|.int h] B=.val (.d<|oI<|Y3 rl hold op kl ps qs l h) B:=by
 have cv:=Ct (bx:=B) Z l;have sv:=Ah (bx:=B) Z;obtain⟨S,hS⟩:∃ S,S=D.lst ((cx ps [] [] qs).map bU):=#[_,rfl];rw[<-hS]at cv sv;have f:∀ {b:aD}{o:OS}{x:D},gu [.d S,.d<|.int l] B=.val (.d x) B->b [ae<|.d zc,ae<|.d zg,ae<|.d zp,xN l,xN h,ae<|.d S,ae<|.d x] B=o->fv (fV<|fm aU.ie 4<|ff (dV 0)<|ff (dV 1)<|ff (dV 2)<|ff (dV 3) fj) (fv (fV<|fm aU.ig 1<|ff (dV 4) fj)<|fv (fE (fm bS.gk 2<|ff (dV 0)<|ff (dV 2) fj)<|fg 5)<|fv (fE (fm aU.gu 2<|ff (dV 5)<|ff (dV 3) fj)<|fg 6) b) [ae<|.d zc,ae<|.d zg,ae<|.d zp,xN l,xN h,ag,ag] B=o:=λc k=>
  qE (fJ zk zk<|MJ Z l0 l9) (qE (fJ zk zk<|GB hh)<|qS (fJ zk zk sv)<|qS (fJ zk zk c) k)
 unfold Y3;cases c:uW ps qs l with
 |none=>
   rw[c]at cv;show f7<|f cv<|qR (V1 zk) zk
 |some g=>
   rw[c]at cv;let#[h0,k,r,p,w,q,rfl,Y,alf,_]:=Wp Z c;have rv:=M4 (bx:=B) Z.X Z.ol Z.s Z.ok Z.l Y h;rw[<-hS]at rv;have n2:=λ(e:bf) (a:e[6]?=ae (ae<|.d<|enc<|.aY h0 l k r p w)) (b:e[4]?=ae (xN h))=>f8<|fG (g:=n6) (x:=.int h0) (r:=.old<|.bl<|decide (h<h0)) (bx:=B) (wQ (.aY h0 l k r p w) a) (k:=dV 4) (by rw[jD,b]) (by simp[n6]);erw[Y.hq,Option.getD_some];by_cases y:h<h0
   .rw[decide_eq_true y]at n2;rw[if_pos y];show f7<|f cv<|qR (w:=.d .aC) (bx2:=B) (j6 (bx1:=B) zk<|n2 _ zk zk) zk
   .rw[decide_eq_false y]at n2;rw[if_neg y];show f7<|f cv<|qF (j6 (bx1:=B) zk<|n2 _ zk zk)<|f9<|fJ (l:=[.d zc,.d zg,.d S,.d<|enc<|.aY h0 l k r p w,.d<|.int h]) zk zk rv
end
end sI
namespace nQ
open L2 L2.DL K1 K2 dD bF aT bS aU sI
section
variable {ps:Al} {l:Int}
variable {Z:Sc rs ks ps hd rl hold kl op gs qs} {h0 k r p w:Int} 
end
open HT
variable {ps K R:Al} {c:Int} {g:Pg} {l h:Int}
end nQ
namespace HT
open PySem.W
section
variable {s:aq}
theorem JL:typeLookup (.type "list") "keys"=pure ag:=by kernel_rfl
theorem lV {xs:Array aj}{k:Nat}{Q:Option aj->aq->zw}(hx:s.heap.get? a=ae { cls:=.type "list",data:=.seq xs k,slots:=sl }) (hA:A.handled=ag)
 (h:∀ h' tk,(∀ b o,s.heap.get? b=ae o->h'.get? b=ae o)->Q ag { s with heap:=h',toks:=tk }) :
 wpAny zd A (getAttr? (.ref a) "keys") Q E s:=by
 let#[hp,g,d,tk,os]:=s;have hT:∀ yx,(#[hp,g,d,yx,os]:aq).TypeIs (.ref a) "list":=λ_=>#[_,hx,rfl];have f1:=sub_AttributeError;have f3:=F.slot_list_getattribute.lookup;have f4:=F.slot_list_getattribute.bind<|.ref a;have f5:=am_list_getattr_none;unfold getAttr? getAttrBy? getAttrBy
 repeat (any_goals (first|assumption|show hT _|((with_reducible change wpAny _ _ (call (Value.builtin "list.__getattribute__") _ _) _ _ _);refine yR F.slot_list_getattribute (hT _) am_entry_list_getattribute (F.args_list_getattribute_2 _ _) (meets_getattribute_miss_list a xs k sl "keys" _ JL (by decide) (by size_fits)) ⟨hx,hA,λh' yx e IH=>?_⟩)|wp_step))
 let#[t',u',he]:=IH.there;change wpAny _ _ (getattributeRaised _ _ _ _ _ _ _) _ _ _;unfold getattributeRaised
 repeat (any_goals (first|assumption|wp_step))
 show h _ _ IH.keeps
theorem gN:plainId "dict.update.loop"=ah:=by decide +kernel
theorem jr:entryFor table "dict.update.loop"=ae Builtin.«dict.update.loop»:=aaj (by kernel_rfl)
theorem Fx {K:Type} [DecidableEq K] (ao:List<|K×aj) (k:K) (v:aj):(PySem.stored ao k v).length<=ao.length+1:=by
 unfold PySem.stored;split<;>simp
theorem aiq {K:Type} [DecidableEq K] {knd:KeyKind prog w K}{d l:ai}{its:List (ai×K×aj×aj)}(hh:A.handled=ag) (di:d≠it) (ld:l≠d) (li:l≠it) (dW:∀ q∈its,q.1≠d /\ q.1≠it) (hz:its.length<=1000) :
 ∀ (n i:Nat) (s:aq) (ao:List<|K×aj),its.length-i=n->i<=its.length->s.heap.IsListIter it l i->s.heap.IsList l (its.map λq=>Value.ref q.1).toArray->(∀ q∈its,IsTup s.heap q.1 (List.toArray [q.2.2.1,q.2.2.2]) /\ knd.is q.2.1 q.2.2.1=ah) ->
  s.heap.DictOf knd d ao->ao.length<=i ->
  (∀ h' tk,(∀ b o,b≠d->b≠it->s.heap.get? b=ae o->h'.get? b=ae o)->h'.DictOf knd d ((its.drop i).foldl (λa q=>PySem.stored a q.2.1 q.2.2.2) ao)->R (.ok<|.ret .none) { s with heap:=h',toks:=tk }) ->
  codeAny zd A (.builtin "dict.update.loop" #[[.ref d,.ref it,rawInt i,.none],[]]) R s:=by
 have sz:=bJ;intro n;induction n with
 |zero=>
   intro i s ao hn hi hI hl hq hd hk hR;refine qL jr ?_;refine ak<|Q4 hh hI hl zm λh' x=>?_;change wpAny _ _ (Builtin.Dict.addKeywords d [] >>= _) _ _ _;refine ak<|az<|az ?_;have e:its.drop i=[]:=aaV za;rw[e]at hR;refine hR h' s.toks (λb o _ b2 e=>x b o b2 e) ?_;let#[o,es,ep,ho,r]:=hd;show#[o,es,ep,x d o di ho,r]
 |succ n ih=>
   intro i s ao hn hi hI hl hq hd hk hR;have lt:i<its.length:=by lia
   refine qL jr ?_;rw[xQ gN _];change wpAny _ A.in1 (pyNext (.ref it) >>= _) _ _ s;refine ak<|Q3 hI hl (x:=.ref its[i].1) (by simp[lt]) λh' Y4 x=>?_;let#[#[o,ho,hc,m,Y5],Y6]:=hq its[i]<|ph lt;have eZ:=(x.2 _ (dW its[i]<|ph lt).2).trans ho;refine ak<|dS<|ak<|aap ?_;unfold Builtin.Dict.pairItems;refine ak<|rO #[o,eZ,hc] ?_;rw[if_pos zh];refine ak<|sL eZ Y5<|az ?_;change wpAny _ _ (holding [its[i].2.2.1,its[i].2.2.2]<|dictSet d its[i].2.2.1 its[i].2.2.2) _ _ _;have En:h'.DictOf knd d ao:=by
    let#[o,es,ep,ho,r]:=hd;show#[o,es,ep,(x.2 d di).trans ho,r]
   refine dS<|wpAny_dictSet_pairs Y6 En (λh2 hd2 x2=>?_) za;refine az #[u6 gN _,?_];have keep:=λb b1 b2=>(x2.2 b b1).trans<|x.2 b b2;show(ih (i+1) { s with heap:=h2,toks:=s.toks+1 } (PySem.stored ao its[i].2.1 its[i].2.2.2) za lt (by
    let#[o,ho,r]:=Y4;show#[o,(x2.2 it<|Ne.symm di).trans ho,r]) (by
    let#[o,ho,r]:=hl;show#[o,(keep l ld li).trans ho,r]) (λq m=>by
    let#[#[o,ho,r],k]:=hq q m;show#[#[o,(keep _ (dW q m).1 (dW q m).2).trans ho,r],k]) hd2 (cT (Fx ..) za) λh3 tk x3 Y7=>by
     refine hR h3 tk (λb o b1 b2 e=>x3 b o b1 b2<|(keep b b1 b2).trans e) ?_;rw[aaW lt];show Y7)
theorem o7 {K:Type} [DecidableEq K] {knd:KeyKind prog w K}{l:ai}{k:Nat}{its:List (ai×K×aj×aj)}(hh:A.handled=ag) (hl:s.heap.get? l=ae { cls:=.type "list",data:=.seq (its.map λq=>Value.ref q.1).toArray k,slots:=sl }) (hz:its.length<=1000)
 (hq:∀ q∈its,IsTup s.heap q.1 (List.toArray [q.2.2.1,q.2.2.2]) /\ knd.is q.2.1 q.2.2.1=ah)
 (h:∀ h' tk,(∀ b o,s.heap.get? b=ae o->h'.get? b=ae o)->h'.DictOf knd s.heap.objs.size (its.foldl (λa q=>PySem.stored a q.2.1 q.2.2.2) [])->Q (.ref s.heap.objs.size) { s with heap:=h',toks:=tk }) :
 wpAny zd A (call (.type "dict") [.ref l]) Q E s:=by
 refine aaq (Q₁:=λobj s₁=>obj=.ref s.heap.objs.size /\ s₁={ s with heap:=s.heap.push { cls:=.type "dict",data:=.dict #[] } }) abL (abM _) abN (aar _ #[rfl,rfl]) ?_;rintro obj s₁ ⟨rfl,rfl⟩;have EC:(s.heap.push { cls:=.type "dict",data:=.dict #[] }).DictOf knd s.heap.objs.size []:=Heap.DictOf.new s.heap;have hV:=aN { cls:=.type "dict",data:=.dict #[] } hl;have ls:=bh hl;refine#[EC.typeIs,abO _ _,?_];refine ak ?_;refine ak<|Xg EC.typeIs ?_;refine az ?_;refine ak<|rO #[_,hV,rfl] ?_;refine ak<|lV hV hh λh1 tk k1=>?_;refine ak<|pQ ?_;have l1:=k1 _ _ hV;refine ak<|xg #[_,l1,rfl,_,rfl] ?_;obtain⟨o0,e0⟩:∃ o,(s.heap.push { cls:=.type "dict",data:=.dict #[] }).get? s.heap.objs.size=ae o:=#[_,bE _ zk];have s1:=bh<|k1 _ _ e0;have up:∀ b o,s.heap.get? b=ae o->b<s.heap.objs.size /\ h1.get? b=ae o:=λb o e=>#[bh e,k1 _ _<|aN _ e];refine az #[u6 gN _,?_];refine aiq (A:=A.in1) (knd:=knd) hh (bC s1) (bC ls) (bC<|rQ ls s1) (λq m=>?_) hz _ 0 _ [] zk (cJ _) (#[_,bE _ zk,rfl,rfl]) (#[_,aN _ l1,rfl,_,rfl]) (λq m=>?_) ?_ (aI _) λh2 rD k2 hd2=>?_
 .let#[#[o,ho,_],_]:=hq q m;have:=bh ho;show#[bC this,bC<|rQ this s1]
 .let#[#[o,ho,r],kk]:=hq q m;show#[#[o,aN _ (up _ _ ho).2,r],kk]
 .let#[o,es,ep,ho,r]:=EC;show#[o,es,ep,aN _<|k1 _ _ ho,r]
 .refine#[rfl,h h2 rD (λb o e=>?_) hd2];have u:=up b o e;show k2 b o (bC u.1) (bC<|rQ u.1 s1)<|aN _ u.2
end
end HT
namespace L2
open PySem.W
section
variable {s:aq} 
theorem GC (I:Inv X pins σ H s):∀ {ao:List (Key×V)}{ts:List ai},Paired (λ(q:Key×V) (t:ai)=>H t=ae (.tup [kV q.1,q.2])) ao ts ->
 ∃ its:List (ai×Key×aj×aj),its.map (·.1)=ts /\ (∀ q∈its,IsTup s.heap q.1 (List.toArray [q.2.2.1,q.2.2.2]) /\ (dF X.prog X.w).is q.2.1 q.2.2.1=ah) /\ Paired (λ(p:Key×V) (q:ai×Key×aj×aj)=>p.1=q.2.1 /\ RelV p.2 q.2.2.2) ao its
 |_,_,.nil=>#[[],rfl,λ_ m=>(nomatch m),.nil]
 | (k,v)::_,t::_,.cons h r=>by
   let#[its,e,a,b]:=GC I r;let#[us,ru,ht,_]:=I.tuple<|.of h;let#[u1,u2,rfl,r1,r2]:=vals2 ru;refine#[(t,k,u1,u2)::its,by rw[aM,e],λq m=>?_,.cons #[rfl,r2] b];rcases aZ.mp m with rfl|m
   .refine#[ht,?_];cases k with
    |inl i=>let#[t,rfl]:=r1;simp[dF,vh,Value.isInt]
    |inr x=>let#[t,rfl]:=r1;simp[dF,vh,Value.isStrOf]
   .show a q m
theorem GD:∀ {ao:List (Key×V)}{its:List (ai×Key×aj×aj)}{l:List (Key×V)}{us:List (Key×aj)},Paired (λ(p:Key×V) (q:ai×Key×aj×aj)=>p.1=q.2.1 /\ RelV p.2 q.2.2.2) ao its->KV l us ->
 KV (ao.foldl (λa q=>putK a q.1 q.2) l) (its.foldl (λa q=>PySem.stored a q.2.1 q.2.2.2) us)
 |_,_,_,_,.nil,r=>r
 | (k,v)::_,q::_,_,_,.cons h t,r=>by
   have:=GD t<|r.put k h.2;rw[show k=q.2.1 from h.1]at this ⊢;show this
theorem M6 {l:List (Key×V)}{k:Key}:(putK l k v).length<=l.length+1:=by
 unfold putK;split<;>simp
theorem A6:∀ (ao l:List<|Key×V),(ao.foldl (λa q=>putK a q.1 q.2) l).length<=l.length+ao.length:=by
 intro l_;induction l_ with
 |nil=>show λl=>aI _
 |cons q t ay=>
   intro l;have:=ay<|putK l q.1 q.2;have:=M6 (l:=l) (k:=q.1) (v:=q.2);change (t.foldl _<|putK l q.1 q.2).length<=_;rw[bN];lia
def adZ (K:Frag):List V->Hp->VK->zw:=λxs H Q=>∃ (a:ai) (ts:List ai) (ao:List<|Key×V),xs=[.ref a] /\ bZ K H a (ts.map V.ref) /\ ts.length<=1000 /\ Paired (λ(q:Key×V) (t:ai)=>H t=ae (.tup [kV q.1,q.2])) ao ts /\ ∀ l,H l=ag->Q (.ref l) (upd H l<|.dK<|ao.foldl (λa q=>putK a q.1 q.2) [])
theorem JM (hc:X.calm=ah):hG X (.type "dict") (adZ X.K):=by
 intro pins s σ H xs us Q I r h;let#[a,ts,ao,rfl,hl,hz,hp,q]:=h;let#[_,rfl,rfl]:=vals1 r;let#[us,r',#[#[cl,dc,dt,sl],n,e1,e2,e3,e4],_]:=I.list hl;subst e2 e3 e4;let#[its,ei,hi,rel]:=GC I hp;have eu:us=its.map λq=>Value.ref q.1:=by
  have:∀ {ts:List ai}{us},Vals (ts.map V.ref) us->us=ts.map Value.ref:=by
   intro ts;induction ts with
   |nil=>intro us r;cases r;rfl
   |cons t ts ih=>intro us r;cases r with|cons h t=>rw[ih t,h];rfl
  rw[this r',<-ei,bH];rfl
 subst eu;have Y8:its.length<=1000:=by rw[<-aV,ei];show hz
 refine HT.o7 (I.ok.hd hc) e1 Y8 hi λh' tk kk dd=>?_;have zl:(ao.foldl (λa q=>putK a q.1 q.2)<|[]).length<=sizeLine:=by
  have:=A6 ao [];have e:=Paired.length rel;rw[bJ];erw[qN]at this;lia
 show#[.ref _,_,I.laid (o:=.dK<|ao.foldl (λa q=>putK a q.1 q.2) []) kk (aI _) #[zl,(beq_eq_false_iff_ne.mpr<|u9 I.big),_,(GD rel .nil),dd],rfl,q _<|I.aE.fresh<|aI _]
end
end L2
namespace L2.DL
open PySem.W
theorem mD {α β:Type}{P Q:α->β->zw}(h:∀ a b,P a b->Q a b):∀ {l:List α}{m:List β},Paired P l m->Paired Q l m
 |_,_,.nil=>.nil
 |_,_,.cons a t=>.cons (h _ _ a)<|mD h t
noncomputable def uX:List D->Option (List<|Key×D)
 |[]=>ae []
 |.tup [.int k,d]::l=>(uX l).map λr=>(.inl k,d)::r
 |_=>ag
def yG:List D->Option Res:=λxs=>match xs with
 |[.lst l]=>if l.length<=1000 then (uX l).map λr=>.aB (r.foldl (λa q=>sy a q.1 q.2) []) else ag
 |_=>ag
theorem JN:∀ {l:List D}{r:List (Key×D)}{vs:List V},uX l=ae r->aH F l vs->∃ (ts:List ai) (ao:List<|Key×V),vs=ts.map V.ref /\ Paired (λ(q:Key×V) (t:ai)=>F t=ae (.tup [kV q.1,q.2])) ao ts /\ aR F r ao:=by
 intro l;induction l with
 |nil=>intro r vs e h;cases e;cases (h);show#[[],[],rfl,.nil,rfl]
 |cons x l ih=>
   intro r vs e h;unfold uX at e;split at e
   .ext e0;cases e0
   .ext k d l' e0;cases e0;cases q:uX l with
    |none=>rw[q]at e;cases e
    |some r'=>
      rw[q]at e;cases e;let#[v,t,rfl,#[a,ws,rfl,h1,h2],h3]:=h;let#[w1,t1,rfl,h4,w2,t2,rfl,h5,h6]:=h2;cases (h6);cases (h4);let#[ts,ao,rfl,p,d']:=ih q h3;show#[a::ts,(.inl k,w2)::ao,rfl,.cons h1 p,w2,ao,rfl,h5,d']
   .cases e
theorem BS {F:Hp}:∀ {r:List (Key×D)}{ao:List (Key×V)}{l:List (Key×D)}{vs:List (Key×V)},aR F r ao->aR F l vs->aR F (r.foldl (λa q=>sy a q.1 q.2) l) (ao.foldl (λa q=>putK a q.1 q.2) vs)
 |[],_,_,_,h,g=>by cases (h);show g
 | (k,d)::r,_,_,_,⟨v,t,e,h1,h2⟩,g=>by
   subst e;have:=BS h2<|aR.put (k:=k) g h1;show this
theorem air:k8 (adZ K) yG:=by
 intro F H xs vs Q s sub rx e k;unfold yG at e;split at e
 .ext l;split at e
  .cases q:uX l with
   |none=>rw[q]at e;cases e
   |some r=>
     rw[q]at e;cases e;let#[v,t,rfl,#[a,ws,rfl,h3,h4],h2]:=rx;cases (h2);let#[ts,ao,rfl,p,d]:=JN q h4;have el:l.length=ts.length:=by rw[h4.length,aV]
     show#[a,ts,ao,rfl,.of h3,by lia,mD (λ_ _ h=>sub _ _ h) p,λl hl=>k _ _ #[l,_,rfl,hl,rfl,BS d zk]]
  .cases e
 .cases e
end L2.DL
namespace HT
open PySem.W
section
variable {s:aq}
theorem Se {h:aJ}:∀ {vs:List aj}{ns:List Int},IntsAre vs ns->eB h vs (ns.map aF.i)
 |_,_,.nil=>.nil
 |_,_,.cons n t r=>.cons #[t,rfl]<|Se r
theorem Sf {h:aJ}:∀ {vs:List aj}{ns:List Int},eB h vs (ns.map aF.i)->IntsAre vs ns
 |_,[],.nil=>.nil
 |_,n::ns,.cons ⟨t,e⟩ r=>by subst e;show .cons n t<|Sf r
theorem Cu:∀ a b:List Int,kq (a.map aF.i) (b.map aF.i)=ah
 |[],_=>rfl
 |_::_,[]=>rfl
 | a::l,b::m=>by
   have:=Cu l m;unfold kq at this ⊢;rw[aM,aM,vT,uh,this];rfl
theorem JO {d r:ai}{ao:List (L2.Key×aj)}(key:L2.Key×aj->List Int) (hh:A.handled=ag) (hu:A.units+8<cLine) (hv:s.heap.IsItemsView r d) (hm:s.heap.DictAt (L2.dF prog w) d ao ep) (cG:ao.length<64)
 (hI:∀ q∈ao,∀ v,(L2.dF prog w).is q.1 v=ah->IntsAre [v,q.2] (key q))
 (h:∀ (h':aJ) (tk:Nat) (a:ai) (k:Nat) (qs:List<|ai×List Int),(∀ b o,s.heap.get? b=ae o->h'.get? b=ae o /\ b≠a /\ b∉qs.map (·.1))->a∉qs.map (·.1)->(qs.map (·.1)).Nodup->h'.get? a=ae (seqObj "list" (qs.map λq=>Value.ref q.1).toArray k) ->
  (∀ q∈qs,∃ vs,IsTup h' q.1 vs.toArray /\ IntsAre vs q.2)->(qs.map (·.2)).Perm (ao.map key)->qs.Pairwise (λa b=>lexLt (bB<|b.2.map aF.i) (bB<|a.2.map aF.i)=af)->Q (.ref a) { s with heap:=h',toks:=tk }) :
 wpAny zd A (call (.builtin "sorted") [.ref r]) Q E s:=by
 refine Ir Ib Ic Ie (Ig _) ?_;unfold Builtin.«sorted»;refine ak<|az ?_;have h6:ao.length<=sizeLine:=cT (nC cG) zh;refine ak<|kdx_collect hh hv hm h6 λh1 tk as hk hl G=>?_;refine ak<|xh ?_ (by rw[aV,hl];show h6);generalize Y9:h1.push (seqObj "list" (as.map Value.ref).toArray 0)=h2;have vi:h2.get? h1.objs.size=ae (seqObj "list" (as.map Value.ref).toArray 0):=by rw[<-Y9];show bE _ zk
 have ad0:∀ b o,h1.get? b=ae o->h2.get? b=ae o:=λb o q=>by rw[<-Y9];show aN _ q
 change wpAny _ _ _ _ _ { s with heap:=h2,toks:=tk };have ais:∃ ps:List (ai×List Int),ps.map (·.1)=as /\ ps.map (·.2)=ao.map key /\ ∀ p∈ps,sx (ao.map λq=>(key q).map aF.i) h2 (.ref p.1) (bB<|p.2.map aF.i):=by
  refine#[as.zip<|ao.map key,by rw[List.map_fst_zip];rw[aV];lia,by rw[Xr];rw[aV];lia,λp m=>?_];let#[j,hj]:=List.mem_iff_getElem?.mp m;let#[e1,e2]:=List.getElem?_zip_eq_some.mp hj;rw[kQ]at e2;let#[q,e3,e4]:=Option.map_eq_some_iff.mp e2;let#[v,k,x,g1,g2,g3]:=G.pairs j p.1 e1;rw[e3]at g1;cases g1;have:=hI _ (rS e3) v g2;have t2:=e4▸this;have it:=Se (h:=h2) t2;have mm:p.2.map aF.i∈ao.map λq=>(key q).map aF.i:=by rw[<-e4];show aK.mpr #[_,rS e3,rfl]
  cases ek:p.2 with
  |nil=>rw[ek]at t2;cases t2
  |cons n l=>
    rw[ek]at it mm;show#[p.1,[v,x],n,l.map aF.i,rfl,#[_,ad0 _ _ g3,rfl,0,rfl],it,mm,rfl]
 let#[ps,p1,p2,p3]:=ais;have HH:∀ v∈as.map Value.ref,∃ ns,sx (ao.map λq=>(key q).map aF.i) h2 v ns:=λv m=>by
  let#[a,ma,rfl]:=aK.mp m;rw[<-p1]at ma;let#[q,mq,rfl]:=aK.mp ma;show#[_,p3 q mq]
 refine ak<|dS<|kE Ih #[_,vi,rfl] Ii (F8 (cX<|ao.map λq=>(key q).map aF.i) vi HH za (λne=>BD (λl m l2 m2=>by let#[x,_,rfl]:=aK.mp m;let#[y,_,rfl]:=aK.mp m2;show Cu _ _) hu HH ne) (by rw[aV,hl];show cG) λout o1 o2=>#[_,rfl,az #[_,rfl,?_]])<|Ij _;let#[e,he]:=abh vi;have pm:out.toList.Perm (ps.map λq=>Value.ref q.1):=by
  rw[show (ps.map λq=>Value.ref q.1)=as.map Value.ref by rw[<-p1,bH];rfl];show o1
 let#[qs,q1,q2]:=L2.DL.Ky pm zk;have ad1:h2.objs.size=h1.objs.size+1:=by rw[<-Y9,uo]
 have old:∀ b o,h1.get? b=ae o->(sortedHeap h2 h1.objs.size (as.map Value.ref) out).get? b=ae o:=λb o q=>by
  have lt:=bh q;show(XE (bC lt) (by rw[ad1];show qf lt)).trans (ad0 b o q)
 have mem:∀ a,a∈qs.map (·.1) ↔ a∈as:=λa=>by rw[<-p1];show(q2.map (·.1)).mem_iff
 refine h _ tk _ e qs (λb o q=>#[old b o<|hk b o q,bC<|bh<|hk b o q,λz=>?_]) (λz=>(absurd (G.there<|(mem _).mp z)<|kF _)) ?_ ?_ (λq m=>?_) ?_ ?_
 .have:=G.above b<|(mem b).mp z;show absurd (bh q)<|Nat.not_lt.mpr<|nC this
 .rw[(q2.map (·.1)).nodup_iff,p1];show(G.rise.imp λr=>bC r)
 .rw[he];have:out=(qs.map λq=>Value.ref q.1).toArray:=by apply Array.toList_inj.mp;rw[q1]
  rw[<-this]
 .let#[b,vs,n,l,eb,#[o,t1,t2],t3,tm,t4]:=p3 q<|q2.mem_iff.mp m;cases eb;let#[y,_,ey]:=aK.mp tm;refine#[vs,#[o,?_,t2],Sf<|(L2.DL.code_inj (by rw[<-ey];show Cu _ _) t4)▸t3];have lt:=G.there<|(mem q.1).mp<|rT m;show(XE (bC lt) (by rw[ad1];show qf lt)).trans t1
 .rw[<-p2];show q2.map _
 .unfold vE at o2;rw[q1,qh]at o2;show abV (λ{a b} ma mb r=>r _ _ (p3 a<|q2.mem_iff.mp ma)<|p3 b<|q2.mem_iff.mp mb) o2
end
end HT
namespace L2
open PySem.W
def pd (H:Hp):List (ai×HO)->Hp
 |[]=>H
 |q::l=>upd (pd H l) q.1 q.2
theorem iq {b:ai}:∀ {l:List (ai×HO)},b∉l.map (·.1)->pd H l b=H b:=by
 intro l_;induction l_ with
 |nil=>show λ_=>rfl
 |cons q l ay=>
   intro h;rw[aM,aZ,not_or]at h;change upd _ q.1 q.2 b=_;rw[fC h.1,ay h.2]
theorem P0 {b:ai}{u:HO}:∀ {l:List (ai×HO)},pd H l b=ae u->(b,u)∈l \/ H b=ae u:=by
 intro l_;induction l_ with
 |nil=>show λh=>.inr h
 |cons q l ay=>
   intro h;by_cases e:b=q.1
   .subst e;rw[show pd H _=upd _ q.1 q.2 from rfl,fF]at h;cases h;show .inl<|bw ..
   .rw[show pd H _=upd _ q.1 q.2 from rfl,fC e]at h;show(ay h).imp (bG _) id
theorem dg.any {o:HO}(x:dg P w H h a o):∃ u,h.get? a=ae u:=by
 cases o with
 |lst xs=>let#[_,_,_,_,e]:=x;show#[_,e]
 |tup xs=>let#[_,_,_,o,e,_]:=x;show#[_,e]
 |dK ao=>let#[_,_,_,_,o,_,_,e,_]:=x;show#[_,e]
 |dT ao=>let#[_,_,_,_,o,_,_,e,_]:=x;show#[_,e]
 |set S n=>let#[o,_,_,_,e,_]:=x;show#[_,e]
 |ins C dx fs=>let#[_,_,_,e,_]:=x;show#[_,e]
 |own y=>show x
 |xd fs=>let#[_,#[_,_,_,e,_],_]:=x;show#[_,e]
 |Iz lo hi=>let#[_,_,_,e]:=x;show#[_,e]
 |bP ob u=>let#[e,_]:=x;show#[_,e]
 |eY ps=>show#[_,(x)]
 |met f y=>show#[_,(x)]
 |ext φ=>let#[_,#[_,e],_]:=x;show#[_,e]
section
variable {s:aq} 
theorem Inv.ait {l:List (ai×HO)}(I:Inv X pins σ H s) (k:∀ b u,s.heap.get? b=ae u->h'.get? b=ae u /\ b∉l.map (·.1)) (new:∀ q∈l,dg X.prog X.w (pd H l) h' q.1 q.2) :
 Inv X pins σ (pd H l) { s with heap:=h',toks:=t' }:=by
 have old:∀ b u,H b=ae u->pd H l b=ae u:=λb u e=>by
  let#[ob,eb]:=(I.aE b u e).any;rw[iq (k b ob eb).2];show e
 refine I.un #[λb u q _ _ _=>(k b u q).1,λb u q _ _ _=>#[u.slots,(k b u q).1],λb u q n _=>(iq (k b u q).2).trans n,λb u q _=>#[u,(k b u q).1],λb xs q=>old _ _ q,λb u xs q=>old _ _ q,λb ps q=>#[#[],by rw[old _ _ q];simp]] λb u e=>?_;rcases P0 e with m|m
 .show new _ m
 .show(I.aE b u m).kY (λc v _ q=>(k c v q).1) (λc q=>old _ _ q) λc xs q=>old _ _ q
end
section
variable {o:au} {p b9:aG} {td:TE}
def aiu (td:TE):TE:=λσ H Q=>td σ H λx H1=>∃ (a:ai) (ps:List<|Int×Int),x=.ref a /\ Rd H1 a (.dK<|ps.map λp=>(Sum.inl p.1,V.int p.2)) /\ ps.length<64 /\ ∀ (bs:List<|ai×List Int) (l:ai),(∀ b∈bs,H1 b.1=ag)->H1 l=ag->l∉bs.map (·.1)->(bs.map (·.1)).Nodup->bs.map (λb=>b.2.map HT.aF.i)=DL.pK (ps.map λp=>[HT.aF.i p.1,.i p.2]) ->
 Q (.ref l) (upd (pd H1<|bs.map λb=>(b.1,.tup<|b.2.map V.int)) l<|.lst<|bs.map λb=>V.ref b.1)
noncomputable def ad2:Key×aj->List Int
 |(.inl i,.int j _)=>[i,j]
 |_=>[]
theorem P3:∀ {ps:List (Int×Int)}{vs:List (Key×aj)},KV (ps.map λp=>(Sum.inl p.1,V.int p.2)) vs->vs.map ad2=(ps.map λp=>[p.1,p.2]) /\ ∀ q∈vs,∃ i j t,q=(Sum.inl i,.int j t):=by
 intro l_;induction l_ with
 |nil=>(intro vs h;cases h;show#[rfl,λ_ m=>nomatch m])
 |cons p ps ay=>
   intro _ h;cases h with
   |@cons _ q _ vs h t=>
     let#[a,b]:=ay t;let#[k,x]:=q;let#[h1,t',h2]:=h;cases h1;cases h2;refine#[by rw[aM,aM,a];rfl,λq m=>?_];rcases aZ.mp m with rfl|m
     .show#[_,_,_,rfl]
     .show b q m
theorem A7:∀ {us:List aj}{ns:List Int},IntsAre us ns->Vals (ns.map V.int) us
 |_,_,.nil=>.nil
 |_,_,.cons n t h=>.cons #[t,rfl]<|A7 h
theorem JP (hc:X.calm=ah) (hu:X.A.units+8<cLine) (hg:Gl X "sorted") (hm:X.mg "sorted"=ag) (ho:PE X o td) (hb:attributeBase o "items" X.env (eval o X.env)=eval o X.env) (hl:(apos.endLine==b9.line)=ah) :
 PE X (.Call (.Name "sorted" p) [.Call (.Attribute o "items" apos) [] [] b9] [] pos) (aiu td):=by
 intro pins s σ H Q I h;have st:=DL.fI (e:=.Call (.Attribute o "items" apos) [] [] b9) zk [] X.env;refine uf<|jd I hg hm abi ?_ zh zh;refine callWith_builtin1 ?_ st<|DL.jA zk;rw[st];change wpAny _ _ (spliced ((af,eval (.Call (.Attribute o "items" apos) [] [] b9) X.env)::backTo pos (starEach [] X.env))) _ _ s;refine xM<|HF hb zk hl Iw abP PySem.F.type_dict_items<|tE (ho pins s σ H _ I h) λu s1 x H1 I1 rx hh=>?_;let#[a,ps,ex,ea,cG,q1]:=hh;subst ex;obtain rfl:u=Value.ref a:=rx;let#[t1,t2,_]:=B9 I1<|.inl #[_,ea];refine#[t1,t2,Ei zk<|abj ?_];let#[zl,hd,vs,rel,dd]:=oO I1.aE ea;let#[ep,dat]:=dd.dictAt;let#[k1,k2]:=P3 rel;refine xi abP dd.typeIs PySem.F.entry_dict_items (PySem.F.args_dict_items_1 _) (meets_dict_items (dF X.prog X.w) a hd) #[#[vs,dd],?_];have I2:Inv X pins σ H1 { s1 with heap:=s1.heap.push { cls:=.type "dict_items",data:=.fields (List.toArray [.ref a]) } }:=I1.kept λb o e=>aN _ e;have lv:vs.length=ps.length:=by
  have:=congrArg List.length k1;simpa using this
 refine xK<|HT.JO ad2 (I1.ok.hd hc) hu #[_,bE _ zk,rfl,rfl] (dat.push _) za (λq m v hv=>?_) λh' tk l k qs ok nl nd hL tp pm ord=>?_
 .let#[i,j,t,rfl]:=k2 q m;rcases gf (k:=Sum.inl i) hv with⟨i',t',e1,rfl⟩|⟨y,t',e1,rfl⟩
  .cases (show (Sum.inl i)=Sum.inl i' from e1);show .cons _ _<|.cons _ _ .nil
  .cases (show (Sum.inl i)=Sum.inr y from e1)
 .have fr:∀ b,(b=l \/ b∈qs.map (·.1))->H1 b=ag:=λb z=>by
   cases q:H1 b with
   |none=>rfl
   |some w=>
     let#[ob,eb]:=(I2.aE b w q).any;let#[_,o1,o2]:=ok b ob eb;show z.elim (λz=>absurd z o1) λz=>absurd z o2
  have so:qs.map (λb=>b.2.map HT.aF.i)=DL.pK (ps.map λp=>[HT.aF.i p.1,.i p.2]):=by
   refine DL.iN ?_ ?_ ?_
   .unfold DL.uM;rw[cU];intro a ma;rw[cU];intro b mb;let#[x,_,rfl]:=aK.mp ma;let#[y,_,rfl]:=aK.mp mb;show HT.Cu [x.1,x.2] [y.1,y.2]
   .have:=(k1▸pm).map λl:List Int=>l.map HT.aF.i;rw[bH,bH]at this;show this
   .rw[qh];show ord
  have alg:qs.length<64:=by
   have:=pm.length_eq;erw[aV]at this;lia
  have alh:(64)<=sizeLine:=by decide
  have I3:=I2.ait (t':=tk) (l:=(l,.lst<|qs.map λb=>V.ref b.1)::qs.map λb=>(b.1,HO.tup<|b.2.map V.int)) (λb u e=>by
   let#[o0,o1,o2]:=ok b u e;refine#[o0,?_];rw[aM,aZ,bH];show λz=>z.elim o1 o2) (λq m=>by
   rcases aZ.mp m with rfl|m
   .refine#[by rw[aV];lia,_,k,?_,hL];have:∀ l:List<|ai×List Int,Vals (l.map λp=>V.ref p.1) (l.map λp=>Value.ref p.1):=λl=>by
     induction l with
     |nil=>show .nil
     |cons a l ih=>show .cons zk ih
    show this qs
   .let#[q,mq,rfl]:=aK.mp m;let#[us,tu,iu]:=tp q mq;refine#[?_,us,A7 iu,tu];let#[q',m3,e3]:=aK.mp<|pm.mem_iff.mp<|rT mq;let#[i,j,t,rfl]:=k2 q' m3;rw[<-e3];change (2:Nat)<=sizeLine;lia)
  show#[.ref l,_,I3,rfl,q1 qs l (λb m=>fr b.1<|.inr<|rT m) (fr l<|.inl zk) nl nd so]
end
end L2
namespace L2.DL
open PySem.W
section
variable {o:au} {p b9:aG} 
noncomputable def yH:List (Key×D)->Option (List<|Int×Int)
 |[]=>ae []
 |(.inl k,.int v)::l=>(yH l).map ((k,v)::·)
 |_::_=>ag
theorem DB:∀ {l:List (Key×D)}{ao:List (Key×V)}{ps:List (Int×Int)},aR F l ao->yH l=ae ps->ao=ps.map λp=>(Sum.inl p.1,V.int p.2)
 | [],_,_,h,e=>by
   cases (h);cases e;rfl
 | (.inl k,.int v)::l,_,_,h,e=>by
   let#[u,t,rfl,h1,h2]:=h;let#[ns,e1,rfl]:=Option.map_eq_some_iff.mp<|e;cases (h1);rw[aM,DB h2 e1]
 |(.inr _,_)::_,_,_,_,e=>by cases e
 |(.inl _,.aC)::_,_,_,_,e=>by cases e
 |(.inl _,.bl _)::_,_,_,_,e=>by cases e
 |(.inl _,.str _)::_,_,_,_,e=>by cases e
 |(.inl _,.tup _)::_,_,_,_,e=>by cases e
 |(.inl _,.lst _)::_,_,_,_,e=>by cases e
 |(.inl _,.aB _)::_,_,_,_,e=>by cases e
theorem P4:∀ ns:List Int,aH F ((ns.map HT.aF.i).map p8) (ns.map V.int):=by
 intro l_;induction l_ with
 |nil=>show rfl
 |cons n ns ay=>show#[_,_,rfl,rfl,ay]
theorem Rel.aiv:∀ {bs:List (ai×List Int)}{F:Hp},Rel T F r σ H env bx->(∀ b∈bs,H b.1=ag)->(bs.map (·.1)).Nodup->∃ F',bL F r F' r /\ Rel T F' r σ (pd H<|bs.map λb=>(b.1,.tup<|b.2.map V.int)) env bx /\ aH F' ((bs.map λb=>b.2.map HT.aF.i).map ku) (bs.map λb=>V.ref b.1):=by
 intro l_;induction l_ with
 |nil=>(intro F R _ _;show#[F,.refl F r,R,rfl])
 |cons b bs ay=>
   intro F R h nd;rw[aM,nE]at nd;let#[F1,g1,R1,d1]:=ay R (λc m=>h c<|bG _ m) nd.2;have hn:pd H (bs.map λb=>(b.1,HO.tup<|b.2.map V.int)) b.1=ag:=by
    rw[iq (by rw[bH];show nd.1)];show h b<|bw ..
   have g2:=R1.tU (o:=.tup<|b.2.map V.int) hn;show#[_,g1.trans g2,R1.wm hn,.cons #[b.1,_,rfl,fF,P4 b.2]<|aH.mono g2.s _ d1]
def Hq (bo:Bool) (m:DE W):DE W:=λenv bx=>fA (m env bx) λx bx1=>match (rz bx1 x).bind yH with
 |some ps=>if ps.length<64 then ck bo (ae<|.lst<|(pK<|ps.map λp=>[HT.aF.i p.1,.i p.2]).map ku) bx1 else .bad
 |none=>.bad
theorem JQ (bo:Bool) (hc:X.calm=ah) (hu:X.A.units+8<cLine) (hg:Gl X "sorted") (hm:X.mg "sorted"=ag) (ho:PD X T Z o ma) (hb:attributeBase o "items" X.env (eval o X.env)=eval o X.env) (hl:(apos.endLine==b9.line)=ah) :
 PD X T Z (.Call (.Name "sorted" p) [.Call (.Attribute o "items" apos) [] [] b9] [] pos) (Hq bo ma):=by
 refine PE.imp (JP hc hu hg hm ho hb hl) λσ H Q=>x4 λF r env bx R h=>#[F,r,env,bx,R,End.bind h λx bx1 F1 r1 v H1 g1 R1 d1 h1=>?_];split at h1
 .ext ps q;split at h1
  .ext cG;let#[l,q1,q2]:=Option.bind_eq_some_iff.mp q;let#[a,ao,rfl,k1,k2]:=Cb R1 d1 q1;rw[DB k2 q2]at k1;refine#[a,ps,rfl,k1,cG,λbs l hb hl nl nd so=>?_];let#[F2,g2,R2,d2]:=Rel.aiv R1 hb nd;rw[so]at d2;refine gR R2 (End.weak g2 h1) #[l,_,rfl,?_,rfl,d2];rw[iq (by rw[bH];show nl)];show hl
  .show h1.elim
 .show h1.elim
end
end L2.DL
namespace L2
open PySem.W
end L2
namespace L2.DL
open PySem.W
end L2.DL
namespace nQ
open L2 L2.DL
noncomputable section
def M7:aD:=(fv (fV<|fm aT.gH 2<|ff (dV 0)<|ff (dV 1) fj)<|fv (fV<|fm aU.ig 1<|ff (dV 2) fj)<|fv (fE (fm bS.gU 2<|ff (fm bS.gk 2<|ff (dV 0)<|ff (dV 1) fj)<|ff (dV 2) fj)<|fg 3)<|fK<|Hq af<|dV 3)
def jc:List W->List Bx->O W:=bq 4<|ba M7
end
end nQ
namespace sI
open L2 L2.DL K1 K2 dD bF aT bS aU
end sI
namespace nQ
open L2 L2.DL K1 K2 dD bF aT bS aU sI
section
variable {ps:Al} 
end
section
variable {ps:Al} 
theorem BU:∀ R:Al,yH (aO R)=ae R
 |[]=>rfl
 | (a,b)::R=>by
   change (yH<|aO R).map _=_;rw[BU R];rfl
theorem M8 {R:Al}(h:m env B=.val (.d<|.aB<|aO R) B) (l:R.length<64):Hq af m env B=.val (.d<|.lst<|(pK<|R.map λp=>[HT.aF.i p.1,.i p.2]).map ku) B:=by
 unfold Hq;rw[h,fR];have:(rz B<|.d<|.aB _).bind yH=ae R:=(BU R);erw[this];rw[if_pos l];rfl
end
end nQ
namespace HT
open PySem.W
section
variable {s:aq}
def KZ (h h':aJ):zw:=∀ b o,h.get? b=ae o->h'.get? b=ae o
theorem M9 {f t c':ai}{params:Arguments}{scope:bK}{pm kC:aj}{px py pz:aG}{i:Int}{z:aj} 
 (ho:s.heap.get? f=ae (Iq "<lambda>" qual params (.Subscript (.Name x px) (.Constant (.int i) n py) pz) scope [] pm c' kC)) (pD:s.heap.CodeRec (.ref c') qual) (aiw:A.depth<recursionLimit) (lim:s.heap.NoLimit)
 (Za:bindArgs (kla_fn "<lambda>" qual params (.Subscript (.Name x px) (.Constant (.int i) n py) pz) scope [] pm (.ref c') kC) #[[.ref t],[]]=pure [(x,.ref t)]) (hx:scope.names.lookup x=ae .local) (aix:scope.isCoroutine=af) (aiy:scope.isGenerator=af) (hk:scope.kind=.function) (vj:∀ x∈scope.names,x.2≠.cell)
 (dO:(x==("__debug__":Str))=af) (hl:IsTup s.heap t items) (i0:0<=i) (i1:i.toNat<items.size) (i2:items.size<=sizeLine) (hz:items[i.toNat]?=ae z)
 (h:∀ h' tk,KZ s.heap h'->Q z { s with heap:=h',toks:=tk }):wpAny zd A (call (.ref f) [.ref t]) Q E s:=by
 refine Q5<|kla_callFunE aiw ho zk aix aiy zk pD ?_;rw[Za];refine az<|wpAny_newFunctionEnv vj (λy m=>by rw[c8.mp m];show hx) (λh₁ kL tO=>#[lim.fresh _ tO,?_]) hk;have ad3:=λb o e=>tO.extBut b o (bC<|bh e)<|aN _ e;refine kla_codeExpr ?_;have hm:(λy=>([(x,Value.ref t)]).reverse.lookup y) x=ae (.ref t):=by simp
 refine Subscript_<|HD (Q0 hk hx kL hm<|ZZ ?_) dO;have pl:=hl.keeps ad3;have hn:=L2.ya;show Xy pl.typeIs slot_tuple_getitem.lookup (aba pl za za (L2.B3 (by unfold L2.dG;rw[if_pos i0,if_pos za])).1 hz #[rfl,h _ _ ad3]) zk
theorem Fy {L l f:ai}{m:Str->Option aj}{ts:List ai}{kz:List Int}(kL:s.heap.Ns L m) (hl:s.heap.IsList l (ts.map Value.ref).toArray) (hlen:kz.length=ts.length) (cG:ts.length<64)
 (turn:∀ (i:Nat) (t:ai) (k:Int),ts[i]?=ae t->kz[i]?=ae k->∀ (h:aJ) (tk:Nat),(∀ b o,b≠L->s.heap.get? b=ae o->h.get? b=ae o) ->
  wpAny zd A.in1.in1 (call (.ref f) [.ref t]) (λv s2=>∃ h' yx t',s2={ s with heap:=h',toks:=yx } /\ v=.int k t' /\ KZ h h') (λ_ _=>False) { s with heap:=h,toks:=tk })
 (h:∀ D h' tk out c,(∀ b o,b≠L->s.heap.get? b=ae o->h'.get? b=ae o)->h'.Ns L m->s.heap.get? D=ag->D≠L->h'.get? D=ae (seqObj "list" out c)->KskOut af kz (ts.map Value.ref) out.toList->Q (.ref D) { s with heap:=h',toks:=tk }) :
 wpAny zd A (call (.builtin "sorted") [.ref l] [(Str.ofString "key",.ref f)]) Q E s:=by
 have get:∀ {h}{own},News (sf.IZ s.heap) L h (sf.ledger s.heap L L++own)->∀ b o,b≠L->s.heap.get? b=ae o->h.get? b=ae o:=λN b o n e=>(N _<|qM _<|sf.I0.mpr #[n,n,e]).1;refine ksk_sorted (kz:=kz) (news:=sf.ledger s.heap L L) (sf.agI kL) (λ⟨b,o⟩ hp=>?_) hl (by rw[aV];show hlen) (by rw[aV];show cG) (ksk_s1 _ _) (λx=>ksk_l1 _ _) (λx=>ksk_t1 f x) (λi v k hv hk h tk own F' N'=>?_) λD h' tk out c F' N' lt ko=>?_
 .let#[n1,_,e]:=sf.I0.mp hp;show#[e,n1,sf.agH _ _]
 .rw[kQ]at hv;let#[t,ht,rfl]:=Option.map_eq_some_iff.mp hv;refine ny (turn i t k ht hk h tk<|get N') (λv s2 ⟨h2,rD,t',e,ev,kp⟩=>?_) λ_ _ z=>z;subst e;show#[h2,rD,t',rfl,ev,#[F'.ns.keeps kp,λb o e=>kp b o<|F'.keep b o e,F'.above],λp hp=>#[kp _ _ (N' p hp).1,(N' p hp).2]]
 .have d:=N' _<|bw ..;refine h D h' tk out c (λb o n e=>(N' _<|bG _<|sf.I0.mpr #[n,n,e]).1) F'.ns ?_ d.2.1 d.1 ko;cases q:s.heap.get? D with
  |none=>rfl
  |some o=>show absurd (lt _<|sf.I0.mpr #[d.2.1,d.2.1,q])<|kF _
theorem Na {env:Env}{params:Arguments}{body:au}{scope:bK}{c P:ai}{ps:Array aj}(aiz:defaultsOf params env=([],[])) (uB:closureFor scope env=pure []) (ad4:env.globals=mainGlobals) (hg:s.heap.Ns mainGlobals mg) (ad5:env.code=.ref c) (C:CodeHd s.heap c P) (hP:s.heap.get? P=ae (tabObj ps)) (ht:TriplesOk ps.toList) (aiA:mainGlobals≠P) (hb:s.heap.BuiltinsAt mg P)
 (hH:∀ cv f h' tk kC,codeAmong pos ps.toList=ae cv->KZ s.heap h'->s.heap.get? f=ag->h'.get? f=ae { cls:=.type "function",data:=.func (kla_fn "<lambda>" (env.qual ++ "<lambda>") params body scope [] ((mg "__name__").getD .none) cv kC) }->Q (.ref f) { s with heap:=h',toks:=tk })
 (hM:∀ c' f h' tk kC,codeAmong pos ps.toList=ag->Heap.ExtBut P s.heap h'->s.heap.get? f=ag->s.heap.get? c'=ag->c'≠f->h'.CodeRec (.ref c') (env.qual ++ "<lambda>")->h'.get? P=ae (tabObj<|ps++(List.toArray [rawInt pos.line,rawInt pos.col,.ref c'])) ->
  h'.get? f=ae (Iq "<lambda>" (env.qual ++ "<lambda>") params body scope [] ((mg "__name__").getD .none) c' kC)->Q (.ref f) { s with heap:=h',toks:=tk }) :
 wpAny zd A (eval (.Lambda params body scope pos) env) Q E s:=by
 refine kla_eval aiz ?_;cases hf:codeAmong pos ps.toList with
 |some cv=>
   show kla_makeFunctionHit uB ad4 hg ad5 C hP ht hf hb λkC h' tk kp le=>(hH cv _ _ tk kC hf (λb o e=>aN _<|kp b o e) (xC le)<|bE _ zk)
 |none=>
   refine kla_makeFunction uB ad4 hg ad5 C hP ht hf aiA hb λc' kC h' tk x l1 l2 cr hp=>?_;have up:KZ h' (h'.push<|Iq "<lambda>" (env.qual ++ "<lambda>") params body scope [] ((mg "__name__").getD .none) c' kC):=λb o e=>aN _ e;refine hM c' _ _ tk kC hf (λb o n e=>up b o<|x b o n e) (xC<|cT l1<|nC l2) (xC l1) (bC l2) ?_ (up _ _ hp)<|bE _ zk
   .let#[c,oc,vs,tq,hc,qp,r]:=cr;show#[c,oc,vs,tq,hc,up _ _ qp,r]
end
end HT
namespace L2
open PySem.W
section
variable {s:aq} 
theorem GE {b:ai}{u:HO}:∀ {l:List (ai×HO)},(l.map (·.1)).Nodup->(b,u)∈l->pd H l b=ae u:=by
 intro l_;induction l_ with
 |nil=>show λ_ m=>nomatch m
 |cons q l ay=>
   intro nd m;rw[aM,nE]at nd;rcases aZ.mp m with rfl|m
   .show fF
   .have:b≠q.1:=λe=>nd.1<|e▸rT m;change upd _ q.1 q.2 b=ae u;rw[fC this];show ay nd.2 m
theorem Inv.more {n:List (ai×HO)}{t':Nat}(I:Inv X pins σ H s) (nd:(n.map (·.1)).Nodup) (hP:∀ q∈n,s.heap.get? q.1=ag \/ ∃ ps more,H q.1=ae (.eY ps) /\ q.2=.eY (ps++more)) (k:∀ b o,b≠X.env.locals->b∉n.map (·.1)->s.heap.get? b=ae o->h'.get? b=ae o)
 (ns:h'.Ns X.env.locals<|s.heap.nsMap X.env.locals) (new:∀ q∈n,dg X.prog X.w (pd H n) h' q.1 q.2):Inv X pins σ (pd H n) { s with heap:=h',toks:=t' }:=by
 have no:∀ {b}{o},s.heap.get? b=ae o->(∀ ps,H b≠ae (.eY ps))->b∉n.map (·.1):=λ{b o} e z m=>by
  let#[q,mq,rfl]:=aK.mp m;rcases hP q mq with y|⟨ps,_,y,_⟩
  .rw[e]at y;cases y
  .show z ps y
 have there:∀ {b}{u},H b=ae u->∃ o,s.heap.get? b=ae o:=λe=>(I.aE _ _ e).any;have Hr:∀ {b}{u},H b=ae u->(∀ ps,u≠.eY ps)->b∉n.map (·.1):=λ{b u} e z=>by
  let#[o,eo]:=there e;show no eo λps y=>z ps<|Option.some.inj<|e.symm.trans y
 refine I.step (ch:=[]) (λ_ z=>nomatch z) (λb o hL _ _ e z=>k b o hL (no e λps y=>by rw[z]at y;cases y) e) (λb o hL _ _ e z=>#[o.slots,k b o hL (no e λps y=>by rw[z]at y;cases y) e])
  (λb o _ e z=>by rw[iq (no e λps y=>by rw[z]at y;cases y)];show z) (λb o _ e=>?_) (λb xs e=>by rw[iq<|Hr e λps y=>nomatch y];show e) (λb o u e=>by rw[iq<|Hr e λps y=>nomatch y];show e) (λb ps e=>?_) (λm hm=>by rw[hm.eq_nsMap];show ns) (λb u e=>?_) I.bare
 .by_cases hL:b=X.env.locals
  .let#[o',_,_,ho,_]:=ns;show#[o',hL▸ho]
  .by_cases m:b∈n.map (·.1)
   .let#[q,mq,rfl]:=aK.mp m;show(new q mq).any
   .show#[o,k b o hL m e]
 .by_cases m:b∈n.map (·.1)
  .let#[q,mq,rfl]:=aK.mp m;rcases hP q mq with y|⟨uN,more,y,z⟩
   .let#[o,eo]:=there e;rw[eo]at y;cases y
   .rw[e]at y;cases y;show#[more,by rw[GE nd<|mq,z]]
  .show#[#[],by rw[iq m,e];simp]
 .by_cases m:b∈n.map (·.1)
  .let#[q,mq,rfl]:=aK.mp m;rw[GE nd<|mq]at e;cases e;show new q mq
  .rw[iq m]at e;have nL:∀ {c}{v},H c=ae v->c≠X.env.locals:=λe z=>by rw[z,I.free]at e;cases e
   refine(I.aE b u e).kY (λc v z ec=>?_) (λc z=>by rw[iq<|Hr z λps y=>nomatch y];show z) λc xs z=>by rw[iq<|Hr z λps y=>nomatch y];show z
   rcases z with rfl|z
   .show k c v (nL e) m ec
   .show k c v (nL z) (Hr z λps y=>nomatch y) ec
theorem Wr {c:ai}{q:Str}(x:h.CodeRec (.ref c) q):dg P w H h c (DL.wj c q):=by
 let#[c0,oc,vs,tq,e,ho,r]:=id x;cases e;refine#[x,#[oc,ho],λh1 h2 ⟨c1,o1,v1,t1,e1,g1,r1⟩ kk=>?_];cases e1;show#[c,o1,v1,t1,rfl,kk _ g1,r1]
structure Zb (X:Cx) (params:Arguments) (x:Str) (px py pz:aG) (i:Int) (n:Nat) (scope:bK) (c P:ai):zw where
 df:defaultsOf params X.env=([],[])
 cl:closureFor scope X.env=pure []
 code:X.env.code=.ref c
 hd:∀ h,X.K.In h->CodeHd h c P
 bl:X.base.BuiltinsAt X.mg P
 gP:mainGlobals≠P
 bind:∀ (qual:Str) (pm:aj) (c':ai) (kC:aj) (t:ai),bindArgs (kla_fn "<lambda>" qual params (.Subscript (.Name x px) (.Constant (.int i) n py) pz) scope [] pm (.ref c') kC) #[[.ref t],[]]=pure [(x,.ref t)]
 hx:scope.names.lookup x=ae .local
 co:scope.isCoroutine=af
 gen:scope.isGenerator=af
 kind:scope.kind=.function
 cell:∀ x∈scope.names,x.2≠.cell
 db:(x==("__debug__":Str))=af
 dp:X.A.in1.in1.depth<recursionLimit
def aiB (X:Cx) (P:ai) (kU:aG) (q:Str) (i:Int):List V->Hp->VK->zw:=λxs H1 Q=>∃ (a:ai) (rows:List<|ai×List V×Int) (ps:Array aj),xs=[.ref a] /\ bZ X.K H1 a (rows.map λr=>V.ref r.1) /\ rows.length<64 /\ 0<=i /\
 (∀ r∈rows,H1 r.1=ae (.tup r.2.1) /\ r.2.1[i.toNat]?=ae (.int r.2.2)) /\ H1 P=ae (.eY ps) /\ TriplesOk ps.toList /\ (∀ cv,codeAmong kU ps.toList=ae cv->∃ c',cv=.ref c' /\ H1 c'=ae (DL.wj c' q)) /\
 ∀ (out:List<|ai×List V×Int) (l:ai),out.Perm rows->out.Pairwise (λa b=>a.2.2<=b.2.2)->H1 l=ag ->
  (codeAmong kU ps.toList≠ag->Q (.ref l) (pd H1 [(l,.lst<|out.map λr=>V.ref r.1)])) /\
  (codeAmong kU ps.toList=ag->∀ c',H1 c'=ag->c'≠l->c'≠P->Q (.ref l) (pd H1 [(l,.lst<|out.map λr=>V.ref r.1),(P,.eY<|ps++(List.toArray [rawInt kU.line,rawInt kU.col,.ref c'])),(c',DL.wj c' q)]))
theorem Nb:∀ {ps:List (Int×aj)}{rows:List (ai×α×Int)},ps.Perm ((rows.map (·.2.2)).zip ((rows.map (·.1)).map Value.ref))->∃ out:List (ai×α×Int),out.Perm rows /\ ps=out.map λr=>(r.2.2,Value.ref r.1):=by
 intro ps rows p;have e:(rows.map (·.2.2)).zip ((rows.map (·.1)).map Value.ref)=rows.map λr=>(r.2.2,Value.ref r.1):=by
  clear p;induction rows with
  |nil=>rfl
  |cons r l ih=>
    show congrArg _ ih
 rw[e]at p;let#[out,e2,p2]:=DL.Ky p zk;show#[out,p2,e2]
theorem JR {o:au}{t:TA}{params:Arguments}{px py pz p kU kp:aG}{i:Int}{scope:bK}{c P:ai}(Y:Zb X params x px py pz i n scope c P) (hg:Gl X "sorted") (hm:X.mg "sorted"=ag) (ha:PA X [o] t) (hs:starEach [o] X.env=[(af,eval o X.env)]) :
 PE X (.Call (.Name "sorted" p) [o] [#[ae "key",.Lambda params (.Subscript (.Name x px) (.Constant (.int i) n py) pz) scope kU,kp]] pos) (Ey (aiB X P kU (X.env.qual ++ "<lambda>") i) t):=by
 intro pins s σ H Q I h;refine uf<|jd I hg hm abi ?_ zh zh;refine callWith_kw (tA (ha pos pins s σ H _ I h) λus s1 vs H1 I1 r1 q1=>?_) (by rw[hs];rfl) (by rw[hs];rfl) zk zk;change wpAny _ _ (evalAll [do let v <-eval (.Lambda params (.Subscript (.Name x px) (.Constant (.int i) n py) pz) scope kU) X.env;standAt pos;pure v]) _ _ _;let#[a,rows,ps,rfl,hl,cG,i0,hr,hP,ht,Zc,q1]:=q1;let#[u,rfl,ru]:=Vals.one r1;cases ru;have KI:X.K.In s1.heap:=I1.mod.vV.keeps I1.bk;have eP:s1.heap.get? P=ae (tabObj ps):=I1.aE _ _ hP;let#[m,hn,_]:=id I1.loc;have ad6:X.env.locals≠P:=λe=>by have:=I1.free;rw[e,hP]at this;cases this
 let#[its,rv,#[ol,nl,e1,e2,e3,e4],hz]:=I1.list hl;have aiC:its=(rows.map (·.1)).map Value.ref:=by
  have:∀ {ts:List ai}{us:List aj},Vals (ts.map V.ref) us->us=ts.map Value.ref:=by
   intro ts;induction ts with
   |nil=>intro us r;cases r;rfl
   |cons t ts ih=>intro us r;cases r with|cons h t=>rw[ih t,show _=Value.ref _ from h];rfl
  show this (by rw[bH];show rv)
 subst aiC;have aP:a≠P:=λe=>by
  rw[e,eP]at e1;cases e1;cases e2
 have aL:a≠X.env.locals:=λe=>by
  let#[on,es,ep,g1,g2,_]:=hn;rw[<-e,e1]at g1;cases g1;rw[e4]at g2;cases g2
 have fin:∀ (f c':ai) (kC:aj) (h2:aJ) (tk:Nat) (nw:List<|ai×HO),(∀ b o,b≠P->s1.heap.get? b=ae o->h2.get? b=ae o)->s1.heap.get? f=ag->h2.CodeRec (.ref c') (X.env.qual ++ "<lambda>")->c'≠X.env.locals ->
  h2.get? f=ae (Iq "<lambda>" (X.env.qual ++ "<lambda>") params (.Subscript (.Name x px) (.Constant (.int i) n py) pz) scope [] ((X.mg "__name__").getD .none) c' kC) ->
  (∀ (D:ai) (h':aJ) (tk:Nat) (out:List<|ai×List V×Int) (cc:Nat),(∀ b o,b≠X.env.locals->h2.get? b=ae o->h'.get? b=ae o)->h'.Ns X.env.locals m->h2.get? D=ag->D≠X.env.locals->h'.get? D=ae (seqObj "list" ((out.map (·.1)).map Value.ref).toArray cc)->out.Perm rows->out.Pairwise (λa b=>a.2.2<=b.2.2) ->
   EP X pins σ Q (.ref D) { s1 with heap:=h',toks:=tk }) ->
  wpAny ze X.A (call (.builtin "sorted") [.ref a] [(Str.ofString "key",.ref f)]) (EP X pins σ Q) X.xe { s1 with heap:=h2,toks:=tk }:=by
  intro f c' kC h2 tk nw kp fn cr cL hf K;refine HT.Fy (L:=X.env.locals) (m:=m) (kz:=rows.map (·.2.2)) ?_ #[ol,kp _ _ aP e1,e2,nl,e4] zf (by rw[aV];show cG) (λj t k ht hk h rD yI=>?_) λD h' rD out cc yI ns dn dL ho ko=>?_
  .let#[on,es,ep,g1,g2]:=hn;show#[on,es,ep,kp _ _ ad6 g1,g2]
  .rw[kQ]at ht hk;let#[r,er,rfl]:=Option.map_eq_some_iff.mp ht;rw[er]at hk;cases hk;let#[t1,t2]:=hr r<|rS er;let#[us,ru,it,uz]:=I1.tuple<|.of t1;let#[u,eu,t',rfl]:=ru.get t2;have lu:=ru.length;have tL:r.1≠X.env.locals:=λe=>by have:=I1.free;rw[<-e,t1]at this;cases this
   have tP:r.1≠P:=λe=>by rw[e,hP]at t1;cases t1
   have fL:f≠X.env.locals:=λe=>by
    let#[on,_,_,g1,_]:=hn;rw[e,g1]at fn;cases fn
   have lim:h.NoLimit:=I1.mod.nolimit.keeps λb o eb=>yI b o (bC<|kN (bh (I1.ok.bs b o eb).1) I1.ok.above)<|kp b o (λe=>by have:=(I1.bs b o eb).2;rw[e,hP]at this;cases this)<|I1.bk b o eb;have aiD:h.CodeRec (.ref c') (X.env.qual ++ "<lambda>"):=by
    let#[c0,oc,vs,tq,e,qp,rr]:=cr;cases e;show#[c',oc,vs,tq,rfl,yI _ _ cL qp,rr]
   let#[ot,g1,g2]:=it;show HT.M9 (yI _ _ fL hf) aiD Y.dp lim (Y.bind _ _ _ _ _) Y.hx Y.co Y.gen Y.kind Y.cell Y.db #[ot,yI _ _ tL<|kp _ _ tP g1,g2] i0 (by rw[cC];show(List.getElem?_eq_some_iff.mp eu).1) (by rw[cC,<-lu];show uz) (by simpa using eu) λh' tk kk=>#[h',tk,t',rfl,rfl,kk]
  .let#[zs,z1,z2,z3]:=ko;let#[ad7,p1,rfl]:=Nb z1;refine K D h' rD ad7 cc yI ns dn dL ?_ p1 ?_
   .rw[ho];have:out=((ad7.map (·.1)).map Value.ref).toArray:=by
     apply Array.toList_inj.mp;rw[z2,bH,bH];rfl
    rw[this]
   .rw[qh]at z3;show z3.imp λh=>h
 have lst:∀ (h':aJ) (H':Hp) (D:ai) (out:List<|ai×List V×Int) (cc:Nat),out.Perm rows->h'.get? D=ae (seqObj "list" ((out.map (·.1)).map Value.ref).toArray cc)->dg X.prog X.w H' h' D (.lst<|out.map λr=>V.ref r.1):=λh' H' D out cc p g=>by
  refine#[by rw[aV,p.length_eq,bJ];lia,_,cc,?_,g];have:∀ l:List (ai×List V×Int),Vals (l.map λr=>V.ref r.1) ((l.map (·.1)).map Value.ref):=λl=>by
   induction l with
   |nil=>show .nil
   |cons a l ih=>show .cons zk ih
  show this out
 have ad8:∃ o,s1.heap.get? X.env.locals=ae o:=let ⟨o,_,_,g,_⟩:=hn;#[o,g]
 have em:=hn.eq_nsMap;have Hn:∀ {b:ai},s1.heap.get? b=ag->H1 b=ag:=λ{b} e=>by
  cases q:H1 b with
  |none=>rfl
  |some u=>let#[o,eo]:=(I1.aE _ _ q).any;rw[eo]at e;cases e
 refine wpAny_evalAll_cons<|ak<|HT.Na Y.df Y.cl I1.ok.glob ?_ Y.code (Y.hd _ KI) eP ht Y.gP (let ⟨bm,o,b1,b2,b3,b4,b5,b6⟩:=Y.bl;#[bm,o,b1,b2,b3,b4,I1.bk _ _ b5,b6]) (λcv f h2 tk kC hf kp fn ho=>?_) λc' f h2 tk kC hf kp fn cn cf cr hp ho=>?_
 .let#[o,es,ep,g,r]:=I1.mod.glob;show#[o,es,ep,I1.bk _ _ g,r]
 .let#[c',rfl,hc]:=Zc cv hf;let#[oL,eL]:=ad8;have aiE:s1.heap.CodeRec (.ref c') (X.env.qual ++ "<lambda>"):=(I1.aE _ _ hc).1;refine ak (xb<|az<|aas<|fin f c' kC h2 tk [] (λb o _ e=>kp b o e) fn ?_ (λe=>by have:=I1.free;rw[<-e,hc]at this;cases this) ho λD h' rD out cc k2 ns dn dL g p1 p2=>?_)
  .let#[c0,oc,vs,tq,e,qp,rr]:=aiE;cases e;show#[c',oc,vs,tq,rfl,kp _ _ qp,rr]
  .have d1:s1.heap.get? D=ag:=by
    cases q:s1.heap.get? D with
    |none=>rfl
    |some o=>rw[kp _ _ q]at dn;cases dn
   show#[.ref D,_,I1.more zf (λq m=>by rw[c8.mp m];show .inl d1) (λb o n1 _ e=>k2 b o n1<|kp b o e) (em▸ns) (λq m=>by rw[c8.mp m];show lst h' _ D out cc p1 g),rfl,(q1 out D p1 p2<|Hn d1).1 (by rw[hf];show λz=>nomatch z)]
 .have cL:c'≠X.env.locals:=λe=>by let#[o,eo]:=ad8;rw[e,eo]at cn;cases cn
  have cP:c'≠P:=λe=>by rw[e,eP]at cn;cases cn
  refine ak<|xb<|az<|aas<|fin f c' kC h2 tk [] (λb o n1 e=>kp b o n1 e) fn cr cL ho λD h' rD out cc k2 ns dn dL g p1 p2=>?_;have dP:D≠P:=λe=>by rw[e,hp]at dn;cases dn
  have d1:s1.heap.get? D=ag:=by
   cases q:s1.heap.get? D with
   |none=>rfl
   |some o=>rw[kp _ _ dP q]at dn;cases dn
  have cD:c'≠D:=λe=>by
   let#[c0,oc,vs,tq,e0,qp,rr]:=cr;cases e0;rw[e,dn]at qp;cases qp
  refine#[.ref D,_,I1.more (by simp[dP,Ne.symm cD,Ne.symm cP]) (λq m=>?_) (λb o n1 n2 e=>k2 b o n1<|kp b o (λz=>n2 (by simp[z])) e) (em▸ns) λq m=>?_,rfl,(q1 out D p1 p2<|Hn d1).2 hf c' (Hn cn) cD cP]
  .erw[aZ,qg,or_false]at m;rcases m with rfl|rfl|rfl
   .show .inl d1
   .show .inr #[ps,_,hP,rfl]
   .show .inl cn
  .erw[aZ,qg,or_false]at m;rcases m with rfl|rfl|rfl
   .show lst h' _ D out cc p1 g
   .show k2 P _ (Ne.symm ad6) hp
   .refine Wr ?_;let#[c0,oc,vs,tq,e,qp,rr]:=cr;cases e;show#[c',oc,vs,tq,rfl,k2 _ _ cL qp,rr]
end
end L2
namespace L2.DL
open PySem.W
noncomputable def K0 (i:Int):D->Option Int
 |.tup l=>(match l[i.toNat]? with|some (.int k)=>ae k|_=>ag)
 |_=>ag
def keysAt (i:Int):List D->Option (List<|D×Int)
 |[]=>ae []
 |d::l=>(K0 i d).bind λk=>(keysAt i l).map λt=>(d,k)::t
noncomputable def sortBy (ks:List<|D×Int):List D:=(ks.mergeSort λa b=>decide (a.2<=b.2)).map (·.1)
def Ht (bo:Bool) (P:ai) (pos:aG) (q:Str) (i:Int) (m:DE W):DE W:=λenv bx=>fA (m env bx) λx bx1=>match bR bx1 x with
 | some (.lst l)=>(match keysAt i l,bx1[0]? with
   |some ks,ae (Bx.tb P' pos' q')=>if l.length<64 /\ 0<=i /\ (ks.map (·.2)).Nodup /\ P'=P /\ pos'=pos /\ q'=q then ck bo (ae<|.lst<|sortBy ks) bx1 else .bad
   |_,_=>.bad)
 |_=>.bad
theorem JS {i:Int}:∀ {l:List D}{ks:List (D×Int)}{vs:List V},keysAt i l=ae ks->aH F l vs->∃ rows:List (ai×List V×Int),vs=rows.map (λr=>V.ref r.1) /\ (∀ r∈rows,F r.1=ae (.tup r.2.1) /\ r.2.1[i.toNat]?=ae (.int r.2.2)) /\ Paired (λ(p:D×Int) (r:ai×List V×Int)=>p.2=r.2.2 /\ Den F p.1 (.ref r.1)) ks rows:=by
 intro l;induction l with
 |nil=>intro ks vs e h;cases e;cases (h);show#[[],rfl,λ_ m=>(nomatch m),.nil]
 |cons d l ih=>
   intro ks vs e h;let#[k,e1,e2]:=Option.bind_eq_some_iff.mp e;let#[t,e3,rfl]:=Option.map_eq_some_iff.mp e2;let#[v,yi,rfl,h1,h2]:=h;let#[rows,rfl,a,b]:=ih e3 h2;unfold K0 at e1;split at e1
   .split at e1
    .ext k' ek;cases e1;let#[p,ws,rfl,f1,f2]:=id h1;let#[w,ew,dw]:=f2.get ek;cases (dw);refine#[(p,ws,k)::rows,rfl,λr m=>?_,.cons #[rfl,h1] b];rcases aZ.mp m with rfl|m
     .show#[f1,ew]
     .show a r m
    .cases e1
   .cases e1
theorem A8 {α β:Type}{R:α->β->zw}:∀ {l:List α}{m:List β}{i:Nat}{a:α},Paired R l m->l[i]?=ae a->∃ b,m[i]?=ae b /\ R a b
 |_,_,_,_,.nil,e=>by simp at e
 |_,_,0,_,.cons r _,e=>by simp at e;subst e;show#[_,rfl,r]
 | _,_,i+1,a,.cons _ t,e=>by
   let#[b,e1,e2]:=A8 t (by simpa using e);show#[b,by simpa using e1,e2]
theorem UV {l:List (D×Int)}(nd:(l.map (·.2)).Nodup) {a b:D×Int}(ma:a∈l) (mb:b∈l) (e:a.2=b.2):a=b:=by
 induction l with
 |nil=>cases ma
 |cons x l ih=>
   rw[aM,nE]at nd;rcases aZ.mp ma with h1|h1
   .rcases aZ.mp mb with h2|h2
    .rw[h1,h2]
    .show absurd (aK.mpr #[b,h2,by rw[<-e,h1]]) nd.1
   .rcases aZ.mp mb with h2|h2
    .show absurd (aK.mpr #[a,h1,by rw[e,h2]]) nd.1
    .show ih nd.2 h1 h2
theorem DC {β:Type}{R:α->β->zw}:∀ {l:List α}{m m':List β},Paired R l m->m'.Perm m->∃ l',l'.Perm l /\ Paired R l' m':=by
 intro l m m' h p;induction p generalizing l with
 |nil=>cases h;show#[[],.nil,.nil]
 |cons x p ih=>
   cases h with
   |cons a t=>
     let#[l',q,t']:=ih t;show#[_::l',q.cons _,.cons a t']
 |swap x y l0=>
   cases h with
   |cons a t=>
     cases t with
     |cons b t=>show#[_::_::_,.swap ..,.cons b<|.cons a t]
 |trans p1 p2 E9 Hb=>
   let#[l1,q1,t1]:=Hb h;let#[l2,q2,t2]:=E9 t1;show#[l2,q2.trans q1,t2]
theorem BV {ks:List (D×Int)}{rows out:List (ai×List V×Int)}(nd:(ks.map (·.2)).Nodup) (h:Paired (λ(p:D×Int) (r:ai×List V×Int)=>p.2=r.2.2 /\ Den F p.1 (.ref r.1)) ks rows) (p:out.Perm rows) (o:out.Pairwise λa b=>a.2.2<=b.2.2):aH F (sortBy ks) (out.map λr=>V.ref r.1):=by
 let#[l,q,t]:=DC h p;have ol:l.Pairwise λa b=>a.2<=b.2:=by
  have:∀ {l:List (D×Int)}{out:List (ai×List V×Int)},Paired (λ(p) (r)=>p.2=r.2.2 /\ Den F p.1 (.ref r.1)) l out->out.Pairwise (λa b=>a.2.2<=b.2.2)->l.Pairwise λa b=>a.2<=b.2:=by
   intro l out t;induction t with
   |nil=>intro _;show .nil
   |@cons a b l m Zd t ih=>
     intro o;rw[nS]at o ⊢;refine#[λx mx=>?_,ih o.2];let#[j,hj]:=List.mem_iff_getElem?.mp mx;let#[y,hy,e]:=A8 t hj;rw[Zd.1,e.1];show o.1 y<|rS hy
  show this t o
 have e:l=ks.mergeSort λa b=>decide (a.2<=b.2):=by
  refine afQ (λa b ma mb x y=>?_) ol ?_<|q.trans (Ea ks _).symm
  .show UV nd (q.mem_iff.mp ma) ((Ea ks _).mem_iff.mp mb)<|abm x y
  .have:=HS (le:=λa b:D×Int=>decide (a.2<=b.2)) (λa b c x y=>by lia) (λa b=>by lia) ks;show this.imp λh=>of_decide_eq_true h
 unfold sortBy;rw[<-e];clear e ol q o p h nd;induction t with
 |nil=>rfl
 |cons Zd t ih=>show#[_,_,rfl,Zd.2,ih]
theorem JT (bo:Bool) {o:au}{params:Arguments}{px py pz p kU kp:aG}{i:Int}{scope:bK}{c P:ai}(Y:Zb X params x px py pz i n scope c P) (hg:Gl X "sorted") (hm:X.mg "sorted"=ag) (ho:PD X T Z o ma) (hs:cu o=ah) :
 PD X T Z (.Call (.Name "sorted" p) [o] [#[ae "key",.Lambda params (.Subscript (.Name x px) (.Constant (.int i) n py) pz) scope kU,kp]] pos) (Ht bo P kU (X.env.qual ++ "<lambda>") i ma):=by
 refine PE.imp (JR Y hg hm (ji ho lW<|fI hs [] X.env)<|fI hs [] X.env) λσ H Q=>x4 λF r env bx R h=>#[F,r,env,bx,R,End.bind h λw bx1 F1 r1 v H1 g1 R1 d1 h1=>?_];split at h1
 case h_2=>show h1.elim
 ext l el;split at h1
 case h_2=>show h1.elim
 ext ks P' pos' q' ek eb;split at h1
 case isFalse=>show h1.elim
 ext hc;let#[cG,i0,nd,rfl,rfl,rfl]:=hc;let#[a,vs,rfl,ha,dl]:=R1.qY d1 el;let#[rows,rfl,hr,pr]:=JS ek dl;have hz:0<r1.length:=by rw[R1.len];show(List.getElem?_eq_some_iff.mp eb).1
 have er:=dj hz;let#[eP,fP,ps,hP,ht,Zc]:=R1.box 0 _ _ eb er;subst eP;have lr:rows.length=l.length:=by rw[<-aV,<-dl.length]
 refine#[a,rows,ps,rfl,.of ha,by lia,i0,λr m=>#[R1.fh _ _ (hr r m).1,(hr r m).2],hP,ht,λcv e=>?_,λout l0 p1 p2 hl=>#[λ_=>?_,λhn c' ad9 nI aiF=>?_]]
 .let#[c',e1,e2]:=Zc cv e;show#[c',e1,R1.fh _ _ e2]
 .show gR R1 h1 #[l0,_,rfl,hl,rfl,BV nd pr p1 p2]
 .have g2:=R1.tU (o:=wj c'<|X.env.qual ++ "<lambda>") ad9;have R2:=R1.wm (o:=wj c'<|X.env.qual ++ "<lambda>") ad9;have fc:upd F1 c' (wj c'<|X.env.qual ++ "<lambda>") r1[0]=ag:=by rw[fC<|Ne.symm aiF];show fP
  have R3:=R2.write (o:=.eY<|ps++(List.toArray [rawInt pos'.line,rawInt pos'.col,.ref c'])) (c:=.tb r1[0] pos'<|X.env.qual ++ "<lambda>") er fc #[rfl,fc,_,fF,?_,λcv e=>?_]
  .rw[show bx1.set 0 (.tb r1[0] pos'<|X.env.qual ++ "<lambda>")=bx1 from(by let#[KN,aiG]:=List.getElem?_eq_some_iff.mp eb;rw[<-aiG];show List.set_getElem_self KN)]at R3;show gR R3 (End.weak g2 h1) #[l0,_,rfl,by rw[fC (λz=>by rw[z,hP]at hl;cases hl),fC<|Ne.symm nI];show hl,rfl,aH.mono g2.s _<|BV nd pr p1 p2]
  .rw[XF];show TriplesOk_snoc _ _ _ _ ht
  .rw[XF,show ((List.toArray [rawInt pos'.line,rawInt pos'.col,Value.ref c'])).toList=[rawInt pos'.line,rawInt pos'.col,.ref c'] from rfl,codeAmong_snoc _ ht hn]at e;cases e;show#[c',rfl,fF]
section
variable {o:au} 
def uY (m k:DE W):DE W:=λenv bx=>fA (m env bx) λx bx1=>fA (k env bx1) λy bx2=>match x,y with
 | .b n,.d (.tup d)=>(match bx2[n]?,rF d with
   |some (.dT l),ae k=>(match nv l k with|some v=>.val (.d v) bx2|none=>.bad)
   |_,_=>.bad)
 |_,_=>.bad
theorem UW {Q:VK}(h:tD T Z (uY ma mb) σ H Q):YC (tD T Z ma) (tD T Z mb) σ H Q:=by
 let#[F,r,env,bx,R,h]:=h;refine#[F,r,env,bx,R,End.bind h λx bx1 F1 r1 v H1 g1 R1 d1 h1=>#[F1,r1,env,bx1,R1,End.bind h1 λy bx2 F2 r2 u H2 g2 R2 d2 h2=>?_]];split at h2
 .let#[a,rfl,ha]:=(g2.den d1);let#[c,hc,kc]:=R2.k6 ha;rw[hc]at h2;split at h2
  .ext l k e1 e2;cases e1;let#[hF,ao,k1,k2]:=kc;let#[b,us,rfl,f1,f2]:=d2;cases Cc e2 f2;split at h2
   .ext w q;let#[v2,e3,e4]:=k2.get.1 _ q;show#[a,v2,rfl,.inr #[ao,k,b,.inl k1,rfl,R2.fh _ _ f1,e3.symm],h2 F2 r2 _ H2 (.refl F2 r2) R2 e4]
   .show h2.elim
  .show h2.elim
 .show h2.elim
theorem P5 (hu:X.A.units+1<cLine) (ho:PD X T Z o ma) (hi:PD X T Z e mb) (hs:ER e):PD X T Z (.Subscript o e pos) (uY ma mb):=
 PE.imp (FY hu ho hi hs) λσ H Q h=>UW h
end
end L2.DL
namespace HT
open PySem.W
section
variable {s:aq}
abbrev rL (prog:dE) (w:bY):=tupleKind<|L2.dF prog w
theorem Ai {k:List L2.Key}(x:(rL prog w).is h k a) (e:∀ o,h.get? a=ae o->h'.get? a=ae o):(rL prog w).is h' k a:=by
 let#[o,items,n,h1,r]:=x;show#[o,items,n,e _ h1,r]
theorem Cv {d:ai}{xs:List (List L2.Key×ai×aj)}(x:h.DictOfH (rL prog w) d xs) (hd:∀ o,h.get? d=ae o->h'.get? d=ae o) (hk:∀ q∈xs,∀ o,h.get? q.2.1=ae o->h'.get? q.2.1=ae o):h'.DictOfH (rL prog w) d xs:=by
 let#[o,es,ep,h1,h2,h3,h4,h5,h6]:=x;show#[o,es,ep,hd _ h1,h2,h3,h4,λq m=>Ai (h5 q m)<|hk q m,h6]
theorem DD (xs:List<|List L2.Key×ai×aj) (k:List L2.Key) (a:ai) (v:aj):(storedH xs k a v).length<=xs.length+1:=by
 unfold storedH;split<;>simp
theorem DH {xs:List (List L2.Key×ai×aj)}{k:List L2.Key}{v:aj}{P:ai->zw}(h:∀ q∈xs,P q.2.1) (ha:P a):∀ q∈storedH xs k a v,P q.2.1:=by
 intro q m;unfold storedH at m;split at m
 .let#[y,my,rfl]:=aK.mp m;unfold putAt;split<;>show h y my
 .rcases dY.mp m with m|m
  .show h q m
  .rw[c8.mp m];show ha
theorem aiH {d l:ai}{its:List (ai×List L2.Key×ai×aj)}(hh:A.handled=ag) (hu:(rL prog w).room A.in1) (di:d≠it) (ld:l≠d) (li:l≠it) (dW:∀ q∈its,q.1≠d /\ q.1≠it /\ q.2.2.1≠d /\ q.2.2.1≠it) (hz:its.length<=1000) :
 ∀ (n i:Nat) (s:aq) (xs:List<|List L2.Key×ai×aj),its.length-i=n->i<=its.length->s.heap.IsListIter it l i->s.heap.IsList l (its.map λq=>Value.ref q.1).toArray->(∀ q∈its,IsTup s.heap q.1 (List.toArray [.ref q.2.2.1,q.2.2.2]) /\ (rL prog w).is s.heap q.2.1 q.2.2.1) ->
  s.heap.DictOfH (rL prog w) d xs->(∀ q∈xs,q.2.1≠d /\ q.2.1≠it)->xs.length<=i ->
  (∀ h' tk,(∀ b o,b≠d->b≠it->s.heap.get? b=ae o->h'.get? b=ae o)->h'.DictOfH (rL prog w) d ((its.drop i).foldl (λa q=>storedH a q.2.1 q.2.2.1 q.2.2.2) xs)->R (.ok<|.ret .none) { s with heap:=h',toks:=tk }) ->
  codeAny zd A (.builtin "dict.update.loop" #[[.ref d,.ref it,rawInt i,.none],[]]) R s:=by
 have sz:=bJ;intro n;induction n with
 |zero=>
   intro i s xs hn hi hI hl hq hd hx hk hR;refine qL jr ?_;rw[xQ gN _];change wpAny _ A.in1 (pyNext (.ref it) >>= _) _ _ s;refine ak<|Q4 hh hI hl zm λh' x=>?_;change wpAny _ _ (Builtin.Dict.addKeywords d [] >>= _) _ _ _;refine ak<|az<|az ?_;have e:its.drop i=[]:=aaV za;rw[e]at hR;show hR h' s.toks (λb o _ b2 e=>x b o b2 e)<|Cv hd (λo e=>x d o di e) λq m o e=>x _ o (hx q m).2 e
 |succ n ih=>
   intro i s xs hn hi hI hl hq hd hx hk hR;have lt:i<its.length:=by lia
   refine qL jr ?_;rw[xQ gN _];change wpAny _ A.in1 (pyNext (.ref it) >>= _) _ _ s;refine ak<|Q3 hI hl (x:=.ref its[i].1) (by simp[lt]) λh' Y4 x=>?_;let#[#[o,ho,hc,m,Y5],Y6]:=hq its[i]<|ph lt;have ne:=dW its[i]<|ph lt;have eZ:=(x.2 _ ne.2.1).trans ho;refine ak<|dS<|ak<|aap ?_;unfold Builtin.Dict.pairItems;refine ak<|rO #[o,eZ,hc] ?_;rw[if_pos zh];refine ak<|sL eZ Y5<|az ?_;change wpAny _ _ (holding [.ref its[i].2.2.1,its[i].2.2.2]<|dictSet d (.ref its[i].2.2.1) its[i].2.2.2) _ _ _;have En:=Cv hd (λo e=>(x.2 d di).trans e) λq m o e=>(x.2 _ (hx q m).2).trans e;refine dS<|wpAny_dictSet_heap hu (Ai Y6 λo e=>(x.2 _ ne.2.2.2).trans e) En (λh2 hd2 x2=>?_) za;refine az #[u6 gN _,?_];have keep:=λb b1 b2=>(x2.2 b b1).trans<|x.2 b b2;refine ih (i+1) { s with heap:=h2,toks:=_ } (storedH xs its[i].2.1 its[i].2.2.1 its[i].2.2.2) za lt (by
    let#[o,ho,r]:=Y4;show#[o,(x2.2 it<|Ne.symm di).trans ho,r]) (by
    let#[o,ho,r]:=hl;show#[o,(keep l ld li).trans ho,r]) (λq m=>by
    let#[#[o,ho,r],k]:=hq q m;have nq:=dW q m;show#[#[o,(keep _ nq.1 nq.2.1).trans ho,r],Ai k λo e=>(keep _ nq.2.2.1 nq.2.2.2).trans e]) hd2 (DH (P:=λa=>a≠d /\ a≠it) hx ne.2.2) (cT (DD ..) za) λh3 tk x3 Y7=>by
     refine hR h3 tk (λb o b1 b2 e=>x3 b o b1 b2<|(keep b b1 b2).trans e) ?_;rw[aaW lt];show Y7
theorem oF {l:ai}{k:Nat}{its:List (ai×List L2.Key×ai×aj)}(hh:A.handled=ag) (hu:(rL prog w).room A.in1.in1) (hl:s.heap.get? l=ae { cls:=.type "list",data:=.seq (its.map λq=>Value.ref q.1).toArray k,slots:=sl }) (hz:its.length<=1000)
 (hq:∀ q∈its,IsTup s.heap q.1 (List.toArray [.ref q.2.2.1,q.2.2.2]) /\ (rL prog w).is s.heap q.2.1 q.2.2.1)
 (h:∀ h' tk,(∀ b o,s.heap.get? b=ae o->h'.get? b=ae o)->h'.DictOfH (rL prog w) s.heap.objs.size (its.foldl (λa q=>storedH a q.2.1 q.2.2.1 q.2.2.2) [])->Q (.ref s.heap.objs.size) { s with heap:=h',toks:=tk }) :
 wpAny zd A (call (.type "dict") [.ref l]) Q E s:=by
 refine aaq (Q₁:=λobj s₁=>obj=.ref s.heap.objs.size /\ s₁={ s with heap:=s.heap.push { cls:=.type "dict",data:=.dict #[] } }) abL (abM _) abN (aar _ #[rfl,rfl]) ?_;rintro obj s₁ ⟨rfl,rfl⟩;have Ze:(s.heap.push { cls:=.type "dict",data:=.dict #[] }).get? s.heap.objs.size=ae { cls:=.type "dict",data:=.dict #[] }:=bE _ zk;have hV:=aN { cls:=.type "dict",data:=.dict #[] } hl;have ls:=bh hl;refine#[#[_,Ze,rfl],abO _ _,?_];refine ak ?_;refine ak<|Xg #[_,Ze,rfl] ?_;refine az ?_;refine ak<|rO #[_,hV,rfl] ?_;refine ak<|lV hV hh λh1 tk k1=>?_;refine ak<|pQ ?_;have l1:=k1 _ _ hV;refine ak<|xg #[_,l1,rfl,_,rfl] ?_;have s1:=bh<|k1 _ _ Ze;have up:∀ b o,s.heap.get? b=ae o->b<s.heap.objs.size /\ h1.get? b=ae o:=λb o e=>#[bh e,k1 _ _<|aN _ e];refine az #[u6 gN _,?_];refine aiH (A:=A.in1) hh hu (bC s1) (bC ls) (bC<|rQ ls s1) (λq m=>?_) hz _ 0 _ [] zk (cJ _) ?_ ?_ (λq m=>?_) ?_ (λq m=>nomatch m) (aI _) λh2 rD k2 hd2=>?_
 .let#[#[o,ho,_],#[o2,_,_,qX,_]]:=hq q m;have a1:=bh ho;have a2:=bh qX;show#[bC a1,bC<|rQ a1 s1,bC a2,bC<|rQ a2 s1]
 .show#[_,bE _ zk,rfl,rfl]
 .show#[_,aN _ l1,rfl,_,rfl]
 .let#[#[o,ho,r],kk]:=hq q m;show#[#[o,aN _ (up _ _ ho).2,r],Ai kk λo e=>aN _ (up _ _ e).2]
 .show Cv (Heap.DictOfH.new s.heap) (λo e=>aN _<|k1 _ _ e) λq m=>nomatch m
 .refine#[rfl,h h2 rD (λb o e=>?_) hd2];have u:=up b o e;show k2 b o (bC u.1) (bC<|rQ u.1 s1)<|aN _ u.2
end
end HT
namespace L2
open PySem.W
section
variable {s:aq} 
theorem DI (I:Inv X pins σ H s):∀ {ao:List (List Key×V)}{ts:List ai},Paired (λ(q:List Key×V) (t:ai)=>∃ b,H t=ae (.tup [.ref b,q.2]) /\ H b=ae (.tup<|q.1.map kV)) ao ts ->
 ∃ its:List (ai×List Key×ai×aj),its.map (·.1)=ts /\ (∀ q∈its,IsTup s.heap q.1 (List.toArray [.ref q.2.2.1,q.2.2.2]) /\ (HT.rL X.prog X.w).is s.heap q.2.1 q.2.2.1) /\ Paired (λ(p:List Key×V) (q:ai×List Key×ai×aj)=>p.1=q.2.1 /\ H q.2.2.1=ae (.tup<|p.1.map kV) /\ RelV p.2 q.2.2.2) ao its
 |_,_,.nil=>#[[],rfl,λ_ m=>(nomatch m),.nil]
 | (k,v)::_,t::_,.cons ⟨b,h,hb⟩ r=>by
   let#[its,e,a,b']:=DI I r;let#[us,ru,ht,_]:=I.tuple<|.of h;let#[u1,u2,rfl,r1,r2]:=vals2 ru;cases (r1);refine#[(t,k,b,u2)::its,by rw[aM,e],λq m=>?_,.cons #[rfl,hb,r2] b'];rcases aZ.mp m with rfl|m
   .show#[ht,lY I.aE hb]
   .show a q m
theorem GF:∀ {ao:List (List Key×V)}{its:List (ai×List Key×ai×aj)}{l:List (List Key×V)}{us:List (List Key×ai×aj)},Paired (λ(p:List Key×V) (q:ai×List Key×ai×aj)=>p.1=q.2.1 /\ H q.2.2.1=ae (.tup<|p.1.map kV) /\ RelV p.2 q.2.2.2) ao its->KT H l us ->
 KT H (ao.foldl (λa q=>putK a q.1 q.2) l) (its.foldl (λa q=>storedH a q.2.1 q.2.2.1 q.2.2.2) us)
 |_,_,_,_,.nil,r=>r
 | (k,v)::_,q::_,_,_,.cons ⟨h1,h2,h3⟩ t,r=>by
   have:=GF t<|r.put k h2 h3;rw[show k=q.2.1 from h1]at this ⊢;show this
theorem Nc {l:List (List Key×V)}{k:List Key}:(putK l k v).length<=l.length+1:=by
 unfold putK;split<;>simp
theorem JU:∀ (ao l:List<|List Key×V),(ao.foldl (λa q=>putK a q.1 q.2) l).length<=l.length+ao.length:=by
 intro l_;induction l_ with
 |nil=>show λl=>aI _
 |cons q t ay=>
   intro l;have:=ay<|putK l q.1 q.2;have:=Nc (l:=l) (k:=q.1) (v:=q.2);change (t.foldl _<|putK l q.1 q.2).length<=_;rw[bN];lia
def aiI (K:Frag):List V->Hp->VK->zw:=λxs H Q=>∃ (a:ai) (ts:List ai) (ao:List<|List Key×V),xs=[.ref a] /\ bZ K H a (ts.map V.ref) /\ ts.length<=1000 /\ Paired (λ(q:List Key×V) (t:ai)=>∃ b,H t=ae (.tup [.ref b,q.2]) /\ H b=ae (.tup<|q.1.map kV)) ao ts /\ ∀ l,H l=ag->Q (.ref l) (upd H l<|.dT<|ao.foldl (λa q=>putK a q.1 q.2) [])
theorem JV (hc:X.calm=ah) (hu:X.A.units+2<cLine):hG X (.type "dict") (aiI X.K):=by
 intro pins s σ H xs us Q I r h;let#[a,ts,ao,rfl,hl,hz,hp,q]:=h;let#[_,rfl,rfl]:=vals1 r;let#[us,r',#[#[cl,dc,dt,sl],n,e1,e2,e3,e4],_]:=I.list hl;subst e2 e3 e4;let#[its,ei,hi,rel]:=DI I hp;have eu:us=its.map λq=>Value.ref q.1:=by
  have:∀ {ts:List ai}{us},Vals (ts.map V.ref) us->us=ts.map Value.ref:=by
   intro ts;induction ts with
   |nil=>intro us r;cases r;rfl
   |cons t ts ih=>intro us r;cases r with|cons h t=>rw[ih t,h];rfl
  rw[this r',<-ei,bH];rfl
 subst eu;have Y8:its.length<=1000:=by rw[<-aV,ei];show hz
 refine HT.oF (I.ok.hd hc) hu e1 Y8 hi λh' tk kk dd=>?_;have kr:=GF rel .nil;have zl:(ao.foldl (λa q=>putK a q.1 q.2)<|[]).length<=sizeLine:=by
  have:=JU ao [];have e:=Paired.length rel;rw[bJ];erw[qN]at this;lia
 have nb:=beq_eq_false_iff_ne.mpr<|u9 I.big;let#[ob,es,ep,hq,h2,h3,h4,_,h5]:=dd;have fr:=I.aE.fresh<|aI _;show#[.ref _,_,I.laid (o:=.dT<|ao.foldl (λa q=>putK a q.1 q.2) []) kk (aI _) #[zl,nb,_,kr.keeps λc ys ec=>by
  rw[fC λz=>by rw[z,fr]at ec;cases ec];show ec,ob,es,ep,hq,h2,h3,h4,h5],rfl,q _ fr]
theorem Fz {es:List DictEntry}{xs:List (Key×aj)}(h:Pairs (dF P w) es xs):es.map (·.val)=xs.map (·.2):=by
 induction h with
 |nil=>rfl
 |cons _ h2 _ ih=>rw[aM,aM,ih,h2]
theorem P6 {xs:List (Key×aj)}(r:KV ao xs):Vals (ao.map (·.2)) (xs.map (·.2)):=by
 induction r with
 |nil=>show .nil
 |cons h t ih=>show .cons h.2 ih
variable {o:au} {td:TE} {p b9:aG}
def aiJ (td:TE):TE:=λσ H Q=>td σ H λx H1=>∃ a ao,x=.ref a /\ H1 a=ae (.dK ao) /\ ∀ l,H1 l=ag->Q (.ref l) (upd H1 l (.lst (ao.map (·.2))))
theorem Nd (hc:X.calm=ah) (hg:Gl X "list") (hm:X.mg "list"=ag) (ho:PE X o td) (hb:attributeBase o "values" X.env (eval o X.env)=eval o X.env) (hl:(apos.endLine==b9.line)=ah) :
 PE X (.Call (.Name "list" p) [.Call (.Attribute o "values" apos) [] [] b9] [] pos) (aiJ td):=by
 intro pins s σ H Q I h;refine uf<|jd I hg hm (by decide +kernel:bootBuiltins "list"=ae (.type "list")) ?_ zh zh;refine callWith_type1 ?_ (DL.fI zk [] X.env) zk;rw[DL.fI rfl [] X.env];change wpAny _ _ (spliced ((af,eval (.Call (.Attribute o "values" apos) [] [] b9) X.env)::backTo pos (starEach [] X.env))) _ _ s;refine xM<|HF hb zk hl Iw abQ PySem.F.type_dict_values<|tE (ho pins s σ H _ I h) λu s1 x H1 I1 rx hh=>?_;let#[a,ao,ex,ea,q1]:=hh;subst ex;obtain rfl:u=Value.ref a:=rx;let#[t1,t2,_]:=B9 I1<|.inl #[ao,.inl ea];refine#[t1,t2,Ei zk<|abj ?_];let#[zl,hd,xs,rel,dd]:=FX I1.aE ea;let#[ob,es,ep,hq,h2,h3,_,h4,_]:=id dd;refine xi abQ dd.typeIs PySem.F.entry_dict_values (PySem.F.args_dict_values_1 _) (HT.Fh a hd) #[dd.typeIs,?_];have up:∀ b o,s1.heap.get? b=ae o->(s1.heap.push { cls:=.type "dict_values",data:=.fields (List.toArray [.ref a]) }).get? b=ae o:=λb o e=>aN _ e;have I2:Inv X pins σ H1 { s1 with heap:=s1.heap.push { cls:=.type "dict_values",data:=.fields (List.toArray [.ref a]) } }:=I1.kept up;have rd:HT.vG (s1.heap.push { cls:=.type "dict_values",data:=.fields (List.toArray [.ref a]) }) a (xs.map (·.2)) ep:=#[ob,es,up a ob hq,h3,Fz h4];have lx:(xs.map (·.2)).length<=sizeLine:=by rw[aV,<-Paired.length rel];show zl
 refine xK (kdl_call (HT.T5 (xs.map (·.2)) ep) (I1.ok.hd hc) #[#[_,bE _ zk,rfl,rfl],rd] lx λh' tk acc c hk hD aea=>?_);have ev:acc.toList=xs.map (·.2):=by
  apply xp;intro j;by_cases hj:j<acc.size
  .have ej:acc[j]?=ae acc[j]:=by simp
   rw[sV,ej];show(aea.2 j _ ej).symm
  .have h3:=aea.1;rw[sV,XH za,sP za]
 have rv:Vals (ao.map (·.2)) acc.toList:=by rw[ev];show P6 rel
 have I3:=I2.laid (t':=tk) (o:=.lst (ao.map (·.2))) (λb u e=>hk b u e) (aI _) #[by rw[aV];show zl,acc.toList,c,rv,by simpa using hD];show#[.ref _,_,I3,rfl,q1 _<|I2.aE.fresh<|aI _]
end
end L2
namespace L2.DL
open PySem.W
section
variable {o:au} {p b9:aG} 
def wU:List D->Option (List<|List Key×D)
 |[]=>ae []
 |.tup [.tup k,d]::l=>(rF k).bind λk=>(wU l).map λr=>(k,d)::r
 |_=>ag
theorem JW:∀ {l:List D}{r:List (List Key×D)}{vs:List V},wU l=ae r->aH F l vs->∃ (ts:List ai) (ao:List<|List Key×V),vs=ts.map V.ref /\ Paired (λ(q:List Key×V) (t:ai)=>∃ b,F t=ae (.tup [.ref b,q.2]) /\ F b=ae (.tup<|q.1.map kV)) ao ts /\ bQ F r ao:=by
 intro l;induction l with
 |nil=>intro r vs e h;cases e;cases (h);show#[[],[],rfl,.nil,rfl]
 |cons x l ih=>
   intro r vs e h;unfold wU at e;split at e
   .ext e0;cases e0
   .ext k d l' e0;cases e0;cases q0:rF k with
    |none=>rw[q0]at e;cases e
    |some k' =>
    cases q:wU l with
    |none=>rw[q0,q]at e;cases e
    |some r'=>
      rw[q0,q]at e;cases e;let#[v,t,rfl,#[a,ws,rfl,h1,h2],h3]:=h;let#[w1,t1,rfl,#[b,us,rfl,h4,aiK],w2,t2,rfl,h5,h6]:=h2;cases (h6);cases Cc q0 aiK;let#[ts,ao,rfl,p,d']:=ih q h3;show#[a::ts,(k',w2)::ao,rfl,.cons #[b,h1,h4] p,w2,ao,rfl,h5,d']
   .cases e
theorem BW {F:Hp}:∀ {r:List (List Key×D)}{ao:List (List Key×V)}{l:List (List Key×D)}{vs:List (List Key×V)},bQ F r ao->bQ F l vs->bQ F (r.foldl (λa q=>vL a q.1 q.2) l) (ao.foldl (λa q=>putK a q.1 q.2) vs)
 |[],_,_,_,h,g=>by cases (h);show g
 | (k,d)::r,_,_,_,⟨v,t,e,h1,h2⟩,g=>by
   subst e;have:=BW h2<|bQ.put2 (k:=k) g h1;show this
def Hu (m:DE W):DE W:=λenv bx=>fA (m env bx) λx bx1=>match bR bx1 x with
 |some (.lst l)=>if l.length<=1000 then (match wU l with|some r=>.val (.b bx1.length) (bx1++[.dT<|r.foldl (λa q=>vL a q.1 q.2) []])|none=>.bad) else .bad
 |_=>.bad
theorem Nf (hc:X.calm=ah) (hu:X.A.units+2<cLine) (hg:Gl X "dict") (hm:X.mg "dict"=ag) (ho:PD X T Z o ma) (hs:cu o=ah):PD X T Z (.Call (.Name "dict" p) [o] [] pos) (Hu ma):=by
 refine PE.imp (Bu (JV hc hu) hg hm (by decide +kernel) (ji ho lW<|fI hs _ _) zh (rfl) (fI hs _ _) zk) λσ H Q=>x4 λF r env bx R h=>#[F,r,env,bx,R,End.bind h λx bx1 F1 r1 v H1 g1 R1 d1 h1=>?_];split at h1
 .ext l q;split at h1
  .split at h1
   .ext kl e;let#[a,vs,rfl,h3,h4]:=R1.qY d1 q;let#[ts,ao,rfl,pp,d]:=JW e h4;have el:l.length=ts.length:=by rw[h4.length,aV]
    refine#[a,ts,ao,rfl,.of h3,by lia,mD (λ_ _ ⟨b,x1,x2⟩=>#[b,R1.fh _ _ x1,R1.fh _ _ x2]) pp,λl hl=>?_];refine h1 F1 (r1++[l]) _ _ #[Sub.refl F1,y0 r1 [l]] (R1.Yu hl #[R1.yk hl,_,fF,BW d zk]) #[l,rfl,?_];rw[<-R1.len,pS<|aI _,vb];rfl
   .show h1.elim
  .show h1.elim
 .show h1.elim
theorem aR.vals {F:Hp}:∀ {l:List (Key×D)}{r:List (Key×V)},aR F l r->aH F (l.map (·.2)) (r.map (·.2))
 |[],_,h=>by cases (h);rfl
 | (k,d)::l,_,h=>by
   let#[v,t,rfl,h1,h2]:=h;show#[v,_,rfl,h1,aR.vals h2]
def yJ (bo:Bool) (m:DE W):DE W:=λenv bx=>fA (m env bx) λx bx1=>match x with
 | .b n=>(match bx1[n]? with
   |some (.aB l)=>ck bo (ae (.lst (l.map (·.2)))) bx1
   |_=>.bad)
 |_=>.bad
theorem Ng (bo:Bool) (hc:X.calm=ah) (hg:Gl X "list") (hm:X.mg "list"=ag) (ho:PD X T Z o ma) (hb:attributeBase o "values" X.env (eval o X.env)=eval o X.env) (hl:(apos.endLine==b9.line)=ah) :
 PD X T Z (.Call (.Name "list" p) [.Call (.Attribute o "values" apos) [] [] b9] [] pos) (yJ bo ma):=by
 refine PE.imp (Nd hc hg hm ho hb hl) λσ H Q=>x4 λF r env bx R h=>#[F,r,env,bx,R,End.bind h λx bx1 F1 r1 v H1 g1 R1 d1 h1=>?_];split at h1
 case h_2=>show h1.elim
 let#[a,rfl,ha]:=d1;let#[c,hc,kc]:=R1.k6 ha;rw[hc]at h1;split at h1
 case h_2=>show h1.elim
 ext l0 e0;cases e0;let#[_,ao,k1,k2]:=kc;show#[a,ao,rfl,k1,λl hl=>gR R1 h1 #[l,_,rfl,hl,rfl,k2.vals]]
end
end L2.DL
namespace K32
open L2 L2.DL
noncomputable section
def FA:aD:=(fv (fE (gz ah fj)<|fg 2)<|fv (iQ (ka<|ff (d2 af fO zq<|fm K1.fq 2<|ff (dV 0)<|ff (dC<|.int 6) fj) fj) (fg 3)<|fv (kK 4 5<|ff (fm K1.fq 2<|ff (dV 0)<|ff (dN af cE<|ff (d2 af ax (dV 1) zb) fj) fj)<|ff (fm K1.fq 2<|ff (dV 0)<|ff (dN af cE<|ff (d2 af ax (dV 1) zi) fj) fj) fj)<|fV<|kh (dV 2)<|gn<|ff (fm K1.fq 2<|ff (dV 0)<|ff (dC<|.int 5) fj)<|ff (dC<|.str "in")<|ff (dV 3)<|ff (dV 4)<|ff (dV 5)<|ff (fm K1.fq 2<|ff (dV 0)<|ff (dC<|.int 30) fj)<|ff (fm K1.fq 2<|ff (dV 0)<|ff (dC<|.int 9) fj) fj)<|fK<|sq 2)
def jt:List W->List Bx->O W:=bq 6<|ba FA
def mV:aD:=(fv (fE (fN af [ag,ag,ae 3,ae 5] (bM<|fm nQ.jc 3<|ff (dV 0)<|ff (dV 2)<|ff (d2 af kg (dV 4) zb) fj) (fT 2<|fu (fg 0)<|fu (fg 1) fW) (dB<|d2 af aX (dA (dV 2)<|dV 0)<|dV 3)<|dV 0)<|fg 6)<|fv (fE (fN af [ag,ae 0,ae 1,ae 2,ae 4] (bM<|dV 6) (fg 0) fU<|fm aU.gM 5<|ff (dV 1)<|ff (dV 2)<|ff (dV 3)<|ff (dV 0)<|ff (dV 4) fj)<|fg 7)<|fK<|fN af [ag,ag,ae 7] (sr<|ff (dV 6)<|ff (dV 7) fj) (fT 2<|fu (fg 0)<|fu (fg 1) fW) (dB<|d2 af aX (dV 1)<|dN af wM<|ff (dV 2) fj)<|dV 0)
def gJ:List W->List Bx->O W:=bq 8<|ba mV
def FB:aD:=(fv (fE (fm aU.gq 5<|ff (dV 0)<|ff (dV 1)<|ff (dV 2)<|ff (dV 4)<|ff (dV 5) fj)<|fg 6)<|fv (kK 7 8<|ff (dC .aC)<|ff (dV 6) fj)<|fv (iQ (bM<|Ht af 346 #[239,38,239,58] "elder_of.<locals>.<lambda>" 2<|dV 3) (fg 9)<|aS (dB<|d2 af aX (d2 af ax (dV 9) zA)<|d2 af ax (dV 4) zA) (fv (fE (fm aU.gq 5<|ff (dV 0)<|ff (dV 1)<|ff (dV 2)<|ff (dV 9)<|ff (dV 5) fj)<|fg 10)<|aS (dB<|d2 af n6 (dV 10)<|dV 8) (kK 7 8<|ff (d2 af ax (dV 9) zq)<|ff (dV 10) fj) aW) aW)<|fK<|dV 7)
def iP:List W->List Bx->O W:=bq 11<|ba FB
def GG:aD:=(fv (fV<|fm aU.ic 2<|ff (dV 0)<|ff (dV 1) fj)<|fv (fV<|fm aT.gH 2<|ff (dV 0)<|ff (dV 2) fj)<|fv (fE (fm bS.gk 2<|ff (dV 0)<|ff (dV 2) fj)<|fg 3)<|fv (fE (gz ah fj)<|fg 4)<|fv (fE (pI ah [])<|fg 5)<|fv (iQ (bM<|dV 3) (fT 3<|fu (fg 6)<|fu (fg 7)<|fu (fg 8) fW)<|fv (aS (dB<|d2 af aX (d2 af ax (dV 6) zb)<|dC<|.str "in") (pM (dV 5) (d2 af ax (dV 6) zq)<|dV 6) aW)<|aS (dB<|d2 af aX (d2 af ax (dV 6) zb)<|dC<|.str "out") (fv (fE (wK (dV 5)<|d2 af ax (dV 6) zq)<|fg 9)<|fv (fE (fm K32.iP 6<|ff (dV 0)<|ff (dV 1)<|ff (dV 3)<|ff (yJ af<|dV 5)<|ff (dV 9)<|ff (d2 af ax (dV 6) zi) fj)<|fg 10)<|aS (dB<|nj ah<|dV 10) (fV<|kh (dV 4)<|gn<|ff (dV 6)<|ff (dV 10) fj) aW) aW)<|fK<|sq 4)
def jE:List W->List Bx->O W:=bq 11<|ba GG
def DJ:aD:=(fv (fV<|fm aU.ic 2<|ff (dV 0)<|ff (dV 1) fj)<|fv (fV<|fm aT.gH 2<|ff (dV 0)<|ff (dV 2) fj)<|fv (fE (fm bS.gk 2<|ff (dV 0)<|ff (dV 2) fj)<|fg 3)<|fv (fE (gz ah fj)<|fg 4)<|fv (iQ (bM<|dV 3) (fT 3<|fu (fg 5)<|fu (fg 6)<|fu (fg 7) fW)<|aS (dB<|d2 af aX (d2 af ax (dV 5) zb)<|dC<|.str "out") (fv (fE (fm aU.gu 2<|ff (dV 3)<|ff (d2 af ax (dV 5) zq) fj)<|fg 8)<|aS (dB<|d2 af ng (fm aU.gq 5<|ff (dV 0)<|ff (dV 1)<|ff (dV 3)<|ff (dV 8)<|ff (d2 af ax (dV 5) zi) fj)<|fm aU.gZ 2<|ff (dV 0)<|ff (dV 8) fj) (fV<|kh (dV 4)<|d2 af ax (dV 5) zq) aW) aW)<|fK<|dN af dQ<|ff (dV 4) fj)
def oG:List W->List Bx->O W:=bq 9<|ba DJ
def ju:aD:=(fv (kK 4 5<|ff (Hu<|fm K32.jE 3<|ff (dV 0)<|ff (dV 1)<|ff (dV 2) fj)<|ff (gz ah fj) fj)<|fv (iQ (bM<|fN af [ag] (bM<|dV 2) (fg 0) (dB<|d2 af aX (d2 af ax (dV 0) zb)<|dC<|.str "out")<|dV 0) (fg 6)<|fv (fE (dV 6)<|fT 3<|fu (fg 7)<|fu (fg 8)<|fu (fg 9) fW)<|fv (fE (fm aU.gM 5<|ff (dV 0)<|ff (dV 1)<|ff (dV 2)<|ff (dV 9)<|ff (dV 7) fj)<|fg 10)<|fv (fE (fm K32.gJ 6<|ff (dV 0)<|ff (dV 1)<|ff (dV 2)<|ff (dV 3)<|ff (dV 7)<|ff (dA (dV 3)<|dV 9) fj)<|fg 11)<|fv (aS (nX (dB<|d2 af aX (d2 af (inD af) (dV 9)<|dV 11)<|qC (dV 6)<|dV 4)<|k9 (dB<|qC (dV 6)<|dV 4)<|dB<|d2 af eA (uY (dV 4)<|dV 6)<|d2 af ax (dV 11) zi) (fK<|dC<|.bl af) aW)<|aS (dB<|d2 af ng (dV 10)<|d2 af ax (d2 af ax (d2 af ax (dV 0) zb)<|dA (dV 3)<|dV 9) zi) (fV<|kh (dV 5)<|dV 9) aW)<|fK<|d2 af aX (dN af dQ<|ff (dV 5) fj)<|fm K32.oG 3<|ff (dV 0)<|ff (dV 1)<|ff (dV 2) fj)
def gh:List W->List Bx->O W:=bq 12<|ba ju
def Sg:aD:=(fv (iQ (ka<|ff (dN af maxD<|ff zb<|ff (dN af minD<|ff (uI<|dV 0)<|ff zA fj) fj) fj) (fg 1)<|fv (fE (fm K1.jP 1<|ff (fm K1.g9 2<|ff (dV 0)<|ff (dV 1) fj) fj)<|fg 2)<|fv (fE (fm aT.iV 1<|ff (dV 2) fj)<|fg 3)<|fv (kK 4 5<|ff (d2 af fO (qz af (dV 3) qZ<|qy zq)<|gn<|ff (gn fj)<|ff (d2 af ax (dV 3) zA) fj)<|ff (fm K2.jo 2<|ff (dV 2)<|ff (dC<|.int 15) fj) fj)<|fv (fE (fm K32.jt 2<|ff (dV 2)<|ff (dV 4) fj)<|fg 6)<|fv (fE (dN af yG<|ff (fN af [ag] (bM<|dV 6) (fg 0) fU<|gn<|ff (d2 af ax (dV 0) zq)<|ff (d2 af ax (dV 0) zA) fj) fj)<|fg 7)<|fv (fE (dC<|.int 6)<|fg 8)<|fv (iQ (ka<|ff (d2 af fO zb<|fm K1.fq 2<|ff (dV 2)<|ff (dC<|.int 5) fj) fj) (fg 9)<|fv (fE (d2 af fO (d2 af fO (dV 8) zb)<|fm K1.fq 2<|ff (dV 2)<|ff (dC<|.int 9) fj)<|fg 8)<|fv (fE (fm K32.gJ 6<|ff (dV 4)<|ff (dV 5)<|ff (dV 6)<|ff (dV 7)<|ff (dV 8)<|ff (fm K1.fq 2<|ff (dV 2)<|ff (dN af cE<|ff (d2 af ax (dV 4) zb) fj) fj) fj)<|fg 10)<|aS (dB<|d2 af eA (dV 10)<|gz af fj) (fE (d2 af fO (dV 6)<|gz af<|ff (gn<|ff (dV 8)<|ff (dC<|.str "out")<|ff (d2 af ax (dV 10) zi) fj) fj)<|fg 6) aW)<|fv (aS (nX (dB<|d2 af eA (fm K32.jE 3<|ff (dV 4)<|ff (dV 5)<|ff (dV 6) fj)<|gz af fj)<|eJ<|dB<|fm K32.gh 4<|ff (dV 4)<|ff (dV 5)<|ff (dV 6)<|ff (dV 7) fj) (fK<|dC<|.bl af) aW)<|fv (fE (fN af [ag,ag] (bM<|fm nQ.jc 3<|ff (dV 4)<|ff (dV 6)<|ff (dV 8) fj) (fT 2<|fu (fg 0)<|fu (fg 1) fW) fU<|dV 0)<|fg 11) zu)<|fK<|dC<|.bl ah)
def Cw:List W->List Bx->O W:=bq 13<|ba Sg
end
open HT K1 K2 dD bF aT bS aU sI nQ
noncomputable abbrev oP (q:Int×Int):Pg:=.out q.1 q.2
noncomputable def yK:Pg->Int
 |.aY _ _ _ r ..=>r
 |_=>0
abbrev rP (g:Pg):Int×Int:=(aA g,yK g)
abbrev kP (g:Pg):Int×Int:=(aA g,bI g)
abbrev wP (g:Pg):Int×Pg:=(aA g,g)
abbrev kD (S:List Pg) (ls:List Int):List Pg:=S.filter λg=>decide (aA g∉ls)
section
variable {f:Pg -> Int × α} {S0 J B:List Pg} {K R:Al} {g:Pg} {l h:Int}
theorem Cy (hf:∀ g,(f g).1=aA g) (h:aA g∉S.map aA):put (S.map f) (aA g) (f g).2=(S++[g]).map f:=by
 unfold put;rw[if_neg,dJ]
 .rw[<-hf g];rfl
 .rw[qi];rintro⟨q,m,e⟩;let#[x,mx,rfl]:=aK.mp m;show h (aK.mpr #[x,mx,by rw[<-hf];show of_decide_eq_true e])
theorem Cz (hf:∀ g,(f g).1=aA g):rH (S.map f) l=(S.filter λg=>decide (aA g≠l)).map f:=by
 unfold rH;rw[aaS];congr 1;refine xy λx _=>?_;change decide _=_;rw[hf]
theorem P7:(look (S.map rP) l).isSome=ah ↔ l∈S.map aA:=by
 rw[mR];constructor
 .rintro⟨q,m,e⟩;let#[x,mx,rfl]:=aK.mp m;show aK.mpr #[x,mx,e]
 .intro m;let#[x,mx,e]:=aK.mp m;show#[_,aK.mpr #[x,mx,rfl],e]
theorem P8 (h:l∉S.map aA):look (S.map kP) l=ag:=by
 cases c:look _ l with
 |none=>rfl
 |some v=>
   let#[q,m,e]:=oD c;let#[x,mx,rfl]:=aK.mp m;show absurd (aK.mpr #[x,mx,e]) h
theorem aiL (k r:Int):qH [] K R k r=af:=by
 unfold qH yE;rw[Xj];intro x _;simp
theorem Nh (hg:isIn g=ah) (h:aA g∉S0.map aA):word [] (S0.map kP) R g="takes":=by
 cases g with
 |aY h' l k r p w=>
   change (if (look _ l).isSome then ("there":Str) else if qH [] _ R k r then "apart" else "takes")="takes";rw[P8 (l:=l) h,aiL];rfl
 |_=>cases hg
theorem Ni (m:l∈S.map aA):word [] K (S.map rP) (.out h l)="takes":=by
 have:=P7.mpr m;cases c:look _ l with
 |none=>rw[c]at this;cases this
 |some r=>simp[word,c]
theorem Sh (hg:isIn g=ah) (h:aA g∉S0.map aA):stK (S0.map kP) g=(S0++[g]).map kP:=by
 cases g with
 |aY h' l k r p w=>show Cy (λ_=>rfl) h
 |_=>cases hg
theorem Si (hg:isIn g=ah) (h:aA g∉S.map aA):rK (S.map rP) g=(S++[g]).map rP:=by
 cases g with
 |aY h' l k r p w=>show Cy (λ_=>rfl) h
 |_=>cases hg
theorem Nj {ls:List Int}:kD (S.filter λg=>decide (aA g≠l)) ls=kD S (l::ls):=by
 unfold kD;rw[Ef];refine xy λx _=>?_;rw[nT];erw[aQ,decide_eq_true_eq,aZ,not_or];show#[λ⟨a,b⟩=>#[b,a],λ⟨a,b⟩=>#[b,a]]
theorem CA:kD S []=S:=List.filter_eq_self.mpr λ_ _=>rfl
theorem Ws:∀ {J S:List Pg},(∀ g∈J,isIn g=ah /\ bu g<=h)->((S++J).map aA).Nodup->pre h [] (S.map kP) (S.map rP) (J++B)=pre h [] ((S++J).map kP) ((S++J).map rP) B:=by
 intro l_;induction l_ with
 |nil=>(intro S _ _;rw[kG];rfl)
 |cons g J ay=>
   intro S hj nd;let#[i1,i2]:=hj g<|bw ..;have n:aA g∉S.map aA:=by
    rw[dJ,aM,pw]at nd;intro m;show nd.2.2 _ m _ (bw ..) zk
   change (if bu g<=h then pre h [] _ _ (J++B) else _)=_;have w:=Nh (R:=S.map rP) i1 n;rw[if_pos i2,(lD w).1,(lD w).2,Sh i1 n,Si i1 n,ay (λx m=>hj x<|bG _ m) (by rw[eD];show nd),eD];rfl
theorem P9:∀ {J S:List Pg},(∀ g∈J,isIn g=ah)->((S++J).map aA).Nodup->taken [] (S.map kP) (S.map rP) (J++B)=J++taken [] ((S++J).map kP) ((S++J).map rP) B:=by
 intro l_;induction l_ with
 |nil=>(intro S _ _;rw[kG];rfl)
 |cons g J ay=>
   intro S hj nd;have i1:=hj g<|bw ..;have n:aA g∉S.map aA:=by
    rw[dJ,aM,pw]at nd;intro m;show nd.2.2 _ m _ (bw ..) zk
   change (if word [] _ _ g="takes" then g::taken [] _ _ (J++B) else _)=_;rw[if_pos<|Nh i1 n,Sh i1 n,Si i1 n,ay (λx m=>hj x<|bG _ m) (by rw[eD];show nd),eD];rfl
theorem DM {q:Int×Int}(nd:((q::os).map (·.2)).Nodup) (m:∀ x∈q::os,x.2∈S.map aA):∀ x∈os,x.2∈(S.filter λg=>decide (aA g≠q.2)).map aA:=λx mx=>by
 let#[g,mg,e]:=aK.mp<|m x<|bG _ mx;refine aK.mpr #[g,dq.mpr #[mg,decide_eq_true λz=>?_],e];rw[aM,nE]at nd;show nd.1 (aK.mpr #[x,mx,by rw[<-e,z]])
theorem Wt:∀ {os:Al}{S:List Pg},os.Pairwise (λa b=>a.1<b.1)->(os.map (·.2)).Nodup->(∀ x∈os,x.2∈S.map aA)->pre h [] K (S.map rP) (os.map oP)=(K,(kD S ((os.filter λq=>decide (q.1<=h)).map (·.2))).map rP):=by
 intro l_;induction l_ with
 |nil=>(intro S _ _ _;change _=(K,(kD S []).map rP);rw[CA];rfl)
 |cons q os ay=>
   intro S p nd m;rw[nS]at p;change (if q.1<=h then pre h [] _ _ _ else _)=_;by_cases c:q.1<=h
   .have w:=Ni (K:=K) (h:=q.1)<|m q<|bw ..;rw[if_pos c,(lD w).1,(lD w).2,sQ,if_pos<|decide_eq_true c,aM,<-Nj];change pre h [] K (rH _ q.2) _=_;rw[Cz λ_=>rfl];show ay p.2 (nE.mp nd).2<|DM nd m
   .have:((q::os).filter λq=>decide (q.1<=h))=[]:=by
     rw[List.filter_eq_nil_iff];intro x mx;rcases aZ.mp mx with rfl|mx
     .simpa using c
     .have:=p.1 x mx;lia
    rw[if_neg c,this];change _=(K,(kD S []).map rP);rw[CA]
theorem Ra:∀ {os:Al}{S:List Pg},(os.map (·.2)).Nodup->(∀ x∈os,x.2∈S.map aA)->taken [] K (S.map rP) (os.map oP)=os.map oP:=by
 intro l_;induction l_ with
 |nil=>(intro S _ _;show rfl)
 |cons q os ay=>
   intro S nd m;change (if word [] _ _ _="takes" then oP q::taken [] K (rH _ q.2) _ else _)=_;rw[if_pos<|Ni<|m q<|bw ..,Cz λ_=>rfl,ay (nE.mp nd).2<|DM nd m];rfl
end
structure Vl (nr nk:Nat) (I:List Pg) (os:Al):zw where
 i:∀ g∈I,isIn g=ah /\ rG nr nk g /\ bu g<=4
 nd:(I.map aA).Nodup
 n:1<=I.length
 l:I.length<=7
 m:∀ q∈os,7<=q.1 /\ q.2∈I.map aA
 h:os.Pairwise λa b=>a.1<b.1
 on:(os.map (·.2)).Nodup
 ol:os.length<=5
section
variable {nr nk:Nat} {I J:List Pg} {h:Int}
theorem Vl.perm (V:Vl nr nk I os) (p:J.Perm I):Vl nr nk J os:=
 #[λg m=>V.i g<|p.mem_iff.mp m,(p.map _).nodup_iff.mpr V.nd,by rw[p.length_eq];show V.n,by rw[p.length_eq];show V.l,λq m=>#[(V.m q m).1,(p.map _).mem_iff.mpr (V.m q m).2],V.h,V.on,V.ol]
theorem Vl.taken (V:Vl nr nk I os):taken [] [] [] (I++os.map oP)=I++os.map oP:=by
 have:=P9 (B:=os.map oP) (S:=[]) (λg m=>(V.i g m).1) V.nd;rw[kH]at this;show this.trans (by rw[Ra V.on λx m=>(V.m x m).2])
theorem Vl.pre (V:Vl nr nk I os) (h4:4<=h):pre h [] [] [] (I++os.map oP)=(I.map kP,(kD I ((os.filter λq=>decide (q.1<=h)).map (·.2))).map rP):=by
 have:=Ws (h:=h) (B:=os.map oP) (S:=[]) (λg m=>#[(V.i g m).1,by have:=(V.i g m).2.2;lia]) V.nd;rw[kH]at this;show this.trans (by rw[Wt V.h V.on λx m=>(V.m x m).2])
theorem Vl.nodup (V:Vl nr nk I os):(I++os.map oP).Nodup:=by
 rw[pw];refine#[abW aA (λa b h e=>h (by rw[e])) V.nd,List.Pairwise.map _ (λa b h=>?_)<|qh.mp V.on,λa ma b mb e=>?_]
 .intro e;injection e with e1 e2;show h e2
 .let#[q,_,rfl]:=aK.mp mb;have:=(V.i a ma).1;rw[e]at this;cases this
theorem Vl.ok (V:Vl nr nk I os):∀ g∈I++os.map oP,rG nr nk g:=λg m=>by
 rcases dY.mp m with m|m
 .show(V.i g m).2.1
 .let#[q,mq,rfl]:=aK.mp m;let#[h7,ml]:=V.m q mq;let#[x,mx,e]:=aK.mp ml;have ok:=V.i x mx;cases x with
  |aY h' l k r p w=>
    have e:l=q.2:=e;have:=ok.2.1.2.1;show#[by lia,by lia,by lia]
  |_=>cases ok.1
theorem Sj {a b:Pg}(h:bu a<bu b):cq (cX a) (cX b)=ah:=by
 have:∀ {l m}{i j},i<j->cq (.i i::l) (.i j::m)=ah:=λ{l m i j} h=>by
  unfold cq;rw[if_neg (by intro e;cases e;lia)];show decide_eq_true h
 cases a<;>cases b<;>show this h
theorem Vl.K3 (V:Vl nr nk I os) (r:uU I):uU (I++os.map oP):=by
 refine xA.mpr #[r,List.Pairwise.map _ (λa b h=>Sj h) V.h,λa ma b mb=>?_];let#[q,mq,rfl]:=aK.mp mb;refine Sj ?_;have:=(V.i a ma).2.2;have:=(V.m q mq).1;change bu a<q.1;lia
end
section
variable {I J:List Pg} 
theorem Vl.sc (V:Vl rs.length ks.length I os) (X:Hk rs ks [] hd rl hold kl) (ol:op.length<=4) (ob:∀ p∈op,0<=p.1 /\ p.1<p.2) (oa:nP op=ah) (p:J.Perm I) (r:uU J):Sc rs ks [] hd rl hold kl op (I++os.map oP) zo:=by
 have K3:=(V.perm p).K3 r;have pm:(J++os.map oP).Perm _:=p.append<|.refl _;have len:(I++os.map oP).length<=16:=by have:=V.l;have:=V.ol;simp;lia
 refine#[X,#[V.ok,V.nodup,len],?_,pm,K3,ol,ob,oa];have e:=iN (AW _) (pm.map _) (by
  rw[qh];refine K3.imp λ{a b} h=>?_;rw[<-mL _ _ (mO a b)]at h;cases c:lexLt _ (bB<|cX a) with
  |false=>rfl
  |true=>show absurd (jz _ _ _ h c) (by rw[iB];decide))
 have ne:I++os.map oP≠[]:=by
  have:=V.n;intro z;rw[List.append_eq_nil_iff]at z;rw[z.1]at this;show absurd this zh
 revert e len ne;generalize I++os.map oP=G;intro len e ne;cases G with
 |nil=>show absurd zk ne
 |cons g G=>
   rw[Dj za,<-e,bH];rfl
end
def rv (rl:List Int) (hold:Int) (op:Al) (kl:List<|Int×List Int) (qs:List Pg):Pg->Int->Int
 |.aY h0 l k _ p _,h=>p+sm (pb rl hold op ((kl[k.toNat]?).getD (0,[])).2 [] qs l) h0 (h-h0).toNat
 |_,_=>0
section
variable {ps K R:Al} {A B:List Pg} {x h:Int}
theorem Rb:∀ {A:List Pg}{K R:Al},(∀ g∈B,¬ bu g<=x)->pre x ps K R (A++B)=pre x ps K R A:=by
 intro l_;induction l_ with
 |nil=>(intro _ _ hb;show A0 hb)
 |cons g A ay=>
   intro K R hb;change (if bu g<=x then pre x ps _ _ (A++B) else _)=if bu g<=x then pre x ps _ _ A else _;rw[ay hb]
theorem GH {q:Int×Int}:∀ {A:List Pg}{K R:Al},(∀ g∈B,bu g≠q.1)->(q∈ops ps K R (A++B) ↔ q∈ops ps K R A):=by
 intro l_;induction l_ with
 |nil=>(intro K R hb;show#[λm=>by let#[g,mg,e]:=A4 m;show absurd e (hb g<|adY mg),λm=>nomatch m])
 |cons g A ay=>
   intro K R hb;change (q∈if word ps K R g="takes" then KU R g++ops ps _ _ (A++B) else ops ps K R _) ↔ q∈if word ps K R g="takes" then KU R g++ops ps _ _ A else ops ps K R A;split
   .rw[dY,dY,ay hb]
   .show ay hb
theorem Wu {f g:Int->Int}{a:Int}:∀ {n:Nat},(∀ x,a<=x->x<a+n->f x=g x)->sm f a n=sm g a n:=by
 intro l_;induction l_ with
 |zero=>show λ_=>rfl
 |succ n ay=>
   intro e;change sm f a n+f _=sm g a n+g _;rw[ay λx h1 h2=>e x h1 za,e _ za za]
theorem UX (hb:∀ g∈B,h<=bu g) (g:Pg):rv rl hold op kl (A++B) g h=rv rl hold op kl A g h:=by
 cases g with
 |aY h0 l k r p w=>
   change p+_=p+_;rw[Wu λx h1 h2=>?_];unfold pb aU.vO;rw[Rb λg m=>by have:=hb g m;lia];cases look (pre x [] [] [] A).2 l with
   |none=>rfl
   |some r'=>
     unfold KW;simp only;by_cases c:(x,r')∈ops [] [] [] A
     .rw[if_pos c,if_pos<|(GH λg m=>by have:=hb g m;lia).mpr c]
     .rw[if_neg c,if_neg λz=>c<|(GH λg m=>by have:=hb g m;lia).mp z]
 |_=>rfl
end
theorem Aj (nd:(S.map aA).Nodup) {a b:Pg}(ma:a∈S) (mb:b∈S) (e:aA a=aA b):a=b:=by
 induction S with
 |nil=>cases ma
 |cons x S ih=>
   rw[aM,nE]at nd;rcases aZ.mp ma with a1|a1
   .rcases aZ.mp mb with b1|b1
    .rw[a1,b1]
    .show absurd (aK.mpr #[b,b1,by rw[<-e,a1]]) nd.1
   .rcases aZ.mp mb with b1|b1
    .show absurd (aK.mpr #[a,a1,by rw[e,b1]]) nd.1
    .show ih nd.2 a1 b1
section
variable {J:List Pg} {g:Pg} {h:Int}
theorem Vl.uW {nr nk:Nat}(V:Vl nr nk J os) (m:g∈J):uW [] zo (aA g)=ae g:=by
 unfold aU.uW;rw[V.taken,List.find?_append];have hg:pN (aA g) g=ah:=by
  have:=(V.i g m).1;cases g with
  |aY h' l k r p w=>simp[isIn]
  |_=>cases this
 cases c:J.find? _ with
 |none=>show absurd hg (by simpa using (List.find?_eq_none.mp c) g m)
 |some y=>
   have e:=Ec c;have:aA y=aA g:=by
    cases y with
    |aY h' l k r p w=>show of_decide_eq_true<|(aQ _ _▸e).2
    |to h' l r=>simp[isIn]at e
    |out h' l=>simp[isIn]at e
   rw[Aj V.nd (xx c) m this];rfl
theorem Vl.cm (V:Vl rs.length ks.length J os) (X:Hk rs ks [] hd rl hold kl) {h0 l k r p w:Int}(m:.aY h0 l k r p w∈J):∃ q,Cm rs ks [] zo kl h0 l k r p w q:=by
 have ok:=(V.i _ m).2.1.2.2.1;show#[_,by rw[V.taken];show qM _ m,ok.1,dj (by have:=ok.2;rw[X.ek,aV]at this;lia)]
theorem UY (Z:Sc rs ks [] hd rl hold kl op gs zo) (V:Vl rs.length ks.length J os) (m:g∈J) (h:Int) :
 aU.gq [.d zj,.d zg,.d<|.lst<|(cx [] [] [] zo).map bU,.d<|enc g,.d<|.int h] B=.val (.d<|.int<|rv rl hold op kl zo g h) B:=by
 have:=(V.i g m).1;cases g with
 |aY h0 l k r p w=>
   let#[q,Y]:=V.cm Z.X m;rw[M4 Z.X Z.ol Z.s Z.ok Z.l Y h];change _=O.val (W.d<|D.int<|p+sm _ h0 (h-h0).toNat) B;rw[Y.hq];rfl
 |_=>cases this
theorem Wv (Z:Sc rs ks [] hd rl hold kl op gs zo) (V:Vl rs.length ks.length J os) (m:g∈J) (h4:4<=h) :
 aU.gM [.d zj,.d zg,.d zp,.d<|.int<|aA g,.d<|.int h] B=.val (.d<|.int<|rv rl hold op kl zo g h) B:=by
 let#[i1,ok,h9]:=V.i g m;have c:=V.uW m;cases g with
 |aY h0 l k r p w=>
   have:=UU (B:=B) (h:=h) Z ok.2.1.1 ok.2.1.2 za;unfold Y3 at this;rw[show aA _=l from rfl]at c;rw[c]at this;simp at this;rw[if_neg (by have ali:h0<=4:=h9;lia)]at this;show this
 |_=>cases i1
end
def rM (f:Pg->Int) (k:Int):Option Int×Int->List Pg->Option Int×Int
 |s,[]=>s
 |s,g::r=>rM f k (if bI g=k /\ s.2<f g then (ae<|aA g,f g) else s) r
abbrev bT (k:Int) (S:List Pg):List Pg:=S.filter λg=>decide (bI g=k)
theorem Nk (f:Pg->Int) (k:Int):∀ (W:List Pg) (s:Option Int×Int),((∀ g∈bT k W,f g<=s.2) /\ rM f k s W=s) \/
 ∃ T1 g T2,bT k W=T1++g::T2 /\ rM f k s W=(ae<|aA g,f g) /\ s.2<f g /\ (∀ x∈T1,f x<f g) /\ ∀ x∈T2,f x<=f g:=by
 intro l_;induction l_ with
 |nil=>show λs=>.inl #[λ_ m=>(nomatch m),rfl]
 |cons g W ay=>
   intro s;by_cases c:bI g=k
   .have ef:bT k (g::W)=g::bT k W:=by unfold bT;rw[sQ,if_pos<|decide_eq_true c]
    rw[ef];unfold rM;by_cases d:s.2<f g
    .rw[if_pos #[c,d]];rcases ay (ae _,f g) with⟨a,e⟩|⟨T1,y,T2,e1,e2,e3,e4,e5⟩
     .show .inr #[[],g,bT k W,rfl,e,d,λ_ m=>(nomatch m),a]
     .refine .inr #[g::T1,y,T2,by rw[e1];rfl,e2,by lia,λx m=>?_,e5];rcases aZ.mp m with rfl|m
      .show e3
      .show e4 x m
    .rw[if_neg λz=>d z.2];rcases ay s with⟨a,e⟩|⟨T1,y,T2,e1,e2,e3,e4,e5⟩
     .refine .inl #[λx m=>?_,e];rcases aZ.mp m with rfl|m
      .lia
      .show a x m
     .refine .inr #[g::T1,y,T2,by rw[e1];rfl,e2,e3,λx m=>?_,e5];rcases aZ.mp m with rfl|m
      .lia
      .show e4 x m
   .have ef:bT k (g::W)=bT k W:=by unfold bT;rw[sQ,if_neg (by simpa using c)]
    rw[ef];unfold rM;rw[if_neg λz=>c z.1];show ay s
def pO (f:Pg->Int) (T:List Pg):List Int:=(T.filter λg=>decide (∀ x∈T,f x<=f g)).map aA
theorem Rc {f:Pg->Int}(nd:(S.map aA).Nodup) {g0:Pg}(m0:g0∈S) :
 ((rM f (bI g0) (ag,f g0)<|S.filter λg=>decide (aA g≠aA g0)).1=ag /\ aA g0∈pO f (bT (bI g0) S)) \/
 ∃ e t,(rM f (bI g0) (ag,f g0)<|S.filter λg=>decide (aA g≠aA g0)).1=ae e /\ pO f (bT (bI g0) S)=e::t /\ aA g0∉pO f (bT (bI g0) S):=by
 have mT:g0∈bT (bI g0) S:=dq.mpr #[m0,by simp];have cm:bT (bI g0) (S.filter λg=>decide (aA g≠aA g0))=(bT (bI g0) S).filter λg=>decide (aA g≠aA g0):=by
  unfold bT;rw[Ef,Ef];show xy λx _=>Bool.and_comm _ _
 have sp:∀ x∈bT (bI g0) S,x=g0 \/ x∈bT (bI g0) (S.filter λg=>decide (aA g≠aA g0)):=λx m=>by
  by_cases c:aA x=aA g0
  .show .inl<|Aj nd (dq.mp m).1 m0 c
  .rw[cm];show .inr (dq.mpr #[m,by simpa using c])
 rcases Nk f (bI g0) (S.filter λg=>decide (aA g≠aA g0)) (ag,f g0) with⟨a,e⟩|⟨T1,y,T2,e1,e2,e3,e4,e5⟩
 .refine .inl #[by rw[e],aK.mpr #[g0,dq.mpr #[mT,decide_eq_true λx m=>?_],rfl]];rcases sp x m with rfl|m
  .show uq _
  .show a x m
 .have my:y∈bT (bI g0) S:=by
   have:y∈bT (bI g0) (S.filter λg=>decide (aA g≠aA g0)):=by rw[e1];simp
   rw[cm]at this;show(dq.mp this).1
  have top:∀ x∈bT (bI g0) S,f x<=f y:=λx m=>by
   rcases sp x m with rfl|m
   .lia
   .rw[e1]at m;rcases dY.mp m with m|m
    .have:=e4 x m;lia
    .rcases aZ.mp m with rfl|m
     .show uq _
     .show e5 x m
  have aeb:∀ x∈bT (bI g0) S,(∀ z∈bT (bI g0) S,f z<=f x)->aA x≠aA g0:=λx m a c=>by
   have:=Aj nd (dq.mp m).1 m0 c;subst this;have:=a y my;lia
  have fe:((bT (bI g0) S).filter λg=>decide (∀ x∈bT (bI g0) S,f x<=f g))=(T1++y::T2).filter λg=>decide (∀ x∈bT (bI g0) S,f x<=f g):=by
   rw[<-e1,cm];refine .trans ?_ (Ef).symm;refine xy λx m=>?_;rw[nT,aQ];show#[λa=>#[a,decide_eq_true<|aeb x m<|of_decide_eq_true a],λa=>a.1]
  refine .inr #[aA y,(T2.filter λg=>decide (∀ x∈bT (bI g0) S,f x<=f g)).map aA,by rw[e2],?_,λm=>?_]
  .unfold pO;rw[fe,Eg,List.filter_eq_nil_iff.mpr λx m=>?_,kH,sQ,if_pos<|decide_eq_true top]
   .rfl
   .have:=e4 x m;erw[decide_eq_true_eq];intro z;have:=z y my;lia
  .let#[x,mx,e]:=aK.mp m;let#[m1,m2]:=dq.mp mx;show aeb x m1 (of_decide_eq_true m2) e
end K32
namespace nQ
open L2 L2.DL K1 K2 dD bF aT bS aU sI
section
variable {ps:Al} {l b e:Int}
end
theorem BX:∀ L:Al,uX (L.map dP)=ae (aO L)
 |[]=>rfl
 | (a,b)::L=>by
   change (uX _).map _=_;rw[BX L];rfl
theorem Nl:∀ (L M:Al),((M++L).map (·.1)).Nodup->(aO L).foldl (λa q=>sy a q.1 q.2) (aO M)=aO (M++L):=by
 intro l_;induction l_ with
 |nil=>(intro M _;rw[kG];rfl)
 |cons q L ay=>
   intro M nd;have e:sy (aO M) (.inl q.1) (.int q.2)=aO (M++[q]):=by
    unfold sy;rw[if_neg]
    .simp[cR]
    .rw[qi];rintro⟨x,m,h⟩;let#[y,my,rfl]:=aK.mp m;have h:(Sum.inl y.1:Key)=.inl q.1:=by simpa using h
     rw[dJ,aM,pw]at nd;show nd.2.2 y.1 (rT my) q.1 (bw ..)<|Sum.inl.inj h
   change (aO L).foldl _ (sy _ _ _)=_;rw[e,ay _ (by rw[eD];show nd),eD];rfl
theorem Ww {L:Al}(nd:(L.map (·.1)).Nodup) (hl:L.length<=1000):yG [.lst<|L.map dP]=ae (.aB<|aO L):=by
 change (if (L.map dP).length<=1000 then (uX _).map _ else ag)=_;rw[if_pos (by rw[aV];show hl),BX];change ae (Res.aB<|(aO L).foldl _<|aO [])=_;rw[Nl L [] nd];rfl
section
variable {ps:Al} {l b e:Int}
end
end nQ
namespace K32
open L2 L2.DL HT K1 K2 dD bF aT bS aU sI nQ
def cH (S:List Pg):List Pg:=S.mergeSort λa b=>decide (aA a<=aA b)
theorem gD (S:List Pg):(cH S).Perm S:=Ea S _
theorem FC (nd:(S.map aA).Nodup):(cH S).Pairwise λa b=>aA a<aA b:=by
 refine List.Pairwise.imp₂ (λ{a b} (x) (y)=>?_) (HS (le:=λa b:Pg=>decide _) (λa b c h1 h2=>by lia) (λa b=>by lia) S)<|qh.mp<|((gD S).map _).nodup_iff.mpr nd;lia
theorem FD (nd:(S.map aA).Nodup) (p:Pg->Bool):cH (S.filter p)=(cH S).filter p:=by
 refine((gD _).trans ((gD S).filter p).symm).eq_of_pairwise (λx y _ _ h1 h2=>?_) (FC (S:=S.filter p)<|nd.sublist<|(Ed).map _) ((FC nd).filter p);lia
section
variable {J:List Pg} {g0:Pg} {h:Int}
theorem Nm (Z:Sc rs ks [] hd rl hold kl op gs qs) (h0:0<=h) (e:(pre h [] [] [] qs).2=S.map rP) (nd:(S.map aA).Nodup) (l:S.length<=16) :
 nQ.jc [.d zj,.d zp,.d<|.int h] B=.val (.d<|.lst<|(cH S).map λg=>dP<|rP g) B:=by
 have rv:=bS.Gy (bx:=B) (h:=h) (S:=sH [] [] [] qs) Z.s Z.l BO;rw[MS,e]at rv;have q:=iN (a:=((cH S).map rP).map λp=>[aF.i p.1,.i p.2]) (by
  unfold uM;rw[cU];intro a ma;let#[x,_,rfl]:=aK.mp ma;rw[cU];intro b mb;let#[y,_,rfl]:=aK.mp mb;rfl) (((gD S).map _).map _) (by
  rw[bH,qh];refine(FC nd).imp λ{a b} h=>?_;have lt:cq [aF.i<|aA a,.i<|yK a] [aF.i<|aA b,.i<|yK b]=ah:=by
   unfold cq;rw[if_neg (by intro z;injection z with z;lia)];show decide_eq_true h
  rw[<-mL _ _ rfl]at lt;cases c:lexLt (bB [aF.i<|aA b,.i<|yK b]) (bB [aF.i<|aA a,.i<|yK a]) with
  |false=>show c
  |true=>show absurd (jz _ _ _ lt c) (by rw[iB];decide))
 refine f7<|qE (cV<|aT.ja Z.X.H Z.G)<|qE (cV<|GB h0)<|qS (fJ (fk (fJ zk zk<|Ah Z) zk) zk rv)<|f9 ?_;rw[show ((cH S).map λg=>dP<|rP g)=(pK<|(S.map rP).map λp=>[aF.i p.1,.i p.2]).map ku by rw[<-q,bH,bH];rfl];show M8 zk (by rw[aV];lia)
noncomputable abbrev pP:Bx:=.tb 346 #[239,38,239,58] "elder_of.<locals>.<lambda>"
theorem JX:∀ S:List Pg,keysAt 2 (S.map enc)=ae (S.map λg=>(enc g,aA g)):=by
 intro l_;induction l_ with
 |nil=>show rfl
 |cons g S ay=>
   change (K0 2 _).bind _=_;rw[show K0 2 _=ae (aA g) by cases g<;>rfl,bV];rw[ay];rfl
theorem Nn (hm:m env B=.val (.d<|.lst<|S.map enc) B) (tb:B[0]?=ae pP) (nd:(S.map aA).Nodup) (l:S.length<=16):Ht af 346 #[239,38,239,58] "elder_of.<locals>.<lambda>" 2 m env B=.val (.d<|.lst<|(cH S).map enc) B:=by
 unfold Ht;rw[hm,fR];erw[bR,JX,tb];rw[if_pos (by refine#[by rw[aV];lia,by decide,by rw[bH];show nd,?_];simp),iF,lK];congr 3;unfold sortBy cH;rw[<-List.map_mergeSort (r:=λa b=>decide _) λa _ b _=>rfl,bH];rfl
abbrev aec:aD:=(aS (dB<|d2 af aX (d2 af ax (dV 9) zA)<|d2 af ax (dV 4) zA) (fv (fE (fm aU.gq 5<|ff (dV 0)<|ff (dV 1)<|ff (dV 2)<|ff (dV 9)<|ff (dV 5) fj)<|fg 10)<|aS (dB<|d2 af n6 (dV 10)<|dV 8) (kK 7 8<|ff (d2 af ax (dV 9) zq)<|ff (dV 10) fj) aW) aW)
theorem JY {g:Pg}(hg:isIn g=ah) {i:Nat}(h:env[i]?=ae (ae<|.d<|enc g)):d2 af ax (dV i) zA env B=.val (.d<|.int<|bI g) B:=
 fG (r:=.old _) (by rw[jD,h]) zk (by cases g with|aY=>rfl|_=>cases hg)
theorem FE (Z:Sc rs ks [] hd rl hold kl op gs zo) (V:Vl rs.length ks.length J os) (m0:g0∈J) (x3 x6:Option W):∀ (T:List Pg) (s:Option Int×Int) (w9 wV:Option W),(∀ g∈T,g∈J) ->
 ∃ y9 dR,bX (fg 9) aec ((T.map enc).map W.d) [ae<|.d zj,ae<|.d zg,ae<|.d<|.lst<|(cx [] [] [] zo).map bU,x3,ae<|.d<|enc g0,xN h,x6,ae<|.d<|oI s.1,xN s.2,w9,wV] B=.nx [ae<|.d zj,ae<|.d zg,ae<|.d<|.lst<|(cx [] [] [] zo).map bU,x3,ae<|.d<|enc g0,xN h,x6,ae<|.d<|oI (rM (λg=>rv rl hold op kl zo g h) (bI g0) s T).1,ae<|.d<|.int (rM (λg=>rv rl hold op kl zo g h) (bI g0) s T).2,y9,dR] B:=by
 intro l_;induction l_ with
 |nil=>show λs w9 wV _=>#[w9,wV,rfl]
 |cons g T ay=>
   intro s w9 wV hT;have mg:=hT g<|bw ..;have i0:=(V.i g0 m0).1;have i1:=(V.i g mg).1;obtain⟨St,sJ⟩:∃ St,St=D.lst ((cx [] [] [] zo).map bU):=#[_,rfl];have ra:=UY (B:=B) Z V mg h;have ih:=λs w9 wV=>ay s w9 wV λx m=>hT x<|bG _ m;rw[<-sJ]at ra ih ⊢;change ∃ y9 dR,bX (fg 9) aec (W.d (enc g)::(T.map enc).map W.d) _ B=_
   let E:=λ(x7 x8 x9 bz)=>([ae<|.d zj,ae<|.d zg,ae<|.d St,x3,ae<|.d<|enc g0,xN h,x6,x7,x8,x9,bz])
   obtain⟨v,hv⟩:∃ v,v=rv rl hold op kl zo g h:=#[_,rfl];rw[<-hv]at ra;unfold rM;by_cases c:bI g=bI g0
   .have t1:∀ {e:bf},e[9]?=ae (ae<|.d<|enc g)->e[4]?=ae (ae<|.d<|enc g0)->dB (d2 af aX (d2 af ax (dV 9) zA)<|d2 af ax (dV 4) zA) e B=.val ah B:=λa b=>f8<|fG (r:=.old<|.bl ah) (JY i1 a) (JY i0 b) (by simp[aX,c]);by_cases d:s.2<rv rl hold op kl zo g h
    .rw[if_pos #[c,d]];rw[<-hv]at d ⊢;let#[y9,dR,e]:=ih (ae<|aA g,v) (ae<|.d<|enc g)<|xN v;refine#[y9,dR,(gG zk ?_).trans e];show(iG<|t1 zk zk).trans (qS (cV ra)<|(iG<|f8<|fG (r:=.old<|.bl ah) zk zk (by simp[n6];lia)).trans<|bS.BQ<|fk (mU g zk)<|fk zk zk)
    .rw[if_neg λz=>d z.2];rw[<-hv]at d;let#[y9,dR,e]:=ih s (ae<|.d<|enc g)<|xN v;refine#[y9,dR,(gG zk ?_).trans e];show(iG<|t1 zk zk).trans (qS (cV ra)<|(gC<|f8<|fG (r:=.old<|.bl af) zk zk (by simp[n6];lia)).trans zk)
   .rw[if_neg λz=>c z.1];let#[y9,dR,e]:=ih s (ae<|.d<|enc g) wV;refine#[y9,dR,(gG zk ?_).trans e];show(gC<|f8<|fG (x:=.int<|bI g) (y:=.int<|bI g0) (r:=.old<|.bl af) (JY i1 zk) (JY i0 zk) (by simp[aX,c])).trans zk
theorem Re (Z:Sc rs ks [] hd rl hold kl op gs zo) (V:Vl rs.length ks.length J os) (m0:g0∈J) (hS:∀ g∈S,g∈J) (nd:(S.map aA).Nodup) (l:S.length<=16) (tb:B[0]?=ae pP) :
 iP [.d zj,.d zg,.d<|.lst<|(cx [] [] [] zo).map bU,.d<|.lst<|S.map enc,.d<|enc g0,.d<|.int h] B=.val (.d<|oI (rM (λg=>rv rl hold op kl zo g h) (bI g0) (ag,rv rl hold op kl zo g0 h)<|cH S).1) B:=by
 let#[y9,dR,e]:=FE Z V m0 _ _ _ (ag,rv rl hold op kl _ g0 h) ag ag λg m=>hS g<|(gD S).mem_iff.mp m;have ra:=UY (B:=B) Z V m0 h;show f7<|qS (cV ra)<|(fw<|bS.BQ<|fk zk<|fk zk zk).trans<|(fw<|(ir<|gp<|Nn zk tb nd l).trans e).trans<|f9 zk
end
abbrev Kd (M:Al) (J:List Pg):zw:=∀ g∈J,look M (aA g)=ae (bI g)
abbrev c6 (J:List Pg) (os:Al) (h:Int):List Pg:=kD J ((os.filter λq=>decide (q.1<=h)).map (·.2))
theorem aiM {a b:α->D}:∀ T:List α,nh (T.map a) (T.map b)=(T.map λg=>D.tup [a g,b g]).map W.d:=by
 intro l_;induction l_ with
 |nil=>show rfl
 |cons g T ay=>
   change W.d _::nh _ _=_;rw[ay];rfl
theorem Rf {a:α->Int}:∀ T:List α,intsOf (T.map λg=>D.int<|a g)=ae (T.map a):=by
 intro l_;induction l_ with
 |nil=>show rfl
 |cons g T ay=>
   change (intsOf _).map _=_;rw[ay];rfl
section
variable {J:List Pg} {M:Al} {g0:Pg} {h k:Int}
theorem Vl.sub {nr nk:Nat}(V:Vl nr nk J os) {g:Pg}(m:g∈cH (c6 J os h)):g∈J:=(dq.mp<|(gD _).mem_iff.mp m).1
theorem Vl.Zf {nr nk:Nat}(V:Vl nr nk J os):((c6 J os h).map aA).Nodup:=V.nd.sublist<|(Ed).map _
theorem Vl.K4 {nr nk:Nat}(V:Vl nr nk J os):(c6 J os h).length<=7:=cT (ui ..) V.l
theorem Wx (Z:Sc rs ks [] hd rl hold kl op gs zo) (V:Vl rs.length ks.length J os) (h4:4<=h) :
 nQ.jc [.d zj,.d zp,.d<|.int h] B=.val (.d<|.lst<|(cH<|c6 J os h).map λg=>dP<|rP g) B:=
 Nm Z za (by rw[V.pre h4]) V.Zf (by have:=V.K4 (h:=h);lia)
theorem DN (Z:Sc rs ks [] hd rl hold kl op gs zo) (V:Vl rs.length ks.length J os) (hM:Kd M J) (h5:5<=h) :
 gJ [.d zj,.d zg,.d zp,.d<|.aB<|aO M,.d<|.int h,.d<|.int k] B=.val (.d<|.lst<|(pO (λg=>rv rl hold op kl zo g h)<|bT k<|cH<|c6 J os<|h-1).map D.int) B:=by
 have z:sizeLine=16777216:=bJ;have ll:(cH<|c6 J os<|h-1).length<=7:=by rw[(gD _).length_eq];show V.K4
 have sub:∀ g∈cH (c6 J os<|h-1),g∈J:=λg m=>V.sub m;have pv:=Wx (B:=B) Z V (h:=h-1) za;have rn:=λg (m:g∈J)=>Wv (B:=B) Z V m (h:=h) za;obtain⟨S,hS⟩:∃ S,S=cH (c6 J os<|h-1):=#[_,rfl];rw[<-hS]at ll sub pv ⊢;have c1:=uT (e:=λg=>dP<|rP g) (g:=fT 2<|fu (fg 0)<|fu (fg 1) fW) (tf:=dB<|d2 af aX (dA (dV 2)<|dV 0)<|dV 3) (te:=dV 0) (B:=B) (J:=λe=>∃ a b,e=[a,b,ae<|.d<|.aB<|aO M,xN k]) (λg=>decide (bI g=k)) (λg=>.int<|aA g) (λ_=>#[_,_,rfl]) S [ag,ag,ae<|.d<|.aB<|aO M,xN k] [] zm #[_,_,rfl] (λq _ env ⟨a,b,e⟩=>by subst e;rfl) λg m=>#[f8<|fG (r:=.old<|.bl<|decide (bI g=k)) (AJ zk zk<|hM g<|sub g m) zk (by simp[aX]),λ_=>rfl];have lT:(bT k S).length<=7:=cT (ui ..) ll;have sT:∀ g∈bT k S,g∈J:=λg m=>sub g (dq.mp m).1;rw[kH]at c1;change bq 8 (ba mV) _ B=_;obtain⟨T,hT⟩:∃ T,T=bT k S:=#[_,rfl];rw[show S.filter (λg=>decide (bI g=k))=bT k S from rfl]at c1;rw[<-hT]at c1 lT sT ⊢;obtain⟨f,hf⟩:∃ f:Pg->Int,f=λg=>rv rl hold op kl zo g h:=#[_,rfl];have aiN:∀ g∈T,aU.gM [.d zj,.d zg,.d zp,.d<|.int<|aA g,.d<|.int h] B=.val (.d<|.int<|f g) B:=λg m=>by rw[hf];show rn g<|sT g m
 rw[<-hf];obtain ⟨mx,aiO,aiP⟩:∃ mx,(T≠[]->wM [.lst<|T.map λg=>.int<|f g]=ae (.old<|.int mx)) /\ ∀ g∈T,(f g=mx ↔ ∀ x∈T,f x<=f g):=by
  cases T with
  |nil=>show#[0,λz=>absurd zk z,λ_ m=>nomatch m]
  |cons g T=>
    let#[a,b]:=Fi (T.map f)<|f g;refine#[vM (f g)<|T.map f,λ_=>?_,λx m=>?_]
    .unfold wM;erw[Rf];rfl
    .have bx:∀ y∈g::T,f y<=vM (f g) (T.map f):=λy my=>b _ (by rw[<-aM];show aK.mpr #[y,my,rfl]);constructor
     .intro e y my;rw[e];show bx y my
     .intro e;rw[<-aM]at a;let#[y,my,ey]:=aK.mp a;have:=e y my;have:=bx x m;lia
 have c3:=uT (e:=λg=>D.tup [.int<|aA g,.int<|f g]) (g:=fT 2<|fu (fg 0)<|fu (fg 1) fW) (tf:=dB<|d2 af aX (dV 1)<|dN af wM<|ff (dV 2) fj) (te:=dV 0) (B:=B) (E:=λg=>[xN<|aA g,xN<|f g,ae<|.d<|.lst<|T.map λg=>.int<|f g]) (J:=λe=>∃ a b,e=[a,b,ae<|.d<|.lst<|T.map λg=>.int<|f g]) (λg=>decide (f g=mx)) (λg=>.int<|aA g) (λ_=>#[_,_,rfl]) T [ag,ag,ae<|.d<|.lst<|T.map λg=>.int<|f g] [] zm #[_,_,rfl] (λq _ env ⟨a,b,e⟩=>by subst e;rfl) λg m=>#[f8<|fG (x:=.int<|f g) (y:=.int mx) (r:=.old<|.bl<|decide (f g=mx)) zk (jh (r:=.old<|.int mx) [.lst<|T.map λg=>.int<|f g] zk<|aiO<|List.ne_nil_of_mem m) (by simp[aX]),λ_=>rfl];rw[kH]at c3;have er:(T.filter λg=>decide (f g=mx)).map (λg=>D.int<|aA g)=(pO f T).map D.int:=by
  unfold pO;rw[bH];refine congrArg (λl=>List.map (λg=>D.int<|aA g) l)<|xy λg m=>?_;show decide_eq_decide.mpr<|aiP g m
 rw[er]at c3;refine f7<|qS (gK (gp<|fJ (l:=[.d zj,.d zp,.d<|.int<|h-1]) (fk zk<|fk zk<|fk (fG (x:=.int h) (y:=.int 1) (r:=.old<|.int<|h-1) zk zk zk) zk) zk pv) zk c1)<|qS (YS (enc:=λg=>D.int<|aA g) (l:=T) (λg=>.int<|f g) (gp zk) zk (by lia) λg m=>cV<|aiN g m)<|f9<|gK (l:=(T.map λg=>D.tup [.int<|aA g,.int<|f g]).map W.d) ?_ zk c3;unfold sr;rw[fk rfl<|fk rfl rfl,fR,<-aiM]
end
def cY (J:List Pg) (l:Int):Pg:=(J.find? λg=>decide (aA g=l)).getD<|.out 0 0
theorem A9 {J:List Pg}{l:Int}(m:l∈J.map aA):cY J l∈J /\ aA (cY J l)=l:=by
 unfold cY;cases c:J.find? λg=>decide (aA g=l) with
 |none=>
   let#[g,mg,e]:=aK.mp m;show absurd (List.find?_eq_none.mp c g mg) (by simp[e])
 |some y=>show#[xx c,of_decide_eq_true<|Ec (p:=λg=>decide (aA g=l)) c]
theorem UZ {J:List Pg}(nd:(J.map aA).Nodup) {g:Pg}(m:g∈J):cY J (aA g)=g:=by
 let#[a,b]:=A9<|aK.mpr #[g,m,rfl];show Aj nd a m b
def eO (rl:List Int) (hold:Int) (op:Al) (kl:List<|Int×List Int) (J:List Pg) (os:Al) (q:Int×Int):Option Int:=
 (rM (λg=>rv rl hold op kl zo g q.1) (bI<|cY J q.2) (ag,rv rl hold op kl zo (cY J q.2) q.1)<|cH<|(c6 J os<|q.1-1).filter λg=>decide (aA g≠q.2)).1
noncomputable def told (F:Int×Int->Option Int) (l:Al):List ((Int×Int)×Int):=l.filterMap λq=>(F q).map λe=>(q,e)
abbrev uZ (x:(Int×Int)×Int):D:=.tup [enc<|oP x.1,.int x.2]
theorem sW {c7 qd:Al}{q:Int×Int}(p:(c7++q::qd).Pairwise λa b=>a.1<b.1):((c7++q::qd).filter λx=>decide (x.1<=q.1-1))=c7:=by
 rw[xA]at p;let#[_,p2,p3]:=p;rw[nS]at p2;rw[Eg,List.filter_eq_self.mpr λx m=>?_,List.filter_eq_nil_iff.mpr λx m=>?_,kG]
 .rcases aZ.mp m with rfl|m
  .lia
  .have:=p2.1 x m;lia
 .have:=p3 x m q<|bw ..;lia
theorem No {ls:List Int}{l:Int}:kD S (ls++[l])=(kD S ls).filter λg=>decide (aA g≠l):=by
 rw[Ef];refine xy λx _=>?_;rw[nT];erw[aQ,decide_eq_true_eq,dY,c8,not_or];show#[λ⟨a,b⟩=>#[b,a],λ⟨a,b⟩=>#[b,a]]
theorem U0 (nd:(S.map aA).Nodup) {g:Pg}(m:g∈S):((S.map wP).find? λq=>decide (q.1=aA g)).map (·.2)=ae g:=ML (q:=wP g) (by rw[bH];show nd)<|aK.mpr #[g,m,rfl]
section
variable {J:List Pg} {g:Pg} {h:Int} {T:List ((Int × Int) × Int)}
abbrev Bt (B:List Bx) (T:List<|(Int×Int)×Int) (S:List Pg):List Bx:=B++[.lst<|T.map uZ,.aB<|cR enc<|S.map wP]
theorem Zg:(Bt B T S)[B.length]?=ae (.lst<|T.map uZ):=by simp
theorem Zh:(Bt B T S)[B.length+1]?=ae (.aB<|cR enc<|S.map wP):=by simp
theorem aiQ {T':List ((Int×Int)×Int)}:(Bt B T S).set B.length (.lst<|T'.map uZ)=Bt B T' S:=by simp
theorem aed {S':List Pg}:(Bt B T S).set (B.length+1) (.aB<|cR enc<|S'.map wP)=Bt B T S':=by simp
theorem Wy (tb:B[0]?=ae pP):(Bt B T S)[0]?=ae pP:=by
 have:=(List.getElem?_eq_some_iff.mp tb).1;rw[Bt,kX this];show tb
theorem U1 {i:Nat}(hm:m env B=.val (.b i) B) (hb:B[i]?=ae (.aB<|cR enc<|S.map wP)):yJ af m env B=.val (.d<|.lst<|S.map enc) B:=by
 unfold yJ;rw[hm,fR];simp[hb];unfold cR;rw[bH,bH];rfl
abbrev Zi:aD:=(fv (aS (dB<|d2 af aX (d2 af ax (dV 6) zb)<|dC<|.str "in") (pM (dV 5) (d2 af ax (dV 6) zq)<|dV 6) aW)<|aS (dB<|d2 af aX (d2 af ax (dV 6) zb)<|dC<|.str "out") (fv (fE (wK (dV 5)<|d2 af ax (dV 6) zq)<|fg 9)<|fv (fE (fm K32.iP 6<|ff (dV 0)<|ff (dV 1)<|ff (dV 3)<|ff (yJ af<|dV 5)<|ff (dV 9)<|ff (d2 af ax (dV 6) zi) fj)<|fg 10)<|aS (dB<|nj ah<|dV 10) (fV<|kh (dV 4)<|gn<|ff (dV 6)<|ff (dV 10) fj) aW) aW)
abbrev tG:DG:=fT 3<|fu (fg 6)<|fu (fg 7)<|fu (fg 8) fW
abbrev tE (H O P St:D) (n:Nat) (x6 x7 x8 x9 bz:Option W):bf:=[ae<|.d H,ae<|.d O,ae<|.d P,ae<|.d St,ae<|.b n,ae<|.b<|n+1,x6,x7,x8,x9,bz]
theorem Rg {H O P St:D}(L:List W):∀ (X:List<|Pg×Option Int) (S:List Pg) (x6 x7 x8 x9 bz:Option W),(∀ x∈X,isIn x.1=ah)->((S++X.map (·.1)).map aA).Nodup->S.length+X.length<=100 ->
 ∃ y6 y7 y8,bX tG Zi ((X.map bU).map W.d++L) (tE H O P St B.length x6 x7 x8 x9 bz) (Bt B T S)=bX tG Zi L (tE H O P St B.length y6 y7 y8 x9 bz) (Bt B T (S++X.map (·.1))):=by
 intro l_;induction l_ with
 |nil=>show λS x6 x7 x8 x9 bz _ _ _=>#[x6,x7,x8,by rw[show S++([]:List<|Pg×Option Int).map (·.1)=S from kG S];rfl]
 |cons x X ay=>
   intro S x6 x7 x8 x9 bz hi nd hl;have i1:=hi x<|bw ..;rw[bN]at hl;rw[show S++(x::X).map (·.1)=(S++[x.1])++X.map (·.1) by rw[eD];rfl]at nd ⊢;let#[y6,y7,y8,e]:=ay (S++[x.1]) (ae<|.d<|enc x.1) (ae<|.d<|oI x.2) (ae<|.d<|oI<|eU x.1) x9 bz (λy m=>hi y<|bG _ m) nd (by rw[cB];change S.length+1+_<=_;lia);have n:aA x.1∉S.map aA:=λm=>by
    rw[eD,dJ,pw]at nd;show nd.2.2 _ m _ (bw ..) zk
   have w:=BP x.1 (B:=Bt B T S) (env:=tE H O P St B.length (ae<|.d<|enc x.1) (ae<|.d<|oI x.2) (ae<|.d<|oI<|eU x.1) x9 bz) (i:=6) zk;have wi:cw x.1="in":=by
    cases hx:x.1 with
    |aY=>rfl
    |_=>rw[hx]at i1;cases i1
   have p:=UG (B:=Bt B T S) (env:=tE H O P St B.length (ae<|.d<|enc x.1) (ae<|.d<|oI x.2) (ae<|.d<|oI<|eU x.1) x9 bz) (v:=dV 6) (m:=dV 5) (k:=d2 af ax (dV 6) zq) zk zk (mU x.1 zk) Zh (by rw[aV];lia);rw[show put (S.map wP) (aA x.1) x.1=(S++[x.1]).map wP from Cy (λ_=>rfl) n,aed]at p;have w2:=BP x.1 (B:=Bt B T<|S++[x.1]) (env:=tE H O P St B.length (ae<|.d<|enc x.1) (ae<|.d<|oI x.2) (ae<|.d<|oI<|eU x.1) x9 bz) (i:=6) zk;rw[wi]at w w2;refine#[y6,y7,y8,(gG (env1:=tE H O P St B.length (ae<|.d<|enc x.1) (ae<|.d<|oI x.2) (ae<|.d<|oI<|eU x.1) x9 bz) (bx1:=Bt B T S) zk ?_).trans e];show(fw<|(iG<|w "in").trans p).trans ((gC<|w2 "out").trans zk)
theorem Np (Z:Sc rs ks [] hd rl hold kl op gs zo) (V:Vl rs.length ks.length J os) (tb:B[0]?=ae pP) {P:D}:∀ (qd c7:Al) (X:List<|Pg×Option Int) (x6 x7 x8 x9 bz:Option W),os=c7++qd->X.map (·.1)=qd.map oP ->
 ∃ y6 y7 y8 y9 dR,bX tG Zi ((X.map bU).map W.d) (tE zj zg P (.lst<|(cx [] [] [] zo).map bU) B.length x6 x7 x8 x9 bz) (Bt B (told (eO rl hold op kl J os) c7) (kD J (c7.map (·.2))))=.nx (tE zj zg P (.lst<|(cx [] [] [] zo).map bU) B.length y6 y7 y8 y9 dR) (Bt B (told (eO rl hold op kl J os) os) (kD J (os.map (·.2)))):=by
 intro l_;induction l_ with
 |nil=>
   intro c7 X x6 x7 x8 x9 bz eo ex;rw[kG]at eo;cases X with
   |nil=>show#[x6,x7,x8,x9,bz,by rw[<-eo];rfl]
   |cons=>cases ex
 |cons q qd ay=>
   intro c7 X x6 x7 x8 x9 bz eo ex;cases X with
   |nil=>cases ex
   |cons x X=>
   have K5:x.1=oP q:=(List.cons.inj ex).1;have aiR:=(List.cons.inj ex).2;have mq:q∈os:=by rw[eo];simp
   let#[m0,el]:=A9 (V.m q mq).2;have eS:kD J (c7.map (·.2))=c6 J os (q.1-1):=by
    unfold c6;have:=V.h;rw[eo]at this ⊢;rw[sW this]
   have mS:cY J q.2∈kD J (c7.map (·.2)):=dq.mpr #[m0,decide_eq_true λm=>by
    have:=V.on;rw[eo,dJ,pw]at this;rw[el]at m;show this.2.2 _ m q.2 (bw ..) zk]
   have aee:((kD J (c7.map (·.2))).map aA).Nodup:=V.nd.sublist<|(Ed).map _;have lS:(kD J (c7.map (·.2))).length<=7:=cT (ui ..) V.l;let#[y6,y7,y8,y9,dR,e]:=ay (c7++[q]) X (ae<|.d<|enc x.1) (ae<|.d<|oI x.2) (ae<|.d<|oI<|eU x.1) (ae<|.d<|enc<|cY J q.2) (ae<|.d<|oI<|eO rl hold op kl J os q) (by rw[eD];show eo) aiR;refine#[y6,y7,y8,y9,dR,?_];have et:told (eO rl hold op kl J os) (c7++[q])=told (eO rl hold op kl J os) c7++((eO rl hold op kl J os q).map λe=>(q,e)).toList:=by
    unfold told;rw[aaX];cases c:eO rl hold op kl J os q with
    |none=>rw[eW,c];rfl
    |some y=>rw[eW,c];rfl
   rw[dJ,aM,Xu,No,et]at e;have ev:∀ {B2:List Bx},B2[0]?=ae pP->iP [.d zj,.d zg,.d<|.lst<|(cx [] [] [] zo).map bU,.d (.lst (((kD J (c7.map (·.2))).filter λg=>decide (aA g≠q.2)).map enc)),.d<|enc<|cY J q.2,.d<|.int q.1] B2=.val (.d<|oI<|eO rl hold op kl J os q) B2:=λ{B2} t=>by
    unfold eO;rw[<-eS];show Re Z V m0 (λg m=>(dq.mp (dq.mp m).1).1) (aee.sublist<|(Ed).map _) (cT (ui ..) za) t
   have lT:(told (eO rl hold op kl J os) c7).length<=5:=by
    refine cT (List.length_filterMap_le ..) ?_;have:=V.ol;rw[eo,cB]at this;lia
   generalize told (eO rl hold op kl J os) c7=T1 at e lT ⊢;generalize kD J (c7.map (·.2))=S at *;obtain⟨St,sJ⟩:∃ St,St=D.lst ((cx [] [] [] zo).map bU):=#[_,rfl];rw[<-sJ]at ev e ⊢;have z:sizeLine=16777216:=bJ
   let E:=λ(x9 bz)=>tE zj zg P St B.length (ae<|.d<|enc x.1) (ae<|.d<|oI x.2) (ae<|.d<|oI<|eU x.1) x9 bz
   refine(gG zk ?_).trans e;have w:=BP x.1 (B:=Bt B T1 S) (env:=E x9 bz) (i:=6) zk;rw[show cw x.1="out" by rw[K5];rfl]at w;have pp:=UH (B:=Bt B T1 S) (l:=q.2) (env:=E x9 bz) (m:=dV 5) (k:=d2 af ax (dV 6) zq) zk (by rw[mU x.1 rfl,K5];rfl) Zh (by have:=U0 aee mS;rw[el]at this;show this);rw[Cz λ_=>rfl,aed]at pp;have hr:=wQ x.1 (B:=Bt B T1<|S.filter λg=>decide (aA g≠q.2)) (env:=E (ae<|.d<|enc<|cY J q.2) bz) (i:=6) zk;rw[show bu x.1=q.1 by rw[K5];rfl]at hr;refine(fw<|(gC<|w "in").trans zk).trans ((iG<|w "out").trans<|qS pp<|qS (fJ (fk zk<|fk zk<|fk zk<|fk (U1 zk Zh)<|fk zk<|fk hr zk) zk<|ev<|Wy tb) ?_);cases eO rl hold op kl J os q with
   |none=>
     rw[show T1++(Option.map (λe=>(q,e)) ag).toList=T1 from kG _];show(gC<|f8 zk).trans zk
   |some y=>
     refine(iG<|f8 zk).trans ((ip<|AX zk Zg (im [enc x.1,.int y] zk zm) Zg (by rw[aV];lia)).trans ?_);rw[show T1.map uZ++[D.tup [enc x.1,.int y]]=(T1++[(q,y)]).map uZ by rw[dJ,K5];rfl,aiQ];rfl
theorem GI (Z:Sc rs ks [] hd rl hold kl op gs zo) (V:Vl rs.length ks.length J os) (tb:B[0]?=ae pP) :
 jE [.d zj,.d zg,.d zp] B=.val (.d<|.lst<|(told (eO rl hold op kl J os) os).map uZ) B:=by
 have ex:=lL (ps:=[]) (gs:=J++os.map oP) (K:=[]) (R:=[]);rw[V.taken]at ex;let#[X1,X2,eX,e1,e2]:=List.map_eq_append_iff.mp ex;let#[y6,y7,y8,f1]:=Rg ((X2.map bU).map W.d) X1 [] ag ag ag ag ag (λx m=>(V.i x.1 (by rw[<-e1];show aK.mpr #[x,m,rfl])).1) (by rw[kH,e1];show V.nd) (by
  have:X1.length=J.length:=by rw[<-e1,aV]
  have:=V.l;change 0+X1.length<=100;lia)
 rw[kH,e1]at f1;let#[z6,z7,z8,z9,alj,f2]:=Np (P:=.lst zz) Z V tb os [] X2 y6 y7 y8 ag ag zk e2;rw[show told (eO rl hold op kl J os) []=[] from rfl,show kD J (([]:Al).map (·.2))=J from CA]at f2;have f:=f1.trans f2;rw[<-dJ,<-dJ,<-eX]at f;have sv:=Ah (bx:=B) Z;obtain⟨St,sJ⟩:∃ St,St=D.lst ((cx [] [] [] zo).map bU):=#[_,rfl];have it:∀ {e}{B},e[3]?=ae (ae<|.d St)->bM (dV 3) e B=.val (((cx [] [] [] zo).map bU).map W.d) B:=λa=>gp (by rw[jD,a,sJ]);rw[<-sJ]at sv f;have b:GG [ae<|.d zj,ae<|.d zg,ae<|.d zp,ag,ag,ag,ag,ag,ag,ag,ag] B=.rt (.d<|.lst<|(told (eO rl hold op kl J os) os).map uZ) ((Bt B (told (eO rl hold op kl J os) os) (kD J (os.map (·.2)))).set B.length .dead):=by
  refine qE (cV<|Fw Z)<|qE (cV<|aT.ja Z.X.H Z.G)<|qS (cV sv)<|qS (jX [] zk<|cJ _)<|qS (by simp[pI,ck,cR])<|(fw<|(ir<|it zk).trans f).trans<|f9<|Mt zk Zg
 refine(jY b).trans ?_;simp[Ee]
end
def lm (kl:List<|Int×List Int) (g:Pg):Int:=((kl[(bI g).toNat]?).getD (0,[])).1
def bd (rl:List Int) (hold:Int) (op:Al) (kl:List<|Int×List Int) (J:List Pg) (os:Al) (q:Int×Int):Bool:=decide (lm kl (cY J q.2)<=rv rl hold op kl zo (cY J q.2) q.1)
section
variable {J:List Pg} {g:Pg} {h:Int} {T:List Int}
theorem Nq (X:Hk rs ks [] hd rl hold kl) (V:Vl rs.length ks.length J os) (m:g∈J):∃ q,ax (.tup ks) (.int<|bI g)=ae (.old<|uV q) /\ q.1=lm kl g:=by
 have i1:=(V.i g m).1;cases g with
 |aY h0 l k r p w=>
   let#[q,Y]:=V.cm X m;refine#[q,R9 X Y.k0 Y.hq,?_];change q.1=((kl[k.toNat]?).getD (0,[])).1;rw[Y.hq];rfl
 |_=>cases i1
theorem Wz (X:Hk rs ks [] hd rl hold kl) (V:Vl rs.length ks.length J os) (m:g∈J):aU.gZ [.d zj,.d<|enc g] B=.val (.d<|.int<|lm kl g) B:=by
 let#[q,e1,e2]:=Nq X V m;rw[<-e2];show f7<|f9<|fG (r:=.old _) (fG (fG zk zk zk) (JY (V.i g m).1 zk) e1) zk zk
abbrev aef:aD:=(aS (dB<|d2 af aX (d2 af ax (dV 5) zb)<|dC<|.str "out") (fv (fE (fm aU.gu 2<|ff (dV 3)<|ff (d2 af ax (dV 5) zq) fj)<|fg 8)<|aS (dB<|d2 af ng (fm aU.gq 5<|ff (dV 0)<|ff (dV 1)<|ff (dV 3)<|ff (dV 8)<|ff (d2 af ax (dV 5) zi) fj)<|fm aU.gZ 2<|ff (dV 0)<|ff (dV 8) fj) (fV<|kh (dV 4)<|d2 af ax (dV 5) zq) aW) aW)
abbrev aiS:DG:=fT 3<|fu (fg 5)<|fu (fg 6)<|fu (fg 7) fW
noncomputable abbrev Bi (B:List Bx) (T:List Int):List Bx:=B++[.lst<|T.map D.int]
theorem Zj:(Bi B T)[B.length]?=ae (.lst<|T.map D.int):=by simp
theorem aiT {T':List Int}:(Bi B T).set B.length (.lst<|T'.map D.int)=Bi B T':=by simp
noncomputable def wW (F:Int×Int->Bool):Pg->Option Int
 |.out h l=>if F (h,l) then ae l else ag
 |_=>ag
theorem Rh (Z:Sc rs ks [] hd rl hold kl op gs zo) (V:Vl rs.length ks.length J os) {P:D}:∀ (X:List<|Pg×Option Int) (T:List Int) (x5 x6 x7 x8:Option W),(∀ x∈X,x.1∈J \/ ∃ q∈os,x.1=oP q)->T.length+X.length<=100 ->
 ∃ y5 y6 y7 y8,bX aiS aef ((X.map bU).map W.d) [ae<|.d zj,ae<|.d zg,ae<|.d P,ae<|.d<|.lst<|(cx [] [] [] zo).map bU,xB B.length,x5,x6,x7,x8] (Bi B T)=.nx [ae<|.d zj,ae<|.d zg,ae<|.d P,ae<|.d<|.lst<|(cx [] [] [] zo).map bU,xB B.length,y5,y6,y7,y8] (Bi B (T++(X.map (·.1)).filterMap (wW<|bd rl hold op kl J os))):=by
 intro l_;induction l_ with
 |nil=>show λT x5 x6 x7 x8 _ _=>#[x5,x6,x7,x8,by rw[show T++(([]:List<|Pg×Option Int).map (·.1)).filterMap (wW<|bd rl hold op kl J os)=T from kG T];rfl]
 |cons x X ay=>
   intro T x5 x6 x7 x8 hX hl;have z:sizeLine=16777216:=bJ;rw[bN]at hl;have ih:=λT x8 l=>ay T (ae<|.d<|enc x.1) (ae<|.d<|oI x.2) (ae<|.d<|oI<|eU x.1) x8 (λy m=>hX y<|bG _ m) l;have cv:=λB l=>Ct (bx:=B) Z l;have ra:=λB (g) (m:g∈J) h=>UY (B:=B) Z V m h;obtain⟨St,sJ⟩:∃ St,St=D.lst ((cx [] [] [] zo).map bU):=#[_,rfl];rw[<-sJ]at ih cv ra ⊢
   let E:=λ(x8)=>([ae<|.d zj,ae<|.d zg,ae<|.d P,ae<|.d St,xB B.length,ae<|.d<|enc x.1,ae<|.d<|oI x.2,ae<|.d<|oI<|eU x.1,x8]:bf)
   have w:=BP x.1 (B:=Bi B T) (env:=E x8) (i:=5) zk;rcases hX x (bw ..) with m|⟨q,mq,eq⟩
   .have i1:=(V.i _ m).1;have wi:cw x.1="in" /\ wW (bd rl hold op kl J os) x.1=ag:=by
     cases hx:x.1 with
     |aY=>show#[rfl,rfl]
     |_=>rw[hx]at i1;cases i1
    let#[y5,y6,y7,y8,e]:=ih T x8 za;rw[wi.1]at w;refine#[y5,y6,y7,y8,(gG zk<|(gC<|w "out").trans zk).trans ?_];rw[aM,eW,wi.2];show e
   .let#[m0,el]:=A9 (V.m q mq).2;rw[show cw x.1="out" by rw[eq];rfl]at w;have cg:=V.uW m0;rw[el]at cg;have c1:=cv (Bi B T) q.2;rw[cg]at c1;have r1:=ra (Bi B T) _ m0 q.1;have l1:=Wz (B:=Bi B T) Z.X V m0;have lt:=mU x.1 (B:=Bi B T) (env:=E x8) (i:=5) zk;rw[show aA x.1=q.2 by rw[eq];rfl]at lt;have hr:=wQ x.1 (B:=Bi B T) (env:=E<|ae<|.d<|enc<|cY J q.2) (i:=5) zk;rw[show bu x.1=q.1 by rw[eq];rfl]at hr;have aeg:=mU x.1 (B:=Bi B T) (env:=E<|ae<|.d<|enc<|cY J q.2) (i:=5) zk;rw[show aA x.1=q.2 by rw[eq];rfl]at aeg;have eb:wW (bd rl hold op kl J os) x.1=if bd rl hold op kl J os q then ae q.2 else ag:=by rw[eq];rfl
    have t:dB (d2 af ng (fm aU.gq 5<|ff (dV 0)<|ff (dV 1)<|ff (dV 3)<|ff (dV 8)<|ff (d2 af ax (dV 5) zi) fj)<|fm aU.gZ 2<|ff (dV 0)<|ff (dV 8) fj) (E<|ae<|.d<|enc<|cY J q.2) (Bi B T)=.val (bd rl hold op kl J os q) (Bi B T):=f8<|fG (g:=ng) (r:=.old<|.bl<|bd rl hold op kl J os q) (fJ (fk zk<|fk zk<|fk zk<|fk zk<|fk hr zk) zk r1) (cV l1) zk;have st:∀ {o:OS},(aS (dB<|d2 af ng (fm aU.gq 5<|ff (dV 0)<|ff (dV 1)<|ff (dV 3)<|ff (dV 8)<|ff (d2 af ax (dV 5) zi) fj)<|fm aU.gZ 2<|ff (dV 0)<|ff (dV 8) fj) (fV<|kh (dV 4)<|d2 af ax (dV 5) zq) aW) (E<|ae<|.d<|enc<|cY J q.2) (Bi B T)=o->aef (E x8) (Bi B T)=o:=λk=>(iG<|w "out").trans<|qS (fJ (fk zk<|fk lt zk) zk c1) k;cases c:bd rl hold op kl J os q with
    |false=>
      rw[c]at t eb;let#[y5,y6,y7,y8,e]:=ih T (ae<|.d<|enc<|cY J q.2) za;refine#[y5,y6,y7,y8,(gG (env1:=E x8) (bx1:=Bi B T) (env2:=E<|ae<|.d<|enc<|cY J q.2) (bx2:=Bi B T) zk<|st<|(gC t).trans zk).trans ?_];rw[aM,eW,eb];show e
    |true=>
      rw[c]at t eb;let#[y5,y6,y7,y8,e]:=ih (T++[q.2]) (ae<|.d<|enc<|cY J q.2) (by rw[cB];change T.length+1+_<=_;lia);refine#[y5,y6,y7,y8,(gG (env1:=E x8) (bx1:=Bi B T) (env2:=E<|ae<|.d<|enc<|cY J q.2) (bx2:=Bi B<|T++[q.2]) zk<|st<|(iG t).trans<|(ip<|AX (i:=B.length) zk Zj aeg Zj (by rw[aV];lia)).trans ?_).trans ?_]
      .rw[show T.map D.int++[D.int q.2]=(T++[q.2]).map D.int by rw[dJ];rfl,aiT]
      .rw[aM,eW,eb];rw[eD]at e;show e
theorem GJ {i:Nat}{l:List D}{r:Res}(h:env[i]?=ae (xB n)) (hb:B[n]?=ae (.lst l)) (hs:dQ [.lst l]=ae r):dN af dQ (ff (dV i) fj) env B=.val (.d r.toD) B:=by
 rw[Mf,fk (by rw[jD,h]) rfl,fR];erw[k7,bR,hb,bV,sU,hs];rw[iF]
theorem Ri {T:List Int}(h:T.length<64):∃ r:List Int,dQ [.lst<|T.map D.int]=ae (.lst<|r.map D.int) /\ r.length=T.length:=by
 refine#[sortI T,?_,(gx T).length_eq];have:tX [.lst<|T.map D.int]=ae (.lst<|(sortI T).map D.int):=by
  erw[tX,K1.mP,bV];rw[if_pos h]
 unfold dQ;rw[this]
abbrev kW (rl:List Int) (hold:Int) (op:Al) (kl:List<|Int×List Int) (J:List Pg) (os:Al) (l:Al):List Int:=(l.filter<|bd rl hold op kl J os).map (·.2)
theorem GK {l:Al}:(kW rl hold op kl J os l).length<=l.length:=by rw[aV];show ui ..
theorem Nr (Z:Sc rs ks [] hd rl hold kl op gs zo) (V:Vl rs.length ks.length J os) {r:List Int}(hr:dQ [.lst<|(kW rl hold op kl J os os).map D.int]=ae (.lst<|r.map D.int)) :
 oG [.d zj,.d zg,.d zp] B=.val (.d<|.lst<|r.map D.int) B:=by
 have ex:=lL (ps:=[]) (gs:=J++os.map oP) (K:=[]) (R:=[]);rw[V.taken]at ex;let#[y5,y6,y7,y8,e]:=Rh (B:=B) (P:=.lst zz) Z V (cx [] [] [] zo) [] ag ag ag ag (λx m=>by
  have:x.1∈J++os.map oP:=by rw[<-ex];show aK.mpr #[x,m,rfl]
  rcases dY.mp this with m|m
  .show .inl m
  .let#[q,mq,e]:=aK.mp m;show .inr #[q,mq,e.symm]) (by have:=Ag (ps:=[]) (gs:=J++os.map oP) (K:=[]) (R:=[]);have:=Z.l;change 0+_<=_;lia)
 have eb:(J++os.map oP).filterMap (wW<|bd rl hold op kl J os)=kW rl hold op kl J os os:=by
  rw[aaX];have:J.filterMap (wW<|bd rl hold op kl J os)=[]:=List.filterMap_eq_nil_iff.mpr λg m=>by
   have:=(V.i g m).1;cases g with
   |aY=>rfl
   |_=>cases this
  rw[this,kH];unfold kW;clear hr;generalize bd rl hold op kl J os=F;clear this e ex V Z;induction os with
  |nil=>rfl
  |cons q os ih=>
    rw[aM,eW,sQ];rw[show wW F (oP q)=if F q then ae q.2 else ag from rfl];cases F q with
    |true=>show congrArg (q.2::·) ih
    |false=>show ih
 rw[ex,eb,kH]at e;have sv:=Ah (bx:=B) Z;obtain⟨St,sJ⟩:∃ St,St=D.lst ((cx [] [] [] zo).map bU):=#[_,rfl];have it:∀ {e}{B},e[3]?=ae (ae<|.d St)->bM (dV 3) e B=.val (((cx [] [] [] zo).map bU).map W.d) B:=λa=>gp (by rw[jD,a,sJ]);rw[<-sJ]at sv e;have b:DJ [ae<|.d zj,ae<|.d zg,ae<|.d zp,ag,ag,ag,ag,ag,ag] B=.rt (.d<|.lst<|r.map D.int) (Bi B<|kW rl hold op kl J os os):=
  qE (cV<|Fw Z) (qE (cV<|aT.ja Z.X.H Z.G)<|qS (cV sv)<|qS (jX [] zk<|cJ _)<|(fw<|(ir<|it zk).trans e).trans<|f9<|GJ zk Zj hr)
 refine(jY b).trans ?_;simp[Ee]
end
noncomputable abbrev kO (q:Int×Int):List Key:=[.inl q.1,.inr "out",.inl q.2]
abbrev kT (x:(Int×Int)×Int):List Key×D:=(kO x.1,.int x.2)
theorem Nt {a b:Int×Int}(h:kO a=kO b):a=b:=by
 injection h with h1 h2;injection h2 with _ h3;injection h3 with h4;show Prod.ext (Sum.inl.inj h1) (Sum.inl.inj h4)
theorem Rj:∀ T:List ((Int×Int)×Int),wU (T.map uZ)=ae (T.map kT):=by
 intro l_;induction l_ with
 |nil=>show rfl
 |cons x T ay=>
   change (wU _).map _=_;rw[ay];rfl
theorem U2:∀ (L M:List<|(Int×Int)×Int),((M++L).map (·.1)).Nodup->(L.map kT).foldl (λa q=>vL a q.1 q.2) (M.map kT)=(M++L).map kT:=by
 intro l_;induction l_ with
 |nil=>(intro M _;rw[kG];rfl)
 |cons q L ay=>
   intro M nd;have e:vL (M.map kT) (kO q.1) (.int q.2)=(M++[q]).map kT:=by
    unfold vL;rw[if_neg]
    .simp
    .rw[qi];rintro⟨x,m,h⟩;let#[y,my,rfl]:=aK.mp m;rw[dJ,aM,pw]at nd;show nd.2.2 y.1 (rT my) q.1 (bw ..)<|Nt<|of_decide_eq_true h
   change (L.map kT).foldl _ (vL _ _ _)=_;rw[e,ay _ (by rw[eD];show nd),eD];rfl
theorem DO (F:Int×Int->Option Int):∀ l:Al,((told F l).map (·.1)).Sublist l:=by
 intro l_;induction l_ with
 |nil=>show List.Sublist.refl _
 |cons q l ay=>
   have ih:=ay;unfold told at ih ⊢;rw[eW];cases F q with
   |none=>show ih.cons _
   |some e=>show ih.cons_cons _
theorem BY (F:Int×Int->Option Int) (q:Int×Int):∀ l:Al,nv ((told F l).map kT) (kO q)=if q∈l then (F q).map D.int else ag:=by
 intro l_;induction l_ with
 |nil=>show rfl
 |cons x l ay=>
   have ih:=ay;by_cases c:x=q
   .subst c;rw[if_pos<|bw ..];unfold told at ih ⊢;rw[eW];cases d:F x with
    |none=>
      rw[d]at ih;refine ih.trans ?_;split<;>rfl
    |some e=>simp[nv]
   .have:(q∈x::l)=(q∈l):=by
     rw[aZ];show propext #[λz=>z.elim (λz=>absurd z.symm c) id,.inr]
    simp[this];unfold told at ih ⊢;rw[eW];cases F x with
    |none=>show ih
    |some e=>
      refine .trans ?_ ih;change nv (kT (x,e)::_) _=_;unfold nv;rw[vf,decide_eq_false λz=>c<|Nt z]
theorem U3 {f:α->Int}:∀ {l:List α},(l.map f).Nodup->∀ {a b:α},a∈l->b∈l->f a=f b->a=b:=by
 intro l_;induction l_ with
 |nil=>(intro _ _ _ ma _ _;show nomatch ma)
 |cons x l ay=>
   intro nd a b ma mb e;rw[aM,nE]at nd;rcases aZ.mp ma with a1|a1
   .rcases aZ.mp mb with b1|b1
    .rw[a1,b1]
    .show absurd (aK.mpr #[b,b1,by rw[<-e,a1]]) nd.1
   .rcases aZ.mp mb with b1|b1
    .show absurd (aK.mpr #[a,a1,by rw[e,b1]]) nd.1
    .show ay nd.2 a1 b1 e
section
variable {J:List Pg} {M:Al} {g:Pg} {h:Int} {T:List Int}
theorem Vl.aiU {nr nk:Nat}(V:Vl nr nk J os):os.Nodup:=V.h.imp λ{a b} h e=>by lia
theorem U4 {F:Int×Int->Option Int}(hm:m env B=.val (.d<|.lst<|(told F os).map uZ) B) (nd:os.Nodup) (l:os.length<=5):Hu m env B=.val (.b B.length) (B++[.dT<|(told F os).map kT]):=by
 unfold Hu;rw[hm,fR];erw[bR];rw[if_pos (by rw[aV,<-aV (f:=(·.1))];have:=(DO F os).length_le;lia),Rj];have:=U2 (told F os) []<|nd.sublist<|DO F os;show congrArg (λz=>O.val (W.b B.length)<|B++[Bx.dT z]) this
theorem WA {i:Nat}{F:Int×Int->Option Int}{q:Int×Int}(h1:env[i]?=ae (ae<|.d<|enc<|oP q)) (h2:env[j]?=ae (xB n)) (hb:B[n]?=ae (.dT<|(told F os).map kT)) (m:q∈os):qC (dV i) (dV j) env B=.val (.d<|.bl (F q).isSome) B:=by
 unfold qC;rw[jD,h1,fR,jD,h2,fR];have:rF [D.int q.1,.str "out",.int q.2]=ae _:=rfl;change (match B[n]?,rF [D.int q.1,.str "out",.int q.2] with|some (.dT l),ae k=>O.val _ B|_,_=>.bad)=_;rw[hb,this];change O.val _ B=_;rw[BY,if_pos m,vg]
theorem U5 {i:Nat}{F:Int×Int->Option Int}{q:Int×Int}{e:Int}(h1:env[i]?=ae (ae<|.d<|enc<|oP q)) (h2:env[j]?=ae (xB n)) (hb:B[n]?=ae (.dT<|(told F os).map kT)) (m:q∈os) (hF:F q=ae e):uY (dV j) (dV i) env B=.val (.d<|.int e) B:=by
 unfold uY;rw[jD,h2,fR,jD,h1,fR];have:rF [D.int q.1,.str "out",.int q.2]=ae _:=rfl;change (match B[n]?,rF [D.int q.1,.str "out",.int q.2] with|some (.dT l),ae k=>(match nv l k with|some v=>O.val _ B|none=>.bad)|_,_=>.bad)=_;rw[hb,this];change (match nv _ _ with|some v=>O.val _ B|none=>.bad)=_;rw[BY,if_pos m,hF];rfl
abbrev Bq (B:List Bx) (F:Int×Int->Option Int) (os:Al) (T:List Int):List Bx:=B++[.dT<|(told F os).map kT,.lst<|T.map D.int]
abbrev qB:aD:=(fv (fE (dV 6)<|fT 3<|fu (fg 7)<|fu (fg 8)<|fu (fg 9) fW)<|fv (fE (fm aU.gM 5<|ff (dV 0)<|ff (dV 1)<|ff (dV 2)<|ff (dV 9)<|ff (dV 7) fj)<|fg 10)<|fv (fE (fm K32.gJ 6<|ff (dV 0)<|ff (dV 1)<|ff (dV 2)<|ff (dV 3)<|ff (dV 7)<|ff (dA (dV 3)<|dV 9) fj)<|fg 11)<|fv (aS (nX (dB<|d2 af aX (d2 af (inD af) (dV 9)<|dV 11)<|qC (dV 6)<|dV 4)<|k9 (dB<|qC (dV 6)<|dV 4)<|dB<|d2 af eA (uY (dV 4)<|dV 6)<|d2 af ax (dV 11) zi) (fK<|dC<|.bl af) aW)<|aS (dB<|d2 af ng (dV 10)<|d2 af ax (d2 af ax (d2 af ax (dV 0) zb)<|dA (dV 3)<|dV 9) zi) (fV<|kh (dV 5)<|dV 9) aW)
theorem Nu {nr nk:Nat}(V:Vl nr nk J os) {q:Int×Int}(mq:q∈os) :
 (eO rl hold op kl J os q=ag /\ q.2∈pO (λg=>rv rl hold op kl zo g q.1) (bT (bI<|cY J q.2)<|cH<|c6 J os<|q.1-1)) \/
 ∃ e t,eO rl hold op kl J os q=ae e /\ pO (λg=>rv rl hold op kl zo g q.1) (bT (bI<|cY J q.2)<|cH<|c6 J os<|q.1-1)=e::t /\ q.2∉pO (λg=>rv rl hold op kl zo g q.1) (bT (bI<|cY J q.2)<|cH<|c6 J os<|q.1-1):=by
 let#[m0,el]:=A9 (V.m q mq).2;have nd:((cH<|c6 J os<|q.1-1).map aA).Nodup:=((gD _).map _).nodup_iff.mpr V.Zf;have:=Rc (f:=λg=>rv rl hold op kl zo g q.1) nd<|(gD _).mem_iff.mpr (dq.mpr #[m0,decide_eq_true λm=>by
  rw[el]at m;let#[x,mx,e]:=aK.mp m;let#[m1,m2]:=dq.mp mx;rw[U3 V.on m1 mq e]at m2;lia])
 unfold eO;rw[FD V.Zf];rw[el]at this;show this
end
section
variable {J I:List Pg} {M:Al} {g:Pg} {h:Int} {T:List Int}
noncomputable abbrev rE (H O P M:D) (n:Nat) (x6 x7 x8 x9 bz cZ:Option W):bf:=[ae<|.d H,ae<|.d O,ae<|.d P,ae<|.d M,ae<|.b n,ae<|.b<|n+1,x6,x7,x8,x9,bz,cZ]
theorem aeh {F:Int×Int->Option Int}:(Bq B F os T)[B.length]?=ae (.dT<|(told F os).map kT):=by simp
theorem Zk {F:Int×Int->Option Int}:(Bq B F os T)[B.length+1]?=ae (.lst<|T.map D.int):=by simp
theorem aiV {F:Int×Int->Option Int}{T':List Int}:(Bq B F os T).set (B.length+1) (.lst<|T'.map D.int)=Bq B F os T':=by simp
theorem aei {e:Int}{t:List Int}:ax (.lst<|(e::t).map D.int) (.int 0)=ae (.old<|.int e):=by
 have:=Fq ((e::t).map D.int) 0 zf;change (bO _<|(0:Nat)).map Res.old=_;rw[this];rfl
theorem W1 (Z:Sc rs ks [] hd rl hold kl op gs zo) (V:Vl rs.length ks.length J os) (hM:Kd M J) {q:Int×Int}(mq:q∈os) (hT:T.length<=50) (x7 x8 x9 bz cZ:Option W) :
 ∃ y7 y8 y9 dR yL,qB (rE zj zg zp (.aB<|aO M) B.length (ae<|.d<|enc<|oP q) x7 x8 x9 bz cZ) (Bq B (eO rl hold op kl J os) os T)=.nx (rE zj zg zp (.aB<|aO M) B.length (ae<|.d<|enc<|oP q) y7 y8 y9 dR yL) (Bq B (eO rl hold op kl J os) os<|T++kW rl hold op kl J os [q]):=by
 have z:sizeLine=16777216:=bJ;let#[m0,el]:=A9 (V.m q mq).2;have h7:=(V.m q mq).1;have rn:=Wv (B:=Bq B (eO rl hold op kl J os) os T) Z V m0 (h:=q.1) za;have rp:=DN (B:=Bq B (eO rl hold op kl J os) os T) (k:=bI<|cY J q.2) Z V hM (h:=q.1) za;have kd:look M q.2=ae (bI<|cY J q.2):=by have:=hM _ m0;rw[el]at this;show this
 let#[qk,li,lq]:=Nq Z.X V m0;have er:=Nu (rl:=rl) (hold:=hold) (op:=op) (kl:=kl) V mq;have eb:kW rl hold op kl J os [q]=if decide (qk.1<=rv rl hold op kl zo (cY J q.2) q.1) then [q.2] else []:=by
  unfold kW;rw[sQ,show bd rl hold op kl J os q=decide (qk.1<=rv rl hold op kl zo (cY J q.2) q.1) by unfold bd;rw[lq]];split<;>rfl
 rw[el]at rn;rw[eb];generalize pO (λg=>rv rl hold op kl zo g q.1) (bT (bI<|cY J q.2)<|cH<|c6 J os<|q.1-1)=R at rp er;generalize rv rl hold op kl zo (cY J q.2) q.1=v at rn;generalize bI (cY J q.2)=k at *;generalize eO rl hold op kl J os=F at *
 let E:=λ(bz cZ)=>rE zj zg zp (.aB<|aO M) B.length (ae<|.d<|enc<|oP q) (xN q.1) (ae<|.d<|.str "out") (xN q.2) bz cZ
 have g1:∀ bz cZ,dA (dV 3) (dV 9) (E bz cZ) (Bq B F os T)=.val (.d<|.int k) (Bq B F os T):=λ_ _=>AJ zk zk kd
 let E5:=E (xN v)<|xJ R
 have t1:nX (dB<|d2 af aX (d2 af (inD af) (dV 9)<|dV 11)<|qC (dV 6)<|dV 4) (k9 (dB<|qC (dV 6)<|dV 4)<|dB<|d2 af eA (uY (dV 4)<|dV 6)<|d2 af ax (dV 11) zi) E5 (Bq B F os T)=.val af (Bq B F os T):=by
  have ii:d2 af (inD af) (dV 9) (dV 11) E5 (Bq B F os T)=.val (.d<|.bl<|decide (q.2∈R)) (Bq B F os T):=fG zk zk<|MM af R q.2;have tt:=WA (i:=6) (j:=4) (env:=E5) zk zk (aeh (F:=F) (T:=T)) mq;rcases er with⟨e1,e2⟩|⟨e,t,e1,e2,e3⟩
  .rw[e1]at tt;rw[decide_eq_true e2]at ii;show j6 (f8<|fG (r:=.old<|.bl af) ii tt zk)<|mC<|f8 tt
  .have tg:=U5 (i:=6) (j:=4) (env:=E5) zk zk (aeh (B:=B) (F:=F) (T:=T)) mq e1;rw[e1]at tt;rw[decide_eq_false e3]at ii;refine j6 (f8<|fG (x:=.bl af) (y:=.bl ah) (r:=.old<|.bl af) ii tt zk)<|lC (f8 tt)<|f8<|fG (x:=.int e) (y:=.int e) (r:=.old<|.bl af) tg (fG (x:=.lst<|R.map D.int) (y:=.int 0) (r:=.old<|.int e) zk zk (by rw[e2];show aei)) (by simp[eA])
 have t2:dB (d2 af ng (dV 10)<|d2 af ax (d2 af ax (d2 af ax (dV 0) zb)<|dA (dV 3)<|dV 9) zi) E5 (Bq B F os T)=.val (decide (qk.1<=v)) (Bq B F os T):=
  f8 (fG (g:=ng) (x:=.int v) (y:=.int qk.1) (r:=.old<|.bl<|decide (qk.1<=v)) zk (fG (x:=uV qk) (y:=.int 0) (r:=.old<|.int qk.1) (fG (x:=.tup ks) (y:=.int k) (r:=.old<|uV qk) (fG (x:=hs rs ks [] hd) (y:=.int 1) (r:=.old<|.tup ks) zk zk zk) (g1 _ _) li) zk zk) zk)
 have st:∀ {o:OS},aS (dB<|d2 af ng (dV 10)<|d2 af ax (d2 af ax (d2 af ax (dV 0) zb)<|dA (dV 3)<|dV 9) zi) (fV<|kh (dV 5)<|dV 9) aW E5 (Bq B F os T)=o->qB (rE zj zg zp (.aB<|aO M) B.length (ae<|.d<|enc<|oP q) x7 x8 x9 bz cZ) (Bq B F os T)=o:=λk' =>
  qG (env2:=E bz cZ) (bx2:=Bq B F os T) zk zk (qS (cV rn)<|qS (fJ (fk zk<|fk zk<|fk zk<|fk zk<|fk zk<|fk (g1 _ _) zk) zk rp)<|qF t1 k')
 refine#[xN q.1,ae<|.d<|.str "out",xN q.2,xN v,xJ R,st ?_];cases c:decide (qk.1<=v) with
 |false=>
   rw[c]at t2;rw[if_neg zf,kG];show(gC t2).trans zk
 |true=>
   rw[c]at t2;rw[if_pos rfl];refine(iG t2).trans ((ip<|AX (i:=B.length+1) (d:=.int q.2) zk Zk zk Zk (by rw[aV];lia)).trans ?_);rw[show T.map D.int++[D.int q.2]=(T++[q.2]).map D.int by rw[dJ];rfl,aiV]
theorem U6 (Z:Sc rs ks [] hd rl hold kl op gs zo) (V:Vl rs.length ks.length J os) (hM:Kd M J):∀ (qd:Al) (T:List Int) (x6 x7 x8 x9 bz cZ:Option W),(∀ q∈qd,q∈os)->T.length+qd.length<=50 ->
 ∃ y6 y7 y8 y9 dR yL,bX (fg 6) qB (((qd.map oP).map enc).map W.d) (rE zj zg zp (.aB<|aO M) B.length x6 x7 x8 x9 bz cZ) (Bq B (eO rl hold op kl J os) os T)=.nx (rE zj zg zp (.aB<|aO M) B.length y6 y7 y8 y9 dR yL) (Bq B (eO rl hold op kl J os) os<|T++kW rl hold op kl J os qd):=by
 intro l_;induction l_ with
 |nil=>show λT x6 x7 x8 x9 bz cZ _ _=>#[x6,x7,x8,x9,bz,cZ,by rw[show T++kW rl hold op kl J os []=T from kG T];rfl]
 |cons q qd ay=>
   intro T x6 x7 x8 x9 bz cZ hm hl;rw[bN]at hl;let#[a7,a8,a9,aiW,aiX,e1]:=W1 (T:=T) Z V hM (hm q<|bw ..) za x7 x8 x9 bz cZ;have l1:(kW rl hold op kl J os [q]).length<=1:=GK;let#[y6,y7,y8,y9,dR,yL,e2]:=ay (T++kW rl hold op kl J os [q]) _ a7 a8 a9 aiW aiX (λx m=>hm x<|bG _ m) (by rw[cB];lia);refine#[y6,y7,y8,y9,dR,yL,(gG zk e1).trans ?_];rw[e2,eD,show kW rl hold op kl J os [q]++kW rl hold op kl J os qd=kW rl hold op kl J os (q::qd) by
    rw[<-dJ,<-Eg];rfl]
theorem Rm {nr nk:Nat}(V:Vl nr nk I os):(I++os.map oP).filter (λg=>decide (cw g="out"))=os.map oP:=by
 rw[Eg,List.filter_eq_nil_iff.mpr λg m=>?_,kH,List.filter_eq_self.mpr λg m=>?_]
 .let#[q,_,rfl]:=aK.mp m;rfl
 .have:=(V.i g m).1;cases g with
  |aY=>change ¬ decide (("in")="out")=ah;decide
  |_=>cases this
theorem GL (Z:Sc rs ks [] hd rl hold kl op (I++os.map oP) zo) (V:Vl rs.length ks.length J os) (p:I.Perm J) (hM:Kd M J) (tb:B[0]?=ae pP) :
 gh [.d zj,.d zg,.d<|.lst<|(I++os.map oP).map enc,.d<|.aB<|aO M] B=.val (.d<|.bl ah) B:=by
 have z:sizeLine=16777216:=bJ;have ol:=V.ol;have il:=V.l;have alk:I.length<=7:=by rw[p.length_eq];show V.l
 let#[y6,y7,y8,y9,dR,yL,e]:=U6 (B:=B) Z V hM os [] ag ag ag ag ag ag (λ_ m=>m) (by change 0+os.length<=50;lia);rw[kH]at e;have bl:(kW rl hold op kl J os os).length<=os.length:=GK;let#[r,hr,_]:=Ri (T:=kW rl hold op kl J os os) za;have tv:=GI Z V tb;have sv:=Nr (B:=Bq B (eO rl hold op kl J os) os<|kW rl hold op kl J os os) Z V hr;have dv:=U4 (env:=[ae<|.d zj,ae<|.d zg,ae<|.d<|.lst<|(I++os.map oP).map enc,ae<|.d<|.aB<|aO M,ag,ag,ag,ag,ag,ag,ag,ag]) (m:=fm K32.jE 3<|ff (dV 0)<|ff (dV 1)<|ff (dV 2) fj) (cV tv) V.aiU ol;have ov:=Rm<|V.perm p;have gl:(I++os.map oP).length<=100:=by rw[cB,aV];lia
 have cp:∀ {env:bf}{B:List Bx},env[2]?=ae (ae<|.d<|.lst<|(I++os.map oP).map enc)->fN af [ag] (bM<|dV 2) (fg 0) (dB<|d2 af aX (d2 af ax (dV 0) zb)<|dC<|.str "out") (dV 0) env B=.val (.d<|.lst<|(os.map oP).map enc) B:=λ{env B} a=>by
  have:=adQ (tf:=dB<|d2 af aX (d2 af ax (dV 0) zb)<|dC<|.str "out") (te:=dV 0) (src:=[ag]) (mi:=bM<|dV 2) (bx0:=B) (λg=>decide (cw g="out")) enc (gp (by rw[jD,a])) zk (by lia) λg _=>#[BP g zk "out",λ_=>rfl];rw[ov]at this;show this
 generalize eO rl hold op kl J os=F at *;generalize kW rl hold op kl J os os=T at *;generalize I++os.map oP=gs at *;have b:ju [ae<|.d zj,ae<|.d zg,ae<|.d zp,ae<|.d<|.aB<|aO M,ag,ag,ag,ag,ag,ag,ag,ag] B=.rt (.d<|.bl ah) (Bq B F os T):=by
  refine(fw<|bS.BQ (y:=.b<|B.length+1) (B1:=Bq B F os [])<|fk dv<|fk ((jX [] zk<|cJ _).trans (by simp[Bq])) zk).trans ((fw<|(ir<|gp<|cp zk).trans e).trans<|f9<|fG (x:=.lst<|r.map D.int) (y:=.lst<|r.map D.int) (r:=.old<|.bl ah) (GJ (r:=.lst<|r.map D.int) zk Zk hr) (cV sv) (by simp[aX,K1.mP]))
 refine(jY (ws:=[.d zj,.d zg,.d zp,.d<|.aB<|aO M]) b).trans ?_;simp[Bq,Ee]
end
theorem aiY {ps:Al}(H:Hs rs ks ps hd):Hs rs ks [] hd:=by
 refine#[H.r1,H.r5,H.k1,H.k4,λ_ m=>(nomatch m),cJ _,?_];have h:=H.hh;simp[house,aQ]at h ⊢;show#[h.1,h.2.1,rfl,h.2.2.2]
abbrev aiZ:aD:=(fv (kK 4 5<|ff (fm K1.fq 2<|ff (dV 0)<|ff (dN af cE<|ff (d2 af ax (dV 1) zb) fj) fj)<|ff (fm K1.fq 2<|ff (dV 0)<|ff (dN af cE<|ff (d2 af ax (dV 1) zi) fj) fj) fj)<|fV<|kh (dV 2)<|gn<|ff (fm K1.fq 2<|ff (dV 0)<|ff (dC<|.int 5) fj)<|ff (dC<|.str "in")<|ff (dV 3)<|ff (dV 4)<|ff (dV 5)<|ff (fm K1.fq 2<|ff (dV 0)<|ff (dC<|.int 30) fj)<|ff (fm K1.fq 2<|ff (dV 0)<|ff (dC<|.int 9) fj) fj)
section
variable {I:List Pg}
theorem Nv {i:Nat}(a:env[i]?=ae (ae<|.d zj)):dN af cE (ff (d2 af ax (dV i) zb) fj) env B=.val (.d<|.int ks.length) B:=
 jh (r:=.old _) [.tup ks] (fk (fG (r:=.old _) (by rw[jD,a]) zk zk) zk) zk
theorem U7 {i:Nat}(a:env[i]?=ae (ae<|.d zj)):dN af cE (ff (d2 af ax (dV i) zi) fj) env B=.val (.d<|.int rs.length) B:=
 jh (r:=.old _) [.tup rs] (fk (fG (r:=.old _) (by rw[jD,a]) zk zk) zk) zk
theorem WB (H:Hs rs ks [] hd) (h:n<bx.length) (p:Int) (hl:I.length<=1000) (i:Int) (i0:0<=i) (i9:i<=9) (x4 x5:Option W) :
 ∃ g q y4 y5,aiZ [xB n,ae<|.d zj,xB bx.length,xN i,x4,x5] (pt (bx++[.lst<|I.map enc]) n p)=.nx [xB n,ae<|.d zj,xB bx.length,xN i,y4,y5] (pt (bx++[.lst<|(I++[g]).map enc]) n q) /\ isIn g=ah /\ rG rs.length ks.length g /\ bu g<=4 /\ aA g=i:=by
 have sz:=bJ;have r1:=H.r1;have r5:=H.r5;have k1:=H.k1;have k4:=H.k4;have hb:n<(bx++[Bx.lst<|I.map enc]).length:=by simp;lia
 let#[k,q1,t1,a0,a1]:=n9 hb p ks.length za za;let#[r,q2,t2,b0,b1]:=n9 hb q1 rs.length za za;let#[h',q3,t3,c0,c1]:=n9 hb q2 5 zh zh;let#[rp,q4,t4,d0,d1]:=n9 hb q3 30 zh zh;let#[w,q5,t5,e0,e1]:=n9 hb q4 9 zh zh;refine#[.aY h' i k r rp w,q5,xN k,xN r,?_,rfl,#[c0,#[i0,i9],#[a0,a1],#[b0,b1],#[d0,by lia],e0,by lia],by change h'<=4;lia,rfl];refine(fw<|bS.BQ<|fk (t1 zk<|Nv zk)<|fk (t2 zk<|U7 zk) zk).trans ((ip<|AX zk (jZ h) (im [.int h',.str "in",.int i,.int k,.int r,.int rp,.int w] (fk (t3 zk zk)<|fk zk<|fk zk<|fk zk<|fk zk<|fk (t4 zk zk)<|fk (t5 zk zk) zk) zm) (jZ h) (by rw[aV];lia)).trans ?_);rw[Cn h,show I.map enc++[D.tup [.int h',.str "in",.int i,.int k,.int r,.int rp,.int w]]=(I++[Pg.aY h' i k r rp w]).map enc by rw[dJ];rfl];rfl
theorem Ct (H:Hs rs ks [] hd) (h:n<bx.length) (p:Int):∃ I q,jt [.b n,.d zj] (pt bx n p)=.val (.d<|.lst<|I.map enc) (pt bx n q) /\ Vl rs.length ks.length I []:=by
 have sz:=bJ;have h0:n<(bx++[Bx.lst []]).length:=by simp;lia
 let#[r6,p1,t6,a0,a1]:=n9 h0 p 6 zh zh;let#[c,hc]:=Ip (show 0<=2+r6 by lia)
 let#[bp,bx',e2,I,x3,x4,x5,q,rfl,rfl,hl,nd,lt,ok]:=mN (g:=fg 3) (λi env bb=>∃ (I:List Pg) (x3 x4 x5:Option W) (q:Int),env=[xB n,ae<|.d zj,xB bx.length,x3,x4,x5] /\ bb=pt (bx++[.lst<|I.map enc]) n q /\ I.length=i /\ (I.map aA).Nodup /\ (∀ g∈I,aA g<i) /\ ∀ g∈I,isIn g=ah /\ rG rs.length ks.length g /\ bu g<=4) (fQ 0 c) 0 [xB n,ae<|.d zj,xB bx.length,ag,ag,ag] (pt (bx++[.lst<|([]).map enc]) n p1) #[[],_,_,_,_,rfl,rfl,rfl,.nil,λ_ m=>(nomatch m),λ_ m=>(nomatch m)] (by
  rintro i w env bb hw ⟨I,x3,x4,x5,q,rfl,rfl,hl,nd,lt,ok⟩;let#[rfl,hi]:=AY hw;let#[g,q',y4,y5,e,g1,g2,g3,g4]:=WB H h q (I:=I) za (0+(i)) za za x4 x5;refine#[_,_,_,_,rfl,e,I++[g],_,_,_,q',rfl,rfl,by simp[hl],?_,λx m=>?_,λx m=>?_]
  .rw[dJ,pw];refine#[nd,by simp,λa ma b mb z=>?_];let#[x,mx,ex]:=aK.mp ma;have:=lt x mx;have eb:b=aA g:=by simpa using mb
   lia
  .rcases dY.mp m with m|m
   .have:=lt x m;lia
   .rw[c8.mp m];lia
  .rcases dY.mp m with m|m
   .show ok x m
   .rw[c8.mp m];show#[g1,g2,g3])
 have hl:I.length=0+c:=by simpa[fQ] using hl
 refine#[I,q,?_,#[ok,nd,by lia,by lia,λ_ m=>(nomatch m),.nil,.nil,cJ _]];refine(jY (bx':=(pt (bx++[.lst<|I.map enc]) n q).set bx.length .dead) (qS (w:=.b bx.length) (bx1:=pt (bx++[.lst []]) n p) (by rw[<-oB h,<-iH (bx:=bx) (n:=n) (p:=p)];show jX [] zk (cJ _)) ((fw ((ir (l:=fQ 0 c) (by
  have:=mB (k:=ff (d2 af fO zq<|fm K1.fq 2<|ff (dV 0)<|ff (dC<|.int 6) fj) fj) (env:=[xB n,ae<|.d zj,xB bx.length,ag,ag,ag]) (bx:=pt (bx++[.lst []]) n p) (bx1:=pt (bx++[.lst []]) n p1) (j:=2+r6) (fk (fG (x:=.int 2) (y:=.int r6) (r:=.old<|.int<|2+r6) zk (t6 zk zk) zk) zk) za;rw[hc,pC]at this;show this)).trans e2)).trans<|f9<|Mt zk<|jZ h))).trans ?_
 rw[Cn h,iH,Do h]
end
section
variable {nr nk:Nat} {I J:List Pg} {h e k:Int}
theorem Vl.snoc (V:Vl nr nk I os) (hr:∀ x∈os,x.1<h) (h7:7<=h) (me:e∈I.map aA) (ne:e∉os.map (·.2)) (l:os.length<=4):Vl nr nk I (os++[(h,e)]):=by
 refine#[V.i,V.nd,V.n,V.l,λq m=>?_,xA.mpr #[V.h,aaI ..,λa ma b mb=>?_],?_,by rw[cB];change os.length+1<=5;lia]
 .rcases dY.mp m with m|m
  .show V.m q m
  .rw[c8.mp m];show#[h7,me]
 .rw[c8.mp mb];show hr a ma
 .rw[dJ,pw];refine#[V.on,by simp,λa ma b mb z=>?_];have:b=e:=by simpa using mb
  show ne (by rw[<-this,<-z];show ma)
theorem DP {x:Int}(hx:x<h):c6 J (os++[(h,e)]) x=c6 J os x:=by
 unfold c6;rw[Eg,show [(h,e)].filter _=[] from List.filter_eq_nil_iff.mpr λq m=>by rw[c8.mp m];lia,kG]
theorem CB {x:Int}(hx:x<=h):(λg=>rv rl hold op kl (J++(os++[(h,e)]).map oP) g x)=λg=>rv rl hold op kl zo g x:=by
 funext g;rw[dJ,<-eD];show UX (λy m=>by rw[c8.mp m];show hx) g
theorem Rn {q:Int×Int}(hq:q.1<h):eO rl hold op kl J (os++[(h,e)]) q=eO rl hold op kl J os q:=by
 unfold eO;rw[DP za,CB za];rw[congrFun (CB za) _]
theorem Nw (V:Vl nr nk J os) {f:Pg->Int}{t:List Int}(er:pO f (bT k<|cH<|c6 J os h)=e::t):∃ g∈J,aA g=e /\ bI g=k /\ e∉(os.filter λq=>decide (q.1<=h)).map (·.2):=by
 have:e∈pO f (bT k<|cH<|c6 J os h):=by rw[er];show bw ..
 let#[g,m,eg]:=aK.mp this;let#[m1,m2]:=dq.mp (dq.mp m).1;let#[m3,m4]:=dq.mp<|(gD _).mem_iff.mp m1;have m4:=of_decide_eq_true m4;rw[eg]at m4;show#[g,m3,eg,of_decide_eq_true m2,m4]
theorem Ro (V:Vl nr nk J os) (W:Vl nr nk J<|os++[(h,e)]) (hr:∀ x∈os,x.1<h) (nt:∀ q∈os,eO rl hold op kl J os q=ag) {t:List Int}(er:pO (λg=>rv rl hold op kl zo g h) (bT k<|cH<|c6 J os<|h-1)=e::t) :
 ∀ q∈os++[(h,e)],eO rl hold op kl J (os++[(h,e)]) q=ag:=λq m=>by
 rcases dY.mp m with m|m
 .rw[Rn<|hr q m];show nt q m
 .have em:=c8.mp m;subst em;let#[g,mg,eg,ek,_]:=Nw V er;rcases Nu W (q:=(h,e)) zf with⟨e1,_⟩|⟨y,s,e1,e2,e3⟩
  .show e1
  .refine absurd ?_ e3;have pg:cY J e=g:=by rw[<-eg];show UZ V.nd mg
   rw[pg,ek,DP za,CB za,er];show bw ..
end
abbrev Zl:aD:=(fv (fE (d2 af fO (d2 af fO (dV 8) zb)<|fm K1.fq 2<|ff (dV 2)<|ff (dC<|.int 9) fj)<|fg 8)<|fv (fE (fm K32.gJ 6<|ff (dV 4)<|ff (dV 5)<|ff (dV 6)<|ff (dV 7)<|ff (dV 8)<|ff (fm K1.fq 2<|ff (dV 2)<|ff (dN af cE<|ff (d2 af ax (dV 4) zb) fj) fj) fj)<|fg 10)<|aS (dB<|d2 af eA (dV 10)<|gz af fj) (fE (d2 af fO (dV 6)<|gz af<|ff (gn<|ff (dV 8)<|ff (dC<|.str "out")<|ff (d2 af ax (dV 10) zi) fj) fj)<|fg 6) aW)
abbrev aej:aD:=zu
abbrev lE (l:List Int) (k:Int) (n:Nat) (W0 H O P M:D) (hr:Int) (x9 bz cZ eR:Option W):bf:=[ae<|.s l,ae<|.d<|.int k,ae<|.b n,ae<|.d W0,ae<|.d H,ae<|.d O,ae<|.d P,ae<|.d M,ae<|.d<|.int hr,x9,bz,cZ,eR]
theorem ai0 {f:α->D}{l:List α}{c:Int}{v:α}(c0:0<=c) (h:l[c.toNat]?=ae v):ax (.lst<|l.map f) (.int c)=ae (.old<|f v):=by
 let#[hl,e]:=List.getElem?_eq_some_iff.mp h;have:=Fq (l.map f) c.toNat (by rw[aV];show hl);rw[show ((c.toNat))=c by lia,List.getElem_map,e]at this;simp[ax,this,sU]
theorem ai1 {n:List D}{v:D}:ax (.lst<|n++[v]) (.int<|-1)=ae (.old v):=by
 have:bO (n++[v]) (-1)=ae v:=by
  unfold bO dG;simp;rw[if_pos za,show (-1+((n.length:Int)+1)).toNat=n.length by lia];simp
 simp[ax,this,sU]
theorem ai2 {n:List D}{v:D}:DL.cutD (n++[v]) ag (ae<|-1)=n:=by
 unfold DL.cutD;rw[HT.CK,aaF,HM,show HT.br (n++[v]).length (n++[v]).length _=n.length by
  change (if (-1)<0 then (-1+((n++[v]).length:Int)).toNat else min (-1).toNat (n++[v]).length)=_;rw[if_pos zh,cB];change (-1+((n.length+1):Int)).toNat=_;lia]
 simp
section
variable {W0:D} {I J:List Pg} {M:Al} {A:List Bx} {h k:Int} {l:List Int}
theorem Vl.init {nr nk:Nat}{x:Int×Int}(V:Vl nr nk I<|os++[x]):Vl nr nk I os:=by
 have on:=V.on;rw[dJ,pw]at on;have ol:=V.ol;rw[cB]at ol;show#[V.i,V.nd,V.n,V.l,λq m=>V.m q<|qM _ m,(xA.mp V.h).1,on.1,by lia]
structure Dw (rs ks:List D) (hd:D) (rl:List Int) (hold:Int) (kl:List<|Int×List Int) (op:Al) (I J:List Pg) (M:Al):zw where
 X:Hk rs ks [] hd rl hold kl
 ol:op.length<=4
 ob:∀ p∈op,0<=p.1 /\ p.1<p.2
 oa:nP op=ah
 p:J.Perm I
 r:uU J
 m:Kd M J
theorem Dw.sc (Y:Dw rs ks hd rl hold kl op I J M) (V:Vl rs.length ks.length I os):Sc rs ks [] hd rl hold kl op (I++os.map oP) zo:=V.sc Y.X Y.ol Y.ob Y.oa Y.p Y.r
theorem WC (Y:Dw rs ks hd rl hold kl op I J M) (V:Vl rs.length ks.length I os) (hn:n<A.length) (p:Int) (h6:6<=h) (hh:∀ x∈os,x.1<=h) (ol:os.length<=4) (nt:∀ q∈os,eO rl hold op kl J os q=ag) (x9 bz cZ eR:Option W) :
 ∃ qW h' q dR,Zl (lE l k n W0 zj zg (.lst<|(I++os.map oP).map enc) (.aB<|aO M) h x9 bz cZ eR) (pt A n p)=.nx (lE l k n W0 zj zg (.lst<|(I++qW.map oP).map enc) (.aB<|aO M) h' x9 dR cZ eR) (pt A n q) /\ Vl rs.length ks.length I qW /\ 6<=h' /\ (∀ x∈qW,x.1<=h') /\ qW.length<=os.length+1 /\ ∀ q∈qW,eO rl hold op kl J qW q=ag:=by
 have sz:=bJ;have k1:=Y.X.H.k1;have k4:=Y.X.H.k4;have il:=V.l;have VJ:=V.perm Y.p;let#[r9,q1,t9,a0,a1]:=n9 hn p 9 zh zh;let#[kd,q2,tk,b0,b1]:=n9 hn q1 ks.length za za;obtain⟨h',eh⟩:∃ h',h'=h+1+r9:=#[_,rfl];have rp:=DN (B:=pt A n q2) (k:=kd) (Y.sc V) VJ Y.m (h:=h') za;obtain⟨R,hR⟩:∃ R,R=pO (λg=>rv rl hold op kl zo g h') (bT kd<|cH<|c6 J os<|h'-1):=#[_,rfl];rw[<-hR]at rp;have st:∀ {o:OS},(aS (dB<|d2 af eA (dV 10)<|gz af fj) (fE (d2 af fO (dV 6)<|gz af<|ff (gn<|ff (dV 8)<|ff (dC<|.str "out")<|ff (d2 af ax (dV 10) zi) fj) fj)<|fg 6) aW) (lE l k n W0 zj zg (.lst<|(I++os.map oP).map enc) (.aB<|aO M) h' x9 (xJ R) cZ eR) (pt A n q2)=o->Zl (lE l k n W0 zj zg (.lst<|(I++os.map oP).map enc) (.aB<|aO M) h x9 bz cZ eR) (pt A n p)=o:=λkk=>
  qS (fG (r:=.old<|.int h') (fG zk zk zk) (t9 zk zk) (by rw[eh];rfl)) (qS (fJ (fk zk<|fk zk<|fk zk<|fk zk<|fk zk<|fk (tk zk<|Nv zk) zk) zk rp) kk)
 cases R with
 |nil=>show#[os,h',q2,_,st<|(gC<|f8<|fG (r:=.old<|.bl af) zk (iT [] zk<|cJ _) zk).trans zk,V,by lia,λx m=>by have:=hh x m;lia,by lia,nt]
 |cons e t=>
   let#[g,mg,eg,ek,ne]:=Nw VJ hR.symm;have lt:∀ x∈os,x.1<h':=λx m=>by have:=hh x m;lia
   rw[List.filter_eq_self.mpr λx m=>decide_eq_true (by have:=lt x m;lia)]at ne;have V2:=V.snoc lt za (aK.mpr #[g,Y.p.mem_iff.mp mg,eg]) ne ol;refine#[os++[(h',e)],h',q2,_,st<|(iG<|f8<|fG (r:=.old<|.bl ah) zk (iT [] zk<|cJ _) zk).trans<|gQ<|fG (y:=.lst [enc<|oP (h',e)]) (r:=.lst<|(I++(os++[(h',e)]).map oP).map enc) zk (iT [enc<|oP (h',e)] (fk (im [.int h',.str "out",.int e] (fk zk<|fk zk<|fk (fG (x:=.lst<|(e::t).map D.int) (y:=.int 0) (r:=.old<|.int e) zk zk aei) zk) zm) zk) zm) ?_,V2,by lia,λx m=>?_,by rw[cB];show aI _,Ro VJ (V2.perm Y.p) lt nt hR.symm]
   .rw[RZ zm];simp
   .rcases dY.mp m with m|m
    .have:=lt x m;lia
    .rw[c8.mp m];show uq _
theorem Nx {g:Pg}(a:env[6]?=ae (ae<|.d<|.lst<|(gs++[g]).map enc)):d2 af ax (dV 6) (p6 zb) env B=.val (.d<|enc g) B:=
 fG (r:=.old _) (by rw[jD,a]) (Fp zk) (by rw[dJ];show ai1)
theorem Py (Y:Dw rs ks hd rl hold kl op I J M) (V:Vl rs.length ks.length I os) (hn:n<A.length) (p:Int) (hh:∀ x∈os,x.1<=h) (tb:∀ q,(pt A n q)[0]?=ae pP) (x9 bz eR:Option W) :
 ∃ y6 aek q,aej (lE l k n W0 zj zg (.lst<|(I++os.map oP).map enc) (.aB<|aO M) h x9 bz (ae<|.d<|.lst<|(cH<|c6 J os h).map λg=>.int<|aA g) eR) (pt A n p)=.nx (lE l k n W0 zj zg y6 (.aB<|aO M) h x9 bz (ae<|.d<|.lst<|(cH<|c6 J os h).map λg=>.int<|aA g) aek) (pt A n q):=by
 have sz:=bJ;have il:=V.l;have VJ:=V.perm Y.p;have ll:(cH<|c6 J os h).length<=7:=by rw[(gD _).length_eq];show VJ.K4
 have sub:∀ g∈cH (c6 J os h),g∈J /\ aA g∉os.map (·.2):=λg m=>by
  let#[m1,m2]:=dq.mp<|(gD _).mem_iff.mp m;have m2:=of_decide_eq_true m2;rw[List.filter_eq_self.mpr λx m=>decide_eq_true<|hh x m]at m2;show#[m1,m2]
 generalize cH (c6 J os h)=S at *;cases S with
 |nil=>show#[_,eR,p,(gC<|mC<|f8<|fG (r:=.old<|.bl af) zk (iT [] zk<|cJ _) zk).trans zk]
 |cons s S=>
 have t1:∀ {P:D},dB (d2 af eA (dV 11)<|gz af fj) (lE l k n W0 zj zg P (.aB<|aO M) h x9 bz (ae<|.d<|.lst<|(s::S).map λg=>.int<|aA g) eR) (pt A n p)=.val ah (pt A n p):=f8<|fG (r:=.old<|.bl ah) zk (iT [] zk<|cJ _) zk;have t2:∀ {gs:List Pg}{g:Pg},dB (d2 af aX (d2 af ax (d2 af ax (dV 6)<|p6 zb) zb)<|dC<|.str "out") (lE l k n W0 zj zg (.lst<|(gs++[g]).map enc) (.aB<|aO M) h x9 bz (ae<|.d<|.lst<|(s::S).map λg=>.int<|aA g) eR) (pt A n p)=.val (decide (cw g="out")) (pt A n p):=λ{gs g}=>f8<|fG (fG (r:=.old<|.str<|cw g) (Nx zk) zk (by cases g<;>rfl)) zk<|eq_str _ _;rcases aaY os with rfl|⟨c7,x,rfl⟩
 .rcases aaY I with eI|⟨I1,g,eI⟩
  .have:=V.n;rw[eI]at this;show absurd this zh
  .rw[show I++([]).map oP=I1++[g] by rw[eI];simp];have wi:decide (cw g="out")=af:=by
    have:=(V.i g (by rw[eI];simp)).1;cases g with
    |aY=>rfl
    |_=>cases this
   have:=t2 (gs:=I1) (g:=g);rw[wi]at this;show#[_,eR,p,(gC<|lC t1 this).trans zk]
 .rw[List.concat_eq_append]at *;let#[r,q1,tr,r0,r1]:=n9 hn p (s::S).length (by rw[bN];lia) za;have rl:r.toNat<(s::S).length:=by lia
  let#[mo,no]:=sub _<|ph rl;generalize hg:(s::S)[r.toNat]=g at mo no;rw[dJ,dY,not_or]at no;have lt:∀ y∈c7,y.1<x.1:=λy m=>(xA.mp V.h).2.2 y m x zf;have o1:c7.length<=4:=by have:=V.ol;rw[cB]at this;have:c7.length+1<=5:=this;lia
  have V2:=V.init.snoc lt (V.m x zf).1 (aK.mpr #[g,Y.p.mem_iff.mp mo,rfl]) no.1 o1;have rt:=GL (B:=pt A n q1) (Y.sc V2) (V2.perm Y.p) Y.p.symm Y.m<|tb q1;have eP:I++(c7++[x]).map oP=(I++c7.map oP)++[oP x]:=by simp
  have eQ:(I++(c7++[(x.1,aA g)]).map oP)=(I++c7.map oP)++[oP (x.1,aA g)]:=by simp
  rw[eQ]at rt;rw[eP];have gl:(I++c7.map oP).length<=100:=by simp;lia
  generalize I++c7.map oP=gs at *;refine#[_,_,q1,(iG<|lC t1<|t2 (g:=oP x)).trans<|qS (fG (x:=.lst<|(s::S).map λg=>D.int<|aA g) (y:=.int r) (r:=.old<|.int<|aA g) zk (tr zk<|jh (r:=.old<|.int (s::S).length) [.lst<|(s::S).map λg=>D.int<|aA g] zk (by simp[cE]))<|ai0 r0 (by rw[dj rl,hg]))<|qS (fG (x:=.lst zz) (y:=.lst [enc<|oP (x.1,aA g)]) (r:=.lst<|(gs++[oP (x.1,aA g)]).map enc) (Gm (x:=.lst<|(gs++[oP x]).map enc) (i:=ag) (j:=ae<|-1) (r:=.lst zz) zk zk (Gn<|Fp zk) (by erw[vz];rw[dJ];show congrArg (λz=>ae<|Res.lst z) ai2)) (iT [enc<|oP (x.1,aA g)] (fk (im [.int x.1,.str "out",.int<|aA g] (fk (fG (x:=enc<|oP x) (y:=.int 0) (r:=.old<|.int x.1) (Nx zk) zk zk)<|fk zk<|fk zk zk) zm) zk) zm) (by rw[RZ zm];simp))<|(gC<|io<|f8<|cV rt).trans zk]
end
abbrev ael:aD:=(fv (fE (fm K1.jP 1<|ff (fm K1.g9 2<|ff (dV 0)<|ff (dV 1) fj) fj)<|fg 2)<|fv (fE (fm aT.iV 1<|ff (dV 2) fj)<|fg 3)<|fv (kK 4 5<|ff (d2 af fO (qz af (dV 3) qZ<|qy zq)<|gn<|ff (gn fj)<|ff (d2 af ax (dV 3) zA) fj)<|ff (fm K2.jo 2<|ff (dV 2)<|ff (dC<|.int 15) fj) fj)<|fv (fE (fm K32.jt 2<|ff (dV 2)<|ff (dV 4) fj)<|fg 6)<|fv (fE (dN af yG<|ff (fN af [ag] (bM<|dV 6) (fg 0) fU<|gn<|ff (d2 af ax (dV 0) zq)<|ff (d2 af ax (dV 0) zA) fj) fj)<|fg 7)<|fv (fE (dC<|.int 6)<|fg 8)<|fv (iQ (ka<|ff (d2 af fO zb<|fm K1.fq 2<|ff (dV 2)<|ff (dC<|.int 5) fj) fj) (fg 9) Zl)<|fv (aS (nX (dB<|d2 af eA (fm K32.jE 3<|ff (dV 4)<|ff (dV 5)<|ff (dV 6) fj)<|gz af fj)<|eJ<|dB<|fm K32.gh 4<|ff (dV 4)<|ff (dV 5)<|ff (dV 6)<|ff (dV 7) fj) (fK<|dC<|.bl af) aW)<|fv (fE (fN af [ag,ag] (bM<|fm nQ.jc 3<|ff (dV 4)<|ff (dV 6)<|ff (dV 8) fj) (fT 2<|fu (fg 0)<|fu (fg 1) fW) fU<|dV 0)<|fg 11) aej)
theorem W2:Sg=fv (iQ (ka<|ff (dN af maxD<|ff zb<|ff (dN af minD<|ff (uI<|dV 0)<|ff zA fj) fj) fj) (fg 1) ael) (fK<|dC<|.bl ah):=rfl
theorem JZ {F:Int×Int->Option Int}:∀ {l:Al},(∀ q∈l,F q=ag)->told F l=[]:=by
 intro l_;induction l_ with
 |nil=>show λ_=>rfl
 |cons q l ay=>
   intro h;unfold told;rw[eW,h q<|bw ..];show ay λx m=>h x<|bG _ m
theorem lN {l:List α}(h:l.length=n+1):∃ x t,l=x::t /\ t.length=n:=by
 cases l with
 |nil=>cases h
 |cons x t=>show#[x,t,rfl,Nat.succ.inj h]
theorem WD (l:List Int) (k:Nat) (bx:List Bx) (tb:bx[0]?=ae pP) (xs:bf) (hx:xs.length=11):∃ (ys:bf) (bx':List Bx),ys.length=12 /\ bx'[0]?=ae pP /\ ael (ae (.s l)::xN (k:Int)::xs) bx=.nx (ae (.s l)::ys) bx':=by
 iterate 7 (have h:=lN hx;clear hx;let#[_,xs,rfl,hx]:=h)
 have h:=lN hx;clear hx;let#[x9,xs,rfl,hx]:=h;have h:=lN hx;clear hx;let#[bz,xs,rfl,hx]:=h;have h:=lN hx;clear hx;let#[cZ,xs,rfl,hx]:=h;have h:=lN hx;clear hx;let#[eR,xs,rfl,hx]:=h;cases xq hx;have sz:=bJ;let#[c,ec]:=Uq l k bx;let#[p,ep]:=V5 c bx;have b0:0<bx.length:=(List.getElem?_eq_some_iff.mp tb).1;obtain⟨A,hn,pA,tA⟩:∃ A:List Bx,bx.length<A.length /\ bx++[Bx.lst [D.int p]]=pt A bx.length p /\ ∀ q,(pt A bx.length q)[0]?=ae pP:=
  #[bx++[.lst [.int p]],by simp,by unfold pt;simp,λq=>by unfold pt;rw[sN za,kX b0];show tb]
 rw[pA]at ep;generalize bx.length=n at *;let#[rs,ks,ps,hd,q,eh,H]:=aT.MP hn p;have H0:=aiY H;let#[rl,hold,kl,X]:=Wm H0;let#[op,q2,e2,O1]:=M5 (nr:=15) zh zh hn q;let#[I,q3,e3,V0]:=Ct H0 hn q2;have il:=V0.l;have ai3:I.Nodup:=abW aA (λa b h e=>h (by rw[e])) V0.nd;let#[J,pJ,rJ,_]:=Go ai3 za;have nk:((I.map kP).map (·.1)).Nodup:=by rw[bH];show V0.nd
 have Y:Dw rs ks hd rl hold kl op I J (I.map kP):=#[X,O1.l,λx m=>#[(O1.b x m).1,(O1.b x m).2.1],O1.a,pJ,rJ,λg m=>Ds nk<|aK.mpr #[g,pJ.mem_iff.mp m,rfl]];let#[r5,q4,t5,a0,a1]:=n9 hn q3 5 zh zh;let#[c5,ai4]:=Ip (show 0<=1+r5 by lia);have dv:=Ww nk (by rw[aV];lia);let#[bp,bx',f,os,h,x,dR,q5,rfl,rfl,V,h6,hh,ol,nt]:=mN (g:=fg 9) (λi env bb=>∃ (os:Al) (h:Int) (x9 bz:Option W) (q:Int),env=lE l k n zc zj zg (.lst<|(I++os.map oP).map enc) (.aB<|aO<|I.map kP) h x9 bz cZ eR /\ bb=pt A n q /\ Vl rs.length ks.length I os /\ 6<=h /\ (∀ x∈os,x.1<=h) /\ os.length<=i /\ ∀ q∈os,eO rl hold op kl J os q=ag) (fQ 0 c5) 0 (lE l k n zc zj zg (.lst<|(I++([]).map oP).map enc) (.aB<|aO<|I.map kP) 6 x9 bz cZ eR) (pt A n q4) #[[],_,_,_,_,rfl,rfl,V0,by decide,λ_ m=>(nomatch m),aI _,λ_ m=>(nomatch m)] (by
  rintro i w env bb hw ⟨os,h,x9,bz,q,rfl,rfl,V,h6,hh,ol,nt⟩;let#[rfl,hi]:=AY hw;let#[qW,h',q',dR,e,V',ai5,ai6,alm,ai7]:=WC Y V hn q h6 hh za nt (xN<|0+(i)) bz cZ eR;show#[lE l k n zc zj zg (.lst<|(I++os.map oP).map enc) (.aB<|aO<|I.map kP) h (xN<|0+(i)) bz cZ eR,_,_,_,rfl,e,qW,h',_,_,q',rfl,rfl,V',ai5,ai6,by lia,ai7])
 have VJ:=V.perm pJ;have Z:=Y.sc V;have tv:=GI Z VJ<|tA q5;rw[JZ nt]at tv;have rt:=GL Z VJ pJ.symm Y.m<|tA q5;have pv:=Wx (B:=pt A n q5) Z VJ (h:=h) za;have ll:(cH<|c6 J os h).length<=7:=by rw[(gD _).length_eq];show VJ.K4
 have c1:=uT (e:=λg=>dP<|rP g) (g:=fT 2<|fu (fg 0)<|fu (fg 1) fW) (tf:=fU) (te:=dV 0) (B:=pt A n q5) (E:=λg=>[xN<|aA g,xN<|yK g]) (J:=λe=>∃ a b,e=[a,b]) (λ_=>ah) (λg=>.int<|aA g) (λ_=>#[_,_,rfl]) (cH<|c6 J os h) [ag,ag] [] zm #[_,_,rfl] (λq _ env ⟨a,b,e⟩=>by subst e;rfl) λg m=>#[rfl,λ_=>rfl];rw[kH,List.filter_eq_self.mpr λ_ _=>rfl]at c1;let#[y6,aek,q6,e9]:=Py (l:=l) (k:=k) (W0:=hs rs ks ps hd) Y V hn q5 hh tA x dR eR;have cm:∀ {env:bf}{B:List Bx},env[6]?=ae (ae<|.d<|.lst<|I.map enc)->fN af [ag] (bM<|dV 6) (fg 0) fU (gn<|ff (d2 af ax (dV 0) zq)<|ff (d2 af ax (dV 0) zA) fj) env B=.val (.d<|.lst<|(I.map kP).map dP) B:=λ{env B} a=>by
  have:=YS (enc:=enc) (te:=gn<|ff (d2 af ax (dV 0) zq)<|ff (d2 af ax (dV 0) zA) fj) (r:=[]) (bx:=B) (src:=[ag]) (mi:=bM<|dV 6) (env:=env) (bx0:=B) (l:=I) (λg=>dP<|kP g) (gp (by rw[jD,a])) zk (by lia) λg m=>im [.int<|aA g,.int<|bI g] (fk (mU g zk)<|fk (JY (V0.i g m).1 zk) zk) zm;rw[bH];show this
 rw[show I++([]:Al).map oP=I from kG I]at f;have ad:fO (.tup [.tup rs,.tup ks]) (.tup [.tup [],hd])=ae (.tup [.tup rs,.tup ks,.tup [],hd]):=by
  change (if (4:Nat)<=sizeLine then ae (Res.tup [D.tup rs,.tup ks,.tup [],hd]) else ag)=_;rw[if_pos za]
 refine#[_,_,?_,tA q6,qS (fJ (fk (fJ (fk zk<|fk zk zk) zk ec) zk) zk ep) (qS (fJ (fk zk zk) zk eh) ((fw<|bS.BQ<|fk (fG (x:=.tup [.tup rs,.tup ks]) (y:=.tup [.tup [],hd]) (r:=.tup [.tup rs,.tup ks,.tup [],hd]) (Gm (x:=hs rs ks ps hd) (i:=ag) (j:=ae 2) (r:=.tup [.tup rs,.tup ks]) zk zk zk zk) (im [.tup [],hd] (fk (im [] zk<|cJ _)<|fk (fG (x:=hs rs ks ps hd) (y:=.int 3) (r:=.old hd) zk zk zk) zk) zm) ad)<|fk (fJ (l:=[.b n,.d<|.int 15]) zk zk e2) zk).trans (qS (fJ (l:=[.b n,.d zj]) zk zk e3) (qS (jh (r:=.aB<|aO<|I.map kP) [.lst<|(I.map kP).map dP] (fk (cm zk) zk) dv) (qS (w:=.d<|.int 6) zk ((fw ((ir (l:=fQ 0 c5) (by
  have:=mB (k:=ff (d2 af fO zb<|fm K1.fq 2<|ff (dV 2)<|ff (dC<|.int 5) fj) fj) (env:=lE l k n zc zj zg (.lst<|I.map enc) (.aB<|aO<|I.map kP) 6 x9 bz cZ eR) (bx:=pt A n q3) (bx1:=pt A n q4) (j:=1+r5) (fk (fG (x:=.int 1) (y:=.int r5) (r:=.old<|.int<|1+r5) zk (t5 zk zk) zk) zk) za;rw[ai4,pC]at this;show this)).trans f)).trans<|qF (j6 (f8<|fG (x:=.lst []) (y:=.lst []) (r:=.old<|.bl af) (cV tv) (iT [] zk<|cJ _) zk)<|io<|f8<|cV rt)<|qS (gK (gp<|cV pv) zk c1) e9))))))]
 rfl
theorem ai8 (l:List Int) (bx:List Bx) (xs:bf):∃ c:Nat,ka (ff (dN af maxD<|ff zb<|ff (dN af minD<|ff (uI<|dV 0)<|ff zA fj) fj) fj) (ae (.s l)::xs) bx=.val (fQ 0 c) bx:=by
 have e3:=jh [.int 1,.int<|min (l.length) 3] (g:=maxD) (fk (m:=dC _) zk<|fk (jh (env:=ae (.s l)::xs) (bx:=bx) _ (fk (m:=uI<|dV 0) zk<|fk (m:=dC _) (ks:=fj) zk zk)<|Sb _ _) (ks:=fj) zk) zk;generalize hz:(if min (l.length:Int) 3>1 then min (l.length:Int) 3 else 1)=z at e3;show#[z.toNat,mB (fk e3 zk) za]
theorem law_true (l:List Int) (hl:l.length<=1000):∃ bx',K32.Cw [.s l] [pP]=.val (.d<|.bl ah) bx':=by
 let#[c,ec]:=ai8 l _ _;let#[bp,bx',e,#[ys,rfl,hy],tb]:=mN (g:=fg 1) (λ_ env b=>(∃ ys,env=ae _::ys /\ ys.length=12) /\ b[0]?=ae pP) (fQ 0 c) 0 (ae _::List.replicate 12 ag) [pP] #[#[_,rfl,rfl],rfl] (by
  rintro i w env b hw ⟨⟨ys,rfl,hy⟩,tb⟩;let#[k,_,rfl]:=aK.mp<|rS hw;let#[x,ys,rfl,h]:=lN hy;let#[zs,bx',hz,ai9,e]:=WD l k b tb ys h;show#[ae _::ae _::ys,b,_,_,by rw[abp];rfl,e,#[zs,rfl,hz],ai9])
 refine#[_,jY (bx':=bx') ?_];show(fw<|(ir ec).trans e).trans (f9 zk)
end K32
namespace L2.DL
open PySem.W
structure Cf where
 N:List Str
 nm:List (Str×NameKind)
 f:Bool
 bx:List Str
 dc:List Str
 wk:List (Str×Nat)   -- 1: a tuple of aln,2: a box that is walked,3: a dict with tuple keys
 K6:Str
 fs:List (Str×(Nat×(List W->List Bx->O W)))
 gl:List (Str×Int)
 bl:List Str
 rb:Bool
 ow:List Str
 lm:Option ai:=ag   -- the table of its code,if it has a aja
 qn:Str:=""
structure cS (c:Cf) (k:Nat) (X:Cx) (Z:Xs):zw where
 N:X.N=c.N
 nm:X.env.scope.names=c.nm
 kd:X.env.scope.kind=.function
 calm:X.calm=ah
 fn:c.f=ah->∀ x,X.fn x=ah
 ow:∀ x,x∈c.ow->X.fn x=ah
 nd:c.N.Nodup
 room:kI k X.A
 fs:∀ x n fn,c.fs.lookup x=ae (n,fn)->∃ kk ps,uK X.prog X.w X.K X.mg X.base Z.cl kk x ps fn /\ ps.length=n /\ kk<=k
 gl:∀ x v,c.gl.lookup x=ae v->∃ t,X.mg x=ae (.int v t)
 bl:∀ x,x∈c.bl->X.mg x=ag
 ajb:Passes (tQ X.prog X.w) X Z.E
 ti:qw X.K "int"
 tb:qw X.K "bool"
 tt:qw X.K "tuple"
 tl:qw X.K "list"
 own:PassesOwn ze X.A X.env X.xe
 lm:∀ P,c.lm=ae P->∃ cc,X.env.code=.ref cc /\ X.env.qual=c.qn /\ (∀ h,X.K.In h->PySem.W.CodeHd h cc P) /\ X.base.BuiltinsAt X.mg P /\ mainGlobals≠P
noncomputable def bc:DE α:=λ_ _=>.bad
section
variable {o:Option au}
theorem fH:PD X T Z e bc:=λ_ _ _ _ _ _ h=>by
 let#[_,_,_,_,_,h]:=h;show h.elim
theorem gO:eG X T Z e bc:=λ_ _ _ _ _ _ h=>by
 let#[_,_,_,_,_,h]:=h;show h.elim
theorem GM:tV X T Z e bc:=λ_ _ _ _ _ _ _ h=>by
 let#[_,_,_,_,_,h]:=h;show h.elim
theorem Rp:ez X T Z es bc:=λ_ _ _ _ _ _ _ h=>by
 let#[_,_,_,_,_,h]:=h;show h.elim
theorem CC:uF X T Z tg e bc:=λ_ _ _ _ _ _ h=>by
 let#[_,_,_,_,_,h]:=h;show h.elim
noncomputable def wX:DG:=λ_ _ _=>ag
noncomputable def aem:p4:=λ_ _ _=>ag
theorem lO:pG X T e wX:=λ_ _ _ _ _ _ _ _ _ h=>by
 let#[_,_,_,_,_,_,_,h]:=h;show h.elim
theorem Ny:uE X T es aem:=λ_ _ _ _ _ _ _ _ _ h=>by
 let#[_,_,_,_,_,_,_,h]:=h;show h.elim
end
noncomputable def Cf.kd (c:Cf) (x:Str) (n:Nat):Bool:=match c.wk.lookup x with|some k=>k==n|none=>af
def K7 (c:Cf) (n:Nat):au->Bool
 |.Name x _=>c.kd x n
 |.Subscript _ (.Constant (.str x) _ _) _=>c.kd x n
 |_=>af
noncomputable def wY (c:Cf):au->Bool
 |.Name x _=>c.dc.contains x
 |.Subscript _ (.Constant (.str x) _ _) _=>c.dc.contains x
 |.Call (.Name x _) _ _ _=>c.dc.contains x
 |_=>af
noncomputable def Cf.ix (c:Cf) (x:Str):Option Nat:=c.N.findIdx? λy=>decide (y=x)
theorem Cf.Zm {c:Cf}{i:Nat}(h:c.ix x=ae i):c.N[i]?=ae x:=by
 let#[h1,h2,_]:=List.findIdx?_eq_some_iff_getElem.mp h;rw[dj h1,of_decide_eq_true h2]
noncomputable def Cf.K8 (c:Cf) (x:Str):Bool:=(decide (c.nm.lookup x=ae .local)||decide (c.nm.lookup x=ae .cell)||decide (c.nm.lookup x=ae .free))&&!(x==("__debug__":Str))&&!(x==("__classdict__":Str))
noncomputable def Cf.Hv (c:Cf) (x:Str):Bool:=decide (c.nm.lookup x=ae .globalImplicit)&&!(x==("__debug__":Str))&&decide (x≠("__name__":Str))
noncomputable def Cf.wZ (c:Cf) (x:Str):Bool:=(decide (c.nm.lookup x=ae .local)||decide (c.nm.lookup x=ae .cell))&&(c.f||decide (x∈c.ow)||decide (c.nm.lookup x=ae .local))
def Cf.pf (c:Cf) (x:Str):Bool:=c.Hv x&&decide (x∈c.bl)
section
variable {c:Cf} {k:Nat} {i:Nat} 
theorem cS.aen (O:cS c k X Z) (h:c.K8 x=ah):xS X.env.scope x /\ (x==("__debug__":Str))=af /\ (x==("__classdict__":Str))=af:=by
 erw[Cf.K8,aQ,xD,decide_eq_true_eq,uk]at h;unfold xS;rw[O.nm];show#[or_assoc.mp h.1.1,h.1.2,h.2]
theorem cS.gb (O:cS c k X Z) (h:c.Hv x=ah):Gl X x /\ (x==("__debug__":Str))=af /\ x≠("__name__":Str):=by
 erw[Cf.Hv,aQ,decide_eq_true_eq,uk]at h;unfold Gl Env.kindOf;rw[O.nm];show#[h.1.1,h.1.2,h.2]
theorem cS.lo (O:cS c k X Z) (h:c.wZ x=ah):Loc X.env.scope x /\ (X.fn x=ah \/ X.env.scope.names.lookup x=ae .local):=by
 simp[Cf.wZ,aQ,xD,decide_eq_true_eq]at h;unfold Loc;rw[O.nm];show#[h.1,h.2.imp (λz=>z.elim (λz=>O.fn z x)<|O.ow x) id]
theorem cS.blt (O:cS c k X Z) (h:c.pf x=ah):Gl X x /\ (x==("__debug__":Str))=af /\ x≠("__name__":Str) /\ X.mg x=ag:=by
 simp[Cf.pf,aQ,decide_eq_true_eq]at h;let#[a,b,d]:=O.gb h.1;show#[a,b,d,O.bl x h.2]
theorem cS.at (O:cS c k X Z) (h:c.ix x=ae i):X.N[i]?=ae x:=by rw[O.N];show c.Zm h
theorem cS.vP (O:cS c k X Z):X.N.Nodup:=by rw[O.N];show O.nd
theorem cS.u0 (O:cS c k X Z):X.A.units+100<cLine:=by have:=O.room.un;lia
theorem cS.u1 (O:cS c k X Z):X.A.units+1<cLine:=by have:=O.room.un;lia
def Zn (c:Cf) (fz:Bool) (x:Str):DE W:=match c.ix x with
 |some i=>if c.K8 x then (if fz&&c.bx.contains x then sq i else dV i) else bc
 | none=>match c.gl.lookup x with
   |some v=>if c.Hv x then dC (.int v) else bc
   |none=>bc
theorem Nz (O:cS c k X Z) (fz:Bool):PD X T Z (.Name x pos) (Zn c fz x):=by
 unfold Zn;split
 .ext i e;split
  .ext h;let#[a,b,d]:=O.aen h;split
   .show TH i (O.at e) a b d
   .show Ln i (O.at e) a b d
  .show fH
 .split
  .ext v e;split
   .ext h;let#[a,b,_]:=O.gb h;show OD a (O.gl x v e) b
   .show fH
  .show fH
end
section
variable {c:Cf} {k:Nat} {f:au -> DE W} {t:au -> DE Bool} {g:au -> DG}
def xa (f:au->DE W):List au->DE (List W)
 |[]=>fj
 |e::es=>if cu e then ff (f e) (xa f es) else bc
theorem oH (h:∀ e,PD X T Z e<|f e):∀ es,ez X T Z es (xa f es)
 |[]=>jI
 | e::es=>by
   unfold xa;split
   .ext n;show lR (h e) (oH h es) n
   .show Rp
def Zo (f:au->DE W):List au->DE W
 |[]=>bc
 |[a]=>f a
 |a::r=>gE (f a)<|Zo f r
theorem GN (h:∀ e,PD X T Z e<|f e):∀ es,PD X T Z (.BoolOp .And es pos) (Zo f es)
 |[]=>fH
 |[a]=>Td<|h a
 |a::b::r=>Te (h a)<|GN h _
def Zp (f:au->DE Bool):List au->DE Bool
 |[]=>bc
 |[a]=>f a
 |a::r=>k9 (f a)<|Zp f r
theorem DQ (h:∀ e,eG X T Z e<|t e):∀ es,tV X T Z (.BoolOp .And es pos) (Zp t es)
 |[]=>GM
 |[a]=>Lr<|h a
 |a::b::r=>N9 (h a)<|DQ h _
def Zq (f:au->DE Bool):List au->DE Bool
 |[]=>bc
 |[a]=>f a
 |a::r=>nX (f a)<|Zq f r
theorem GO (h:∀ e,eG X T Z e<|t e):∀ es,tV X T Z (.BoolOp .Or es pos) (Zq t es)
 |[]=>GM
 |[a]=>N8<|h a
 |a::b::r=>Tc (h a)<|GO h _
def K9 (g:au->DG):List au->p4
 |[]=>fW
 |e::es=>if cu e then fu (g e) (K9 g es) else aem
theorem NA (h:∀ e,pG X T e<|g e):∀ es,uE X T es (K9 g es)
 |[]=>Ly
 | e::es=>by
   unfold K9;split
   .ext n;show TV (h e) (NA h es) n
   .show Ny
end
def aeo:Operator->Option (D->D->Option Res)
 |.Add=>ae fO|.Sub=>ae kg|.Mult=>ae dI|.FloorDiv=>ae wt|.Mod=>ae p5|.Pow=>ae yo
 |_=>ag
def vQ:CmpOp->Option (D->D->Option Res)
 |.Eq=>ae aX|.NotEq=>ae eA|.Lt=>ae eN|.LtE=>ae pH|.Gt=>ae n6|.GtE=>ae ng|.In=>ae (inD af)|.NotIn=>ae<|inD ah
 |_=>ag
theorem Rq {op:Operator}(h:aeo op=ae g):∃ q,bA X (binaryOp op) q /\ cA q g:=by
 cases op<;>cases h
 .show#[_,On,ag1]
 .show#[_,SL,ag2]
 .show#[_,Oy,ahq]
 .show#[_,SN,ag4]
 .show#[_,SO,ag5]
 .show#[_,LB,ag3]
theorem lP {op:CmpOp}(hu:X.A.units+100<cLine) (h:vQ op=ae g):∃ q,bA X (compareOp op) q /\ cA q g:=by
 cases op<;>cases h
 .show#[_,TC hu,aho]
 .show#[_,TD hu,ahp]
 .show#[_,Ub za,aib]
 .show#[_,TF za,ahr]
 .show#[_,Vu,ag6]
 .show#[_,Vv,ag7]
 .show#[_,G2.or<|TW hu,okIn af]
 .show#[_,B7.or<|Jt hu,okIn ah]
def Zr:List (Str×(Bool×(String×(List D->Option Res)))):=
 [("len",af, "len",cE),("all",af, "all",dU),("any",af, "any",He),("sorted",af, "sorted",dQ),("max",af, "max",maxD),("min",af, "min",minD),
  ("tuple",ah, "tuple",vv),("dict",ah, "dict",yG)]
def ajc (X:Cx) (x:Str) (p:Bool×(String×(List D->Option Res))):zw:=
 match p with
 |(af,id,g)=>bootBuiltins x=ae (.builtin id) /\ ∃ q,hG X (.builtin id) q /\ k8 q g
 |(ah,id,g)=>bootBuiltins x=ae (.type id) /\ ∃ q,hG X (.type id) q /\ k8 q g
theorem jg {α:Type}{P:Str->α->zw}:∀ {l:List (Str×α)}{x:Str}{a:α},(∀ p∈l,P p.1 p.2)->l.lookup x=ae a->P x a
 |[],_,_,_,e=>by cases e
 | (y,b)::r,x,a,h,e=>by
   rw[nR]at e;cases hx:x==y with
   |true=>
     rw[hx]at e;cases e;have:x=y:=by simpa using hx
     subst this;show h _<|bw ..
   |false=>
     rw[hx]at e;show jg (λp m=>h p<|bG _ m) e
theorem Rr (hc:X.calm=ah) (hu:X.A.units+100<cLine) {p:Bool×(String×(List D->Option Res))}(h:Zr.lookup x=ae p):ajc X x p:=by
 refine jg (λp m=>?_) h;simp[Zr,aZ,qg,or_false]at m;rcases m with rfl|rfl|rfl|rfl|rfl|rfl|rfl|rfl
 .show#[rfl,_,mG,ag9]
 .show#[rfl,_,Jf hc,ahd]
 .show#[rfl,_,Ju hc,ahL]
 .show#[rfl,_,Fa hu,ahI]
 .show#[rfl,_,GX hc,ahf]
 .show#[rfl,_,GY hc,ahg]
 .show#[rfl,_,Bd,ahe]
 .show#[rfl,_,JM hc,air]
noncomputable def Zs:List (Str×String):=[("int","int"),("bool","bool"),("tuple","tuple"),("list","list")]
theorem NB {c:Cf}{k:Nat}(O:cS c k X Z) {n:String}(h:Zs.lookup x=ae n):qw X.K n /\ bootBuiltins x=ae (.type n):=by
 refine jg (P:=λx n=>qw X.K n /\ bootBuiltins x=ae (.type n)) (λp m=>?_) h;simp[Zs,aZ,qg,or_false]at m;rcases m with rfl|rfl|rfl|rfl
 .show#[O.ti,rfl]
 .show#[O.tb,rfl]
 .show#[O.tt,rfl]
 .show#[O.tl,rfl]
end L2.DL
variable {c:L2.DL.Cf}
namespace L2.DL
open PySem.W
noncomputable def Hw:au->Bool
 |.Call ..=>af
 |_=>ah
theorem lQ {o:au}{a:Str}{env:Env}{whole:Sem aj}(h:Hw o=ah):attributeBase o a env whole=whole:=by
 cases o<;>first|rfl|cases h
noncomputable def plainT:au->Bool
 |.BoolOp ..|.UnaryOp ..|.IfExp ..|.Compare ..=>af
 |_=>ah
theorem J0 {env:Env}(h:plainT e=ah) (whole:Sem aj):PySem.isTrue e env whole=(do let v <-whole;standAt e.pos;holding [v] (truthy v)):=by
 cases e<;>first|rfl|cases h
noncomputable def Qa:au->Bool
 |.Set ..=>af
 |_=>ah
theorem mW {env:Env}(h:Qa e=ah) (x:aj):foldedSetIterable e env x=pure x:=by
 cases e<;>first|rfl|cases h
noncomputable def pN:au->Bool
 |.ListComp ..|.SetComp ..|.DictComp ..=>ah
 |_=>af
theorem mX {t:Option au}{l:Nat}{env:Env}(h:pN e=af):swapsWith e t l env=pure af:=by
 cases e<;>first|rfl|cases h
noncomputable def Hx:au->Bool
 |.Slice ..=>af
 |_=>ah
section
variable {a b o:au} {p:aG}
theorem Ba (h:Hx b=ah):IT b:=λ_ _=>by
 cases b<;>first|rfl|cases h
theorem GP (h:Hx b=ah):ER b:=λ_ _=>by
 cases b<;>first|rfl|cases h
theorem Qb {env:Env}(h:cu e=ah):((backTo pos<|starEach [e] env).all (λx=>!x.1)&&(backToKw pos<|keywordEach [] env).all (λx=>x.1.isSome)&&decide ([e].length+([]:List Keyword).length+(if ([]:List Keyword).isEmpty then 0 else 1)<30))=ah:=by
 rw[fI h];rfl
theorem WE {Q:VK}(h:tD T Z (nj af ma) σ H Q):aca (tD T Z ma) σ H Q:=by
 let#[F,r,env,bx,R,h]:=h;refine#[F,r,env,bx,R,End.bind h λx bx1 F1 r1 v H1 g1 R1 d1 h1=>?_];cases x with
 |d d=>
   rw[Aa<|d1];cases d<;>show h1 F1 r1 _ H1 (.refl F1 r1) R1 zk
 |_=>show h1.elim
theorem U8 {Q:VK}(h:tD T Z (nj ah ma) σ H Q):acb (tD T Z ma) σ H Q:=by
 let#[F,r,env,bx,R,h]:=h;refine#[F,r,env,bx,R,End.bind h λx bx1 F1 r1 v H1 g1 R1 d1 h1=>?_];cases x with
 |d d=>
   rw[Aa<|d1];cases d<;>show h1 F1 r1 _ H1 (.refl F1 r1) R1 zk
 |_=>show h1.elim
theorem Rs (hu:X.A.units+1<cLine) (hi:PD X T Z e mb) (ho:PD X T Z o ma) (hm:behindInMarks .In o=af):eG X T Z (.Compare e [.In] [o] pos) (dB<|ni af mb ma):=
 PT.imp (An (B8 hu hi ho) hm) λσ H Q h=>Gb<|G7 h
theorem Rt (hu:X.A.units+1<cLine) (hi:PD X T Z e mb) (ho:PD X T Z o ma) (hm:behindInMarks .In o=af):eG X T Z (.Compare e [.In] [o] pos) (dB<|qC mb ma):=
 PT.imp (An (B8 hu hi ho) hm) λσ H Q h=>RU<|G7 h
theorem NC (hu:X.A.units+1<cLine) (hi:PD X T Z e mb) (ho:PD X T Z o ma) (hm:behindInMarks .NotIn o=af):eG X T Z (.Compare e [.NotIn] [o] pos) (dB<|ni ah mb ma):=
 PT.imp (An (Bz hu hi ho) hm) λσ H Q h=>LX<|G7 h
end
section
variable {k:Nat} {p:aG} {f:au -> DE W} {o:au}
def yM (c:Cf) (f:au->DE W) (bo:Bool) (x:Str) (es:List au):DE W:=
 match c.fs.lookup x with
 | some (n,fn)=>(match es with
   |[]=>bc
   |e::es=>if c.Hv x&&pL (e::es) then fm fn n (xa f (e::es)) else bc)
 | none=>match Zr.lookup x with
   | some (_,_,g)=>(match es with
     |[]=>bc
     |e::es=>if c.pf x&&pL (e::es) then dN bo g (xa f (e::es)) else bc)
   |none=>bc
theorem Ak (O:cS c k X Z) (h:∀ e,PD X T Z e<|f e) (bo:Bool) (es:List au):PD X T Z (.Call (.Name x p) es [] pos) (yM c f bo x es):=by
 unfold yM;split
 .ext n fn e;split
  .show fH
  .split
   .ext a as q;rw[aQ]at q;let#[g1,g2,_]:=O.gb q.1;let#[kk,ps,hh,hn,hk]:=O.fs x n fn e;show VO hh O.room hk g1 O.ajb (oH h _) q.2 hn g2
   .show fH
 .split
  .ext ty id g e;split
   .show fH
   .split
    .ext a as q;rw[aQ]at q;let#[g1,g2,g3,g4]:=O.blt q.1;have b:=Rr O.calm O.u0 e;cases ty with
     |false=>
       let#[b1,qq,b2,b3]:=b;show RT bo b2 b3 g1 g4 b1 (oH h _) q.2 g3 g2
     |true=>
       let#[b1,qq,b2,b3]:=b;show TU bo b2 b3 g1 g4 b1 (oH h _) q.2 g3 g2
    .show fH
  .show fH
noncomputable def Zt (c:Cf):au->Bool
 |.Name x _=>decide (x=c.K6)
 |_=>af
def ajd (c:Cf):au->Bool
 |.Call (.Name x _) _ _ _=>c.kd x 3
 |_=>af
def Zu (c:Cf) (f:au->DE W) (bo:Bool) (x:Str) (es:List au):DE W:=
 if x="isinstance" then (match es with
  | [a,.Name t _]=>(match Zs.lookup t with
    |some n=>if c.pf "isinstance"&&c.pf t&&cu a then lb n (f a) else bc
    |none=>bc)
  |_=>bc)
 else match es with
  |[.Call (.Name y _) [a] [] _]=>if x="sorted" /\ y="set" then (if c.pf "sorted"&&c.pf "set"&&cu a then dN bo wJ (ff (f a) fj) else bc) else yM c f bo x es
  |[.Call (.Attribute o n ap) [] [] cp]=>if x="sorted" /\ n="items" then (if c.pf "sorted"&&Hw o&&(ap.endLine==cp.line) then Hq bo (f o) else bc) else if x="list" /\ n="values" then (if c.pf "list"&&Hw o&&(ap.endLine==cp.line) then yJ bo (f o) else bc) else yM c f bo x es
  |[a]=>if x="max" then (if c.pf "max"&&cu a then dN bo wM (ff (f a) fj) else bc) else if x="dict" /\ ajd c a=ah then (if c.pf "dict"&&cu a then Hu (f a) else bc) else if x="len" /\ Zt c a=ah then (if c.pf "len"&&cu a then uI (f a) else bc) else yM c f bo x es
  |_=>yM c f bo x es
theorem ND (O:cS c k X Z) (h:∀ e,PD X T Z e<|f e) (bo:Bool) (es:List au):PD X T Z (.Call (.Name x p) es [] pos) (Zu c f bo x es):=by
 unfold Zu;split
 .ext hx;subst hx;split
  .ext a t tp;split
   .ext n e;split
    .ext q;erw[aQ]at q;let#[g1,g2,g3,g4]:=O.blt q.1.1;let#[j1,j2,j3,j4]:=O.blt q.1.2;let#[y1,y2]:=NB O e;show VP y1 g1 g4 j1 j4 y2 (h a) q.2 j3 j2
    .show fH
   .show fH
  .show fH
 ··split
   .ext y q1 a q2;split
    .ext hx;let#[rfl,rfl]:=hx;split
     .ext q;erw[aQ]at q;let#[g1,g2,g3,g4]:=O.blt q.1.1;let#[j1,j2,j3,j4]:=O.blt q.1.2;show Fg bo O.calm g1 g4 j1 j4 (lR (h a) jI q.2) q.2
     .show fH
    .show Ak O h bo _
   .ext o n ap cp;split
    .ext hx;let#[rfl,rfl]:=hx;split
     .ext q;erw[aQ]at q;let#[g1,g2,g3,g4]:=O.blt q.1.1;show JQ bo O.calm (by have:=O.u0;lia) g1 g4 (h o) (lQ q.1.2) q.2
     .show fH
    .split
     .ext hx;let#[rfl,rfl]:=hx;split
      .ext q;erw[aQ]at q;let#[g1,g2,g3,g4]:=O.blt q.1.1;show Ng bo O.calm g1 g4 (h o) (lQ q.1.2) q.2
      .show fH
     .show Ak O h bo _
   .rename_i a _ _;split
    .ext hx;subst hx;split
     .ext q;rw[aQ]at q;let#[g1,g2,g3,g4]:=O.blt q.1;show RT bo (JA O.calm) aic g1 g4 (by decide +kernel) (lR (h a) jI q.2) (by simp[pL,q.2]) g3 g2
     .show fH
    .split
     .ext hx;let#[rfl,_]:=hx;split
      .ext q;rw[aQ]at q;let#[g1,g2,g3,g4]:=O.blt q.1;show Nf O.calm (by have:=O.u0;lia) g1 g4 (h a) q.2
      .show fH
     .split
      .ext hx;let#[rfl,_]:=hx;split
       .ext q;rw[aQ]at q;let#[g1,g2,g3,g4]:=O.blt q.1;show OA g1 g4 (h a)<|fI q.2 _ _
       .show fH
      .show Ak O h bo _
   .show Ak O h bo _
def Zv (dd:Bool) (f:au->DE W) (o:au) (m:Str) (es:List au):DE W:=match es with
 |[e]=>if cu e then (if dd then (if m="get" then vH (f o) (f e) else if m="pop" then wK (f o) (f e) else bc) else if m="extend" then sF (f o) (f e) else if m="append" then kh (f o) (f e) else bc) else bc
 |_=>bc
theorem Ru (hu:X.A.units+1<cLine) (dd:Bool) (h:∀ e,PD X T Z e<|f e) {m:Str}(es:List au) (hb:Hw o=ah) (hl:(apos.endLine==pos.line)=ah):PD X T Z (.Call (.Attribute o m apos) es [] pos) (Zv dd f o m es):=by
 unfold Zv;split
 .ext e;split
  .ext n;split
   .split
    .ext z;subst z;show Ma hu (h o) (h e) #[lQ hb,Qb n,hl,by rw[fI n];rfl]
    .split
     .ext z;subst z;show OY (h o) (h e) #[lQ hb,Qb n,hl,by rw[fI n];rfl]
     .show fH
   .split
    .ext z;subst z;show Jx (h o) (h e) (lQ hb) (Qb n) hl<|fI n _ _
    .split
     .ext z;subst z;show Jl (h o) (h e) (lQ hb) (Qb n) hl<|fI n _ _
     .show fH
  .show fH
 .show fH
end
noncomputable def Zw (on names:List<|Str×NameKind):List (Str×NameKind):=names.map λ(n,k)=>if k==NameKind.free&&on.lookup n==ae .cell then (n,NameKind.cell) else (n,k)
noncomputable def Qc:Nat->au->List Str
 |_,.Name x _=>[x]
 |n+1,.Tuple es _ _=>es.flatMap<|Qc n
 |_,_=>[]
def Cf.cN (c:Cf) (tg:au) (sc:bK):List Str:=Qc 4 tg++c.N.filter λx=>decide (sc.names.lookup x=ae .free)
def Cf.src (c:Cf) (tg:au) (sc:bK):List (Option Nat):=(Qc 4 tg).map (λ_=>ag)++(c.N.filter λx=>decide (sc.names.lookup x=ae .free)).map c.ix
def Cf.inner (c:Cf) (tg:au) (sc:bK):Cf:={ c with N:=c.cN tg sc,nm:=Zw c.nm sc.names,f:=af,bx:=[],lm:=ag,ow:=(Qc 4 tg).filter λx=>decide (sc.names.lookup x=ae .cell) }
def Cf.Qd (c:Cf) (tg:au) (sc:bK):Bool:=YJ c.N { kind:=.function,names:=c.nm,isGenerator:=af,isCoroutine:=af } sc (c.cN tg sc) (c.src tg sc)&&decide (c.cN tg sc).Nodup
section
variable {k:Nat} {sc:bK}
theorem cS.inner (O:cS c k X Z) (h:c.Qd tg sc=ah):tM X (c.cN tg sc) (c.src tg sc) sc /\ ∀ cl s H C fp,cS (c.inner tg sc) k (X.comp (c.cN tg sc) sc cl s H C fp) #[E0,Z.cl]:=by
 unfold Cf.Qd at h;rw[aQ,decide_eq_true_eq]at h;have S:=D6 (λx=>by unfold Env.kindOf;rw[O.nm]) O.N h.1;refine#[S,λcl s H C fp=>#[rfl,?_,S.kind,O.calm,λz=>(by cases z),λx m=>(dq.mp m).2,h.2,O.room,O.fs,O.gl,O.bl,FU,O.ti,O.tb,O.tt,O.tl,PassesOwn.never,λ_ z=>nomatch z]];change (relabel sc X.env).names=Zw c.nm sc.names;unfold relabel Zw Env.kindOf;rw[O.kd,O.nm];simp
end
structure Cm where
 e:Cf->Bool->Bool->au->DE W
 t:Cf->au->DE Bool
 g:Cf->au->DG
 s:Cf->cz->aD
structure Good (m:Cm):zw where
 e:∀ {c:Cf}{k:Nat}{X:Cx}{Z:Xs},cS c k X Z->∀ {T:Fr}(bo fz:Bool) (e:au),PD X T Z e (m.e c bo fz e)
 t:∀ {c:Cf}{k:Nat}{X:Cx}{Z:Xs},cS c k X Z->∀ {T:Fr}(e:au),eG X T Z e (m.t c e)
 g:∀ {c:Cf}{k:Nat}{X:Cx}{Z:Xs},cS c k X Z->∀ {T:Fr}(e:au),pG X T e (m.g c e)
 s:∀ {c:Cf}{k:Nat}{X:Cx}{Z:Xs},cS c k X Z->∀ {T:Fr}(st:cz),dH X T Z st (m.s c st)
section
variable (m:Cm) (c:Cf)
def cI (tg it:au):DE (List W):=match it with
 |.Call (.Name x _) [a] [] _=>
   if x="range" then (if c.pf "range"&&cu a then ka (ff (m.e c af af a) fj) else bc)
   else bM (m.e c af ah it)
 |.Call (.Name x _) [a,b] [] _=>
   if x="range" then (if c.pf "range"&&cu a&&cu b then tW (ff (m.e c af af a)<|ff (m.e c af af b) fj) else bc)
   else if x="zip" then (if c.pf "zip"&&cu a&&cu b then sr (ff (m.e c af af a)<|ff (m.e c af af b) fj) else bc)
   else bM (m.e c af ah it)
 |_=>bM<|m.e c af ah it
def cF (ifs:List au):DE Bool:=match ifs with
 |[]=>fU
 |[t]=>m.t c t
 |_=>bc
def Zx (e:au):Option Nat:=match e with
 |.Name x _=>if c.dc.contains x&&c.K8 x then c.ix x else ag
 |_=>ag
def Zy (bo:Bool) (elt tg it:au) (ifs:List au) (sc:bK):DE W:=
 if c.Qd tg sc&&Qa it then fN bo (c.src tg sc) (cI m c tg it) (m.g (c.inner tg sc) tg) (cF m (c.inner tg sc) ifs) (m.e (c.inner tg sc) af af elt) else bc
def cO (o:Option au):DE (Option Int):=match o with
 |none=>qZ
 |some e=>qy<|m.e c af af e
def Hy (a:au) (op:CmpOp) (b:au):DE W:=
 if wY c b then (match op with
  |.In=>if behindInMarks .In b=af then ni af (m.e c af af a) (m.e c af af b) else bc
  |.NotIn=>if behindInMarks .NotIn b=af then ni ah (m.e c af af a) (m.e c af af b) else bc
  |_=>bc)
 else if K7 c 3 b then (match op with
  |.In=>if behindInMarks .In b=af then qC (m.e c af af a) (m.e c af af b) else bc
  |_=>bc)
 else match op,b with
  |.Is,.Constant .none _ _=>nj af<|m.e c af af a
  |.IsNot,.Constant .none _ _=>nj ah<|m.e c af af a
  | _,_=>match vQ op with
    |some g=>if behindInMarks op b=af then d2 af g (m.e c af af a) (m.e c af af b) else bc
    |none=>bc
def Zz (a:au) (op dh:CmpOp) (b d:au):DE W:=match vQ op,vQ dh with
 |some g,ae g'=>if lastMarks [op,dh] [b,d]=af then d3 g g' (m.e c af af a) (m.e c af af b) (m.e c af af d) else bc
 |_,_=>bc
def ZA (bo:Bool) (a b:au):DE W:=match b with
 |.Slice lo hi ag _=>qz bo (m.e c af af a) (cO m c lo)<|cO m c hi
 |.Slice ag ag (ae<|.UnaryOp .USub (.Constant (.int i) _ _) _) _=>if i=1 then Ko bo (m.e c af af a) else bc
 |b=>if Hx b then (if Zt c a then ET (m.e c af af a) (m.e c af af b) else if wY c a then dA (m.e c af af a) (m.e c af af b) else if K7 c 3 a then uY (m.e c af af a) (m.e c af af b) else d2 af ax (m.e c af af a) (m.e c af af b)) else bc
def ZC (bo:Bool) (ks:List<|Option au) (vs:List au):DE W:=match ks,vs with
 |[],[]=>pI bo []
 |_,_=>bc
def ZD (v:Const):DE W:=match v with
 |.int i=>dC<|.int i
 |.bool b=>dC<|.bl b
 |.none=>dC .aC
 |.str x=>dC<|.str x
 |_=>bc
def ZE (op:UnaryOp) (a:au):DE W:=match op with
 |.USub=>p6<|m.e c af af a
 |.Not=>Kg<|m.e c af af a
 |_=>bc
def ZF (op:BoolOp) (es:List au):DE W:=match op with
 |.And=>Zo (m.e c af af) es
 |.Or=>bc
def aep (a:au) (ops:List CmpOp) (bs:List au):DE W:=match ops,bs with
 |[op],[b]=>Hy m c a op b
 |[op,dh],[b,d]=>Zz m c a op dh b d
 |_,_=>bc
def ZG (pa:Arguments) (y:Str) (sc:bK):Bool:=pa.posonlyargs.isEmpty&&pa.vararg.isNone&&pa.kwonlyargs.isEmpty&&pa.kw_defaults.isEmpty&&pa.kwarg.isNone&&pa.defaults.isEmpty&&decide (pa.args.map (·.arg)=[y]) &&
 decide (sc.names=[(y,.local)])&&!sc.isCoroutine&&!sc.isGenerator&&decide (sc.kind=.function)&&!(y==("__debug__":Str))
def ZH (bo:Bool) (x:Str) (es:List au) (kn:Str) (pa:Arguments) (y:Str) (i:Int) (sc:bK) (kU:aG):DE W:=match es,c.lm with
 |[a],ae P=>if x="sorted" /\ kn="key" then (if ZG pa y sc&&c.pf "sorted"&&cu a then Ht bo P kU (c.qn ++ "<lambda>") i (m.e c af af a) else bc) else bc
 |_,_=>bc
def ZI (bo:Bool) (f:au) (es:List au) (ks:List Keyword) (pos:aG):DE W:=match f with
 | .Name x _=>(match ks with
   |[]=>Zu c (m.e c af af) bo x es
   |[⟨ae kn,.Lambda pa (.Subscript (.Name y _) (.Constant (.int i) _ _) _) sc kU,_⟩]=>ZH m c bo x es kn pa y i sc kU
   |_=>bc)
 | .Attribute o n apos=>(match ks with
   |[]=>if Hw o&&(apos.endLine==pos.line) then Zv (wY c o) (m.e c af af) o n es else bc
   |_::_=>bc)
 |_=>bc
def ZJ (bo:Bool) (elt:au) (gs:List Comprehension) (sc:bK):DE W:=match gs with
 |[⟨tg,it,ifs,0⟩]=>Zy m c bo elt tg it ifs sc
 |_=>bc
def sE (bo fz:Bool) (e:au):DE W:=match e with
 |.Constant v _ _=>ZD v
 |.Name x _=>Zn c fz x
 |.Tuple es _ _=>gn<|xa (m.e c af af) es
 |.List es _=>gz bo<|xa (m.e c af af) es
 |.Dict ks vs _=>ZC bo ks vs
 | .BinOp a op b _=>(match aeo op with
   |some g=>d2 bo g (m.e c af af a)<|m.e c af af b
   |none=>bc)
 |.UnaryOp op a _=>ZE m c op a
 |.BoolOp op es _=>ZF m c op es
 |.Compare a ops bs _=>aep m c a ops bs
 |.IfExp t a b _=>pY (m.t c t) (m.e c af af a)<|m.e c af af b
 |.Subscript a b _=>ZA m c bo a b
 |.Call f es ks pos=>ZI m c bo f es ks pos
 |.ListComp elt gs sc _=>ZJ m c bo elt gs sc
 |_=>bc
def sT (e:au):DE Bool:=match e with
 |.BoolOp .And es _=>Zp (m.t c) es
 |.BoolOp .Or es _=>Zq (m.t c) es
 |.UnaryOp .Not a _=>eJ<|m.t c a
 | .Compare a [op] [b] _=>if wY c b then dB (Hy m c a op b) else if K7 c 3 b then (match op with
   |.In=>if behindInMarks .In b=af then dB (qC (m.e c af af a)<|m.e c af af b) else bc
   |_=>bc) else (match op,b with
   |.Is,.Constant .none _ _=>dB<|nj af<|m.e c af af a
   |.IsNot,.Constant .none _ _=>dB<|nj ah<|m.e c af af a
   | _,_=>match vQ op with
     |some g=>if behindInMarks op b=af then dB (d2 af g (m.e c af af a)<|m.e c af af b) else bc
     |none=>bc)
 | .Compare a [op,dh] [b,d] _=>(match vQ op,vQ dh with
   |some g,ae g'=>if lastMarks [op,dh] [b,d]=af then dB (d3 g g' (m.e c af af a) (m.e c af af b)<|m.e c af af d) else bc
   |_,_=>bc)
 |e=>if plainT e then dB (m.e c af af e) else bc
def sG (tg:au):DG:=match tg with
 | .Name x _=>(match c.ix x with
   |some i=>if c.wZ x then fg i else wX
   |none=>wX)
 |.Tuple es _ _=>if pL es then fT es.length (K9 (m.g c) es) else wX
 |.Subscript o i _=>if Hx i then ES (m.e c af af o) (m.e c af af i) else wX
 |_=>wX
end
section
variable {m:Cm} {k:Nat} (G:Good m) (O:cS c k X Z)
include G O
theorem NE (tg it:au):uF X T Z tg it (cI m c tg it):=by
 cases it<;>try show mK<|G.e O _ _ _
 ext f es ks pos;cases f<;>try show mK<|G.e O _ _ _
 rcases es with _|⟨a,_|⟨b,_|_⟩⟩<;>cases ks<;>try show mK<|G.e O _ _ _
 .unfold cI;dsimp only;split
  .ext z;subst z;split
   .ext q;rw[aQ]at q;let#[g1,g2,g3,g4]:=O.blt q.1;show DY g1 g4 (lR (G.e O _ _ a) jI q.2)<|fI q.2 _ _
   .show CC
  .show mK<|G.e O _ _ _
 .unfold cI;dsimp only;split
  .ext z;subst z;split
   .ext q;simp[aQ]at q;let#[#[q,n1],n2]:=q;let#[g1,g2,g3,g4]:=O.blt q;show DZ g1 g4 (lR (G.e O _ _ a) (lR (G.e O _ _ b) jI n2) n1) (by rw[fI n1,fI n2];rfl)<|fI n2 _ _
   .show CC
  .split
   .ext z;subst z;split
    .ext q;simp[aQ]at q;let#[#[q,n1],n2]:=q;let#[g1,g2,g3,g4]:=O.blt q;show OC g1 g4 (lR (G.e O _ _ a) (lR (G.e O _ _ b) jI n2) n1) (by rw[fI n1,fI n2];rfl)<|fI n2 _ _
    .show CC
   .show mK<|G.e O _ _ _
theorem NG (ifs:List au):PF X ifs (tR T Z<|cF m c ifs):=by
 unfold cF;split
 .show Ol
 .show Om<|G.t O _
 .show λ_ _ _ _ _ _ h=>by let#[_,_,_,_,_,h]:=h;show h.elim
omit G in
theorem Rv {i:Nat}(h:Zx c e=ae i):PD X T Z e (dV i):=by
 unfold Zx at h;split at h
 .split at h
  .ext q;rw[aQ]at q;let#[a,b,d]:=O.aen q.2;show Ln i (O.at h) a b d
  .cases h
 .cases h
theorem NH (bo:Bool) (elt tg it:au) (ifs:List au) (sc:bK) (pos:aG):PD X T Z (.ListComp elt [#[tg,it,ifs,0]] sc pos) (Zy m c bo elt tg it ifs sc):=by
 unfold Zy;split
 .ext q;rw[aQ]at q;let#[S,OO]:=O.inner q.1;show Oj bo O.calm S (NE G O tg it) (λ_ _ _ _ _ _=>G.g (OO _ _ _ _ _) tg) (λ_ _ _ _ _ _=>NG G (OO _ _ _ _ _) ifs) (λ_ _ _ _ _ _=>G.e (OO _ _ _ _ _) _ _ elt) λx=>mW q.2 x
 .show fH
theorem NI (a:au) (op:CmpOp) (b:au) (pos:aG):PD X T Z (.Compare a [op] [b] pos) (Hy m c a op b):=by
 unfold Hy;split
 .split
  .split
   .ext q;show TX O.u1 (G.e O _ _ a) (G.e O _ _ b) q
   .show fH
  .split
   .ext q;show OK O.u1 (G.e O _ _ a) (G.e O _ _ b) q
   .show fH
  .show fH
 split
 .split
  .split
   .ext q;show Uc O.u1 (G.e O _ _ a) (G.e O _ _ b) q
   .show fH
  .show fH
 .split
  .show TY<|G.e O _ _ a
  .show OL<|G.e O _ _ a
  .split
   .ext g e;let#[q,h1,h2]:=lP O.u0 e;split
    .ext z;show Tb h1 h2 (G.e O _ _ a) (G.e O _ _ b) z
    .show fH
   .show fH
theorem NJ (a:au) (op dh:CmpOp) (b d:au) (pos:aG):PD X T Z (.Compare a [op,dh] [b,d] pos) (Zz m c a op dh b d):=by
 unfold Zz;split
 .ext g g' e e';let#[q,h1,h2]:=lP O.u0 e;let#[q',ZK,ZL]:=lP O.u0 e';split
  .ext z;show Lq h1 ZK h2 ZL (G.e O _ _ a) (G.e O _ _ b) (G.e O _ _ d) z
  .show fH
 .show fH
theorem Sk (o:Option au):EO X T Z o (cO m c o):=by
 unfold cO;split
 .show Tq
 .show LC<|G.e O _ _ _
theorem Rw (bo:Bool) (a b:au) (pos:aG):PD X T Z (.Subscript a b pos) (ZA m c bo a b):=by
 have aje:∀ b,Hx b=ah->PD X T Z (.Subscript a b pos) (if Zt c a then ET (m.e c af af a) (m.e c af af b) else if wY c a then dA (m.e c af af a) (m.e c af af b) else if K7 c 3 a then uY (m.e c af af a) (m.e c af af b) else d2 af ax (m.e c af af a) (m.e c af af b)):=λb n=>by
  split
  .show TJ (G.e O _ _ a) (G.e O _ _ _)<|Ba n
  .split
   .show OJ O.u1 (G.e O _ _ a) (G.e O _ _ _)<|GP n
   .split
    .show P5 O.u1 (G.e O _ _ a) (G.e O _ _ _)<|GP n
    .show Vy SW ag8 (G.e O _ _ a) (G.e O _ _ _)<|Ba n
 cases b<;>try show aje _ zk
 rename_i lo hi st _;rcases st with _|st
 .show LD bo (G.e O _ _ a) (Sk G O _)<|Sk G O _
 cases st<;>try show fH
 rename_i op e _;cases op<;>try show fH
 cases e<;>try show fH
 rename_i v _ _;cases v<;>try show fH
 cases lo<;>cases hi<;>try show fH
 unfold ZA;try dsimp only
 split
 .ext z;subst z;show Ts bo<|G.e O _ _ a
 .show fH
omit G O in
theorem Rx (bo:Bool) (ks:List<|Option au) (vs:List au) (pos:aG):PD X T Z (.Dict ks vs pos) (ZC bo ks vs):=by
 unfold ZC;split
 .show OB bo
 .show fH
omit G O in
theorem Ry (v:Const) (k:Nat) (pos:aG):PD X T Z (.Constant v k pos) (ZD v):=by
 unfold ZD;split
 .show S7
 .show Vx
 .show S8
 .show S9
 .show fH
theorem U9 (op:UnaryOp) (a:au) (pos:aG):PD X T Z (.UnaryOp op a pos) (ZE m c op a):=by
 unfold ZE;split
 .show Tt<|G.e O _ _ _
 .show Tf<|G.e O _ _ _
 .show fH
theorem Va (op:BoolOp) (es:List au) (pos:aG):PD X T Z (.BoolOp op es pos) (ZF m c op es):=by
 unfold ZF;split
 .show GN (G.e O _ _) _
 .show fH
theorem Vb (a:au) (ops:List CmpOp) (bs:List au) (pos:aG):PD X T Z (.Compare a ops bs pos) (aep m c a ops bs):=by
 rcases ops with _|⟨op,_|⟨dh,_|_⟩⟩<;>rcases bs with _|⟨b,_|⟨d,_|_⟩⟩<;>try show fH
 .show NI G O _ _ _ _
 .show NJ G O _ _ _ _ _ _
include G O in
theorem Vc {pa:Arguments}{y:Str}{sc:bK}{px py pz:aG}{i:Int}{P:ai}(h:ZG pa y sc=ah) (hP:c.lm=ae P):∃ cc,Zb X pa y px py pz i n sc cc P /\ X.env.qual=c.qn:=by
 let#[cc,h1,h2,h3,h4,h5]:=O.lm P hP;let#[a1,a2,a3,a4,a5,a6,a7]:=pa;erw[ZG,aQ,uk,decide_eq_true_eq,aaZ,aa4]at h;let#[#[#[#[#[#[h,e7],e8],e9],ajf],ajg],ajh]:=h;let#[#[#[#[#[rfl,rfl],rfl],rfl],rfl],rfl]:=h;refine#[cc,#[rfl,?_,h1,h3,h4,h5,λqual pm c' kC t=>?_,by rw[e8];simp,e9,ajf,ajg,λx m=>by rw[e8]at m;rw[c8.mp m];show(λz=>nomatch z),ajh,?_],h2]
 .unfold closureFor;rw[e8];rfl
 .cases a2 with
  |nil=>cases e7
  |cons b bs=>
    cases bs with
    |cons _ _=>cases e7
    |nil=>
      cases e7;have n0:(do notAStandIn Value.none;pure (ag:Option<|Array aj))=pure ag:=rfl;simp[bindArgs,seqItems?,n0]
 .have:=O.room.dp;change X.A.depth<_;lia
theorem Rz (bo:Bool) (x:Str) (p:aG) (es:List au) (kn:Str) (pa:Arguments) (y:Str) (px:aG) (i:Int) (n:Nat) (py pz:aG) (sc:bK) (kU kp pos:aG):PD X T Z (.Call (.Name x p) es [#[ae kn,.Lambda pa (.Subscript (.Name y px) (.Constant (.int i) n py) pz) sc kU,kp]] pos) (ZH m c bo x es kn pa y i sc kU):=by
 unfold ZH;split
 .ext a P hP;split
  .ext hx;let#[rfl,rfl]:=hx;split
   .ext q;simp[aQ]at q;let#[g1,g2,g3,g4]:=O.blt q.1.2;let#[cc,Y,e]:=Vc G O q.1.1 hP;rw[<-e];show JT bo Y g1 g4 (G.e O _ _ a) q.2
   .show fH
  .show fH
 .show fH
theorem Vd (bo:Bool) (f:au) (es:List au) (ks:List Keyword) (pos:aG):PD X T Z (.Call f es ks pos) (ZI m c bo f es ks pos):=by
 unfold ZI;split
 .split
  .show ND O (G.e O _ _) bo _
  .show Rz G O bo _ _ _ _ _ _ _ _ _ _ _ _ _ _ _
  .show fH
 .split
  .split
   .ext q;rw[aQ]at q;show Ru O.u1 _ (G.e O _ _) _ q.1 q.2
   .show fH
  .show fH
 .show fH
theorem Ve (bo:Bool) (elt:au) (gs:List Comprehension) (sc:bK) (pos:aG):PD X T Z (.ListComp elt gs sc pos) (ZJ m c bo elt gs sc):=by
 unfold ZJ;split
 .show NH G O bo _ _ _ _ _ _
 .show fH
theorem WF (bo fz:Bool) (e:au):PD X T Z e (sE m c bo fz e):=by
 cases e<;>try show fH
 .show Va G O _ _ _
 .unfold sE;dsimp only;split
  .ext g e;let#[q,h1,h2]:=Rq e;show Ta bo h1 h2 (G.e O _ _ _)<|G.e O _ _ _
  .show fH
 .show U9 G O _ _ _
 .show Tg (G.t O _) (G.e O _ _ _)<|G.e O _ _ _
 .show Rx bo _ _ _
 .show Ve G O bo _ _ _ _
 .show Vb G O _ _ _ _
 .show Vd G O bo _ _ _ _
 .show Ry _ _ _
 .show Rw G O bo _ _ _
 .show Nz O fz
 .show Ti bo<|oH (G.e O _ _) _
 .show Th<|oH (G.e O _ _) _
theorem WG (e:au):eG X T Z e (sT m c e):=by
 cases e<;>try show N6 (G.e O _ _ _) λw=>J0 zk w
 .rename_i op _ _;cases op
  .show RR<|DQ (G.t O) _
  .show RR<|GO (G.t O) _
 .rename_i op _ _;cases op<;>try show gO
  show Oa<|G.t O _
 .show gO
 .ext a ops bs pos;rcases ops with _|⟨op,_|⟨dh,_|_⟩⟩<;>rcases bs with _|⟨b,_|⟨d,_|_⟩⟩<;>try show gO
  .unfold sT;dsimp only;split
   .ext h;unfold Hy;rw[if_pos h];cases op<;>try show gO
    .dsimp only;split
     .ext q;show Rs O.u1 (G.e O _ _ a) (G.e O _ _ b) q
     .show gO
    .dsimp only;split
     .ext q;show NC O.u1 (G.e O _ _ a) (G.e O _ _ b) q
     .show gO
   .split
    .cases op<;>try show gO
     dsimp only;split
     .ext q;show Rt O.u1 (G.e O _ _ a) (G.e O _ _ b) q
     .show gO
    have dflt:∀ op b,eG X T Z (.Compare a [op] [b] pos) (match vQ op with
     |some g=>if behindInMarks op b=af then dB (d2 af g (m.e c af af a)<|m.e c af af b) else bc
     |none=>bc):=λop b=>by
     split
     .ext g e;let#[q,h1,h2]:=lP O.u0 e;split
      .ext z;show N7 h1 h2 (G.e O _ _ _) (G.e O _ _ _) z
      .show gO
     .show gO
    cases op<;>try show dflt _ _
    all_goals (cases b<;>try show dflt _ _)
    all_goals (rename_i v _ _ _ _;cases v<;>try show dflt _ _)
    .show PT.imp (An (J6<|G.e O _ _ _) zk) λσ H Q h=>WE<|G7 h
    .show PT.imp (An (FJ<|G.e O _ _ _) zk) λσ H Q h=>U8<|G7 h
  .unfold sT;dsimp only;split
   .ext g g' e e';let#[q,h1,h2]:=lP O.u0 e;let#[q',ZK,ZL]:=lP O.u0 e';split
    .ext z;show G8 h1 ZK h2 ZL (G.e O _ _ _) (G.e O _ _ _) (G.e O _ _ _) z
    .show gO
   .show gO
theorem WH (tg:au):pG X T tg (sG m c tg):=by
 unfold sG;split
 .split
  .ext i e;split
   .ext h;let#[a,b]:=O.lo h;show Lx i O.vP (O.at e) a b
   .show lO
  .show lO
 .split
  .ext h;show VQ O.calm (NA (G.g O) _) h zk
  .show lO
 .split
  .ext o i pos h;show Oz (G.e O _ _ o) (G.e O _ _ i) (λv=>by cases i<;>first|rfl|cases h)
  .show lO
 .show lO
end
end L2.DL
namespace L2
end L2
namespace L2.DL
open PySem.W
section
variable {env:Env} {y:Str} {px py pt nV:aG} {kt k2:Nat} {a b:au}
theorem RC (hk:env.blockKind=.function) (hx:env.kindOf x=ae .local) (hy:env.kindOf y=ae .local) (hl:(px.line==py.line)=ah) (dW:x≠y) (na:cu a=ah) (nb:cu b=ah)
 (nf:([a,b].all<|foldedForSure 8)=af) (nc:([a,b].all<|constantsAlone 8)=af) :
 swappedStores [.Tuple [.Name x px,.Name y py] kt pt] (.Tuple [a,b] k2 nV) env=pure (ae [x,y]):=by
 have hd:([x,y]).eraseDups.length=2:=by
  have:(y==x)=af:=by simpa using Ne.symm dW
  simp[List.eraseDups_cons,this]
 have hp:∀ (x) (p),(Expr.Name x p).pos=p:=λ_ _=>rfl;unfold swappedStores;erw[hk,aa0,sU,hp,];simp[(by simpa using hl),hd,hx,hy,nf,nc];rintro(h|h)
 .cases a<;>first|(cases h;done)|cases na
 .cases b<;>first|(cases h;done)|cases nb
theorem RD (hk:env.blockKind=.function) (na:cu a=ah) (nb:cu b=ah) (h:(env.kindOf x==ae .local&&env.kindOf y==ae .local)=af) :
 swappedStores [.Tuple [.Name x px,.Name y py] kt pt] (.Tuple [a,b] k2 nV) env=pure ag:=by
 have hp:∀ (x:Str) (p:aG),(Expr.Name x p).pos=p:=λ_ _=>rfl;unfold swappedStores;erw[aa0,sU,hp];rw[Bool.and_eq_false_iff]at h;rcases h with h|h
 .erw[eW,aa1,h,HX];by_cases q:(env.kindOf y==ae .local&&py.line==px.line)=ah
  .simp[q]
  .simp[q]
 .erw[eW,aa1,h,HX];by_cases z:env.kindOf x=ae .local<;>simp[z]
end
def yN (f:cz->aD):List cz->aD
 |[]=>aW
 |[s]=>f s
 |s::r=>fv (f s)<|yN f r
theorem Bb {X:Cx}{Z:Xs}{T:Fr}{f:cz->aD}(h:∀ s,dH X T Z s<|f s):∀ b,uD X T Z b (yN f b)
 |[]=>Oc
 |[s]=>Od<|h s
 |s::a::r=>Lu (h s)<|Bb h _
noncomputable def ZM:au->au->Bool
 |.Tuple ..,.Tuple ..|.List ..,.Tuple ..=>af
 |_,_=>ah
theorem Sl {env:Env}(h:ZM tg e=ah):swappedStores [tg] e env=pure ag:=by
 cases tg with
 |Tuple es n p=>cases e<;>first|rfl|cases h
 |List es p=>cases e<;>first|rfl|cases h
 |_=>rfl
noncomputable def Qe (c:Cf) (x:Str) (tp cp:aG) (sc:bK):Bool:=c.nm.lookup x==ae .local&&tp.line==cp.line&&!(sc.names.any λ(n,k)=>n==x&&(k==.local||k==.cell))
section
variable {k:Nat} 
theorem cS.block (O:cS c k X Z):X.env.blockKind=.function:=by unfold Env.blockKind;rw[O.kd];rfl
theorem GQ (O:cS c k X Z) {elt:au}{gs:List Comprehension}{sc:bK}{cp tp:aG}{l:Nat}:swapsWith (.ListComp elt gs sc cp) (ae<|.Name x tp) l X.env=pure (Qe c x tp cp sc):=by
 have h:swapsWith (.ListComp elt gs sc cp) (ae<|.Name x tp) l X.env=pure _:=rfl;rw[h,O.block];unfold Env.kindOf Qe;rw[O.nm];rfl
end
theorem j5 {t:au}{l:Nat}{env:Env}(h:pN e=af):swapsWithSole [t] e l env=pure af:=mX h
section
variable (m:Cm) (c:Cf)
def ZN (x:Str) (tp:aG) (e:au):aD:=match c.ix x with
 | some i=>if c.wZ x then (match e with
   | .ListComp elt [⟨tg,it,ifs,0⟩] sc cp=>if c.Qd tg sc&&Qa it&&Qe c x tp cp sc then (match Zx c it with
     |some j=>fE (wL (c.bx.contains x) (c.src tg sc) j (m.g (c.inner tg sc) tg) (cF m (c.inner tg sc) ifs)<|m.e (c.inner tg sc) af af elt)<|fg i
     |none=>fE (fN (c.bx.contains x) (c.src tg sc) (cI m c tg it) (m.g (c.inner tg sc) tg) (cF m (c.inner tg sc) ifs)<|m.e (c.inner tg sc) af af elt)<|fg i) else if Qe c x tp cp sc then dX else fE (m.e c (c.bx.contains x) af e) (fg i)
   |e=>if pN e then dX else fE (m.e c (c.bx.contains x) af e) (fg i)) else dX
 |none=>dX
def aeq (c:Cf) (x y:Str) (px py:aG) (a b:au):Bool:=cu a&&cu b&&decide (x≠y)&&c.wZ x&&c.wZ y&&(if c.nm.lookup x==ae .local&&c.nm.lookup y==ae .local then px.line==py.line&&!([a,b].all<|foldedForSure 8)&&!([a,b].all<|constantsAlone 8) else ah)
def ZO (x y:Str) (px py:aG) (a b:au):aD:=match c.ix x,c.ix y with
 |some i,ae j=>if aeq c x y px py a b then kK i j (ff (m.e c (c.bx.contains x) af a)<|ff (m.e c (c.bx.contains y) af b) fj) else dX
 |_,_=>dX
def ZP (tg e:au):aD:=match tg,e with
 |.Name x tp,e=>ZN m c x tp e
 |.Tuple [.Name x px,.Name y py] _ _,.Tuple [a,b] _ _=>ZO m c x y px py a b
 |.Subscript o i p,e=>if pN e then dX else if wY c o then pM (m.e c af af o) (m.e c af af i) (m.e c af af e) else fE (m.e c af af e) (m.g c<|.Subscript o i p)
 |tg,e=>if !pN e&&cu tg&&ZM tg e then fE (m.e c af af e) (m.g c tg) else dX
def ZQ (t:au) (op:Operator) (e:au):aD:=match t with
 | .Name x _=>(match c.ix x with
   | some i=>if c.wZ x then (match op with
     |.Add=>yB af i<|m.e c af af e
     |_=>dX) else dX
   |none=>dX)
 |_=>dX
def sS (st:cz):aD:=match st with
 |.Assign [tg] e _=>ZP m c tg e
 |.Return (ae e) _=>fK<|m.e c c.rb (!c.rb) e
 |.Expr e _=>if pN e then dX else fV (m.e c af af e)
 |.If t a b _=>aS (m.t c t) (yN (m.s c) a)<|yN (m.s c) b
 |.For tg it body [] _=>if Qa it then iQ (cI m c tg it) (m.g c tg) (yN (m.s c) body) else dX
 |.AugAssign t op e _=>ZQ m c t op e
 |.Delete [.Subscript o i _] _=>if wY c o then uS (m.e c af af o) (m.e c af af i) else dX
 |.Break _=>Kh
 |.Continue _=>Ki
 |_=>dX
end
section
variable {m:Cm} {k:Nat} (G:Good m) (O:cS c k X Z)
include G O
theorem RE (x:Str) (e:au) (tp pos:aG):dH X T Z (.Assign [.Name x tp] e pos) (ZN m c x tp e):=by
 unfold ZN;split
 .ext i hi;split
  .ext hl;let#[l1,l2]:=O.lo hl;split
   .ext elt tg it ifs sc cp;split
    .ext q;rw[aQ,aQ]at q;let#[S,OO]:=O.inner q.1.1;have sw:=GQ O (elt:=elt) (gs:=[#[tg,it,ifs,0]]) (sc:=sc) (cp:=cp) (tp:=tp) (x:=x) (l:=pos.line);rw[q.2]at sw;split
     .show Jz i _ O.calm S (Rv O (by assumption)) (λ_ _ _ _ _ _=>G.g (OO _ _ _ _ _) tg) (λ_ _ _ _ _ _=>NG G (OO _ _ _ _ _) ifs) (λ_ _ _ _ _ _=>G.e (OO _ _ _ _ _) _ _ elt) O.vP (O.at hi) l1 sw l2 λx=>mW q.1.2 x
     .show LV i _ O.calm S (NE G O tg it) (λ_ _ _ _ _ _=>G.g (OO _ _ _ _ _) tg) (λ_ _ _ _ _ _=>NG G (OO _ _ _ _ _) ifs) (λ_ _ _ _ _ _=>G.e (OO _ _ _ _ _) _ _ elt) O.vP (O.at hi) l1 sw l2 λx=>mW q.1.2 x
    .split
     .show fY
     .ext q;refine FT i (G.e O _ _ _) O.vP (O.at hi) l1 ?_ l2;rw[GQ O,Bool.eq_false_iff.mpr q]
   .split
    .show fY
    .ext h;show FT i (G.e O _ _ _) O.vP (O.at hi) l1 (mX (by simpa using h)) l2
  .show fY
 .show fY
theorem RF (x y:Str) (a b:au) (px py pt nV pos:aG) (kt k2:Nat):dH X T Z (.Assign [.Tuple [.Name x px,.Name y py] kt pt] (.Tuple [a,b] k2 nV) pos) (ZO m c x y px py a b):=by
 unfold ZO;split
 .ext i j hi hj;split
  .ext q;unfold aeq at q;rw[aQ,aQ,aQ,aQ,aQ,decide_eq_true_eq]at q;let#[#[#[#[#[na,nb],dW],hx],hy],q]:=q;have ps:ez X T Z _ (ff (m.e c (c.bx.contains x) af a)<|ff (m.e c (c.bx.contains y) af b) fj):=lR (G.e O _ _ a) (lR (G.e O _ _ b) jI nb) na;have kx:X.env.kindOf x=c.nm.lookup x:=by unfold Env.kindOf;rw[O.nm]
   have ky:X.env.kindOf y=c.nm.lookup y:=by unfold Env.kindOf;rw[O.nm]
   by_cases h:(c.nm.lookup x==ae NameKind.local&&c.nm.lookup y==ae NameKind.local)=ah
   .rw[if_pos h]at q;erw[aQ,uk]at q;rw[aQ]at h;have h1:c.nm.lookup x=ae .local:=by simpa using h.1
    have h2:c.nm.lookup y=ae .local:=by simpa using h.2
    refine OI i j O.calm O.vP ps (O.at hi) (O.at hj) (λz=>?_) (by rw[O.nm];show h1) (by rw[O.nm];show h2) (RC O.block (kx.trans h1) (ky.trans h2) q.1.1 dW na nb q.1.2 q.2)<|j5 zk;subst z;have:=(c.Zm hi).symm.trans<|c.Zm hj;show dW<|Option.some.inj this
   .let#[l1,l2]:=O.lo hx;let#[l3,l4]:=O.lo hy;refine LZ i j O.calm O.vP ps (O.at hi) (O.at hj) l1 l3 l2 l4 (j5 zk) (RD O.block na nb ?_) zk zk zk zk zk;rw[kx,ky];simpa using h
  .show fY
 .show fY
theorem RG (tg e:au) (pos:aG):dH X T Z (.Assign [tg] e pos) (ZP m c tg e):=by
 have dflt:∀ tg e,dH X T Z (.Assign [tg] e pos) (if !pN e&&cu tg&&ZM tg e then fE (m.e c af af e) _ else dX):=λtg e=>by
  split
  .ext q;simp[aQ,uk]at q;show FS (G.e O _ _ _) (G.g O _) (j5 q.1.1) (Sl q.2) (by rw[lh q.1.2];rfl)
  .show fY
 cases tg<;>try show dflt _ _
 .unfold ZP;try dsimp only
  split
  .show fY
  .ext h;split
   .show LY O.u1 (G.e O _ _ _) (G.e O _ _ _) (G.e O _ _ _)<|mX (by simpa using h)
   .show FS (G.e O _ _ _) (G.g O _) (j5 (by simpa using h)) (Sl zk) zk
 .show RE G O _ _ _ _
 .rename_i es _ _;rcases es with _|⟨x,_|⟨y,es⟩⟩<;>try show dflt _ _
  all_goals (cases x<;>try show dflt _ _)
  all_goals (cases y<;>try show dflt _ _)
  cases es<;>try show dflt _ _
  cases e<;>try show dflt _ _
  rename_i vs _ _;rcases vs with _|⟨a,_|⟨b,vs⟩⟩<;>try show dflt _ _
  cases vs<;>try show dflt _ _
  show RF G O _ _ _ _ _ _ _ _ _ _ _
theorem RH (t:au) (op:Operator) (e:au) (pos:aG):dH X T Z (.AugAssign t op e pos) (ZQ m c t op e):=by
 unfold ZQ;split
 .split
  .ext i hi;split
   .ext hl;let#[l1,l2]:=O.lo hl;split
    .show O8 i (G.e O _ _ _) O.vP (O.at hi) l1 l2
    .show fY
   .show fY
  .show fY
 .show fY
theorem WI (st:cz):dH X T Z st (sS m c st):=by
 cases st<;>try show fY
 .rename_i v _;cases v<;>try show fY
  show Oe<|G.e O _ _ _
 .rename_i ts _;rcases ts with _|⟨t,ts⟩<;>try show fY
  cases t<;>try show fY
  cases ts<;>try show fY
  unfold sS;dsimp only;split
  .show OZ (G.e O _ _ _)<|G.e O _ _ _
  .show fY
 .rename_i ts _ _;rcases ts with _|⟨_,_|_⟩<;>try show fY
  show RG G O _ _ _
 .show RH G O _ _ _ _
 .rename_i tg it bd oe _;cases oe<;>try show fY
  unfold sS;dsimp only;split
  .ext h;show Og O.own O.calm (NE G O _ _) (G.g O _) (Bb (G.s O) _) λx=>mW h x
  .show fY
 .show Tk (G.t O _) (Bb (G.s O) _)<|Bb (G.s O) _
 .unfold sS;dsimp only;split
  .show fY
  .ext h;show Lw (G.e O _ _ _)<|mX (by simpa using h)
 .show Ja
 .show Lv
end
def aji (m:Cm):Cm:=#[λc bo fz e=>sE m c bo fz e,λc e=>sT m c e,λc e=>sG m c e,λc st=>sS m c st]
def cm:Nat->Cm
 |0=>#[λ_ _ _ _=>bc,λ_ _=>bc,λ_ _=>wX,λ_ _=>dX]
 |n+1=>aji<|cm n
theorem mY:∀ n,Good (cm n)
 |0=>#[λ_ _ _ _ _=>fH,λ_ _ _=>gO,λ_ _ _=>lO,λ_ _ _=>fY]
 |n+1=>#[λO _ bo fz e=>WF (mY n) O bo fz e,λO _ e=>WG (mY n) O e,λO _ e=>WH (mY n) O e,λO _ st=>WI (mY n) O st]
structure FI where
 x:Str
 ps:List Str
 N:List Str
 bx:List Str
 dc:List Str
 wk:List (Str×Nat)
 fl:Nat   -- 1: its list is a box as it is returned,2: may raise,4: has a try,8: calls itself
 st:cz
 fn:List W->List Bx->O W
structure Tx where
 K6:Str
 gl:List (Str×Int)
 bl:List Str
 P:ai   -- the table of the code that has a aja
noncomputable def FI.b (f:FI) (i:Nat):Bool:=f.fl / i % 2==1
noncomputable def ajj (r:List FI):List (Str×(Nat×(List W->List Bx->O W))):=r.map λg=>(g.x,(g.ps.length,g.fn))
def FI.cf (t:Tx) (fs:List<|Str×(Nat×(List W->List Bx->O W))) (f:FI):Cf:=
 { N:=f.N,nm:=(fS f.st).names,f:=ah,bx:=f.bx,dc:=f.dc,wk:=f.wk,K6:=t.K6,fs:=fs,gl:=t.gl,bl:=t.bl,rb:=f.b 1,ow:=[],lm:=if f.b 64 then ae t.P else ag,qn:=f.x ++ ".<locals>." }
def FI.body (t:Tx) (fs:List<|Str×(Nat×(List W->List Bx->O W))) (f:FI):List W->List Bx->O W:=
 let m:=yN ((cm 40).s<|f.cf t fs)<|iI f.st
 bq f.N.length (ba m)
def FI.ok (f:FI):Bool:=decide ((fS f.st).kind=.function)&&!(fS f.st).isCoroutine&&!(fS f.st).isGenerator&&decide f.N.Nodup&&decide (f.N.take f.ps.length=f.ps) &&
 f.ps.all (λx=>decide ((fS f.st).names.lookup x=ae .local)||decide ((fS f.st).names.lookup x=ae .cell))&&(fS f.st).names.all λy=>decide (y.2≠.free)
theorem FI.scope {f:FI}(h:f.ok=ah):Ew f.N f.ps (fS f.st):=by
 erw[FI.ok,aQ,decide_eq_true_eq,cU,xD,uk]at h;let#[#[#[#[#[#[h1,h2],h3],h4],h5],h6],h7]:=h;show#[h1,h2,h3,h4,h5,h6,λy m=>h7 y m]
def FI.Is (t:Tx) (r:List FI) (f:FI):zw:=f.fn=f.body t (ajj r)
noncomputable def ZR (t:Tx):List FI->zw
 |[]=>True
 |f::r=>f.Is t r /\ ZR t r
noncomputable def Qf:List FI->Nat
 |[]=>0
 |_::r=>Qf r+1
structure ZS (K:PySem.W.Frag) (mg:Str->Option aj) (t:Tx):zw where
 gl:∀ x v,t.gl.lookup x=ae v->∃ u,mg x=ae (.int v u)
 bl:∀ x,x∈t.bl->mg x=ag
 ti:qw K "int"
 tb:qw K "bool"
 tt:qw K "tuple"
 tl:qw K "list"
def codeHdIn (K:PySem.W.Frag) (cd:aj) (P:ai):Bool:=match cd with
 | .ref c=>(match K.lookup c with
   |some ⟨.type "code",_,.fields vs,_⟩=>decide (vs[11]?=ae (.ref P))&&(match vs.getD 18 .none with|.str _ _=>ah|_=>af)&&(match vs.getD 7 .none with|.int _ _=>ah|_=>af)&&(match vs.getD 9 .none with|.bool _=>ah|_=>af)&&(match vs.getD 10 .none with|.int _ _=>ah|_=>af)&&decide (c≠P)
   |_=>af)
 |_=>af
theorem BZ {cd:aj}{P:ai}(e:codeHdIn K cd P=ah):∃ c,cd=.ref c /\ ∀ h,K.In h->PySem.W.CodeHd h c P:=by
 unfold codeHdIn at e;split at e
 case h_2=>cases e
 ext c;split at e
 case h_2=>cases e
 ext od vs sl lk;erw[aQ,decide_eq_true_eq]at e;let#[#[#[#[#[e1,e2],e3],e4],e5],e6]:=e;refine#[c,rfl,λh KX=>?_];split at e2
 case h_2=>cases e2
 ext file tf f1;split at e3
 case h_2=>cases e3
 ext fl tg f2;split at e4
 case h_2=>cases e4
 ext nO f3;split at e5
 case h_2=>cases e5
 ext tx tt f4;show#[_,vs,file,tf,fl,tg,nO,tx,tt,KX _ _ lk,rfl,rfl,e1,by rw[Array.getD_eq_getD_getElem?,e1];rfl,f1,f2,f3,f4,e6]
def Hz (K:PySem.W.Frag) (x:Str) (P:ai):Bool:=match PySem.W.nsIn K mainGlobals x with
 |some (ae<|.ref f)=>(match K.lookup f with|some ⟨_,_,.func fd,_⟩=>codeHdIn K fd.code P|_=>af)
 |_=>af
structure aer (base:aJ) (mg:Str->Option aj) (P:ai):zw where
 bi:base.BuiltinsAt mg P
 gP:mainGlobals≠P
theorem _root_.L2.pX.ajk {f:ai}{ps:List Str}{k:Nat}{sp:Sp}(F:pX K x qual st f fd) (S:Ew N ps<|fS st) (len:∀ vs H Q E,sp vs H Q E->vs.length=ps.length)
 (Ex:∀ (A:kR) (outer:List Env) (s:aq) (H:Hp) (vs:List V) (Q:VK) (E:XK),kI k (A.deeper<|envOfC qual (fS st) s.heap.objs.size f fd.code)->sp vs H Q E ->
  ∃ t,kZ (yb Ka P w K mg base N qual (fS st) f fd.code A outer s H E).Eo (iI st) t /\ t { nx:=λ_ H'=>Q .aC H',rt:=Q } (start N vs) H):pE P w K mg base Ka (k+1) f fd ps sp:=by
 let#[oc,od,kV,doc,pm,an,dz,ct,qJ,rfl,lk,pD]:=F.ex;refine Vw lk pD S len λA outer s H vs Q E hr yc=>?_;let#[t,h,q]:=Ex A outer s H vs Q E hr yc;show#[t,h.Eo,q]
theorem RI {ps:List Str}{m:aD}{k:Nat}(d:Def K mg x st ps) (S:Ew N ps<|fS st)
 (Ex:∀ (f:ai) (fd:FuncData),mg x=ae (.ref f)->pX K x x st f fd->∀ (A:kR) (outer:List Env) (s:aq) (H:Hp) (E:XK) (n:Nat) (F0:Hp),kI k (A.deeper<|envOfC x (fS st) s.heap.objs.size f fd.code) ->
  uD (yb Ka P w K mg base N x (fS st) f fd.code A outer s H E).Eo #[H,n,F0] #[E0,cl] (iI st) m):uK P w K mg base cl (k+1) x ps (bq N.length<|ba m):=by
 let#[f,fd,F,hm,hb]:=d;refine#[f,fd,?_,hm,F.kp,hb,F.obj];refine VE<|F.ajk S (λvs H Q E h=>?_) λA outer s H vs Q E hr h=>?_
 .let#[F,r,ws,bx,_,d,hl,_]:=h;rw[<-d.length];show hl
 .let#[F1,r,ws,bx,R,d,hl,h]:=h;refine#[_,Ex f fd hm F A outer s H E r.length F1 hr,F1,r,envOf N.length ws,bx,R.start d,?_];have h':=Oi<|Oh R.len.symm h;unfold ba at h';cases e:m _ bx with
  |nx env bx1=>simp[e]at h';show h'
  |rt w bx1=>simp[e]at h';show h'
  |bk env bx1=>simp[e]at h';show h'
  |ct env bx1=>simp[e]at h';show h'
  |exc n bx1=>simp[e]at h';show h'.elim
  |bad=>simp[e]at h';show h'
theorem NK {t:Tx}(B:ZS K mg t) {f:FI}(d:Def K mg f.x f.st f.ps) (ho:f.ok=ah) (L:f.b 64=ah->aer base mg t.P /\ ∀ fa fd,mg f.x=ae (.ref fa)->pX K f.x f.x f.st fa fd->codeHdIn K fd.code t.P=ah) {k:Nat}
 {fs:List (Str×(Nat×(List W->List Bx->O W)))}(F:∀ x n fn,fs.lookup x=ae (n,fn)->∃ kk ps,uK P w K mg base cl kk x ps fn /\ ps.length=n /\ kk<=k):uK P w K mg base cl (k+1) f.x f.ps (f.body t fs):=by
 have S:=FI.scope ho;refine RI d S λfa fd hm hF A outer s H E n F0 hr=>Bb ((mY 40).s (k:=k) ?_) _;refine#[rfl,rfl,S.kind,rfl,λ_ _=>rfl,(λx m=>nomatch m),S.nd,hr,F,B.gl,B.bl,FU,B.ti,B.tb,B.tt,B.tl,PassesOwn.never,λP hP=>?_];by_cases hb:f.b 64=ah
 .let#[l1,l2]:=L hb;have eP:t.P=P:=by
   have:(if f.b 64 then ae t.P else ag)=ae P:=hP;rw[if_pos hb]at this;show Option.some.inj this
  subst eP;let#[cc,e1,e2]:=BZ<|l2 fa fd hm hF;show#[cc,e1,rfl,e2,l1.bi,l1.gP]
 .have:(if f.b 64 then ae t.P else ag)=ae P:=hP;rw[if_neg hb]at this;cases this
def Qg:List FI->Bool
 |[]=>ah
 |f::r=>f.ok&&Qg r
theorem RJ {t:Tx}(B:ZS K mg t):∀ (l:List FI),ZR t l->Qg l=ah->(∀ f∈l,Def K mg f.x f.st f.ps)->(∀ f∈l,f.b 64=ah->aer base mg t.P /\ ∀ fa fd,mg f.x=ae (.ref fa)->pX K f.x f.x f.st fa fd->codeHdIn K fd.code t.P=ah)->∀ f∈l,∃ kk,uK P w K mg base cl kk f.x f.ps f.fn /\ kk<=Qf l:=by
 intro l_;induction l_ with
 |nil=>show λ_ _ _ _=>λf m=>nomatch m
 |cons f r ay=>
   intro A C D LL;let#[A1,A2]:=A;have C':(f.ok&&Qg r)=ah:=C;rw[aQ]at C';have ih:=ay A2 C'.2 (λg m=>D g<|bG _ m) λg m=>LL g<|bG _ m;intro g m;rcases aZ.mp m with rfl|m
   .rw[A1];show#[Qf r+1,NK B (D g<|bw ..) C'.1 (LL g<|bw ..) (λx n fn e=>by
    refine jg (P:=λx (p)=>∃ kk ps,uK P w K mg base cl kk x ps p.2 /\ ps.length=p.1 /\ kk<=Qf r) (λp m=>?_) e;let#[g,ajl,rfl]:=aK.mp m;let#[kk,h1,h2]:=ih g ajl;show#[kk,g.ps,h1,rfl,h2]),aI _]
   .let#[kk,h1,h2]:=ih g m;show#[kk,h1,aay h2]
noncomputable def aes (o:bj):Bool:=match o.cls with|.type n=>n == "list"|_=>af
def ZT (K:PySem.W.Frag):Bool:=K.all λp=>!aes p.2
theorem J1 (h:ZT K=ah) (e:K.lookup a=ae o):o.cls≠.type "list":=by
 intro c;unfold ZT at h;rw[cU]at h;have m:(a,o)∈K:=by
  clear h;induction K with
  |nil=>cases e
  |cons p K ih=>
    rw[nR]at e;cases q:a==p.1 with
    |true=>
      rw[q]at e;cases e;have:a=p.1:=by simpa using q
      subst this;show bw ..
    |false=>
      rw[q]at e;show bG _<|ih e
 have:=h _ m;simp[aes,c]at this
noncomputable def tys:List String:=["NoneType","bool","int","str","tuple","list","dict"]
def Qh (K:PySem.W.Frag):Bool:=tys.all λS=>["int","bool","tuple","list"].all λT=>PySem.W.kitOne K (.type S) (.type T)==ae (vt S T)
theorem CD (h:Qh K=ah) {T:String}(m:T∈["int","bool","tuple","list"]):qw K T:=by
 intro d;unfold Qh at h;rw[cU]at h;have m1:sh d∈tys:=by cases d<;>simp[sh,tys]
 have z:=h _ m1;rw[cU]at z;show beq_iff_eq.mp<|z _ m
theorem Vf {ps:List Str}{f:ai}{oc:aj}{od an:Option ai}{kV doc pm dz ct:aj}(X:K.In h) (G:h.Ns mainGlobals mg)
 (a:PySem.W.nsIn K mainGlobals x=ae (ae<|.ref f)) (l:K.lookup f=ae #[oc,od,.func<|PySem.W.fnOf x x (jj st) (iI st) (fS st) .none kV doc pm an dz ct,qJ])
 (c:PySem.W.codeIn K dz x=ah) (k:PySem.W.keepIn K (.ref f)=ah) (hb:∀ fd,pX K x x st f fd->Binds K fd ps []):Def K mg x st ps:=
 #[f,_,Lm l c k,PySem.W.mg_of X G a,hb _<|Lm l c k]
noncomputable def Qi (K:Frag) (bl:List Str):Bool:=bl.all λx=>match nsIn K mainGlobals x with|some ag=>ah|_=>af
noncomputable def Qj (K:Frag) (gl:List<|Str×Int):Bool:=gl.all λp=>match nsIn K mainGlobals p.1 with|some (ae<|.int v _)=>v==p.2|_=>af
theorem FF {bl:List Str}(X:K.In h) (G:h.Ns mainGlobals mg) (c:Qi K bl=ah):∀ x,x∈bl->mg x=ag:=λx m=>by
 unfold Qi at c;rw[cU]at c;have z:=c x m;split at z
 .next e=>show mg_none_of X G e
 .cases z
theorem NL {gl:List (Str×Int)}(X:K.In h) (G:h.Ns mainGlobals mg) (c:Qj K gl=ah):∀ x v,gl.lookup x=ae v->∃ u,mg x=ae (.int v u):=λx v e=>by
 unfold Qj at c;rw[cU]at c;refine jg (P:=λx (v)=>∃ u,mg x=ae (.int v u)) (λp m=>?_) e;have z:=c p m;split at z
 .next v u e=>
  have:v=p.2:=by simpa using z
  subst this;show#[u,mg_of X G e]
 .cases z
theorem WJ {t:Tx}(X:K.In h) (G:h.Ns mainGlobals mg) (z:Qi K t.bl=ah) (g:Qj K t.gl=ah) (y:Qh K=ah):ZS K mg t:=
 #[NL X G g,FF X G z,CD y zf,CD y zf,CD y zf,CD y zf]
def bD (K:Frag) (x:Str) (st:cz):zw:=∃ (f:ai) (oc:aj) (od:Option ai) (kV dc pm:aj) (an:Option ai) (cd ct:aj) (sl:Array<|Option aj),nsIn K mainGlobals x=ae (ae<|.ref f) /\
 K.lookup f=ae #[oc,od,.func<|fnOf x x (jj st) (iI st) (fS st) .none kV dc pm an cd ct,sl] /\ codeIn K cd x=ah /\ keepIn K (.ref f)=ah
theorem dIn_mk {f:ai}{oc:aj}{od:Option ai}{kV dc pm:aj}{an:Option ai}{cd ct:aj}(a:nsIn K mainGlobals x=ae (ae<|.ref f))
 (l:K.lookup f=ae #[oc,od,.func<|fnOf x x (jj st) (iI st) (fS st) .none kV dc pm an cd ct,sl]) (c:codeIn K cd x=ah) (k:keepIn K (.ref f)=ah):bD K x st:=#[f,oc,od,kV,dc,pm,an,cd,ct,sl,a,l,c,k]
noncomputable def ZU (a:Arguments) (ps:List Str):Bool:=a.posonlyargs.isEmpty&&a.vararg.isNone&&a.kwonlyargs.isEmpty&&a.kwarg.isNone&&decide (a.args.map (·.arg)=ps)&&decide ps.Nodup
theorem Ay {β:Type}{f g:Str->Option β}:∀ {l:List Str},(∀ n∈l,f n=g n)->l.filterMap f=l.filterMap g:=by
 intro l_;induction l_ with
 |nil=>show λ_=>rfl
 |cons n l ay=>(intro h;rw[eW,eW,h n<|bw ..,ay λm q=>h m<|bG _ q])
theorem DR:∀ {ps:List Str}{us:List aj},us.length=ps.length->ps.Nodup->(∀ n∈ps,((ps.zip us).lookup n).isNone=af) /\ ps.filterMap (λn=>((ps.zip us).lookup n).map (n,·))=ps.zip us
 |[],_,_,_=>#[(λ_ h=>nomatch h),rfl]
 |p::ps,[],h,_=>by cases h
 | p::ps,u::us,h,nd=>by
   let#[n1,n2]:=nE.mp nd;let#[a,b]:=DR (by simpa using h) n2;have ne:∀ n∈ps,(n==p)=af:=λn m=>beq_eq_false_iff_ne.mpr λz=>n1<|z▸m;refine#[λn m=>?_,?_]
   .rw[vT,nR];cases q:n==p with
    |true=>rfl
    |false=>
      rcases aZ.mp m with z|z
      .rw[z]at q;simp at q
      .show a n z
   .rw[vT,List.filterMap_cons_some (b:=(p,u)) zf];congr 1;show Eq.trans (Ay λn m=>by rw[nR,ne n m]) b
theorem FG {a:Arguments}{b:List cz}{sc:bK}{ps:List Str}(h:ZU a ps=ah) (kV doc pm:aj) (an:Option ai) (dz ct:aj) (us:List aj) (hl:us.length=ps.length) :
 bindArgs (fnOf x x a b sc .none kV doc pm an dz ct) #[us,[]]=pure (ps.zip us):=by
 let#[po,ar,va,ko,kd,kw,df]:=a;simp[ZU,aQ,decide_eq_true_eq,aaZ,aa4]at h;let#[#[#[#[#[rfl,rfl],rfl],rfl],rfl],nd]:=h;let#[z1,z2]:=DR hl nd;erw[bindArgs];have m0:∀ l:List Str,(∀ n∈l,n∈ar.map _)->l.filter (λn=>(((ar.map _).zip us).lookup n).isNone)=[]:=λl h=>List.filter_eq_nil_iff.mpr λn m=>by rw[z1 n<|h n m];decide
 have n0:(do notAStandIn Value.none;pure (ag:Option<|Array aj))=pure ag:=rfl;erw[Xu,kH,kG,Eb,pure_bind,seqItems?,n0,hl,kF,decide_false,HX,HY,if_false,Xv,List.drop_nil,qN,HM,Xp,List.drop_length,aaN,m0 _ λ_ h=>h,List.isEmpty_nil,Bool.not_true,z2]
noncomputable def AllIn (K:Frag):List FI->zw
 |[]=>True
 |f::r=>bD K f.x f.st /\ AllIn K r
theorem aet {K:Frag}{h:aJ}{mg:Str->Option aj}(X:K.In h) (G:h.Ns mainGlobals mg):∀ {l:List FI},AllIn K l->(l.all λf=>ZU (jj f.st) f.ps)=ah->∀ f∈l,Def K mg f.x f.st f.ps
 |[],_,_=>λ_ m=>nomatch m
 | g::r,d,q=>λf m=>by
   rw[uh,aQ]at q;rcases aZ.mp m with rfl|m
   .let#[f,oc,od,kV,dc,pm,an,cd,ct,sl,a,l,c,k]:=d.1;show Vf X G a l c k λfd F=>F.binds<|FG q.1
   .show aet X G d.2 q.2 f m
end L2.DL
namespace L2
open PySem.W
theorem J2 {mb:Str->Option aj}{k:Nat}{fa T:ai}{sp:Sp}{s1:aq} 
 (KX:K.In s1.heap) (kL:s1.heap.Ns mainGlobals mg) (hb:s1.heap.Ns builtinsNs mb) (ajm:∀ x:Str,x ≠ "__name__"->mb x=bootBuiltins x) (ajn:s1.heap.NoLimit) (hg:s1.gens=#[])
 (ha:s1.heap.get? a=ae { cls:=.type "list",data:=.seq vs.toArray }) (hi:IntsAre vs ns) (hl:ns.length<=sizeLine) (hr:kI k callerA) (hT:s1.heap.get? T=ae (tabObj #[])) (ajo:isCodeTable s1.heap T) (ZV:K.lookup T=ag) (ZW:K.lookup a=ag)
 (ajp:s1.heap.BuiltinsAt mg T) (F:∀ base:aJ,K.In base->base.Ns mainGlobals mg->base.BuiltinsAt mg T->pE P w K mg base CX k fa fd [x] sp) (Za:∀ (s:aq) (u:aj),BindsTo s fd #[[u],[]] [(x,u)])
 (yc:∀ (H:Hp) (o:bj),H a=ae (.bP o<|.lst<|ns.map V.int)->H T=ae (.eY #[])->T≠a->(∀ b,b≠a->b≠T->H b=ag)->sp [.ref a] H (λv _=>v=.bl ah) λ_ _ _=>False)
 (ajq:∀ H e s',CX [] H s1 (λ_ _ _=>False) e s'->False) :
 codeAny (model P w) callerA (.call (.ref fa) #[[.ref a],[]]) (λr s'=>r=.ok (.ret<|.bool ah) /\ OldK s1.heap s'.heap /\ s'.os=s1.os /\ AllBare s'.gens) s1:=by
 have ta:T≠a:=λe=>by rw[e,ha]at hT;cases hT
 let u:HO:=.bP { cls:=.type "list",data:=.seq vs.toArray }<|.lst<|ns.map V.int
 let H:=upd (upd (λ_=>ag) a u) T<|.eY #[]
 have HT:H T=ae (.eY #[]):=fF;have Ha:H a=ae u:=(fC<|Ne.symm ta).trans fF;have Hn:∀ b,b≠a->b≠T->H b=ag:=λb n1 n2=>by change upd _ T _ b=ag;rw[fC n2,fC n1]
 have nd:∀ {b}{o}{es}{ep},s1.heap.get? b=ae o->o.data=.dict es ep->H b=ag:=λ{b o es ep} e d=>Hn b (λz=>by rw[z,ha]at e;cases e;cases d) (λz=>by rw[z,hT]at e;cases e;cases d);have up:∀ {b}{o},s1.heap.get? b=ae o->H b=ag->(ur s1.heap H).get? b=ae o:=λe n=>J3 e n;have Qk:∀ {b}{m},s1.heap.Ns b m->(ur s1.heap H).Ns b m:=λ⟨o,es,ep,e,d,r⟩=>#[o,es,ep,up e<|nd e d,d,r];have vV:=λb o e=>up (KX b o e) (Hn b (λz=>by rw[z,ZW]at e;cases e) λz=>by rw[z,ZV]at e;cases e);have aE:cW P w H s1.heap:=λb v e=>by
  by_cases z:b=T
  .subst z;rw[HT]at e;cases e;show hT
  .by_cases y:b=a
   .subst y;rw[Ha]at e;cases e;show#[ha,by rw[aV];show hl,vs,_,Bw hi,ha]
   .rw[Hn b y z]at e;cases e
 have md:Mod K mg (ur s1.heap H):=#[vV,Qk kL,#[mb,Qk hb,ajm],let ⟨mc,h1,h2⟩:=ajn;#[mc,Qk h1,h2]];have e0:IM P w K mg (ur s1.heap H) callerA [] s1 H:=#[rfl,md,λb o e=>NM e,xk<|GT _ _,trivial,λb hb=>absurd (show b∈([]) from hb) zf,aE,.of_eq hg];have bb:(ur s1.heap H).BuiltinsAt mg T:=by
  let#[bm,o,b1,b2,b3,b4,b5,b6,b7]:=ajp;show#[bm,o,b1,b2,b3,b4,up b5<|Hn bm (λz=>by rw[z,ha]at b5;cases b5;show absurd (show Value.type "list"=Value.type "module" from b6) zh) b4,b6,b7]
 refine xf ((F _ vV (Qk kL) bb).run callerA [] s1 H #[[.ref a],[]] [.ref a] [.ref a] _ _ hr e0 (Za s1<|.ref a) (.cons zk .nil)<|yc H _ Ha HT ta Hn) λr s' h=>?_;cases r with
 |error e=>show(ajq H e s' h).elim
 |ok fl=>
   cases fl with
   |ret v=>
     let#[d,H',os,bare,un,aeu,r',q]:=h;cases (q);cases (r');refine#[rfl,#[λb o e=>?_,λb o e=>?_],os,bare]
     .by_cases z:b=T
      .subst z;let#[more,t1]:=un.qP b _ HT;have t2:=aeu b _ t1;rw[hT]at e;cases e;show .inr<|.inl #[ajo,rfl,#[],more,rfl,t2]
      .by_cases y:b=a
       .subst y;have t1:=un.qm b _ _ Ha;have t2:=(aeu b _ t1).1;rw[ha]at e;cases e;show .inl t2
       .show .inl<|un.keep b o e (Hn b y z) (by intro m;show absurd (show b∈([]) from m) zf) zf
     .show un.there b o e zf
   |_=>show False.elim h
end L2
namespace L2.DL
open PySem.W
theorem RK {T:ai}{q:Str}(hS:H a=ae (.bP o<|.lst<|ns.map V.int)) (hT:H T=ae (.eY #[])) (ta:T≠a) (hf:∃ bx',fn [.s ns] [.tb T pos q]=.val (.d<|.bl ah) bx') :
 wq cl 1 fn [.ref a] H (λv _=>v=.bl ah) λ_ _ _=>False:=by
 let#[bx',hf]:=hf;have fo:=λ{b u} e=>by
  by_cases z:b=T
  .have e':(if b=T then ag else H b)=ae u:=e;rw[if_pos z]at e';cases e'
  .have e':=e
   rwa [if_neg z]at e'
 refine#[λb=>if b=T then ag else H b,[T],[.s ns],[.tb T pos q],#[λb u e=>fo e,λi w e=>by simp at e,rfl,by simp,λn c b e1 e2=>?_,λb u e _=>e,λn b h e=>?_,aI _,aI _,λb u e=>.inr<|.inl e],#[.ref a,[],rfl,#[a,o,rfl,(if_neg<|Ne.symm ta).trans hS],rfl],rfl,?_]
 .cases n with
  |succ n=>simp at e1
  |zero=>
    cases e1;cases e2;show#[rfl,(if_pos zk),#[],hT,trivial,λcv e=>by cases e]
 .cases n with
  |zero=>show absurd h zf
  |succ n=>simp at e
 .rw[hf];intro F' r' v H' _ _ d;show d
theorem RL {P fa:ai}(X:K.In h) (G:h.Ns mainGlobals mg) (L:Hz K x P=ah) (hm:mg x=ae (.ref fa)) (F:pX K x x st fa fd):codeHdIn K fd.code P=ah:=by
 unfold Hz at L;split at L
 case h_2=>cases L
 ext f en;have mf:=mg_of X G en;rw[hm]at mf;cases mf;let#[oc,od,kV,doc,pm,an,dz,ct,qJ,rfl,lk,_]:=F.ex;rw[lk]at L;show L
theorem RM {l:PySem.W.OpenLaw}{fa T:ai}{k:Nat}(cl:Nat->ai) (Ql:mg "law"=ae (.ref fa)) (D:Def K mg "law" st ["_law_script"])
 (hB:∀ (fd:FuncData) (f:ai),pX K "law" "law" st f fd->∀ (s:aq) (u:aj),BindsTo s fd #[[u],[]] [("_law_script",u)])
 (H:∀ base:aJ,K.In base->base.Ns mainGlobals mg->base.BuiltinsAt mg T->∃ kk,uK l.prog w K mg base cl kk "law" ["_law_script"] fn /\ kk<=k) :
 ∃ (cl:Nat->ai) (fd:FuncData),(∀ (s:aq) (u:aj),BindsTo s fd #[[u],[]] [("_law_script",u)]) /\ ∀ base:aJ,K.In base->base.Ns mainGlobals mg->base.BuiltinsAt mg T->pE l.prog w K mg base (tQ l.prog w) k fa fd ["_law_script"] (wq cl 1 fn):=by
 let#[f,fd,F,hm,_]:=D;rw[Ql]at hm;cases hm;refine#[cl,fd,hB fd fa F,λbase hK hN hT=>?_];let#[kk,#[f',alo,ok,aev,_,_,o,hl,hd],le]:=H base hK hN hT;rw[Ql]at aev;cases aev;let#[o2,se,hd2]:=F.obj;rw[hl]at se;cases se;rw[hd]at hd2;cases hd2;show ok.mono le
theorem walk_dT {l:OpenLaw}{q:dE}{loose:List Str}{YP:bY->aJ->zw}{d:DefRec}{K:Params->Frag}{k:Nat}{T:ai}{qn:Str}(hk:kI k callerA) (hn:l.most=ae 63) (Yk:d.params.defaults=[])
 (hY:∀ (w:bY) (h:aJ),YP w h->(K w.params).In h) (nl:∀ w:bY,ZT (K w.params)=ah) (hx:((recsOf q).any λd=>decide (d.name=x))=ah) (hL:∀ w:bY,Hz (K w.params) x T=ah) (ZV:∀ w:bY,(K w.params).lookup T=ag) (hf:∀ ns:List Int,ns.length<=63->∃ bx',fn [.s ns] [.tb T pos qn]=.val (.d<|.bl ah) bx')
 (F:∀ (w:bY) (mg:Str->Option aj) (fa:ai) (h:aJ),(K w.params).In h->h.Ns mainGlobals mg->mg d.name=ae (.ref fa) ->
  ∃ (cl:Nat->ai) (fd:FuncData),(∀ (s:aq) (u:aj),BindsTo s fd #[[u],[]] [("_law_script",u)]) /\ ∀ base:aJ,(K w.params).In base->base.Ns mainGlobals mg->base.BuiltinsAt mg T->pE l.prog w (K w.params) mg base (tQ l.prog w) k fa fd ["_law_script"] (wq cl 1 fn)) :
 WalkO q loose XP YP l.row.toRowW d [] (λf vs=>PySem.call f vs):=by
 let#[dT,ajr,en]:=qi.mp hx;cases of_decide_eq_true en;refine sf.agG hn Yk λw s0 s1 mg mb fa o pm cd doc a vs ns G Y ho hd pD hmg IX hints hlen hg=>?_;have KX:=hY w _ Y;let#[cl,fd,hb,hF]:=F w mg fa _ KX G.T.g hmg;let#[ta,to,alp,tc,tP,m1,m2,m3,m4,m5,m6]:=G.T.tab dT ajr;have eT:tP=T:=by
  have yO:=hL w;unfold Hz at yO;split at yO
  case h_2=>cases yO
  ext f en;have mf:=mg_of KX G.T.g en;rw[m1]at mf;cases mf;split at yO
  case h_2=>cases yO
  ext oc od fd2 sl lk;have e3:=KX _ _ lk;rw[m2]at e3;cases e3;cases m3;let#[c,ec,ajs]:=BZ yO;rw[m4]at ec;cases ec;let#[o1,ahH,_,_,_,_,_,_,_,g1,g2,g3,g4,_]:=ajs _ KX;let#[#[o2,ym,q1,q2,q3,q4],_]:=m6;rw[g1]at q1;cases q1;rw[g3]at q3;cases q3;rw[g4]at q4;cases q4;rfl
 subst eT;have ZW:(K w.params).lookup a=ag:=by
  cases e:(K w.params).lookup a with
  |none=>rfl
  |some oo=>
    have e2:=KX _ _ e;rw[IX]at e2;cases e2;show absurd zk<|J1 (nl w) e
 refine J2 KX G.T.g G.T.b G.T.builtins G.T.nolimit hg IX hints (cT hlen zh) hk m6.2 m6.isCodeTable (ZV w) ZW ?_ hF hb (λH o h1 h2 h3 _=>RK h1 h2 h3<|hf ns hlen) λH e s' z=>by
  let#[_,_,_,_,_,_,_,_,_,_,_,_,_,z]:=z;show z
 let#[bm,ob,b1,b2,b3,b4,b5,b6]:=G.T.bmain;refine#[bm,ob,b1,b2,λz=>?_,λz=>?_,b3,b4,b5,b6]
 .let#[og,es,ep,g1,g2,_]:=G.T.g;rw[<-z,b3]at g1;cases g1;rw[b6]at g2;cases g2
 .have t:=m6.2;rw[<-z,b3]at t;cases t;cases b4
end L2.DL
namespace K32
open L2 L2.DL
noncomputable section
def top (i:Nat):cz:=PySem.Challenge.pw_rimehold_k32_whole_elder_first_by_turns.main.body.getD i<|.Pass #[0,0,0,0]
noncomputable def tx:L2.DL.Tx:=#["_law_script",[("COLDEST",3),("MOST_OUTS",4),("MOST_PAGES",16),("LAST_LOT",9)],["all","any","bool","dict","int","isinstance","len","list","max","min","range","set","sorted","tuple","zip"],346]
def i0:FI:=#["_law_pot",["_law_cell"],["_law_cell","_law_number","_law_j","_law_more"],[],[],[],1,top 59,K1.jP]
def i1:FI:=#["_law_take",["_law_pot_here","_law_far"],["_law_pot_here","_law_far","_law_found"],[],[],[],0,top 60,K1.fq]
def i2:FI:=#["_law_kind_of",["_law_pot_here"],["_law_pot_here","_law_top","_law_rates"],[],[],[],0,top 61,K1.ia]
def i3:FI:=#["_law_house",["_law_pot_here"],["_law_pot_here","_law_rooms","_law_kinds","_law_pairs","_law_other"],[],[],[],0,top 62,aT.iV]
def i4:FI:=#["_law_come",["_law_pot_here","_law_house_here"],["_law_pot_here","_law_house_here","_law_found","_law_lot","_law_kind","_law_room"],["_law_found"],[],[],0,top 64,K32.jt]
def i5:FI:=#["_law_cell_at",["_law_script","_law_k"],["_law_script","_law_k"],[],[],[],0,top 58,K1.g9]
def i6:FI:=#["_law_outs",["_law_pot_here","_law_near"],["_law_pot_here","_law_near","_law_found","_law_begin","_law_turn"],["_law_found"],[],[],0,top 63,K2.jo]
def i7:FI:=#["is_tuple",["thing","fewest","most"],["thing","fewest","most"],[],[],[],0,top 11,K1.gj]
def i8:FI:=#["is_whole",["thing"],["thing"],[],[],[],0,top 8,K1.jn]
def i9:FI:=#["is_within",["thing","least","greatest"],["thing","least","greatest"],[],[],[],0,top 9,K1.fZ]
def Qm:FI:=#["are_rooms",["thing"],["thing"],[],[],[],0,top 18,K1.jL]
def Qn:FI:=#["are_rates",["thing"],["thing"],[],[],[],0,top 21,K1.jM]
def i12:FI:=#["is_kind",["thing"],["thing"],[],[],[],0,top 20,K1.mj]
def Qo:FI:=#["are_kinds",["thing"],["thing"],[],[],[],0,top 19,K1.jN]
def Qp:FI:=#["is_rising",["things"],["things"],[],[],[],0,top 12,K1.g6]
def Qq:FI:=#["is_pair_apart",["thing","many"],["thing","many"],[],[],[],0,top 23,K1.iD]
def Qr:FI:=#["are_apart",["thing","many"],["thing","many"],[],[],[],0,top 22,K1.jO]
def Qs:FI:=#["is_house",["thing"],["thing","rooms","kinds","apart","hold"],[],[],[],0,top 17,K1.lj]
def Qt:FI:=#["need_house",["thing"],["thing"],[],[],[],0,top 24,bF.iL]
def Qu:FI:=#["lie_apart",["outs"],["outs"],[],[],[],0,top 27,K2.jQ]
def Qv:FI:=#["is_hour",["thing"],["thing"],[],[],[],0,top 10,K2.iE]
def Qw:FI:=#["is_out",["thing"],["thing"],[],[],[],0,top 26,K2.oj]
def Qx:FI:=#["are_outs",["house","thing"],["house","thing"],[],[],[],0,top 25,aU.lA]
def Qy:FI:=#["need_outs",["house","thing"],["house","thing"],[],[],[],0,top 28,aU.ic]
def Qz:FI:=#["greatest_parts",["house","word"],["house","word","last_kind","last_room"],[],[],[],0,top 35,aT.ib]
def QA:FI:=#["is_page",["house","thing"],["house","thing","greatest"],[],[],[],0,top 36,aT.jS]
def QB:FI:=#["are_pages",["house","thing"],["house","thing"],[],[],[],0,top 37,aT.jT]
def QC:FI:=#["need_pages",["house","thing"],["house","thing"],[],[],[],0,top 38,aT.gH]
def QD:FI:=#["need_lot_of",["house","outs","pages","lot"],["house","outs","pages","lot"],[],[],[],0,top 50,aU.ie]
def QE:FI:=#["need_hour",["thing"],["thing"],[],[],[],0,top 13,aU.ig]
def QF:FI:=#["room_entered",["page"],["page"],[],[],[],0,top 41,aT.fM]
def QG:FI:=#["may_share",["house","kind","other"],["house","kind","other"],[],[],[],0,top 31,aT.iW]
def QH:FI:=#["word_for",["house","kinds","rooms","page"],["house","kinds","rooms","page","deed","lot","room","kind","neighbours"],[],["kinds","rooms"],[],0,top 42,aT.iO]
def QI:FI:=#["read",["house","pages"],["house","pages","told","kinds","rooms","page","lot","word"],["kinds","rooms","told"],["kinds","rooms"],[],0,top 40,aT.Cg]
def QJ:FI:=#["steps_taken",["house","pages"],["house","pages"],[],[],[],0,top 43,bS.gk]
def QK:FI:=#["coming_of",["steps","lot"],["steps","lot","page","left","entered"],[],[],[],0,top 51,aU.gu]
def QL:FI:=#["hours_of_change",["house","outs"],["house","outs","hours","begin","end"],["hours"],[],[],1,top 30,aU.gW]
def QM:FI:=#["rooms_behind",["steps","hour"],["steps","hour","rooms","page","left","entered"],["rooms"],["rooms"],[],0,top 44,bS.gU]
def QN:FI:=#["cold_by_outs",["house","outs","room","hour"],["house","outs","room","hour","cold","begin","end"],[],[],[],0,top 29,K2.iS]
def QO:FI:=#["is_opened",["steps","room","hour"],["steps","room","hour"],[],[],[],0,top 45,aU.iX]
def QP:FI:=#["points_in",["house","outs","steps","coming","hour"],["house","outs","steps","coming","hour","rooms","room","cold"],[],["rooms"],[],0,top 53,aU.iY]
def QQ:FI:=#["stretches",["house","outs","steps","coming"],["house","outs","steps","coming","hours","page","left","entered","begins","ends"],["hours"],[],[],0,top 54,aU.jV]
def QR:FI:=#["ripe_at",["house","outs","steps","coming","hour"],["house","outs","steps","coming","hour","ripe","begin","end","points","until"],[],[],[],0,top 55,aU.gq]
def QS:FI:=#["ripeness",["house","outs","pages","lot","hour"],["house","outs","pages","lot","hour","steps","coming"],[],[],[],0,top 47,aU.gM]
def QT:FI:=#["places",["house","pages","hour"],["house","pages","hour","rooms"],[],[],[],0,top 39,nQ.jc]
def QU:FI:=#["_law_ripest",["_law_house_here","_law_outs_here","_law_pages","_law_kinds","_law_hour","_law_kind"],["_law_house_here","_law_outs_here","_law_pages","_law_kinds","_law_hour","_law_kind","_law_there","_law_ripe"],[],["_law_kinds"],[],0,top 65,K32.gJ]
def QV:FI:=#["elder_of",["house","outs","steps","waiting","leaving","hour"],["house","outs","steps","waiting","leaving","hour","ripe","elder","most","coming","other"],[],[],[],64,top 56,K32.iP]
def QW:FI:=#["turns",["house","outs","pages"],["house","outs","pages","steps","told","waiting","page","left","entered","leaving","elder"],["told","waiting"],["waiting"],[],0,top 48,K32.jE]
def QX:FI:=#["limit_of",["house","coming"],["house","coming"],[],[],[],0,top 52,aU.gZ]
def QY:FI:=#["spoilt",["house","outs","pages"],["house","outs","pages","steps","lots","page","left","entered","coming"],["lots"],[],[],0,top 49,K32.oG]
def QZ:FI:=#["_law_turns_right",["_law_house_here","_law_outs_here","_law_pages","_law_kinds"],["_law_house_here","_law_outs_here","_law_pages","_law_kinds","_law_told","_law_bad","_law_page","_law_hour","_law_word","_law_lot","_law_own","_law_some"],["_law_bad"],["_law_kinds"],[("_law_told",3),("turns",3)],0,top 66,K32.gh]
def yP:FI:=#["law",["_law_script"],["_law_script","_law_k","_law_pot_here","_law_whole","_law_house_here","_law_outs_here","_law_pages","_law_kinds","_law_hour","_law_turn","_law_some","_law_left","_law_other"],[],["_law_kinds"],[],0,top 67,K32.Cw]
noncomputable def r0:List FI:=[]
def r1:List FI:=i0::r0
def r2:List FI:=i1::r1
def r3:List FI:=i2::r2
def r4:List FI:=i3::r3
def r5:List FI:=i4::r4
def r6:List FI:=i5::r5
def r7:List FI:=i6::r6
def r8:List FI:=i7::r7
def r9:List FI:=i8::r8
def Ks:List FI:=i9::r9
def aew:List FI:=Qm::Ks
def aex:List FI:=Qn::aew
def aey:List FI:=i12::aex
def aez:List FI:=Qo::aey
def aeA:List FI:=Qp::aez
def aeB:List FI:=Qq::aeA
def aeC:List FI:=Qr::aeB
def aeD:List FI:=Qs::aeC
def aeE:List FI:=Qt::aeD
def aeF:List FI:=Qu::aeE
def aeG:List FI:=Qv::aeF
def aeH:List FI:=Qw::aeG
def aeI:List FI:=Qx::aeH
def aeJ:List FI:=Qy::aeI
def aeK:List FI:=Qz::aeJ
def aeL:List FI:=QA::aeK
def aeM:List FI:=QB::aeL
def aeN:List FI:=QC::aeM
def aeO:List FI:=QD::aeN
def aeP:List FI:=QE::aeO
def aeQ:List FI:=QF::aeP
def aeR:List FI:=QG::aeQ
def aeS:List FI:=QH::aeR
def aeT:List FI:=QI::aeS
def aeU:List FI:=QJ::aeT
def aeV:List FI:=QK::aeU
def aeW:List FI:=QL::aeV
def aeX:List FI:=QM::aeW
def aeY:List FI:=QN::aeX
def aeZ:List FI:=QO::aeY
def ae0:List FI:=QP::aeZ
def ae1:List FI:=QQ::ae0
def ae2:List FI:=QR::ae1
def ae3:List FI:=QS::ae2
def ae4:List FI:=QT::ae3
def ae5:List FI:=QU::ae4
def ae6:List FI:=QV::ae5
def ae7:List FI:=QW::ae6
def ae8:List FI:=QX::ae7
def ae9:List FI:=QY::ae8
def afa:List FI:=QZ::ae9
def HC:List FI:=yP::afa
theorem q0:i0.Is tx r0:=(by kernel_rfl:i0.fn=i0.body tx _)
theorem q1:i1.Is tx r1:=(by kernel_rfl:i1.fn=i1.body tx _)
theorem q2:i2.Is tx r2:=(by kernel_rfl:i2.fn=i2.body tx _)
theorem q3:i3.Is tx r3:=(by kernel_rfl:i3.fn=i3.body tx _)
theorem q4:i4.Is tx r4:=(by kernel_rfl:i4.fn=i4.body tx _)
theorem q5:i5.Is tx r5:=(by kernel_rfl:i5.fn=i5.body tx _)
theorem q6:i6.Is tx r6:=(by kernel_rfl:i6.fn=i6.body tx _)
theorem q7:i7.Is tx r7:=(by kernel_rfl:i7.fn=i7.body tx _)
theorem q8:i8.Is tx r8:=(by kernel_rfl:i8.fn=i8.body tx _)
theorem q9:i9.Is tx r9:=(by kernel_rfl:i9.fn=i9.body tx _)
theorem ajt:Qm.Is tx Ks:=(by kernel_rfl:Qm.fn=Qm.body tx _)
theorem aju:Qn.Is tx aew:=(by kernel_rfl:Qn.fn=Qn.body tx _)
theorem ajv:i12.Is tx aex:=(by kernel_rfl:i12.fn=i12.body tx _)
theorem ajw:Qo.Is tx aey:=(by kernel_rfl:Qo.fn=Qo.body tx _)
theorem ajx:Qp.Is tx aez:=(by kernel_rfl:Qp.fn=Qp.body tx _)
theorem ajy:Qq.Is tx aeA:=(by kernel_rfl:Qq.fn=Qq.body tx _)
theorem ajz:Qr.Is tx aeB:=(by kernel_rfl:Qr.fn=Qr.body tx _)
theorem ajA:Qs.Is tx aeC:=(by kernel_rfl:Qs.fn=Qs.body tx _)
theorem ajB:Qt.Is tx aeD:=(by kernel_rfl:Qt.fn=Qt.body tx _)
theorem ajC:Qu.Is tx aeE:=(by kernel_rfl:Qu.fn=Qu.body tx _)
theorem ajD:Qv.Is tx aeF:=(by kernel_rfl:Qv.fn=Qv.body tx _)
theorem ajE:Qw.Is tx aeG:=(by kernel_rfl:Qw.fn=Qw.body tx _)
theorem ajF:Qx.Is tx aeH:=(by kernel_rfl:Qx.fn=Qx.body tx _)
theorem ajG:Qy.Is tx aeI:=(by kernel_rfl:Qy.fn=Qy.body tx _)
theorem ajH:Qz.Is tx aeJ:=(by kernel_rfl:Qz.fn=Qz.body tx _)
theorem ajI:QA.Is tx aeK:=(by kernel_rfl:QA.fn=QA.body tx _)
theorem ajJ:QB.Is tx aeL:=(by kernel_rfl:QB.fn=QB.body tx _)
theorem ajK:QC.Is tx aeM:=(by kernel_rfl:QC.fn=QC.body tx _)
theorem ajL:QD.Is tx aeN:=(by kernel_rfl:QD.fn=QD.body tx _)
theorem ajM:QE.Is tx aeO:=(by kernel_rfl:QE.fn=QE.body tx _)
theorem ajN:QF.Is tx aeP:=(by kernel_rfl:QF.fn=QF.body tx _)
theorem ajO:QG.Is tx aeQ:=(by kernel_rfl:QG.fn=QG.body tx _)
theorem ajP:QH.Is tx aeR:=(by kernel_rfl:QH.fn=QH.body tx _)
theorem ajQ:QI.Is tx aeS:=(by kernel_rfl:QI.fn=QI.body tx _)
theorem ajR:QJ.Is tx aeT:=(by kernel_rfl:QJ.fn=QJ.body tx _)
theorem ajS:QK.Is tx aeU:=(by kernel_rfl:QK.fn=QK.body tx _)
theorem ajT:QL.Is tx aeV:=(by kernel_rfl:QL.fn=QL.body tx _)
theorem ajU:QM.Is tx aeW:=(by kernel_rfl:QM.fn=QM.body tx _)
theorem ajV:QN.Is tx aeX:=(by kernel_rfl:QN.fn=QN.body tx _)
theorem ajW:QO.Is tx aeY:=(by kernel_rfl:QO.fn=QO.body tx _)
theorem ajX:QP.Is tx aeZ:=(by kernel_rfl:QP.fn=QP.body tx _)
theorem ajY:QQ.Is tx ae0:=(by kernel_rfl:QQ.fn=QQ.body tx _)
theorem ajZ:QR.Is tx ae1:=(by kernel_rfl:QR.fn=QR.body tx _)
theorem aj0:QS.Is tx ae2:=(by kernel_rfl:QS.fn=QS.body tx _)
theorem aj1:QT.Is tx ae3:=(by kernel_rfl:QT.fn=QT.body tx _)
theorem aj2:QU.Is tx ae4:=(by kernel_rfl:QU.fn=QU.body tx _)
theorem aj3:QV.Is tx ae5:=(by kernel_rfl:QV.fn=QV.body tx _)
theorem aj4:QW.Is tx ae6:=(by kernel_rfl:QW.fn=QW.body tx _)
theorem aj5:QX.Is tx ae7:=(by kernel_rfl:QX.fn=QX.body tx _)
theorem aj6:QY.Is tx ae8:=(by kernel_rfl:QY.fn=QY.body tx _)
theorem aj7:QZ.Is tx ae9:=(by kernel_rfl:QZ.fn=QZ.body tx _)
theorem aj8:yP.Is tx afa:=(by kernel_rfl:yP.fn=yP.body tx _)
theorem Vg:ZR tx HC:=#[aj8,#[aj7,#[aj6,#[aj5,#[aj4,#[aj3,#[aj2,#[aj1,#[aj0,#[ajZ,#[ajY,#[ajX,#[ajW,#[ajV,#[ajU,#[ajT,#[ajS,#[ajR,#[ajQ,#[ajP,#[ajO,#[ajN,#[ajM,#[ajL,#[ajK,#[ajJ,#[ajI,#[ajH,#[ajG,#[ajF,#[ajE,#[ajD,#[ajC,#[ajB,#[ajA,#[ajz,#[ajy,#[ajx,#[ajw,#[ajv,#[aju,#[ajt,#[q9,#[q8,#[q7,#[q6,#[q5,#[q4,#[q3,#[q2,#[q1,#[q0,trivial]]]]]]]]]]]]]]]]]]]]]]]]]]]]]]]]]]]]]]]]]]]]]]]]]]]]
theorem Vh:Qg HC=ah:=by kernel_rfl
end
open PySem.W
theorem Vi {l:PySem.W.OpenLaw}{fa:ai}(X:K.In h) (G:h.Ns mainGlobals mg) (Ql:mg "law"=ae (.ref fa))
 (z0:Qi K tx.bl=ah) (g0:Qj K tx.gl=ah) (y1:Qh K=ah)
 (d0:bD K "_law_pot"<|top 59)
 (d1:bD K "_law_take"<|top 60)
 (d2:bD K "_law_kind_of"<|top 61)
 (d3:bD K "_law_house"<|top 62)
 (d4:bD K "_law_come"<|top 64)
 (d5:bD K "_law_cell_at"<|top 58)
 (d6:bD K "_law_outs"<|top 63)
 (d7:bD K "is_tuple"<|top 11)
 (d8:bD K "is_whole"<|top 8)
 (d9:bD K "is_within"<|top 9)
 (aj9:bD K "are_rooms"<|top 18)
 (aka:bD K "are_rates"<|top 21)
 (akb:bD K "is_kind"<|top 20)
 (akc:bD K "are_kinds"<|top 19)
 (akd:bD K "is_rising"<|top 12)
 (ake:bD K "is_pair_apart"<|top 23)
 (akf:bD K "are_apart"<|top 22)
 (akg:bD K "is_house"<|top 17)
 (akh:bD K "need_house"<|top 24)
 (aki:bD K "lie_apart"<|top 27)
 (akj:bD K "is_hour"<|top 10)
 (akk:bD K "is_out"<|top 26)
 (akl:bD K "are_outs"<|top 25)
 (akm:bD K "need_outs"<|top 28)
 (akn:bD K "greatest_parts"<|top 35)
 (ako:bD K "is_page"<|top 36)
 (akp:bD K "are_pages"<|top 37)
 (akq:bD K "need_pages"<|top 38)
 (akr:bD K "need_lot_of"<|top 50)
 (aks:bD K "need_hour"<|top 13)
 (akt:bD K "room_entered"<|top 41)
 (aku:bD K "may_share"<|top 31)
 (akv:bD K "word_for"<|top 42)
 (akw:bD K "read"<|top 40)
 (akx:bD K "steps_taken"<|top 43)
 (aky:bD K "coming_of"<|top 51)
 (akz:bD K "hours_of_change"<|top 30)
 (akA:bD K "rooms_behind"<|top 44)
 (akB:bD K "cold_by_outs"<|top 29)
 (akC:bD K "is_opened"<|top 45)
 (akD:bD K "points_in"<|top 53)
 (akE:bD K "stretches"<|top 54)
 (akF:bD K "ripe_at"<|top 55)
 (akG:bD K "ripeness"<|top 47)
 (akH:bD K "places"<|top 39)
 (akI:bD K "_law_ripest"<|top 65)
 (akJ:bD K "elder_of"<|top 56)
 (akK:bD K "turns"<|top 48)
 (akL:bD K "limit_of"<|top 52)
 (akM:bD K "spoilt"<|top 49)
 (akN:bD K "_law_turns_right"<|top 66)
 (akO:bD K "law"<|top 67)
 (lm:Hz K "elder_of" 346=ah) :
 ∃ (cl:Nat->ai) (fd:FuncData),(∀ (s:aq) (u:aj),BindsTo s fd #[[u],[]] [("_law_script",u)]) /\ ∀ base:aJ,K.In base->base.Ns mainGlobals mg->base.BuiltinsAt mg 346->pE l.prog w K mg base (tQ l.prog w) 52 fa fd ["_law_script"] (wq cl 1 K32.Cw):=by
 have DF:=aet X G (l:=HC) #[akO,akN,akM,akL,akK,akJ,akI,akH,akG,akF,akE,akD,akC,akB,akA,akz,aky,akx,akw,akv,aku,akt,aks,akr,akq,akp,ako,akn,akm,akl,akk,akj,aki,akh,akg,akf,ake,akd,akc,akb,aka,aj9,d9,d8,d7,d6,d5,d4,d3,d2,d1,d0,trivial] (by kernel_rfl);refine RM (λ_=>0) Ql (DF yP<|bw ..) (λfd f F s u=>?_) λbase _ _ hT=>?_
 .let#[#[oc,od,kV,doc,pm,an,dz,ct,qJ,rfl,_,_],_]:=F;show .of_eq zk
 .refine RJ (WJ X G z0 g0 y1) HC Vg Vh DF (λf m hb=>#[#[hT,by decide],λfa fd hm F=>?_]) yP<|bw ..;have ex:f.x="elder_of":=by
   have:=cU.mp (show (HC.all λf=>!f.b 64||decide (f.x="elder_of"))=ah by kernel_rfl) f m;rw[hb]at this;show of_decide_eq_true this
  rw[<-ex]at lm;show RL X G lm hm F
end K32
end
structure PySem.W.Fast:Prop where(tw18148782903171111412 tw7702003447546089072 tw11998724855698677525 tw3977709122270628342 tw2434595837945236762 tw11037669667784015225 tw13255454600442850383 tw1489004910241108158 tw3653912208582504913 tw5688427114959253272 tw14150673379994171342 tw8933609696382915284 tw13827225747574066117 tw16322878725079258931 tw4211620588178545646 tw8419208484202507040 tw4596322183353235439 tw15568001893717031429 tw5179765610420896163 tw973193145806097781 tw9919394588416184828 tw7438612668831511108 tw17856542989204241593 tw8077933480037869180 tw14727197592255419034 tw13069944498526412004 tw2508736386660186327 tw17419299376783057889 tw5583914200494770038 tw7455778924260212455 tw12749479778356141537 tw9550262387619075461 tw3926831252724250249 tw16399766415802863944 tw11481088352443524725 tw5945172934633212677 tw17526458040764551046 tw10183487375326035196 tw13848973870269145757 tw8408207298623842099 tw1480684796045194489 tw12099691877942337184 tw9972675455771576473 tw14396375240024153710 tw6464489009022018738 tw8328887184131041043 tw13683447899423639577 tw5628090569871211818 tw745613087413323357 tw1391393102421457092 tw2888095138924115461 tw6031395087387634420 tw4284476335053497233 tw3671038620164392418 tw7835430432008897940 tw9803521631742839690 tw14032933039506104428 tw15937424352934045911 tw86399692027027406 tw6829626675016686978 tw10092398836818926233 tw12863488657144695014 tw13809242881468026260 tw4376778892056376015 tw9034872011459293070 tw8721037292368795516 tw3599739597526360501 tw3439617627233636899 tw13562205893279546638 tw5126770667404044564 tw4133995440976884599 tw2811765577500800576 tw15831614600978463417 tw18168395319714615392 tw4550115524523007491 tw14812813877993753264 tw13096948243331691313 tw4530285203007610229 tw12333896773021243315 tw6209789554388956547 tw8692521694829091178 tw4247290695313723237 tw5404074027667132459 tw3155122197856874887 tw15209470254672242862 tw17057338965008664985 tw14520837312383105837 tw12658040832808038372 tw6660146979487159043 tw9794808152903975511 tw6639983324664696157 tw18009027905012724527 tw17370754971959295859 tw584242117197585480 tw15762425016828601418 tw2122515646537491196 tw12234319303578537971 tw10744630033156149767 tw17142067639946823321 tw8607488465484086703 tw15812764430324854485 tw16769950731116931519 tw6329755999298095440 tw17117150861148957172 tw2018788096112661926 tw11515224327926265933 tw2239215996187408236 tw2338634563080060887 tw18399110166360259521 tw8881234899544418693 tw5626900493215992069 tw771313080956655580 tw2982667029518250120 tw9138551605215244168 tw6194267548651589273 tw10884917556585375709 tw11709238563794344960 tw7510820224332717499 tw17793550833584723065 tw15141034439292637643 tw3992646393389162228 tw2454410697864884445 tw5086021933162097134 tw6972751395784036068 tw7573046694821460133 tw11254885247336130031 tw13373838275254640969 tw15262517218713965055 tw7630594594655477527 tw5072714391177378099 tw1670181411786710395 tw15223746464648539301 tw12252383691776155163 tw11396205637414741117 tw6035640572621027244 tw17224177608272931437 tw7118060588509750596 tw585187971034853076 tw18413855818270857606 tw4436329880058295488 tw16745567205487657688 tw11477398223681088174 tw3144245643347539550 tw16215726699069133333 tw4397435910437956318 tw18020594120367777664 tw12818473811796383347 tw13764611966980642028 tw13106629066522912947 tw16401705856728076332 tw16132583091475165358 tw7768650440414903522 tw14199640390469855633 tw11763488094000961907 tw3851296069902059521 tw7465948259687521486 tw58088302024273025 tw14495320624435607025 tw1084173067936804709 tw6420094070688648885 tw11712839140028344329 tw17655656534520241708 tw4906237618010843587 tw272419176776217504 tw18222994307015799205 tw10569588604139699654 tw181632966443710246 tw17849726496595877721 tw856841660726904937 tw21304734778062652 tw16405581014109013207 tw12961575863169536378 tw10679876916009861080 tw8546942237814086757 tw14245510173929181306 tw13515637249379261873 tw6361206441186376718 tw3900732400498070389 tw1668220322728744007 tw4406564895567247872 tw2771967838301951571 tw5887269122579218597 tw10358298836897046634 tw15485252231560299792 tw9215610333299041063 tw10802200477565635635 tw16498681821960556100 tw9366229838473713605 tw17132524344957808986 tw16192597274116064270 tw7819941083910184308 tw10226318501249110768 tw14009324433748141283 tw1316388383416979075 tw2707791398287650511 tw4840636974920868638 tw16945043415467229345 tw1530479222799436980 tw16368868508116212132 tw6243207082794735887 tw4476972668235422156 tw15690638934741872141 tw14733026261001267876 tw8390100276608645909 tw727673120598826095 tw2279935234290476889 tw942544235298995758 tw12748183391097802160 tw838332599464482773 tw2667244288843374592 tw14286373235037493330 tw14138824254237692681 tw6010847374532925424 tw14742909205981865291 tw98301466763622506 tw7088708078271189229 tw8794854235272076202 tw14547980441549806919 tw15111453139998794777 tw386979581518118967 tw12567520483696864447 tw655482738825600628 tw12054879956764881023 tw2158455157571512758 tw920863256427774311 tw2018004414104579290 tw13678085384581967207 tw5963108660034555383 tw3447307275732643896 tw8614555201480191904 tw645451374399898700 tw5170354858767263037 tw3573350149290048544 tw832775499914213317 tw642715991756665372 tw11358521289189298471 tw10046553371002448355 tw8577645468764596381 tw16133923116828494059 tw3138668672286965000 tw17189792276206730816 tw2116568607504924529 tw12962668490743672546 tw2188406117645413930 tw1232062670362204812 tw9082005331048755313 tw10156447510996246658 tw14335870140698037789 tw14448469894809603928 tw2298139146314694363 tw4726960402617708438 tw5079167185338993733 tw16169337301972910640 tw13532790974846771503 tw16333342893530580080 tw8146353291137166778 tw7362909610194973919 tw5530990427794509215 tw13287932986584693358 tw1185406887062039501 tw5384035132154299257 tw6970841099780176438 tw14018363277976036379 tw1119172281631893014 tw16272253212307548772 tw14053716297991124021 tw9856458404033014242 tw12211268418112193982 tw18000474607506885316 tw1345549341852156150 tw18190100267953226981 tw15168598461251168612 tw10843222177269633290 tw13227013607017889571 tw14076131024870743536 tw6619538394846330578 tw17741384156006810232:True)
open_top hdk32 for PySem.Challenge.rw_rimehold_k32_whole_elder_first_by_turns

set_option maxRecDepth 100000 in
set_option maxHeartbeats 0 in
theorem PySem.Challenge.cw_rimehold_k32_whole_elder_first_by_turns_holds : PySem.Challenge.rw_rimehold_k32_whole_elder_first_by_turns.Holds :=
 hdk32 (by
 k_fill
 refine L2.DL.walk_dT (l:=PySem.Challenge.rw_rimehold_k32_whole_elder_first_by_turns) (k:=52) (fn:=K32.Cw) (T:=346) (x:="elder_of") ⟨rfl,by decide,by decide,rfl⟩ rfl rfl (λw h Y=>PySem.W.km_in_of Y) ?kq_nl ?kq_x ?kq_L ?kq_K (λns h=>K32.law_true ns (by lia)) ?kq_F
 case kq_nl =>
  intro w;kernel_rfl
 case kq_x=>kernel_rfl
 case kq_L =>
  intro w;kernel_rfl
 case kq_K =>
  intro w;kernel_rfl
 case kq_F =>
  intro w mg fa h KX G hmg
  refine' K32.Vi KX G hmg ?kq_z0 ?kq_g0 ?kq_y1 ?_ ?_ ?_ ?_ ?_ ?_ ?_ ?_ ?_ ?_ ?_ ?_ ?_ ?_ ?_ ?_ ?_ ?_ ?_ ?_ ?_ ?_ ?_ ?_ ?_ ?_ ?_ ?_ ?_ ?_ ?_ ?_ ?_ ?_ ?_ ?_ ?_ ?_ ?_ ?_ ?_ ?_ ?_ ?_ ?_ ?_ ?_ ?_ ?_ ?_ ?_ ?_ ?kq_lm
  (case kq_z0=>kernel_rfl)
  (case kq_g0=>kernel_rfl)
  (case kq_y1=>kernel_rfl)
  (case kq_lm=>kernel_rfl)
  any_goals exact L2.DL.dIn_mk (by k_is) (by k_is) (by k_is) (by k_is)
 )
